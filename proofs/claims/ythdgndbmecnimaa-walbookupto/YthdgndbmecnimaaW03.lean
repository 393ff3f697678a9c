import Derived.Test.YthdgndbmecnimaaW02
section
namespace Go.Proofs.Ythdgndbmecnimaa
open Go.RowKit Go.Maps

def DS.flush (S : DS) (s : Nat) : DS := { S with im := imOf s S.now, puts := [], flushes := wrap64 (S.flushes + 1) }

theorem flush_dead {w : World} {F : Nat → Prop} {p s : Nat} {S : DS} (h : DiskAt w F p s S) (hf : S.fuse = 0) :
    Calls Try.prog 39 #[.pointer (some ⟨p, 0, none⟩)] w fun e w' => e = .returned (.int .i64 3) ∧ w' = w := by
  have hb := burnt_at h
  rw [hf] at hb
  go_enter Try.func39, Try.ntmps39
  go_wp2_with (go_at_call 58; refine hb.mono ?_; rintro e w' ⟨rfl, rfl⟩)
  go_ret
  exact ⟨rfl, rfl⟩

/-- One sector is written home. -/
theorem flush_step {w : World} {F : Nat → Prop} {p s : Nat} {S : DS} {gi ci m : Nat} {D : DataW Value} {gr cr : Nat → Nat} (h : DiskRaw w F p s S gi ci m D gr cr) {k : Nat} (hp : pendOf S.puts k ≠ []) :
    k < s ∧ ∃ g cg, w.cell? ⟨gr k, (pendOf S.puts k).length - 1, none⟩ = some (.slice (some ⟨g, 0, none⟩) 512 cg) ∧
      ∃ w2, (Builtin.copy_ #[27, 27] 3 #[.slice (some ⟨gi, k * 512, none⟩) 512 512, .slice (some ⟨g, 0, none⟩) 512 cg]).run Try.prog w = .ok (goInt 512) w2 ∧
        DiskRaw w2 F p s { S with im := splice S.im (k * 512) (S.now k) } gi ci m D gr cr ∧ Keeps (fun b => b = gi) w w2 ∧ w2.heap.size = w.heap.size := by
  have hks : k < s := by
    obtain ⟨l, hl⟩ := List.exists_mem_of_ne_nil _ hp
    unfold pendOf at hl
    obtain ⟨q, hq, _⟩ := List.mem_map.1 hl
    obtain ⟨hq1, hq2⟩ := List.mem_filter.1 hq
    have := (h.ok.puts q hq1).1
    simp at hq2
    omega
  have hn : 0 < (pendOf S.puts k).length := List.length_pos_iff.2 hp
  obtain ⟨_, xs, hrow, hrows⟩ := h.pend.row k hp
  obtain ⟨g, cg, hx, hF, hne, hr⟩ := hrows.get ((pendOf S.puts k).length - 1) (by omega)
  have hl := pend_len h.ok (k := k) (j := (pendOf S.puts k).length - 1) (by omega)
  have hnow : S.now k = (pendOf S.puts k)[(pendOf S.puts k).length - 1] := by
    simp [DS.now, DS.cand, List.getD, show ¬ (pendOf S.puts k).length = 0 by omega, List.getElem?_eq_getElem (show (pendOf S.puts k).length - 1 < (pendOf S.puts k).length by omega)]
  have hsrc := hr.src
  rw [hl] at hsrc
  have hlen := h.ok.len
  obtain ⟨w2, hrun, hr2, hk2, hsz⟩ := h.img.copied 3 (some ⟨gi, k * 512, none⟩) (k * 512) 512 512 (some ⟨g, 0, none⟩) 512 cg _ hsrc (fun _ => rfl) (by omega)
  rw [List.take_of_length_le (by omega), ← hnow] at hr2
  exact ⟨hks, g, cg, hrow.cell hx, w2, hrun, h.imaged hr2 (by rw [splice_len _ _ _ (by rw [hnow]; omega)]; exact hlen) hk2, hk2, hsz⟩

theorem now_im (S : DS) (im : List Int) (k : Nat) (hp : pendOf S.puts k ≠ []) : DS.now { S with im := im } k = S.now k := by
  have hn : 0 < (pendOf S.puts k).length := List.length_pos_iff.2 hp
  simp [DS.now, DS.cand, show ¬ (pendOf S.puts k).length = 0 by omega]

theorem now_none (S : DS) (k : Nat) (hp : pendOf S.puts k = []) : S.now k = dsec S.im k := by simp [DS.now, DS.cand, hp]

theorem now_len {S : DS} {s : Nat} (h : S.Ok s) : ∀ k, k < s → (S.now k).length = 512 := fun _ hk => DS.cand_len h hk (Nat.le_refl _)

theorem flush_end {w wr w3 : World} {F : Nat → Prop} {p s : Nat} {S : DS} {gi ci m : Nat} {D : DataW Value} {gr cr : Nat → Nat} {im : List Int} (h : DiskRaw w F p s S gi ci m D gr cr) (hd : DiskRaw wr F p s { S with im := im } gi ci m D gr cr)
    (hl : ∀ k, k < s → dsec im k = S.now k) (hk : Keeps F w wr) (hm3 : w3.ownsMap Try.prog 3 Rs m 0 (.map [])) (hk3 : Keeps (fun k => k = m) wr w3) :
    w3.cell? ⟨p, 6, none⟩ = some (.int .i64 S.flushes) ∧ w3.frozen? ⟨p, 6, none⟩ = false ∧
    Calls Try.prog 60 #[.pointer (some ⟨p, 0, none⟩)] (w3.setCell ⟨p, 6, none⟩ (.int .i64 (wrap64 (S.flushes + 1)))) fun e w' => e = .returned (.tuple #[]) ∧ DiskAt w' F p s ((S.flush s).spend) ∧ Keeps F w w' := by
  have e : im = imOf s S.now := im_ext s hd.ok.len (imOf_len s _ (now_len h.ok)) (fun k hk => by
    rw [hl k hk, sec_imOf s _ (now_len h.ok) k hk])
  subst e
  have hd3 := hd.cleared hm3 hk3
  have hd4 := hd3.flushed
  have hk4 : Keeps F w (w3.setCell ⟨p, 6, none⟩ (.int .i64 (wrap64 (S.flushes + 1)))) := (hk.trans hk3 (fun j hj => .inl (hj ▸ h.fm))).trans (Keeps.setCell (F := fun k => k = p) w3 (p := ⟨p, 6, none⟩) rfl _) (fun j hj => .inl (hj ▸ h.fp))
  refine ⟨cell_of_block hd3.blk (j := 6) rfl, frozen_of_block hd3.blk 6, (spend_low p S.fuse _ (cell_of_block hd4.blk (j := 2) rfl) (frozen_of_block hd4.blk 2) hd4.ok.fuse.1).mono ?_⟩
  rintro e w' ⟨rfl, rfl⟩
  have h5 := hd4.spends
  exact ⟨rfl, ⟨gi, ci, m, _, gr, cr, h5.1⟩, hk4.trans h5.2 (fun j hj => .inl hj)⟩

set_option maxHeartbeats 4000000 in
set_option maxRecDepth 100000 in
theorem flush_ok {w : World} {F : Nat → Prop} {p s : Nat} {S : DS} (hd : DiskAt w F p s S) (hf : S.fuse ≠ 0) (hbig : S.puts.length + 1 ≤ 5000000000000) :
    Calls Try.prog 39 #[.pointer (some ⟨p, 0, none⟩)] w fun e w' => e = .returned (.int .i64 0) ∧ DiskAt w' F p s ((S.flush s).spend) ∧ Keeps F w w' := by
  have hb := burnt_at hd
  rw [show (S.fuse == 0) = false by simp [hf]] at hb
  obtain ⟨gi, ci, m, D, gr, cr, h⟩ := hd
  have c1 := cell_of_block h.blk (j := 1) rfl
  have H := Hid.mk h
  clear h
  go_enter Try.func39, Try.ntmps39
  go_wp2_with (first | (go_at_call 58; refine hb.mono ?_; rintro e w' ⟨rfl, hw⟩; have hw' := hw.symm; subst hw') | (at_range; refine wpList_range_own _ rfl _ 80 rfl 3 22 keyInt Try.underlying80 Rs m S.puts.length D rfl H.out.map ?_; intro w0 hrg0 hg0 hs0; go_frame))
  have hk0 : Keeps F w w0 := ⟨hg0.os, hg0.tape, hg0.output, hg0.size, fun k hk _ => hg0.block k hk (by simp)⟩
  have hd0 : DiskRaw w0 F p s { S with im := S.im } gi ci m D gr cr := H.out.agree hg0.size (fun k hk => hg0.block k (H.out.lt k hk) (by simp))
  have hl0 : ∀ k, k < s → dsec S.im k = if has D (kk k) then dsec S.im k else S.now k := fun k _ => by
    by_cases hp : pendOf S.puts k = []
    · rw [H.out.pend.nope k hp]; simp [now_none S k hp]
    · rw [H.out.pend.has hp]; simp
  clear hg0 hs0 c1 hb
  go_loopw [3, 4] (fun _ _ wr => ∃ (left : Lit → Bool) (cnt : Nat) (im : List Int), wr.ranges Try.prog 3 Rs m w.heap.size S.puts.length D left cnt ∧ DiskRaw wr F p s { S with im := im } gi ci m D gr cr ∧
      (∀ k, k < s → dsec im k = if left (kk k) then dsec S.im k else S.now k) ∧ Keeps F w wr)
    (fun _ _ wr => wr.rangeLeft m w.heap.size)
  case atStart => exact ⟨_, _, S.im, hrg0, hd0, hl0, hk0⟩
  case round =>
    clear hrg0 hd0 hl0 hk0
    obtain ⟨left, cnt, im, hrg, hd, hl, hk⟩ := hrel
    have Hd := Hid.mk hd
    have Hl := Hid.mk hl
    clear hd hl
    go_wp2_with (at_next; refine wpList_next_ranges _ rfl _ rfl 3 keyInt Rs (Value.int .i64) mkS (fun key kl hkey => by obtain ⟨x, rfl, _⟩ := Maps.keyOf_int_inv Try.underlying3 hkey; exact ⟨x, rfl⟩) Rs_inv m w.heap.size S.puts.length _ _ _ rfl hrg ?_ ?_)
    · intro _ hl0
      obtain ⟨w3, hrun3, hm3, hk3, _⟩ := clear_run Hd.out.map
      have c1 := cell_of_block Hd.out.blk (j := 1) rfl
      obtain ⟨c6, f6, hs2⟩ := flush_end H.out Hd.out (fun k hk => by rw [Hl.out k hk, hl0]; simp) hk hm3 hk3
      clear hk3 hm3 Hd Hl H hk hrg hl0
      go_wp2_with (go_at_call 60; refine hs2.mono ?_; rintro e w5 ⟨rfl, hd5, hk5⟩)
      go_ret
      exact ⟨rfl, hd5, hk5⟩
    · intro x ca cn cc kl yd yp w2 cnt2 hkey hlk hv hat hrg2 hlt hg2 hs2 hen
      obtain ⟨k, rfl, rfl, hp0, hc⟩ := Hd.out.pend.met hkey hv hat
      have hp : pendOf S.puts k ≠ [] := hp0
      obtain ⟨n', hn'⟩ : ∃ n', (pendOf S.puts k).length = n' + 1 := ⟨(pendOf S.puts k).length - 1, by have := List.length_pos_iff.2 hp; omega⟩
      have hnot : ∀ j, F j → j ≠ w.heap.size := fun j hj e => by have := H.out.lt j hj; omega
      have hd2 : DiskRaw w2.drew F p s { S with im := im } gi ci m D gr cr := Hd.out.agree hg2.size (fun j hj => hg2.block j (Hd.out.lt j hj) (by simpa using hnot j hj))
      obtain ⟨hks, g, cg, hcell, w3, hrun, hd3, hk3, hsz3⟩ := flush_step hd2 hp
      have hs := hd2.ok.hi
      have hlim := hd2.img.le
      have hdu := durable_low p gi (s * 512) ci s k k w2.drew (cell_of_block hd2.blk (j := 0) rfl) rfl hks rfl hs (by simp [bs, hd2.ok.len] at hlim; omega)
      obtain ⟨rfl, rfl, rfl⟩ : ca = _ ∧ cn = _ ∧ cc = _ := by simpa using hc
      simp only [hn'] at hen hcell
      have hcell' : w2.cell? ⟨gr k, n', none⟩ = some (.slice (some ⟨g, 0, none⟩) 512 cg) := by simpa using hcell
      have hn2 : n' + 1 ≤ S.puts.length := by rw [← hn']; exact pendOf_len S.puts k
      have hrow2 := (hd2.pend.row k hp).2
      have hb3 : w3.cell? ⟨gr k, n', none⟩ = some (.slice (some ⟨g, 0, none⟩) 512 cg) := by
        obtain ⟨xs, hrow, _⟩ := hrow2
        have hi := hd2.img
        obtain ⟨cur, hbi, _⟩ := hi
        exact (World.cell?_of_block (w := w2.drew) (a := ⟨gr k, n', none⟩) (hk3.block (gr k) hrow.lt (hrow.ne hbi (by decide)))).trans hcell'
      have hnow : DS.now { S with im := im } k = S.now k := now_im S im k hp
      rw [hnow] at hd3
      have hl3 : ∀ j, j < s → dsec (splice im (k * 512) (S.now k)) j = if (left (kk j) && !(kk j).sameKey (kk k)) then dsec S.im j else S.now j := fun j hj => by
        rw [sec_splice Hd.out.ok.len (now_len H.out.ok k hks) hks, same_kk]
        by_cases e : j = k
        · subst e; simp
        · rw [if_neg e, Hl.out j hj]; simp [e]
      have hgi := H.out.lt gi H.out.fgi
      have hg3 : w2.grownBy w3 (some gi) := ⟨hk3.os, hk3.tape, hk3.output, hk3.size, fun j hj hne => hk3.block j hj (fun e => hne (by rw [e]))⟩
      have hmi : m ≠ gi := by
        have hi := H.out.img
        obtain ⟨cur, hbi, _⟩ := hi
        exact ownsMap_ne H.out.map hbi
      have hrg3 := hrg2.kept hg3 (by simpa using hmi) (by simp; omega)
      have hk23 : Keeps F w w3 := (hk.trans (G := fun j => j = w.heap.size) ⟨hg2.os, hg2.tape, hg2.output, hg2.size, fun j hj hne => hg2.block j hj (by simpa using hne)⟩ (fun j hj => .inr (by omega))).trans (b := w2) (G := fun j => j = gi) ⟨hk3.os, hk3.tape, hk3.output, hk3.size, hk3.block⟩ (fun j hj => .inl (hj ▸ H.out.fgi))
      have Hd3 := Hid.mk hd3
      have Hl3 := Hid.mk hl3
      have Hrg3 := Hid.mk hrg3
      have hcd : w2.drew.cell? ⟨gr k, n', none⟩ = some (.slice (some ⟨g, 0, none⟩) 512 cg) := hcell'
      clear hn' hc hkey hv hat hs2 hcell hd3 hl3 hrg3 hg3 hrow2 hg2 hk3 hd2 hk
      dsimp only [mkS] at hen ⊢
      have hi0 : (0 : Int) ≤ (n' : Int) := by omega
      have hi1 : (n' : Int) < (n' : Int) + 1 := by omega
      have hi2 : IntKind.i64.wrap (n' : Int) = (n' : Int) := by rw [IntKind.wrap_i64]; omega
      go_wp2_with fail
      go_region_held3 (fun w' => w'.cell? ⟨gr k, n', none⟩ = some (.slice (some ⟨g, 0, none⟩) 512 cg)) (assumption) (first | (go_at_call 59; refine hdu.mono ?_; rintro e w' ⟨rfl, rfl⟩))
      all_goals
        go_wp2
        go_roundw
        case rel => exact ⟨_, cnt2, _, Hrg3.out, Hd3.out, Hl3.out, hk23⟩
        case measure => rw [Hrg3.out.left_eq, hrg.left_eq]; exact hlt
end Go.Proofs.Ythdgndbmecnimaa
end

section
namespace Go.Proofs.Ythdgndbmecnimaa
open Go.RowKit Go.Maps

theorem write_dead {w : World} {F : Nat → Prop} {p s : Nat} {S : DS} (h : DiskAt w F p s S) (at_ : Int) (a : Option Addr) (n c : Nat) (hf : S.fuse = 0) :
    Calls Try.prog 57 #[.pointer (some ⟨p, 0, none⟩), .int .i64 at_, .slice a n c] w fun e w' => e = .returned (.int .i64 3) ∧ w' = w := by
  have hb := burnt_at h
  rw [hf] at hb
  go_enter Try.func57, Try.ntmps57
  go_wp2_with (go_at_call 58; refine hb.mono ?_; rintro e w' ⟨rfl, rfl⟩)
  go_ret
  exact ⟨rfl, rfl⟩

theorem write_range {w : World} {F : Nat → Prop} {p s : Nat} {S : DS} (h : DiskAt w F p s S) (at_ : Int) (a0 : Option Addr) (n c : Nat) (hf : S.fuse ≠ 0) (ha : at_ < 0 ∨ (s : Int) ≤ at_) :
    Calls Try.prog 57 #[.pointer (some ⟨p, 0, none⟩), .int .i64 at_, .slice a0 n c] w fun e w' => e = .returned (.int .i64 11) ∧ DiskAt w' F p s S.refuse ∧ Keeps F w w' := by
  have hb := burnt_at h
  rw [show (S.fuse == 0) = false by simp [hf]] at hb
  obtain ⟨gi, ci, m, D, gr, cr, h⟩ := h
  have hs := h.ok.hi
  have hh := has_low p _ (s * 512) ci at_ w (by omega) (cell_of_block h.blk (j := 0) rfl)
  rw [show s * 512 / 512 = s by omega, show (decide (0 ≤ at_) && decide (at_ < (s : Int))) = false by simp; omega] at hh
  have hr := refuse_low p S.refused 11 w (cell_of_block h.blk (j := 7) rfl) (frozen_of_block h.blk 7)
  have hr2 : Calls Try.prog 71 #[.pointer (some ⟨p, 0, none⟩), .int .i64 11] w fun e w' => e = .returned (.int .i64 11) ∧ DiskAt w' F p s S.refuse ∧ Keeps F w w' :=
    hr.mono (by rintro e w' ⟨rfl, rfl⟩; exact ⟨rfl, ⟨gi, ci, m, D, gr, cr, h.refused⟩, Keeps.setCell w h.fp _⟩)
  clear h ha hr
  go_enter Try.func57, Try.ntmps57
  go_wp2_with (first | (go_at_call 58; refine hb.mono ?_; rintro e w' ⟨rfl, hw⟩; have hw' := hw.symm; subst hw') | (go_at_call 70; refine hh.mono ?_; rintro e w' ⟨rfl, hw⟩; have hw' := hw.symm; subst hw') | (go_at_call 71; refine hr2.mono ?_; rintro e w' ⟨rfl, hd, hk⟩))
  go_ret
  exact ⟨rfl, hd, hk⟩

theorem write_length {w : World} {F : Nat → Prop} {p s : Nat} {S : DS} (h : DiskAt w F p s S) (k : Nat) (a0 : Option Addr) (n c : Nat) (hf : S.fuse ≠ 0) (hk : k < s) (hn : n ≠ 512) :
    Calls Try.prog 57 #[.pointer (some ⟨p, 0, none⟩), .int .i64 (k : Int), .slice a0 n c] w fun e w' => e = .returned (.int .i64 2) ∧ DiskAt w' F p s S.refuse ∧ Keeps F w w' := by
  have hb := burnt_at h
  rw [show (S.fuse == 0) = false by simp [hf]] at hb
  obtain ⟨gi, ci, m, D, gr, cr, h⟩ := h
  have hs := h.ok.hi
  have hh := has_low p _ (s * 512) ci k w (by omega) (cell_of_block h.blk (j := 0) rfl)
  rw [show s * 512 / 512 = s by omega, show (decide (0 ≤ (k : Int)) && decide ((k : Int) < (s : Int))) = true by simp; omega] at hh
  have hr := refuse_low p S.refused 2 w (cell_of_block h.blk (j := 7) rfl) (frozen_of_block h.blk 7)
  have hr2 : Calls Try.prog 71 #[.pointer (some ⟨p, 0, none⟩), .int .i64 2] w fun e w' => e = .returned (.int .i64 2) ∧ DiskAt w' F p s S.refuse ∧ Keeps F w w' :=
    hr.mono (by rintro e w' ⟨rfl, rfl⟩; exact ⟨rfl, ⟨gi, ci, m, D, gr, cr, h.refused⟩, Keeps.setCell w h.fp _⟩)
  have hne : ((n : Int) != 512) = true := by rw [bne_iff_ne]; omega
  clear h hr
  go_enter Try.func57, Try.ntmps57
  go_wp2_with (first | (go_at_call 58; refine hb.mono ?_; rintro e w' ⟨rfl, hw⟩; have hw' := hw.symm; subst hw') | (go_at_call 70; refine hh.mono ?_; rintro e w' ⟨rfl, hw⟩; have hw' := hw.symm; subst hw') | (go_at_call 71; refine hr2.mono ?_; rintro e w' ⟨rfl, hd, hk⟩))
  go_ret
  exact ⟨rfl, hd, hk⟩

def DS.lay (S : DS) (calls : Int) : DS := if S.fuse = 0 then S else { S with fuse := max calls (-1) }
def DS.take (S : DS) : DS := { S with life := wrap64 (S.life + 1) }

theorem take_at {w : World} {F : Nat → Prop} {p s : Nat} {S : DS} (h : DiskAt w F p s S) :
    Calls Try.prog 41 #[.pointer (some ⟨p, 0, none⟩)] w fun e w' => e = .returned (.int .i64 (wrap64 (S.life + 1))) ∧ DiskAt w' F p s S.take ∧ Keeps F w w' := by
  obtain ⟨gi, ci, m, D, gr, cr, h⟩ := h
  refine (take_low p S.life w (cell_of_block h.blk (j := 3) rfl) (frozen_of_block h.blk 3)).mono ?_
  rintro e w' ⟨rfl, rfl⟩
  exact ⟨rfl, ⟨gi, ci, m, D, gr, cr, h.turn (h.set 3 _).2 ((h.set 3 _).1.trans (by simp [dkCells, DS.take])) rfl rfl h.ok.fuse⟩, Keeps.setCell w h.fp _⟩

end Go.Proofs.Ythdgndbmecnimaa
end

section
namespace Go.Proofs.Ythdgndbmecnimaa
open Go.RowKit Go.Maps

/-- What a pick makes of a sector. -/
def tornOf (S : DS) (k : Nat) (A B C : Nat) : List Int :=
  (S.cand k (A % ((pendOf S.puts k).length + 1))).take (C % 513) ++ (S.cand k (B % ((pendOf S.puts k).length + 1))).drop (C % 513)

theorem cand_int {w : World} {F : Nat → Prop} {p s : Nat} {S : DS} {gi ci m : Nat} {D : DataW Value} {gr cr : Nat → Nat} (h : DiskRaw w F p s S gi ci m D gr cr) (k : Nat) (hk : k < s) (j : Nat) (jj : Int) (hjj : jj = (j : Int)) (hj : j ≤ (pendOf S.puts k).length) (hbig : S.puts.length ≤ 140737488355328) :
    Calls Try.prog 67 #[.pointer (some ⟨p, 0, none⟩), .int .i64 (k : Int), .int .i64 jj] w fun e w' => ∃ g o c, e = .returned (.slice (some ⟨g, o, none⟩) 512 c) ∧ F g ∧ 512 ≤ c ∧ (g = gi → o = k * 512 ∧ S.cand k j = dsec S.im k) ∧ Src w (some ⟨g, o, none⟩) 512 (S.cand k j) ∧ w' = w := by
  subst hjj
  exact cand_any h k hk j hj hbig

theorem run_max (x : Int) (y : Nat) (h : max x 0 = (y : Int)) (w : World) : (Builtin.max_ #[3, 3] 3 #[.int .i64 x, .int .i64 0]).run Try.prog w = .ok (.int .i64 (y : Int)) w := by
  rw [← h]
  by_cases hx : x < 0
  · simp [Builtin.max_, Builtin.max2, hx, show max x 0 = 0 by omega]
  · simp [Builtin.max_, Builtin.max2, hx, show max x 0 = x by omega]

theorem Src.front {w : World} {x : Addr} {n j : Nat} {l : List Int} (h : Src w (some x) n l) (hj : j ≤ n) : Src w (some x) j (l.take j) := by
  have hl := h.1
  refine ⟨by rw [List.length_take]; omega, (fun h => by cases h), fun y hy i hi => ?_⟩
  rw [h.2.2 y hy i (by omega)]
  simp [List.getD, hi]

theorem splice_two (im la lb : List Int) (o cut n : Nat) (hn : cut ≤ n) (hla : la.length = n) (hlb : lb.length = n) (hl : o + n ≤ im.length) :
    splice (splice im o (la.take cut)) (o + cut) (lb.drop cut) = splice im o (la.take cut ++ lb.drop cut) := by
  have e1 : (la.take cut).length = cut := by rw [List.length_take]; omega
  have e2 : (lb.drop cut).length = n - cut := by rw [List.length_drop]; omega
  have e3 : (la.take cut ++ lb.drop cut).length = n := by rw [List.length_append, e1, e2]; omega
  have e4 : (splice im o (la.take cut)).length = im.length := splice_len _ _ _ (by omega)
  apply List.ext_getElem?
  intro i
  rw [getElem_splice _ _ _ (by omega), getElem_splice _ _ _ (by omega), getElem_splice _ _ _ (by omega), e1, e2, e3]
  by_cases h1 : o ≤ i ∧ i < o + cut
  · rw [if_neg (by omega), if_pos (by omega), if_pos (by omega), List.getElem?_append_left (by omega)]
  · by_cases h2 : o + cut ≤ i ∧ i < o + n
    · rw [if_pos (by omega), if_pos (by omega), List.getElem?_append_right (by omega), e1, show i - (o + cut) = i - o - cut by omega]
    · rw [if_neg (by omega), if_neg (by omega), if_neg (by omega)]

theorem getD_behind (im la : List Int) (k cut i : Nat) (hla : (la.take cut).length = cut) (hl : k * 512 + cut ≤ im.length) (hi : cut + i < 512) :
    (splice im (k * 512) (la.take cut)).getD (k * 512 + (cut + i)) 0 = (dsec im k).getD (cut + i) 0 := by
  rw [List.getD, List.getD, getElem_splice _ _ _ (by omega), if_neg (by omega), getElem_sec, if_pos hi]

/-- The two copies of a torn sector. -/
theorem tear_run {w : World} {F : Nat → Prop} {p s : Nat} {S : DS} {gi ci m : Nat} {D : DataW Value} {gr cr : Nat → Nat} (h : DiskRaw w F p s S gi ci m D gr cr) {k : Nat} (hk : k < s) {cut : Nat} (hcut : cut ≤ 512) {la lb : List Int}
    {ga oa ca gb ob : Nat} (hsa : Src w (some ⟨ga, oa, none⟩) 512 la) (hsb : Src w (some ⟨gb, ob, none⟩) 512 lb) (hgb : gb = gi → ob = k * 512 ∧ lb = dsec S.im k) :
    ∃ w2, (Builtin.copy_ #[27, 27] 3 #[.slice (some ⟨gi, k * 512, none⟩) cut 512, .slice (some ⟨ga, oa, none⟩) cut ca]).run Try.prog w = .ok (goInt (Nat.min cut cut)) w2 ∧ w2.heap.size = w.heap.size ∧
      (∀ dp sp c1 c2, (cut < 512 → dp = some ⟨gi, k * 512 + cut, none⟩ ∧ sp = some ⟨gb, ob + cut, none⟩) →
        ∃ w3, (Builtin.copy_ #[27, 27] 3 #[.slice dp (512 - cut) c1, .slice sp (512 - cut) c2]).run Try.prog w2.drew = .ok (goInt (Nat.min (512 - cut) (512 - cut))) w3 ∧
          DiskRaw w3 F p s { S with im := splice S.im (k * 512) (la.take cut ++ lb.drop cut) } gi ci m D gr cr ∧ Keeps F w w3) := by
  have hlen := h.ok.len
  have hla := hsa.1
  have hlb := hsb.1
  obtain ⟨w2, hrun, hr2, hk2, hsz⟩ := h.img.copied 3 (some ⟨gi, k * 512, none⟩) (k * 512) cut 512 (some ⟨ga, oa, none⟩) cut ca (la.take cut) (hsa.front hcut) (fun _ => rfl) (by omega)
  rw [List.take_take, Nat.min_self] at hr2
  have hl2 : (splice S.im (k * 512) (la.take cut)).length = s * 512 := by rw [splice_len _ _ _ (by rw [List.length_take]; omega)]; exact hlen
  refine ⟨w2, hrun, hsz, fun dp sp c1 c2 hdp => ?_⟩
  have hr2' : RowAt w2.drew 5 gi ci (bs (splice S.im (k * 512) (la.take cut))) := hr2
  have hsrc : Src w2.drew sp (512 - cut) (lb.drop cut) := by
    refine ⟨by rw [List.length_drop]; omega, fun e => ?_, fun y hy i hi => ?_⟩
    · by_cases h5 : cut < 512
      · rw [(hdp h5).2] at e; cases e
      · omega
    · have h5 : cut < 512 := by omega
      rw [(hdp h5).2] at hy
      cases hy
      rw [addr_add]
      have h0 := hsb.2.2 _ rfl (cut + i) (by omega)
      rw [addr_add] at h0
      have hv : (lb.drop cut).getD i 0 = lb.getD (cut + i) 0 := by simp [List.getD]
      rw [hv]
      by_cases hg : gb = gi
      · obtain ⟨rfl, rfl⟩ := hgb hg
        subst hg
        have h1 := hr2'.byte (i := k * 512 + (cut + i)) (by omega)
        rw [addr_add, Nat.zero_add] at h1
        rw [Nat.add_assoc, h1, getD_behind _ _ _ _ _ (by rw [List.length_take]; omega) (by omega) (by omega)]
      · have := World.cell?_of_block (w := w) (w' := w2) (a := ⟨gb, ob + (cut + i), none⟩) (hk2.block gb (World.block_lt_of_cell? _ _ h0) hg)
        rw [Nat.add_assoc]
        exact this.trans h0
  obtain ⟨w3, hrun3, hr3, hk3, _⟩ := hr2'.copied 3 dp (k * 512 + cut) (512 - cut) c1 sp (512 - cut) c2 (lb.drop cut) hsrc (fun h5 => (hdp (by omega)).1) (by omega)
  rw [List.take_of_length_le (l := lb.drop cut) (by rw [List.length_drop]; omega)] at hr3
  have e := splice_two S.im la lb (k * 512) cut 512 hcut hla hlb (by omega)
  rw [e] at hr3
  have hk23 : Keeps (fun b => b = gi) w w3 := hk2.trans (b := w2) (G := fun b => b = gi) ⟨hk3.os, hk3.tape, hk3.output, hk3.size, hk3.block⟩ (fun j hj => .inl hj)
  exact ⟨w3, hrun3, h.imaged hr3 (by rw [splice_len _ _ _ (by rw [List.length_append, List.length_take, List.length_drop]; omega)]; exact hlen) hk23, hk23.mono (fun b hb => hb ▸ h.fgi)⟩

set_option maxHeartbeats 4000000 in
set_option maxRecDepth 100000 in
theorem tear_ok {w : World} {F : Nat → Prop} {p s : Nat} {S : DS} {gi ci m : Nat} {D : DataW Value} {gr cr : Nat → Nat} (h : DiskRaw w F p s S gi ci m D gr cr) (k : Nat) (hk : k < s) (hbig : S.puts.length + 1 ≤ 5000000000000)
    (A B C : Int) (A' B' C' : Nat) (hA : max A 0 = (A' : Int)) (hB : max B 0 = (B' : Int)) (hC : max C 0 = (C' : Int)) (hAb : A ≤ 9223372036854775807) (hBb : B ≤ 9223372036854775807) (hCb : C ≤ 9223372036854775807) :
    Calls Try.prog 47 #[.pointer (some ⟨p, 0, none⟩), .int .i64 (k : Int), .agg #[.int .i64 A, .int .i64 B, .int .i64 C]] w fun e w' => e = .returned (.tuple #[]) ∧ DiskRaw w' F p s { S with im := splice S.im (k * 512) (tornOf S k A' B' C') } gi ci m D gr cr ∧ Keeps F w w' := by
  have hmA := run_max A A' hA
  have hmB := run_max B B' hB
  have hmC := run_max C C' hC
  have hA2 : (A' : Int) ≤ 9223372036854775807 := by omega
  have hB2 : (B' : Int) ≤ 9223372036854775807 := by omega
  have hC2 : (C' : Int) ≤ 9223372036854775807 := by omega
  have hpn := pendOf_len S.puts k
  have hd : DiskRaw (w.alloc (.cells #[.int .i64 A, .int .i64 B, .int .i64 C] 87)) F p s S gi ci m D gr cr := h.agree (by simp) (fun j hj => Below.heap_alloc _ _ _ (h.lt j hj))
  have hkb : Keeps F w (w.alloc (.cells #[.int .i64 A, .int .i64 B, .int .i64 C] 87)) := Keeps.alloc _ _ _
  obtain ⟨a, cc, xs, hlook, _⟩ := hd.sector hk
  have c1 := cell_of_block hd.blk (j := 1) rfl
  have hl1 := hlook _ rfl
  have hs := h.ok.hi
  have hle := hd.img.le
  have hdu := durable_low p gi (s * 512) ci s k k _ (cell_of_block hd.blk (j := 0) rfl) rfl hk rfl hs (by simp [bs, hd.ok.len] at hle; omega)
  have hm1 : ∀ j : Nat, (j : Int) % (((pendOf S.puts k).length : Int) + 1) = ((j % ((pendOf S.puts k).length + 1) : Nat) : Int) := fun j => by push_cast; rfl
  have hm2 : ∀ j : Nat, j % ((pendOf S.puts k).length + 1) ≤ (pendOf S.puts k).length := fun j => Nat.le_of_lt_succ (Nat.mod_lt _ (by omega))
  have hcA := cand_int hd k hk (A' % ((pendOf S.puts k).length + 1)) _ (hm1 A') (hm2 A') (by omega)
  have hcB := cand_int hd k hk (B' % ((pendOf S.puts k).length + 1)) _ (hm1 B') (hm2 B') (by omega)
  have hCm : (C' : Int) % 513 = ((C' % 513 : Nat) : Int) := by push_cast; rfl
  obtain ⟨cut, hcut⟩ : ∃ cut, cut = C' % 513 := ⟨_, rfl⟩
  rw [← hcut] at hCm
  have hcut2 : cut ≤ 512 := by omega
  have Hd := Hid.mk hd
  have Hcut := Hid.mk hcut
  clear h hA hB hC hd hlook hAb hBb hCb hm1 hm2 hle hcut
  go_enter Try.func47, Try.ntmps47
  go_wp2_with fail
  refine hcA.mono ?_
  rintro e w2 ⟨ga, oa, ca, rfl, hFa, hca, hga, hsa, hw⟩
  have hw' := hw.symm; subst hw'
  clear hcA hw
  have Hsa := Hid.mk hsa
  have Hga := Hid.mk hga
  clear hsa hga
  go_wp2_with fail
  refine hcB.mono ?_
  rintro e w3 ⟨gb, ob, cb, rfl, hFb, hcb, hgb, hsb, hw⟩
  have hw' := hw.symm; subst hw'
  clear hcB hw
  have Hsb := Hid.mk hsb
  have Hgb := Hid.mk hgb
  clear hsb hgb
  go_wp2_with fail
  refine hdu.mono ?_
  rintro e w4 ⟨rfl, hw⟩
  have hw' := hw.symm; subst hw'
  clear hdu hw
  have hdd : DiskRaw (w.alloc (.cells #[.int .i64 A, .int .i64 B, .int .i64 C] 87)).drew F p s S gi ci m D gr cr := Hd.out.agree (Nat.le_refl _) (fun _ _ => rfl)
  obtain ⟨w5, hrun1, _, hrest⟩ := tear_run (ca := ca) hdd hk hcut2 Hsa.out Hsb.out Hgb.out
  have Hrest := Hid.mk hrest
  have hc0 : (0 : Int) ≤ (cut : Int) := by omega
  have hc1 : (cut : Int) ≤ 512 := by omega
  have hc2 : (cut : Int) ≤ (ca : Int) := by omega
  have hc3 : (cut : Int) ≤ (cb : Int) := by omega
  clear hdd hrest
  go_wp2_with fail
  go_region_held3 (fun _ => True) (trivial) (fail)
  go_wp2_with fail
  have hfin : ∀ w6, DiskRaw w6 F p s { S with im := splice S.im (k * 512) (List.take cut (S.cand k (A' % ((pendOf S.puts k).length + 1))) ++ List.drop cut (S.cand k (B' % ((pendOf S.puts k).length + 1)))) } gi ci m D gr cr →
      Keeps F (w.alloc (.cells #[.int .i64 A, .int .i64 B, .int .i64 C] 87)).drew w6 → DiskRaw w6 F p s { S with im := splice S.im (k * 512) (tornOf S k A' B' C') } gi ci m D gr cr ∧ Keeps F w w6 := fun w6 h1 h2 => by
    refine ⟨?_, hkb.trans (b := w.alloc (.cells #[.int .i64 A, .int .i64 B, .int .i64 C] 87)) (G := F) ⟨h2.os, h2.tape, h2.output, h2.size, h2.block⟩ (fun j hj => .inl hj)⟩
    unfold tornOf
    rw [← Hcut.out]
    exact h1
  have Hfin := Hid.mk hfin
  clear hfin hkb hrun1 hmA hmB hmC hl1 c1 Hd Hsa Hsb Hga Hgb Hcut hCm
  rcases (show cut = 0 ∨ (0 < cut ∧ cut < 512) ∨ cut = 512 by omega) with h5 | h5 | h5
  · subst h5
    obtain ⟨w6, hr6, hd6, hk6⟩ := Hrest.out (some ⟨gi, k * 512, none⟩) (some ⟨gb, ob, none⟩) 512 cb (fun _ => ⟨rfl, rfl⟩)
    simp only [Nat.sub_zero] at hr6
    have hq := Hfin.out w6 hd6 hk6
    clear hd6 hk6 Hrest Hfin
    go_region_held3 (fun _ => True) (trivial) (fail)
    all_goals
      go_end0
      exact ⟨rfl, hq⟩
  · obtain ⟨w6, hr6, hd6, hk6⟩ := Hrest.out (some ⟨gi, k * 512 + cut, none⟩) (some ⟨gb, ob + cut, none⟩) (512 - cut) (cb - cut) (fun _ => ⟨rfl, rfl⟩)
    have hq := Hfin.out w6 hd6 hk6
    have z1 : ¬ 512 = cut := by omega
    have z2 : ¬ cb = cut := by omega
    have z3 : ¬ cut = 0 := by omega
    clear hd6 hk6 Hrest Hfin
    go_region_held3 (fun _ => True) (trivial) (fail)
    all_goals
      go_end0
      exact ⟨rfl, hq⟩
  · subst h5
    by_cases z : cb = 512
    · subst z
      obtain ⟨w6, hr6, hd6, hk6⟩ := Hrest.out (some ⟨gi, k * 512, none⟩) (some ⟨gb, ob, none⟩) 0 0 (fun h => by omega)
      simp only [Nat.sub_self] at hr6
      have hq := Hfin.out w6 hd6 hk6
      clear hd6 hk6 Hrest Hfin
      go_region_held3 (fun _ => True) (trivial) (fail)
      all_goals
        go_end0
        exact ⟨rfl, hq⟩
    · obtain ⟨w6, hr6, hd6, hk6⟩ := Hrest.out (some ⟨gi, k * 512, none⟩) (some ⟨gb, ob + 512, none⟩) 0 (cb - 512) (fun h => by omega)
      simp only [Nat.sub_self] at hr6
      have hq := Hfin.out w6 hd6 hk6
      clear hd6 hk6 Hrest Hfin
      go_region_held3 (fun _ => True) (trivial) (fail)
      all_goals
        go_end0
        exact ⟨rfl, hq⟩
end Go.Proofs.Ythdgndbmecnimaa
end

section
namespace Go.Proofs.Ythdgndbmecnimaa
open Go.RowKit Go.Maps

/-- Numbers as cells. -/
abbrev is_ (l : List Nat) : List Value := l.map (fun k : Nat => Value.int .i64 (k : Int))

/-- The sectors with pending writes, in rising order. -/
def keysOf (S : DS) (s : Nat) : List Nat := (List.range s).filter (fun k => !(pendOf S.puts k).isEmpty)

theorem mem_keysOf {S : DS} {s k : Nat} : k ∈ keysOf S s ↔ k < s ∧ pendOf S.puts k ≠ [] := by
  simp [keysOf, List.mem_filter]

theorem is_eq (l : List Nat) : (l.map (fun k : Nat => (k : Int))).map (Value.int .i64) = is_ l := by rw [List.map_map]; rfl

/-- What slices.Sort does to a row of numbers. -/
def SortSaid : Prop := ∀ (g cap : Nat) (zs : List Int) (w : World), RowAt w 3 g cap (zs.map (Value.int .i64)) → zs.length < 4611686018427387904 →
  Calls Try.prog 66 #[.slice (some ⟨g, 0, none⟩) zs.length cap] w fun e w' => e = .returned (.tuple #[]) ∧ RowAt w' 3 g cap ((zs.mergeSort fun x y => decide (x ≤ y)).map (Value.int .i64)) ∧ Keeps (fun k => k = g) w w'

/-- .. and to none. -/
def SortNil : Prop := ∀ (w : World), Calls Try.prog 66 #[.slice none 0 0] w fun e w' => e = .returned (.tuple #[]) ∧ Below w.heap.size w w'

theorem sorted_keys {S : DS} {s : Nat} (hok : S.Ok s) {ks : List Nat} (hn : ks.Nodup) (hm : ∀ k, k ∈ ks ↔ pendOf S.puts k ≠ []) :
    ((ks.map (fun k : Nat => (k : Int))).mergeSort fun x y => decide (x ≤ y)) = (keysOf S s).map (fun k : Nat => (k : Int)) := by
  have hlt : ∀ k, pendOf S.puts k ≠ [] → k < s := fun k hp => by
    obtain ⟨l, hl⟩ := List.exists_mem_of_ne_nil _ hp
    unfold pendOf at hl
    obtain ⟨q, hq, _⟩ := List.mem_map.1 hl
    obtain ⟨hq1, hq2⟩ := List.mem_filter.1 hq
    have := (hok.puts q hq1).1
    simp at hq2
    omega
  have hn2 : (keysOf S s).Nodup := List.Pairwise.filter _ List.nodup_range
  have hperm : ks.Perm (keysOf S s) := (List.perm_ext_iff_of_nodup hn hn2).2 (fun k => by
    rw [hm, mem_keysOf]
    exact ⟨fun h => ⟨hlt k h, h⟩, fun h => h.2⟩)
  have hs2 : ((keysOf S s).map (fun k : Nat => (k : Int))).Pairwise (fun x y => decide (x ≤ y) = true) := by
    refine List.pairwise_map.2 ?_
    have : (keysOf S s).Pairwise (fun x y => x < y) := List.Pairwise.filter _ List.pairwise_lt_range
    exact this.imp (fun h => by simp; omega)
  have tr : ∀ a b c : Int, decide (a ≤ b) = true → decide (b ≤ c) = true → decide (a ≤ c) = true := fun a b c h1 h2 => by simp only [decide_eq_true_eq] at *; omega
  have to : ∀ a b : Int, (decide (a ≤ b) || decide (b ≤ a)) = true := fun a b => by simp only [Bool.or_eq_true, decide_eq_true_eq]; omega
  refine List.Perm.eq_of_pairwise (le := fun a b => decide (a ≤ b) = true) (fun a b _ _ h1 h2 => ?_) (List.pairwise_mergeSort tr to _) hs2 ((List.mergeSort_perm _ _).trans (hperm.map _))
  simp only [decide_eq_true_eq] at h1 h2
  omega

set_option maxHeartbeats 4000000 in
theorem unfl_ok (sorts : SortSaid) (sortn : SortNil) {w : World} {F : Nat → Prop} {p s : Nat} {S : DS} {gi ci m : Nat} {D : DataW Value} {gr cr : Nat → Nat} (h : DiskRaw w F p s S gi ci m D gr cr) (hbig : S.puts.length + 1 ≤ 5000000000000) :
    Calls Try.prog 46 #[.pointer (some ⟨p, 0, none⟩)] w fun e w' => ∃ a c, e = .returned (.slice a (keysOf S s).length c) ∧ (keysOf S s ≠ [] → ∃ g, a = some ⟨g, 0, none⟩ ∧ w.heap.size ≤ g ∧ RowAt w' 3 g c (is_ (keysOf S s))) ∧ Below w.heap.size w w' := by
  obtain ⟨i0, hi0, hz0, hz1, hz2⟩ := info_parts infoInt
  have c1 := cell_of_block h.blk (j := 1) rfl
  have hml := h.lt m h.fm
  have H := Hid.mk h
  clear h
  go_enter Try.func46, Try.ntmps46
  go_wp2_with (at_range; refine wpList_range_own _ rfl _ 80 rfl 3 22 keyInt Try.underlying80 Rs m S.puts.length D rfl H.out.map ?_; intro w0 hrg0 hg0 hs0; go_frame)
  have hb0 : Below w.heap.size w w0 := (Below.refl _ w).grown hg0 (Nat.le_refl _) (fun j hj => by cases hj)
  have hsz0 : Maps.size D ≤ S.puts.length := H.out.map.size_le
  clear hg0
  go_loopw [3, 4] (fun v _ wr => ∃ (left : Lit → Bool) (cnt : Nat) (ks : List Nat), wr.ranges Try.prog 3 Rs m w.heap.size S.puts.length D left cnt ∧ wr.ownsRow (w.heap.size + 1) 3 1 v ks.length (is_ ks) ∧
      ks.Nodup ∧ (∀ k, k ∈ ks ↔ pendOf S.puts k ≠ [] ∧ left (kk k) = false) ∧ Below w.heap.size w wr ∧ ks.length + cnt ≤ S.puts.length ∧ w.heap.size + 1 ≤ wr.heap.size)
    (fun _ _ wr => wr.rangeLeft m w.heap.size)
  case atStart => 
    refine ⟨_, _, [], hrg0, World.ownsRow_nil _ _ _ _, List.nodup_nil, fun k => ?_, hb0, by simpa using hsz0, by omega⟩
    constructor
    · intro hk; cases hk
    · rintro ⟨hp, hl⟩; rw [H.out.pend.has hp] at hl; cases hl
  case round =>
    clear hrg0 hb0 hs0 hsz0
    obtain ⟨left, cnt, ks, hrg, hrow, hnd, hmem, hb, hcs, hsz⟩ := hrel
    go_wp2_with (at_next; refine wpList_next_ranges _ rfl _ rfl 3 keyInt Rs (Value.int .i64) mkS (fun key kl hkey => by obtain ⟨x, rfl, _⟩ := Maps.keyOf_int_inv Try.underlying3 hkey; exact ⟨x, rfl⟩) Rs_inv m w.heap.size S.puts.length _ _ _ rfl hrg ?_ ?_)
    · intro _ hl0
      have hmem' : ∀ k, k ∈ ks ↔ pendOf S.puts k ≠ [] := fun k => by rw [hmem, hl0]; simp
      have hsk := sorted_keys H.out.ok hnd hmem'
      have hlen : ks.length = (keysOf S s).length := by
        have := congrArg List.length hsk
        rw [List.length_mergeSort] at this
        simpa using this
      have hnil2 : ks = [] → keysOf S s = [] := fun e => by rw [e] at hlen; exact List.eq_nil_of_length_eq_zero hlen.symm
      rcases hrow.2 with ⟨rfl, hz⟩ | ⟨g, cap, cur, rfl, hg, hbk, h1, h2, h3, h4⟩
      · have hks : keysOf S s = [] := hnil2 (List.eq_nil_of_length_eq_zero hz)
        have hsn := sortn wr
        clear hrow hmem hmem' hsk hrg H sorts sortn
        go_wp2_with (go_at_call 66; refine hsn.mono ?_; rintro e w9 ⟨rfl, hb9⟩)
        go_ret
        exact ⟨none, 0, by simp [hks], fun h => absurd hks h, hb.trans (hb9.mono hb.size)⟩
      · have hr9 : RowAt wr 3 g cap ((ks.map (fun k : Nat => (k : Int))).map (Value.int .i64)) := by
          rw [is_eq]
          refine ⟨cur, hbk, by simpa using h3, ?_, h2⟩
          simp only [Nat.mul_one] at h4
          rw [show (is_ ks).length = ks.length by simp [is_]]
          exact h4
        have hso := sorts g cap _ wr hr9 (by simp; omega)
        simp only [List.length_map] at hso
        rw [hsk] at hso
        have Hlen := Hid.mk hlen
        clear hrow hmem hmem' hsk hrg H sorts sortn hr9 hlen h4
        go_wp2_with (go_at_call 66; refine hso.mono ?_; rintro e w9 ⟨rfl, hr10, hk9⟩)
        go_ret
        refine ⟨some ⟨g, 0, none⟩, cap, ?_, fun _ => ⟨g, rfl, by omega, ?_⟩, hb.trans (hk9.below (fun j hj => by omega) hb.size)⟩
        · rw [← Hlen.out]; rfl
        · rw [← is_eq]; exact hr10
    · intro x ca cn cc kl yd yp w2 cnt2 hkey hlk hv hat hrg2 hlt hg2 hs2 hen
      obtain ⟨k, rfl, rfl, hp, hc⟩ := H.out.pend.met hkey hv hat
      have hnk : k ∉ ks := fun hk => by rw [((hmem k).1 hk).2] at hlk; cases hlk
      have hrow2 := hrow.kept hg2 (.inr (fun e => by have := hrow.lt _ e; omega))
      have hb2 : Below w.heap.size w w2 := hb.grown hg2 hb.size (fun j hj => by cases hj; exact Nat.le_refl _)
      have hsz2 : w.heap.size + 1 ≤ w2.heap.size := by omega
      have hmem2 : ∀ j, j ∈ ks ++ [k] ↔ pendOf S.puts j ≠ [] ∧ (left (kk j) && !(kk j).sameKey (kk k)) = false := fun j => by
        rw [List.mem_append, List.mem_singleton, hmem, same_kk]
        by_cases e : j = k
        · subst e; simp [hp]
        · simp [e]
      have hlen : ks.length + 1 ≤ 5000000000000 := by omega
      have Hmem2 := Hid.mk hmem2
      have Hrow2 := Hid.mk hrow2
      clear hkey hv hat hs2 hg2 hc hmem hmem2 hrow2
      go_wp2_with (at_builtin; refine wpList_append_own _ rfl _ _ 84 rfl (w.heap.size + 1) 3 i0 (.int .i64 0) 1 8 Try.underlying84 hi0 hz0 hz1 hz2 rfl (by decide) _ _ _ rfl (Hrow2.out.alloc _) ⟨w2.heap.size, 0, none⟩ 1 1 [.int .i64 (k : Int)] rfl rfl (cell_one_new _ _ _) (ints_oneCell .i64 [(k : Int)]) (by unfold maxLen; omega) (by omega) (by simp; omega) ?_)
      intro v' w3 hown' hgrow hnil
      have hgr2 : ∀ j, u3.ownBlock = some j → w.heap.size + 1 ≤ j := fun j e => (hrow.lt j e).1
      have hrg3 := (hrg2.alloc (.cells #[.int .i64 (k : Int)] 3)).kept hgrow (fun e => by have := hgr2 m e.symm; omega) (fun e => by have := hgr2 _ e.symm; omega)
      have hb3 : Below w.heap.size w w3 := (hb2.alloc (by omega) _).grown hgrow (by simp; omega) (fun j e => by have := hgr2 j e; omega)
      have hsz3 : w.heap.size + 1 ≤ w3.heap.size := by have := hgrow.size; simp at this; omega
      have hnd2 : (ks ++ [k]).Nodup := List.nodup_append.2 ⟨hnd, by simp, by intro a ha b hb' e; simp at hb'; subst hb'; exact hnk (e ▸ ha)⟩
      have hown2 : w3.ownsRow (w.heap.size + 1) 3 1 v' (ks ++ [k]).length (is_ (ks ++ [k])) := by simpa [is_] using hown'
      have Hown2 := Hid.mk hown2
      have Hrg3 := Hid.mk hrg3
      clear hown' hgrow hnil hown2 hrg3 hrow Hrow2 hrg2 hen
      go_wp2
      go_roundw
      case rel => exact ⟨_, cnt2, ks ++ [k], Hrg3.out, Hown2.out, hnd2, Hmem2.out, hb3, by simp; omega, hsz3⟩
      case measure => rw [Hrg3.out.left_eq, hrg.left_eq]; exact hlt
end Go.Proofs.Ythdgndbmecnimaa
end

section
namespace Go.Proofs.Ythdgndbmecnimaa
open Go.RowKit Go.Maps

abbrev P3 := Int × Int × Int

/-- What is told of a list of picks. -/
def PSrc (w : World) (a : Option Addr) (n : Nat) (l : List P3) : Prop :=
  l.length = n ∧ (a = none → n = 0) ∧ (∀ x, a = some x → ∀ i (hi : i < l.length), ∃ b o, x = ⟨b, o, none⟩ ∧ w.cell? ⟨b, o + i * 3, none⟩ = some (.int .i64 l[i].1) ∧ w.cell? ⟨b, o + i * 3 + 1, none⟩ = some (.int .i64 l[i].2.1) ∧ w.cell? ⟨b, o + i * 3 + 2, none⟩ = some (.int .i64 l[i].2.2)) ∧
    ∀ q ∈ l, q.1 ≤ 9223372036854775807 ∧ q.2.1 ≤ 9223372036854775807 ∧ q.2.2 ≤ 9223372036854775807

/-- The pick that the i-th sector takes. -/
def pickN (l : List P3) (i : Nat) : P3 := if h : 0 < l.length then l[i % l.length]'(Nat.mod_lt _ h) else (0, 0, 0)

def tornBy (S : DS) (k : Nat) (q : P3) : List Int := tornOf S k (max q.1 0).toNat (max q.2.1 0).toNat (max q.2.2 0).toNat

/-- What a sector holds behind the cut. -/
def cutOf (S : DS) (l : List P3) (k : Nat) : List Int := if pendOf S.puts k = [] then dsec S.im k else tornBy S k (pickN l (keysOf S k).length)

def DS.crash (S : DS) (s : Nat) (l : List P3) : DS := { S with im := imOf s (cutOf S l), puts := [], fuse := -1, life := wrap64 (S.life + 1) }

theorem keysOf_succ (S : DS) (s : Nat) : keysOf S (s + 1) = keysOf S s ++ (if pendOf S.puts s = [] then [] else [s]) := by
  unfold keysOf
  rw [List.range_succ, List.filter_append]
  congr 1
  by_cases h : pendOf S.puts s = [] <;> simp [h]

theorem keysOf_idx (S : DS) : ∀ (s j k : Nat), (keysOf S s)[j]? = some k → (keysOf S k).length = j
  | 0, j, k, h => by simp [keysOf] at h
  | s + 1, j, k, h => by
    rw [keysOf_succ] at h
    by_cases hj : j < (keysOf S s).length
    · rw [List.getElem?_append_left hj] at h
      exact keysOf_idx S s j k h
    · rw [List.getElem?_append_right (by omega)] at h
      split at h
      · simp at h
      · have hj0 : j - (keysOf S s).length = 0 := by
          have := (List.getElem?_eq_some_iff.1 h).1
          simp at this
          omega
        rw [hj0] at h
        simp at h
        subst h
        omega

theorem torn_len {S : DS} {s : Nat} (h : S.Ok s) {k : Nat} (hk : k < s) (A B C : Nat) : (tornOf S k A B C).length = 512 := by
  have h1 := DS.cand_len h hk (j := A % ((pendOf S.puts k).length + 1)) (Nat.le_of_lt_succ (Nat.mod_lt _ (by omega)))
  have h2 := DS.cand_len h hk (j := B % ((pendOf S.puts k).length + 1)) (Nat.le_of_lt_succ (Nat.mod_lt _ (by omega)))
  unfold tornOf
  rw [List.length_append, List.length_take, List.length_drop, h1, h2]
  omega

theorem cut_len {S : DS} {s : Nat} (h : S.Ok s) (l : List P3) : ∀ k, k < s → (cutOf S l k).length = 512 := fun k hk => by
  unfold cutOf
  split
  · exact dsec_len h.len hk
  · exact torn_len h hk _ _ _

/-- A sector that has not been torn yet. -/
theorem torn_im (S : DS) (im : List Int) (k A B C : Nat) (h : dsec im k = dsec S.im k) : tornOf { S with im := im } k A B C = tornOf S k A B C := by
  have e : ∀ j, DS.cand { S with im := im } k j = S.cand k j := fun j => by
    unfold DS.cand
    split
    · exact h
    · rfl
  unfold tornOf
  rw [e, e]

theorem mem_take_succ {ks : List Nat} {j k0 : Nat} (h : ks[j]? = some k0) (k : Nat) : k ∈ ks.take (j + 1) ↔ k ∈ ks.take j ∨ k = k0 := by
  rw [List.take_add_one, h]
  simp

theorem not_mem_take {ks : List Nat} (hn : ks.Nodup) {j k0 : Nat} (h : ks[j]? = some k0) : k0 ∉ ks.take j := by
  obtain ⟨hj, e⟩ := List.getElem?_eq_some_iff.1 h
  intro hm
  obtain ⟨i, hi, e2⟩ := List.mem_iff_getElem.1 hm
  rw [List.getElem_take] at e2
  have := List.getElem_inj (h₀ := by simp at hi; omega) (h₁ := hj) hn |>.1 (e2.trans e.symm)
  simp at hi
  omega

/-- One round of a power cut. -/
theorem crash_step {S : DS} {s : Nat} (hok : S.Ok s) (l : List P3) {im : List Int} {j k : Nat} (him : im.length = s * 512) (hk : (keysOf S s)[j]? = some k)
    (hs : ∀ i, i < s → dsec im i = if i ∈ (keysOf S s).take j then cutOf S l i else dsec S.im i) :
    k < s ∧ pendOf S.puts k ≠ [] ∧ tornBy { S with im := im } k (pickN l j) = cutOf S l k ∧ ∀ i, i < s → dsec (splice im (k * 512) (cutOf S l k)) i = if i ∈ (keysOf S s).take (j + 1) then cutOf S l i else dsec S.im i := by
  obtain ⟨hks, hp⟩ := mem_keysOf.1 (List.mem_of_getElem? hk)
  have hnd : (keysOf S s).Nodup := List.Pairwise.filter _ List.nodup_range
  have hni := not_mem_take hnd hk
  have hsk := hs k hks
  rw [if_neg hni] at hsk
  have e : tornBy { S with im := im } k (pickN l j) = cutOf S l k := by
    unfold tornBy cutOf
    rw [if_neg hp, keysOf_idx S s j k hk, torn_im S im k _ _ _ hsk]
    rfl
  refine ⟨hks, hp, e, fun i hi => ?_⟩
  rw [sec_splice him (cut_len hok l k hks) hks]
  by_cases ei : i = k
  · subst ei
    rw [if_pos rfl, if_pos ((mem_take_succ hk i).2 (.inr rfl))]
  · rw [if_neg ei, hs i hi]
    by_cases hm : i ∈ (keysOf S s).take j
    · rw [if_pos hm, if_pos ((mem_take_succ hk i).2 (.inl hm))]
    · rw [if_neg hm, if_neg (fun h => by rcases (mem_take_succ hk i).1 h with h | h; exact hm h; exact ei h)]

theorem crash_all {S : DS} {s : Nat} (hok : S.Ok s) (l : List P3) {im : List Int} (him : im.length = s * 512) (hs : ∀ i, i < s → dsec im i = if i ∈ (keysOf S s).take (keysOf S s).length then cutOf S l i else dsec S.im i) : im = imOf s (cutOf S l) := by
  refine im_ext s him (imOf_len s _ (cut_len hok l)) (fun k hk => ?_)
  rw [hs k hk, sec_imOf s _ (cut_len hok l) k hk, List.take_length]
  by_cases hp : pendOf S.puts k = []
  · rw [if_neg (fun h => (mem_keysOf.1 h).2 hp)]
    simp [cutOf, hp]
  · rw [if_pos (mem_keysOf.2 ⟨hk, hp⟩)]

theorem PSrc.keeps {w w' : World} {a : Option Addr} {n : Nat} {l : List P3} {F : Nat → Prop} (h : PSrc w a n l) (hk : Keeps F w w') (hF : ∀ x, a = some x → ¬ F x.block) : PSrc w' a n l := by
  refine ⟨h.1, h.2.1, fun x hx i hi => ?_, h.2.2.2⟩
  obtain ⟨b, o, rfl, h1, h2, h3⟩ := h.2.2.1 x hx i hi
  have hb := World.block_lt_of_cell? _ _ h1
  have e := hk.block b hb (hF _ hx)
  exact ⟨b, o, rfl, (World.cell?_of_block (w := w) (a := ⟨b, _, none⟩) e).trans h1, (World.cell?_of_block (w := w) (a := ⟨b, _, none⟩) e).trans h2, (World.cell?_of_block (w := w) (a := ⟨b, _, none⟩) e).trans h3⟩

theorem crash_end {w wr w3 : World} {F : Nat → Prop} {p s : Nat} {S : DS} {gi ci m : Nat} {D : DataW Value} {gr cr : Nat → Nat} {im : List Int} {l : List P3} (h : DiskRaw w F p s S gi ci m D gr cr) (hd : DiskRaw wr F p s { S with im := im } gi ci m D gr cr)
    (he : im = imOf s (cutOf S l)) (hk : Keeps F w wr) (hm3 : w3.ownsMap Try.prog 3 Rs m 0 (.map [])) (hk3 : Keeps (fun k => k = m) wr w3) :
    w3.cell? ⟨p, 2, none⟩ = some (.int .i64 S.fuse) ∧ w3.frozen? ⟨p, 2, none⟩ = false ∧ w3.cell? ⟨p, 3, none⟩ = some (.int .i64 S.life) ∧ w3.frozen? ⟨p, 3, none⟩ = false ∧
    DiskAt ((w3.setCell ⟨p, 2, none⟩ (.int .i64 (-1))).setCell ⟨p, 3, none⟩ (.int .i64 (wrap64 (S.life + 1)))) F p s (S.crash s l) ∧ Keeps F w ((w3.setCell ⟨p, 2, none⟩ (.int .i64 (-1))).setCell ⟨p, 3, none⟩ (.int .i64 (wrap64 (S.life + 1)))) := by
  subst he
  have hd3 := hd.cleared hm3 hk3
  have hd4 : DiskRaw (w3.setCell ⟨p, 2, none⟩ (.int .i64 (-1))) F p s { S with im := imOf s (cutOf S l), puts := [], fuse := -1 } gi ci m (.map []) gr cr :=
    hd3.turn (hd3.set 2 _).2 ((hd3.set 2 _).1.trans (by simp [dkCells])) rfl rfl (by simp)
  have hd5 : DiskRaw ((w3.setCell ⟨p, 2, none⟩ (.int .i64 (-1))).setCell ⟨p, 3, none⟩ (.int .i64 (wrap64 (S.life + 1)))) F p s (S.crash s l) gi ci m (.map []) gr cr :=
    hd4.turn (hd4.set 3 _).2 ((hd4.set 3 _).1.trans (by simp [dkCells, DS.crash])) rfl rfl (by simp [DS.crash])
  refine ⟨cell_of_block hd3.blk (j := 2) rfl, frozen_of_block hd3.blk 2, cell_of_block hd3.blk (j := 3) rfl, frozen_of_block hd3.blk 3, ⟨gi, ci, m, _, gr, cr, hd5⟩, ?_⟩
  exact ((hk.trans hk3 (fun j hj => .inl (hj ▸ h.fm))).trans (Keeps.setCell (F := fun k => k = p) w3 (p := ⟨p, 2, none⟩) rfl _) (fun j hj => .inl (hj ▸ h.fp))).trans (Keeps.setCell (F := fun k => k = p) _ (p := ⟨p, 3, none⟩) rfl _) (fun j hj => .inl (hj ▸ h.fp))

/-- The round's tear, whichever pick it is. -/
theorem crash_tear {wr wx : World} {F : Nat → Prop} {p s : Nat} {S : DS} {gi ci m : Nat} {D : DataW Value} {gr cr : Nat → Nat} {im : List Int} {l : List P3} (hbig : S.puts.length + 1 ≤ 5000000000000) (hd : DiskRaw wr F p s { S with im := im } gi ci m D gr cr)
    (hb : Below wr.heap.size wr wx) {j k : Nat} (hks : k < s) (hto : tornBy { S with im := im } k (pickN l j) = cutOf S l k) (A B C : Int) (hq : pickN l j = (A, B, C)) (hA : A ≤ 9223372036854775807) (hB : B ≤ 9223372036854775807) (hC : C ≤ 9223372036854775807) :
    Calls Try.prog 47 #[.pointer (some ⟨p, 0, none⟩), .int .i64 (k : Int), .agg #[.int .i64 A, .int .i64 B, .int .i64 C]] wx fun e w' => e = .returned (.tuple #[]) ∧ DiskRaw w' F p s { S with im := splice im (k * 512) (cutOf S l k) } gi ci m D gr cr ∧ Keeps F wr w' := by
  have hd2 : DiskRaw wx F p s { S with im := im } gi ci m D gr cr := hd.agree hb.size (fun i hi => hb.block i (hd.lt i hi))
  refine (tear_ok hd2 k hks hbig A B C (max A 0).toNat (max B 0).toNat (max C 0).toNat (by omega) (by omega) (by omega) hA hB hC).mono ?_
  rintro e w' ⟨rfl, h1, h2⟩
  refine ⟨rfl, ?_, (Keeps.of_below F hb).trans h2 (fun i hi => .inl hi)⟩
  rw [← hto, hq]
  exact h1

set_option maxHeartbeats 4000000 in
set_option maxRecDepth 100000 in
theorem crash_ok (sorts : SortSaid) (sortn : SortNil) {w : World} {F : Nat → Prop} {p s : Nat} {S : DS} (hd : DiskAt w F p s S) (hbig : S.puts.length + 1 ≤ 5000000000000) (a : Option Addr) (n c : Nat) (l : List P3) (hps : PSrc w a n l) (hn : n ≤ 140737488355328) (hF : ∀ x, a = some x → ¬ F x.block) :
    Calls Try.prog 27 #[.pointer (some ⟨p, 0, none⟩), .slice a n c] w fun e w' => e = .returned (.tuple #[]) ∧ DiskAt w' F p s (S.crash s l) ∧ Keeps F w w' := by
  obtain ⟨gi, ci, m, D, gr, cr, h⟩ := hd
  have hun := unfl_ok sorts sortn h hbig
  have hkl : (keysOf S s).length ≤ 2048 := by
    have := List.length_filter_le (fun k => !(pendOf S.puts k).isEmpty) (List.range s)
    rw [List.length_range] at this
    exact Nat.le_trans this h.ok.hi
  have H := Hid.mk h
  have HP := Hid.mk hps
  clear h hps
  go_enter Try.func27, Try.ntmps27
  go_wp2_with (go_at_call 46; refine hun.mono ?_; rintro e w1 ⟨ak, ck, rfl, hrow, hb1⟩)
  have Hrow := Hid.mk hrow
  have hd1 : DiskRaw w1 F p s { S with im := S.im } gi ci m D gr cr := H.out.agree hb1.size (fun j hj => hb1.block j (H.out.lt j hj))
  have hk1 : Keeps F w w1 := Keeps.of_below F hb1
  clear hun hrow
  go_loopw [4, 5, 6, 10] (fun _ _ _ i wr => ∃ j : Nat, j ≤ (keysOf S s).length ∧ i = .int .i64 (j : Int) ∧ ∃ im, DiskRaw wr F p s { S with im := im } gi ci m D gr cr ∧ (∀ i, i < s → dsec im i = if i ∈ (keysOf S s).take j then cutOf S l i else dsec S.im i) ∧ Keeps F w wr ∧
      (keysOf S s ≠ [] → ∃ g, ak = some ⟨g, 0, none⟩ ∧ RowAt wr 3 g ck (is_ (keysOf S s)) ∧ w.heap.size ≤ g)) (fun _ _ _ i _ => (keysOf S s).length - (intOf i).toNat)
  case atStart => exact ⟨0, Nat.zero_le _, rfl, S.im, hd1, fun i _ => by simp, hk1, fun h => by obtain ⟨g, e, hg, hr⟩ := Hrow.out h; exact ⟨g, e, hr, hg⟩⟩
  case round =>
    clear hd1 hk1 Hrow
    obtain ⟨j, hj, rfl, im, hd, hse, hk, hrow⟩ := hrel
    have Hd := Hid.mk hd
    have Hse := Hid.mk hse
    clear hd hse
    by_cases hlt : j < (keysOf S s).length
    · have hlt' : (j : Int) < ((keysOf S s).length : Int) := by omega
      obtain ⟨g, rfl, hr, hg⟩ := hrow (by intro e; rw [e] at hlt; simp at hlt)
      obtain ⟨k0, hk0⟩ : ∃ k, (keysOf S s)[j]? = some k := ⟨_, List.getElem?_eq_getElem hlt⟩
      have hc0 : wr.cell? ⟨g, j, none⟩ = some (.int .i64 (k0 : Int)) := hr.cell (by simp [is_, hk0])
      obtain ⟨hks, hp, hto, hse2⟩ := crash_step H.out.ok l Hd.out.ok.len hk0 Hse.out
      have Hr := Hid.mk hr
      have Hse2 := Hid.mk hse2
      clear hr hse2
      by_cases hn0 : n = 0
      · subst hn0
        have hq : pickN l j = (0, 0, 0) := by simp [pickN, HP.out.1]
        have hte := fun o => crash_tear hbig Hd.out ((Below.refl wr.heap.size wr).alloc (Nat.le_refl _) o) hks hto 0 0 0 hq (by omega) (by omega) (by omega)
        go_wp2_with (go_at_call 47; refine (hte _).mono ?_; rintro e w5 ⟨rfl, hd5, hk5⟩)
        have hr5 : RowAt w5 3 g ck (is_ (keysOf S s)) := Hr.out.agree (hk5.block g Hr.out.lt (fun hf => by have := H.out.lt g hf; omega))
        have Hd5 := Hid.mk hd5
        have hk6 : Keeps F w w5 := hk.trans hk5 (fun i hi => .inl hi)
        clear hd5 hk5 hte hc0
        go_roundw
        case rel => exact ⟨j + 1, by omega, by go_num, _, Hd5.out, Hse2.out, hk6, fun _ => ⟨g, rfl, hr5, hg⟩⟩
        case measure => simp [intOf]; omega
      · obtain ⟨x, rfl⟩ : ∃ x, a = some x := by
          cases a with
          | none => exact absurd (HP.out.2.1 rfl) hn0
          | some x => exact ⟨x, rfl⟩
        have hll := HP.out.1
        have hlp : 0 < l.length := by omega
        obtain ⟨q, hq⟩ : ∃ q, q = j % n := ⟨_, rfl⟩
        have hqn : q < n := by rw [hq]; exact Nat.mod_lt _ (by omega)
        have hql : q < l.length := by omega
        have hPr := HP.out.keeps hk hF
        obtain ⟨b, o, rfl, p0, p1, p2⟩ := hPr.2.2.1 x rfl q hql
        have hpk : pickN l j = (l[q].1, l[q].2.1, l[q].2.2) := by
          have e1 : j % l.length = q := by rw [hll, hq]
          simp only [pickN, hlp, dif_pos, e1]
        obtain ⟨b1, b2, b3⟩ := hPr.2.2.2 l[q] (List.getElem_mem hql)
        have hte := fun wx hx => crash_tear (wx := wx) hbig Hd.out hx hks hto _ _ _ hpk b1 b2 b3
        have hmo : (j : Int) % (n : Int) = (q : Int) := by rw [hq]; push_cast; rfl
        have hn1 : (0 : Int) < (n : Int) := by omega
        have hq1 : (q : Int) < (n : Int) := by omega
        have hbw := World.block_lt_of_cell? _ _ p0
        have Hte := Hid.mk hte
        clear hte hpk hPr hq hto
        generalize l[q].1 = qa at *
        generalize l[q].2.1 = qb at *
        generalize l[q].2.2 = qc at *
        go_wp2_with fail
        refine (Hte.out _ ((Below.refl wr.heap.size wr).alloc (Nat.le_refl _) _)).mono ?_
        rintro e w5 ⟨rfl, hd5, hk5⟩
        have hr5 : RowAt w5 3 g ck (is_ (keysOf S s)) := Hr.out.agree (hk5.block g Hr.out.lt (fun hf => by have := H.out.lt g hf; omega))
        have Hd5 := Hid.mk hd5
        have hk6 : Keeps F w w5 := hk.trans hk5 (fun i hi => .inl hi)
        clear hd5 hk5 Hte hc0 p0 p1 p2
        go_wp2
        go_roundw
        case rel => exact ⟨j + 1, by omega, by go_num, _, Hd5.out, Hse2.out, hk6, fun _ => ⟨g, rfl, hr5, hg⟩⟩
        case measure => simp [intOf]; omega
    · have hlt' : ¬ (j : Int) < ((keysOf S s).length : Int) := by omega
      obtain ⟨w3, hrun3, hm3, hk3, _⟩ := clear_run Hd.out.map
      have c1 := cell_of_block Hd.out.blk (j := 1) rfl
      have ej : j = (keysOf S s).length := by omega
      rw [ej] at Hse
      have hall := crash_all H.out.ok l Hd.out.ok.len Hse.out
      clear ej
      obtain ⟨c2, f2, c3, f3, hd5, hk5⟩ := crash_end H.out Hd.out hall hk hm3 hk3
      have Hq := Hid.mk (And.intro hd5 hk5)
      clear hd5 hk5 hall hm3 hk3 Hd Hse H hk hrow
      go_wp2
      go_end0
      exact ⟨rfl, Hq.out⟩
end Go.Proofs.Ythdgndbmecnimaa
end

section
namespace Go.Proofs.Ythdgndbmecnimaa
open Go.RowKit Go.Maps

theorem infoPick : (Try.prog.info? 87).map (fun i => (i.zero, i.size, i.bytes)) = some (some (.agg #[.int .i64 0, .int .i64 0, .int .i64 0]), 3, 24) := by kernel_rfl
theorem sizePick : (Try.prog.info? 87).map (·.size) = some 3 := by kernel_rfl

def p3 (l : List P3) : List Value := l.flatMap (fun q => [.int .i64 q.1, .int .i64 q.2.1, .int .i64 q.2.2])

theorem p3_len : ∀ l : List P3, (p3 l).length = l.length * 3
  | [] => rfl
  | q :: l => by have := p3_len l; simp only [p3, List.flatMap_cons, List.length_append, List.length_cons, List.length_nil] at this ⊢; omega

theorem p3_one (l : List P3) : ∀ v ∈ p3 l, v.oneCell' = true := by
  intro v hv
  simp only [p3, List.mem_flatMap] at hv
  obtain ⟨q, _, h⟩ := hv
  simp at h
  rcases h with rfl | rfl | rfl <;> rfl

theorem p3_at : ∀ (l : List P3) (i : Nat) (hi : i < l.length), (p3 l)[i * 3]? = some (.int .i64 l[i].1) ∧ (p3 l)[i * 3 + 1]? = some (.int .i64 l[i].2.1) ∧ (p3 l)[i * 3 + 2]? = some (.int .i64 l[i].2.2)
  | q :: l, 0, _ => by simp [p3]
  | q :: l, i + 1, hi => by
    have := p3_at l i (by simpa using hi)
    have e : p3 (q :: l) = [.int .i64 q.1, .int .i64 q.2.1, .int .i64 q.2.2] ++ p3 l := rfl
    rw [e, List.getElem?_append_right (by simp; omega), List.getElem?_append_right (by simp; omega), List.getElem?_append_right (by simp; omega)]
    simp only [List.length_cons, List.length_nil, List.getElem_cons_succ]
    rw [show (i + 1) * 3 - (0 + 1 + 1 + 1) = i * 3 by omega, show (i + 1) * 3 + 1 - (0 + 1 + 1 + 1) = i * 3 + 1 by omega, show (i + 1) * 3 + 2 - (0 + 1 + 1 + 1) = i * 3 + 2 by omega]
    exact this

theorem p3_src {w : World} {b o n : Nat} {l : List P3} (h : PSrc w (some ⟨b, o, none⟩) n l) (j : Nat) (v : Value) (hv : (p3 l)[j]? = some v) : w.cell? ((⟨b, o, none⟩ : Addr).add j) = some v := by
  rw [addr_add]
  have hj := (List.getElem?_eq_some_iff.1 hv).1
  rw [p3_len] at hj
  obtain ⟨i, t, ht, rfl⟩ : ∃ i t, t < 3 ∧ j = i * 3 + t := ⟨j / 3, j % 3, by omega, by omega⟩
  have hi : i < l.length := by omega
  obtain ⟨e0, e1, e2⟩ := p3_at l i hi
  obtain ⟨b', o', hx, c0, c1, c2⟩ := h.2.2.1 _ rfl i hi
  cases hx
  rw [← Nat.add_assoc]
  match t, ht with
  | 0, _ => rw [Nat.add_zero] at hv ⊢; rw [e0] at hv; rw [c0]; exact hv
  | 1, _ => rw [e1] at hv; rw [c1]; exact hv
  | 2, _ => rw [e2] at hv; rw [c2]; exact hv

theorem p3_to {w : World} {g n : Nat} {l : List P3} (hn : l.length = n) (hb : ∀ q ∈ l, q.1 ≤ 9223372036854775807 ∧ q.2.1 ≤ 9223372036854775807 ∧ q.2.2 ≤ 9223372036854775807) (h : w.heap[g]? = some (.cells (p3 l).toArray 87 (0, 0))) : PSrc w (some ⟨g, 0, none⟩) n l := by
  refine ⟨hn, (fun h => by cases h), fun x hx i hi => ?_, hb⟩
  cases hx
  obtain ⟨e0, e1, e2⟩ := p3_at l i hi
  refine ⟨g, 0, rfl, ?_, ?_, ?_⟩ <;> (simp only [World.cell?, h, Nat.zero_add]; simpa using ‹_›)

/-- copy of elements of three cells. -/
theorem copy3_run (w : World) (ty : TypeId) (g n : Nat) (a : Option Addr) (c d : Nat) (cur : Array Value) (l : List P3) (hg : w.heap[g]? = some (.cells cur 87 (0, 0))) (hcur : cur.size = n * 3) (hs : PSrc w a n l) :
    ∃ w2, (Builtin.copy_ #[83, 83] ty #[.slice (some ⟨g, 0, none⟩) n d, .slice a n c]).run Try.prog w = .ok (goInt n) w2 ∧
      w2.heap[g]? = some (.cells (p3 l).toArray 87 (0, 0)) ∧ Keeps (fun k => k = g) w w2 ∧ w2.heap.size = w.heap.size := by
  have hl := hs.1
  have hmm : Nat.min n n = n := Nat.min_self n
  obtain ⟨i0, hq, _, hi, _⟩ := info_parts infoPick
  by_cases h0 : n = 0
  · subst h0
    obtain rfl : l = [] := List.eq_nil_of_length_eq_zero hl
    have hcz : cur = #[] := Array.eq_empty_of_size_eq_zero (by omega)
    subst hcz
    have hlc : ∀ (x : Addr), (loadCells x 0).run Try.prog w = .ok #[] w := fun x => by simpa using run_loadCells_list (P := Try.prog) w x [] (by simp)
    refine ⟨w, ?_, hg, Keeps.refl _ _, rfl⟩
    cases a <;> simp [Builtin.copy_, run_underlying Try.underlying83, Builtin.lenOf, Builtin.firstCells, sizeOf, typeInfo, hq, storeCells, hlc]
  · obtain ⟨x, rfl⟩ : ∃ x, a = some x := by
      cases a with
      | none => exact absurd (hs.2.1 rfl) h0
      | some x => exact ⟨x, rfl⟩
    obtain ⟨b, o, rfl, _⟩ := hs.2.2.1 x rfl 0 (by omega)
    have hlc := run_loadCells_list (P := Try.prog) w ⟨b, o, none⟩ (p3 l) (p3_src hs)
    rw [p3_len, hl] at hlc
    have hst := run_storeCells_at Try.prog g 0 87 (p3 l) 0 cur w hg (by rw [p3_len]; omega) (p3_one l)
    have e : (List.take (0 + 0) cur.toList ++ p3 l ++ List.drop (0 + 0 + (p3 l).length) cur.toList).toArray = (p3 l).toArray := by
      rw [p3_len, List.drop_of_length_le (by simp; omega)]; simp
    rw [e] at hst
    refine ⟨w.setRow g (p3 l).toArray, ?_, ?_, ⟨rfl, rfl, rfl, by simp, fun k _ hk => setRow_other w g k _ hk⟩, by simp⟩
    · simp [Builtin.copy_, run_underlying Try.underlying83, Builtin.lenOf, Builtin.firstCells, sizeOf, typeInfo, hq, hi, hmm, hlc, hst]
    · exact setRow_heap w g _ _ 87 _ hg

theorem PSrc.later {w w' : World} {a : Option Addr} {n : Nat} {l : List P3} (h : PSrc w a n l) (hb : Below w.heap.size w w') : PSrc w' a n l := h.keeps (Keeps.of_below (fun _ => False) hb) (fun _ _ h => h)

end Go.Proofs.Ythdgndbmecnimaa
end
