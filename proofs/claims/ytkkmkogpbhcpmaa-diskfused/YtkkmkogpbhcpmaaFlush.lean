import Derived.Test.YtkkmkogpbhcpmaaClear
namespace Go.Proofs.Ytkkmkogpbhcpmaa
open Go.RowKit Go.Maps

def DS.flush (S : DS) (s : Nat) : DS := { S with im := imOf s S.now, puts := [], flushes := wrap64 (S.flushes + 1) }

theorem flush_dead {w : World} {F : Nat → Prop} {p s : Nat} {S : DS} (h : DiskAt w F p s S) (hf : S.fuse = 0) :
    Calls Try.prog 14 #[.pointer (some ⟨p, 0, none⟩)] w fun e w' => e = .returned (.int .i64 3) ∧ w' = w := by
  have hb := burnt_at h
  rw [hf] at hb
  go_enter Try.func14, Try.ntmps14
  go_wp2_with (go_at_call 11; refine hb.mono ?_; rintro e w' ⟨rfl, rfl⟩)
  go_ret
  exact ⟨rfl, rfl⟩

/-- One sector is written home. -/
theorem flush_step {w : World} {F : Nat → Prop} {p s : Nat} {S : DS} {gi ci m : Nat} {D : DataW Value} {gr cr : Nat → Nat} (h : DiskRaw w F p s S gi ci m D gr cr) {k : Nat} (hp : pendOf S.puts k ≠ []) :
    k < s ∧ ∃ g cg, w.cell? ⟨gr k, (pendOf S.puts k).length - 1, none⟩ = some (.slice (some ⟨g, 0, none⟩) 512 cg) ∧
      ∃ w2, (Builtin.copy_ #[27, 27] 3 #[.slice (some ⟨gi, k * 512, none⟩) 512 512, .slice (some ⟨g, 0, none⟩) 512 cg]).run Try.prog w = .ok (goInt 512) w2 ∧
        DiskRaw w2 F p s { S with im := splice S.im (k * 512) (S.now k) } gi ci m D gr cr ∧ Keeps (fun b => b = gi) w w2 ∧ w2.heap.size = w.heap.size := by
  have hks : k < s := by
    obtain ⟨l, hl⟩ := List.exists_mem_of_ne_nil _ hp
    unfold pendOf at hl
    obtain ⟨q, hq, _⟩ := List.mem_map.1 hl
    obtain ⟨hq1, hq2⟩ := List.mem_filter.1 hq
    have := (h.ok.puts q hq1).1
    simp at hq2
    omega
  have hn : 0 < (pendOf S.puts k).length := List.length_pos_iff.2 hp
  obtain ⟨_, xs, hrow, hrows⟩ := h.pend.row k hp
  obtain ⟨g, cg, hx, hF, hne, hr⟩ := hrows.get ((pendOf S.puts k).length - 1) (by omega)
  have hl := pend_len h.ok (k := k) (j := (pendOf S.puts k).length - 1) (by omega)
  have hnow : S.now k = (pendOf S.puts k)[(pendOf S.puts k).length - 1] := by
    simp [DS.now, DS.cand, List.getD, show ¬ (pendOf S.puts k).length = 0 by omega, List.getElem?_eq_getElem (show (pendOf S.puts k).length - 1 < (pendOf S.puts k).length by omega)]
  have hsrc := hr.src
  rw [hl] at hsrc
  have hlen := h.ok.len
  obtain ⟨w2, hrun, hr2, hk2, hsz⟩ := h.img.copied 3 (some ⟨gi, k * 512, none⟩) (k * 512) 512 512 (some ⟨g, 0, none⟩) 512 cg _ hsrc (fun _ => rfl) (by omega)
  rw [List.take_of_length_le (by omega), ← hnow] at hr2
  exact ⟨hks, g, cg, hrow.cell hx, w2, hrun, h.imaged hr2 (by rw [splice_len _ _ _ (by rw [hnow]; omega)]; exact hlen) hk2, hk2, hsz⟩

theorem now_im (S : DS) (im : List Int) (k : Nat) (hp : pendOf S.puts k ≠ []) : DS.now { S with im := im } k = S.now k := by
  have hn : 0 < (pendOf S.puts k).length := List.length_pos_iff.2 hp
  simp [DS.now, DS.cand, show ¬ (pendOf S.puts k).length = 0 by omega]

theorem now_none (S : DS) (k : Nat) (hp : pendOf S.puts k = []) : S.now k = sec S.im k := by simp [DS.now, DS.cand, hp]

theorem now_len {S : DS} {s : Nat} (h : S.Ok s) : ∀ k, k < s → (S.now k).length = 512 := fun _ hk => DS.cand_len h hk (Nat.le_refl _)

theorem flush_end {w wr w3 : World} {F : Nat → Prop} {p s : Nat} {S : DS} {gi ci m : Nat} {D : DataW Value} {gr cr : Nat → Nat} {im : List Int} (h : DiskRaw w F p s S gi ci m D gr cr) (hd : DiskRaw wr F p s { S with im := im } gi ci m D gr cr)
    (hl : ∀ k, k < s → sec im k = S.now k) (hk : Keeps F w wr) (hm3 : w3.ownsMap Try.prog 3 Rs m 0 (.map [])) (hk3 : Keeps (fun k => k = m) wr w3) :
    w3.cell? ⟨p, 6, none⟩ = some (.int .i64 S.flushes) ∧ w3.frozen? ⟨p, 6, none⟩ = false ∧
    Calls Try.prog 62 #[.pointer (some ⟨p, 0, none⟩)] (w3.setCell ⟨p, 6, none⟩ (.int .i64 (wrap64 (S.flushes + 1)))) fun e w' => e = .returned (.tuple #[]) ∧ DiskAt w' F p s ((S.flush s).spend) ∧ Keeps F w w' := by
  have e : im = imOf s S.now := im_ext s hd.ok.len (imOf_len s _ (now_len h.ok)) (fun k hk => by
    rw [hl k hk, sec_imOf s _ (now_len h.ok) k hk])
  subst e
  have hd3 := hd.cleared hm3 hk3
  have hd4 := hd3.flushed
  have hk4 : Keeps F w (w3.setCell ⟨p, 6, none⟩ (.int .i64 (wrap64 (S.flushes + 1)))) := (hk.trans hk3 (fun j hj => .inl (hj ▸ h.fm))).trans (Keeps.setCell (F := fun k => k = p) w3 (p := ⟨p, 6, none⟩) rfl _) (fun j hj => .inl (hj ▸ h.fp))
  refine ⟨cell_of_block hd3.blk (j := 6) rfl, frozen_of_block hd3.blk 6, (spend_low p S.fuse _ (cell_of_block hd4.blk (j := 2) rfl) (frozen_of_block hd4.blk 2) hd4.ok.fuse.1).mono ?_⟩
  rintro e w' ⟨rfl, rfl⟩
  have h5 := hd4.spends
  exact ⟨rfl, ⟨gi, ci, m, _, gr, cr, h5.1⟩, hk4.trans h5.2 (fun j hj => .inl hj)⟩

set_option maxHeartbeats 4000000 in
set_option maxRecDepth 100000 in
theorem flush_ok {w : World} {F : Nat → Prop} {p s : Nat} {S : DS} (hd : DiskAt w F p s S) (hf : S.fuse ≠ 0) (hbig : S.puts.length + 1 ≤ 5000000000000) :
    Calls Try.prog 14 #[.pointer (some ⟨p, 0, none⟩)] w fun e w' => e = .returned (.int .i64 0) ∧ DiskAt w' F p s ((S.flush s).spend) ∧ Keeps F w w' := by
  have hb := burnt_at hd
  rw [show (S.fuse == 0) = false by simp [hf]] at hb
  obtain ⟨gi, ci, m, D, gr, cr, h⟩ := hd
  have c1 := cell_of_block h.blk (j := 1) rfl
  have H := Hid.mk h
  clear h
  go_enter Try.func14, Try.ntmps14
  go_wp2_with (first | (go_at_call 11; refine hb.mono ?_; rintro e w' ⟨rfl, hw⟩; have hw' := hw.symm; subst hw') | (at_range; refine wpList_range_own _ rfl _ 96 rfl 3 42 keyInt Try.underlying96 Rs m S.puts.length D rfl H.out.map ?_; intro w0 hrg0 hg0 hs0; go_frame))
  have hk0 : Keeps F w w0 := ⟨hg0.os, hg0.tape, hg0.output, hg0.size, fun k hk _ => hg0.block k hk (by simp)⟩
  have hd0 : DiskRaw w0 F p s { S with im := S.im } gi ci m D gr cr := H.out.agree hg0.size (fun k hk => hg0.block k (H.out.lt k hk) (by simp))
  have hl0 : ∀ k, k < s → sec S.im k = if has D (kk k) then sec S.im k else S.now k := fun k _ => by
    by_cases hp : pendOf S.puts k = []
    · rw [H.out.pend.nope k hp]; simp [now_none S k hp]
    · rw [H.out.pend.has hp]; simp
  clear hg0 hs0 c1 hb
  go_loopw [3, 4] (fun _ _ wr => ∃ (left : Lit → Bool) (cnt : Nat) (im : List Int), wr.ranges Try.prog 3 Rs m w.heap.size S.puts.length D left cnt ∧ DiskRaw wr F p s { S with im := im } gi ci m D gr cr ∧
      (∀ k, k < s → sec im k = if left (kk k) then sec S.im k else S.now k) ∧ Keeps F w wr)
    (fun _ _ wr => wr.rangeLeft m w.heap.size)
  case atStart => exact ⟨_, _, S.im, hrg0, hd0, hl0, hk0⟩
  case round =>
    clear hrg0 hd0 hl0 hk0
    obtain ⟨left, cnt, im, hrg, hd, hl, hk⟩ := hrel
    have Hd := Hid.mk hd
    have Hl := Hid.mk hl
    clear hd hl
    go_wp2_with (at_next; refine wpList_next_ranges _ rfl _ rfl 3 keyInt Rs (Value.int .i64) mkS (fun key kl hkey => by obtain ⟨x, rfl, _⟩ := Maps.keyOf_int_inv Try.underlying3 hkey; exact ⟨x, rfl⟩) Rs_inv m w.heap.size S.puts.length _ _ _ rfl hrg ?_ ?_)
    · intro _ hl0
      obtain ⟨w3, hrun3, hm3, hk3, _⟩ := clear_run Hd.out.map
      have c1 := cell_of_block Hd.out.blk (j := 1) rfl
      obtain ⟨c6, f6, hs2⟩ := flush_end H.out Hd.out (fun k hk => by rw [Hl.out k hk, hl0]; simp) hk hm3 hk3
      clear hk3 hm3 Hd Hl H hk hrg hl0
      go_wp2_with (go_at_call 62; refine hs2.mono ?_; rintro e w5 ⟨rfl, hd5, hk5⟩)
      go_ret
      exact ⟨rfl, hd5, hk5⟩
    · intro x ca cn cc kl yd yp w2 cnt2 hkey hlk hv hat hrg2 hlt hg2 hs2 hen
      obtain ⟨k, rfl, rfl, hp0, hc⟩ := Hd.out.pend.met hkey hv hat
      have hp : pendOf S.puts k ≠ [] := hp0
      obtain ⟨n', hn'⟩ : ∃ n', (pendOf S.puts k).length = n' + 1 := ⟨(pendOf S.puts k).length - 1, by have := List.length_pos_iff.2 hp; omega⟩
      have hnot : ∀ j, F j → j ≠ w.heap.size := fun j hj e => by have := H.out.lt j hj; omega
      have hd2 : DiskRaw w2.drew F p s { S with im := im } gi ci m D gr cr := Hd.out.agree hg2.size (fun j hj => hg2.block j (Hd.out.lt j hj) (by simpa using hnot j hj))
      obtain ⟨hks, g, cg, hcell, w3, hrun, hd3, hk3, hsz3⟩ := flush_step hd2 hp
      have hs := hd2.ok.hi
      have hlim := hd2.img.le
      have hdu := durable_low p gi (s * 512) ci s k k w2.drew (cell_of_block hd2.blk (j := 0) rfl) rfl hks rfl hs (by simp [bs, hd2.ok.len] at hlim; omega)
      obtain ⟨rfl, rfl, rfl⟩ : ca = _ ∧ cn = _ ∧ cc = _ := by simpa using hc
      simp only [hn'] at hen hcell
      have hcell' : w2.cell? ⟨gr k, n', none⟩ = some (.slice (some ⟨g, 0, none⟩) 512 cg) := by simpa using hcell
      have hn2 : n' + 1 ≤ S.puts.length := by rw [← hn']; exact pendOf_len S.puts k
      have hrow2 := (hd2.pend.row k hp).2
      have hb3 : w3.cell? ⟨gr k, n', none⟩ = some (.slice (some ⟨g, 0, none⟩) 512 cg) := by
        obtain ⟨xs, hrow, _⟩ := hrow2
        have hi := hd2.img
        obtain ⟨cur, hbi, _⟩ := hi
        exact (World.cell?_of_block (w := w2.drew) (a := ⟨gr k, n', none⟩) (hk3.block (gr k) hrow.lt (hrow.ne hbi (by decide)))).trans hcell'
      have hnow : DS.now { S with im := im } k = S.now k := now_im S im k hp
      rw [hnow] at hd3
      have hl3 : ∀ j, j < s → sec (splice im (k * 512) (S.now k)) j = if (left (kk j) && !(kk j).sameKey (kk k)) then sec S.im j else S.now j := fun j hj => by
        rw [sec_splice Hd.out.ok.len (now_len H.out.ok k hks) hks, same_kk]
        by_cases e : j = k
        · subst e; simp
        · rw [if_neg e, Hl.out j hj]; simp [e]
      have hgi := H.out.lt gi H.out.fgi
      have hg3 : w2.grownBy w3 (some gi) := ⟨hk3.os, hk3.tape, hk3.output, hk3.size, fun j hj hne => hk3.block j hj (fun e => hne (by rw [e]))⟩
      have hmi : m ≠ gi := by
        have hi := H.out.img
        obtain ⟨cur, hbi, _⟩ := hi
        exact ownsMap_ne H.out.map hbi
      have hrg3 := hrg2.kept hg3 (by simpa using hmi) (by simp; omega)
      have hk23 : Keeps F w w3 := (hk.trans (G := fun j => j = w.heap.size) ⟨hg2.os, hg2.tape, hg2.output, hg2.size, fun j hj hne => hg2.block j hj (by simpa using hne)⟩ (fun j hj => .inr (by omega))).trans (b := w2) (G := fun j => j = gi) ⟨hk3.os, hk3.tape, hk3.output, hk3.size, hk3.block⟩ (fun j hj => .inl (hj ▸ H.out.fgi))
      have Hd3 := Hid.mk hd3
      have Hl3 := Hid.mk hl3
      have Hrg3 := Hid.mk hrg3
      have hcd : w2.drew.cell? ⟨gr k, n', none⟩ = some (.slice (some ⟨g, 0, none⟩) 512 cg) := hcell'
      clear hn' hc hkey hv hat hs2 hcell hd3 hl3 hrg3 hg3 hrow2 hg2 hk3 hd2 hk
      dsimp only [mkS] at hen ⊢
      have hi0 : (0 : Int) ≤ (n' : Int) := by omega
      have hi1 : (n' : Int) < (n' : Int) + 1 := by omega
      have hi2 : IntKind.i64.wrap (n' : Int) = (n' : Int) := by rw [IntKind.wrap_i64]; omega
      go_wp2_with fail
      go_region_held3 (fun w' => w'.cell? ⟨gr k, n', none⟩ = some (.slice (some ⟨g, 0, none⟩) 512 cg)) (assumption) (first | (go_at_call 63; refine hdu.mono ?_; rintro e w' ⟨rfl, rfl⟩))
      all_goals
        go_wp2
        go_roundw
        case rel => exact ⟨_, cnt2, _, Hrg3.out, Hd3.out, Hl3.out, hk23⟩
        case measure => rw [Hrg3.out.left_eq, hrg.left_eq]; exact hlt
end Go.Proofs.Ytkkmkogpbhcpmaa
