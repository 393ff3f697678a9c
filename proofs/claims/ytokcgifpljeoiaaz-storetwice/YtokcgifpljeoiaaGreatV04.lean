import Derived.Test.YtokcgifpljeoiaaGreatV01
import Derived.Test.YtokcgifpljeoiaaGreatV02
import Derived.Test.YtokcgifpljeoiaaGreatV03
import Derived.Shelf.Lays
import Derived.Test.YtokcgifpljeoiaaGreatProg
import Derived.Shelf.Sort.AssemblyIn
import Derived.Sort.EveryDepth
import Derived.Sort.OwnSortedInts
section
namespace Go.Proofs.YtokcgifpljeoiaaGreat
open Go.RowKit Go.Maps

def DS.flush (S : DS) (s : Nat) : DS := { S with im := imOf s S.now, puts := [], flushes := wrap64 (S.flushes + 1) }

theorem flush_dead {w : World} {F : Nat → Prop} {p s : Nat} {S : DS} (h : DiskAt w F p s S) (hf : S.fuse = 0) :
    Calls Tryz.prog 79 #[.pointer (some ⟨p, 0, none⟩)] w fun e w' => e = .returned (.int .i64 3) ∧ w' = w := by
  have hb := burnt_at h
  rw [hf] at hb
  go_enter Tryz.func79, Tryz.ntmps79
  go_wp2_with (go_at_call 51; refine hb.mono ?_; rintro e w' ⟨rfl, rfl⟩)
  go_ret
  exact ⟨rfl, rfl⟩

/-- One sector is written home. -/
theorem flush_step {w : World} {F : Nat → Prop} {p s : Nat} {S : DS} {gi ci m : Nat} {D : DataW Value} {gr cr : Nat → Nat} (h : DiskRaw w F p s S gi ci m D gr cr) {k : Nat} (hp : pendOf S.puts k ≠ []) :
    k < s ∧ ∃ g cg, w.cell? ⟨gr k, (pendOf S.puts k).length - 1, none⟩ = some (.slice (some ⟨g, 0, none⟩) 512 cg) ∧
      ∃ w2, (Builtin.copy_ #[22, 22] 3 #[.slice (some ⟨gi, k * 512, none⟩) 512 512, .slice (some ⟨g, 0, none⟩) 512 cg]).run Tryz.prog w = .ok (goInt 512) w2 ∧
        DiskRaw w2 F p s { S with im := splice S.im (k * 512) (S.now k) } gi ci m D gr cr ∧ Keeps (fun b => b = gi) w w2 ∧ w2.heap.size = w.heap.size := by
  have hks : k < s := by
    obtain ⟨l, hl⟩ := List.exists_mem_of_ne_nil _ hp
    unfold pendOf at hl
    obtain ⟨q, hq, _⟩ := List.mem_map.1 hl
    obtain ⟨hq1, hq2⟩ := List.mem_filter.1 hq
    have := (h.ok.puts q hq1).1
    simp at hq2
    omega
  have hn := List.length_pos_iff.2 hp
  obtain ⟨_, xs, hrow, hrows⟩ := h.pend.row k hp
  obtain ⟨g, cg, hx, hF, hne, hr⟩ := hrows.get ((pendOf S.puts k).length - 1) (by omega)
  have hl := pend_len h.ok (k := k) (j := (pendOf S.puts k).length - 1) (by omega)
  have hnow : S.now k = (pendOf S.puts k)[(pendOf S.puts k).length - 1] := by
    simp [DS.now, DS.cand, List.getD, show ¬ (pendOf S.puts k).length = 0 by omega, List.getElem?_eq_getElem (show (pendOf S.puts k).length - 1 < (pendOf S.puts k).length by omega)]
  have hsrc := hr.src
  rw [hl] at hsrc
  have hlen := h.ok.len
  obtain ⟨w2, hrun, hr2, hk2, hsz⟩ := h.img.copied 3 (some ⟨gi, k * 512, none⟩) (k * 512) 512 512 (some ⟨g, 0, none⟩) 512 cg _ hsrc (fun _ => rfl) (by omega)
  rw [List.take_of_length_le (by omega), ← hnow] at hr2
  exact ⟨hks, g, cg, hrow.cell hx, w2, hrun, h.imaged hr2 (by rw [splice_len _ _ _ (by rw [hnow]; omega)]; exact hlen) hk2, hk2, hsz⟩

theorem now_im (S : DS) (im : List Int) (k : Nat) (hp : pendOf S.puts k ≠ []) : DS.now { S with im := im } k = S.now k := by
  have hn := List.length_pos_iff.2 hp
  simp [DS.now, DS.cand, show ¬ (pendOf S.puts k).length = 0 by omega]

theorem now_none (S : DS) (k : Nat) (hp : pendOf S.puts k = []) : S.now k = dsec S.im k := by simp [DS.now, DS.cand, hp]

theorem now_len {S : DS} {s : Nat} (h : S.Ok s) : ∀ k, k < s → (S.now k).length = 512 := fun _ hk => DS.cand_len h hk (Nat.le_refl _)

theorem flush_end {w wr w3 : World} {F : Nat → Prop} {p s : Nat} {S : DS} {gi ci m : Nat} {D : DataW Value} {gr cr : Nat → Nat} {im : List Int} (h : DiskRaw w F p s S gi ci m D gr cr) (hd : DiskRaw wr F p s { S with im := im } gi ci m D gr cr)
    (hl : ∀ k, k < s → dsec im k = S.now k) (hk : Keeps F w wr) (hm3 : w3.ownsMap Tryz.prog 3 Rs m 0 (.map [])) (hk3 : Keeps (fun k => k = m) wr w3) :
    w3.cell? ⟨p, 6, none⟩ = some (.int .i64 S.flushes) ∧ w3.frozen? ⟨p, 6, none⟩ = false ∧
    Calls Tryz.prog 112 #[.pointer (some ⟨p, 0, none⟩)] (w3.setCell ⟨p, 6, none⟩ (.int .i64 (wrap64 (S.flushes + 1)))) fun e w' => e = .returned (.tuple #[]) ∧ DiskAt w' F p s ((S.flush s).spend) ∧ Keeps F w w' := by
  have e : im = imOf s S.now := im_ext s hd.ok.len (imOf_len s _ (now_len h.ok)) (fun k hk => by
    rw [hl k hk, sec_imOf s _ (now_len h.ok) k hk])
  subst e
  have hd3 := hd.cleared hm3 hk3
  have hd4 := hd3.flushed
  have hk4 : Keeps F w (w3.setCell ⟨p, 6, none⟩ (.int .i64 (wrap64 (S.flushes + 1)))) := (hk.trans hk3 (fun j hj => .inl (hj ▸ h.fm))).trans (Keeps.setCell (F := fun k => k = p) w3 (p := ⟨p, 6, none⟩) rfl _) (fun j hj => .inl (hj ▸ h.fp))
  refine ⟨cell_of_block hd3.blk (j := 6) rfl, frozen_of_block hd3.blk 6, (spend_low p S.fuse _ (cell_of_block hd4.blk (j := 2) rfl) (frozen_of_block hd4.blk 2) hd4.ok.fuse.1).mono ?_⟩
  rintro e w' ⟨rfl, rfl⟩
  have h5 := hd4.spends
  exact ⟨rfl, ⟨gi, ci, m, _, gr, cr, h5.1⟩, hk4.trans h5.2 (fun j hj => .inl hj)⟩

set_option maxHeartbeats 4000000 in
set_option maxRecDepth 100000 in
theorem flush_ok {w : World} {F : Nat → Prop} {p s : Nat} {S : DS} (hd : DiskAt w F p s S) (hf : S.fuse ≠ 0) (hbig : S.puts.length + 1 ≤ 5000000000000) :
    Calls Tryz.prog 79 #[.pointer (some ⟨p, 0, none⟩)] w fun e w' => e = .returned (.int .i64 0) ∧ DiskAt w' F p s ((S.flush s).spend) ∧ Keeps F w w' := by
  have hb := burnt_at hd
  rw [show (S.fuse == 0) = false by simp [hf]] at hb
  obtain ⟨gi, ci, m, D, gr, cr, h⟩ := hd
  have c1 := cell_of_block h.blk (j := 1) rfl
  have H := h
  go_enter Tryz.func79, Tryz.ntmps79
  go_wp2_with (first | (go_at_call 51; refine hb.mono ?_; rintro e w' ⟨rfl, hw⟩; have hw' := hw.symm; subst hw') | (at_range; refine wpList_range_own _ rfl _ 106 rfl 3 33 keyInt Tryz.underlying106 Rs m S.puts.length D rfl H.map ?_; intro w0 hrg0 hg0 hs0; go_frame))
  have hk0 : Keeps F w w0 := ⟨hg0.os, hg0.tape, hg0.output, hg0.size, fun k hk _ => hg0.block k hk (by simp)⟩
  have hd0 := H.agree hg0.size (fun k hk => hg0.block k (H.lt k hk) (by simp))
  have hl0 : ∀ k, k < s → dsec S.im k = if has D (kk k) then dsec S.im k else S.now k := fun k _ => by
    by_cases hp : pendOf S.puts k = []
    · rw [H.pend.nope k hp]; simp [now_none S k hp]
    · rw [H.pend.has hp]; simp
  go_loopw [3, 4] (fun _ _ wr => ∃ (left : Lit → Bool) (cnt : Nat) (im : List Int), wr.ranges Tryz.prog 3 Rs m w.heap.size S.puts.length D left cnt ∧ DiskRaw wr F p s { S with im := im } gi ci m D gr cr ∧
      (∀ k, k < s → dsec im k = if left (kk k) then dsec S.im k else S.now k) ∧ Keeps F w wr)
    (fun _ _ wr => wr.rangeLeft m w.heap.size)
  case atStart => exact ⟨_, _, S.im, hrg0, hd0, hl0, hk0⟩
  case round =>
    obtain ⟨left, cnt, im, hrg, hd, hl, hk⟩ := hrel
    have Hd := hd
    have Hl := hl
    go_wp2_with (at_next; refine wpList_next_ranges _ rfl _ rfl 3 keyInt Rs (Value.int .i64) mkS (fun key kl hkey => by obtain ⟨x, rfl, _⟩ := Maps.keyOf_int_inv Tryz.underlying3 hkey; exact ⟨x, rfl⟩) Rs_inv m w.heap.size S.puts.length _ _ _ rfl hrg ?_ ?_)
    · intro _ hl0
      obtain ⟨w3, hrun3, hm3, hk3, _⟩ := clear_run Hd.map
      have c1 := cell_of_block Hd.blk (j := 1) rfl
      obtain ⟨c6, f6, hs2⟩ := flush_end H Hd (fun k hk => by rw [Hl k hk, hl0]; simp) hk hm3 hk3
      go_wp2_with (go_at_call 112; refine hs2.mono ?_; rintro e w5 ⟨rfl, hd5, hk5⟩)
      go_ret
      exact ⟨rfl, hd5, hk5⟩
    · intro x ca cn cc kl yd yp w2 cnt2 hkey hlk hv hat hrg2 hlt hg2 hs2 hen
      obtain ⟨k, rfl, rfl, hp0, hc⟩ := Hd.pend.met hkey hv hat
      have hp : pendOf S.puts k ≠ [] := hp0
      obtain ⟨n', hn'⟩ : ∃ n', (pendOf S.puts k).length = n' + 1 := ⟨(pendOf S.puts k).length - 1, by have := List.length_pos_iff.2 hp; omega⟩
      have hnot : ∀ j, F j → j ≠ w.heap.size := fun j hj e => by have := H.lt j hj; omega
      have hd2 : DiskRaw w2.drew F p s { S with im := im } gi ci m D gr cr := Hd.agree hg2.size (fun j hj => hg2.block j (Hd.lt j hj) (by simpa using hnot j hj))
      obtain ⟨hks, g, cg, hcell, w3, hrun, hd3, hk3, hsz3⟩ := flush_step hd2 hp
      have hlim := hd2.img.le
      have hdu := durable_low p gi (s * 512) ci s k k w2.drew (cell_of_block hd2.blk (j := 0) rfl) rfl hks rfl hd2.ok.hi (by simp [bs, hd2.ok.len] at hlim; omega)
      obtain ⟨rfl, rfl, rfl⟩ : ca = _ ∧ cn = _ ∧ cc = _ := by simpa using hc
      simp only [hn'] at hen hcell
      have hcell' : w2.cell? ⟨gr k, n', none⟩ = some (.slice (some ⟨g, 0, none⟩) 512 cg) := by simpa using hcell
      have hn2 : n' + 1 ≤ S.puts.length := by rw [← hn']; exact pendOf_len S.puts k
      have hb3 : w3.cell? ⟨gr k, n', none⟩ = some (.slice (some ⟨g, 0, none⟩) 512 cg) := by
        obtain ⟨xs, hrow, _⟩ := (hd2.pend.row k hp).2
        obtain ⟨cur, hbi, _⟩ := hd2.img
        exact (World.cell?_of_block (w := w2.drew) (a := ⟨gr k, n', none⟩) (hk3.block (gr k) hrow.lt (hrow.ne hbi (by decide)))).trans hcell'
      rw [(now_im S im k hp)] at hd3
      have hl3 : ∀ j, j < s → dsec (splice im (k * 512) (S.now k)) j = if (left (kk j) && !(kk j).sameKey (kk k)) then dsec S.im j else S.now j := fun j hj => by
        rw [sec_splice Hd.ok.len (now_len H.ok k hks) hks, same_kk]
        by_cases e : j = k
        · subst e; simp
        · rw [if_neg e, Hl j hj]; simp [e]
      have hgi := H.lt gi H.fgi
      have hg3 : w2.grownBy w3 (some gi) := ⟨hk3.os, hk3.tape, hk3.output, hk3.size, fun j hj hne => hk3.block j hj (fun e => hne (by rw [e]))⟩
      have hmi : m ≠ gi := by
        obtain ⟨cur, hbi, _⟩ := H.img
        exact ownsMap_ne H.map hbi
      have hrg3 := hrg2.kept hg3 (by simpa using hmi) (by simp; omega)
      have Hrg3 := hrg3
      have hcd : w2.drew.cell? ⟨gr k, n', none⟩ = some (.slice (some ⟨g, 0, none⟩) 512 cg) := hcell'
      dsimp only [mkS] at hen ⊢
      have hi0 : (0 : Int) ≤ (n' : Int) := by omega
      have hi1 : (n' : Int) < (n' : Int) + 1 := by omega
      have hi2 : IntKind.i64.wrap (n' : Int) = (n' : Int) := by rw [IntKind.wrap_i64]; omega
      go_wp2_with fail
      go_region_held3 (fun w' => w'.cell? ⟨gr k, n', none⟩ = some (.slice (some ⟨g, 0, none⟩) 512 cg)) (assumption) (first | (go_at_call 92; refine hdu.mono ?_; rintro e w' ⟨rfl, rfl⟩))
      all_goals
        go_wp2
        go_roundw
        case rel => exact ⟨_, cnt2, _, Hrg3, hd3, hl3, ((hk.trans (G := fun j => j = w.heap.size) ⟨hg2.os, hg2.tape, hg2.output, hg2.size, fun j hj hne => hg2.block j hj (by simpa using hne)⟩ (fun j hj => .inr (by omega))).trans (b := w2) (G := fun j => j = gi) ⟨hk3.os, hk3.tape, hk3.output, hk3.size, hk3.block⟩ (fun j hj => .inl (hj ▸ H.fgi)))⟩
        case measure => rw [Hrg3.left_eq, hrg.left_eq]; exact hlt
end Go.Proofs.YtokcgifpljeoiaaGreat
end

section
namespace Go.Proofs.YtokcgifpljeoiaaGreat
open Go.RowKit Go.Maps

theorem write_dead {w : World} {F : Nat → Prop} {p s : Nat} {S : DS} (h : DiskAt w F p s S) (at_ : Int) (a : Option Addr) (n c : Nat) (hf : S.fuse = 0) :
    Calls Tryz.prog 78 #[.pointer (some ⟨p, 0, none⟩), .int .i64 at_, .slice a n c] w fun e w' => e = .returned (.int .i64 3) ∧ w' = w := by
  have hb := burnt_at h
  rw [hf] at hb
  go_enter Tryz.func78, Tryz.ntmps78
  go_wp2_with (go_at_call 51; refine hb.mono ?_; rintro e w' ⟨rfl, rfl⟩)
  go_ret
  exact ⟨rfl, rfl⟩

theorem write_range {w : World} {F : Nat → Prop} {p s : Nat} {S : DS} (h : DiskAt w F p s S) (at_ : Int) (a0 : Option Addr) (n c : Nat) (hf : S.fuse ≠ 0) (ha : at_ < 0 ∨ (s : Int) ≤ at_) :
    Calls Tryz.prog 78 #[.pointer (some ⟨p, 0, none⟩), .int .i64 at_, .slice a0 n c] w fun e w' => e = .returned (.int .i64 11) ∧ DiskAt w' F p s S.refuse ∧ Keeps F w w' := by
  have hb := burnt_at h
  rw [show (S.fuse == 0) = false by simp [hf]] at hb
  obtain ⟨gi, ci, m, D, gr, cr, h⟩ := h
  have hs := h.ok.hi
  have hh := has_low p _ (s * 512) ci at_ w (by omega) (cell_of_block h.blk (j := 0) rfl)
  rw [show s * 512 / 512 = s by omega, show (decide (0 ≤ at_) && decide (at_ < (s : Int))) = false by simp; omega] at hh
  have hr2 : Calls Tryz.prog 111 #[.pointer (some ⟨p, 0, none⟩), .int .i64 11] w fun e w' => e = .returned (.int .i64 11) ∧ DiskAt w' F p s S.refuse ∧ Keeps F w w' :=
    (refuse_low p S.refused 11 w (cell_of_block h.blk (j := 7) rfl) (frozen_of_block h.blk 7)).mono (by rintro e w' ⟨rfl, rfl⟩; exact ⟨rfl, ⟨gi, ci, m, D, gr, cr, h.refused⟩, Keeps.setCell w h.fp _⟩)
  go_enter Tryz.func78, Tryz.ntmps78
  go_wp2_with (first | (go_at_call 51; refine hb.mono ?_; rintro e w' ⟨rfl, hw⟩; have hw' := hw.symm; subst hw') | (go_at_call 110; refine hh.mono ?_; rintro e w' ⟨rfl, hw⟩; have hw' := hw.symm; subst hw') | (go_at_call 111; refine hr2.mono ?_; rintro e w' ⟨rfl, hd, hk⟩))
  go_ret
  exact ⟨rfl, hd, hk⟩

theorem write_length {w : World} {F : Nat → Prop} {p s : Nat} {S : DS} (h : DiskAt w F p s S) (k : Nat) (a0 : Option Addr) (n c : Nat) (hf : S.fuse ≠ 0) (hk : k < s) (hn : n ≠ 512) :
    Calls Tryz.prog 78 #[.pointer (some ⟨p, 0, none⟩), .int .i64 (k : Int), .slice a0 n c] w fun e w' => e = .returned (.int .i64 2) ∧ DiskAt w' F p s S.refuse ∧ Keeps F w w' := by
  have hb := burnt_at h
  rw [show (S.fuse == 0) = false by simp [hf]] at hb
  obtain ⟨gi, ci, m, D, gr, cr, h⟩ := h
  have hs := h.ok.hi
  have hh := has_low p _ (s * 512) ci k w (by omega) (cell_of_block h.blk (j := 0) rfl)
  rw [show s * 512 / 512 = s by omega, show (decide (0 ≤ (k : Int)) && decide ((k : Int) < (s : Int))) = true by simp; omega] at hh
  have hr2 : Calls Tryz.prog 111 #[.pointer (some ⟨p, 0, none⟩), .int .i64 2] w fun e w' => e = .returned (.int .i64 2) ∧ DiskAt w' F p s S.refuse ∧ Keeps F w w' :=
    (refuse_low p S.refused 2 w (cell_of_block h.blk (j := 7) rfl) (frozen_of_block h.blk 7)).mono (by rintro e w' ⟨rfl, rfl⟩; exact ⟨rfl, ⟨gi, ci, m, D, gr, cr, h.refused⟩, Keeps.setCell w h.fp _⟩)
  have hne : ((n : Int) != 512) = true := by rw [bne_iff_ne]; omega
  go_enter Tryz.func78, Tryz.ntmps78
  go_wp2_with (first | (go_at_call 51; refine hb.mono ?_; rintro e w' ⟨rfl, hw⟩; have hw' := hw.symm; subst hw') | (go_at_call 110; refine hh.mono ?_; rintro e w' ⟨rfl, hw⟩; have hw' := hw.symm; subst hw') | (go_at_call 111; refine hr2.mono ?_; rintro e w' ⟨rfl, hd, hk⟩))
  go_ret
  exact ⟨rfl, hd, hk⟩

def DS.lay (S : DS) (calls : Int) : DS := if S.fuse = 0 then S else { S with fuse := max calls (-1) }
def DS.take (S : DS) : DS := { S with life := wrap64 (S.life + 1) }

theorem fuse_at {w : World} {F : Nat → Prop} {p s : Nat} {S : DS} (h : DiskAt w F p s S) (calls : Int) (hc : calls ≤ 9223372036854775807) :
    Calls Tryz.prog 14 #[.pointer (some ⟨p, 0, none⟩), .int .i64 calls] w fun e w' => e = .returned (.tuple #[]) ∧ DiskAt w' F p s (S.lay calls) ∧ Keeps F w w' := by
  obtain ⟨gi, ci, m, D, gr, cr, h⟩ := h
  refine (fuse_low p S.fuse calls w (cell_of_block h.blk (j := 2) rfl) (frozen_of_block h.blk 2)).mono ?_
  rintro e w' ⟨rfl, rfl⟩
  by_cases hf : S.fuse = 0
  · simp only [hf, if_true, DS.lay]
    exact ⟨trivial, ⟨gi, ci, m, D, gr, cr, h⟩, Keeps.refl _ _⟩
  · simp only [hf, if_false, DS.lay]
    exact ⟨trivial, ⟨gi, ci, m, D, gr, cr, h.turn (h.set 2 _).2 ((h.set 2 _).1.trans (by simp [dkCells])) rfl rfl (by simp only; omega)⟩, Keeps.setCell w h.fp _⟩

theorem take_at {w : World} {F : Nat → Prop} {p s : Nat} {S : DS} (h : DiskAt w F p s S) :
    Calls Tryz.prog 75 #[.pointer (some ⟨p, 0, none⟩)] w fun e w' => e = .returned (.int .i64 (wrap64 (S.life + 1))) ∧ DiskAt w' F p s S.take ∧ Keeps F w w' := by
  obtain ⟨gi, ci, m, D, gr, cr, h⟩ := h
  refine (take_low p S.life w (cell_of_block h.blk (j := 3) rfl) (frozen_of_block h.blk 3)).mono ?_
  rintro e w' ⟨rfl, rfl⟩
  exact ⟨rfl, ⟨gi, ci, m, D, gr, cr, h.turn (h.set 3 _).2 ((h.set 3 _).1.trans (by simp [dkCells, DS.take])) rfl rfl h.ok.fuse⟩, Keeps.setCell w h.fp _⟩

end Go.Proofs.YtokcgifpljeoiaaGreat
end

section
namespace Go.Proofs.YtokcgifpljeoiaaGreat
open Go.RowKit Go.Maps

/-- What a pick makes of a sector. -/
def tornOf (S : DS) (k : Nat) (A B C : Nat) : List Int :=
  (S.cand k (A % ((pendOf S.puts k).length + 1))).take (C % 513) ++ (S.cand k (B % ((pendOf S.puts k).length + 1))).drop (C % 513)

theorem cand_int {w : World} {F : Nat → Prop} {p s : Nat} {S : DS} {gi ci m : Nat} {D : DataW Value} {gr cr : Nat → Nat} (h : DiskRaw w F p s S gi ci m D gr cr) (k : Nat) (hk : k < s) (j : Nat) (jj : Int) (hjj : jj = (j : Int)) (hj : j ≤ (pendOf S.puts k).length) (hbig : S.puts.length ≤ 140737488355328) :
    Calls Tryz.prog 91 #[.pointer (some ⟨p, 0, none⟩), .int .i64 (k : Int), .int .i64 jj] w fun e w' => ∃ g o c, e = .returned (.slice (some ⟨g, o, none⟩) 512 c) ∧ F g ∧ 512 ≤ c ∧ (g = gi → o = k * 512 ∧ S.cand k j = dsec S.im k) ∧ Src w (some ⟨g, o, none⟩) 512 (S.cand k j) ∧ w' = w := by
  subst hjj
  exact cand_any h k hk j hj hbig

theorem run_max (x : Int) (y : Nat) (h : max x 0 = (y : Int)) (w : World) : (Builtin.max_ #[3, 3] 3 #[.int .i64 x, .int .i64 0]).run Tryz.prog w = .ok (.int .i64 (y : Int)) w := by
  rw [← h]
  by_cases hx : x < 0
  · simp [Builtin.max_, Builtin.max2, hx, show max x 0 = 0 by omega]
  · simp [Builtin.max_, Builtin.max2, hx, show max x 0 = x by omega]

theorem Src.front {w : World} {x : Addr} {n j : Nat} {l : List Int} (h : Src w (some x) n l) (hj : j ≤ n) : Src w (some x) j (l.take j) := by
  have hl := h.1
  refine ⟨by rw [List.length_take]; omega, (fun h => by cases h), fun y hy i hi => ?_⟩
  rw [h.2.2 y hy i (by omega)]
  simp [List.getD, hi]

theorem splice_two (im la lb : List Int) (o cut n : Nat) (hn : cut ≤ n) (hla : la.length = n) (hlb : lb.length = n) (hl : o + n ≤ im.length) :
    splice (splice im o (la.take cut)) (o + cut) (lb.drop cut) = splice im o (la.take cut ++ lb.drop cut) := by
  have e1 : (la.take cut).length = cut := by rw [List.length_take]; omega
  have e2 : (lb.drop cut).length = n - cut := by rw [List.length_drop]; omega
  have e3 : (la.take cut ++ lb.drop cut).length = n := by rw [List.length_append, e1, e2]; omega
  have e4 : (splice im o (la.take cut)).length = im.length := splice_len _ _ _ (by omega)
  apply List.ext_getElem?
  intro i
  rw [getElem_splice _ _ _ (by omega), getElem_splice _ _ _ (by omega), getElem_splice _ _ _ (by omega), e1, e2, e3]
  by_cases h1 : o ≤ i ∧ i < o + cut
  · rw [if_neg (by omega), if_pos (by omega), if_pos (by omega), List.getElem?_append_left (by omega)]
  · by_cases h2 : o + cut ≤ i ∧ i < o + n
    · rw [if_pos (by omega), if_pos (by omega), List.getElem?_append_right (by omega), e1, show i - (o + cut) = i - o - cut by omega]
    · rw [if_neg (by omega), if_neg (by omega), if_neg (by omega)]

theorem getD_behind (im la : List Int) (k cut i : Nat) (hla : (la.take cut).length = cut) (hl : k * 512 + cut ≤ im.length) (hi : cut + i < 512) :
    (splice im (k * 512) (la.take cut)).getD (k * 512 + (cut + i)) 0 = (dsec im k).getD (cut + i) 0 := by
  rw [List.getD, List.getD, getElem_splice _ _ _ (by omega), if_neg (by omega), getElem_sec, if_pos hi]

/-- The two copies of a torn sector. -/
theorem tear_run {w : World} {F : Nat → Prop} {p s : Nat} {S : DS} {gi ci m : Nat} {D : DataW Value} {gr cr : Nat → Nat} (h : DiskRaw w F p s S gi ci m D gr cr) {k : Nat} (hk : k < s) {cut : Nat} (hcut : cut ≤ 512) {la lb : List Int}
    {ga oa ca gb ob : Nat} (hsa : Src w (some ⟨ga, oa, none⟩) 512 la) (hsb : Src w (some ⟨gb, ob, none⟩) 512 lb) (hgb : gb = gi → ob = k * 512 ∧ lb = dsec S.im k) :
    ∃ w2, (Builtin.copy_ #[22, 22] 3 #[.slice (some ⟨gi, k * 512, none⟩) cut 512, .slice (some ⟨ga, oa, none⟩) cut ca]).run Tryz.prog w = .ok (goInt (Nat.min cut cut)) w2 ∧ w2.heap.size = w.heap.size ∧
      (∀ dp sp c1 c2, (cut < 512 → dp = some ⟨gi, k * 512 + cut, none⟩ ∧ sp = some ⟨gb, ob + cut, none⟩) →
        ∃ w3, (Builtin.copy_ #[22, 22] 3 #[.slice dp (512 - cut) c1, .slice sp (512 - cut) c2]).run Tryz.prog w2.drew = .ok (goInt (Nat.min (512 - cut) (512 - cut))) w3 ∧
          DiskRaw w3 F p s { S with im := splice S.im (k * 512) (la.take cut ++ lb.drop cut) } gi ci m D gr cr ∧ Keeps F w w3) := by
  have hlen := h.ok.len
  have hla := hsa.1
  have hlb := hsb.1
  obtain ⟨w2, hrun, hr2, hk2, hsz⟩ := h.img.copied 3 (some ⟨gi, k * 512, none⟩) (k * 512) cut 512 (some ⟨ga, oa, none⟩) cut ca (la.take cut) (hsa.front hcut) (fun _ => rfl) (by omega)
  rw [List.take_take, Nat.min_self] at hr2
  have hl2 : (splice S.im (k * 512) (la.take cut)).length = s * 512 := by rw [splice_len _ _ _ (by rw [List.length_take]; omega)]; exact hlen
  refine ⟨w2, hrun, hsz, fun dp sp c1 c2 hdp => ?_⟩
  have hr2' : RowAt w2.drew 5 gi ci (bs (splice S.im (k * 512) (la.take cut))) := hr2
  have hsrc : Src w2.drew sp (512 - cut) (lb.drop cut) := by
    refine ⟨by rw [List.length_drop]; omega, fun e => ?_, fun y hy i hi => ?_⟩
    · by_cases h5 : cut < 512
      · rw [(hdp h5).2] at e; cases e
      · omega
    · have h5 : cut < 512 := by omega
      rw [(hdp h5).2] at hy
      cases hy
      rw [addr_add]
      have h0 := hsb.2.2 _ rfl (cut + i) (by omega)
      rw [addr_add] at h0
      have hv : (lb.drop cut).getD i 0 = lb.getD (cut + i) 0 := by simp [List.getD]
      rw [hv]
      by_cases hg : gb = gi
      · obtain ⟨rfl, rfl⟩ := hgb hg
        subst hg
        have h1 := hr2'.byte (i := k * 512 + (cut + i)) (by omega)
        rw [addr_add, Nat.zero_add] at h1
        rw [Nat.add_assoc, h1, getD_behind _ _ _ _ _ (by rw [List.length_take]; omega) (by omega) (by omega)]
      · have := World.cell?_of_block (w := w) (w' := w2) (a := ⟨gb, ob + (cut + i), none⟩) (hk2.block gb (World.block_lt_of_cell? _ _ h0) hg)
        rw [Nat.add_assoc]
        exact this.trans h0
  obtain ⟨w3, hrun3, hr3, hk3, _⟩ := hr2'.copied 3 dp (k * 512 + cut) (512 - cut) c1 sp (512 - cut) c2 (lb.drop cut) hsrc (fun h5 => (hdp (by omega)).1) (by omega)
  rw [List.take_of_length_le (l := lb.drop cut) (by rw [List.length_drop]; omega)] at hr3
  have e := splice_two S.im la lb (k * 512) cut 512 hcut hla hlb (by omega)
  rw [e] at hr3
  have hk23 := hk2.trans (b := w2) (G := fun b => b = gi) ⟨hk3.os, hk3.tape, hk3.output, hk3.size, hk3.block⟩ (fun j hj => .inl hj)
  exact ⟨w3, hrun3, h.imaged hr3 (by rw [splice_len _ _ _ (by rw [List.length_append, List.length_take, List.length_drop]; omega)]; exact hlen) hk23, hk23.mono (fun b hb => hb ▸ h.fgi)⟩

set_option maxHeartbeats 4000000 in
set_option maxRecDepth 100000 in
theorem tear_ok {w : World} {F : Nat → Prop} {p s : Nat} {S : DS} {gi ci m : Nat} {D : DataW Value} {gr cr : Nat → Nat} (h : DiskRaw w F p s S gi ci m D gr cr) (k : Nat) (hk : k < s) (hbig : S.puts.length + 1 ≤ 5000000000000)
    (A B C : Int) (A' B' C' : Nat) (hA : max A 0 = (A' : Int)) (hB : max B 0 = (B' : Int)) (hC : max C 0 = (C' : Int)) (hAb : A ≤ 9223372036854775807) (hBb : B ≤ 9223372036854775807) (hCb : C ≤ 9223372036854775807) :
    Calls Tryz.prog 53 #[.pointer (some ⟨p, 0, none⟩), .int .i64 (k : Int), .agg #[.int .i64 A, .int .i64 B, .int .i64 C]] w fun e w' => e = .returned (.tuple #[]) ∧ DiskRaw w' F p s { S with im := splice S.im (k * 512) (tornOf S k A' B' C') } gi ci m D gr cr ∧ Keeps F w w' := by
  have hmA := run_max A A' hA
  have hmB := run_max B B' hB
  have hmC := run_max C C' hC
  have hA2 : (A' : Int) ≤ 9223372036854775807 := by omega
  have hB2 : (B' : Int) ≤ 9223372036854775807 := by omega
  have hC2 : (C' : Int) ≤ 9223372036854775807 := by omega
  have hpn := pendOf_len S.puts k
  have hd : DiskRaw (w.alloc (.cells #[.int .i64 A, .int .i64 B, .int .i64 C] 111)) F p s S gi ci m D gr cr := h.agree (by simp) (fun j hj => Below.heap_alloc _ _ _ (h.lt j hj))
  have hkb : Keeps F w (w.alloc (.cells #[.int .i64 A, .int .i64 B, .int .i64 C] 111)) := Keeps.alloc _ _ _
  obtain ⟨a, cc, xs, hlook, _⟩ := hd.sector hk
  have c1 := cell_of_block hd.blk (j := 1) rfl
  have hl1 := hlook _ rfl
  have hle := hd.img.le
  have hdu := durable_low p gi (s * 512) ci s k k _ (cell_of_block hd.blk (j := 0) rfl) rfl hk rfl h.ok.hi (by simp [bs, hd.ok.len] at hle; omega)
  have hm1 : ∀ j : Nat, (j : Int) % (((pendOf S.puts k).length : Int) + 1) = ((j % ((pendOf S.puts k).length + 1) : Nat) : Int) := fun j => by push_cast; rfl
  have hm2 : ∀ j : Nat, j % ((pendOf S.puts k).length + 1) ≤ (pendOf S.puts k).length := fun j => Nat.le_of_lt_succ (Nat.mod_lt _ (by omega))
  have hcA := cand_int hd k hk (A' % ((pendOf S.puts k).length + 1)) _ (hm1 A') (hm2 A') (by omega)
  have hcB := cand_int hd k hk (B' % ((pendOf S.puts k).length + 1)) _ (hm1 B') (hm2 B') (by omega)
  have hCm : (C' : Int) % 513 = ((C' % 513 : Nat) : Int) := by push_cast; rfl
  obtain ⟨cut, hcut⟩ : ∃ cut, cut = C' % 513 := ⟨_, rfl⟩
  rw [← hcut] at hCm
  have hcut2 : cut ≤ 512 := by omega
  have Hd := Hid.mk hd
  have Hcut := Hid.mk hcut
  clear h hA hB hC hd hlook hAb hBb hCb hm1 hm2 hle hcut
  go_enter Tryz.func53, Tryz.ntmps53
  go_wp2_with fail
  refine hcA.mono ?_
  rintro e w2 ⟨ga, oa, ca, rfl, hFa, hca, hga, hsa, hw⟩
  have hw' := hw.symm; subst hw'
  clear hcA hw
  have Hsa := Hid.mk hsa
  clear hsa hga
  go_wp2_with fail
  refine hcB.mono ?_
  rintro e w3 ⟨gb, ob, cb, rfl, hFb, hcb, hgb, hsb, hw⟩
  have hw' := hw.symm; subst hw'
  clear hcB hw
  have Hsb := Hid.mk hsb
  have Hgb := Hid.mk hgb
  clear hsb hgb
  go_wp2_with fail
  refine hdu.mono ?_
  rintro e w4 ⟨rfl, hw⟩
  have hw' := hw.symm; subst hw'
  clear hdu hw
  have hdd : DiskRaw (w.alloc (.cells #[.int .i64 A, .int .i64 B, .int .i64 C] 111)).drew F p s S gi ci m D gr cr := Hd.out.agree (Nat.le_refl _) (fun _ _ => rfl)
  obtain ⟨w5, hrun1, _, hrest⟩ := tear_run (ca := ca) hdd hk hcut2 Hsa.out Hsb.out Hgb.out
  have Hrest := Hid.mk hrest
  have hc0 : (0 : Int) ≤ (cut : Int) := by omega
  have hc1 : (cut : Int) ≤ 512 := by omega
  have hc2 : (cut : Int) ≤ (ca : Int) := by omega
  have hc3 : (cut : Int) ≤ (cb : Int) := by omega
  clear hdd hrest
  go_wp2_with fail
  go_region_held3 (fun _ => True) (trivial) (fail)
  go_wp2_with fail
  have hfin : ∀ w6, DiskRaw w6 F p s { S with im := splice S.im (k * 512) (List.take cut (S.cand k (A' % ((pendOf S.puts k).length + 1))) ++ List.drop cut (S.cand k (B' % ((pendOf S.puts k).length + 1)))) } gi ci m D gr cr →
      Keeps F (w.alloc (.cells #[.int .i64 A, .int .i64 B, .int .i64 C] 111)).drew w6 → DiskRaw w6 F p s { S with im := splice S.im (k * 512) (tornOf S k A' B' C') } gi ci m D gr cr ∧ Keeps F w w6 := fun w6 h1 h2 => by
    refine ⟨?_, hkb.trans (b := w.alloc (.cells #[.int .i64 A, .int .i64 B, .int .i64 C] 111)) (G := F) ⟨h2.os, h2.tape, h2.output, h2.size, h2.block⟩ (fun j hj => .inl hj)⟩
    unfold tornOf
    rw [← Hcut.out]
    exact h1
  have Hfin := Hid.mk hfin
  clear hfin hkb hrun1 hmA hmB hmC hl1 c1 Hd Hsa Hsb Hgb Hcut hCm
  rcases (show cut = 0 ∨ (0 < cut ∧ cut < 512) ∨ cut = 512 by omega) with h5 | h5 | h5
  · subst h5
    obtain ⟨w6, hr6, hd6, hk6⟩ := Hrest.out (some ⟨gi, k * 512, none⟩) (some ⟨gb, ob, none⟩) 512 cb (fun _ => ⟨rfl, rfl⟩)
    simp only [Nat.sub_zero] at hr6
    have hq := Hfin.out w6 hd6 hk6
    clear hd6 hk6 Hrest Hfin
    go_region_held3 (fun _ => True) (trivial) (fail)
    all_goals
      go_end0
      exact ⟨rfl, hq⟩
  · obtain ⟨w6, hr6, hd6, hk6⟩ := Hrest.out (some ⟨gi, k * 512 + cut, none⟩) (some ⟨gb, ob + cut, none⟩) (512 - cut) (cb - cut) (fun _ => ⟨rfl, rfl⟩)
    have hq := Hfin.out w6 hd6 hk6
    have z1 : ¬ 512 = cut := by omega
    have z2 : ¬ cb = cut := by omega
    clear hd6 hk6 Hrest Hfin
    go_region_held3 (fun _ => True) (trivial) (fail)
    all_goals
      go_end0
      exact ⟨rfl, hq⟩
  · subst h5
    by_cases z : cb = 512
    · subst z
      obtain ⟨w6, hr6, hd6, hk6⟩ := Hrest.out (some ⟨gi, k * 512, none⟩) (some ⟨gb, ob, none⟩) 0 0 (fun h => by omega)
      simp only [Nat.sub_self] at hr6
      have hq := Hfin.out w6 hd6 hk6
      clear hd6 hk6 Hrest Hfin
      go_region_held3 (fun _ => True) (trivial) (fail)
      all_goals
        go_end0
        exact ⟨rfl, hq⟩
    · obtain ⟨w6, hr6, hd6, hk6⟩ := Hrest.out (some ⟨gi, k * 512, none⟩) (some ⟨gb, ob + 512, none⟩) 0 (cb - 512) (fun h => by omega)
      simp only [Nat.sub_self] at hr6
      have hq := Hfin.out w6 hd6 hk6
      clear hd6 hk6 Hrest Hfin
      go_region_held3 (fun _ => True) (trivial) (fail)
      all_goals
        go_end0
        exact ⟨rfl, hq⟩
end Go.Proofs.YtokcgifpljeoiaaGreat
end

section
namespace Go.Proofs.YtokcgifpljeoiaaGreat
open Go.RowKit Go.Maps

/-- Numbers as cells. -/
abbrev is_ (l : List Nat) : List Value := l.map (fun k : Nat => Value.int .i64 (k : Int))

/-- The sectors with pending writes, in rising order. -/
def keysOf (S : DS) (s : Nat) : List Nat := (List.range s).filter (fun k => !(pendOf S.puts k).isEmpty)

theorem mem_keysOf {S : DS} {s k : Nat} : k ∈ keysOf S s ↔ k < s ∧ pendOf S.puts k ≠ [] := by
  simp [keysOf, List.mem_filter]

theorem is_eq (l : List Nat) : (l.map (fun k : Nat => (k : Int))).map (Value.int .i64) = is_ l := by rw [List.map_map]; rfl

/-- What slices.Sort does to a row of numbers. -/
def SortSaid : Prop := ∀ (g cap : Nat) (zs : List Int) (w : World), RowAt w 3 g cap (zs.map (Value.int .i64)) → zs.length < 4611686018427387904 →
  Calls Tryz.prog 90 #[.slice (some ⟨g, 0, none⟩) zs.length cap] w fun e w' => e = .returned (.tuple #[]) ∧ RowAt w' 3 g cap ((zs.mergeSort fun x y => decide (x ≤ y)).map (Value.int .i64)) ∧ Keeps (fun k => k = g) w w'

/-- .. and to none. -/
def SortNil : Prop := ∀ (w : World), Calls Tryz.prog 90 #[.slice none 0 0] w fun e w' => e = .returned (.tuple #[]) ∧ Below w.heap.size w w'

theorem sorted_keys {S : DS} {s : Nat} (hok : S.Ok s) {ks : List Nat} (hn : ks.Nodup) (hm : ∀ k, k ∈ ks ↔ pendOf S.puts k ≠ []) :
    ((ks.map (fun k : Nat => (k : Int))).mergeSort fun x y => decide (x ≤ y)) = (keysOf S s).map (fun k : Nat => (k : Int)) := by
  have hlt : ∀ k, pendOf S.puts k ≠ [] → k < s := fun k hp => by
    obtain ⟨l, hl⟩ := List.exists_mem_of_ne_nil _ hp
    unfold pendOf at hl
    obtain ⟨q, hq, _⟩ := List.mem_map.1 hl
    obtain ⟨hq1, hq2⟩ := List.mem_filter.1 hq
    have := (hok.puts q hq1).1
    simp at hq2
    omega
  have hn2 : (keysOf S s).Nodup := List.Pairwise.filter _ List.nodup_range
  have hperm := (List.perm_ext_iff_of_nodup hn hn2).2 (fun k => by
    rw [hm, mem_keysOf]
    exact ⟨fun h => ⟨hlt k h, h⟩, fun h => h.2⟩)
  have hs2 : ((keysOf S s).map (fun k : Nat => (k : Int))).Pairwise (fun x y => decide (x ≤ y) = true) := by
    refine List.pairwise_map.2 ?_
    have : (keysOf S s).Pairwise (fun x y => x < y) := List.Pairwise.filter _ List.pairwise_lt_range
    exact this.imp (fun h => by simp; omega)
  have tr : ∀ a b c : Int, decide (a ≤ b) = true → decide (b ≤ c) = true → decide (a ≤ c) = true := fun a b c h1 h2 => by simp only [decide_eq_true_eq] at *; omega
  have to : ∀ a b : Int, (decide (a ≤ b) || decide (b ≤ a)) = true := fun a b => by simp only [Bool.or_eq_true, decide_eq_true_eq]; omega
  refine List.Perm.eq_of_pairwise (le := fun a b => decide (a ≤ b) = true) (fun a b _ _ h1 h2 => ?_) (List.pairwise_mergeSort tr to _) hs2 ((List.mergeSort_perm _ _).trans (hperm.map _))
  simp only [decide_eq_true_eq] at h1 h2
  omega

set_option maxHeartbeats 4000000 in
theorem unfl_ok (sorts : SortSaid) (sortn : SortNil) {w : World} {F : Nat → Prop} {p s : Nat} {S : DS} {gi ci m : Nat} {D : DataW Value} {gr cr : Nat → Nat} (h : DiskRaw w F p s S gi ci m D gr cr) (hbig : S.puts.length + 1 ≤ 5000000000000) :
    Calls Tryz.prog 52 #[.pointer (some ⟨p, 0, none⟩)] w fun e w' => ∃ a c, e = .returned (.slice a (keysOf S s).length c) ∧ (keysOf S s ≠ [] → ∃ g, a = some ⟨g, 0, none⟩ ∧ w.heap.size ≤ g ∧ RowAt w' 3 g c (is_ (keysOf S s))) ∧ Below w.heap.size w w' := by
  obtain ⟨i0, hi0, hz0, hz1, hz2⟩ := info_parts infoInt
  have c1 := cell_of_block h.blk (j := 1) rfl
  have hml := h.lt m h.fm
  have H := Hid.mk h
  clear h
  go_enter Tryz.func52, Tryz.ntmps52
  go_wp2_with (at_range; refine wpList_range_own _ rfl _ 106 rfl 3 33 keyInt Tryz.underlying106 Rs m S.puts.length D rfl H.out.map ?_; intro w0 hrg0 hg0 hs0; go_frame)
  have hb0 := (Below.refl _ w).grown hg0 (Nat.le_refl _) (fun j hj => by cases hj)
  clear hg0
  go_loopw [3, 4] (fun v _ wr => ∃ (left : Lit → Bool) (cnt : Nat) (ks : List Nat), wr.ranges Tryz.prog 3 Rs m w.heap.size S.puts.length D left cnt ∧ wr.ownsRow (w.heap.size + 1) 3 1 v ks.length (is_ ks) ∧
      ks.Nodup ∧ (∀ k, k ∈ ks ↔ pendOf S.puts k ≠ [] ∧ left (kk k) = false) ∧ Below w.heap.size w wr ∧ ks.length + cnt ≤ S.puts.length ∧ w.heap.size + 1 ≤ wr.heap.size)
    (fun _ _ wr => wr.rangeLeft m w.heap.size)
  case atStart => 
    refine ⟨_, _, [], hrg0, World.ownsRow_nil _ _ _ _, List.nodup_nil, fun k => ?_, hb0, by simpa using H.out.map.size_le, by omega⟩
    constructor
    · intro hk; cases hk
    · rintro ⟨hp, hl⟩; rw [H.out.pend.has hp] at hl; cases hl
  case round =>
    clear hrg0 hb0 hs0
    obtain ⟨left, cnt, ks, hrg, hrow, hnd, hmem, hb, hcs, hsz⟩ := hrel
    go_wp2_with (at_next; refine wpList_next_ranges _ rfl _ rfl 3 keyInt Rs (Value.int .i64) mkS (fun key kl hkey => by obtain ⟨x, rfl, _⟩ := Maps.keyOf_int_inv Tryz.underlying3 hkey; exact ⟨x, rfl⟩) Rs_inv m w.heap.size S.puts.length _ _ _ rfl hrg ?_ ?_)
    · intro _ hl0
      have hmem' : ∀ k, k ∈ ks ↔ pendOf S.puts k ≠ [] := fun k => by rw [hmem, hl0]; simp
      have hsk := sorted_keys H.out.ok hnd hmem'
      have hlen : ks.length = (keysOf S s).length := by
        have := congrArg List.length hsk
        rw [List.length_mergeSort] at this
        simpa using this
      have hnil2 : ks = [] → keysOf S s = [] := fun e => by rw [e] at hlen; exact List.eq_nil_of_length_eq_zero hlen.symm
      rcases hrow.2 with ⟨rfl, hz⟩ | ⟨g, cap, cur, rfl, hg, hbk, h1, h2, h3, h4⟩
      · have hks := hnil2 (List.eq_nil_of_length_eq_zero hz)
        have hsn := sortn wr
        clear hrow hmem hmem' hsk hrg H sorts sortn
        go_wp2_with (go_at_call 90; refine hsn.mono ?_; rintro e w9 ⟨rfl, hb9⟩)
        go_ret
        exact ⟨none, 0, by simp [hks], fun h => absurd hks h, hb.trans (hb9.mono hb.size)⟩
      · have hr9 : RowAt wr 3 g cap ((ks.map (fun k : Nat => (k : Int))).map (Value.int .i64)) := by
          rw [is_eq]
          refine ⟨cur, hbk, by simpa using h3, ?_, h2⟩
          simp only [Nat.mul_one] at h4
          rw [show (is_ ks).length = ks.length by simp [is_]]
          exact h4
        have hso := sorts g cap _ wr hr9 (by simp; omega)
        simp only [List.length_map] at hso
        rw [hsk] at hso
        have Hlen := Hid.mk hlen
        clear hrow hmem hmem' hsk hrg H sorts sortn hr9 hlen h4
        go_wp2_with (go_at_call 90; refine hso.mono ?_; rintro e w9 ⟨rfl, hr10, hk9⟩)
        go_ret
        refine ⟨some ⟨g, 0, none⟩, cap, ?_, fun _ => ⟨g, rfl, by omega, ?_⟩, hb.trans (hk9.below (fun j hj => by omega) hb.size)⟩
        · rw [← Hlen.out]; rfl
        · rw [← is_eq]; exact hr10
    · intro x ca cn cc kl yd yp w2 cnt2 hkey hlk hv hat hrg2 hlt hg2 hs2 hen
      obtain ⟨k, rfl, rfl, hp, hc⟩ := H.out.pend.met hkey hv hat
      have hnk : k ∉ ks := fun hk => by rw [((hmem k).1 hk).2] at hlk; cases hlk
      have hrow2 := hrow.kept hg2 (.inr (fun e => by have := hrow.lt _ e; omega))
      have hb2 := hb.grown hg2 hb.size (fun j hj => by cases hj; exact Nat.le_refl _)
      have hsz2 : w.heap.size + 1 ≤ w2.heap.size := by omega
      have hmem2 : ∀ j, j ∈ ks ++ [k] ↔ pendOf S.puts j ≠ [] ∧ (left (kk j) && !(kk j).sameKey (kk k)) = false := fun j => by
        rw [List.mem_append, List.mem_singleton, hmem, same_kk]
        by_cases e : j = k
        · subst e; simp [hp]
        · simp [e]
      have hlen : ks.length + 1 ≤ 5000000000000 := by omega
      have Hmem2 := Hid.mk hmem2
      have Hrow2 := Hid.mk hrow2
      clear hkey hv hat hs2 hg2 hc hmem hmem2 hrow2
      go_wp2_with (at_builtin; refine wpList_append_own _ rfl _ _ 63 rfl (w.heap.size + 1) 3 i0 (.int .i64 0) 1 8 Tryz.underlying63 hi0 hz0 hz1 hz2 rfl (by decide) _ _ _ rfl (Hrow2.out.alloc _) ⟨w2.heap.size, 0, none⟩ 1 1 [.int .i64 (k : Int)] rfl rfl (cell_one_new _ _ _) (ints_oneCell .i64 [(k : Int)]) (by unfold maxLen; omega) (by omega) (by simp; omega) ?_)
      intro v' w3 hown' hgrow hnil
      have hgr2 := fun j e => (hrow.lt j e).1
      have hrg3 := (hrg2.alloc (.cells #[.int .i64 (k : Int)] 3)).kept hgrow (fun e => by have := hgr2 m e.symm; omega) (fun e => by have := hgr2 _ e.symm; omega)
      have hb3 := (hb2.alloc (by omega) _).grown hgrow (by simp; omega) (fun j e => by have := hgr2 j e; omega)
      have hsz3 : w.heap.size + 1 ≤ w3.heap.size := by have := hgrow.size; simp at this; omega
      have hnd2 : (ks ++ [k]).Nodup := List.nodup_append.2 ⟨hnd, by simp, by intro a ha b hb' e; simp at hb'; subst hb'; exact hnk (e ▸ ha)⟩
      have hown2 : w3.ownsRow (w.heap.size + 1) 3 1 v' (ks ++ [k]).length (is_ (ks ++ [k])) := by simpa [is_] using hown'
      have Hown2 := Hid.mk hown2
      have Hrg3 := Hid.mk hrg3
      clear hown' hgrow hnil hown2 hrg3 hrow Hrow2 hrg2 hen
      go_wp2
      go_roundw
      case rel => exact ⟨_, cnt2, ks ++ [k], Hrg3.out, Hown2.out, hnd2, Hmem2.out, hb3, by simp; omega, hsz3⟩
      case measure => rw [Hrg3.out.left_eq, hrg.left_eq]; exact hlt
end Go.Proofs.YtokcgifpljeoiaaGreat
end

section
namespace Go.Proofs
open Go.Shelf
def Tryz.lays189_ren : Go.Shelf.Ren := ⟨fun | 189 => 90 | 125 => 129 | 257 => 128 | 128 => 164 | 129 => 165 | 294 => 155 | 295 => 156 | 296 => 157 | 297 => 158 | 298 => 159 | 299 => 160 | 216 => 161 | 300 => 162 | 301 => 163 | 328 => 181 | 329 => 182 | 330 => 183 | 331 => 184 | 332 => 185 | 215 => 186 | 343 => 190 | n => n, fun | 28 => 63 | 3 => 3 | 46 => 115 | 0 => 0 | 51 => 221 | 53 => 223 | 4 => 4 | 183 => 213 | 182 => 212 | 131 => 218 | 5 => 5 | 9 => 9 | 218 => 238 | 222 => 242 | 228 => 248 | 229 => 249 | n => n, fun | n => n⟩
theorem Tryz.lays189 : Go.Proofs.Lays.n189 Tryz.prog Tryz.lays189_ren := {
  mixed := by kernel_rfl
  f125 := Tryz.func129.trans (congrArg some (by kernel_rfl))
  f128 := Tryz.func164.trans (congrArg some (by kernel_rfl))
  f129 := Tryz.func165.trans (congrArg some (by kernel_rfl))
  f189 := Tryz.func90.trans (congrArg some (by kernel_rfl))
  f215 := Tryz.func186.trans (congrArg some (by kernel_rfl))
  f216 := Tryz.func161.trans (congrArg some (by kernel_rfl))
  f257 := Tryz.func128.trans (congrArg some (by kernel_rfl))
  f294 := Tryz.func155.trans (congrArg some (by kernel_rfl))
  f295 := Tryz.func156.trans (congrArg some (by kernel_rfl))
  f296 := Tryz.func157.trans (congrArg some (by kernel_rfl))
  f297 := Tryz.func158.trans (congrArg some (by kernel_rfl))
  f298 := Tryz.func159.trans (congrArg some (by kernel_rfl))
  f299 := Tryz.func160.trans (congrArg some (by kernel_rfl))
  f300 := Tryz.func162.trans (congrArg some (by kernel_rfl))
  f301 := Tryz.func163.trans (congrArg some (by kernel_rfl))
  f328 := Tryz.func181.trans (congrArg some (by kernel_rfl))
  f329 := Tryz.func182.trans (congrArg some (by kernel_rfl))
  f330 := Tryz.func183.trans (congrArg some (by kernel_rfl))
  f331 := Tryz.func184.trans (congrArg some (by kernel_rfl))
  f332 := Tryz.func185.trans (congrArg some (by kernel_rfl))
  f343 := Tryz.func190.trans (congrArg some (by kernel_rfl))
  t0 := Tryz.underlying0
  a0 := Tryz.isAgg0
  z0 := Tryz.sizeOf0
  v0 := Tryz.zeroValue0
  t3 := Tryz.underlying3
  a3 := Tryz.isAgg3
  z3 := Tryz.sizeOf3
  v3 := Tryz.zeroValue3
  t4 := Tryz.underlying4
  a4 := Tryz.isAgg4
  z4 := Tryz.sizeOf4
  v4 := Tryz.zeroValue4
  t5 := Tryz.underlying5
  a5 := Tryz.isAgg5
  z5 := Tryz.sizeOf5
  v5 := Tryz.zeroValue5
  t9 := Tryz.underlying9
  a9 := Tryz.isAgg9
  z9 := Tryz.sizeOf9
  v9 := Tryz.zeroValue9
  t28 := Tryz.underlying63
  a28 := Tryz.isAgg63
  z28 := Tryz.sizeOf63
  v28 := Tryz.zeroValue63
  t46 := Tryz.underlying115
  a46 := Tryz.isAgg115
  z46 := Tryz.sizeOf115
  v46 := Tryz.zeroValue115
  t51 := Tryz.underlying221
  a51 := Tryz.isAgg221
  z51 := Tryz.sizeOf221
  v51 := Tryz.zeroValue221
  t53 := Tryz.underlying223
  a53 := Tryz.isAgg223
  z53 := Tryz.sizeOf223
  v53 := Tryz.zeroValue223
  t131 := Tryz.underlying218
  a131 := Tryz.isAgg218
  z131 := Tryz.sizeOf218
  v131 := Tryz.zeroValue218
  t182 := Tryz.underlying212
  a182 := Tryz.isAgg212
  z182 := Tryz.sizeOf212
  v182 := Tryz.zeroValue212
  t183 := Tryz.underlying213
  a183 := Tryz.isAgg213
  z183 := Tryz.sizeOf213
  v183 := Tryz.zeroValue213
  t218 := Tryz.underlying238
  a218 := Tryz.isAgg238
  z218 := Tryz.sizeOf238
  v218 := Tryz.zeroValue238
  t222 := Tryz.underlying242
  a222 := Tryz.isAgg242
  z222 := Tryz.sizeOf242
  v222 := Tryz.zeroValue242
  t228 := Tryz.underlying248
  a228 := Tryz.isAgg248
  z228 := Tryz.sizeOf248
  v228 := Tryz.zeroValue248
  t229 := Tryz.underlying249
  a229 := Tryz.isAgg249
  z229 := Tryz.sizeOf249
  v229 := Tryz.zeroValue249 }
end Go.Proofs
end

section
namespace Go.Proofs.YtokcgifpljeoiaaGreat
open Go.RowKit Go.Maps Go.Shelf Go.Sort

theorem sorts : SortSaid := by
  intro g cap zs w hr hsz
  have hle := hr.le
  have hr0 := hr
  obtain ⟨cur, hb, hc, ht, hm⟩ := hr0
  have hlz : (zs.map (Value.int .i64)).length = zs.length := by simp
  rw [hlz] at hle ht
  have hH := holds_of_blockI hb ht
  refine (calls_of_every_depth fun D => AnyS.slices_Sort_int_in Tryz.lays189 D g 0 cap zs w hH hr.lt hsz).mono ?_
  rintro e w' ⟨rfl, n, os, rfl⟩
  have hl : (zs.mergeSort fun x y => decide (x ≤ y)).length = zs.length := List.length_mergeSort _
  have hg := grownBy_sortedI (w := w) (g := g) (n := n) (os := os) (zs.mergeSort fun x y => decide (x ≤ y)).toArray
  refine ⟨rfl, ⟨_, heap_sortedI _ hb, by simp [putCells, hc], ?_, hm⟩, ⟨hg.os, hg.tape, hg.output, hg.size, fun k hk hne => hg.block k hk (by simpa using hne)⟩⟩
  rw [List.length_map]
  exact take_putCellsI cur _ (by omega)

theorem ins_nil (w : World) : Calls Tryz.prog 155 #[.slice none 0 0, .int .i64 0, .int .i64 0] w fun e w' => e = .returned (.tuple #[]) ∧ w' = w := by
  go_enter Tryz.func155, Tryz.ntmps155
  go_wp2
  refine wp_loop_rounds 1 ?_
  rw [rounds_succ]
  go_wp2
  go_end0
  exact ⟨rfl, rfl⟩

theorem pdq_nil (n : Int) (w : World) : Calls Tryz.prog 128 #[.slice none 0 0, .int .i64 0, .int .i64 0, .int .i64 n] w fun e w' => e = .returned (.tuple #[]) ∧ w' = w := by
  go_enter Tryz.func128, Tryz.ntmps128
  go_wp2
  refine wp_loop_rounds 1 ?_
  rw [rounds_succ]
  go_wp2_with (go_at_call 155; refine (ins_nil _).mono ?_; rintro e w' ⟨rfl, rfl⟩)
  exact bodyPost_ret (results_none rfl _ _ _) rfl ⟨rfl, rfl⟩

theorem sortn : SortNil := by
  intro w
  go_enter Tryz.func90, Tryz.ntmps90
  go_wp2_with (first | (go_at_call 128; refine (pdq_nil _ _).mono ?_; rintro e w' ⟨rfl, rfl⟩) | go_in)
  go_end0
  exact ⟨rfl, RowKit.Below.refl _ _⟩
end Go.Proofs.YtokcgifpljeoiaaGreat
end

section
namespace Go.Proofs.YtokcgifpljeoiaaGreat
open Go.RowKit Go.Maps

theorem Ra_agg (v : Value) (y : DataW Value × List MemPlace) (h : Ra v = some y) : ∃ c, v = Value.agg c := by
  unfold Ra at h
  split at h
  · exact ⟨_, rfl⟩
  · cases h
theorem ChAt.met {w : World} {m : Nat} {ms : CM} {D : DataW Value} (h : ChAt w m ms D) {x : Int} {kl : Lit} {y : DataW Value} (hkey : keyOf Tryz.prog 3 (.int .i64 x) = some kl) (hat : ∀ zd, D.atKey kl zd = y) :
    ∃ k : Nat, x = (k : Int) ∧ kl = kk k ∧ (CM.get ms k).isSome = true := by
  obtain ⟨k, rfl, hp⟩ := h.key kl (Maps.has_true_of_atKey hat)
  obtain ⟨x', ex, ek, _⟩ := Maps.keyOf_int_inv Tryz.underlying3 hkey
  have hx : x = (k : Int) := by cases ex; simpa [kk] using ek.symm
  exact ⟨k, hx, rfl, hp⟩
theorem mem_keys {ms : CM} (ho : CM.Ok ms) (k : Nat) : k ∈ CM.keys ms ↔ (CM.get ms k).isSome = true := by
  constructor
  · intro h
    obtain ⟨q, hq, e⟩ := List.mem_map.1 h
    rw [CM.get_of_mem ho (k := k) (c := q.2) (by rw [← e]; exact hq)]
    rfl
  · intro h
    obtain ⟨c, hc⟩ := Option.isSome_iff_exists.1 h
    exact List.mem_map.2 ⟨_, CM.get_mem hc, rfl⟩
theorem sorted_cm {ms : CM} (ho : CM.Ok ms) {ks : List Nat} (hn : ks.Nodup) (hm : ∀ k, k ∈ ks ↔ (CM.get ms k).isSome = true) :
    ((ks.map (fun k : Nat => (k : Int))).mergeSort fun x y => decide (x ≤ y)) = (CM.keys ms).map (fun k : Nat => (k : Int)) := by
  have hlt := CM.keys_ok ho
  have hn2 : (CM.keys ms).Nodup := hlt.imp (fun h => Nat.ne_of_lt h)
  have hperm := (List.perm_ext_iff_of_nodup hn hn2).2 (fun k => by rw [hm, mem_keys ho])
  have hs2 : ((CM.keys ms).map (fun k : Nat => (k : Int))).Pairwise (fun x y => decide (x ≤ y) = true) := by
    refine List.pairwise_map.2 ?_
    exact hlt.imp (fun h => by simp; omega)
  have tr : ∀ a b c : Int, decide (a ≤ b) = true → decide (b ≤ c) = true → decide (a ≤ c) = true := fun a b c h1 h2 => by simp only [decide_eq_true_eq] at *; omega
  have to : ∀ a b : Int, (decide (a ≤ b) || decide (b ≤ a)) = true := fun a b => by simp only [Bool.or_eq_true, decide_eq_true_eq]; omega
  refine List.Perm.eq_of_pairwise (le := fun a b => decide (a ≤ b) = true) (fun a b _ _ h1 h2 => ?_) (List.pairwise_mergeSort tr to _) hs2 ((List.mergeSort_perm _ _).trans (hperm.map _))
  simp only [decide_eq_true_eq] at h1 h2
  omega

set_option maxRecDepth 20000 in
set_option maxHeartbeats 8000000 in
theorem inOrder_low {w : World} {m : Nat} {ms : CM} {D : DataW Value} (h : ChAt w m ms D) :
    Calls Tryz.prog 123 #[.map (some m)] w fun e w' => ∃ a c, e = .returned (.slice a (CM.keys ms).length c) ∧ (CM.keys ms ≠ [] → ∃ g, a = some ⟨g, 0, none⟩ ∧ w.heap.size ≤ g ∧ RowAt w' 3 g c (is_ (CM.keys ms))) ∧ Below w.heap.size w w' := by
  obtain ⟨i0, hi0, hz0, hz1, hz2⟩ := info_parts infoInt
  have hml := h.lt
  have hsm := Ch.small ⟨D, h⟩
  have H := Hid.mk h
  clear h
  go_enter Tryz.func123, Tryz.ntmps123
  go_wp2_with (at_range; refine wpList_range_own _ rfl _ 102 rfl 3 118 keyInt Tryz.underlying102 Ra m ms.length D rfl H.out.own ?_; intro w0 hrg0 hg0 hs0; go_frame)
  have hb0 := (Below.refl _ w).grown hg0 (Nat.le_refl _) (fun j hj => by cases hj)
  clear hg0
  go_loopw [3, 4] (fun v _ wr => ∃ (left : Lit → Bool) (cnt : Nat) (ks : List Nat), wr.ranges Tryz.prog 3 Ra m w.heap.size ms.length D left cnt ∧ wr.ownsRow (w.heap.size + 1) 3 1 v ks.length (is_ ks) ∧
      ks.Nodup ∧ (∀ k, k ∈ ks ↔ (CM.get ms k).isSome = true ∧ left (kk k) = false) ∧ Below w.heap.size w wr ∧ ks.length + cnt ≤ ms.length ∧ w.heap.size + 1 ≤ wr.heap.size)
    (fun _ _ wr => wr.rangeLeft m w.heap.size)
  case atStart => 
    refine ⟨_, _, [], hrg0, World.ownsRow_nil _ _ _ _, List.nodup_nil, fun k => ?_, hb0, by simpa using H.out.own.size_le, by omega⟩
    constructor
    · intro hk; cases hk
    · rintro ⟨hp, hl⟩; obtain ⟨c, hc⟩ := Option.isSome_iff_exists.1 hp; rw [(H.out.at' k c hc).1] at hl; cases hl
  case round =>
    clear hrg0 hb0 hs0
    obtain ⟨left, cnt, ks, hrg, hrow, hnd, hmem, hb, hcs, hsz⟩ := hrel
    go_wp2_with (at_next; refine wpList_next_ranges _ rfl _ rfl 3 keyInt Ra (Value.int .i64) Value.agg (fun key kl hkey => by obtain ⟨x, rfl, _⟩ := Maps.keyOf_int_inv Tryz.underlying3 hkey; exact ⟨x, rfl⟩) Ra_agg m w.heap.size ms.length _ _ _ rfl hrg ?_ ?_)
    · intro _ hl0
      have hmem' : ∀ k, k ∈ ks ↔ (CM.get ms k).isSome = true := fun k => by rw [hmem, hl0]; simp
      have hsk := sorted_cm H.out.ok hnd hmem'
      have hlen : ks.length = (CM.keys ms).length := by
        have := congrArg List.length hsk
        rw [List.length_mergeSort] at this
        simpa using this
      have hnil2 : ks = [] → CM.keys ms = [] := fun e => by rw [e] at hlen; exact List.eq_nil_of_length_eq_zero hlen.symm
      rcases hrow.2 with ⟨rfl, hz⟩ | ⟨g, cap, cur, rfl, hg, hbk, h1, h2, h3, h4⟩
      · have hks := hnil2 (List.eq_nil_of_length_eq_zero hz)
        have hsn := sortn wr
        clear hrow hmem hmem' hsk hrg H
        go_wp2_with (go_at_call 90; refine hsn.mono ?_; rintro e w9 ⟨rfl, hb9⟩)
        go_ret
        exact ⟨none, 0, by simp [hks], fun h => absurd hks h, hb.trans (hb9.mono hb.size)⟩
      · have hr9 : RowAt wr 3 g cap ((ks.map (fun k : Nat => (k : Int))).map (Value.int .i64)) := by
          rw [is_eq]
          refine ⟨cur, hbk, by simpa using h3, ?_, h2⟩
          simp only [Nat.mul_one] at h4
          rw [show (is_ ks).length = ks.length by simp [is_]]
          exact h4
        have hso := sorts g cap _ wr hr9 (by simp; omega)
        simp only [List.length_map] at hso
        rw [hsk] at hso
        have Hlen := Hid.mk hlen
        clear hrow hmem hmem' hsk hrg H hr9 hlen h4
        go_wp2_with (go_at_call 90; refine hso.mono ?_; rintro e w9 ⟨rfl, hr10, hk9⟩)
        go_ret
        refine ⟨some ⟨g, 0, none⟩, cap, ?_, fun _ => ⟨g, rfl, by omega, ?_⟩, hb.trans (hk9.below (fun j hj => by omega) hb.size)⟩
        · rw [← Hlen.out]; rfl
        · rw [← is_eq]; exact hr10
    · intro x ca kl yd yp w2 cnt2 hkey hlk hv hat hrg2 hlt hg2 hs2 hen
      obtain ⟨k, rfl, rfl, hp⟩ := H.out.met hkey hat
      have hnk : k ∉ ks := fun hk => by rw [((hmem k).1 hk).2] at hlk; cases hlk
      have hrow2 := hrow.kept hg2 (.inr (fun e => by have := hrow.lt _ e; omega))
      have hb2 := hb.grown hg2 hb.size (fun j hj => by cases hj; exact Nat.le_refl _)
      have hsz2 : w.heap.size + 1 ≤ w2.heap.size := by omega
      have hmem2 : ∀ j, j ∈ ks ++ [k] ↔ (CM.get ms j).isSome = true ∧ (left (kk j) && !(kk j).sameKey (kk k)) = false := fun j => by
        rw [List.mem_append, List.mem_singleton, hmem, same_kk]
        by_cases e : j = k
        · subst e; simp [hp]
        · simp [e]
      have hlen : ks.length + 1 ≤ 5000000000000 := by omega
      have Hmem2 := Hid.mk hmem2
      have Hrow2 := Hid.mk hrow2
      clear hkey hv hat hs2 hg2 hmem hmem2 hrow2
      go_wp2_with (at_builtin; refine wpList_append_own _ rfl _ _ 63 rfl (w.heap.size + 1) 3 i0 (.int .i64 0) 1 8 Tryz.underlying63 hi0 hz0 hz1 hz2 rfl (by decide) _ _ _ rfl (Hrow2.out.alloc _) ⟨w2.heap.size, 0, none⟩ 1 1 [.int .i64 (k : Int)] rfl rfl (cell_one_new _ _ _) (ints_oneCell .i64 [(k : Int)]) (by unfold maxLen; omega) (by omega) (by simp; omega) ?_)
      intro v' w3 hown' hgrow hnil
      have hgr2 := fun j e => (hrow.lt j e).1
      have hrg3 := (hrg2.alloc (.cells #[.int .i64 (k : Int)] 3)).kept hgrow (fun e => by have := hgr2 m e.symm; omega) (fun e => by have := hgr2 _ e.symm; omega)
      have hb3 := (hb2.alloc (by omega) _).grown hgrow (by simp; omega) (fun j e => by have := hgr2 j e; omega)
      have hsz3 : w.heap.size + 1 ≤ w3.heap.size := by have := hgrow.size; simp at this; omega
      have hnd2 : (ks ++ [k]).Nodup := List.nodup_append.2 ⟨hnd, by simp, by intro a ha b hb' e; simp at hb'; subst hb'; exact hnk (e ▸ ha)⟩
      have hown2 : w3.ownsRow (w.heap.size + 1) 3 1 v' (ks ++ [k]).length (is_ (ks ++ [k])) := by simpa [is_] using hown'
      have Hown2 := Hid.mk hown2
      have Hrg3 := Hid.mk hrg3
      clear hown' hgrow hnil hown2 hrg3 hrow Hrow2 hrg2 hen
      go_wp2
      go_roundw
      case rel => exact ⟨_, cnt2, ks ++ [k], Hrg3.out, Hown2.out, hnd2, Hmem2.out, hb3, by simp; omega, hsz3⟩
      case measure => rw [Hrg3.out.left_eq, hrg.left_eq]; exact hlt
theorem inOrder_any {w : World} {m : Nat} {ms : CM} (h : Ch w m ms) :
    Calls Tryz.prog 123 #[.map (some m)] w fun e w' => ∃ a c, e = .returned (.slice a (CM.keys ms).length c) ∧ (CM.keys ms ≠ [] → ∃ g, a = some ⟨g, 0, none⟩ ∧ w.heap.size ≤ g ∧ RowAt w' 3 g c (is_ (CM.keys ms))) ∧ Below w.heap.size w w' := by
  obtain ⟨D, h⟩ := h
  exact inOrder_low h
end Go.Proofs.YtokcgifpljeoiaaGreat
end

section
namespace Go.Proofs.YtokcgifpljeoiaaGreat
open Go.RowKit

theorem blk_range {w : World} {T : TypeId} {g : Nat} {l : List Int} (h : Blk w T g l) : w.rangeAt g 0 (bs l) := by
  intro j v hv
  obtain ⟨hj, rfl⟩ := bs_getElem hv
  rw [Nat.zero_add]
  exact h.cell hj
theorem there_of {w : World} {T : TypeId} {g n : Nat} {cur : Array Value} (h : w.heap[g]? = some (.cells cur T (0, 0))) (hn : cur.size = n) : w.there g 0 n := by
  intro j hj
  rw [Nat.zero_add]
  exact ⟨by rw [cell_of_block h (j := j) (u := cur[j]'(by omega)) (by simp [show j < cur.size by omega])]; rfl, frozen_of_block h j⟩
theorem zsec_size : zsec.size = 512 := by unfold zsec; simp only [List.size_toArray, bs, List.length_map, zs_len]
theorem infoSecL {l : List Int} (h : l.length = 512) : (Tryz.prog.info? 200).map (·.size) = some (bs l).length := by
  rw [sizeSec, bs, List.length_map, h]

set_option maxRecDepth 20000 in
set_option maxHeartbeats 4000000 in
theorem sealed_any (t : Nat) (a : Option Addr) (n c : Nat) (body : List Int) (w : World) (ht : t < 256) (hs : Src w a n body) (hn : n ≤ 504) (hb : Bytes body) :
    Calls Tryz.prog 152 #[.int .u8 (t : Int), .slice a n c] w fun e w' => e = .returned (.agg (bs (sform t body)).toArray) ∧ Below w.heap.size w w' := by
  have H := hs
  have hz := zeroSec
  have hlb := hs.1
  have hc1 := (fun w1 => cut_any (w.heap.size + 1) 0 1 3 w1 (by omega) (by omega))
  have hc2 := (fun w1 => cut_any (w.heap.size + 1) 0 7 511 w1 (by omega) (by omega))
  have hc3 := (fun w1 => cut_any (w.heap.size + 1) 0 3 7 w1 (by omega) (by omega))
  clear hs
  go_enter Tryz.func152, Tryz.ntmps152
  go_wp2_with fail
  rw [s1_of]
  obtain ⟨w1, hw1⟩ : ∃ w1, w1 = (w.alloc (.cells zsec 200)).alloc (.cells (bs (s1 t)).toArray 200) := ⟨_, rfl⟩
  have hB1 : Below w.heap.size w w1 := by rw [hw1]; exact ((Below.refl _ w).alloc (Nat.le_refl _) _).alloc (by simp) _
  have hblk : Blk w1 200 (w.heap.size + 1) (s1 t) := by rw [hw1]; exact heap_alloc2_new _ _ _
  have hres : w1.heap[w.heap.size]? = some (.cells zsec 200 (0, 0)) := by rw [hw1]; exact heap_alloc2_old _ _ _
  rw [← hw1]
  clear hw1 hz
  refine (hc1 w1).mono ?_
  rintro e w' ⟨rfl, hw⟩
  have hw' := hw.symm
  subst hw'
  clear hw hc1
  have hl := lay_any (w.heap.size + 1) 1 2 2 n 200 (s1 t) w1 hblk (by omega) (by rw [s1_len]; omega)
  rw [s2_of t n (by omega)] at hl
  have Hres := hres
  have HB1 := hB1
  clear hblk hres hB1
  go_wp2_with fail
  refine hl.mono ?_
  rintro e w2 ⟨rfl, hblk, hk, hz2⟩
  have hB2 := HB1.trans (hk.below (fun j hj => by omega) HB1.size)
  have hres := (hk.block _ (Array.getElem?_eq_some_iff.1 Hres).1 (by omega)).trans Hres
  obtain ⟨w3, hrun, hblk3, hk3, hz3⟩ := copy_blk w2 3 200 (w.heap.size + 1) 7 504 504 a n c (s2 t n) body hblk (H.later hB2) hn (by rw [s2_len]; omega)
  have hB3 := hB2.trans (hk3.below (fun j hj => by omega) hB2.size)
  have hres3 := (hk3.block _ (Array.getElem?_eq_some_iff.1 hres).1 (by omega)).trans hres
  have e3 := s3_of t body (by omega)
  rw [hlb] at e3
  rw [e3] at hblk3
  have Hblk3 := hblk3
  have Hres3 := hres3
  have HB3 := hB3
  clear hl hblk hk hB2 hres hk3 hB3 hres3 hblk3 HB1 Hres hz2 hz3 e3
  go_wp2_with fail
  refine (hc2 w2).mono ?_
  rintro e w' ⟨rfl, hw⟩
  have hw' := hw.symm
  subst hw'
  clear hw hc2
  go_wp2_with fail
  refine (hc3 w3).mono ?_
  rintro e w' ⟨rfl, hw⟩
  have hw' := hw.symm
  subst hw'
  clear hw hc3 hrun
  have hsum := ssum_any (w.heap.size + 1) 200 (s3 t body) w3 Hblk3 (s3_len t (by omega)) (s3_bytes (by omega) hb (by omega))
  rw [s3_text t body (by omega)] at hsum
  have hS := sumOf_lt (stext_bytes hb (show body.length ≤ 504 by omega))
  have e4 := s4_of t body
  obtain ⟨E, hE⟩ : ∃ E, E = sumOf (stext body) := ⟨_, rfl⟩
  rw [← hE] at hsum hS e4
  have He4 := e4
  clear hE e4
  go_wp2_with fail
  refine hsum.mono ?_
  rintro e w4 ⟨rfl, hb4⟩
  have hblk4 := Hblk3.keep (hb4.block _ Hblk3.lt)
  have hres4 := (hb4.block _ (Array.getElem?_eq_some_iff.1 Hres3).1).trans Hres3
  have hB4 := HB3.trans (hb4.mono HB3.size)
  have hl := lay_any (w.heap.size + 1) 3 4 4 E 200 (s3 t body) w4 hblk4 (by omega) (by rw [s3_len t (by omega)]; omega)
  rw [He4] at hl
  have Hres4 := hres4
  have HB4 := hB4
  clear hsum hb4 hblk4 hres4 hB4 Hblk3 Hres3 HB3 He4
  go_wp2_with fail
  refine hl.mono ?_
  rintro e w5 ⟨rfl, hblk5, hk5, hz5⟩
  have hres5 := (hk5.block _ (Array.getElem?_eq_some_iff.1 Hres4).1 (by omega)).trans Hres4
  have hB5 := HB4.trans (hk5.below (fun j hj => by omega) HB4.size)
  have hfl : (sform t body).length = 512 := sform_len (by omega)
  have hra := blk_range hblk5
  have hth := there_of hres5 zsec_size
  have hinfo := infoSecL hfl
  have hll : (bs (sform t body)).length = 512 := by rw [bs, List.length_map, hfl]
  have hone := bs_one (sform t body)
  generalize hF : bs (sform t body) = F at *
  rw [← hll] at hth
  have hrs := (World.rangeAt_setCells_same w5 w.heap.size 0 F hth)
  have hall := all_oneCell_toArray hone
  have hB6 := hB5.trans ((Keeps.setCells (F := fun j => j = w.heap.size) rfl F 0 w5).below (fun j hj => by omega) hB5.size)
  have HF := hF
  clear hl hblk5 hk5 hz5 hres5 hB5 hfl Hres4 HB4 hone hF
  go_wp2_with (first | refine wpList_load_mid rfl 200 _ rfl (w.heap.size + 1) 0 rfl F _ hra Tryz.underlying200 rfl hinfo ?_ | refine wpList_store_mid rfl 200 _ _ rfl w.heap.size 0 F.toArray rfl rfl ?h1 ?h2 hall ?_)
  case h1 => simpa using hth
  case h2 => simpa using hinfo
  exact bodyPost_ret (results_cell_mid (P := Tryz.prog) rfl _ _ w.heap.size F _ rfl hrs Tryz.underlying200 rfl hinfo) rfl ⟨by rw [HF], hB6⟩
end Go.Proofs.YtokcgifpljeoiaaGreat
end
