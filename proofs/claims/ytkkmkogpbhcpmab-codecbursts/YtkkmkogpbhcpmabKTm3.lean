import Derived.Test.YtkkmkogpbhcpmabKTm1
namespace Go.Proofs.Ytkkmkogpbhcpmab
open Go.RowKit

set_option maxRecDepth 20000 in
set_option maxHeartbeats 4000000 in
theorem tameSuper_any (s l n : Int) (w : World) :
    Calls Try.prog 11 #[agg3 s l n] w fun e w' => ∃ S L N : Int, e = .returned (agg3 S L N) ∧ Geo S L N ∧ Below w.heap.size w w' := by
  obtain ⟨w0, hw0⟩ : ∃ w0, w0 = (w.alloc (.cells #[.int .i64 s, .int .i64 l, .int .i64 n] 31)).alloc (.cells #[.int .i64 0, .int .i64 0, .int .i64 0] 31) := ⟨_, rfl⟩
  have hB0 : Below w.heap.size w w0 := by rw [hw0]; exact below_two w _ _
  have hp : w0.heap[w.heap.size]? = some (.cells #[.int .i64 s, .int .i64 l, .int .i64 n] 31 (0, 0)) := by rw [hw0]; exact heap_alloc2_old _ _ _
  have hr : w0.heap[w.heap.size + 1]? = some (.cells #[.int .i64 0, .int .i64 0, .int .i64 0] 31 (0, 0)) := by rw [hw0]; exact heap_alloc2_new _ _ _
  have b0 := bring_any l 18 256 w0 (by omega) (by omega)
  have H0 := Hid.mk (And.intro hB0 (And.intro hp hr))
  clear hB0 hp hr
  go_enter Try.func11, Try.ntmps11
  go_wp2_with fail
  rw [← hw0]
  clear hw0
  refine b0.mono ?_
  rintro e wx ⟨⟨L, rfl, L1, L2⟩, hw⟩
  have hw' := hw.symm
  subst hw'
  clear hw b0
  obtain ⟨hB0, hp, hr⟩ := H0.out
  clear H0
  obtain ⟨w1, hw1⟩ : ∃ w1, w1 = w0.setCell ⟨w.heap.size, 1, none⟩ (.int .i64 L) := ⟨_, rfl⟩
  have hp1 : w1.heap[w.heap.size]? = some (.cells #[.int .i64 s, .int .i64 L, .int .i64 n] 31 (0, 0)) := by rw [hw1]; exact heap_setCell_same _ _ _ _ _ _ hp
  have hr1 : w1.heap[w.heap.size + 1]? = some (.cells #[.int .i64 0, .int .i64 0, .int .i64 0] 31 (0, 0)) := by rw [hw1]; exact (Below.heap_setCell _ _ _ _ (by simp)).trans hr
  have hB1 : Below w.heap.size w w1 := by rw [hw1]; exact below_put hB0 (Nat.le_refl _) hB0.size _
  have c1 := cell_of_block hp (j := 1) rfl
  have f1 := frozen_of_block hp 1
  have n1 := cell_of_block hp (j := 2) (u := .int .i64 n) rfl
  have b1 := bring_any n 1 256 w1 (by omega) (by omega)
  have H1 := Hid.mk (And.intro hB1 (And.intro hp1 hr1))
  clear hB0 hp hr hB1 hp1 hr1
  go_wp2_with fail
  rw [← hw1]
  clear hw1 c1 f1 n1
  refine b1.mono ?_
  rintro e wx ⟨⟨m, rfl, m1, m2⟩, hw⟩
  have hw' := hw.symm
  subst hw'
  clear hw b1
  obtain ⟨hB1, hp1, hr1⟩ := H1.out
  clear H1
  obtain ⟨w2, hw2⟩ : ∃ w2, w2 = w1.setCell ⟨w.heap.size, 2, none⟩ (.int .i64 (4 * m)) := ⟨_, rfl⟩
  have hp2 : w2.heap[w.heap.size]? = some (.cells #[.int .i64 s, .int .i64 L, .int .i64 (4 * m)] 31 (0, 0)) := by rw [hw2]; exact heap_setCell_same _ _ _ _ _ _ hp1
  have hr2 : w2.heap[w.heap.size + 1]? = some (.cells #[.int .i64 0, .int .i64 0, .int .i64 0] 31 (0, 0)) := by rw [hw2]; exact (Below.heap_setCell _ _ _ _ (by simp)).trans hr1
  have hB2 : Below w.heap.size w w2 := by rw [hw2]; exact below_put hB1 (Nat.le_refl _) hB1.size _
  have c2 := cell_of_block hp1 (j := 2) rfl
  have f2 := frozen_of_block hp1 2
  have n2 := cell_of_block hp1 (j := 0) (u := .int .i64 s) rfl
  have o2 := cell_of_block hp1 (j := 1) (u := .int .i64 L) rfl
  have b2 := bring_any s (L + m + 6).toNat 2048 w2 (by omega) (by omega)
  rw [show (((L + m + 6).toNat : Nat) : Int) = 3 + L + 2 + m + 1 by omega] at b2
  have H2 := Hid.mk (And.intro hB2 (And.intro hp2 hr2))
  have hm4 : (4 * m) / 4 = m := by omega
  have hm5 : (4 * m).tdiv 4 = m := by rw [Int.tdiv_eq_ediv_of_nonneg (by omega)]; exact hm4
  clear hB1 hp1 hr1 hB2 hp2 hr2
  go_wp2_with fail
  rw [← hw2]
  clear hw2 c2 f2 n2 o2
  refine b2.mono ?_
  rintro e wx ⟨⟨S, rfl, S1, S2⟩, hw⟩
  have hw' := hw.symm
  subst hw'
  clear hw b2 hm4 hm5
  obtain ⟨hB2, hp2, hr2⟩ := H2.out
  clear H2
  have HG : Hid (Geo S L (4 * m)) := ⟨⟨L1, L2⟩, ⟨by omega, by omega⟩, by omega, by omega, S2⟩
  have c0 := cell_of_block hp2 (j := 0) rfl
  have c1 := cell_of_block hp2 (j := 1) (u := .int .i64 L) rfl
  have c2 := cell_of_block hp2 (j := 2) (u := .int .i64 (4 * m)) rfl
  have f0 := frozen_of_block hp2 0
  have d0 := cell_of_block hr2 (j := 0) rfl
  have d1 := cell_of_block hr2 (j := 1) (u := .int .i64 0) rfl
  have d2 := cell_of_block hr2 (j := 2) (u := .int .i64 0) rfl
  have g0 := frozen_of_block hr2 0
  have g1 := frozen_of_block hr2 1
  have g2 := frozen_of_block hr2 2
  have hsz := (Array.getElem?_eq_some_iff.1 hr2).1
  have HB : Hid (Below w.heap.size w ((((w2.setCell ⟨w.heap.size, 0, none⟩ (.int .i64 S)).setCell ⟨w.heap.size + 1, 0, none⟩ (.int .i64 S)).setCell ⟨w.heap.size + 1, 1, none⟩ (.int .i64 L)).setCell ⟨w.heap.size + 1, 2, none⟩ (.int .i64 (4 * m)))) :=
    below_put (below_put (below_put (below_put hB2 (Nat.le_refl _) (by omega) _) (by omega) (by rw [size_setCell]; omega) _) (by omega) (by rw [size_setCell, size_setCell]; omega) _) (by omega) (by rw [size_setCell, size_setCell, size_setCell]; omega) _
  clear hB2 hp2 hr2
  go_wp2
  refine bodyPost_ret (v := agg3 S L (4 * m)) (by simp [results, Try.results11, go_sem, d0, d1, d2]) rfl ⟨S, L, 4 * m, rfl, HG.out, HB.out⟩
end Go.Proofs.Ytkkmkogpbhcpmab
