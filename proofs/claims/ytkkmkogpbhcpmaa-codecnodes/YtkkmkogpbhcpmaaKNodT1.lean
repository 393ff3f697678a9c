import Derived.Test.YtkkmkogpbhcpmaaKNodR
import Derived.Deep.Cut
namespace Go.Proofs.Ytkkmkogpbhcpmaa
open Go.RowKit

set_option maxRecDepth 20000 in
set_option maxHeartbeats 4000000 in
theorem rnfit_good1 (k l p s o : Int) (d : Nat → Int) (w : World) (h0 : ¬ NNone k l p s o d) (hf : (∀ i, i < 12 → PF (d i)) ↔ NFits k l p s o d) (g0 : ¬ k < 1) (g1 : ¬ 3 < k) (g2 : ¬ l < 0) (g3 : ¬ 64 < l) (g4 : ¬ s < 0) (g5 : ¬ 8459264 < s) (g6 : ¬ o < 0) (g7 : ¬ 2048 < o) (g8 : (k == 2) = false) (g9 : (k != 2) = true) (g10 : (p != 0) = false) :
    Calls Try.prog 90 #[nd k l p s o d] w fun e w' => Says (NNone k l p s o d ∨ NFits k l p s o d) e ∧ Below w.heap.size w w' := by
  obtain ⟨w1, hw1⟩ : ∃ w1, w1 = w.alloc (.cells (ndc k l p s o d) 76) := ⟨_, rfl⟩
  have hB1 : Below w.heap.size w w1 := by rw [hw1]; exact (Below.refl _ w).alloc (Nat.le_refl _) _
  have hq1 : w1.heap[w.heap.size]? = some (.cells (ndc k l p s o d) 76 (0, 0)) := by rw [hw1]; exact heap_alloc_new _ _
  have hl1 := range_of (cs := ndl k l p s o d) hq1
  rw [hw1] at hl1
  have Hl1 := Hid.mk hl1
  have HB := Hid.mk (And.intro hB1 hq1)
  clear hl1 hq1 hB1
  have He : Hid ((false = true) ↔ NSame k l p s o d 0 0 0 0 0 (fun _ => 0)) := ⟨fun h => (by cases h), fun h => absurd h h0⟩
  have HN := Hid.mk h0
  have HF := Hid.mk hf
  have HP := Hid.mk (fun i hi wx => rptr_any k l p s o d i hi wx)
  clear h0 hf
  go_enter Try.func90, Try.ntmps90
  go_upto_region 5 with (first | (refine wpList_load_guard ?hg 76 _ rfl w.heap.size 0 rfl (ndl k l p s o d) _ Hl1.out Try.underlying76 rfl infoNode ?_; case hg => rfl) | refine wpList_eq_node rfl _ _ _ rfl k l p s o d 0 0 0 0 0 (fun _ => 0) rfl rfl false He.out ?_)
  go_wp2_with fail
  rw [← hw1]
  clear hw1 Hl1 He
  go_loopw [3] (fun i wr => ∃ j : Nat, j ≤ 12 ∧ i = .int .i64 j ∧ (Below w.heap.size w wr ∧ wr.heap[w.heap.size]? = some (.cells (ndc k l p s o d) 76 (0, 0))) ∧ ∀ i, i < j → PF (d i)) (fun i _ => 12 - (intOf i).toNat)
  case atStart => exact ⟨0, Nat.zero_le _, rfl, HB.out, fun i hi => by omega⟩
  case round =>
    clear HB
    obtain ⟨j, hj, rfl, hB, hall⟩ := hrel
    have HA := Hid.mk hall
    clear hall
    by_cases hlt : j < 12
    · have hlt' : (j : Int) < 12 := by omega
      have hl2 := Hid.mk (range_of (cs := ndl k l p s o d) hB.2)
      have hpt := HP.out j hlt wr
      have HBr := Hid.mk hB
      clear hB HP
      go_wp2_with (refine wpList_load_guard ?hg 76 _ rfl w.heap.size 0 rfl (ndl k l p s o d) _ hl2.out Try.underlying76 rfl infoNode ?_; case hg => rfl)
      refine hpt.mono ?_
      rintro e w2 ⟨rfl, hb2⟩
      have HB2 : Hid (Below w.heap.size w w2 ∧ w2.heap[w.heap.size]? = some (.cells (ndc k l p s o d) 76 (0, 0))) := ⟨HBr.out.1.trans (hb2.mono HBr.out.1.size), (hb2.block _ (Array.getElem?_eq_some_iff.1 HBr.out.2).1).trans HBr.out.2⟩
      clear hpt hb2 HBr hl2
      have HPj : Hid (PF (d j) ↔ 0 ≤ d j ∧ d j ≤ 2047) := pf_iff (d j)
      have HA' : Hid (PF (d j) → ∀ i, i < j + 1 → PF (d i)) := fun h i hi => by
        by_cases e : i = j
        · rw [e]; exact h
        · exact HA.out i (by omega)
      have HX : Hid (¬ PF (d j) → ¬ (NNone k l p s o d ∨ NFits k l p s o d)) := fun h h' => h'.elim HN.out (fun hh => h (HF.out.2 hh j hlt))
      clear HA HN HF
      generalize d j = D at *
      by_cases h1 : D < 0
      · have HXX := Hid.mk (HX.out (fun h => by have := HPj.out.1 h; omega))
        go_wp2
        go_ret
        exact ⟨Says.no HXX.out, HB2.out.1⟩
      · by_cases h2 : 2048 ≤ D
        · have HXX := Hid.mk (HX.out (fun h => by have := HPj.out.1 h; omega))
          go_wp2
          go_ret
          exact ⟨Says.no HXX.out, HB2.out.1⟩
        · have HAA := Hid.mk (HA'.out (HPj.out.2 ⟨by omega, by omega⟩))
          go_wp2
          go_roundw
          case rel => exact ⟨j + 1, by omega, by go_num, HB2.out, HAA.out⟩
          case measure => simp [intOf]; omega
    · have hlt' : ¬ (j : Int) < 12 := by omega
      have HY : Hid (NNone k l p s o d ∨ NFits k l p s o d) := .inr (HF.out.1 (fun i hi => HA.out i (by omega)))
      have HBr := Hid.mk hB.1
      clear hB HP
      go_wp2
      go_ret
      exact ⟨Says.yes HY.out, HBr.out⟩

end Go.Proofs.Ytkkmkogpbhcpmaa
