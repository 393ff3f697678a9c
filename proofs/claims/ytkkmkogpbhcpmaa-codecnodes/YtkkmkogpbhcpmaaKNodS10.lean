import Derived.Test.YtkkmkogpbhcpmaaKNodR
import Derived.Deep.Cut
namespace Go.Proofs.Ytkkmkogpbhcpmaa
open Go.RowKit

set_option maxRecDepth 20000 in
set_option maxHeartbeats 4000000 in
theorem rnfit_no10 (k l p s o : Int) (d : Nat → Int) (w : World) (h0 : ¬ NNone k l p s o d) (hf : ¬ NFits k l p s o d) (g0 : ¬ k < 1) (g1 : ¬ 3 < k) (g2 : ¬ l < 0) (g3 : ¬ 64 < l) (g4 : ¬ s < 0) (g5 : ¬ 8459264 < s) (g6 : ¬ o < 0) (g7 : ¬ 2048 < o) (g8 : (k == 2) = false) (g9 : (k != 2) = true) (g10 : (p != 0) = true) :
    Calls Try.prog 90 #[nd k l p s o d] w fun e w' => Says (NNone k l p s o d ∨ NFits k l p s o d) e ∧ Below w.heap.size w w' := by
  obtain ⟨w1, hw1⟩ : ∃ w1, w1 = w.alloc (.cells (ndc k l p s o d) 76) := ⟨_, rfl⟩
  have hB1 : Below w.heap.size w w1 := by rw [hw1]; exact (Below.refl _ w).alloc (Nat.le_refl _) _
  have hq1 : w1.heap[w.heap.size]? = some (.cells (ndc k l p s o d) 76 (0, 0)) := by rw [hw1]; exact heap_alloc_new _ _
  have hl1 := range_of (cs := ndl k l p s o d) hq1
  rw [hw1] at hl1
  have Hl1 := Hid.mk hl1
  have HB := Hid.mk (And.intro hB1 hq1)
  clear hl1 hq1 hB1
  have He : Hid ((false = true) ↔ NSame k l p s o d 0 0 0 0 0 (fun _ => 0)) := ⟨fun h => (by cases h), fun h => absurd h h0⟩
  have HF : Hid (¬ (NNone k l p s o d ∨ NFits k l p s o d)) := fun h => h.elim h0 hf
  clear h0 hf
  go_enter Try.func90, Try.ntmps90
  go_upto_region 5 with (first | (refine wpList_load_guard ?hg 76 _ rfl w.heap.size 0 rfl (ndl k l p s o d) _ Hl1.out Try.underlying76 rfl infoNode ?_; case hg => rfl) | refine wpList_eq_node rfl _ _ _ rfl k l p s o d 0 0 0 0 0 (fun _ => 0) rfl rfl false He.out ?_)
  go_wp2
  go_ret
  rw [← hw1]
  exact ⟨Says.no HF.out, HB.out.1⟩

end Go.Proofs.Ytkkmkogpbhcpmaa
