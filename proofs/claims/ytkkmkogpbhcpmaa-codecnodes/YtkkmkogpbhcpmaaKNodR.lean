import Derived.Test.YtkkmkogpbhcpmaaKNodH
namespace Go.Proofs.Ytkkmkogpbhcpmaa
open Go.RowKit

set_option maxRecDepth 20000 in
set_option maxHeartbeats 4000000 in
theorem rptr_any (k l p s o : Int) (d : Nat → Int) (i : Nat) (hi : i < 12) (w : World) :
    Calls Try.prog 92 #[nd k l p s o d, .int .i64 (i : Int)] w fun e w' => e = .returned (.int .i64 (d i)) ∧ Below w.heap.size w w' := by
  have hB1 := Hid.mk (fun ob => (Below.refl _ w).alloc (Nat.le_refl _) ob)
  by_cases h10 : i = 10
  · subst h10
    go_enter Try.func92, Try.ntmps92
    go_wp2
    go_ret
    exact ⟨rfl, hB1.out _⟩
  · by_cases h11 : i = 11
    · subst h11
      go_enter Try.func92, Try.ntmps92
      go_wp2
      go_ret
      exact ⟨rfl, hB1.out _⟩
    · have e10 : ((i : Int) == 10) = false := by rw [Bool.eq_false_iff, ne_eq, beq_iff_eq]; omega
      have e11 : ((i : Int) == 11) = false := by rw [Bool.eq_false_iff, ne_eq, beq_iff_eq]; omega
      have hlt : (i : Int) < 10 := by omega
      have hlt2 : i < 10 := by omega
      have hc : (w.alloc (.cells (ndc k l p s o d) 76)).cell? ⟨w.heap.size, 5 + i, none⟩ = some (.int .i64 (d i)) := by
        have := range_ten (w := w.alloc (.cells (ndc k l p s o d) 76)) (heap_alloc_new _ _) i (.int .i64 (d i))
        refine this ?_
        match i, hlt2 with
        | 0, _ => rfl
        | 1, _ => rfl
        | 2, _ => rfl
        | 3, _ => rfl
        | 4, _ => rfl
        | 5, _ => rfl
        | 6, _ => rfl
        | 7, _ => rfl
        | 8, _ => rfl
        | 9, _ => rfl
      clear h10 h11 hi
      go_enter Try.func92, Try.ntmps92
      go_wp2
      go_ret
      exact ⟨rfl, hB1.out _⟩
end Go.Proofs.Ytkkmkogpbhcpmaa
