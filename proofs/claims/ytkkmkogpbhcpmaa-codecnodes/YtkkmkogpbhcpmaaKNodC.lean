import Derived.Test.YtkkmkogpbhcpmaaKNodB
namespace Go.Proofs.Ytkkmkogpbhcpmaa
open Go.RowKit

set_option maxRecDepth 20000 in
theorem within_any (x lo hi : Int) (w : World) : Calls Try.prog 114 #[.int .i64 x, .int .i64 lo, .int .i64 hi] w fun e w' => e = .returned (.bool (decide (lo ≤ x ∧ x ≤ hi))) ∧ w' = w := by
  by_cases h : lo ≤ x
  · by_cases h' : x ≤ hi
    · rw [decide_eq_true (And.intro h h')]
      go_enter Try.func114, Try.ntmps114
      go_wp2
      go_ret
      exact ⟨rfl, rfl⟩
    · rw [decide_eq_false (fun hh => h' hh.2)]
      go_enter Try.func114, Try.ntmps114
      go_wp2
      go_ret
      exact ⟨rfl, rfl⟩
  · rw [decide_eq_false (fun hh => h hh.1)]
    go_enter Try.func114, Try.ntmps114
    go_wp2
    go_ret
    exact ⟨rfl, rfl⟩
theorem nfit_any (k l p s o : Int) (d : Nat → Int) (w : World) :
    Calls Try.prog 86 #[nd k l p s o d] w fun e w' => Says (NFits k l p s o d) e ∧ Below w.heap.size w w' := by
  refine (nfit_low k l p s o d w _ _ _ _ _ (fun wx => within_any k 1 3 wx) (fun wx => within_any l 0 64 wx) (fun wx => parf_any k l p s o d wx) (fun wx => within_any s 0 8459264 wx) (fun wx => within_any o 0 2048 wx)).mono ?_
  rintro e w' ⟨⟨b, rfl, hb⟩, hw⟩
  refine ⟨⟨b, rfl, ?_⟩, hw⟩
  rw [hb]
  simp only [decide_eq_true_eq, par_iff, NFits]
  constructor
  · rintro ⟨⟨⟨⟨⟨h1, h2⟩, h3⟩, h4⟩, h5⟩, h6⟩
    exact ⟨h1, h2, h3, h4, h5, h6⟩
  · rintro ⟨h1, h2, h3, h4, h5, h6⟩
    exact ⟨⟨⟨⟨⟨h1, h2⟩, h3⟩, h4⟩, h5⟩, h6⟩

/-- The empty node. -/
def NNone (k l p s o : Int) (d : Nat → Int) : Prop := k = 0 ∧ l = 0 ∧ p = 0 ∧ s = 0 ∧ o = 0 ∧ ∀ i, i < 12 → d i = 0

end Go.Proofs.Ytkkmkogpbhcpmaa
