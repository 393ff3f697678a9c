import Derived.Test.YtkdjjnkhbmmfeaaKBase
namespace Go.Proofs.Ytkdjjnkhbmmfeaa
open Go.RowKit Go.Maps

set_option maxRecDepth 20000 in
theorem serveNames_any (w : World) : Calls Try.prog 5 #[] w fun e w' => e = .returned (.bool true) ∧ Below w.heap.size w w' := by
  go_enter Try.func5, Try.ntmps5
  go_wp2
  go_ret
  refine ⟨rfl, ?_⟩
  first | exact (Below.refl _ _).alloc (Nat.le_refl _) _ | skip
end Go.Proofs.Ytkdjjnkhbmmfeaa
