import Derived.Test.YtkdjjnkhbmmfeaaKBase
namespace Go.Proofs.Ytkdjjnkhbmmfeaa
open Go.RowKit

theorem infoRow : (Try.prog.info? 25).map (fun i => (i.zero, i.size, i.bytes)) = some (some (.slice none 0 0), 1, 24) := by kernel_rfl
theorem below_box (w : World) (o : Obj) : Below w.heap.size w (w.alloc o) := (Below.refl _ _).alloc (Nat.le_refl _) _
end Go.Proofs.Ytkdjjnkhbmmfeaa
