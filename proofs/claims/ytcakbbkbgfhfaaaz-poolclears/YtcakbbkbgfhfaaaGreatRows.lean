/-
  No cell of these rows narrows 'for every input' (looked for: loops, veiled, ifaces, maps, wideKeys, modest, calm, conditions, laid).
  DERIVED. THE GIVEN ROWS OF THIS SEAT. 6 by the template 'for every input the law returns true; each argument reads behind the call as it read before'; 0 by the template 'total and deterministic' (their statements: YtcakbbkbgfhfaaaGreatTotals.lean).
  GIVEN WITH THE SEED: the statements are not yours to turn. If you find one false, say at which input.
  Laid BY PROGRAM, IN A SANDBOX (cutbox-rows.mjs): the forced cells as the released guide's own fill.sh prints them over the translation 03e0c9014416ef66… (all of the seat's roots in one cut). By AI agents, Wed Nov 11 2026. No macro, syntax, notation, axiom, sorry.
-/
import Derived.Test.YtcakbbkbgfhfaaaGreatChecked
import GoSem.Claim
import GoSem.ClaimJoined
import GoSem.ClaimMapViews
import Derived.JoinedTies
import Derived.KernelRfl
namespace Go.Proofs.YtcakbbkbgfhfaaaGreat
/- THE CELL 'sum', in the pinned program and in every row, IS THE sha256 OF THE DUMP (.gsa) THAT YtcakbbkbgfhfaaaGreatProg.lean LOADS. Nothing in Lean hashes anything: it is a label: what it is worth is what the hold of that sum in a sandbox is worth. -/
noncomputable def Tryz.pinned : Pinned := { name := "ytcakbbkbgfhfaaagreat", sum := "03e0c9014416ef66a8e4bf195da85ec30493f892ea32d035f34ecc6c12b04892", checked := Tryz.checked }
namespace Rows
def none {H : Type} : Left H := { results := [], args := [] }

/-- 'vellumlaw6.PoolFills': WHATEVER THE INPUT: true; the input reads as it did. -/
def poolFillsSpec : ChangeSpec := { name := "poolFills", fn := fun _ => fun
  | [d1, d2] => { results := [.lit (.bool true)], args := [d1, d2] }
  | _ => none }
def poolFillsRow : OpenClaim := { program := "ytcakbbkbgfhfaaagreat", sum := "03e0c9014416ef66a8e4bf195da85ec30493f892ea32d035f34ecc6c12b04892", func := "vellum/vellumlaw6.PoolFills", spec := "poolFills", unfollowed := true, recurses := true, apart := false }
def PoolFillsSaid : Prop := poolFillsRow.holds Tryz.pinned (OpenSpec.ofChange poolFillsSpec)

/-- ITS FALSE NEIGHBOUR: 'it returns false'. Refute it at one input. -/
def poolFillsWrong : ChangeSpec := { name := "poolFills", fn := fun _ => fun
  | [d1, d2] => { results := [.lit (.bool false)], args := [d1, d2] }
  | _ => none }
def PoolFillsWrongFalsely : Prop := poolFillsRow.holds Tryz.pinned (OpenSpec.ofChange poolFillsWrong)

/-- 'vellumlaw6.PoolApart': WHATEVER THE INPUT: true; the input reads as it did. -/
def poolApartSpec : ChangeSpec := { name := "poolApart", fn := fun _ => fun
  | [d1, d2] => { results := [.lit (.bool true)], args := [d1, d2] }
  | _ => none }
def poolApartRow : OpenClaim := { program := "ytcakbbkbgfhfaaagreat", sum := "03e0c9014416ef66a8e4bf195da85ec30493f892ea32d035f34ecc6c12b04892", func := "vellum/vellumlaw6.PoolApart", spec := "poolApart", unfollowed := true, recurses := true, apart := false }
def PoolApartSaid : Prop := poolApartRow.holds Tryz.pinned (OpenSpec.ofChange poolApartSpec)

/-- ITS FALSE NEIGHBOUR: 'it returns false'. Refute it at one input. -/
def poolApartWrong : ChangeSpec := { name := "poolApart", fn := fun _ => fun
  | [d1, d2] => { results := [.lit (.bool false)], args := [d1, d2] }
  | _ => none }
def PoolApartWrongFalsely : Prop := poolApartRow.holds Tryz.pinned (OpenSpec.ofChange poolApartWrong)

/-- 'vellumlaw6.PoolBack': WHATEVER THE INPUT: true; the input reads as it did. -/
def poolBackSpec : ChangeSpec := { name := "poolBack", fn := fun _ => fun
  | [d1, d2, d3, d4] => { results := [.lit (.bool true)], args := [d1, d2, d3, d4] }
  | _ => none }
def poolBackRow : OpenClaim := { program := "ytcakbbkbgfhfaaagreat", sum := "03e0c9014416ef66a8e4bf195da85ec30493f892ea32d035f34ecc6c12b04892", func := "vellum/vellumlaw6.PoolBack", spec := "poolBack", unfollowed := true, recurses := true, apart := false }
def PoolBackSaid : Prop := poolBackRow.holds Tryz.pinned (OpenSpec.ofChange poolBackSpec)

/-- ITS FALSE NEIGHBOUR: 'it returns false'. Refute it at one input. -/
def poolBackWrong : ChangeSpec := { name := "poolBack", fn := fun _ => fun
  | [d1, d2, d3, d4] => { results := [.lit (.bool false)], args := [d1, d2, d3, d4] }
  | _ => none }
def PoolBackWrongFalsely : Prop := poolBackRow.holds Tryz.pinned (OpenSpec.ofChange poolBackWrong)

/-- 'vellumlaw6.PoolClears': WHATEVER THE INPUT: true; the input reads as it did. -/
def poolClearsSpec : ChangeSpec := { name := "poolClears", fn := fun _ => fun
  | [d1, d2, d3] => { results := [.lit (.bool true)], args := [d1, d2, d3] }
  | _ => none }
def poolClearsRow : OpenClaim := { program := "ytcakbbkbgfhfaaagreat", sum := "03e0c9014416ef66a8e4bf195da85ec30493f892ea32d035f34ecc6c12b04892", func := "vellum/vellumlaw6.PoolClears", spec := "poolClears", unfollowed := true, recurses := true, apart := false }
def PoolClearsSaid : Prop := poolClearsRow.holds Tryz.pinned (OpenSpec.ofChange poolClearsSpec)

/-- ITS FALSE NEIGHBOUR: 'it returns false'. Refute it at one input. -/
def poolClearsWrong : ChangeSpec := { name := "poolClears", fn := fun _ => fun
  | [d1, d2, d3] => { results := [.lit (.bool false)], args := [d1, d2, d3] }
  | _ => none }
def PoolClearsWrongFalsely : Prop := poolClearsRow.holds Tryz.pinned (OpenSpec.ofChange poolClearsWrong)

/-- 'vellumlaw6.PoolTakes': WHATEVER THE INPUT: true; the input reads as it did. -/
def poolTakesSpec : ChangeSpec := { name := "poolTakes", fn := fun _ => fun
  | [d1, d2, d3] => { results := [.lit (.bool true)], args := [d1, d2, d3] }
  | _ => none }
def poolTakesRow : OpenClaim := { program := "ytcakbbkbgfhfaaagreat", sum := "03e0c9014416ef66a8e4bf195da85ec30493f892ea32d035f34ecc6c12b04892", func := "vellum/vellumlaw6.PoolTakes", spec := "poolTakes", unfollowed := true, recurses := true, apart := false }
def PoolTakesSaid : Prop := poolTakesRow.holds Tryz.pinned (OpenSpec.ofChange poolTakesSpec)

/-- ITS FALSE NEIGHBOUR: 'it returns false'. Refute it at one input. -/
def poolTakesWrong : ChangeSpec := { name := "poolTakes", fn := fun _ => fun
  | [d1, d2, d3] => { results := [.lit (.bool false)], args := [d1, d2, d3] }
  | _ => none }
def PoolTakesWrongFalsely : Prop := poolTakesRow.holds Tryz.pinned (OpenSpec.ofChange poolTakesWrong)

/-- 'vellumlaw6.PoolDrops': WHATEVER THE INPUT: true; the input reads as it did. -/
def poolDropsSpec : ChangeSpec := { name := "poolDrops", fn := fun _ => fun
  | [d1, d2, d3] => { results := [.lit (.bool true)], args := [d1, d2, d3] }
  | _ => none }
def poolDropsRow : OpenClaim := { program := "ytcakbbkbgfhfaaagreat", sum := "03e0c9014416ef66a8e4bf195da85ec30493f892ea32d035f34ecc6c12b04892", func := "vellum/vellumlaw6.PoolDrops", spec := "poolDrops", unfollowed := true, recurses := true, apart := false }
def PoolDropsSaid : Prop := poolDropsRow.holds Tryz.pinned (OpenSpec.ofChange poolDropsSpec)

/-- ITS FALSE NEIGHBOUR: 'it returns false'. Refute it at one input. -/
def poolDropsWrong : ChangeSpec := { name := "poolDrops", fn := fun _ => fun
  | [d1, d2, d3] => { results := [.lit (.bool false)], args := [d1, d2, d3] }
  | _ => none }
def PoolDropsWrongFalsely : Prop := poolDropsRow.holds Tryz.pinned (OpenSpec.ofChange poolDropsWrong)

/- THE SECOND FORM. 'bulk': how many values and letters a reading holds, each counted each time it is reached (what is shared counts as often as it is met; a slice's spare places count too). A statement '..UptoSaid' is the law's where the arguments, and the package variables that the reading takes, are together of bulk at most 1048576: NARROWER than '..Said'. Prove '..Said' where nothing that the law and all that it calls make is longer than what came in: it says more and counts as full. Else prove '..UptoSaid'. A law counts once. -/
mutual
def uptoBulk {H : Type} : DataW H → Nat
  | .lit (.string bytes) => bytes.length + 1
  | .lit _ => 1
  | .nil => 1
  | .ptr d => uptoBulk d + 1
  | .slice elems spare => uptoBulkAll elems + uptoBulkAll spare + 1
  | .agg parts => uptoBulkAll parts + 1
  | .iface _ d => uptoBulk d + 1
  | .map entries => uptoBulkEntries entries + 1
  | .held _ => 1
def uptoBulkAll {H : Type} : List (DataW H) → Nat
  | [] => 0
  | d :: r => uptoBulk d + uptoBulkAll r
def uptoBulkEntries {H : Type} : List (Lit × DataW H) → Nat
  | [] => 0
  | x :: r => uptoBulkEntry x + uptoBulkEntries r
def uptoBulkEntry {H : Type} : Lit × DataW H → Nat
  | (.string bytes, d) => bytes.length + uptoBulk d + 1
  | (_, d) => uptoBulk d + 1
 end
def uptoSmall : (H : Type) → List (DataW H) → Bool := fun _ ds => decide (uptoBulkAll ds ≤ 1048576)
def OpenSpec.upto (s : _root_.Go.ChangeSpec) : _root_.Go.OpenSpec := { _root_.Go.OpenSpec.ofChange s with cond := some uptoSmall }

/-- 'vellumlaw6.PoolFills', WHERE WHAT IT READS IS OF BULK AT MOST 1048576: true; the input reads as it did. -/
def poolFillsUptoRow : OpenClaim := { program := "ytcakbbkbgfhfaaagreat", sum := "03e0c9014416ef66a8e4bf195da85ec30493f892ea32d035f34ecc6c12b04892", func := "vellum/vellumlaw6.PoolFills", spec := "poolFills", unfollowed := true, recurses := true, apart := false, narrowed := true }
def PoolFillsUptoSaid : Prop := poolFillsUptoRow.holds Tryz.pinned (OpenSpec.upto poolFillsSpec)

/-- 'vellumlaw6.PoolApart', WHERE WHAT IT READS IS OF BULK AT MOST 1048576: true; the input reads as it did. -/
def poolApartUptoRow : OpenClaim := { program := "ytcakbbkbgfhfaaagreat", sum := "03e0c9014416ef66a8e4bf195da85ec30493f892ea32d035f34ecc6c12b04892", func := "vellum/vellumlaw6.PoolApart", spec := "poolApart", unfollowed := true, recurses := true, apart := false, narrowed := true }
def PoolApartUptoSaid : Prop := poolApartUptoRow.holds Tryz.pinned (OpenSpec.upto poolApartSpec)

/-- 'vellumlaw6.PoolBack', WHERE WHAT IT READS IS OF BULK AT MOST 1048576: true; the input reads as it did. -/
def poolBackUptoRow : OpenClaim := { program := "ytcakbbkbgfhfaaagreat", sum := "03e0c9014416ef66a8e4bf195da85ec30493f892ea32d035f34ecc6c12b04892", func := "vellum/vellumlaw6.PoolBack", spec := "poolBack", unfollowed := true, recurses := true, apart := false, narrowed := true }
def PoolBackUptoSaid : Prop := poolBackUptoRow.holds Tryz.pinned (OpenSpec.upto poolBackSpec)

/-- 'vellumlaw6.PoolClears', WHERE WHAT IT READS IS OF BULK AT MOST 1048576: true; the input reads as it did. -/
def poolClearsUptoRow : OpenClaim := { program := "ytcakbbkbgfhfaaagreat", sum := "03e0c9014416ef66a8e4bf195da85ec30493f892ea32d035f34ecc6c12b04892", func := "vellum/vellumlaw6.PoolClears", spec := "poolClears", unfollowed := true, recurses := true, apart := false, narrowed := true }
def PoolClearsUptoSaid : Prop := poolClearsUptoRow.holds Tryz.pinned (OpenSpec.upto poolClearsSpec)

/-- 'vellumlaw6.PoolTakes', WHERE WHAT IT READS IS OF BULK AT MOST 1048576: true; the input reads as it did. -/
def poolTakesUptoRow : OpenClaim := { program := "ytcakbbkbgfhfaaagreat", sum := "03e0c9014416ef66a8e4bf195da85ec30493f892ea32d035f34ecc6c12b04892", func := "vellum/vellumlaw6.PoolTakes", spec := "poolTakes", unfollowed := true, recurses := true, apart := false, narrowed := true }
def PoolTakesUptoSaid : Prop := poolTakesUptoRow.holds Tryz.pinned (OpenSpec.upto poolTakesSpec)

/-- 'vellumlaw6.PoolDrops', WHERE WHAT IT READS IS OF BULK AT MOST 1048576: true; the input reads as it did. -/
def poolDropsUptoRow : OpenClaim := { program := "ytcakbbkbgfhfaaagreat", sum := "03e0c9014416ef66a8e4bf195da85ec30493f892ea32d035f34ecc6c12b04892", func := "vellum/vellumlaw6.PoolDrops", spec := "poolDrops", unfollowed := true, recurses := true, apart := false, narrowed := true }
def PoolDropsUptoSaid : Prop := poolDropsUptoRow.holds Tryz.pinned (OpenSpec.upto poolDropsSpec)

end Rows
end Go.Proofs.YtcakbbkbgfhfaaaGreat
