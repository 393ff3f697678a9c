/-
  No cell of these rows narrows 'for every input' (looked for: loops, veiled, ifaces, maps, wideKeys, modest, calm, conditions, laid).
  DERIVED. THE GIVEN ROWS OF THIS SEAT. 6 by the template 'for every input the law returns true; each argument reads behind the call as it read before'; 0 by the template 'total and deterministic' (their statements: YtcofkdaakkfcfaaTotals.lean).
  GIVEN WITH THE SEED: the statements are not yours to turn. If you find one false, say at which input.
  Laid BY PROGRAM, IN A SANDBOX (cutbox-rows.mjs): the forced cells as the released guide's own fill.sh prints them over the translation 3a90f6a08a8e1893… (all of the seat's roots in one cut). By AI agents, Wed Nov 11 2026. No macro, syntax, notation, axiom, sorry.
-/
import Derived.Test.YtcofkdaakkfcfaaChecked
import GoSem.Claim
import GoSem.ClaimJoined
import GoSem.ClaimMapViews
import Derived.JoinedTies
import Derived.KernelRfl
namespace Go.Proofs.Ytcofkdaakkfcfaa
/- THE CELL 'sum', in the pinned program and in every row, IS THE sha256 OF THE DUMP (.gsa) THAT YtcofkdaakkfcfaaProg.lean LOADS. Nothing in Lean hashes anything: it is a label: what it is worth is what the hold of that sum in a sandbox is worth. -/
noncomputable def Try.pinned : Pinned := { name := "ytcofkdaakkfcfaa", sum := "3a90f6a08a8e18934c7b38111f52f9538805827eaff4212cbf3aff45a4b7ba6c", checked := Try.checked }
namespace Rows
def none {H : Type} : Left H := { results := [], args := [] }

/-- 'vellumlaw1.DiskNew': WHATEVER THE INPUT: true; the input reads as it did. -/
def diskNewSpec : ChangeSpec := { name := "diskNew", fn := fun _ => fun
  | [d] => { results := [.lit (.bool true)], args := [d] }
  | _ => none }
def diskNewRow : OpenClaim := { program := "ytcofkdaakkfcfaa", sum := "3a90f6a08a8e18934c7b38111f52f9538805827eaff4212cbf3aff45a4b7ba6c", func := "vellum/vellumlaw1.DiskNew", spec := "diskNew", apart := false }
def DiskNewSaid : Prop := diskNewRow.holds Try.pinned (OpenSpec.ofChange diskNewSpec)

/-- ITS FALSE NEIGHBOUR: 'it returns false'. Refute it at one input. -/
def diskNewWrong : ChangeSpec := { name := "diskNew", fn := fun _ => fun
  | [d] => { results := [.lit (.bool false)], args := [d] }
  | _ => none }
def DiskNewWrongFalsely : Prop := diskNewRow.holds Try.pinned (OpenSpec.ofChange diskNewWrong)

/-- 'vellumlaw1.DiskLoad': WHATEVER THE INPUT: true; the input reads as it did. -/
def diskLoadSpec : ChangeSpec := { name := "diskLoad", fn := fun _ => fun
  | [d] => { results := [.lit (.bool true)], args := [d] }
  | _ => none }
def diskLoadRow : OpenClaim := { program := "ytcofkdaakkfcfaa", sum := "3a90f6a08a8e18934c7b38111f52f9538805827eaff4212cbf3aff45a4b7ba6c", func := "vellum/vellumlaw1.DiskLoad", spec := "diskLoad", apart := false }
def DiskLoadSaid : Prop := diskLoadRow.holds Try.pinned (OpenSpec.ofChange diskLoadSpec)

/-- ITS FALSE NEIGHBOUR: 'it returns false'. Refute it at one input. -/
def diskLoadWrong : ChangeSpec := { name := "diskLoad", fn := fun _ => fun
  | [d] => { results := [.lit (.bool false)], args := [d] }
  | _ => none }
def DiskLoadWrongFalsely : Prop := diskLoadRow.holds Try.pinned (OpenSpec.ofChange diskLoadWrong)

/-- 'vellumlaw1.DiskFused': WHATEVER THE INPUT: true; the input reads as it did. -/
def diskFusedSpec : ChangeSpec := { name := "diskFused", fn := fun _ => fun
  | [d1, d2, d3] => { results := [.lit (.bool true)], args := [d1, d2, d3] }
  | _ => none }
def diskFusedRow : OpenClaim := { program := "ytcofkdaakkfcfaa", sum := "3a90f6a08a8e18934c7b38111f52f9538805827eaff4212cbf3aff45a4b7ba6c", func := "vellum/vellumlaw1.DiskFused", spec := "diskFused", recurses := true, apart := false }
def DiskFusedSaid : Prop := diskFusedRow.holds Try.pinned (OpenSpec.ofChange diskFusedSpec)

/-- ITS FALSE NEIGHBOUR: 'it returns false'. Refute it at one input. -/
def diskFusedWrong : ChangeSpec := { name := "diskFused", fn := fun _ => fun
  | [d1, d2, d3] => { results := [.lit (.bool false)], args := [d1, d2, d3] }
  | _ => none }
def DiskFusedWrongFalsely : Prop := diskFusedRow.holds Try.pinned (OpenSpec.ofChange diskFusedWrong)

/-- 'vellumlaw1.DiskReload': WHATEVER THE INPUT: true; the input reads as it did. -/
def diskReloadSpec : ChangeSpec := { name := "diskReload", fn := fun _ => fun
  | [d1, d2, d3] => { results := [.lit (.bool true)], args := [d1, d2, d3] }
  | _ => none }
def diskReloadRow : OpenClaim := { program := "ytcofkdaakkfcfaa", sum := "3a90f6a08a8e18934c7b38111f52f9538805827eaff4212cbf3aff45a4b7ba6c", func := "vellum/vellumlaw1.DiskReload", spec := "diskReload", recurses := true, apart := false }
def DiskReloadSaid : Prop := diskReloadRow.holds Try.pinned (OpenSpec.ofChange diskReloadSpec)

/-- ITS FALSE NEIGHBOUR: 'it returns false'. Refute it at one input. -/
def diskReloadWrong : ChangeSpec := { name := "diskReload", fn := fun _ => fun
  | [d1, d2, d3] => { results := [.lit (.bool false)], args := [d1, d2, d3] }
  | _ => none }
def DiskReloadWrongFalsely : Prop := diskReloadRow.holds Try.pinned (OpenSpec.ofChange diskReloadWrong)

/-- 'vellumlaw1.DiskLasts': WHATEVER THE INPUT: true; the input reads as it did. -/
def diskLastsSpec : ChangeSpec := { name := "diskLasts", fn := fun _ => fun
  | [d1, d2, d3, d4, d5, d6] => { results := [.lit (.bool true)], args := [d1, d2, d3, d4, d5, d6] }
  | _ => none }
def diskLastsRow : OpenClaim := { program := "ytcofkdaakkfcfaa", sum := "3a90f6a08a8e18934c7b38111f52f9538805827eaff4212cbf3aff45a4b7ba6c", func := "vellum/vellumlaw1.DiskLasts", spec := "diskLasts", recurses := true, apart := false }
def DiskLastsSaid : Prop := diskLastsRow.holds Try.pinned (OpenSpec.ofChange diskLastsSpec)

/-- ITS FALSE NEIGHBOUR: 'it returns false'. Refute it at one input. -/
def diskLastsWrong : ChangeSpec := { name := "diskLasts", fn := fun _ => fun
  | [d1, d2, d3, d4, d5, d6] => { results := [.lit (.bool false)], args := [d1, d2, d3, d4, d5, d6] }
  | _ => none }
def DiskLastsWrongFalsely : Prop := diskLastsRow.holds Try.pinned (OpenSpec.ofChange diskLastsWrong)

/-- 'vellumlaw1.DiskNewest': WHATEVER THE INPUT: true; the input reads as it did. -/
def diskNewestSpec : ChangeSpec := { name := "diskNewest", fn := fun _ => fun
  | [d1, d2, d3] => { results := [.lit (.bool true)], args := [d1, d2, d3] }
  | _ => none }
def diskNewestRow : OpenClaim := { program := "ytcofkdaakkfcfaa", sum := "3a90f6a08a8e18934c7b38111f52f9538805827eaff4212cbf3aff45a4b7ba6c", func := "vellum/vellumlaw1.DiskNewest", spec := "diskNewest", recurses := true, apart := false }
def DiskNewestSaid : Prop := diskNewestRow.holds Try.pinned (OpenSpec.ofChange diskNewestSpec)

/-- ITS FALSE NEIGHBOUR: 'it returns false'. Refute it at one input. -/
def diskNewestWrong : ChangeSpec := { name := "diskNewest", fn := fun _ => fun
  | [d1, d2, d3] => { results := [.lit (.bool false)], args := [d1, d2, d3] }
  | _ => none }
def DiskNewestWrongFalsely : Prop := diskNewestRow.holds Try.pinned (OpenSpec.ofChange diskNewestWrong)

/- THE SECOND FORM. 'bulk': how many values and letters a reading holds, each counted each time it is reached (what is shared counts as often as it is met; a slice's spare places count too). A statement '..UptoSaid' is the law's where the arguments, and the package variables that the reading takes, are together of bulk at most 1048576: NARROWER than '..Said'. Prove '..Said' where nothing that the law and all that it calls make is longer than what came in: it says more and counts as full. Else prove '..UptoSaid'. A law counts once. -/
mutual
def uptoBulk {H : Type} : DataW H → Nat
  | .lit (.string bytes) => bytes.length + 1
  | .lit _ => 1
  | .nil => 1
  | .ptr d => uptoBulk d + 1
  | .slice elems spare => uptoBulkAll elems + uptoBulkAll spare + 1
  | .agg parts => uptoBulkAll parts + 1
  | .iface _ d => uptoBulk d + 1
  | .map entries => uptoBulkEntries entries + 1
  | .held _ => 1
def uptoBulkAll {H : Type} : List (DataW H) → Nat
  | [] => 0
  | d :: r => uptoBulk d + uptoBulkAll r
def uptoBulkEntries {H : Type} : List (Lit × DataW H) → Nat
  | [] => 0
  | x :: r => uptoBulkEntry x + uptoBulkEntries r
def uptoBulkEntry {H : Type} : Lit × DataW H → Nat
  | (.string bytes, d) => bytes.length + uptoBulk d + 1
  | (_, d) => uptoBulk d + 1
 end
def uptoSmall : (H : Type) → List (DataW H) → Bool := fun _ ds => decide (uptoBulkAll ds ≤ 1048576)
def OpenSpec.upto (s : _root_.Go.ChangeSpec) : _root_.Go.OpenSpec := { _root_.Go.OpenSpec.ofChange s with cond := some uptoSmall }

/-- 'vellumlaw1.DiskNew', WHERE WHAT IT READS IS OF BULK AT MOST 1048576: true; the input reads as it did. -/
def diskNewUptoRow : OpenClaim := { program := "ytcofkdaakkfcfaa", sum := "3a90f6a08a8e18934c7b38111f52f9538805827eaff4212cbf3aff45a4b7ba6c", func := "vellum/vellumlaw1.DiskNew", spec := "diskNew", apart := false, narrowed := true }
def DiskNewUptoSaid : Prop := diskNewUptoRow.holds Try.pinned (OpenSpec.upto diskNewSpec)

/-- 'vellumlaw1.DiskLoad', WHERE WHAT IT READS IS OF BULK AT MOST 1048576: true; the input reads as it did. -/
def diskLoadUptoRow : OpenClaim := { program := "ytcofkdaakkfcfaa", sum := "3a90f6a08a8e18934c7b38111f52f9538805827eaff4212cbf3aff45a4b7ba6c", func := "vellum/vellumlaw1.DiskLoad", spec := "diskLoad", apart := false, narrowed := true }
def DiskLoadUptoSaid : Prop := diskLoadUptoRow.holds Try.pinned (OpenSpec.upto diskLoadSpec)

/-- 'vellumlaw1.DiskFused', WHERE WHAT IT READS IS OF BULK AT MOST 1048576: true; the input reads as it did. -/
def diskFusedUptoRow : OpenClaim := { program := "ytcofkdaakkfcfaa", sum := "3a90f6a08a8e18934c7b38111f52f9538805827eaff4212cbf3aff45a4b7ba6c", func := "vellum/vellumlaw1.DiskFused", spec := "diskFused", recurses := true, apart := false, narrowed := true }
def DiskFusedUptoSaid : Prop := diskFusedUptoRow.holds Try.pinned (OpenSpec.upto diskFusedSpec)

/-- 'vellumlaw1.DiskReload', WHERE WHAT IT READS IS OF BULK AT MOST 1048576: true; the input reads as it did. -/
def diskReloadUptoRow : OpenClaim := { program := "ytcofkdaakkfcfaa", sum := "3a90f6a08a8e18934c7b38111f52f9538805827eaff4212cbf3aff45a4b7ba6c", func := "vellum/vellumlaw1.DiskReload", spec := "diskReload", recurses := true, apart := false, narrowed := true }
def DiskReloadUptoSaid : Prop := diskReloadUptoRow.holds Try.pinned (OpenSpec.upto diskReloadSpec)

/-- 'vellumlaw1.DiskLasts', WHERE WHAT IT READS IS OF BULK AT MOST 1048576: true; the input reads as it did. -/
def diskLastsUptoRow : OpenClaim := { program := "ytcofkdaakkfcfaa", sum := "3a90f6a08a8e18934c7b38111f52f9538805827eaff4212cbf3aff45a4b7ba6c", func := "vellum/vellumlaw1.DiskLasts", spec := "diskLasts", recurses := true, apart := false, narrowed := true }
def DiskLastsUptoSaid : Prop := diskLastsUptoRow.holds Try.pinned (OpenSpec.upto diskLastsSpec)

/-- 'vellumlaw1.DiskNewest', WHERE WHAT IT READS IS OF BULK AT MOST 1048576: true; the input reads as it did. -/
def diskNewestUptoRow : OpenClaim := { program := "ytcofkdaakkfcfaa", sum := "3a90f6a08a8e18934c7b38111f52f9538805827eaff4212cbf3aff45a4b7ba6c", func := "vellum/vellumlaw1.DiskNewest", spec := "diskNewest", recurses := true, apart := false, narrowed := true }
def DiskNewestUptoSaid : Prop := diskNewestUptoRow.holds Try.pinned (OpenSpec.upto diskNewestSpec)

end Rows
end Go.Proofs.Ytcofkdaakkfcfaa
