/-
  No cell of these rows narrows 'for every input' (looked for: loops, veiled, ifaces, maps, wideKeys, modest, calm, conditions, laid).
  DERIVED. THE GIVEN ROWS OF THIS SEAT. 5 by the template 'for every input the law returns true; each argument reads behind the call as it read before'; 0 by the template 'total and deterministic' (their statements: YtnolpafdkaloeaaTotals.lean).
  GIVEN WITH THE SEED: the statements are not yours to turn. If you find one false, say at which input.
  Laid BY PROGRAM, IN A SANDBOX (cutbox-rows.mjs): the forced cells as the released guide's own fill.sh prints them over the translation b396cdaf1f669053… (all of the seat's roots in one cut). By AI agents, Wed Nov 11 2026. No macro, syntax, notation, axiom, sorry.
-/
import Derived.Test.YtnolpafdkaloeaaChecked
import GoSem.Claim
import GoSem.ClaimJoined
import GoSem.ClaimMapViews
import Derived.JoinedTies
import Derived.KernelRfl
namespace Go.Proofs.Ytnolpafdkaloeaa
/- THE CELL 'sum', in the pinned program and in every row, IS THE sha256 OF THE DUMP (.gsa) THAT YtnolpafdkaloeaaProg.lean LOADS. Nothing in Lean hashes anything: it is a label: what it is worth is what the hold of that sum in a sandbox is worth. -/
noncomputable def Try.pinned : Pinned := { name := "ytnolpafdkaloeaa", sum := "b396cdaf1f6690533c12ec26176805d378d3063d42aee2302abd16f5e56d77fc", checked := Try.checked }
namespace Rows
def none {H : Type} : Left H := { results := [], args := [] }

/-- 'vellumlaw1.DiskNewest': WHATEVER THE INPUT: true; the input reads as it did. -/
def diskNewestSpec : ChangeSpec := { name := "diskNewest", fn := fun _ => fun
  | [d1, d2, d3] => { results := [.lit (.bool true)], args := [d1, d2, d3] }
  | _ => none }
def diskNewestRow : OpenClaim := { program := "ytnolpafdkaloeaa", sum := "b396cdaf1f6690533c12ec26176805d378d3063d42aee2302abd16f5e56d77fc", func := "vellum/vellumlaw1.DiskNewest", spec := "diskNewest", recurses := true, apart := false }
def DiskNewestSaid : Prop := diskNewestRow.holds Try.pinned (OpenSpec.ofChange diskNewestSpec)

/-- ITS FALSE NEIGHBOUR: 'it returns false'. Refute it at one input. -/
def diskNewestWrong : ChangeSpec := { name := "diskNewest", fn := fun _ => fun
  | [d1, d2, d3] => { results := [.lit (.bool false)], args := [d1, d2, d3] }
  | _ => none }
def DiskNewestWrongFalsely : Prop := diskNewestRow.holds Try.pinned (OpenSpec.ofChange diskNewestWrong)

/-- 'vellumlaw1.DiskTears': WHATEVER THE INPUT: true; the input reads as it did. -/
def diskTearsSpec : ChangeSpec := { name := "diskTears", fn := fun _ => fun
  | [d1, d2, d3] => { results := [.lit (.bool true)], args := [d1, d2, d3] }
  | _ => none }
def diskTearsRow : OpenClaim := { program := "ytnolpafdkaloeaa", sum := "b396cdaf1f6690533c12ec26176805d378d3063d42aee2302abd16f5e56d77fc", func := "vellum/vellumlaw1.DiskTears", spec := "diskTears", recurses := true, apart := false }
def DiskTearsSaid : Prop := diskTearsRow.holds Try.pinned (OpenSpec.ofChange diskTearsSpec)

/-- ITS FALSE NEIGHBOUR: 'it returns false'. Refute it at one input. -/
def diskTearsWrong : ChangeSpec := { name := "diskTears", fn := fun _ => fun
  | [d1, d2, d3] => { results := [.lit (.bool false)], args := [d1, d2, d3] }
  | _ => none }
def DiskTearsWrongFalsely : Prop := diskTearsRow.holds Try.pinned (OpenSpec.ofChange diskTearsWrong)

/-- 'vellumlaw1.DiskBook': WHATEVER THE INPUT: true; the input reads as it did. -/
def diskBookSpec : ChangeSpec := { name := "diskBook", fn := fun _ => fun
  | [d1, d2] => { results := [.lit (.bool true)], args := [d1, d2] }
  | _ => none }
def diskBookRow : OpenClaim := { program := "ytnolpafdkaloeaa", sum := "b396cdaf1f6690533c12ec26176805d378d3063d42aee2302abd16f5e56d77fc", func := "vellum/vellumlaw1.DiskBook", spec := "diskBook", recurses := true, apart := false }
def DiskBookSaid : Prop := diskBookRow.holds Try.pinned (OpenSpec.ofChange diskBookSpec)

/-- ITS FALSE NEIGHBOUR: 'it returns false'. Refute it at one input. -/
def diskBookWrong : ChangeSpec := { name := "diskBook", fn := fun _ => fun
  | [d1, d2] => { results := [.lit (.bool false)], args := [d1, d2] }
  | _ => none }
def DiskBookWrongFalsely : Prop := diskBookRow.holds Try.pinned (OpenSpec.ofChange diskBookWrong)

/-- 'vellumlaw3.SealBook': WHATEVER THE INPUT: true; the input reads as it did. -/
def sealBookSpec : ChangeSpec := { name := "sealBook", fn := fun _ => fun
  | [d] => { results := [.lit (.bool true)], args := [d] }
  | _ => none }
def sealBookRow : OpenClaim := { program := "ytnolpafdkaloeaa", sum := "b396cdaf1f6690533c12ec26176805d378d3063d42aee2302abd16f5e56d77fc", func := "vellum/vellumlaw3.SealBook", spec := "sealBook", apart := false }
def SealBookSaid : Prop := sealBookRow.holds Try.pinned (OpenSpec.ofChange sealBookSpec)

/-- ITS FALSE NEIGHBOUR: 'it returns false'. Refute it at one input. -/
def sealBookWrong : ChangeSpec := { name := "sealBook", fn := fun _ => fun
  | [d] => { results := [.lit (.bool false)], args := [d] }
  | _ => none }
def SealBookWrongFalsely : Prop := sealBookRow.holds Try.pinned (OpenSpec.ofChange sealBookWrong)

/-- 'vellumlaw3.SealDisk': WHATEVER THE INPUT: true; the input reads as it did. -/
def sealDiskSpec : ChangeSpec := { name := "sealDisk", fn := fun _ => fun
  | [d] => { results := [.lit (.bool true)], args := [d] }
  | _ => none }
def sealDiskRow : OpenClaim := { program := "ytnolpafdkaloeaa", sum := "b396cdaf1f6690533c12ec26176805d378d3063d42aee2302abd16f5e56d77fc", func := "vellum/vellumlaw3.SealDisk", spec := "sealDisk", recurses := true, apart := false }
def SealDiskSaid : Prop := sealDiskRow.holds Try.pinned (OpenSpec.ofChange sealDiskSpec)

/-- ITS FALSE NEIGHBOUR: 'it returns false'. Refute it at one input. -/
def sealDiskWrong : ChangeSpec := { name := "sealDisk", fn := fun _ => fun
  | [d] => { results := [.lit (.bool false)], args := [d] }
  | _ => none }
def SealDiskWrongFalsely : Prop := sealDiskRow.holds Try.pinned (OpenSpec.ofChange sealDiskWrong)

/- THE SECOND FORM. 'bulk': how many values and letters a reading holds, each counted each time it is reached (what is shared counts as often as it is met; a slice's spare places count too). A statement '..UptoSaid' is the law's where the arguments, and the package variables that the reading takes, are together of bulk at most 1048576: NARROWER than '..Said'. Prove '..Said' where nothing that the law and all that it calls make is longer than what came in: it says more and counts as full. Else prove '..UptoSaid'. A law counts once. -/
mutual
def uptoBulk {H : Type} : DataW H → Nat
  | .lit (.string bytes) => bytes.length + 1
  | .lit _ => 1
  | .nil => 1
  | .ptr d => uptoBulk d + 1
  | .slice elems spare => uptoBulkAll elems + uptoBulkAll spare + 1
  | .agg parts => uptoBulkAll parts + 1
  | .iface _ d => uptoBulk d + 1
  | .map entries => uptoBulkEntries entries + 1
  | .held _ => 1
def uptoBulkAll {H : Type} : List (DataW H) → Nat
  | [] => 0
  | d :: r => uptoBulk d + uptoBulkAll r
def uptoBulkEntries {H : Type} : List (Lit × DataW H) → Nat
  | [] => 0
  | x :: r => uptoBulkEntry x + uptoBulkEntries r
def uptoBulkEntry {H : Type} : Lit × DataW H → Nat
  | (.string bytes, d) => bytes.length + uptoBulk d + 1
  | (_, d) => uptoBulk d + 1
 end
def uptoSmall : (H : Type) → List (DataW H) → Bool := fun _ ds => decide (uptoBulkAll ds ≤ 1048576)
def OpenSpec.upto (s : _root_.Go.ChangeSpec) : _root_.Go.OpenSpec := { _root_.Go.OpenSpec.ofChange s with cond := some uptoSmall }

/-- 'vellumlaw1.DiskNewest', WHERE WHAT IT READS IS OF BULK AT MOST 1048576: true; the input reads as it did. -/
def diskNewestUptoRow : OpenClaim := { program := "ytnolpafdkaloeaa", sum := "b396cdaf1f6690533c12ec26176805d378d3063d42aee2302abd16f5e56d77fc", func := "vellum/vellumlaw1.DiskNewest", spec := "diskNewest", recurses := true, apart := false, narrowed := true }
def DiskNewestUptoSaid : Prop := diskNewestUptoRow.holds Try.pinned (OpenSpec.upto diskNewestSpec)

/-- 'vellumlaw1.DiskTears', WHERE WHAT IT READS IS OF BULK AT MOST 1048576: true; the input reads as it did. -/
def diskTearsUptoRow : OpenClaim := { program := "ytnolpafdkaloeaa", sum := "b396cdaf1f6690533c12ec26176805d378d3063d42aee2302abd16f5e56d77fc", func := "vellum/vellumlaw1.DiskTears", spec := "diskTears", recurses := true, apart := false, narrowed := true }
def DiskTearsUptoSaid : Prop := diskTearsUptoRow.holds Try.pinned (OpenSpec.upto diskTearsSpec)

/-- 'vellumlaw1.DiskBook', WHERE WHAT IT READS IS OF BULK AT MOST 1048576: true; the input reads as it did. -/
def diskBookUptoRow : OpenClaim := { program := "ytnolpafdkaloeaa", sum := "b396cdaf1f6690533c12ec26176805d378d3063d42aee2302abd16f5e56d77fc", func := "vellum/vellumlaw1.DiskBook", spec := "diskBook", recurses := true, apart := false, narrowed := true }
def DiskBookUptoSaid : Prop := diskBookUptoRow.holds Try.pinned (OpenSpec.upto diskBookSpec)

/-- 'vellumlaw3.SealBook', WHERE WHAT IT READS IS OF BULK AT MOST 1048576: true; the input reads as it did. -/
def sealBookUptoRow : OpenClaim := { program := "ytnolpafdkaloeaa", sum := "b396cdaf1f6690533c12ec26176805d378d3063d42aee2302abd16f5e56d77fc", func := "vellum/vellumlaw3.SealBook", spec := "sealBook", apart := false, narrowed := true }
def SealBookUptoSaid : Prop := sealBookUptoRow.holds Try.pinned (OpenSpec.upto sealBookSpec)

/-- 'vellumlaw3.SealDisk', WHERE WHAT IT READS IS OF BULK AT MOST 1048576: true; the input reads as it did. -/
def sealDiskUptoRow : OpenClaim := { program := "ytnolpafdkaloeaa", sum := "b396cdaf1f6690533c12ec26176805d378d3063d42aee2302abd16f5e56d77fc", func := "vellum/vellumlaw3.SealDisk", spec := "sealDisk", recurses := true, apart := false, narrowed := true }
def SealDiskUptoSaid : Prop := sealDiskUptoRow.holds Try.pinned (OpenSpec.upto sealDiskSpec)

end Rows
end Go.Proofs.Ytnolpafdkaloeaa
