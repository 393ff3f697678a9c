/-
  No cell of these rows narrows 'for every input' (looked for: loops, veiled, ifaces, maps, wideKeys, modest, calm, conditions, laid).
  DERIVED. THE GIVEN ROWS OF THIS SEAT. 6 by the template 'for every input the law returns true; each argument reads behind the call as it read before'; 0 by the template 'total and deterministic' (their statements: YtkkmkogpbhcpmaaTotals.lean).
  GIVEN WITH THE SEED: the statements are not yours to turn. If you find one false, say at which input.
  Laid BY PROGRAM, IN A SANDBOX (cutbox-rows.mjs): the forced cells as the released guide's own fill.sh prints them over the translation a13912880cb20ee9… (all of the seat's roots in one cut). By AI agents, Wed Nov 11 2026. No macro, syntax, notation, axiom, sorry.
-/
import Derived.Test.YtkkmkogpbhcpmaaChecked
import GoSem.Claim
import GoSem.ClaimJoined
import GoSem.ClaimMapViews
import Derived.JoinedTies
import Derived.KernelRfl
namespace Go.Proofs.Ytkkmkogpbhcpmaa
/- THE CELL 'sum', in the pinned program and in every row, IS THE sha256 OF THE DUMP (.gsa) THAT YtkkmkogpbhcpmaaProg.lean LOADS. Nothing in Lean hashes anything: it is a label: what it is worth is what the hold of that sum in a sandbox is worth. -/
noncomputable def Try.pinned : Pinned := { name := "ytkkmkogpbhcpmaa", sum := "a13912880cb20ee9a0a386406fdaf9d0db47db34dcb878c84c0db4eadd3d43ee", checked := Try.checked }
namespace Rows
def none {H : Type} : Left H := { results := [], args := [] }

/-- 'vellumlaw1.DiskFused': WHATEVER THE INPUT: true; the input reads as it did. -/
def diskFusedSpec : ChangeSpec := { name := "diskFused", fn := fun _ => fun
  | [d1, d2, d3] => { results := [.lit (.bool true)], args := [d1, d2, d3] }
  | _ => none }
def diskFusedRow : OpenClaim := { program := "ytkkmkogpbhcpmaa", sum := "a13912880cb20ee9a0a386406fdaf9d0db47db34dcb878c84c0db4eadd3d43ee", func := "vellum/vellumlaw1.DiskFused", spec := "diskFused", recurses := true, apart := false }
def DiskFusedSaid : Prop := diskFusedRow.holds Try.pinned (OpenSpec.ofChange diskFusedSpec)

/-- ITS FALSE NEIGHBOUR: 'it returns false'. Refute it at one input. -/
def diskFusedWrong : ChangeSpec := { name := "diskFused", fn := fun _ => fun
  | [d1, d2, d3] => { results := [.lit (.bool false)], args := [d1, d2, d3] }
  | _ => none }
def DiskFusedWrongFalsely : Prop := diskFusedRow.holds Try.pinned (OpenSpec.ofChange diskFusedWrong)

/-- 'vellumlaw1.DiskNewest': WHATEVER THE INPUT: true; the input reads as it did. -/
def diskNewestSpec : ChangeSpec := { name := "diskNewest", fn := fun _ => fun
  | [d1, d2, d3] => { results := [.lit (.bool true)], args := [d1, d2, d3] }
  | _ => none }
def diskNewestRow : OpenClaim := { program := "ytkkmkogpbhcpmaa", sum := "a13912880cb20ee9a0a386406fdaf9d0db47db34dcb878c84c0db4eadd3d43ee", func := "vellum/vellumlaw1.DiskNewest", spec := "diskNewest", recurses := true, apart := false }
def DiskNewestSaid : Prop := diskNewestRow.holds Try.pinned (OpenSpec.ofChange diskNewestSpec)

/-- ITS FALSE NEIGHBOUR: 'it returns false'. Refute it at one input. -/
def diskNewestWrong : ChangeSpec := { name := "diskNewest", fn := fun _ => fun
  | [d1, d2, d3] => { results := [.lit (.bool false)], args := [d1, d2, d3] }
  | _ => none }
def DiskNewestWrongFalsely : Prop := diskNewestRow.holds Try.pinned (OpenSpec.ofChange diskNewestWrong)

/-- 'vellumlaw1.DiskTears': WHATEVER THE INPUT: true; the input reads as it did. -/
def diskTearsSpec : ChangeSpec := { name := "diskTears", fn := fun _ => fun
  | [d1, d2, d3] => { results := [.lit (.bool true)], args := [d1, d2, d3] }
  | _ => none }
def diskTearsRow : OpenClaim := { program := "ytkkmkogpbhcpmaa", sum := "a13912880cb20ee9a0a386406fdaf9d0db47db34dcb878c84c0db4eadd3d43ee", func := "vellum/vellumlaw1.DiskTears", spec := "diskTears", recurses := true, apart := false }
def DiskTearsSaid : Prop := diskTearsRow.holds Try.pinned (OpenSpec.ofChange diskTearsSpec)

/-- ITS FALSE NEIGHBOUR: 'it returns false'. Refute it at one input. -/
def diskTearsWrong : ChangeSpec := { name := "diskTears", fn := fun _ => fun
  | [d1, d2, d3] => { results := [.lit (.bool false)], args := [d1, d2, d3] }
  | _ => none }
def DiskTearsWrongFalsely : Prop := diskTearsRow.holds Try.pinned (OpenSpec.ofChange diskTearsWrong)

/-- 'vellumlaw1.DiskBook': WHATEVER THE INPUT: true; the input reads as it did. -/
def diskBookSpec : ChangeSpec := { name := "diskBook", fn := fun _ => fun
  | [d1, d2] => { results := [.lit (.bool true)], args := [d1, d2] }
  | _ => none }
def diskBookRow : OpenClaim := { program := "ytkkmkogpbhcpmaa", sum := "a13912880cb20ee9a0a386406fdaf9d0db47db34dcb878c84c0db4eadd3d43ee", func := "vellum/vellumlaw1.DiskBook", spec := "diskBook", recurses := true, apart := false }
def DiskBookSaid : Prop := diskBookRow.holds Try.pinned (OpenSpec.ofChange diskBookSpec)

/-- ITS FALSE NEIGHBOUR: 'it returns false'. Refute it at one input. -/
def diskBookWrong : ChangeSpec := { name := "diskBook", fn := fun _ => fun
  | [d1, d2] => { results := [.lit (.bool false)], args := [d1, d2] }
  | _ => none }
def DiskBookWrongFalsely : Prop := diskBookRow.holds Try.pinned (OpenSpec.ofChange diskBookWrong)

/-- 'vellumlaw2.CodecNodes': WHATEVER THE INPUT: true; the input reads as it did. -/
def codecNodesSpec : ChangeSpec := { name := "codecNodes", fn := fun _ => fun
  | [d1, d2] => { results := [.lit (.bool true)], args := [d1, d2] }
  | _ => none }
def codecNodesRow : OpenClaim := { program := "ytkkmkogpbhcpmaa", sum := "a13912880cb20ee9a0a386406fdaf9d0db47db34dcb878c84c0db4eadd3d43ee", func := "vellum/vellumlaw2.CodecNodes", spec := "codecNodes", unfollowed := true, recurses := true, apart := false }
def CodecNodesSaid : Prop := codecNodesRow.holds Try.pinned (OpenSpec.ofChange codecNodesSpec)

/-- ITS FALSE NEIGHBOUR: 'it returns false'. Refute it at one input. -/
def codecNodesWrong : ChangeSpec := { name := "codecNodes", fn := fun _ => fun
  | [d1, d2] => { results := [.lit (.bool false)], args := [d1, d2] }
  | _ => none }
def CodecNodesWrongFalsely : Prop := codecNodesRow.holds Try.pinned (OpenSpec.ofChange codecNodesWrong)

/-- 'vellumlaw2.CodecForms': WHATEVER THE INPUT: true; the input reads as it did. -/
def codecFormsSpec : ChangeSpec := { name := "codecForms", fn := fun _ => fun
  | [d] => { results := [.lit (.bool true)], args := [d] }
  | _ => none }
def codecFormsRow : OpenClaim := { program := "ytkkmkogpbhcpmaa", sum := "a13912880cb20ee9a0a386406fdaf9d0db47db34dcb878c84c0db4eadd3d43ee", func := "vellum/vellumlaw2.CodecForms", spec := "codecForms", inPlace := ["internal/bytealg.IndexByteString"], unfollowed := true, recurses := true, apart := false }
def CodecFormsSaid : Prop := codecFormsRow.holds Try.pinned (OpenSpec.ofChange codecFormsSpec)

/-- ITS FALSE NEIGHBOUR: 'it returns false'. Refute it at one input. -/
def codecFormsWrong : ChangeSpec := { name := "codecForms", fn := fun _ => fun
  | [d] => { results := [.lit (.bool false)], args := [d] }
  | _ => none }
def CodecFormsWrongFalsely : Prop := codecFormsRow.holds Try.pinned (OpenSpec.ofChange codecFormsWrong)

/- THE SECOND FORM. 'bulk': how many values and letters a reading holds, each counted each time it is reached (what is shared counts as often as it is met; a slice's spare places count too). A statement '..UptoSaid' is the law's where the arguments, and the package variables that the reading takes, are together of bulk at most 1048576: NARROWER than '..Said'. Prove '..Said' where nothing that the law and all that it calls make is longer than what came in: it says more and counts as full. Else prove '..UptoSaid'. A law counts once. -/
mutual
def uptoBulk {H : Type} : DataW H → Nat
  | .lit (.string bytes) => bytes.length + 1
  | .lit _ => 1
  | .nil => 1
  | .ptr d => uptoBulk d + 1
  | .slice elems spare => uptoBulkAll elems + uptoBulkAll spare + 1
  | .agg parts => uptoBulkAll parts + 1
  | .iface _ d => uptoBulk d + 1
  | .map entries => uptoBulkEntries entries + 1
  | .held _ => 1
def uptoBulkAll {H : Type} : List (DataW H) → Nat
  | [] => 0
  | d :: r => uptoBulk d + uptoBulkAll r
def uptoBulkEntries {H : Type} : List (Lit × DataW H) → Nat
  | [] => 0
  | x :: r => uptoBulkEntry x + uptoBulkEntries r
def uptoBulkEntry {H : Type} : Lit × DataW H → Nat
  | (.string bytes, d) => bytes.length + uptoBulk d + 1
  | (_, d) => uptoBulk d + 1
 end
def uptoSmall : (H : Type) → List (DataW H) → Bool := fun _ ds => decide (uptoBulkAll ds ≤ 1048576)
def OpenSpec.upto (s : _root_.Go.ChangeSpec) : _root_.Go.OpenSpec := { _root_.Go.OpenSpec.ofChange s with cond := some uptoSmall }

/-- 'vellumlaw1.DiskFused', WHERE WHAT IT READS IS OF BULK AT MOST 1048576: true; the input reads as it did. -/
def diskFusedUptoRow : OpenClaim := { program := "ytkkmkogpbhcpmaa", sum := "a13912880cb20ee9a0a386406fdaf9d0db47db34dcb878c84c0db4eadd3d43ee", func := "vellum/vellumlaw1.DiskFused", spec := "diskFused", recurses := true, apart := false, narrowed := true }
def DiskFusedUptoSaid : Prop := diskFusedUptoRow.holds Try.pinned (OpenSpec.upto diskFusedSpec)

/-- 'vellumlaw1.DiskNewest', WHERE WHAT IT READS IS OF BULK AT MOST 1048576: true; the input reads as it did. -/
def diskNewestUptoRow : OpenClaim := { program := "ytkkmkogpbhcpmaa", sum := "a13912880cb20ee9a0a386406fdaf9d0db47db34dcb878c84c0db4eadd3d43ee", func := "vellum/vellumlaw1.DiskNewest", spec := "diskNewest", recurses := true, apart := false, narrowed := true }
def DiskNewestUptoSaid : Prop := diskNewestUptoRow.holds Try.pinned (OpenSpec.upto diskNewestSpec)

/-- 'vellumlaw1.DiskTears', WHERE WHAT IT READS IS OF BULK AT MOST 1048576: true; the input reads as it did. -/
def diskTearsUptoRow : OpenClaim := { program := "ytkkmkogpbhcpmaa", sum := "a13912880cb20ee9a0a386406fdaf9d0db47db34dcb878c84c0db4eadd3d43ee", func := "vellum/vellumlaw1.DiskTears", spec := "diskTears", recurses := true, apart := false, narrowed := true }
def DiskTearsUptoSaid : Prop := diskTearsUptoRow.holds Try.pinned (OpenSpec.upto diskTearsSpec)

/-- 'vellumlaw1.DiskBook', WHERE WHAT IT READS IS OF BULK AT MOST 1048576: true; the input reads as it did. -/
def diskBookUptoRow : OpenClaim := { program := "ytkkmkogpbhcpmaa", sum := "a13912880cb20ee9a0a386406fdaf9d0db47db34dcb878c84c0db4eadd3d43ee", func := "vellum/vellumlaw1.DiskBook", spec := "diskBook", recurses := true, apart := false, narrowed := true }
def DiskBookUptoSaid : Prop := diskBookUptoRow.holds Try.pinned (OpenSpec.upto diskBookSpec)

/-- 'vellumlaw2.CodecNodes', WHERE WHAT IT READS IS OF BULK AT MOST 1048576: true; the input reads as it did. -/
def codecNodesUptoRow : OpenClaim := { program := "ytkkmkogpbhcpmaa", sum := "a13912880cb20ee9a0a386406fdaf9d0db47db34dcb878c84c0db4eadd3d43ee", func := "vellum/vellumlaw2.CodecNodes", spec := "codecNodes", unfollowed := true, recurses := true, apart := false, narrowed := true }
def CodecNodesUptoSaid : Prop := codecNodesUptoRow.holds Try.pinned (OpenSpec.upto codecNodesSpec)

/-- 'vellumlaw2.CodecForms', WHERE WHAT IT READS IS OF BULK AT MOST 1048576: true; the input reads as it did. -/
def codecFormsUptoRow : OpenClaim := { program := "ytkkmkogpbhcpmaa", sum := "a13912880cb20ee9a0a386406fdaf9d0db47db34dcb878c84c0db4eadd3d43ee", func := "vellum/vellumlaw2.CodecForms", spec := "codecForms", inPlace := ["internal/bytealg.IndexByteString"], unfollowed := true, recurses := true, apart := false, narrowed := true }
def CodecFormsUptoSaid : Prop := codecFormsUptoRow.holds Try.pinned (OpenSpec.upto codecFormsSpec)

end Rows
end Go.Proofs.Ytkkmkogpbhcpmaa
