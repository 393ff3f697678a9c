/-
  No cell of these rows narrows 'for every input' (looked for: loops, veiled, ifaces, maps, wideKeys, modest, calm, conditions, laid).
  DERIVED. THE GIVEN ROWS OF THIS SEAT. 6 by the template 'for every input the law returns true; each argument reads behind the call as it read before'; 0 by the template 'total and deterministic' (their statements: YtodleeipefnadaaTotals.lean).
  GIVEN WITH THE SEED: the statements are not yours to turn. If you find one false, say at which input.
  Laid BY PROGRAM, IN A SANDBOX (cutbox-rows.mjs): the forced cells as the released guide's own fill.sh prints them over the translation b8b6771ed712f048… (all of the seat's roots in one cut). By AI agents, Wed Nov 11 2026. No macro, syntax, notation, axiom, sorry.
-/
import Derived.Test.YtodleeipefnadaaChecked
import GoSem.Claim
import GoSem.ClaimJoined
import GoSem.ClaimMapViews
import Derived.JoinedTies
import Derived.KernelRfl
namespace Go.Proofs.Ytodleeipefnadaa
/- THE CELL 'sum', in the pinned program and in every row, IS THE sha256 OF THE DUMP (.gsa) THAT YtodleeipefnadaaProg.lean LOADS. Nothing in Lean hashes anything: it is a label: what it is worth is what the hold of that sum in a sandbox is worth. -/
noncomputable def Try.pinned : Pinned := { name := "ytodleeipefnadaa", sum := "b8b6771ed712f0487fc3f3d4accd27982ace8b5c9d820942d74b92e686716939", checked := Try.checked }
namespace Rows
def none {H : Type} : Left H := { results := [], args := [] }

/-- 'vellumlaw2.CodecNodes': WHATEVER THE INPUT: true; the input reads as it did. -/
def codecNodesSpec : ChangeSpec := { name := "codecNodes", fn := fun _ => fun
  | [d1, d2] => { results := [.lit (.bool true)], args := [d1, d2] }
  | _ => none }
def codecNodesRow : OpenClaim := { program := "ytodleeipefnadaa", sum := "b8b6771ed712f0487fc3f3d4accd27982ace8b5c9d820942d74b92e686716939", func := "vellum/vellumlaw2.CodecNodes", spec := "codecNodes", unfollowed := true, recurses := true, apart := false }
def CodecNodesSaid : Prop := codecNodesRow.holds Try.pinned (OpenSpec.ofChange codecNodesSpec)

/-- ITS FALSE NEIGHBOUR: 'it returns false'. Refute it at one input. -/
def codecNodesWrong : ChangeSpec := { name := "codecNodes", fn := fun _ => fun
  | [d1, d2] => { results := [.lit (.bool false)], args := [d1, d2] }
  | _ => none }
def CodecNodesWrongFalsely : Prop := codecNodesRow.holds Try.pinned (OpenSpec.ofChange codecNodesWrong)

/-- 'vellumlaw2.CodecForms': WHATEVER THE INPUT: true; the input reads as it did. -/
def codecFormsSpec : ChangeSpec := { name := "codecForms", fn := fun _ => fun
  | [d] => { results := [.lit (.bool true)], args := [d] }
  | _ => none }
def codecFormsRow : OpenClaim := { program := "ytodleeipefnadaa", sum := "b8b6771ed712f0487fc3f3d4accd27982ace8b5c9d820942d74b92e686716939", func := "vellum/vellumlaw2.CodecForms", spec := "codecForms", inPlace := ["internal/bytealg.IndexByteString"], unfollowed := true, recurses := true, apart := false }
def CodecFormsSaid : Prop := codecFormsRow.holds Try.pinned (OpenSpec.ofChange codecFormsSpec)

/-- ITS FALSE NEIGHBOUR: 'it returns false'. Refute it at one input. -/
def codecFormsWrong : ChangeSpec := { name := "codecForms", fn := fun _ => fun
  | [d] => { results := [.lit (.bool false)], args := [d] }
  | _ => none }
def CodecFormsWrongFalsely : Prop := codecFormsRow.holds Try.pinned (OpenSpec.ofChange codecFormsWrong)

/-- 'vellumlaw2.CodecOwn': WHATEVER THE INPUT: true; the input reads as it did. -/
def codecOwnSpec : ChangeSpec := { name := "codecOwn", fn := fun _ => fun
  | [d1, d2, d3] => { results := [.lit (.bool true)], args := [d1, d2, d3] }
  | _ => none }
def codecOwnRow : OpenClaim := { program := "ytodleeipefnadaa", sum := "b8b6771ed712f0487fc3f3d4accd27982ace8b5c9d820942d74b92e686716939", func := "vellum/vellumlaw2.CodecOwn", spec := "codecOwn", inPlace := ["internal/bytealg.IndexByteString"], apart := false }
def CodecOwnSaid : Prop := codecOwnRow.holds Try.pinned (OpenSpec.ofChange codecOwnSpec)

/-- ITS FALSE NEIGHBOUR: 'it returns false'. Refute it at one input. -/
def codecOwnWrong : ChangeSpec := { name := "codecOwn", fn := fun _ => fun
  | [d1, d2, d3] => { results := [.lit (.bool false)], args := [d1, d2, d3] }
  | _ => none }
def CodecOwnWrongFalsely : Prop := codecOwnRow.holds Try.pinned (OpenSpec.ofChange codecOwnWrong)

/-- 'vellumlaw2.CodecBack': WHATEVER THE INPUT: true; the input reads as it did. -/
def codecBackSpec : ChangeSpec := { name := "codecBack", fn := fun _ => fun
  | [d1, d2, d3] => { results := [.lit (.bool true)], args := [d1, d2, d3] }
  | _ => none }
def codecBackRow : OpenClaim := { program := "ytodleeipefnadaa", sum := "b8b6771ed712f0487fc3f3d4accd27982ace8b5c9d820942d74b92e686716939", func := "vellum/vellumlaw2.CodecBack", spec := "codecBack", inPlace := ["internal/bytealg.IndexByteString"], unfollowed := true, recurses := true, apart := false }
def CodecBackSaid : Prop := codecBackRow.holds Try.pinned (OpenSpec.ofChange codecBackSpec)

/-- ITS FALSE NEIGHBOUR: 'it returns false'. Refute it at one input. -/
def codecBackWrong : ChangeSpec := { name := "codecBack", fn := fun _ => fun
  | [d1, d2, d3] => { results := [.lit (.bool false)], args := [d1, d2, d3] }
  | _ => none }
def CodecBackWrongFalsely : Prop := codecBackRow.holds Try.pinned (OpenSpec.ofChange codecBackWrong)

/-- 'vellumlaw2.CodecBursts': WHATEVER THE INPUT: true; the input reads as it did. -/
def codecBurstsSpec : ChangeSpec := { name := "codecBursts", fn := fun _ => fun
  | [d1, d2, d3, d4, d5] => { results := [.lit (.bool true)], args := [d1, d2, d3, d4, d5] }
  | _ => none }
def codecBurstsRow : OpenClaim := { program := "ytodleeipefnadaa", sum := "b8b6771ed712f0487fc3f3d4accd27982ace8b5c9d820942d74b92e686716939", func := "vellum/vellumlaw2.CodecBursts", spec := "codecBursts", inPlace := ["internal/bytealg.IndexByteString"], unfollowed := true, recurses := true, apart := false }
def CodecBurstsSaid : Prop := codecBurstsRow.holds Try.pinned (OpenSpec.ofChange codecBurstsSpec)

/-- ITS FALSE NEIGHBOUR: 'it returns false'. Refute it at one input. -/
def codecBurstsWrong : ChangeSpec := { name := "codecBursts", fn := fun _ => fun
  | [d1, d2, d3, d4, d5] => { results := [.lit (.bool false)], args := [d1, d2, d3, d4, d5] }
  | _ => none }
def CodecBurstsWrongFalsely : Prop := codecBurstsRow.holds Try.pinned (OpenSpec.ofChange codecBurstsWrong)

/-- 'vellumlaw3.SealSplices': WHATEVER THE INPUT: true; the input reads as it did. -/
def sealSplicesSpec : ChangeSpec := { name := "sealSplices", fn := fun _ => fun
  | [d1, d2, d3] => { results := [.lit (.bool true)], args := [d1, d2, d3] }
  | _ => none }
def sealSplicesRow : OpenClaim := { program := "ytodleeipefnadaa", sum := "b8b6771ed712f0487fc3f3d4accd27982ace8b5c9d820942d74b92e686716939", func := "vellum/vellumlaw3.SealSplices", spec := "sealSplices", apart := false }
def SealSplicesSaid : Prop := sealSplicesRow.holds Try.pinned (OpenSpec.ofChange sealSplicesSpec)

/-- ITS FALSE NEIGHBOUR: 'it returns false'. Refute it at one input. -/
def sealSplicesWrong : ChangeSpec := { name := "sealSplices", fn := fun _ => fun
  | [d1, d2, d3] => { results := [.lit (.bool false)], args := [d1, d2, d3] }
  | _ => none }
def SealSplicesWrongFalsely : Prop := sealSplicesRow.holds Try.pinned (OpenSpec.ofChange sealSplicesWrong)

/- THE SECOND FORM. 'bulk': how many values and letters a reading holds, each counted each time it is reached (what is shared counts as often as it is met; a slice's spare places count too). A statement '..UptoSaid' is the law's where the arguments, and the package variables that the reading takes, are together of bulk at most 1048576: NARROWER than '..Said'. Prove '..Said' where nothing that the law and all that it calls make is longer than what came in: it says more and counts as full. Else prove '..UptoSaid'. A law counts once. -/
mutual
def uptoBulk {H : Type} : DataW H → Nat
  | .lit (.string bytes) => bytes.length + 1
  | .lit _ => 1
  | .nil => 1
  | .ptr d => uptoBulk d + 1
  | .slice elems spare => uptoBulkAll elems + uptoBulkAll spare + 1
  | .agg parts => uptoBulkAll parts + 1
  | .iface _ d => uptoBulk d + 1
  | .map entries => uptoBulkEntries entries + 1
  | .held _ => 1
def uptoBulkAll {H : Type} : List (DataW H) → Nat
  | [] => 0
  | d :: r => uptoBulk d + uptoBulkAll r
def uptoBulkEntries {H : Type} : List (Lit × DataW H) → Nat
  | [] => 0
  | x :: r => uptoBulkEntry x + uptoBulkEntries r
def uptoBulkEntry {H : Type} : Lit × DataW H → Nat
  | (.string bytes, d) => bytes.length + uptoBulk d + 1
  | (_, d) => uptoBulk d + 1
 end
def uptoSmall : (H : Type) → List (DataW H) → Bool := fun _ ds => decide (uptoBulkAll ds ≤ 1048576)
def OpenSpec.upto (s : _root_.Go.ChangeSpec) : _root_.Go.OpenSpec := { _root_.Go.OpenSpec.ofChange s with cond := some uptoSmall }

/-- 'vellumlaw2.CodecNodes', WHERE WHAT IT READS IS OF BULK AT MOST 1048576: true; the input reads as it did. -/
def codecNodesUptoRow : OpenClaim := { program := "ytodleeipefnadaa", sum := "b8b6771ed712f0487fc3f3d4accd27982ace8b5c9d820942d74b92e686716939", func := "vellum/vellumlaw2.CodecNodes", spec := "codecNodes", unfollowed := true, recurses := true, apart := false, narrowed := true }
def CodecNodesUptoSaid : Prop := codecNodesUptoRow.holds Try.pinned (OpenSpec.upto codecNodesSpec)

/-- 'vellumlaw2.CodecForms', WHERE WHAT IT READS IS OF BULK AT MOST 1048576: true; the input reads as it did. -/
def codecFormsUptoRow : OpenClaim := { program := "ytodleeipefnadaa", sum := "b8b6771ed712f0487fc3f3d4accd27982ace8b5c9d820942d74b92e686716939", func := "vellum/vellumlaw2.CodecForms", spec := "codecForms", inPlace := ["internal/bytealg.IndexByteString"], unfollowed := true, recurses := true, apart := false, narrowed := true }
def CodecFormsUptoSaid : Prop := codecFormsUptoRow.holds Try.pinned (OpenSpec.upto codecFormsSpec)

/-- 'vellumlaw2.CodecOwn', WHERE WHAT IT READS IS OF BULK AT MOST 1048576: true; the input reads as it did. -/
def codecOwnUptoRow : OpenClaim := { program := "ytodleeipefnadaa", sum := "b8b6771ed712f0487fc3f3d4accd27982ace8b5c9d820942d74b92e686716939", func := "vellum/vellumlaw2.CodecOwn", spec := "codecOwn", inPlace := ["internal/bytealg.IndexByteString"], apart := false, narrowed := true }
def CodecOwnUptoSaid : Prop := codecOwnUptoRow.holds Try.pinned (OpenSpec.upto codecOwnSpec)

/-- 'vellumlaw2.CodecBack', WHERE WHAT IT READS IS OF BULK AT MOST 1048576: true; the input reads as it did. -/
def codecBackUptoRow : OpenClaim := { program := "ytodleeipefnadaa", sum := "b8b6771ed712f0487fc3f3d4accd27982ace8b5c9d820942d74b92e686716939", func := "vellum/vellumlaw2.CodecBack", spec := "codecBack", inPlace := ["internal/bytealg.IndexByteString"], unfollowed := true, recurses := true, apart := false, narrowed := true }
def CodecBackUptoSaid : Prop := codecBackUptoRow.holds Try.pinned (OpenSpec.upto codecBackSpec)

/-- 'vellumlaw2.CodecBursts', WHERE WHAT IT READS IS OF BULK AT MOST 1048576: true; the input reads as it did. -/
def codecBurstsUptoRow : OpenClaim := { program := "ytodleeipefnadaa", sum := "b8b6771ed712f0487fc3f3d4accd27982ace8b5c9d820942d74b92e686716939", func := "vellum/vellumlaw2.CodecBursts", spec := "codecBursts", inPlace := ["internal/bytealg.IndexByteString"], unfollowed := true, recurses := true, apart := false, narrowed := true }
def CodecBurstsUptoSaid : Prop := codecBurstsUptoRow.holds Try.pinned (OpenSpec.upto codecBurstsSpec)

/-- 'vellumlaw3.SealSplices', WHERE WHAT IT READS IS OF BULK AT MOST 1048576: true; the input reads as it did. -/
def sealSplicesUptoRow : OpenClaim := { program := "ytodleeipefnadaa", sum := "b8b6771ed712f0487fc3f3d4accd27982ace8b5c9d820942d74b92e686716939", func := "vellum/vellumlaw3.SealSplices", spec := "sealSplices", apart := false, narrowed := true }
def SealSplicesUptoSaid : Prop := sealSplicesUptoRow.holds Try.pinned (OpenSpec.upto sealSplicesSpec)

end Rows
end Go.Proofs.Ytodleeipefnadaa
