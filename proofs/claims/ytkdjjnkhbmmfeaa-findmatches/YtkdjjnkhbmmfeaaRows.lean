/-
  No cell of these rows narrows 'for every input' (looked for: loops, veiled, ifaces, maps, wideKeys, modest, calm, conditions, laid).
  DERIVED. THE GIVEN ROWS OF THIS SEAT. 3 by the template 'for every input the law returns true; each argument reads behind the call as it read before'; 0 by the template 'total and deterministic' (their statements: YtkdjjnkhbmmfeaaTotals.lean).
  GIVEN WITH THE SEED: the statements are not yours to turn. If you find one false, say at which input.
  Laid BY PROGRAM, IN A SANDBOX (cutbox-rows.mjs): the forced cells as the released guide's own fill.sh prints them over the translation 9188949aa5a2379f… (all of the seat's roots in one cut). By AI agents, Wed Nov 11 2026. No macro, syntax, notation, axiom, sorry.
-/
import Derived.Test.YtkdjjnkhbmmfeaaChecked
import GoSem.Claim
import GoSem.ClaimJoined
import GoSem.ClaimMapViews
import Derived.JoinedTies
import Derived.KernelRfl
namespace Go.Proofs.Ytkdjjnkhbmmfeaa
/- THE CELL 'sum', in the pinned program and in every row, IS THE sha256 OF THE DUMP (.gsa) THAT YtkdjjnkhbmmfeaaProg.lean LOADS. Nothing in Lean hashes anything: it is a label: what it is worth is what the hold of that sum in a sandbox is worth. -/
noncomputable def Try.pinned : Pinned := { name := "ytkdjjnkhbmmfeaa", sum := "9188949aa5a2379f4baa51826c66af5af82a92b9853d987e966d0415fcfb0b0b", checked := Try.checked }
namespace Rows
def none {H : Type} : Left H := { results := [], args := [] }

/-- 'vellumlaw19.FindGlobs': WHATEVER THE INPUT: true; the input reads as it did. -/
def findGlobsSpec : ChangeSpec := { name := "findGlobs", fn := fun _ => fun
  | [d1, d2, d3, d4, d5, d6, d7] => { results := [.lit (.bool true)], args := [d1, d2, d3, d4, d5, d6, d7] }
  | _ => none }
def findGlobsRow : OpenClaim := { program := "ytkdjjnkhbmmfeaa", sum := "9188949aa5a2379f4baa51826c66af5af82a92b9853d987e966d0415fcfb0b0b", func := "vellum/vellumlaw19.FindGlobs", spec := "findGlobs", unfollowed := true, recurses := true, apart := false }
def FindGlobsSaid : Prop := findGlobsRow.holds Try.pinned (OpenSpec.ofChange findGlobsSpec)

/-- ITS FALSE NEIGHBOUR: 'it returns false'. Refute it at one input. -/
def findGlobsWrong : ChangeSpec := { name := "findGlobs", fn := fun _ => fun
  | [d1, d2, d3, d4, d5, d6, d7] => { results := [.lit (.bool false)], args := [d1, d2, d3, d4, d5, d6, d7] }
  | _ => none }
def FindGlobsWrongFalsely : Prop := findGlobsRow.holds Try.pinned (OpenSpec.ofChange findGlobsWrong)

/-- 'vellumlaw19.FindMatches': WHATEVER THE INPUT: true; the input reads as it did. -/
def findMatchesSpec : ChangeSpec := { name := "findMatches", fn := fun _ => fun
  | [d1, d2] => { results := [.lit (.bool true)], args := [d1, d2] }
  | _ => none }
def findMatchesRow : OpenClaim := { program := "ytkdjjnkhbmmfeaa", sum := "9188949aa5a2379f4baa51826c66af5af82a92b9853d987e966d0415fcfb0b0b", func := "vellum/vellumlaw19.FindMatches", spec := "findMatches", unfollowed := true, recurses := true, apart := false }
def FindMatchesSaid : Prop := findMatchesRow.holds Try.pinned (OpenSpec.ofChange findMatchesSpec)

/-- ITS FALSE NEIGHBOUR: 'it returns false'. Refute it at one input. -/
def findMatchesWrong : ChangeSpec := { name := "findMatches", fn := fun _ => fun
  | [d1, d2] => { results := [.lit (.bool false)], args := [d1, d2] }
  | _ => none }
def FindMatchesWrongFalsely : Prop := findMatchesRow.holds Try.pinned (OpenSpec.ofChange findMatchesWrong)

/-- 'vellumlaw20.ServeNames': WHATEVER THE INPUT: true; the input reads as it did. -/
def serveNamesSpec : ChangeSpec := { name := "serveNames", fn := fun _ => fun
  | [] => { results := [.lit (.bool true)], args := [] }
  | _ => none }
def serveNamesRow : OpenClaim := { program := "ytkdjjnkhbmmfeaa", sum := "9188949aa5a2379f4baa51826c66af5af82a92b9853d987e966d0415fcfb0b0b", func := "vellum/vellumlaw20.ServeNames", spec := "serveNames", apart := false }
def ServeNamesSaid : Prop := serveNamesRow.holds Try.pinned (OpenSpec.ofChange serveNamesSpec)

/-- ITS FALSE NEIGHBOUR: 'it returns false'. Refute it at one input. -/
def serveNamesWrong : ChangeSpec := { name := "serveNames", fn := fun _ => fun
  | [] => { results := [.lit (.bool false)], args := [] }
  | _ => none }
def ServeNamesWrongFalsely : Prop := serveNamesRow.holds Try.pinned (OpenSpec.ofChange serveNamesWrong)

/- THE SECOND FORM. 'bulk': how many values and letters a reading holds, each counted each time it is reached (what is shared counts as often as it is met; a slice's spare places count too). A statement '..UptoSaid' is the law's where the arguments, and the package variables that the reading takes, are together of bulk at most 1048576: NARROWER than '..Said'. Prove '..Said' where nothing that the law and all that it calls make is longer than what came in: it says more and counts as full. Else prove '..UptoSaid'. A law counts once. -/
mutual
def uptoBulk {H : Type} : DataW H → Nat
  | .lit (.string bytes) => bytes.length + 1
  | .lit _ => 1
  | .nil => 1
  | .ptr d => uptoBulk d + 1
  | .slice elems spare => uptoBulkAll elems + uptoBulkAll spare + 1
  | .agg parts => uptoBulkAll parts + 1
  | .iface _ d => uptoBulk d + 1
  | .map entries => uptoBulkEntries entries + 1
  | .held _ => 1
def uptoBulkAll {H : Type} : List (DataW H) → Nat
  | [] => 0
  | d :: r => uptoBulk d + uptoBulkAll r
def uptoBulkEntries {H : Type} : List (Lit × DataW H) → Nat
  | [] => 0
  | x :: r => uptoBulkEntry x + uptoBulkEntries r
def uptoBulkEntry {H : Type} : Lit × DataW H → Nat
  | (.string bytes, d) => bytes.length + uptoBulk d + 1
  | (_, d) => uptoBulk d + 1
 end
def uptoSmall : (H : Type) → List (DataW H) → Bool := fun _ ds => decide (uptoBulkAll ds ≤ 1048576)
def OpenSpec.upto (s : _root_.Go.ChangeSpec) : _root_.Go.OpenSpec := { _root_.Go.OpenSpec.ofChange s with cond := some uptoSmall }

/-- 'vellumlaw19.FindGlobs', WHERE WHAT IT READS IS OF BULK AT MOST 1048576: true; the input reads as it did. -/
def findGlobsUptoRow : OpenClaim := { program := "ytkdjjnkhbmmfeaa", sum := "9188949aa5a2379f4baa51826c66af5af82a92b9853d987e966d0415fcfb0b0b", func := "vellum/vellumlaw19.FindGlobs", spec := "findGlobs", unfollowed := true, recurses := true, apart := false, narrowed := true }
def FindGlobsUptoSaid : Prop := findGlobsUptoRow.holds Try.pinned (OpenSpec.upto findGlobsSpec)

/-- 'vellumlaw19.FindMatches', WHERE WHAT IT READS IS OF BULK AT MOST 1048576: true; the input reads as it did. -/
def findMatchesUptoRow : OpenClaim := { program := "ytkdjjnkhbmmfeaa", sum := "9188949aa5a2379f4baa51826c66af5af82a92b9853d987e966d0415fcfb0b0b", func := "vellum/vellumlaw19.FindMatches", spec := "findMatches", unfollowed := true, recurses := true, apart := false, narrowed := true }
def FindMatchesUptoSaid : Prop := findMatchesUptoRow.holds Try.pinned (OpenSpec.upto findMatchesSpec)

/-- 'vellumlaw20.ServeNames', WHERE WHAT IT READS IS OF BULK AT MOST 1048576: true; the input reads as it did. -/
def serveNamesUptoRow : OpenClaim := { program := "ytkdjjnkhbmmfeaa", sum := "9188949aa5a2379f4baa51826c66af5af82a92b9853d987e966d0415fcfb0b0b", func := "vellum/vellumlaw20.ServeNames", spec := "serveNames", apart := false, narrowed := true }
def ServeNamesUptoSaid : Prop := serveNamesUptoRow.holds Try.pinned (OpenSpec.upto serveNamesSpec)

end Rows
end Go.Proofs.Ytkdjjnkhbmmfeaa
