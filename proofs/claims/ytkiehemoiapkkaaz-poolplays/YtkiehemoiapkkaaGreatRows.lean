/-
  No cell of these rows narrows 'for every input' (looked for: loops, veiled, ifaces, maps, wideKeys, modest, calm, conditions, laid).
  DERIVED. THE GIVEN ROWS OF THIS SEAT. 5 by the template 'for every input the law returns true; each argument reads behind the call as it read before'; 0 by the template 'total and deterministic' (their statements: YtkiehemoiapkkaaGreatTotals.lean).
  GIVEN WITH THE SEED: the statements are not yours to turn. If you find one false, say at which input.
  Laid BY PROGRAM, IN A SANDBOX (cutbox-rows.mjs): the forced cells as the released guide's own fill.sh prints them over the translation 81f63f1cdddaacd2… (all of the seat's roots in one cut). By AI agents, Wed Nov 11 2026. No macro, syntax, notation, axiom, sorry.
-/
import Derived.Test.YtkiehemoiapkkaaGreatChecked
import GoSem.Claim
import GoSem.ClaimJoined
import GoSem.ClaimMapViews
import Derived.JoinedTies
import Derived.KernelRfl
namespace Go.Proofs.YtkiehemoiapkkaaGreat
/- THE CELL 'sum', in the pinned program and in every row, IS THE sha256 OF THE DUMP (.gsa) THAT YtkiehemoiapkkaaGreatProg.lean LOADS. Nothing in Lean hashes anything: it is a label: what it is worth is what the hold of that sum in a sandbox is worth. -/
noncomputable def Tryz.pinned : Pinned := { name := "ytkiehemoiapkkaagreat", sum := "81f63f1cdddaacd261a2ddcdbbb132f4adeea1722316146274ce51530f0c7420", checked := Tryz.checked }
namespace Rows
def none {H : Type} : Left H := { results := [], args := [] }

/-- 'vellumlaw6.PoolTakes': WHATEVER THE INPUT: true; the input reads as it did. -/
def poolTakesSpec : ChangeSpec := { name := "poolTakes", fn := fun _ => fun
  | [d1, d2, d3] => { results := [.lit (.bool true)], args := [d1, d2, d3] }
  | _ => none }
def poolTakesRow : OpenClaim := { program := "ytkiehemoiapkkaagreat", sum := "81f63f1cdddaacd261a2ddcdbbb132f4adeea1722316146274ce51530f0c7420", func := "vellum/vellumlaw6.PoolTakes", spec := "poolTakes", unfollowed := true, recurses := true, apart := false }
def PoolTakesSaid : Prop := poolTakesRow.holds Tryz.pinned (OpenSpec.ofChange poolTakesSpec)

/-- ITS FALSE NEIGHBOUR: 'it returns false'. Refute it at one input. -/
def poolTakesWrong : ChangeSpec := { name := "poolTakes", fn := fun _ => fun
  | [d1, d2, d3] => { results := [.lit (.bool false)], args := [d1, d2, d3] }
  | _ => none }
def PoolTakesWrongFalsely : Prop := poolTakesRow.holds Tryz.pinned (OpenSpec.ofChange poolTakesWrong)

/-- 'vellumlaw6.PoolDrops': WHATEVER THE INPUT: true; the input reads as it did. -/
def poolDropsSpec : ChangeSpec := { name := "poolDrops", fn := fun _ => fun
  | [d1, d2, d3] => { results := [.lit (.bool true)], args := [d1, d2, d3] }
  | _ => none }
def poolDropsRow : OpenClaim := { program := "ytkiehemoiapkkaagreat", sum := "81f63f1cdddaacd261a2ddcdbbb132f4adeea1722316146274ce51530f0c7420", func := "vellum/vellumlaw6.PoolDrops", spec := "poolDrops", unfollowed := true, recurses := true, apart := false }
def PoolDropsSaid : Prop := poolDropsRow.holds Tryz.pinned (OpenSpec.ofChange poolDropsSpec)

/-- ITS FALSE NEIGHBOUR: 'it returns false'. Refute it at one input. -/
def poolDropsWrong : ChangeSpec := { name := "poolDrops", fn := fun _ => fun
  | [d1, d2, d3] => { results := [.lit (.bool false)], args := [d1, d2, d3] }
  | _ => none }
def PoolDropsWrongFalsely : Prop := poolDropsRow.holds Tryz.pinned (OpenSpec.ofChange poolDropsWrong)

/-- 'vellumlaw6.PoolLefts': WHATEVER THE INPUT: true; the input reads as it did. -/
def poolLeftsSpec : ChangeSpec := { name := "poolLefts", fn := fun _ => fun
  | [d1, d2, d3] => { results := [.lit (.bool true)], args := [d1, d2, d3] }
  | _ => none }
def poolLeftsRow : OpenClaim := { program := "ytkiehemoiapkkaagreat", sum := "81f63f1cdddaacd261a2ddcdbbb132f4adeea1722316146274ce51530f0c7420", func := "vellum/vellumlaw6.PoolLefts", spec := "poolLefts", unfollowed := true, recurses := true, apart := false }
def PoolLeftsSaid : Prop := poolLeftsRow.holds Tryz.pinned (OpenSpec.ofChange poolLeftsSpec)

/-- ITS FALSE NEIGHBOUR: 'it returns false'. Refute it at one input. -/
def poolLeftsWrong : ChangeSpec := { name := "poolLefts", fn := fun _ => fun
  | [d1, d2, d3] => { results := [.lit (.bool false)], args := [d1, d2, d3] }
  | _ => none }
def PoolLeftsWrongFalsely : Prop := poolLeftsRow.holds Tryz.pinned (OpenSpec.ofChange poolLeftsWrong)

/-- 'vellumlaw6.PoolBudget': WHATEVER THE INPUT: true; the input reads as it did. -/
def poolBudgetSpec : ChangeSpec := { name := "poolBudget", fn := fun _ => fun
  | [d1, d2, d3] => { results := [.lit (.bool true)], args := [d1, d2, d3] }
  | _ => none }
def poolBudgetRow : OpenClaim := { program := "ytkiehemoiapkkaagreat", sum := "81f63f1cdddaacd261a2ddcdbbb132f4adeea1722316146274ce51530f0c7420", func := "vellum/vellumlaw6.PoolBudget", spec := "poolBudget", unfollowed := true, recurses := true, apart := false }
def PoolBudgetSaid : Prop := poolBudgetRow.holds Tryz.pinned (OpenSpec.ofChange poolBudgetSpec)

/-- ITS FALSE NEIGHBOUR: 'it returns false'. Refute it at one input. -/
def poolBudgetWrong : ChangeSpec := { name := "poolBudget", fn := fun _ => fun
  | [d1, d2, d3] => { results := [.lit (.bool false)], args := [d1, d2, d3] }
  | _ => none }
def PoolBudgetWrongFalsely : Prop := poolBudgetRow.holds Tryz.pinned (OpenSpec.ofChange poolBudgetWrong)

/-- 'vellumlaw6.PoolPlays': WHATEVER THE INPUT: true; the input reads as it did. -/
def poolPlaysSpec : ChangeSpec := { name := "poolPlays", fn := fun _ => fun
  | [d1, d2, d3] => { results := [.lit (.bool true)], args := [d1, d2, d3] }
  | _ => none }
def poolPlaysRow : OpenClaim := { program := "ytkiehemoiapkkaagreat", sum := "81f63f1cdddaacd261a2ddcdbbb132f4adeea1722316146274ce51530f0c7420", func := "vellum/vellumlaw6.PoolPlays", spec := "poolPlays", unfollowed := true, recurses := true, apart := false }
def PoolPlaysSaid : Prop := poolPlaysRow.holds Tryz.pinned (OpenSpec.ofChange poolPlaysSpec)

/-- ITS FALSE NEIGHBOUR: 'it returns false'. Refute it at one input. -/
def poolPlaysWrong : ChangeSpec := { name := "poolPlays", fn := fun _ => fun
  | [d1, d2, d3] => { results := [.lit (.bool false)], args := [d1, d2, d3] }
  | _ => none }
def PoolPlaysWrongFalsely : Prop := poolPlaysRow.holds Tryz.pinned (OpenSpec.ofChange poolPlaysWrong)

/- THE SECOND FORM. 'bulk': how many values and letters a reading holds, each counted each time it is reached (what is shared counts as often as it is met; a slice's spare places count too). A statement '..UptoSaid' is the law's where the arguments, and the package variables that the reading takes, are together of bulk at most 1048576: NARROWER than '..Said'. Prove '..Said' where nothing that the law and all that it calls make is longer than what came in: it says more and counts as full. Else prove '..UptoSaid'. A law counts once. -/
mutual
def uptoBulk {H : Type} : DataW H → Nat
  | .lit (.string bytes) => bytes.length + 1
  | .lit _ => 1
  | .nil => 1
  | .ptr d => uptoBulk d + 1
  | .slice elems spare => uptoBulkAll elems + uptoBulkAll spare + 1
  | .agg parts => uptoBulkAll parts + 1
  | .iface _ d => uptoBulk d + 1
  | .map entries => uptoBulkEntries entries + 1
  | .held _ => 1
def uptoBulkAll {H : Type} : List (DataW H) → Nat
  | [] => 0
  | d :: r => uptoBulk d + uptoBulkAll r
def uptoBulkEntries {H : Type} : List (Lit × DataW H) → Nat
  | [] => 0
  | x :: r => uptoBulkEntry x + uptoBulkEntries r
def uptoBulkEntry {H : Type} : Lit × DataW H → Nat
  | (.string bytes, d) => bytes.length + uptoBulk d + 1
  | (_, d) => uptoBulk d + 1
 end
def uptoSmall : (H : Type) → List (DataW H) → Bool := fun _ ds => decide (uptoBulkAll ds ≤ 1048576)
def OpenSpec.upto (s : _root_.Go.ChangeSpec) : _root_.Go.OpenSpec := { _root_.Go.OpenSpec.ofChange s with cond := some uptoSmall }

/-- 'vellumlaw6.PoolTakes', WHERE WHAT IT READS IS OF BULK AT MOST 1048576: true; the input reads as it did. -/
def poolTakesUptoRow : OpenClaim := { program := "ytkiehemoiapkkaagreat", sum := "81f63f1cdddaacd261a2ddcdbbb132f4adeea1722316146274ce51530f0c7420", func := "vellum/vellumlaw6.PoolTakes", spec := "poolTakes", unfollowed := true, recurses := true, apart := false, narrowed := true }
def PoolTakesUptoSaid : Prop := poolTakesUptoRow.holds Tryz.pinned (OpenSpec.upto poolTakesSpec)

/-- 'vellumlaw6.PoolDrops', WHERE WHAT IT READS IS OF BULK AT MOST 1048576: true; the input reads as it did. -/
def poolDropsUptoRow : OpenClaim := { program := "ytkiehemoiapkkaagreat", sum := "81f63f1cdddaacd261a2ddcdbbb132f4adeea1722316146274ce51530f0c7420", func := "vellum/vellumlaw6.PoolDrops", spec := "poolDrops", unfollowed := true, recurses := true, apart := false, narrowed := true }
def PoolDropsUptoSaid : Prop := poolDropsUptoRow.holds Tryz.pinned (OpenSpec.upto poolDropsSpec)

/-- 'vellumlaw6.PoolLefts', WHERE WHAT IT READS IS OF BULK AT MOST 1048576: true; the input reads as it did. -/
def poolLeftsUptoRow : OpenClaim := { program := "ytkiehemoiapkkaagreat", sum := "81f63f1cdddaacd261a2ddcdbbb132f4adeea1722316146274ce51530f0c7420", func := "vellum/vellumlaw6.PoolLefts", spec := "poolLefts", unfollowed := true, recurses := true, apart := false, narrowed := true }
def PoolLeftsUptoSaid : Prop := poolLeftsUptoRow.holds Tryz.pinned (OpenSpec.upto poolLeftsSpec)

/-- 'vellumlaw6.PoolBudget', WHERE WHAT IT READS IS OF BULK AT MOST 1048576: true; the input reads as it did. -/
def poolBudgetUptoRow : OpenClaim := { program := "ytkiehemoiapkkaagreat", sum := "81f63f1cdddaacd261a2ddcdbbb132f4adeea1722316146274ce51530f0c7420", func := "vellum/vellumlaw6.PoolBudget", spec := "poolBudget", unfollowed := true, recurses := true, apart := false, narrowed := true }
def PoolBudgetUptoSaid : Prop := poolBudgetUptoRow.holds Tryz.pinned (OpenSpec.upto poolBudgetSpec)

/-- 'vellumlaw6.PoolPlays', WHERE WHAT IT READS IS OF BULK AT MOST 1048576: true; the input reads as it did. -/
def poolPlaysUptoRow : OpenClaim := { program := "ytkiehemoiapkkaagreat", sum := "81f63f1cdddaacd261a2ddcdbbb132f4adeea1722316146274ce51530f0c7420", func := "vellum/vellumlaw6.PoolPlays", spec := "poolPlays", unfollowed := true, recurses := true, apart := false, narrowed := true }
def PoolPlaysUptoSaid : Prop := poolPlaysUptoRow.holds Tryz.pinned (OpenSpec.upto poolPlaysSpec)

end Rows
end Go.Proofs.YtkiehemoiapkkaaGreat
