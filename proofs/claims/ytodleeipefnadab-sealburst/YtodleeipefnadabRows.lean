/-
  No cell of these rows narrows 'for every input' (looked for: loops, veiled, ifaces, maps, wideKeys, modest, calm, conditions, laid).
  DERIVED. THE GIVEN ROWS OF THIS SEAT. 6 by the template 'for every input the law returns true; each argument reads behind the call as it read before'; 0 by the template 'total and deterministic' (their statements: YtodleeipefnadabTotals.lean).
  GIVEN WITH THE SEED: the statements are not yours to turn. If you find one false, say at which input.
  Laid BY PROGRAM, IN A SANDBOX (cutbox-rows.mjs): the forced cells as the released guide's own fill.sh prints them over the translation b95e46ebda2bbf1b… (all of the seat's roots in one cut). By AI agents, Wed Nov 11 2026. No macro, syntax, notation, axiom, sorry.
-/
import Derived.Test.YtodleeipefnadabChecked
import GoSem.Claim
import GoSem.ClaimJoined
import GoSem.ClaimMapViews
import Derived.JoinedTies
import Derived.KernelRfl
namespace Go.Proofs.Ytodleeipefnadab
/- THE CELL 'sum', in the pinned program and in every row, IS THE sha256 OF THE DUMP (.gsa) THAT YtodleeipefnadabProg.lean LOADS. Nothing in Lean hashes anything: it is a label: what it is worth is what the hold of that sum in a sandbox is worth. -/
noncomputable def Try.pinned : Pinned := { name := "ytodleeipefnadab", sum := "b95e46ebda2bbf1bf332d507f30e409c5e837a0f9db11d6d2e7ad7c4f81955fd", checked := Try.checked }
namespace Rows
def none {H : Type} : Left H := { results := [], args := [] }

/-- 'vellumlaw3.SealRound': WHATEVER THE INPUT: true; the input reads as it did. -/
def sealRoundSpec : ChangeSpec := { name := "sealRound", fn := fun _ => fun
  | [d1, d2] => { results := [.lit (.bool true)], args := [d1, d2] }
  | _ => none }
def sealRoundRow : OpenClaim := { program := "ytodleeipefnadab", sum := "b95e46ebda2bbf1bf332d507f30e409c5e837a0f9db11d6d2e7ad7c4f81955fd", func := "vellum/vellumlaw3.SealRound", spec := "sealRound", apart := false }
def SealRoundSaid : Prop := sealRoundRow.holds Try.pinned (OpenSpec.ofChange sealRoundSpec)

/-- ITS FALSE NEIGHBOUR: 'it returns false'. Refute it at one input. -/
def sealRoundWrong : ChangeSpec := { name := "sealRound", fn := fun _ => fun
  | [d1, d2] => { results := [.lit (.bool false)], args := [d1, d2] }
  | _ => none }
def SealRoundWrongFalsely : Prop := sealRoundRow.holds Try.pinned (OpenSpec.ofChange sealRoundWrong)

/-- 'vellumlaw3.SealBurst': WHATEVER THE INPUT: true; the input reads as it did. -/
def sealBurstSpec : ChangeSpec := { name := "sealBurst", fn := fun _ => fun
  | [d1, d2, d3, d4] => { results := [.lit (.bool true)], args := [d1, d2, d3, d4] }
  | _ => none }
def sealBurstRow : OpenClaim := { program := "ytodleeipefnadab", sum := "b95e46ebda2bbf1bf332d507f30e409c5e837a0f9db11d6d2e7ad7c4f81955fd", func := "vellum/vellumlaw3.SealBurst", spec := "sealBurst", apart := false }
def SealBurstSaid : Prop := sealBurstRow.holds Try.pinned (OpenSpec.ofChange sealBurstSpec)

/-- ITS FALSE NEIGHBOUR: 'it returns false'. Refute it at one input. -/
def sealBurstWrong : ChangeSpec := { name := "sealBurst", fn := fun _ => fun
  | [d1, d2, d3, d4] => { results := [.lit (.bool false)], args := [d1, d2, d3, d4] }
  | _ => none }
def SealBurstWrongFalsely : Prop := sealBurstRow.holds Try.pinned (OpenSpec.ofChange sealBurstWrong)

/-- 'vellumlaw3.SealRot': WHATEVER THE INPUT: true; the input reads as it did. -/
def sealRotSpec : ChangeSpec := { name := "sealRot", fn := fun _ => fun
  | [d1, d2, d3, d4, d5] => { results := [.lit (.bool true)], args := [d1, d2, d3, d4, d5] }
  | _ => none }
def sealRotRow : OpenClaim := { program := "ytodleeipefnadab", sum := "b95e46ebda2bbf1bf332d507f30e409c5e837a0f9db11d6d2e7ad7c4f81955fd", func := "vellum/vellumlaw3.SealRot", spec := "sealRot", apart := false }
def SealRotSaid : Prop := sealRotRow.holds Try.pinned (OpenSpec.ofChange sealRotSpec)

/-- ITS FALSE NEIGHBOUR: 'it returns false'. Refute it at one input. -/
def sealRotWrong : ChangeSpec := { name := "sealRot", fn := fun _ => fun
  | [d1, d2, d3, d4, d5] => { results := [.lit (.bool false)], args := [d1, d2, d3, d4, d5] }
  | _ => none }
def SealRotWrongFalsely : Prop := sealRotRow.holds Try.pinned (OpenSpec.ofChange sealRotWrong)

/-- 'vellumlaw3.SealSeals': WHATEVER THE INPUT: true; the input reads as it did. -/
def sealSealsSpec : ChangeSpec := { name := "sealSeals", fn := fun _ => fun
  | [d1, d2] => { results := [.lit (.bool true)], args := [d1, d2] }
  | _ => none }
def sealSealsRow : OpenClaim := { program := "ytodleeipefnadab", sum := "b95e46ebda2bbf1bf332d507f30e409c5e837a0f9db11d6d2e7ad7c4f81955fd", func := "vellum/vellumlaw3.SealSeals", spec := "sealSeals", apart := false }
def SealSealsSaid : Prop := sealSealsRow.holds Try.pinned (OpenSpec.ofChange sealSealsSpec)

/-- ITS FALSE NEIGHBOUR: 'it returns false'. Refute it at one input. -/
def sealSealsWrong : ChangeSpec := { name := "sealSeals", fn := fun _ => fun
  | [d1, d2] => { results := [.lit (.bool false)], args := [d1, d2] }
  | _ => none }
def SealSealsWrongFalsely : Prop := sealSealsRow.holds Try.pinned (OpenSpec.ofChange sealSealsWrong)

/-- 'vellumlaw3.SealOpens': WHATEVER THE INPUT: true; the input reads as it did. -/
def sealOpensSpec : ChangeSpec := { name := "sealOpens", fn := fun _ => fun
  | [d1, d2, d3, d4] => { results := [.lit (.bool true)], args := [d1, d2, d3, d4] }
  | _ => none }
def sealOpensRow : OpenClaim := { program := "ytodleeipefnadab", sum := "b95e46ebda2bbf1bf332d507f30e409c5e837a0f9db11d6d2e7ad7c4f81955fd", func := "vellum/vellumlaw3.SealOpens", spec := "sealOpens", apart := false }
def SealOpensSaid : Prop := sealOpensRow.holds Try.pinned (OpenSpec.ofChange sealOpensSpec)

/-- ITS FALSE NEIGHBOUR: 'it returns false'. Refute it at one input. -/
def sealOpensWrong : ChangeSpec := { name := "sealOpens", fn := fun _ => fun
  | [d1, d2, d3, d4] => { results := [.lit (.bool false)], args := [d1, d2, d3, d4] }
  | _ => none }
def SealOpensWrongFalsely : Prop := sealOpensRow.holds Try.pinned (OpenSpec.ofChange sealOpensWrong)

/-- 'vellumlaw3.SealTorn': WHATEVER THE INPUT: true; the input reads as it did. -/
def sealTornSpec : ChangeSpec := { name := "sealTorn", fn := fun _ => fun
  | [d1, d2, d3] => { results := [.lit (.bool true)], args := [d1, d2, d3] }
  | _ => none }
def sealTornRow : OpenClaim := { program := "ytodleeipefnadab", sum := "b95e46ebda2bbf1bf332d507f30e409c5e837a0f9db11d6d2e7ad7c4f81955fd", func := "vellum/vellumlaw3.SealTorn", spec := "sealTorn", apart := false }
def SealTornSaid : Prop := sealTornRow.holds Try.pinned (OpenSpec.ofChange sealTornSpec)

/-- ITS FALSE NEIGHBOUR: 'it returns false'. Refute it at one input. -/
def sealTornWrong : ChangeSpec := { name := "sealTorn", fn := fun _ => fun
  | [d1, d2, d3] => { results := [.lit (.bool false)], args := [d1, d2, d3] }
  | _ => none }
def SealTornWrongFalsely : Prop := sealTornRow.holds Try.pinned (OpenSpec.ofChange sealTornWrong)

/- THE SECOND FORM. 'bulk': how many values and letters a reading holds, each counted each time it is reached (what is shared counts as often as it is met; a slice's spare places count too). A statement '..UptoSaid' is the law's where the arguments, and the package variables that the reading takes, are together of bulk at most 1048576: NARROWER than '..Said'. Prove '..Said' where nothing that the law and all that it calls make is longer than what came in: it says more and counts as full. Else prove '..UptoSaid'. A law counts once. -/
mutual
def uptoBulk {H : Type} : DataW H → Nat
  | .lit (.string bytes) => bytes.length + 1
  | .lit _ => 1
  | .nil => 1
  | .ptr d => uptoBulk d + 1
  | .slice elems spare => uptoBulkAll elems + uptoBulkAll spare + 1
  | .agg parts => uptoBulkAll parts + 1
  | .iface _ d => uptoBulk d + 1
  | .map entries => uptoBulkEntries entries + 1
  | .held _ => 1
def uptoBulkAll {H : Type} : List (DataW H) → Nat
  | [] => 0
  | d :: r => uptoBulk d + uptoBulkAll r
def uptoBulkEntries {H : Type} : List (Lit × DataW H) → Nat
  | [] => 0
  | x :: r => uptoBulkEntry x + uptoBulkEntries r
def uptoBulkEntry {H : Type} : Lit × DataW H → Nat
  | (.string bytes, d) => bytes.length + uptoBulk d + 1
  | (_, d) => uptoBulk d + 1
 end
def uptoSmall : (H : Type) → List (DataW H) → Bool := fun _ ds => decide (uptoBulkAll ds ≤ 1048576)
def OpenSpec.upto (s : _root_.Go.ChangeSpec) : _root_.Go.OpenSpec := { _root_.Go.OpenSpec.ofChange s with cond := some uptoSmall }

/-- 'vellumlaw3.SealRound', WHERE WHAT IT READS IS OF BULK AT MOST 1048576: true; the input reads as it did. -/
def sealRoundUptoRow : OpenClaim := { program := "ytodleeipefnadab", sum := "b95e46ebda2bbf1bf332d507f30e409c5e837a0f9db11d6d2e7ad7c4f81955fd", func := "vellum/vellumlaw3.SealRound", spec := "sealRound", apart := false, narrowed := true }
def SealRoundUptoSaid : Prop := sealRoundUptoRow.holds Try.pinned (OpenSpec.upto sealRoundSpec)

/-- 'vellumlaw3.SealBurst', WHERE WHAT IT READS IS OF BULK AT MOST 1048576: true; the input reads as it did. -/
def sealBurstUptoRow : OpenClaim := { program := "ytodleeipefnadab", sum := "b95e46ebda2bbf1bf332d507f30e409c5e837a0f9db11d6d2e7ad7c4f81955fd", func := "vellum/vellumlaw3.SealBurst", spec := "sealBurst", apart := false, narrowed := true }
def SealBurstUptoSaid : Prop := sealBurstUptoRow.holds Try.pinned (OpenSpec.upto sealBurstSpec)

/-- 'vellumlaw3.SealRot', WHERE WHAT IT READS IS OF BULK AT MOST 1048576: true; the input reads as it did. -/
def sealRotUptoRow : OpenClaim := { program := "ytodleeipefnadab", sum := "b95e46ebda2bbf1bf332d507f30e409c5e837a0f9db11d6d2e7ad7c4f81955fd", func := "vellum/vellumlaw3.SealRot", spec := "sealRot", apart := false, narrowed := true }
def SealRotUptoSaid : Prop := sealRotUptoRow.holds Try.pinned (OpenSpec.upto sealRotSpec)

/-- 'vellumlaw3.SealSeals', WHERE WHAT IT READS IS OF BULK AT MOST 1048576: true; the input reads as it did. -/
def sealSealsUptoRow : OpenClaim := { program := "ytodleeipefnadab", sum := "b95e46ebda2bbf1bf332d507f30e409c5e837a0f9db11d6d2e7ad7c4f81955fd", func := "vellum/vellumlaw3.SealSeals", spec := "sealSeals", apart := false, narrowed := true }
def SealSealsUptoSaid : Prop := sealSealsUptoRow.holds Try.pinned (OpenSpec.upto sealSealsSpec)

/-- 'vellumlaw3.SealOpens', WHERE WHAT IT READS IS OF BULK AT MOST 1048576: true; the input reads as it did. -/
def sealOpensUptoRow : OpenClaim := { program := "ytodleeipefnadab", sum := "b95e46ebda2bbf1bf332d507f30e409c5e837a0f9db11d6d2e7ad7c4f81955fd", func := "vellum/vellumlaw3.SealOpens", spec := "sealOpens", apart := false, narrowed := true }
def SealOpensUptoSaid : Prop := sealOpensUptoRow.holds Try.pinned (OpenSpec.upto sealOpensSpec)

/-- 'vellumlaw3.SealTorn', WHERE WHAT IT READS IS OF BULK AT MOST 1048576: true; the input reads as it did. -/
def sealTornUptoRow : OpenClaim := { program := "ytodleeipefnadab", sum := "b95e46ebda2bbf1bf332d507f30e409c5e837a0f9db11d6d2e7ad7c4f81955fd", func := "vellum/vellumlaw3.SealTorn", spec := "sealTorn", apart := false, narrowed := true }
def SealTornUptoSaid : Prop := sealTornUptoRow.holds Try.pinned (OpenSpec.upto sealTornSpec)

end Rows
end Go.Proofs.Ytodleeipefnadab
