/-
  DERIVED. GIVEN WITH THE SEED: THE CARDS: each row of YtkcakpcmpbjhlaaDoorRows.lean that lists a variable, with what it lists TIED to the program's text (the seventh form; the later family's looks); each row that meets fmt, with fmt's text TOLD by the authors' own Lean function (tested against real Go, not proved from fmt's source: count such statements apart). THE CARD IS WHAT COUNTS. Prove the row's statement (the work); the ties are given (YtkcakpcmpbjhlaaDoorTie.lean); close each card by the builder's one call (the guide's Derived/Test/ToyasCard.lean, 'card_holds'). Laid BY PROGRAM, IN A SANDBOX (cutbox-door.mjs). By AI agents, Wed Nov 11 2026. No macro, syntax, notation, axiom, sorry.
-/
import Derived.Test.YtkcakpcmpbjhlaaDoorRows
import GoSem.ClaimSeven
namespace Go.Proofs.YtkcakpcmpbjhlaaDoor
namespace Rows

/-- THE TIED CARD OF 'vellumlaw17.SalvageSays'. -/
def salvageSaysCard : Claim7 := { stood := { row := salvageSaysRow, standIns := [], harness := (true, "3f42bf36073a7a36f481f7217cda3d1f09344cea7d2f9585c0dbd926e921fea7"), looks := false }, kinds := [], alts := [], laidByText := true, laidKinds := [.data, .data, .data], laidTests := true, laidLooks := .later }
def SalvageSaysCardSaid : Prop := Claim7.holds Tryd.pinned (.plain (OpenSpec.ofChange salvageSaysSpec)) salvageSaysCard

/-- THE SECOND FORM's CARD OF 'vellumlaw17.SalvageSays'. -/
def salvageSaysUptoCard : Claim7 := { stood := { row := salvageSaysUptoRow, standIns := [], harness := (true, "3f42bf36073a7a36f481f7217cda3d1f09344cea7d2f9585c0dbd926e921fea7"), looks := false }, kinds := [], alts := [], laidByText := true, laidKinds := [.data, .data, .data], laidTests := true, laidLooks := .later }
def SalvageSaysUptoCardSaid : Prop := Claim7.holds Tryd.pinned (.plain (OpenSpec.upto salvageSaysSpec)) salvageSaysUptoCard
end Rows
end Go.Proofs.YtkcakpcmpbjhlaaDoor
