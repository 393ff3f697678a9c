import Derived.Test.YtkcakpcmpbjhlaaDoorKOpen
import Derived.Deep.Strs
namespace Go.Proofs.YtkcakpcmpbjhlaaDoor
open Go.ChangeShapes Go.WideShapes Go.ChangeAt Go.RowKit Go.Deep

theorem bytesStr : Tryd.prog.bytesOf 9 = 16 := by kernel_rfl
theorem cellsStr : Tryd.prog.cellsOf 9 = 1 := by kernel_rfl

/-- A list of texts that is only read. -/
def Texts (w : World) (B : Nat) (a : Option Addr) (n : Nat) : Prop :=
  (a = none → n = 0) ∧ ∀ x, a = some x → ∀ i, i < n → ∃ b o, x = ⟨b, o, none⟩ ∧ b < B ∧ ∃ s : ByteArray, w.cell? ⟨b, o + i, none⟩ = some (.string s) ∧ s.size ≤ maxLen
theorem Texts.far {w w' : World} {B : Nat} {a : Option Addr} {n : Nat} (h : Texts w B a n) (hb : Below B w w') : Texts w' B a n :=
  ⟨h.1, fun x hx i hi => by
    obtain ⟨b, o, rfl, h0, s, h1, h2⟩ := h.2 x hx i hi
    exact ⟨b, o, rfl, h0, s, (World.cell?_of_block (w := w) (a := ⟨b, _, none⟩) (hb.block b h0)).trans h1, h2⟩⟩

section
variable {H : Type} {enc : TypeId × Value → H} {W : World} {base : Nat} {spare : Nat → Bool} {held : Bool}
end
end Go.Proofs.YtkcakpcmpbjhlaaDoor
