import Derived.Test.YtkkmkogpbhcpmabKOpenN
import Derived.Test.YtkkmkogpbhcpmabKOpenE
import Derived.Test.YtkkmkogpbhcpmabKOpenS
namespace Go.Proofs.Ytkkmkogpbhcpmab
open Go.ChangeShapes Go.WideShapes Go.ChangeAt Go.RowKit Go.Deep

section
variable {H : Type} {enc : TypeId × Value → H} {W : World} {base : Nat} {spare : Nat → Bool} {held : Bool}
theorem open_ent {fuel : Nat} {cs : List Value} {y : DataW H × List MemPlace} (h : DataW.trod enc Try.prog W base spare held fuel 29 cs = some y) : ∃ n k s t, cs = [.int .i64 n, .int .i64 k, .string s, .int .i64 t] := by
  obtain ⟨v0, v1, v2, v3, y0, y1, y2, y3, k', rfl, _, g0, g1, g2, g3⟩ := trod4 Try.underlying29 cellsEnt rfl rfl rfl rfl cellsInt cellsInt cellsStr cellsInt h
  obtain ⟨n0, q0, _, _⟩ := DataW.trod_int Try.underlying3 g0
  obtain ⟨n1, q1, _, _⟩ := DataW.trod_int Try.underlying3 g1
  obtain ⟨n2, q2, _, _⟩ := DataW.trod_string Try.underlying9 g2
  obtain ⟨n3, q3, _, _⟩ := DataW.trod_int Try.underlying3 g3
  simp only [List.cons.injEq, and_true] at q0 q1 q2 q3
  subst q0 q1 q2 q3
  exact ⟨n0, n1, n2, n3, rfl⟩
theorem open_sup {fuel : Nat} {cs : List Value} {y : DataW H × List MemPlace} (h : DataW.trod enc Try.prog W base spare held fuel 31 cs = some y) : ∃ s l n, cs = [.int .i64 s, .int .i64 l, .int .i64 n] := by
  obtain ⟨v0, v1, v2, y0, y1, y2, k', rfl, _, g0, g1, g2⟩ := trod3 Try.underlying31 cellsSuper rfl rfl rfl cellsInt cellsInt cellsInt h
  obtain ⟨n0, q0, _, _⟩ := DataW.trod_int Try.underlying3 g0
  obtain ⟨n1, q1, _, _⟩ := DataW.trod_int Try.underlying3 g1
  obtain ⟨n2, q2, _, _⟩ := DataW.trod_int Try.underlying3 g2
  simp only [List.cons.injEq, and_true] at q0 q1 q2
  subst q0 q1 q2
  exact ⟨n0, n1, n2, rfl⟩
end
end Go.Proofs.Ytkkmkogpbhcpmab
