import Derived.Test.YtkcakpcmpbjhlaaDoorSV4
import Derived.ProofKit
import Derived.OpenShut
import Derived.ShutString
import Derived.ChangeOld
import Derived.Deep.Slices
namespace Go.Proofs.YtkcakpcmpbjhlaaDoor
open Go.ChangeShapes Go.WideShapes Go.ChangeAt Go.RowKit Go.Deep

theorem cellsLoss : Tryd.prog.cellsOf 25 = 5 := by kernel_rfl
theorem cellsInt1 : Tryd.prog.cellsOf 3 = 1 := by kernel_rfl
section
variable {H : Type} {enc : TypeId × Value → H} {W : World} {base : Nat} {spare : Nat → Bool} {held : Bool}
theorem trodF {P : Program} {e : TypeId} {f0 f1 f2 f3 f4 : Field} {n : Nat} {cs : List Value} {x : DataW H × List MemPlace} (he : P.underlying e = some (.struct #[f0, f1, f2, f3, f4])) (ce : P.cellsOf e = 5) (o0 : f0.offset = 0) (o1 : f1.offset = 1) (o2 : f2.offset = 2) (o3 : f3.offset = 3) (o4 : f4.offset = 4)
    (c0 : P.cellsOf f0.type = 1) (c1 : P.cellsOf f1.type = 1) (c2 : P.cellsOf f2.type = 1) (c3 : P.cellsOf f3.type = 1) (c4 : P.cellsOf f4.type = 1) (h : DataW.trod enc P W base spare held n e cs = some x) :
    ∃ v0 v1 v2 v3 v4 y0 y1 y2 y3 y4 k, cs = [v0, v1, v2, v3, v4] ∧ DataW.trod enc P W base spare held k f0.type [v0] = some y0 ∧ DataW.trod enc P W base spare held k f1.type [v1] = some y1 ∧ DataW.trod enc P W base spare held k f2.type [v2] = some y2 ∧ DataW.trod enc P W base spare held k f3.type [v3] = some y3 ∧ DataW.trod enc P W base spare held k f4.type [v4] = some y4 := by
  obtain ⟨xs, k, _, hxy, hlen, hxl, hf⟩ := DataW.trod_struct he h
  rw [ce] at hlen
  match xs, hxl, cs, hlen with
  | [y0, y1, y2, y3, y4], _, [v0, v1, v2, v3, v4], _ =>
    have g0 := hf 0 f0 rfl
    have g1 := hf 1 f1 rfl
    have g2 := hf 2 f2 rfl
    have g3 := hf 3 f3 rfl
    have g4 := hf 4 f4 rfl
    simp [o0, o1, o2, o3, o4, c0, c1, c2, c3, c4] at g0 g1 g2 g3 g4
    exact ⟨v0, v1, v2, v3, v4, y0, y1, y2, y3, y4, k, rfl, g0, g1, g2, g3, g4⟩
theorem open_losses {fuel : Nat} {v : Value} {d : DataW H} {pl : List MemPlace} (h : DataW.trod enc Tryd.prog W base spare held fuel 22 [v] = some (d, pl)) :
    ∃ a n c, v = .slice a n c ∧ n ≤ 9223372036854775807 ∧ Losses W W.heap.size a n := by
  rcases open_slice Tryd.underlying22 h with ⟨hcs, _⟩ | ⟨x, len, cap, m, k, D, Pl, hcs, _, hl, hm, hmm, hd, hx⟩
  · simp only [List.cons.injEq, and_true] at hcs
    exact ⟨none, 0, 0, hcs, by omega, ⟨fun _ => rfl, (fun x hx => by cases hx)⟩⟩
  · simp only [List.cons.injEq, and_true] at hcs
    have hlm : len ≤ m := by rw [hmm]; split <;> omega
    rw [cellsLoss] at hx
    refine ⟨some x, len, cap, hcs, by unfold maxLen at hm; omega, ⟨(fun h => by cases h), fun y hy i hi => ?_⟩⟩
    cases hy
    obtain ⟨cs', e1, e2⟩ := hx i (by omega)
    obtain ⟨_, hlen, hcell⟩ := World.cells?_some e1
    obtain ⟨v0, v1, v2, v3, v4, y0, y1, y2, y3, y4, k', rfl, g0, g1, g2, g3, g4⟩ := trodF Tryd.underlying25 cellsLoss rfl rfl rfl rfl rfl cellsInt1 cellsInt1 cellsInt1 cellsInt1 cellsInt1 e2
    obtain ⟨n0, q0, _, w0⟩ := DataW.trod_int Tryd.underlying3 g0
    obtain ⟨n1, q1, _, w1⟩ := DataW.trod_int Tryd.underlying3 g1
    obtain ⟨n2, q2, _, w2⟩ := DataW.trod_int Tryd.underlying3 g2
    obtain ⟨n3, q3, _, w3⟩ := DataW.trod_int Tryd.underlying3 g3
    obtain ⟨n4, q4, _, w4⟩ := DataW.trod_int Tryd.underlying3 g4
    simp only [List.cons.injEq, and_true] at q0 q1 q2 q3 q4
    subst q0 q1 q2 q3 q4
    have c0 := hcell 0 (by omega)
    have c1 := hcell 1 (by omega)
    have c2 := hcell 2 (by omega)
    have c3 := hcell 3 (by omega)
    have c4 := hcell 4 (by omega)
    rw [add_add] at c0 c1 c2 c3 c4
    obtain ⟨b, o, spot⟩ := x
    obtain ⟨cs0, z1, z2⟩ := hx 0 (by omega)
    obtain ⟨b0, b1, b2, b3, b4, _, _, _, _, _, _, rfl, _⟩ := trodF Tryd.underlying25 cellsLoss rfl rfl rfl rfl rfl cellsInt1 cellsInt1 cellsInt1 cellsInt1 cellsInt1 z2
    obtain ⟨_, _, zcell⟩ := World.cells?_some z1
    have z0 := zcell 0 (by omega)
    rw [add_add] at z0
    have hspot : spot = none := by simpa [Addr.add] using World.cell?_spot z0
    subst hspot
    rw [addr_add] at c0 c1 c2 c3 c4
    simp at c0 c1 c2 c3 c4
    exact ⟨b, o, rfl, World.block_lt_of_cell? _ _ c0, n0, n1, n2, n3, n4, c0, by simpa [Nat.add_assoc] using c1, by simpa [Nat.add_assoc] using c2, by simpa [Nat.add_assoc] using c3, by simpa [Nat.add_assoc] using c4, int_wf w0, int_wf w1, int_wf w2, int_wf w3, int_wf w4⟩
end
end Go.Proofs.YtkcakpcmpbjhlaaDoor
