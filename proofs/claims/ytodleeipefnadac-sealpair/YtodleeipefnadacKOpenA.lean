import Derived.Test.YtodleeipefnadacKOpen
namespace Go.Proofs.Ytodleeipefnadac
open Go.ChangeShapes Go.WideShapes Go.ChangeAt Go.RowKit Go.Deep

theorem cellsAnc : Try.prog.cellsOf 46 = 4 := by kernel_rfl

section
variable {H : Type} {enc : TypeId × Value → H} {W : World} {base : Nat} {spare : Nat → Bool} {held : Bool}
theorem open_bytes2 {fuel : Nat} {v : Value} {d : DataW H} {pl : List MemPlace} (h : DataW.trod enc Try.prog W base spare held fuel 22 [v] = some (d, pl)) (hw : ∀ n ∈ d.weights Try.prog 22, n ≤ reachBytes) :
    ∃ a n c l, v = .slice a n c ∧ Src W a n l ∧ Bytes l ∧ n ≤ c ∧ n ≤ 140737488351232 := by
  rcases open_ints Try.underlying22 Try.underlying5 cellsU8 h with ⟨hcs, _⟩ | ⟨x, l, c, zs, hcs, _, hl, hm, hz, hd, hcell, hwz⟩
  · simp only [List.cons.injEq, and_true] at hcs
    exact ⟨none, 0, 0, [], hcs, ⟨rfl, fun _ => rfl, fun x hx => by cases hx⟩, (fun x hx => by cases hx), Nat.le_refl _, Nat.zero_le _⟩
  · simp only [List.cons.injEq, and_true] at hcs
    simp only [Prod.mk.injEq] at hd
    obtain ⟨rfl, rfl⟩ := hd
    have hzl : l ≤ zs.length := by rw [hz]; split <;> omega
    have h1 := hw ((((lits IntKind.u8 (zs.take l) : List (DataW H))).length + ((lits IntKind.u8 (zs.drop l) : List (DataW H))).length) * Try.prog.bytesOf 5) (by simp [DataW.weights, Try.underlying22])
    rw [bytesU8] at h1
    simp only [lits, List.length_map, List.length_take, List.length_drop, reachBytes] at h1
    refine ⟨some x, l, c, zs.take l, hcs, ⟨by simp; omega, (fun h => by cases h), fun y hy i hi => ?_⟩, fun z hz => u8_wf (hwz z (List.mem_of_mem_take hz)), hl, by omega⟩
    cases hy
    rw [hcell i (by omega)]
    simp [List.getD, hi]
theorem trod4a {P : Program} {e : TypeId} {f0 f1 f2 f3 : Field} {n : Nat} {cs : List Value} {x : DataW H × List MemPlace} (he : P.underlying e = some (.struct #[f0, f1, f2, f3])) (ce : P.cellsOf e = 4) (o0 : f0.offset = 0) (o1 : f1.offset = 1) (o2 : f2.offset = 2) (o3 : f3.offset = 3)
    (c0 : P.cellsOf f0.type = 1) (c1 : P.cellsOf f1.type = 1) (c2 : P.cellsOf f2.type = 1) (c3 : P.cellsOf f3.type = 1) (h : DataW.trod enc P W base spare held n e cs = some x) :
    ∃ v0 v1 v2 v3 y0 y1 y2 y3 k, cs = [v0, v1, v2, v3] ∧ x.1 = .agg [y0.1, y1.1, y2.1, y3.1] ∧ DataW.trod enc P W base spare held k f0.type [v0] = some y0 ∧ DataW.trod enc P W base spare held k f1.type [v1] = some y1 ∧ DataW.trod enc P W base spare held k f2.type [v2] = some y2 ∧ DataW.trod enc P W base spare held k f3.type [v3] = some y3 ∧ (∀ m ∈ y3.1.weights P f3.type, m ∈ x.1.weights P e) := by
  obtain ⟨xs, k, _, hxy, hlen, hxl, hf⟩ := DataW.trod_struct he h
  rw [ce] at hlen
  match xs, hxl, cs, hlen with
  | [y0, y1, y2, y3], _, [v0, v1, v2, v3], _ =>
    have g0 := hf 0 f0 rfl
    have g1 := hf 1 f1 rfl
    have g2 := hf 2 f2 rfl
    have g3 := hf 3 f3 rfl
    simp [o0, o1, o2, o3, c0, c1, c2, c3] at g0 g1 g2 g3
    have ex : x.1 = .agg [y0.1, y1.1, y2.1, y3.1] := by rw [hxy]; rfl
    refine ⟨v0, v1, v2, v3, y0, y1, y2, y3, k, rfl, ex, g0, g1, g2, g3, fun m hm => ?_⟩
    rw [ex]
    simp [DataW.weights, he, DataW.weightsEach, hm]
theorem open_anchor {fuel : Nat} {cs : List Value} {d : DataW H} {pl : List MemPlace} (h : DataW.trod enc Try.prog W base spare held fuel 46 cs = some (d, pl)) (hw : ∀ n ∈ d.weights Try.prog 46, n ≤ reachBytes) :
    ∃ kd nb ov a n c l, cs = [.int .i64 kd, .int .i64 nb, .int .i64 ov, .slice a n c] ∧ I64 nb ∧ Src W a n l ∧ Bytes l ∧ n ≤ 140737488351232 := by
  obtain ⟨v0, v1, v2, v3, y0, y1, y2, y3, k', rfl, _, g0, g1, g2, g3, hwt⟩ := trod4a Try.underlying46 cellsAnc rfl rfl rfl rfl cellsInt cellsInt cellsInt cellsBytes h
  obtain ⟨n0, q0, _, w0⟩ := DataW.trod_int Try.underlying3 g0
  obtain ⟨n1, q1, _, w1⟩ := DataW.trod_int Try.underlying3 g1
  obtain ⟨n2, q2, _, w2⟩ := DataW.trod_int Try.underlying3 g2
  simp only [List.cons.injEq, and_true] at q0 q1 q2
  subst q0 q1 q2
  obtain ⟨a, n, c, l, rfl, hs, hb, _, hn⟩ := open_bytes2 g3 (fun m hm => hw m (hwt m hm))
  exact ⟨n0, n1, n2, a, n, c, l, rfl, int_wf w1, hs, hb, hn⟩
end
end Go.Proofs.Ytodleeipefnadac
