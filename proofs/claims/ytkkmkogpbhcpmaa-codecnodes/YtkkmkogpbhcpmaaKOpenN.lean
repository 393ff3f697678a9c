import Derived.Test.YtkkmkogpbhcpmaaKOpen
import Derived.Test.YtkkmkogpbhcpmaaKNodB
namespace Go.Proofs.Ytkkmkogpbhcpmaa
open Go.ChangeShapes Go.WideShapes Go.ChangeAt Go.RowKit Go.Deep

theorem cellsNode : Try.prog.cellsOf 76 = 17 := by kernel_rfl
theorem cellsTen : Try.prog.cellsOf 74 = 10 := by kernel_rfl
theorem bytesNode : Try.prog.bytesOf 76 = 136 := by kernel_rfl

section
variable {H : Type} {enc : TypeId × Value → H} {W : World} {base : Nat} {spare : Nat → Bool} {held : Bool}
theorem trod8 {P : Program} {e : TypeId} {f0 f1 f2 f3 f4 f5 f6 f7 : Field} {n : Nat} {cs : List Value} {x : DataW H × List MemPlace} (he : P.underlying e = some (.struct #[f0, f1, f2, f3, f4, f5, f6, f7])) (ce : P.cellsOf e = 17)
    (o0 : f0.offset = 0) (o1 : f1.offset = 1) (o2 : f2.offset = 2) (o3 : f3.offset = 3) (o4 : f4.offset = 4) (o5 : f5.offset = 5) (o6 : f6.offset = 15) (o7 : f7.offset = 16)
    (c0 : P.cellsOf f0.type = 1) (c1 : P.cellsOf f1.type = 1) (c2 : P.cellsOf f2.type = 1) (c3 : P.cellsOf f3.type = 1) (c4 : P.cellsOf f4.type = 1) (c5 : P.cellsOf f5.type = 10) (c6 : P.cellsOf f6.type = 1) (c7 : P.cellsOf f7.type = 1) (h : DataW.trod enc P W base spare held n e cs = some x) :
    ∃ v0 v1 v2 v3 v4 vs v6 v7 y0 y1 y2 y3 y4 y5 y6 y7 k, cs = v0 :: v1 :: v2 :: v3 :: v4 :: (vs ++ [v6, v7]) ∧ vs.length = 10 ∧ DataW.trod enc P W base spare held k f0.type [v0] = some y0 ∧ DataW.trod enc P W base spare held k f1.type [v1] = some y1 ∧ DataW.trod enc P W base spare held k f2.type [v2] = some y2 ∧ DataW.trod enc P W base spare held k f3.type [v3] = some y3 ∧ DataW.trod enc P W base spare held k f4.type [v4] = some y4 ∧ DataW.trod enc P W base spare held k f5.type vs = some y5 ∧ DataW.trod enc P W base spare held k f6.type [v6] = some y6 ∧ DataW.trod enc P W base spare held k f7.type [v7] = some y7 := by
  obtain ⟨xs, k, _, hxy, hlen, hxl, hf⟩ := DataW.trod_struct he h
  rw [ce] at hlen
  match xs, hxl with
  | [y0, y1, y2, y3, y4, y5, y6, y7], _ =>
    match cs, hlen with
    | [v0, v1, v2, v3, v4, a0, a1, a2, a3, a4, a5, a6, a7, a8, a9, v6, v7], _ =>
      have g0 := hf 0 f0 rfl
      have g1 := hf 1 f1 rfl
      have g2 := hf 2 f2 rfl
      have g3 := hf 3 f3 rfl
      have g4 := hf 4 f4 rfl
      have g5 := hf 5 f5 rfl
      have g6 := hf 6 f6 rfl
      have g7 := hf 7 f7 rfl
      simp [o0, o1, o2, o3, o4, o5, o6, o7, c0, c1, c2, c3, c4, c5, c6, c7] at g0 g1 g2 g3 g4 g5 g6 g7
      exact ⟨v0, v1, v2, v3, v4, [a0, a1, a2, a3, a4, a5, a6, a7, a8, a9], v6, v7, y0, y1, y2, y3, y4, y5, y6, y7, k, rfl, rfl, g0, g1, g2, g3, g4, g5, g6, g7⟩
theorem trod_ten {fuel : Nat} {vs : List Value} {y : DataW H × List MemPlace} (h : DataW.trod enc Try.prog W base spare held fuel 74 vs = some y) (i : Nat) (hi : i < 10) : ∃ a, vs[i]? = some (.int .i64 a) := by
  obtain ⟨xs, m, _, _, _, hxl, hf⟩ := DataW.trod_array Try.underlying74 h
  have g := hf i hi
  rw [cellsInt] at g
  obtain ⟨z, hz⟩ : ∃ z, xs[i]? = some z := ⟨xs[i]'(by omega), by simp [show i < xs.length by omega]⟩
  rw [hz] at g
  obtain ⟨a, ha, _, _⟩ := DataW.trod_int Try.underlying3 g
  refine ⟨a, ?_⟩
  have := congrArg (fun l => l[0]?) ha
  simpa using this
theorem open_node {fuel : Nat} {cs : List Value} {y : DataW H × List MemPlace} (h : DataW.trod enc Try.prog W base spare held fuel 76 cs = some y) : ∃ k l p s o dd, cs = ndl k l p s o dd := by
  obtain ⟨v0, v1, v2, v3, v4, vs, v6, v7, y0, y1, y2, y3, y4, y5, y6, y7, k', rfl, hvs, g0, g1, g2, g3, g4, g5, g6, g7⟩ := trod8 Try.underlying76 cellsNode rfl rfl rfl rfl rfl rfl rfl rfl cellsInt cellsInt cellsInt cellsInt cellsInt cellsTen cellsInt cellsInt h
  obtain ⟨n0, q0, _, _⟩ := DataW.trod_int Try.underlying3 g0
  obtain ⟨n1, q1, _, _⟩ := DataW.trod_int Try.underlying3 g1
  obtain ⟨n2, q2, _, _⟩ := DataW.trod_int Try.underlying3 g2
  obtain ⟨n3, q3, _, _⟩ := DataW.trod_int Try.underlying3 g3
  obtain ⟨n4, q4, _, _⟩ := DataW.trod_int Try.underlying3 g4
  obtain ⟨n6, q6, _, _⟩ := DataW.trod_int Try.underlying3 g6
  obtain ⟨n7, q7, _, _⟩ := DataW.trod_int Try.underlying3 g7
  simp only [List.cons.injEq, and_true] at q0 q1 q2 q3 q4 q6 q7
  subst q0 q1 q2 q3 q4 q6 q7
  have ht := trod_ten g5
  match vs, hvs with
  | [a0, a1, a2, a3, a4, a5, a6, a7, a8, a9], _ =>
    obtain ⟨b0, h0⟩ := ht 0 (by omega)
    obtain ⟨b1, h1⟩ := ht 1 (by omega)
    obtain ⟨b2, h2⟩ := ht 2 (by omega)
    obtain ⟨b3, h3⟩ := ht 3 (by omega)
    obtain ⟨b4, h4⟩ := ht 4 (by omega)
    obtain ⟨b5, h5⟩ := ht 5 (by omega)
    obtain ⟨b6, h6⟩ := ht 6 (by omega)
    obtain ⟨b7, h7⟩ := ht 7 (by omega)
    obtain ⟨b8, h8⟩ := ht 8 (by omega)
    obtain ⟨b9, h9⟩ := ht 9 (by omega)
    simp at h0 h1 h2 h3 h4 h5 h6 h7 h8 h9
    subst h0 h1 h2 h3 h4 h5 h6 h7 h8 h9
    exact ⟨n0, n1, n2, n3, n4, fun i => [b0, b1, b2, b3, b4, b5, b6, b7, b8, b9, n6, n7].getD i 0, rfl⟩

end
/-- A list of nodes that is only read. -/
def Nodes (w : World) (B : Nat) (a : Option Addr) (n : Nat) : Prop :=
  (a = none → n = 0) ∧ ∀ x, a = some x → ∀ i, i < n → ∃ b o, x = ⟨b, o, none⟩ ∧ b < B ∧ ∃ k l p s q d, w.rangeAt b (o + i * 17) (ndl k l p s q d)
theorem Nodes.far {w w' : World} {B : Nat} {a : Option Addr} {n : Nat} (h : Nodes w B a n) (hb : Below B w w') : Nodes w' B a n :=
  ⟨h.1, fun x hx i hi => by
    obtain ⟨b, o, rfl, h0, k, l, p, s, q, d, hr⟩ := h.2 x hx i hi
    exact ⟨b, o, rfl, h0, k, l, p, s, q, d, fun j v hv => (World.cell?_of_block (w := w) (a := ⟨b, _, none⟩) (hb.block b h0)).trans (hr j v hv)⟩⟩
section
variable {H : Type} {enc : TypeId × Value → H} {W : World} {base : Nat} {spare : Nat → Bool} {held : Bool}
theorem open_nodes {fuel : Nat} {v : Value} {d : DataW H} {pl : List MemPlace} (h : DataW.trod enc Try.prog W base spare held fuel 73 [v] = some (d, pl)) (hw : ∀ n ∈ d.weights Try.prog 73, n ≤ reachBytes) :
    ∃ a n c, v = .slice a n c ∧ Nodes W W.heap.size a n ∧ 136 * n ≤ 140737488355328 := by
  rcases open_slice Try.underlying73 h with ⟨hcs, _⟩ | ⟨x, len, cap, m, k, D, Pl, hcs, _, hl, hm, hmm, hd, hx⟩
  · simp only [List.cons.injEq, and_true] at hcs
    exact ⟨none, 0, 0, hcs, ⟨fun _ => rfl, (fun x hx => by cases hx)⟩, Nat.zero_le _⟩
  · simp only [List.cons.injEq, and_true] at hcs
    simp only [Prod.mk.injEq] at hd
    replace hd := hd.1
    subst hd
    have hlm : len ≤ m := by rw [hmm]; split <;> omega
    have h1 := hw ((((List.range len).map D).length + ((List.range (m - len)).map fun j => D (len + j)).length) * Try.prog.bytesOf 76) (by simp [DataW.weights, Try.underlying73])
    rw [bytesNode] at h1
    simp only [List.length_map, List.length_range, reachBytes] at h1
    rw [cellsNode] at hx
    refine ⟨some x, len, cap, hcs, ⟨(fun h => by cases h), fun y hy i hi => ?_⟩, by omega⟩
    cases hy
    obtain ⟨cs', e1, e2⟩ := hx i (by omega)
    obtain ⟨_, hlen, hcell⟩ := World.cells?_some e1
    obtain ⟨K, L, P, S, O, DD, rfl⟩ := open_node e2
    obtain ⟨cs0, z1, z2⟩ := hx 0 (by omega)
    obtain ⟨_, zlen, zcell⟩ := World.cells?_some z1
    obtain ⟨K0, L0, P0, S0, O0, D0, rfl⟩ := open_node z2
    have z0 := zcell 0 (by simp)
    rw [add_add] at z0
    obtain ⟨b, o, spot⟩ := x
    have hspot : spot = none := by simpa [Addr.add] using World.cell?_spot z0
    subst hspot
    rw [addr_add] at z0
    refine ⟨b, o, rfl, World.block_lt_of_cell? _ _ z0, K, L, P, S, O, DD, fun j v hv => ?_⟩
    have hj : j < 17 := (List.getElem?_eq_some_iff.1 hv).1
    have cj := hcell j (by simpa using hj)
    rw [add_add, addr_add] at cj
    rw [Nat.add_assoc, ← hv]
    simpa using cj
end
end Go.Proofs.Ytkkmkogpbhcpmaa
