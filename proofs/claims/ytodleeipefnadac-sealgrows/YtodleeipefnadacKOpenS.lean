import Derived.Test.YtodleeipefnadacKOpen
namespace Go.Proofs.Ytodleeipefnadac
open Go.ChangeShapes Go.WideShapes Go.ChangeAt Go.RowKit Go.Deep

theorem bytesRnw : Try.prog.bytesOf 38 = 48 := by kernel_rfl
theorem cellsRnw : Try.prog.cellsOf 38 = 5 := by kernel_rfl
theorem cellsBool' : Try.prog.cellsOf 4 = 1 := by kernel_rfl

/-- A list of renewals that is only read. -/
def Steps (w : World) (B : Nat) (a : Option Addr) (n : Nat) : Prop :=
  (a = none → n = 0) ∧ ∀ x, a = some x → ∀ i, i < n → ∃ b o, x = ⟨b, o, none⟩ ∧ b < B ∧ ∃ nb ct a' n' c' l t1 t2, w.cell? ⟨b, o + i * 5, none⟩ = some (.int .i64 nb) ∧ w.cell? ⟨b, o + i * 5 + 1, none⟩ = some (.int .i64 ct) ∧ w.cell? ⟨b, o + i * 5 + 2, none⟩ = some (.slice a' n' c') ∧ w.cell? ⟨b, o + i * 5 + 3, none⟩ = some (.bool t1) ∧ w.cell? ⟨b, o + i * 5 + 4, none⟩ = some (.bool t2) ∧ I64 nb ∧ Src w a' n' l ∧ Bytes l ∧ (∀ y, a' = some y → 0 < n' → y.block < B) ∧ n' ≤ 140737488355328
theorem Src.far' {w w' : World} {B : Nat} {a : Option Addr} {n : Nat} {l : List Int} (h : Src w a n l) (hb : Below B w w') (ha : ∀ x, a = some x → 0 < n → x.block < B) : Src w' a n l :=
  ⟨h.1, h.2.1, fun x hx i hi => (World.cell?_of_block (w := w) (by rw [blockOf_add]; exact hb.block _ (ha x hx (by omega)))).trans (h.2.2 x hx i hi)⟩
theorem Steps.far {w w' : World} {B : Nat} {a : Option Addr} {n : Nat} (h : Steps w B a n) (hb : Below B w w') : Steps w' B a n :=
  ⟨h.1, fun x hx i hi => by
    obtain ⟨b, o, rfl, h0, nb, ct, a', n', c', l, t1, t2, h1, h2, h3, h4, h9, h10, h5, h6, h7, h8⟩ := h.2 x hx i hi
    have e := hb.block b h0
    exact ⟨b, o, rfl, h0, nb, ct, a', n', c', l, t1, t2, (World.cell?_of_block (w := w) (a := ⟨b, _, none⟩) e).trans h1, (World.cell?_of_block (w := w) (a := ⟨b, _, none⟩) e).trans h2, (World.cell?_of_block (w := w) (a := ⟨b, _, none⟩) e).trans h3, (World.cell?_of_block (w := w) (a := ⟨b, _, none⟩) e).trans h4, (World.cell?_of_block (w := w) (a := ⟨b, _, none⟩) e).trans h9, h10, h5.far' hb h7, h6, h7, h8⟩⟩

section
variable {H : Type} {enc : TypeId × Value → H} {W : World} {base : Nat} {spare : Nat → Bool} {held : Bool}
theorem trod5b {P : Program} {e : TypeId} {f0 f1 f2 f3 f4 : Field} {n : Nat} {cs : List Value} {x : DataW H × List MemPlace} (he : P.underlying e = some (.struct #[f0, f1, f2, f3, f4])) (ce : P.cellsOf e = 5) (o0 : f0.offset = 0) (o1 : f1.offset = 1) (o2 : f2.offset = 2) (o3 : f3.offset = 3) (o4 : f4.offset = 4)
    (c0 : P.cellsOf f0.type = 1) (c1 : P.cellsOf f1.type = 1) (c2 : P.cellsOf f2.type = 1) (c3 : P.cellsOf f3.type = 1) (c4 : P.cellsOf f4.type = 1) (h : DataW.trod enc P W base spare held n e cs = some x) :
    ∃ v0 v1 v2 v3 v4 y0 y1 y2 y3 y4 k, cs = [v0, v1, v2, v3, v4] ∧ x.1 = .agg [y0.1, y1.1, y2.1, y3.1, y4.1] ∧ DataW.trod enc P W base spare held k f0.type [v0] = some y0 ∧ DataW.trod enc P W base spare held k f1.type [v1] = some y1 ∧ DataW.trod enc P W base spare held k f2.type [v2] = some y2 ∧ DataW.trod enc P W base spare held k f3.type [v3] = some y3 ∧ DataW.trod enc P W base spare held k f4.type [v4] = some y4 ∧ (∀ m ∈ y2.1.weights P f2.type, m ∈ x.1.weights P e) := by
  obtain ⟨xs, k, _, hxy, hlen, hxl, hf⟩ := DataW.trod_struct he h
  rw [ce] at hlen
  match xs, hxl, cs, hlen with
  | [y0, y1, y2, y3, y4], _, [v0, v1, v2, v3, v4], _ =>
    have g0 := hf 0 f0 rfl
    have g1 := hf 1 f1 rfl
    have g2 := hf 2 f2 rfl
    have g3 := hf 3 f3 rfl
    have g4 := hf 4 f4 rfl
    simp [o0, o1, o2, o3, o4, c0, c1, c2, c3, c4] at g0 g1 g2 g3 g4
    have ex : x.1 = .agg [y0.1, y1.1, y2.1, y3.1, y4.1] := by rw [hxy]; rfl
    refine ⟨v0, v1, v2, v3, v4, y0, y1, y2, y3, y4, k, rfl, ex, g0, g1, g2, g3, g4, fun m hm => ?_⟩
    rw [ex]
    simp [DataW.weights, he, DataW.weightsEach, hm]
theorem open_steps {fuel : Nat} {v : Value} {d : DataW H} {pl : List MemPlace} (h : DataW.trod enc Try.prog W base spare held fuel 33 [v] = some (d, pl)) (hw : ∀ n ∈ d.weights Try.prog 33, n ≤ reachBytes) :
    ∃ a n c, v = .slice a n c ∧ Steps W W.heap.size a n ∧ 48 * n ≤ 140737488355328 := by
  rcases open_slice Try.underlying33 h with ⟨hcs, _⟩ | ⟨x, len, cap, m, k, D, Pl, hcs, _, hl, hm, hmm, hd, hx⟩
  · simp only [List.cons.injEq, and_true] at hcs
    exact ⟨none, 0, 0, hcs, ⟨fun _ => rfl, (fun x hx => by cases hx)⟩, Nat.zero_le _⟩
  · simp only [List.cons.injEq, and_true] at hcs
    simp only [Prod.mk.injEq] at hd
    replace hd := hd.1
    subst hd
    have hlm : len ≤ m := by rw [hmm]; split <;> omega
    have h1 := hw ((((List.range len).map D).length + ((List.range (m - len)).map fun j => D (len + j)).length) * Try.prog.bytesOf 38) (by simp [DataW.weights, Try.underlying33])
    rw [bytesRnw] at h1
    simp only [List.length_map, List.length_range, reachBytes] at h1
    rw [cellsRnw] at hx
    have hwe : ∀ i, i < len → ∀ n ∈ (D i).weights Try.prog 38, n ≤ reachBytes := fun i hi n hn => hw n (by
      simp only [DataW.weights, Try.underlying33]
      exact List.mem_cons_of_mem _ (List.mem_append_left _ (weightsAll_mem (List.mem_map.2 ⟨i, List.mem_range.2 hi, rfl⟩) hn)))
    refine ⟨some x, len, cap, hcs, ⟨(fun h => by cases h), fun y hy i hi => ?_⟩, by omega⟩
    cases hy
    obtain ⟨cs', e1, e2⟩ := hx i (by omega)
    obtain ⟨_, hlen, hcell⟩ := World.cells?_some e1
    obtain ⟨v0, v1, v2, v3, v4, y0, y1, y2, y3, y4, k', rfl, _, g0, g1, g2, g3, g4, hwt⟩ := trod5b Try.underlying38 cellsRnw rfl rfl rfl rfl rfl cellsInt cellsInt cellsBytes cellsBool' cellsBool' e2
    obtain ⟨a, na, ca, l, rfl, hs, hb, hc, hsn⟩ := open_bytes g2 (fun m hm => hwe i hi m (hwt m hm))
    obtain ⟨n0, q0, _, w0⟩ := DataW.trod_int Try.underlying3 g0
    obtain ⟨n1, q1, _, w1⟩ := DataW.trod_int Try.underlying3 g1
    obtain ⟨n3, q3, _⟩ := DataW.trod_bool Try.underlying4 g3
    obtain ⟨n4, q4, _⟩ := DataW.trod_bool Try.underlying4 g4
    simp only [List.cons.injEq, and_true] at q0 q1 q3 q4
    subst q0 q1 q3 q4
    have c0 := hcell 0 (by omega)
    have c1 := hcell 1 (by omega)
    have c2 := hcell 2 (by omega)
    have c3 := hcell 3 (by omega)
    have c4 := hcell 4 (by omega)
    rw [add_add] at c0 c1 c2 c3 c4
    obtain ⟨cs0, z1, z2⟩ := hx 0 (by omega)
    obtain ⟨u0, u1, u2, u3, u4, _, _, _, _, _, _, rfl, _⟩ := trod5b Try.underlying38 cellsRnw rfl rfl rfl rfl rfl cellsInt cellsInt cellsBytes cellsBool' cellsBool' z2
    obtain ⟨_, _, zcell⟩ := World.cells?_some z1
    have z0 := zcell 0 (by omega)
    rw [add_add] at z0
    obtain ⟨b, o, spot⟩ := x
    have hspot : spot = none := by simpa [Addr.add] using World.cell?_spot z0
    subst hspot
    rw [addr_add] at c0 c1 c2 c3 c4
    simp at c0 c1 c2 c3 c4
    exact ⟨b, o, rfl, World.block_lt_of_cell? _ _ c0, n0, n1, a, na, ca, l, n3, n4, c0, by simpa [Nat.add_assoc] using c1, by simpa [Nat.add_assoc] using c2, by simpa [Nat.add_assoc] using c3, by simpa [Nat.add_assoc] using c4, int_wf w0, hs, hb, hs.old, hsn⟩
end
end Go.Proofs.Ytodleeipefnadac
