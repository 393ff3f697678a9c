import Derived.Test.YtkkmkogpbhcpmabKOpen
namespace Go.Proofs.Ytkkmkogpbhcpmab
open Go.ChangeShapes Go.WideShapes Go.ChangeAt Go.RowKit Go.Deep

theorem bytesSuper : Try.prog.bytesOf 31 = 24 := by kernel_rfl
theorem cellsSuper : Try.prog.cellsOf 31 = 3 := by kernel_rfl

/-- A list of geometries that is only read. -/
def Supers (w : World) (B : Nat) (a : Option Addr) (n : Nat) : Prop :=
  (a = none → n = 0) ∧ ∀ x, a = some x → ∀ i, i < n → ∃ b o, x = ⟨b, o, none⟩ ∧ b < B ∧ ∃ s l m : Int, w.cell? ⟨b, o + i * 3, none⟩ = some (.int .i64 s) ∧ w.cell? ⟨b, o + i * 3 + 1, none⟩ = some (.int .i64 l) ∧ w.cell? ⟨b, o + i * 3 + 2, none⟩ = some (.int .i64 m) ∧ I64 s ∧ I64 l ∧ I64 m
theorem Supers.far {w w' : World} {B : Nat} {a : Option Addr} {n : Nat} (h : Supers w B a n) (hb : Below B w w') : Supers w' B a n :=
  ⟨h.1, fun x hx i hi => by
    obtain ⟨b, o, rfl, h0, s, l, m, h1, h2, h3, h4⟩ := h.2 x hx i hi
    have e := hb.block b h0
    exact ⟨b, o, rfl, h0, s, l, m, (World.cell?_of_block (w := w) (a := ⟨b, _, none⟩) e).trans h1, (World.cell?_of_block (w := w) (a := ⟨b, _, none⟩) e).trans h2, (World.cell?_of_block (w := w) (a := ⟨b, _, none⟩) e).trans h3, h4⟩⟩

section
variable {H : Type} {enc : TypeId × Value → H} {W : World} {base : Nat} {spare : Nat → Bool} {held : Bool}
theorem open_supers {fuel : Nat} {v : Value} {d : DataW H} {pl : List MemPlace} (h : DataW.trod enc Try.prog W base spare held fuel 24 [v] = some (d, pl)) (hw : ∀ n ∈ d.weights Try.prog 24, n ≤ reachBytes) :
    ∃ a n c, v = .slice a n c ∧ Supers W W.heap.size a n ∧ 24 * n ≤ 140737488355328 := by
  rcases open_slice Try.underlying24 h with ⟨hcs, _⟩ | ⟨x, len, cap, m, k, D, Pl, hcs, _, hl, hm, hmm, hd, hx⟩
  · simp only [List.cons.injEq, and_true] at hcs
    exact ⟨none, 0, 0, hcs, ⟨fun _ => rfl, (fun x hx => by cases hx)⟩, Nat.zero_le _⟩
  · simp only [List.cons.injEq, and_true] at hcs
    simp only [Prod.mk.injEq] at hd
    replace hd := hd.1
    subst hd
    have hlm : len ≤ m := by rw [hmm]; split <;> omega
    have h1 := hw ((((List.range len).map D).length + ((List.range (m - len)).map fun j => D (len + j)).length) * Try.prog.bytesOf 31) (by simp [DataW.weights, Try.underlying24])
    rw [bytesSuper] at h1
    simp only [List.length_map, List.length_range, reachBytes] at h1
    rw [cellsSuper] at hx
    refine ⟨some x, len, cap, hcs, ⟨(fun h => by cases h), fun y hy i hi => ?_⟩, by omega⟩
    cases hy
    obtain ⟨cs', e1, e2⟩ := hx i (by omega)
    obtain ⟨_, hlen, hcell⟩ := World.cells?_some e1
    obtain ⟨v0, v1, v2, y0, y1, y2, k', rfl, _, g0, g1, g2⟩ := trod3 Try.underlying31 cellsSuper rfl rfl rfl cellsInt cellsInt cellsInt e2
    obtain ⟨n0, q0, _, w0⟩ := DataW.trod_int Try.underlying3 g0
    obtain ⟨n1, q1, _, w1⟩ := DataW.trod_int Try.underlying3 g1
    obtain ⟨n2, q2, _, w2⟩ := DataW.trod_int Try.underlying3 g2
    simp only [List.cons.injEq, and_true] at q0 q1 q2
    subst q0 q1 q2
    have c0 := hcell 0 (by omega)
    have c1 := hcell 1 (by omega)
    have c2 := hcell 2 (by omega)
    rw [add_add] at c0 c1 c2
    obtain ⟨cs0, z1, z2⟩ := hx 0 (by omega)
    obtain ⟨u0, u1, u2, _, _, _, _, rfl, _⟩ := trod3 Try.underlying31 cellsSuper rfl rfl rfl cellsInt cellsInt cellsInt z2
    obtain ⟨_, _, zcell⟩ := World.cells?_some z1
    have z0 := zcell 0 (by omega)
    rw [add_add] at z0
    obtain ⟨b, o, spot⟩ := x
    have hspot : spot = none := by simpa [Addr.add] using World.cell?_spot z0
    subst hspot
    rw [addr_add] at c0 c1 c2
    simp at c0 c1 c2
    exact ⟨b, o, rfl, World.block_lt_of_cell? _ _ c0, n0, n1, n2, c0, by simpa [Nat.add_assoc] using c1, by simpa [Nat.add_assoc] using c2, int_wf w0, int_wf w1, int_wf w2⟩
end
end Go.Proofs.Ytkkmkogpbhcpmab
