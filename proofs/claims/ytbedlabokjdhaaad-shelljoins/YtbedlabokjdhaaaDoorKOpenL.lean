import Derived.Test.YtbedlabokjdhaaaDoorKOpen
namespace Go.Proofs.YtbedlabokjdhaaaDoor
open Go.ChangeShapes Go.WideShapes Go.ChangeAt Go.RowKit Go.Deep

theorem bytesLs : Tryd.prog.bytesOf 23 = 24 := by kernel_rfl

/-- A list of lists of bytes that is only read. -/
def Lists (w : World) (B : Nat) (a : Option Addr) (n : Nat) : Prop :=
  (a = none → n = 0) ∧ ∀ x, a = some x → ∀ i, i < n → ∃ b o, x = ⟨b, o, none⟩ ∧ b < B ∧ ∃ a' n' c' l, w.cell? ⟨b, o + i, none⟩ = some (.slice a' n' c') ∧ Src w a' n' l ∧ Bytes l ∧ (∀ y, a' = some y → 0 < n' → y.block < B) ∧ n' ≤ 140737488355328 ∧ n' ≤ c'

theorem Src.far {w w' : World} {B : Nat} {a : Option Addr} {n : Nat} {l : List Int} (h : Src w a n l) (hb : Below B w w') (ha : ∀ x, a = some x → 0 < n → x.block < B) : Src w' a n l :=
  ⟨h.1, h.2.1, fun x hx i hi => (World.cell?_of_block (w := w) (by rw [blockOf_add]; exact hb.block _ (ha x hx (by omega)))).trans (h.2.2 x hx i hi)⟩
theorem Lists.far {w w' : World} {B : Nat} {a : Option Addr} {n : Nat} (h : Lists w B a n) (hb : Below B w w') : Lists w' B a n :=
  ⟨h.1, fun x hx i hi => by
    obtain ⟨b, o, rfl, h0, a', n', c', l, h1, h2, h3, h4, h5⟩ := h.2 x hx i hi
    exact ⟨b, o, rfl, h0, a', n', c', l, (World.cell?_of_block (w := w) (a := ⟨b, _, none⟩) (hb.block b h0)).trans h1, h2.far hb h4, h3, h4, h5⟩⟩

section
variable {H : Type} {enc : TypeId × Value → H} {W : World} {base : Nat} {spare : Nat → Bool} {held : Bool}
theorem open_lists {fuel : Nat} {v : Value} {d : DataW H} {pl : List MemPlace} (h : DataW.trod enc Tryd.prog W base spare held fuel 22 [v] = some (d, pl)) (hw : ∀ n ∈ d.weights Tryd.prog 22, n ≤ reachBytes) :
    ∃ a n c, v = .slice a n c ∧ Lists W W.heap.size a n ∧ 24 * n ≤ 140737488355328 := by
  rcases open_slice Tryd.underlying22 h with ⟨hcs, _⟩ | ⟨x, len, cap, m, k, D, Pl, hcs, _, hl, hm, hmm, hd, hx⟩
  · simp only [List.cons.injEq, and_true] at hcs
    exact ⟨none, 0, 0, hcs, ⟨fun _ => rfl, (fun x hx => by cases hx)⟩, Nat.zero_le _⟩
  · simp only [List.cons.injEq, and_true] at hcs
    simp only [Prod.mk.injEq] at hd
    replace hd := hd.1
    subst hd
    have hlm : len ≤ m := by rw [hmm]; split <;> omega
    have h1 := hw ((((List.range len).map D).length + ((List.range (m - len)).map fun j => D (len + j)).length) * Tryd.prog.bytesOf 23) (by simp [DataW.weights, Tryd.underlying22])
    rw [bytesLs] at h1
    simp only [List.length_map, List.length_range, reachBytes] at h1
    rw [cellsBytes] at hx
    have hwe : ∀ i, i < len → ∀ n ∈ (D i).weights Tryd.prog 23, n ≤ reachBytes := fun i hi n hn => hw n (by
      simp only [DataW.weights, Tryd.underlying22]
      exact List.mem_cons_of_mem _ (List.mem_append_left _ (weightsAll_mem (List.mem_map.2 ⟨i, List.mem_range.2 hi, rfl⟩) hn)))
    refine ⟨some x, len, cap, hcs, ⟨(fun h => by cases h), fun y hy i hi => ?_⟩, by omega⟩
    cases hy
    obtain ⟨cs', e1, e2⟩ := hx i (by omega)
    obtain ⟨_, hlen, hcell⟩ := World.cells?_some e1
    obtain ⟨v0, rfl⟩ : ∃ v0, cs' = [v0] := by
      match cs', hlen with
      | [v0], _ => exact ⟨v0, rfl⟩
    obtain ⟨a, na, ca, l, rfl, hs, hb, hc, hsn⟩ := open_bytes e2 (hwe i hi)
    have c0 := hcell 0 (by omega)
    rw [add_add] at c0
    obtain ⟨cs0, z1, z2⟩ := hx 0 (by omega)
    obtain ⟨_, zlen, zcell⟩ := World.cells?_some z1
    obtain ⟨u0, rfl⟩ : ∃ u0, cs0 = [u0] := by
      match cs0, zlen with
      | [u0], _ => exact ⟨u0, rfl⟩
    have z0 := zcell 0 (by omega)
    rw [add_add] at z0
    obtain ⟨b, o, spot⟩ := x
    have hspot : spot = none := by simpa [Addr.add] using World.cell?_spot z0
    subst hspot
    rw [addr_add] at c0
    simp at c0
    exact ⟨b, o, rfl, World.block_lt_of_cell? _ _ c0, a, na, ca, l, c0, hs, hb, hs.old, hsn, hc⟩
end
end Go.Proofs.YtbedlabokjdhaaaDoor
