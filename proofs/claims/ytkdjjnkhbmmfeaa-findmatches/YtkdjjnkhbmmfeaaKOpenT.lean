import Derived.Test.YtkdjjnkhbmmfeaaKOpen
import Derived.Deep.Strs
namespace Go.Proofs.Ytkdjjnkhbmmfeaa
open Go.ChangeShapes Go.WideShapes Go.ChangeAt Go.RowKit Go.Deep

theorem bytesStr : Try.prog.bytesOf 9 = 16 := by kernel_rfl
theorem cellsStr : Try.prog.cellsOf 9 = 1 := by kernel_rfl

/-- A list of texts that is only read. -/
def Texts (w : World) (B : Nat) (a : Option Addr) (n : Nat) : Prop :=
  (a = none → n = 0) ∧ ∀ x, a = some x → ∀ i, i < n → ∃ b o, x = ⟨b, o, none⟩ ∧ b < B ∧ ∃ s : ByteArray, w.cell? ⟨b, o + i, none⟩ = some (.string s) ∧ s.size ≤ maxLen
theorem Texts.far {w w' : World} {B : Nat} {a : Option Addr} {n : Nat} (h : Texts w B a n) (hb : Below B w w') : Texts w' B a n :=
  ⟨h.1, fun x hx i hi => by
    obtain ⟨b, o, rfl, h0, s, h1, h2⟩ := h.2 x hx i hi
    exact ⟨b, o, rfl, h0, s, (World.cell?_of_block (w := w) (a := ⟨b, _, none⟩) (hb.block b h0)).trans h1, h2⟩⟩

section
variable {H : Type} {enc : TypeId × Value → H} {W : World} {base : Nat} {spare : Nat → Bool} {held : Bool}
theorem open_strs' {fuel : Nat} {v : Value} {d : DataW H} {pl : List MemPlace} (h : DataW.trod enc Try.prog W base spare held fuel 30 [v] = some (d, pl)) (hw : ∀ n ∈ d.weights Try.prog 30, n ≤ reachBytes) :
    ∃ a n c, v = .slice a n c ∧ Texts W W.heap.size a n ∧ 16 * n ≤ 140737488355328 := by
  rcases open_strs Try.underlying30 Try.underlying9 cellsStr h with ⟨hcs, _⟩ | ⟨x, len, cap, m, Sx, hcs, _, hl, hm, hmm, hd, hx⟩
  · simp only [List.cons.injEq, and_true] at hcs
    exact ⟨none, 0, 0, hcs, ⟨fun _ => rfl, (fun x hx => by cases hx)⟩, Nat.zero_le _⟩
  · simp only [List.cons.injEq, and_true] at hcs
    simp only [Prod.mk.injEq] at hd
    replace hd := hd.1
    subst hd
    have hlm : len ≤ m := by rw [hmm]; split <;> omega
    have h1 := hw _ (by simp only [DataW.weights, Try.underlying30]; exact List.mem_cons_self)
    rw [bytesStr] at h1
    simp only [List.length_map, List.length_range, reachBytes] at h1
    refine ⟨some x, len, cap, hcs, ⟨(fun h => by cases h), fun y hy i hi => ?_⟩, by omega⟩
    cases hy
    obtain ⟨c0, hsz⟩ := hx i (by omega)
    obtain ⟨z0, _⟩ := hx 0 (by omega)
    obtain ⟨b, o, spot⟩ := x
    have hspot : spot = none := by simpa [Addr.add] using World.cell?_spot z0
    subst hspot
    rw [addr_add] at c0
    exact ⟨b, o, rfl, World.block_lt_of_cell? _ _ c0, Sx i, c0, hsz⟩
end
end Go.Proofs.Ytkdjjnkhbmmfeaa
