import Derived.Test.YtkdjjnkhbmmfeaaOB0
import Derived.Deep.AppendLies
namespace Go.Proofs.Ytkdjjnkhbmmfeaa
open Go.RowKit Go.Maps

section
variable {W W' w w' wr : World} {B : Nat} {e : TypeId} {v v' : Value} {n m : Nat} {xs : List Value} {g : Nat}
theorem rowBlock (h : W.ownsRow B e m v n xs) (hv : v.ownBlock = some g) : ∃ cur, W.heap[g]? = some (.cells cur e (0, 0)) := by
  obtain ⟨_, ⟨rfl, _⟩ | ⟨g', cap, cur, rfl, _, hb, _⟩⟩ := h
  · simp [Value.ownBlock] at hv
  · simp [Value.ownBlock] at hv
    subst hv
    exact ⟨cur, hb⟩
theorem rowAgree (h : W.ownsRow B e m v n xs) (hb : ∀ g, v.ownBlock = some g → W'.heap[g]? = W.heap[g]?) : W'.ownsRow B e m v n xs := by
  obtain ⟨hl, h | ⟨g, cap, cur, rfl, hg, hbk, h1⟩⟩ := h
  · exact ⟨hl, .inl h⟩
  · exact ⟨hl, .inr ⟨g, cap, cur, rfl, hg, (hb g rfl).trans hbk, h1⟩⟩
theorem rowLow (h : W.ownsRow B e m v n xs) (hv : v.ownBlock = some g) : B ≤ g := by
  obtain ⟨_, ⟨rfl, _⟩ | ⟨g', cap, cur, rfl, hg, hb, _⟩⟩ := h
  · simp [Value.ownBlock] at hv
  · simp [Value.ownBlock] at hv
    omega
theorem rowLt (h : W.ownsRow B e m v n xs) (hv : v.ownBlock = some g) : g < W.heap.size := by
  obtain ⟨cur, hc⟩ := rowBlock h hv
  exact (Array.getElem?_eq_some_iff.1 hc).1
theorem typeApart {cur cur' : Array Value} {t t' : TypeId} {fz fz' : Nat × Nat} (h : W.heap[g]? = some (.cells cur t fz)) (h' : W.heap[g]? = some (.cells cur' t' fz')) (ht : t ≠ t') : False := by
  rw [h] at h'
  cases h'
  exact ht rfl
theorem Src.past {a : Option Addr} {l : List Int} {F : Nat → Prop} (h : Src w a n l) (hk : Keeps F w w') (ha : ∀ y, a = some y → 0 < n → ¬ F y.block) : Src w' a n l :=
  ⟨h.1, h.2.1, fun x hx i hi => by
    have h0 := h.2.2 x hx i hi
    have hb : (x.add i).block = x.block := by unfold Addr.add; split <;> rfl
    rw [World.cell?_of_block (w := w) (hk.block _ (World.block_lt_of_cell? _ _ h0) (fun hf => by rw [hb] at hf; exact ha x hx (by omega) hf))]
    exact h0⟩
end

end Go.Proofs.Ytkdjjnkhbmmfeaa
