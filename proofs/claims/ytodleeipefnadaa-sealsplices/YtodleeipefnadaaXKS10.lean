import Derived.Test.YtodleeipefnadaaXKS9
namespace Go.Proofs.Ytodleeipefnadaa
open Go.RowKit

/-- v is a slice that reads as l; its memory, if any, lies at B or above. -/
def Lst (w : World) (B : Nat) (v : Value) (l : List Int) : Prop := ∃ a c, v = .slice a l.length c ∧ Src w a l.length l ∧ l.length ≤ c ∧ ∀ x, a = some x → B ≤ x.block
theorem Lst.nil (w : World) (B : Nat) : Lst w B (.slice none 0 0) [] := ⟨none, 0, rfl, ⟨rfl, fun _ => rfl, fun x hx => by cases hx⟩, Nat.le_refl _, fun x hx => by cases hx⟩
theorem Lst.later {w w' : World} {B : Nat} {v : Value} {l : List Int} (h : Lst w B v l) (hb : Below w.heap.size w w') : Lst w' B v l := by
  obtain ⟨a, c, rfl, hs, hc, hx⟩ := h
  exact ⟨a, c, rfl, hs.later hb, hc, hx⟩
theorem Own.lst {w : World} {B : Nat} {v : Value} {l : List Int} (h : Own w B v l) : Lst w B v l := by
  obtain ⟨a, c, rfl, hs, hc, hx⟩ := h.src
  exact ⟨a, c, rfl, hs, hc, fun x e => (hx x e).1⟩
theorem Blk.lst {w : World} {T : TypeId} {g B : Nat} {l : List Int} (h : Blk w T g l) (hg : B ≤ g) : Lst w B (.slice (some ⟨g, 0, none⟩) l.length l.length) l := by
  refine ⟨some ⟨g, 0, none⟩, l.length, rfl, ?_, Nat.le_refl _, fun x hx => by cases hx; exact hg⟩
  have := h.src (o := 0) (n := l.length) (by omega)
  simpa using this

theorem heap_setCells_full {w : World} {T : TypeId} {g : Nat} : ∀ (vs pre : List Value) (cur : Array Value), w.heap[g]? = some (.cells cur T (0, 0)) → (∃ post, cur.toList = pre ++ post ∧ post.length = vs.length) →
    (w.setCells g pre.length vs).heap[g]? = some (.cells (pre ++ vs).toArray T (0, 0)) := by
  intro vs
  induction vs generalizing w with
  | nil =>
    intro pre cur hg ⟨post, he, hl⟩
    have : post = [] := List.eq_nil_of_length_eq_zero hl
    subst this
    simp only [List.append_nil] at he ⊢
    show w.heap[g]? = _
    rw [hg, ← he]
  | cons v r ih =>
    intro pre cur hg ⟨post, he, hl⟩
    cases post with
    | nil => simp at hl
    | cons u post =>
      have h1 := heap_setCell_same w g pre.length cur T v hg
      have e : (cur.setIfInBounds pre.length v).toList = (pre ++ [v]) ++ post := by
        rw [Array.toList_setIfInBounds, he, List.set_append_right _ _ (Nat.le_refl _), Nat.sub_self]
        simp
      have := ih (w := w.setCell ⟨g, pre.length, none⟩ v) (pre ++ [v]) _ h1 ⟨post, e, by simpa using hl⟩
      simp only [World.setCells]
      simpa using this
theorem blk_stored {w : World} {T : TypeId} {g : Nat} {cur : Array Value} {l : List Int} (hg : w.heap[g]? = some (.cells cur T (0, 0))) (hl : cur.size = l.length) : Blk (w.setCells g 0 (bs l)) T g l :=
  heap_setCells_full (bs l) [] cur hg ⟨cur.toList, rfl, by simp [bs, hl]⟩
end Go.Proofs.Ytodleeipefnadaa
