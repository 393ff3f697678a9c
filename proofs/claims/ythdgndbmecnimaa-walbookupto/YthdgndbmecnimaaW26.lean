import Derived.Test.YthdgndbmecnimaaW25
section
namespace Go.Proofs.Ythdgndbmecnimaa
open Go.RowKit Go.Maps

/-- A new book. -/
theorem book_new {w : World} {lab : Nat → Nat} (hz : LZ lab w) : ∃ lab', Gro lab lab' w (w.alloc (.cells #[.slice none 0 0, .slice none 0 0, .slice none 0 0, .slice none 0 0, .slice none 0 0, .slice none 0 0] 43)) (fun y => y = 17) ∧ Bk (w.alloc (.cells #[.slice none 0 0, .slice none 0 0, .slice none 0 0, .slice none 0 0, .slice none 0 0, .slice none 0 0] 43)) lab' w.heap.size (.slice none 0 0) (.slice none 0 0) (.slice none 0 0) (.slice none 0 0) (.slice none 0 0) (.slice none 0 0) [] := by
  refine ⟨_, Gro.give hz (below_box w _) (Nat.le_refl _) (by simp) 17, heap_alloc_new _ _, ?_, LX.nil _ _ _ _, LX.nil _ _ _ _, LX.nil _ _ _ _, LX.nil _ _ _ _, LX.nil _ _ _ _, OR.nil _ _ _ _⟩
  show (if w.heap.size = w.heap.size then 17 else _) = 17
  rw [if_pos rfl]
section
variable {w wr w' : World} {lab : Nat → Nat} {n p : Nat} {ds : List (List Int)} {kv : Value} {j pk : Nat} {ins : List (List Int)} {lv : Value} {rows : List (List SV)} {pb : Nat} {nm : List (Nat × Int)} {r : Nat} {os ms : List SV}
/-- A list of a round done, and what was appended to it. -/
theorem PDs.at {oa ma : Option Addr} {oc mc N : Nat} (h : PDs w wr lab n p ds kv j pk ins lv rows pb nm r (.slice oa N oc) os (.slice ma N mc) ms) (ho : os.length = N) (hm : ms.length = N) {t : Nat} (ht : t < r) (hN : r ≤ N) (hb : Below wr.heap.size wr w') : ∃ bo bm sa sc qa qc, oa = some ⟨bo, 0, none⟩ ∧ ma = some ⟨bm, 0, none⟩ ∧ w'.cell? ⟨bo, t, none⟩ = some (.slice sa ds.length sc) ∧ w'.cell? ⟨bm, t, none⟩ = some (.slice qa 96 qc) ∧ MkR w' sa ds.length t ∧ GwR w' qa ds.length t 96 := by
  obtain ⟨s, hs⟩ : ∃ s, os[t]? = some s := ⟨_, List.getElem?_eq_getElem (by omega)⟩
  obtain ⟨q, hq⟩ : ∃ q, ms[t]? = some q := ⟨_, List.getElem?_eq_getElem (by omega)⟩
  have h1 := h.o
  have h2 := h.m
  obtain ⟨bo, co, e1, hr1, _, _⟩ := h1.row (by omega)
  obtain ⟨bm, cm, e2, hr2, _, _⟩ := h2.row (by omega)
  injection e1 with e3
  injection e2 with e4
  obtain ⟨f1, f2⟩ := h.oe t s ht hs
  obtain ⟨f3, f4⟩ := h.me t q ht hq
  obtain ⟨sa, sn, sc⟩ := s
  obtain ⟨qa, qn, qc⟩ := q
  simp only at f1 f2 f3 f4
  subst f1
  subst f3
  exact ⟨bo, bm, sa, sc, qa, qc, e3, e4, cell_later hb (hr1.cell (by unfold vls; rw [List.getElem?_map, hs]; rfl)), cell_later hb (hr2.cell (by unfold vls; rw [List.getElem?_map, hq]; rfl)), f2.mkr.later hb, f4.gwr.later hb⟩
end
end Go.Proofs.Ythdgndbmecnimaa
end
