import Derived.Test.YtkkmkogpbhcpmabKTm1
import Derived.Lib.ConvBytes
namespace Go.Proofs.Ytkkmkogpbhcpmab
open Go.RowKit

/-- An entry's name is made to fit: the boxes, and the name's bytes at g. -/
structure NAt (w wr : World) (N K : Int) (s : ByteArray) (t : Int) (g m : Nat) (l : List Int) : Prop where
  below : Below w.heap.size w wr
  par : wr.heap[w.heap.size]? = some (.cells #[.int .i64 N, .int .i64 K, .string s, .int .i64 t] 29 (0, 0))
  res : wr.heap[w.heap.size + 1]? = some (.cells #[.int .i64 0, .int .i64 0, .string ⟨#[]⟩, .int .i64 0] 29 (0, 0))
  far : w.heap.size + 2 ≤ g
  len : l.length = m
  bytes : Bytes l
  cell : ∀ i, i < m → wr.cell? ⟨g, i, none⟩ = some (.int .u8 (l.getD i 0))
  open_ : ∀ i, i < m → wr.frozen? ⟨g, i, none⟩ = false
theorem NAt.put {w wr : World} {N K : Int} {s : ByteArray} {t : Int} {g m : Nat} {l : List Int} (h : NAt w wr N K s t g m l) (j : Nat) (hj : j < m) : NAt w (wr.setCell ⟨g, j, none⟩ (.int .u8 95)) N K s t g m (l.set j 95) := by
  have hg := h.far
  refine ⟨below_put h.below (by omega) h.below.size _, (Below.heap_setCell _ _ _ _ (by simp; omega)).trans h.par, (Below.heap_setCell _ _ _ _ (by simp; omega)).trans h.res, hg, by rw [List.length_set]; exact h.len, ?_, ?_, ?_⟩
  · intro x hx
    rcases List.mem_or_eq_of_mem_set hx with hx | hx
    · exact h.bytes x hx
    · rw [hx]; omega
  · intro i hi
    by_cases e : i = j
    · subst e
      rw [World.cell?_setCell_same _ _ _ (h.cell i hi)]
      simp [List.getD, h.len, hi]
    · have hne : (⟨g, j, none⟩ : Addr) ≠ ⟨g, i, none⟩ := fun h => e (by injection h with _ h2; exact h2.symm)
      rw [World.cell?_setCell_other _ _ _ _ hne, h.cell i hi]
      simp [List.getD, show ¬ j = i by omega]
  · intro i hi
    rw [World.frozen?_setCell]
    exact h.open_ i hi
/-- Good so far. -/
def Good (l : List Int) (j : Nat) : Prop := ∀ q, q < j → l.getD q 0 ≠ 47 ∧ l.getD q 0 ≠ 0
theorem Good.next {l : List Int} {j : Nat} (h : Good l j) (h1 : l.getD j 0 ≠ 47) (h2 : l.getD j 0 ≠ 0) : Good l (j + 1) := fun q hq => by
  by_cases e : q = j
  · rw [e]; exact ⟨h1, h2⟩
  · exact h q (by omega)
theorem Good.set {l : List Int} {j : Nat} (h : Good l j) (hj : j < l.length) : Good (l.set j 95) (j + 1) := fun q hq => by
  by_cases e : q = j
  · subst e; simp [List.getD, hj]
  · have := h q (by omega)
    simpa [List.getD, List.getElem?_set, show ¬ j = q by omega] using this
theorem name_good {l : List Int} (hb : Bytes l) (hl : l.length ≤ 54) (hg : Good l l.length) (h0 : ¬ ((strOfNums l).toList = [] ∨ (strOfNums l).toList = [46] ∨ (strOfNums l).toList = [46, 46])) : nameErr (strOfNums l).data.toList = 0 := by
  have key : ∀ x : UInt8, x ∈ (strOfNums l).data.toList → x ≠ 47 ∧ x ≠ 0 := by
    intro x hx
    simp only [strOfNums, List.mem_map] at hx
    obtain ⟨n, hn, rfl⟩ := hx
    obtain ⟨i, hi, e⟩ := List.mem_iff_getElem.1 hn
    have h1 := hg i hi
    have h2 := hb n hn
    have e' : l.getD i 0 = n := by rw [← e]; simp [List.getD, hi]
    rw [e'] at h1
    constructor
    · intro h
      have := congrArg UInt8.toNat h
      simp at this
      omega
    · intro h
      have := congrArg UInt8.toNat h
      simp at this
      omega
  have hsz : (strOfNums l).data.toList.length = l.length := by simp [strOfNums]
  unfold nameErr
  rw [ByteArray.toList_eq] at h0
  rw [hsz, if_neg (by omega), if_neg h0, if_neg]
  rintro (h | h)
  · exact (key 47 h).1 rfl
  · exact (key 0 h).2 rfl

end Go.Proofs.Ytkkmkogpbhcpmab
