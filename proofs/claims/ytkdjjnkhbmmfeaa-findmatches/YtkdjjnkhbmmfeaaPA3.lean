import Derived.Test.YtkdjjnkhbmmfeaaPA2
namespace Go.Proofs.Ytkdjjnkhbmmfeaa
open Go.RowKit Go.Maps

theorem getb (s : ByteArray) {i : Nat} (h : i < s.size) : s.data.toList[i]? = some (s.get! i) := by
  rw [byte_at s h]
  have h' : i < s.data.toList.length := by rw [len_size]; exact h
  rw [List.getElem?_eq_getElem h']
  simp [ByteArray.getElem_eq_getElem_data]
/-- What stands from f to a slash. -/
theorem at_slash (T : ByteArray) {f pos : Nat} (hf : f ≤ pos) (hp : pos < T.size) (hno : ∀ j, f ≤ j → j < pos → (T.get! j).toNat ≠ 47) (h47 : (T.get! pos).toNat = 47) :
    T.data.toList.drop f = (T.data.toList.drop f).take (pos - f) ++ 47 :: T.data.toList.drop (pos + 1) ∧ 47 ∉ (T.data.toList.drop f).take (pos - f) := by
  have hl := len_size T
  have e47 : T.get! pos = 47 := UInt8.toNat_inj.1 h47
  constructor
  · have h1 : (T.data.toList.drop f).drop (pos - f) = 47 :: T.data.toList.drop (pos + 1) := by
      rw [List.drop_drop, Nat.add_sub_cancel' hf, List.drop_eq_getElem_cons (by omega)]
      congr 1
      have := getb T hp
      rw [List.getElem?_eq_getElem (by omega)] at this
      rw [Option.some.inj this, e47]
    rw [← h1, List.take_append_drop]
  · intro hm
    obtain ⟨j, hj, e⟩ := List.mem_iff_getElem.1 hm
    simp only [List.length_take, List.length_drop] at hj
    rw [List.getElem_take, List.getElem_drop] at e
    have h2 := getb T (i := f + j) (by omega)
    rw [List.getElem?_eq_getElem (by omega)] at h2
    refine hno (f + j) (by omega) (by omega) ?_
    rw [← Option.some.inj h2, e]
    rfl
theorem at_end (T : ByteArray) {f pos : Nat} (hp : ¬ pos < T.size) (hno : ∀ j, f ≤ j → j < pos → (T.get! j).toNat ≠ 47) (hlast : 0 < T.size → (T.get! (T.size - 1)).toNat = 47) : T.data.toList.drop f = [] := by
  have hl := len_size T
  by_cases h : f < T.size
  · exact absurd (hlast (by omega)) (hno _ (by omega) (by omega))
  · exact List.drop_eq_nil_of_le (by omega)

/-- A list of texts that a call has made: new memory alone. -/
def Told (B : Nat) (w : World) (v : Value) (l : List (List UInt8)) : Prop := w.ownsRow B 9 1 v l.length (strs l)

theorem told_nil (B : Nat) (w : World) : Told B w (.slice none 0 0) [] := ⟨rfl, .inl ⟨rfl, rfl⟩⟩

/-- What parts answers. -/
def partsAns (l : List UInt8) : List (List UInt8) := if errOf (ptsOf l) = 0 then ptsOf l else []

end Go.Proofs.Ytkdjjnkhbmmfeaa
