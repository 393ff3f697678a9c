import Derived.Test.YtkdjjnkhbmmfeaaKBase
import Derived.Lib.Bytealg
import Derived.Lib.IndexLaws
import Derived.Deep.Light
namespace Go.Proofs.Ytkdjjnkhbmmfeaa
open Go.RowKit

/-- What Name answers. -/
def nameErr (l : List UInt8) : Int := if 54 < l.length then 7 else if l = [] ∨ l = [46] ∨ l = [46, 46] then 21 else if 47 ∈ l ∨ 0 ∈ l then 21 else 0

theorem ix_mem (l : List UInt8) (c : UInt8) : 0 ≤ Lib.indexByte l c ↔ c ∈ l := by
  have hge := Lib.indexByte_ge l c
  constructor
  · intro h
    obtain ⟨o, ho⟩ := Int.eq_ofNat_of_zero_le h
    have := (Lib.indexByte_some ho).1
    exact List.mem_of_getElem? this
  · intro h
    by_cases h0 : Lib.indexByte l c = -1
    · obtain ⟨k, hk⟩ := List.mem_iff_getElem?.1 h
      exact absurd hk (Lib.indexByte_none h0 k)
    · omega
theorem len_size (s : ByteArray) : s.data.toList.length = s.size := by simp
theorem n_long (s : ByteArray) (h : 54 < (s.size : Int)) : nameErr s.data.toList = 7 := by
  unfold nameErr
  rw [len_size, if_pos (by omega)]
theorem n_dots (s : ByteArray) (h : (s.size : Int) ≤ 54) (hd : s.toList = [] ∨ s.toList = [46] ∨ s.toList = [46, 46]) : nameErr s.data.toList = 21 := by
  unfold nameErr
  rw [ByteArray.toList_eq] at hd
  rw [len_size, if_neg (by omega), if_pos hd]
theorem n_bad (s : ByteArray) (h : (s.size : Int) ≤ 54) (hd : 0 ≤ Lib.indexByte s.data.toList 47 ∨ 0 ≤ Lib.indexByte s.data.toList 0) : nameErr s.data.toList = 21 := by
  unfold nameErr
  rw [ix_mem, ix_mem] at hd
  rw [len_size, if_neg (by omega)]
  by_cases h0 : s.data.toList = [] ∨ s.data.toList = [46] ∨ s.data.toList = [46, 46]
  · rw [if_pos h0]
  · rw [if_neg h0, if_pos hd]
theorem n_ok (s : ByteArray) (h : (s.size : Int) ≤ 54) (h0 : ¬ (s.toList = [] ∨ s.toList = [46] ∨ s.toList = [46, 46])) (hd : ¬ (0 ≤ Lib.indexByte s.data.toList 47 ∨ 0 ≤ Lib.indexByte s.data.toList 0)) : nameErr s.data.toList = 0 := by
  unfold nameErr
  rw [ix_mem, ix_mem] at hd
  rw [ByteArray.toList_eq] at h0
  rw [len_size, if_neg (by omega), if_neg h0, if_neg hd]

end Go.Proofs.Ytkdjjnkhbmmfeaa
