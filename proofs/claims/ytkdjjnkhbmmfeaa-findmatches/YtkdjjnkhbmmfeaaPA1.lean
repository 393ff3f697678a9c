import Derived.Test.YtkdjjnkhbmmfeaaKName
import Derived.Lib.DecodeN
import Derived.Laws.RangeAny
namespace Go.Proofs.Ytkdjjnkhbmmfeaa
open Go.RowKit

/-- What stands between the slashes of a text. -/
def segs : List UInt8 → List (List UInt8)
  | [] => [[]]
  | c :: t => if c = 47 then [] :: segs t else match segs t with
    | [] => [[c]]
    | s :: r => (c :: s) :: r
theorem segs_cut (p r : List UInt8) (h : 47 ∉ p) : segs (p ++ 47 :: r) = p :: segs r := by
  induction p with
  | nil => simp [segs]
  | cons c t ih =>
    simp only [List.mem_cons, not_or] at h
    simp only [List.cons_append, segs, if_neg (Ne.symm h.1), ih h.2]
theorem segs_none (p : List UInt8) (h : 47 ∉ p) : segs p = [p] := by
  induction p with
  | nil => simp [segs]
  | cons c t ih =>
    simp only [List.mem_cons, not_or] at h
    simp only [segs, if_neg (Ne.symm h.1), ih h.2]
theorem segs_full (l : List UInt8) : segs l ≠ [] := by
  cases l with
  | nil => simp [segs]
  | cons c t =>
    unfold segs
    split
    · simp
    · split <;> simp
theorem segs_end (l : List UInt8) : segs (l ++ [47]) = segs l ++ [[]] := by
  induction l with
  | nil => simp [segs]
  | cons c t ih =>
    simp only [List.cons_append, segs, ih]
    by_cases hc : c = 47
    · simp [hc]
    · simp only [if_neg hc]
      cases h : segs t with
      | nil => exact absurd h (segs_full t)
      | cons s r => simp
theorem segs_len (l : List UInt8) : (segs l).length ≤ l.length + 1 := by
  induction l with
  | nil => simp [segs]
  | cons c t ih =>
    unfold segs
    split
    · simp; omega
    · split
      · simp
      · rename_i h
        rw [h] at ih
        simp at ih ⊢
        omega

def keepP (p : List UInt8) : Bool := !(p == []) && !(p == [46])
/-- The parts of a text. -/
def ptsOf (l : List UInt8) : List (List UInt8) := (segs l).filter keepP
theorem ptsOf_cut {p : List UInt8} (r : List UInt8) (h : 47 ∉ p) : ptsOf (p ++ 47 :: r) = (if keepP p then [p] else []) ++ ptsOf r := by
  unfold ptsOf
  rw [segs_cut p r h, List.filter_cons]
  split <;> simp
theorem ptsOf_none {p : List UInt8} (h : 47 ∉ p) : ptsOf p = (if keepP p then [p] else []) := by
  unfold ptsOf
  rw [segs_none p h, List.filter_cons]
  split <;> simp
theorem ptsOf_end (l : List UInt8) : ptsOf (l ++ [47]) = ptsOf l := by
  unfold ptsOf
  rw [segs_end, List.filter_append]
  simp [keepP]
theorem ptsOf_len (l : List UInt8) : (ptsOf l).length ≤ l.length + 1 := Nat.le_trans (List.length_filter_le _ _) (segs_len l)

/-- The error of a part. -/
def rightErr (p : List UInt8) : Int := if p = [46, 46] then 0 else nameErr p
/-- The error of the first part that is not right. -/
def errOf : List (List UInt8) → Int
  | [] => 0
  | p :: r => if rightErr p = 0 then errOf r else rightErr p
def splitErr (l : List UInt8) : Int := if 1023 < l.length then 7 else if l.head? ≠ some 47 then 110 else errOf (ptsOf l)
def splitAns (l : List UInt8) : List (List UInt8) := if splitErr l = 0 then ptsOf l else []
theorem nameErr_cases (l : List UInt8) : nameErr l = 0 ∨ nameErr l = 7 ∨ nameErr l = 21 := by
  unfold nameErr
  repeat' split
  all_goals simp
theorem errOf_range (l : List (List UInt8)) : 0 ≤ errOf l ∧ errOf l ≤ 21 := by
  induction l with
  | nil => simp [errOf]
  | cons p r ih =>
    unfold errOf
    split
    · exact ih
    · unfold rightErr
      split
      · omega
      · rcases nameErr_cases p with h | h | h <;> omega
theorem errOf_app {a b : List (List UInt8)} (h : errOf a = 0) : errOf (a ++ b) = errOf b := by
  induction a with
  | nil => rfl
  | cons p r ih =>
    unfold errOf at h
    split at h
    · rename_i hp
      simp only [List.cons_append, errOf, if_pos hp, ih h]
    · rename_i hp
      exact absurd h hp
theorem errOf_one {p : List UInt8} (h : rightErr p = 0) : errOf [p] = 0 := by simp [errOf, h]

/-! the letters of a text -/
theorem byte_at (s : ByteArray) {i : Nat} (h : i < s.size) : s.get! i = s[i]'h := by
  simp [ByteArray.get!, getElem!_pos, h]
  rfl
set_option maxHeartbeats 1000000 in
/-- A letter that is no slash: how wide it is, and that no slash lies in it. -/
theorem letter (s : ByteArray) (i : Nat) (h : i < s.size) (h47 : (s.get! i).toNat ≠ 47) :
    (Utf8.decode s i).1 ≠ 47 ∧ 1 ≤ (Utf8.decode s i).2 ∧ i + (Utf8.decode s i).2 ≤ s.size ∧ ∀ j, i ≤ j → j < i + (Utf8.decode s i).2 → (s.get! j).toNat ≠ 47 := by
  rw [Lib.decode_at]
  generalize e0 : (s.get! i).toNat = b0 at *
  generalize e1 : (s.get! (i + 1)).toNat = b1
  generalize e2 : (s.get! (i + 2)).toNat = b2
  generalize e3 : (s.get! (i + 3)).toNat = b3
  generalize hn : s.size - i = n
  have key : ∀ k : Nat, (k ≤ 1 ∨ (b1 / 64 = 2 ∧ (k ≤ 2 ∨ (b2 / 64 = 2 ∧ (k ≤ 3 ∨ (b3 / 64 = 2 ∧ k ≤ 4)))))) → ∀ j, i ≤ j → j < i + k → (s.get! j).toNat ≠ 47 := by
    intro k hk j h1 h2
    have hj : j = i ∨ j = i + 1 ∨ j = i + 2 ∨ j = i + 3 := by omega
    rcases hj with rfl | rfl | rfl | rfl
    · omega
    · omega
    · omega
    · omega
  unfold Lib.decodeN
  repeat' split
  all_goals refine ⟨by simp only; omega, by simp only; omega, by simp only; omega, key _ (by simp only; omega)⟩
theorem slash_letter (s : ByteArray) (i : Nat) (h : i < s.size) (h47 : (s.get! i).toNat = 47) : Utf8.decode s i = (47, 1) := by
  have e := byte_at s h
  rw [e] at h47
  rw [decode_ascii s i h (by omega), h47]
end Go.Proofs.Ytkdjjnkhbmmfeaa
