import Derived.Test.YtkkmkogpbhcpmaaKDecS
namespace Go.Proofs.Ytkkmkogpbhcpmaa

theorem leb_le : ∀ {xs : List Int}, Bytes xs → leb xs.length (le xs) = xs
  | [], _ => rfl
  | x :: t, h => by
    have h1 := h x (by simp)
    have ih := leb_le (xs := t) (fun y hy => h y (by simp [hy]))
    rw [List.length_cons, leb, le]
    have e1 : (x.toNat + 256 * le t) / 256 = le t := by omega
    have e2 : (((x.toNat + 256 * le t) % 256 : Nat) : Int) = x := by omega
    rw [e1, e2, ih]
theorem le_leb : ∀ (k m : Nat), m < 256 ^ k → le (leb k m) = m
  | 0, m, h => by simp at h; simp [leb, le, h]
  | k + 1, m, h => by
    have h2 : m / 256 < 256 ^ k := by rw [Nat.pow_succ] at h; exact Nat.div_lt_of_lt_mul (by rw [Nat.mul_comm]; exact h)
    rw [leb, le, le_leb k _ h2]
    omega
theorem zeros_rep {l : List Int} (h : ∀ x ∈ l, x = 0) : l = List.replicate l.length 0 := List.eq_replicate_iff.2 ⟨rfl, h⟩
theorem part_take {l : List Int} {a q m : Nat} (h : q + m ≤ a) : part (part l 0 a) q m = part l q m := by
  unfold part
  rw [List.drop_zero, List.drop_take, List.take_take]
  congr 1
  omega
theorem part_split (l : List Int) (q m k : Nat) : part l q (m + k) = part l q m ++ part l (q + m) k := by
  unfold part
  rw [List.take_add, List.drop_drop]
theorem part_all (l : List Int) : part l 0 l.length = l := by simp [part]
theorem part_app (A B : List Int) (q m : Nat) (h : q = A.length) : part (A ++ B) q m = B.take m := by
  subst h
  simp [part]
theorem part_appl (A B : List Int) (q m : Nat) (h : q + m ≤ A.length) : part (A ++ B) q m = part A q m := by
  unfold part
  rw [List.drop_append_of_le_length (by omega), List.take_append_of_le_length (by simp; omega)]
theorem leb_part {l : List Int} (hb : Bytes l) {q : Nat} (hq : q + 4 ≤ l.length) : leb 4 (u32 l q) = part l q 4 := by
  have := leb_le (part_bytes hb q 4)
  rw [part_len hq] at this
  exact this

/-- The document's way to say that a sector is a superblock. -/
def SuperRef (l : List Int) : Prop := Geo (u32 l 8) (u32 l 12) (u32 l 16) ∧ sealed (supBody (u32 l 8) (u32 l 12) (u32 l 16)) = l

theorem super_iff {l : List Int} (hb : Bytes l) (hl : l.length = 512) : (SumOk l ∧ SupOk (part l 0 508)) ↔ SuperRef l := by
  have u1 : u32 (part l 0 508) 8 = u32 l 8 := by unfold u32; rw [part_take (by omega)]
  have u2 : u32 (part l 0 508) 12 = u32 l 12 := by unfold u32; rw [part_take (by omega)]
  have u3 : u32 (part l 0 508) 16 = u32 l 16 := by unfold u32; rw [part_take (by omega)]
  have hbody : part l 0 508 = part l 0 8 ++ part l 8 4 ++ part l 12 4 ++ part l 16 4 ++ part l 20 488 := by
    rw [show (508 : Nat) = 8 + 4 + 4 + 4 + 488 from rfl, part_split, part_split, part_split, part_split]
  have hwhole : l = part l 0 508 ++ part l 508 4 := by
    have := part_split l 0 508 4
    rw [show 508 + 4 = l.length by omega, part_all] at this
    exact this
  constructor
  · rintro ⟨hs, hh, hz, hg⟩
    rw [u1, u2, u3] at hg
    rw [part_take (by omega)] at hh hz
    refine ⟨hg, ?_⟩
    have e : supBody (u32 l 8) (u32 l 12) (u32 l 16) = part l 0 508 := by
      rw [hbody, hh, ← leb_part hb (q := 8) (by omega), ← leb_part hb (q := 12) (by omega), ← leb_part hb (q := 16) (by omega)]
      have := zeros_rep hz
      rw [part_len (by omega)] at this
      rw [this]
      rfl
    unfold sealed
    rw [e]
    unfold SumOk at hs
    rw [hl] at hs
    have h4 := leb_part hb (q := 508) (by omega)
    have h5 : u32 l 508 = sumOf (part l 0 508) := hs
    rw [← h5, h4]
    exact hwhole.symm
  · rintro ⟨hg, he⟩
    have hlen := supBody_len (u32 l 8) (u32 l 12) (u32 l 16)
    have hb508 : part l 0 508 = supBody (u32 l 8) (u32 l 12) (u32 l 16) := by
      conv => lhs; rw [← he]
      unfold sealed
      rw [part_appl _ _ _ _ (by omega)]
      have := part_all (supBody (u32 l 8) (u32 l 12) (u32 l 16))
      rw [hlen] at this
      exact this
    have hsum : part l 508 4 = leb 4 (sumOf (supBody (u32 l 8) (u32 l 12) (u32 l 16))) := by
      conv => lhs; rw [← he]
      unfold sealed
      rw [part_app _ _ _ _ hlen.symm, List.take_of_length_le (by rw [leb_len]; omega)]
    refine ⟨?_, ?_, ?_, ?_⟩
    · unfold SumOk
      rw [hl]
      show le (part l 508 4) = sumOf (part l 0 508)
      rw [hsum, hb508, le_leb _ _ (by have := sumOf_lt (supBody_bytes (u32 l 8) (u32 l 12) (u32 l 16)); omega)]
    · rw [hb508]
      unfold supBody
      rw [List.append_assoc, List.append_assoc, List.append_assoc, part_appl _ _ _ _ (by decide)]
      rfl
    · rw [hb508]
      unfold supBody
      have h20 : (headL ++ leb 4 (u32 l 8) ++ leb 4 (u32 l 12) ++ leb 4 (u32 l 16)).length = 20 := by rw [List.length_append, List.length_append, List.length_append, leb_len, leb_len, leb_len]; rfl
      rw [part_app _ _ _ _ h20.symm]
      intro x hx
      exact List.eq_of_mem_replicate (List.mem_of_mem_take hx)
    · rw [u1, u2, u3]
      exact hg
end Go.Proofs.Ytkkmkogpbhcpmaa
