import Derived.Test.YtodleeipefnadaaSMR
namespace Go.Proofs.Ytodleeipefnadaa

/-- One byte mixed with w. -/
def sxor (s : List Int) (k w : Nat) : List Int := s.set k (((s.getD k 0).toNat ^^^ w : Nat) : Int)
theorem sxor_len (s : List Int) (k w : Nat) : (sxor s k w).length = s.length := by simp [sxor]
theorem byte_xor {x : Int} (hx : 0 ≤ x ∧ x < 256) {w : Nat} (hw : w < 256) : x.toNat ^^^ w < 256 := by
  have : x.toNat ^^^ w < 2 ^ 8 := Nat.xor_lt_two_pow (by omega) (by omega)
  omega
theorem sxor_bytes {s : List Int} (h : Bytes s) (k : Nat) {w : Nat} (hw : w < 256) : Bytes (sxor s k w) := by
  intro x hx
  rcases List.mem_or_eq_of_mem_set hx with h1 | h1
  · exact h x h1
  · subst h1
    have := byte_xor (h.getD k) hw
    omega
theorem sxor_zero {s : List Int} (h : Bytes s) (k : Nat) (hk : k < s.length) : sxor s k 0 = s := by
  have hb := h.getD k
  unfold sxor
  rw [Nat.xor_zero, Int.toNat_of_nonneg hb.1]
  have : s.getD k 0 = s[k] := by simp [List.getD, hk]
  rw [this]; exact List.set_getElem_self hk
theorem cwl_xor {s : List Int} (hs : s.length = 512) (h : Bytes s) (k w : Nat) (h1 : 1 ≤ k) (h2 : k ≤ 510) (hw : w < 256) : le (cwl (sxor s k w)) = le (cwl s) ^^^ 2 ^ (8 * phi k) * w := by
  have hf := phi_lt h1 h2
  have hb := byte_xor (h.getD k) hw
  unfold sxor
  rw [cwl_set hs _ h1 h2, le_set (cwl_bytes h) _ _ (by omega) (by rw [cwl_len]; exact hf)]
  have e : (cwl s).getD (phi k) 0 = s.getD k 0 := by
    have e2 : psi (phi k) = k := by unfold psi phi; repeat (first | omega | split)
    rw [List.getD, cwl, List.getElem?_map, List.getElem?_range hf]
    show s.getD (psi (phi k)) 0 = _
    rw [e2]
  rw [e, Int.toNat_natCast, ← Nat.xor_assoc, Nat.xor_self, Nat.zero_xor]
/-- Four neighbouring bytes mixed. -/
def sburst (s : List Int) (k w0 w1 w2 w3 : Nat) : List Int := sxor (sxor (sxor (sxor s k w0) (k + 1) w1) (k + 2) w2) (k + 3) w3
theorem burst {s body : List Int} (h : sopen s = some body) (hs : s.length = 512) (hb : Bytes s) {k w0 w1 w2 w3 : Nat} (h0 : w0 < 256) (h1 : w1 < 256) (h2 : w2 < 256) (h3 : w3 < 256) (k1 : 7 ≤ k) (k2 : k ≤ 507) :
    sopen (sburst s k w0 w1 w2 w3) = none ∨ sburst s k w0 w1 w2 w3 = s := by
  by_cases hw : w0 = 0 ∧ w1 = 0 ∧ w2 = 0 ∧ w3 = 0
  · obtain ⟨rfl, rfl, rfl, rfl⟩ := hw
    right
    unfold sburst
    rw [sxor_zero hb _ (by omega), sxor_zero hb _ (by omega), sxor_zero hb _ (by omega), sxor_zero hb _ (by omega)]
  · left
    refine none_of fun b' h' => hw ?_
    have b1 := sxor_bytes hb k h0
    have b2 := sxor_bytes b1 (k + 1) h1
    have b3 := sxor_bytes b2 (k + 2) h2
    have b4 := sxor_bytes b3 (k + 3) h3
    have l1 := (sxor_len s k w0).trans hs
    have l2 := (sxor_len _ (k + 1) w1).trans l1
    have l3 := (sxor_len _ (k + 2) w2).trans l2
    have l4 := (sxor_len _ (k + 3) w3).trans l3
    have hz := sopen_two h hs hb h' l4 b4
    unfold sburst at hz
    rw [cwl_xor l3 b3 _ _ (by omega) (by omega) h3, cwl_xor l2 b2 _ _ (by omega) (by omega) h2, cwl_xor l1 b1 _ _ (by omega) (by omega) h1, cwl_xor hs hb _ _ (by omega) (by omega) h0] at hz
    have f0 : phi k = k - 5 := by unfold phi; repeat (first | omega | split)
    have f1 : phi (k + 1) = k - 5 + 1 := by unfold phi; repeat (first | omega | split)
    have f2 : phi (k + 2) = k - 5 + 2 := by unfold phi; repeat (first | omega | split)
    have f3 : phi (k + 3) = k - 5 + 3 := by unfold phi; repeat (first | omega | split)
    rw [f0, f1, f2, f3] at hz
    have hm : ∀ j a : Nat, 2 ^ (8 * (k - 5 + j)) * a = 2 ^ (8 * (k - 5)) * (2 ^ (8 * j) * a) := fun j a => by
      rw [← Nat.mul_assoc, ← Nat.pow_add, Nat.mul_add]
    rw [hm 1, hm 2, hm 3] at hz
    simp only [← Nat.xor_assoc, Nat.xor_self, Nat.zero_xor] at hz
    rw [← mul_xor, ← mul_xor, ← mul_xor] at hz
    rw [show 4080 = 8 * (k - 5) + (4080 - 8 * (k - 5)) by omega, cbs_add, cbs_pow] at hz
    have e : w0 ^^^ 2 ^ (8 * 1) * w1 ^^^ 2 ^ (8 * 2) * w2 ^^^ 2 ^ (8 * 3) * w3 = w0 + 256 * w1 + 65536 * w2 + 16777216 * w3 := by
      rw [← add_xor (8 * 1) w1 w0 (by omega), ← add_xor (8 * 2) w2 _ (by omega), ← add_xor (8 * 3) w3 _ (by omega)]
    rw [e] at hz
    have := cbs_none _ (by omega) hz
    omega

theorem ends_none {m : List Int} (hm : m.length = 512) (h : m.getD 0 0 ≠ m.getD 511 0) : sopen m = none :=
  none_of fun _ h' => h (sopen_ends h' hm).symm
/-- What a torn write leaves. -/
def smix (a b : List Int) (c : Nat) : List Int := a.take c ++ b.drop c
theorem smix_len {a b : List Int} (ha : a.length = 512) (hb : b.length = 512) {c : Nat} (hc : c ≤ 512) : (smix a b c).length = 512 := by simp [smix]; omega
theorem smix_bytes {a b : List Int} (ha : Bytes a) (hb : Bytes b) (c : Nat) : Bytes (smix a b c) := (ha.take c).append (hb.drop c)
theorem smix_first {a b : List Int} (ha : a.length = 512) {c : Nat} (h0 : 0 < c) : (smix a b c).getD 0 0 = a.getD 0 0 := by
  rw [smix, List.getD, List.getElem?_append_left (by simp; omega), List.getElem?_take, if_pos h0]; rfl
theorem smix_last {a b : List Int} (ha : a.length = 512) {c : Nat} (h1 : c < 512) : (smix a b c).getD 511 0 = b.getD 511 0 := by
  rw [smix, List.getD, List.getElem?_append_right (by simp; omega), List.getElem?_drop]
  simp only [List.length_take, ha, List.getD]
  rw [show c + (511 - min c 512) = 511 by omega]
theorem smix_zero (a b : List Int) : smix a b 0 = b := by simp [smix]
theorem smix_all {a b : List Int} (ha : a.length = 512) (hb : b.length = 512) : smix a b 512 = a := by
  simp [smix, List.take_of_length_le (Nat.le_of_eq ha), List.drop_eq_nil_of_le (Nat.le_of_eq hb)]
theorem torn {o : List Int} (ho : o.length = 512) {t : Int} (h0 : t ≠ o.getD 0 0) (h1 : t ≠ o.getD 511 0) {body : List Int} (hl : body.length ≤ 504) {c : Nat} (hc : c ≤ 512) :
    (smix o (sform t body) c = o ∨ smix o (sform t body) c = sform t body ∨ sopen (smix o (sform t body) c) = none) ∧
    (smix (sform t body) o c = o ∨ smix (sform t body) o c = sform t body ∨ sopen (smix (sform t body) o c) = none) := by
  have hf := sform_len (t := t) hl
  by_cases c0 : c = 0
  · subst c0; exact ⟨.inr (.inl (smix_zero _ _)), .inl (smix_zero _ _)⟩
  · by_cases c1 : c = 512
    · subst c1; exact ⟨.inl (smix_all ho hf), .inr (.inl (smix_all hf ho))⟩
    · refine ⟨.inr (.inr (ends_none (smix_len ho hf hc) ?_)), .inr (.inr (ends_none (smix_len hf ho hc) ?_))⟩
      · rw [smix_first ho (by omega), smix_last ho (by omega), sform_last t body hl]; exact fun h => h0 h.symm
      · rw [smix_first hf (by omega), smix_last hf (by omega), sform_first]; exact h1

theorem bytes8_eq (n : Nat) : bytes8 n = [((n % 256 : Nat) : Int), ((n / 256 % 256 : Nat) : Int), ((n / 65536 % 256 : Nat) : Int), ((n / 16777216 % 256 : Nat) : Int), ((n / 4294967296 % 256 : Nat) : Int), ((n / 1099511627776 % 256 : Nat) : Int), ((n / 281474976710656 % 256 : Nat) : Int), ((n / 72057594037927936 % 256 : Nat) : Int)] := by
  simp [bytes8, List.range, List.range.loop]
theorem bytes8_len (n : Nat) : (bytes8 n).length = 8 := by simp [bytes8]
theorem bytes8_bytes (n : Nat) : Bytes (bytes8 n) := by
  intro x hx
  obtain ⟨j, _, rfl⟩ := List.mem_map.1 hx
  omega
theorem le_bytes8 {n : Nat} (h : n < 18446744073709551616) : le (bytes8 n) = n := by
  rw [bytes8_eq]
  simp only [le, Int.toNat_natCast]
  omega
theorem sanchor_form {t : Int} (ht : t ≤ 2) {n : Nat} (hn : n < 9223372036854775808) {data : List Int} (hd : data.length ≤ 496) : sanchor (sform t (bytes8 n ++ data)) = (n, data) := by
  have h8 := bytes8_len n
  unfold sanchor
  rw [sopen_form _ _ (by simp [h8]; omega) ht]
  simp only [List.take_left' h8, List.drop_left' h8, le_bytes8 (show n < 18446744073709551616 by omega)]
  rw [if_pos ⟨by simp [h8], hn⟩]
theorem sanchor_none {s : List Int} (h : sopen s = none) : sanchor s = (0, []) := by simp [sanchor, h]

/-- The pair with s in that slot. -/
def sput (l r : List Int) (slot : Nat) (s : List Int) : List Int × List Int := if slot = 0 then (s, r) else (l, s)
theorem pair_new {l r data : List Int} (hl : l.length = 512) (hr : r.length = 512) {n : Nat} (hn : n < 9223372036854775808) (h1 : 1 ≤ n) (hd : data.length ≤ 496) (hgt : (snewest l r).2.1 < n) {t : Int} (ht : t ≤ 2) (slot : Nat)
    (hs : slot = if (snewest l r).2.2.2 = 0 ∧ (snewest l r).1 = 0 then 1 else 0) :
    snewest (sput l r slot (sform t (bytes8 n ++ data))).1 (sput l r slot (sform t (bytes8 n ++ data))).2 = (slot, n, data, 0) := by
  have ha := sanchor_form ht hn hd
  have hf : (sform t (bytes8 n ++ data)).length = 512 := sform_len (by simp [bytes8_len]; omega)
  generalize sform t (bytes8 n ++ data) = s at *
  have e : snewest l r = if (sanchor l).1 = 0 ∧ (sanchor r).1 = 0 then (0, 0, [], 30) else if (sanchor l).1 < (sanchor r).1 then (1, (sanchor r).1, (sanchor r).2, 0) else (0, (sanchor l).1, (sanchor l).2, 0) := by
    unfold snewest; rw [if_neg (by omega)]
  rw [e] at hs hgt
  by_cases z : (sanchor l).1 = 0 ∧ (sanchor r).1 = 0
  · rw [if_pos z] at hs hgt
    have : slot = 0 := by rw [hs]; rfl
    subst this
    simp only [sput, if_true, snewest]
    rw [if_neg (by omega), ha, if_neg (by simp; omega), if_neg (by simp; omega)]
  · rw [if_neg z] at hs hgt
    by_cases q : (sanchor l).1 < (sanchor r).1
    · rw [if_pos q] at hs hgt
      have : slot = 0 := by rw [hs]; rfl
      subst this
      simp only [sput, if_true, snewest]
      rw [if_neg (by omega), ha, if_neg (by simp; omega), if_neg (by simp at hgt ⊢; omega)]
    · rw [if_neg q] at hs hgt
      have : slot = 1 := by rw [hs]; rfl
      subst this
      have h10 : ¬ (1 : Nat) = 0 := by omega
      simp only [sput, if_neg h10, snewest]
      rw [if_neg (by omega), ha, if_neg (by simp; omega), if_pos (by simp at hgt ⊢; omega)]
theorem pair_old {l r m : List Int} (hl : l.length = 512) (hr : r.length = 512) (hm : m.length = 512) (hnone : sanchor m = (0, [])) (slot : Nat)
    (hs : slot = if (snewest l r).2.2.2 = 0 ∧ (snewest l r).1 = 0 then 1 else 0) : snewest (sput l r slot m).1 (sput l r slot m).2 = snewest l r := by
  have e : snewest l r = if (sanchor l).1 = 0 ∧ (sanchor r).1 = 0 then (0, 0, [], 30) else if (sanchor l).1 < (sanchor r).1 then (1, (sanchor r).1, (sanchor r).2, 0) else (0, (sanchor l).1, (sanchor l).2, 0) := by
    unfold snewest; rw [if_neg (by omega)]
  rw [e] at hs
  rw [e]
  by_cases z : (sanchor l).1 = 0 ∧ (sanchor r).1 = 0
  · rw [if_pos z] at hs ⊢
    have : slot = 0 := by rw [hs]; rfl
    subst this
    simp only [sput, if_true, snewest]
    rw [if_neg (by omega), hnone, if_pos ⟨rfl, z.2⟩]
  · rw [if_neg z] at hs ⊢
    by_cases q : (sanchor l).1 < (sanchor r).1
    · rw [if_pos q] at hs ⊢
      have : slot = 0 := by rw [hs]; rfl
      subst this
      simp only [sput, if_true, snewest]
      rw [if_neg (by omega), hnone, if_neg (by simp; omega), if_pos (by simp; omega)]
    · rw [if_neg q] at hs ⊢
      have : slot = 1 := by rw [hs]; rfl
      subst this
      have h10 : ¬ (1 : Nat) = 0 := by omega
      simp only [sput, if_neg h10, snewest]
      rw [if_neg (by omega), hnone, if_neg (by simp; omega), if_neg (by simp)]
end Go.Proofs.Ytodleeipefnadaa
