import Derived.Test.YtkkmkogpbhcpmabKBk3
namespace Go.Proofs.Ytkkmkogpbhcpmab
open Go.RowKit

theorem xor_swap (a b c : Nat) : a ^^^ b ^^^ c = a ^^^ c ^^^ b := by rw [Nat.xor_assoc, Nat.xor_comm b c, ← Nat.xor_assoc]
theorem mul_xor (n a b : Nat) : 2 ^ n * (a ^^^ b) = 2 ^ n * a ^^^ 2 ^ n * b := by
  have := Nat.shiftLeft_xor_distrib (a := a) (b := b) (i := n)
  simpa [Nat.shiftLeft_eq, Nat.mul_comm] using this
theorem le_set {l : List Int} (h : Bytes l) (i : Nat) (x : Int) (hx : 0 ≤ x ∧ x < 256) (hi : i < l.length) :
    le (l.set i x) = le l ^^^ 2 ^ (8 * i) * ((l.getD i 0).toNat ^^^ x.toNat) := by
  induction l generalizing i with
  | nil => simp at hi
  | cons y t ih =>
    have hy := h y (by simp)
    have ht : Bytes t := fun z hz => h z (by simp [hz])
    have e : ∀ (z : Int) (u : List Int), (0 ≤ z ∧ z < 256) → le (z :: u) = z.toNat ^^^ 2 ^ 8 * le u := fun z u hz => by
      have := le_xappend (a := [z]) u (fun q hq => by simp at hq; subst hq; exact hz)
      simpa [le] using this
    cases i with
    | zero =>
      rw [List.set_cons_zero, e x t hx, e y t hy]
      simp only [Nat.mul_zero, Nat.pow_zero, Nat.one_mul]
      show x.toNat ^^^ 2 ^ 8 * le t = y.toNat ^^^ 2 ^ 8 * le t ^^^ (y.toNat ^^^ x.toNat)
      rw [xor_swap, ← Nat.xor_assoc y.toNat, Nat.xor_self, Nat.zero_xor]
    | succ i =>
      rw [List.set_cons_succ, e y _ hy, e y t hy, ih ht i (by simpa using hi), mul_xor, ← Nat.mul_assoc, ← Nat.pow_add, ← Nat.xor_assoc]
      have : (y :: t).getD (i + 1) 0 = t.getD i 0 := rfl
      rw [this, show 8 + 8 * i = 8 * (i + 1) by omega]
theorem byte_flip {x : Int} (hx : 0 ≤ x ∧ x < 256) (k : Nat) (hk : k < 8) : x.toNat ^^^ 2 ^ k < 256 := by
  have h1 : 2 ^ k ≤ 2 ^ 7 := Nat.pow_le_pow_right (by omega) (by omega)
  have : x.toNat ^^^ 2 ^ k < 2 ^ 8 := Nat.xor_lt_two_pow (by omega) (by omega)
  omega
/-- One bit is turned over. -/
theorem le_flip {l : List Int} (h : Bytes l) (i : Nat) (hi : i / 8 < l.length) : le (l.set (i / 8) ((((l.getD (i / 8) 0).toNat ^^^ 2 ^ (i % 8) : Nat)) : Int)) = le l ^^^ 2 ^ i := by
  have hx : 0 ≤ l.getD (i / 8) 0 ∧ l.getD (i / 8) 0 < 256 := by
    have := h l[i / 8] (List.getElem_mem hi)
    simpa [List.getD, hi] using this
  have hb := byte_flip hx (i % 8) (by omega)
  rw [le_set h (i / 8) _ ⟨by omega, by omega⟩ hi, Int.toNat_natCast, ← Nat.xor_assoc, Nat.xor_self, Nat.zero_xor, ← Nat.pow_add, show 8 * (i / 8) + i % 8 = i by omega]
/-- The word of bytes with their sum. -/
theorem sum_word {l : List Int} (hb : Bytes l) (hl : 4 ≤ l.length) : SumOk l ↔ cbs (8 * l.length) (4294967295 ^^^ le l) = cbs 32 4294967295 := by
  have hsp : l = part l 0 (l.length - 4) ++ part l (l.length - 4) 4 := by
    have := part_split l 0 (l.length - 4) 4
    rw [show l.length - 4 + 4 = l.length by omega, part_all, Nat.zero_add] at this
    exact this
  have hA := part_bytes hb 0 (l.length - 4)
  have hB := part_bytes hb (l.length - 4) 4
  have hBl := part_len (l := l) (k := l.length - 4) (m := 4) (by omega)
  have h1 : crc 4294967295 l = cbs 32 (crc 4294967295 (part l 0 (l.length - 4)) ^^^ le (part l (l.length - 4) 4)) := by
    conv => lhs; rw [hsp]
    rw [crc_append _ _ hA]
    show cbs (8 * (part l (l.length - 4) 4).length) _ = _
    rw [hBl]
  have hc : crc 4294967295 (part l 0 (l.length - 4)) < 4294967296 := crc_lt (by omega) hA
  have hle : le (part l (l.length - 4) 4) < 4294967296 := by
    have := le_lt hB
    rw [hBl] at this
    exact this
  show le (part l (l.length - 4) 4) = crc 4294967295 (part l 0 (l.length - 4)) ^^^ 4294967295 ↔ crc 4294967295 l = cbs 32 4294967295
  rw [h1]
  generalize crc 4294967295 (part l 0 (l.length - 4)) = c at *
  generalize le (part l (l.length - 4) 4) = s at *
  constructor
  · intro h
    rw [h, ← Nat.xor_assoc, Nat.xor_self, Nat.zero_xor]
  · intro h
    have hx : c ^^^ s < 4294967296 := Nat.xor_lt_two_pow (n := 32) hc hle
    have := cbs_inj 32 hx (by omega) h
    rw [← this, ← Nat.xor_assoc, Nat.xor_self, Nat.zero_xor]
/-- A burst is told. -/
theorem burst_told {l t : List Int} {at_ p : Nat} (hb : Bytes l) (ht : Bytes t) (hl : 4 ≤ l.length) (e : t.length = l.length) (ha : at_ ≤ 8 * l.length) (hp : p < 4294967296) (hx : le t = le l ^^^ 2 ^ at_ * p) (h1 : SumOk l) (h2 : SumOk t) : p = 0 := by
  have w1 := (sum_word hb hl).1 h1
  have w2 := (sum_word ht (by omega)).1 h2
  rw [e, hx, ← Nat.xor_assoc, cbs_xor, w1] at w2
  have w3 : cbs (8 * l.length) (2 ^ at_ * p) = 0 := by
    have := congrArg (fun z => cbs 32 4294967295 ^^^ z) w2
    simpa [← Nat.xor_assoc] using this
  obtain ⟨r, hr⟩ : ∃ r, 8 * l.length = at_ + r := ⟨8 * l.length - at_, by omega⟩
  rw [hr, cbs_add, cbs_pow] at w3
  exact cbs_none r hp w3
theorem le_zero {l : List Int} (hb : Bytes l) (h : le l = 0) : Zeros l := by
  induction l with
  | nil => intro x hx; cases hx
  | cons y t ih =>
    have hy := hb y (by simp)
    simp only [le] at h
    have ht : Bytes t := fun z hz => hb z (by simp [hz])
    intro x hx
    rcases List.mem_cons.1 hx with hx | hx
    · rw [hx]; omega
    · exact ih ht (by omega) x hx
theorem far_check : ∀ k : Fin 4, ∀ l : Fin 65, ∀ p : Fin 2, cb (4294967295 ^^^ (k.val + 65536 * l.val + 4294967296 * p.val)) ≠ 2794227271 := by decide +kernel
theorem far_word : cbs 1023 2794227271 = cbs 32 4294967295 := by decide +kernel
theorem cb_lt33 {r : Nat} (h : r < 8589934592) : cb r < 4294967296 := by
  unfold cb
  exact Nat.xor_lt_two_pow (n := 32) (by omega) (by split <;> omega)
theorem le_parts (l : List Int) (m : Nat) (h : m ≤ l.length) : le l = le (part l 0 m) + 2 ^ (8 * m) * le (part l m (l.length - m)) := by
  have := part_split l 0 m (l.length - m)
  rw [show m + (l.length - m) = l.length by omega, part_all, Nat.zero_add] at this
  conv => lhs; rw [this]
  rw [le_append, part_len (by omega)]
/-- No right node's bits lie within 32 in a row. -/
theorem node_far {l : List Int} {at_ p : Nat} (hb : Bytes l) (hl : l.length = 128) (h : NodeOk l) (hp : p < 4294967296) (hx : le l = 2 ^ at_ * p) : False := by
  obtain ⟨hs, hn⟩ := h
  have hf := hn.fits
  have hz := hn.z1
  have k1 : u8 (part l 0 124) 0 = u8 l 0 := by unfold u8; rw [part_low' (by omega)]
  have k2 : u16 (part l 0 124) 2 = u16 l 2 := by unfold u16; rw [part_low' (by omega)]
  have k3 : part (part l 0 124) 1 1 = part l 1 1 := part_low' (by omega)
  rw [k1, k2] at hf
  rw [k3] at hz
  have e0 := le_parts l 4 (by omega)
  have e1 : le (part l 0 4) = u8 l 0 + 65536 * u16 l 2 := by
    have s1 := part_split l 0 2 2
    have s2 := part_split l 0 1 1
    rw [s1, le_append, s2, le_append, part_len (by omega)]
    have hz0 : le (part l (0 + 1) 1) = 0 := le_zeros hz
    have hl2 : (part l 0 1 ++ part l (0 + 1) 1).length = 2 := by rw [← s2, part_len (by omega)]
    rw [hl2, hz0]
    show u8 l 0 + _ + 2 ^ 16 * u16 l 2 = _
    omega
  have hk1 := hf.1.1
  have hk2 := hf.1.2
  have hl1 := hf.2.1.2
  have hat : at_ ≤ 1 := by
    rcases Nat.lt_or_ge at_ 2 with h | h
    · omega
    · exfalso
      obtain ⟨r, rfl⟩ : ∃ r, at_ = 2 + r := ⟨at_ - 2, by omega⟩
      rw [Nat.pow_add, Nat.mul_assoc] at hx
      omega
  have hlt : le l < 8589934592 := by
    rw [hx]
    have h1 : 2 ^ at_ ≤ 2 := by
      have := Nat.pow_le_pow_right (show 0 < 2 by omega) hat
      simpa using this
    have := Nat.mul_le_mul h1 (Nat.le_of_lt_succ (show p < 4294967295 + 1 by omega))
    omega
  obtain ⟨r, hr⟩ : ∃ r, r = le (part l 4 (l.length - 4)) := ⟨_, rfl⟩
  rw [← hr, e1, show (2 : Nat) ^ (8 * 4) = 4294967296 from rfl] at e0
  have hr1 : r < 2 := by omega
  have hw := (sum_word hb (by omega)).1 hs
  rw [hl, show 8 * 128 = 1 + 1023 from rfl, cbs_add, ← far_word] at hw
  have hc : cbs 1 (4294967295 ^^^ le l) = cb (4294967295 ^^^ le l) := rfl
  rw [hc] at hw
  have hb33 : 4294967295 ^^^ le l < 8589934592 := Nat.xor_lt_two_pow (n := 33) (by omega) hlt
  have := cbs_inj 1023 (cb_lt33 hb33) (by omega) hw
  rw [e0] at this
  exact far_check ⟨u8 l 0, by omega⟩ ⟨u16 l 2, by omega⟩ ⟨r, hr1⟩ this
theorem part_cons' {l : List Int} {q m : Nat} (h : q < l.length) (hm : 0 < m) : part l q m = l.getD q 0 :: part l (q + 1) (m - 1) := by
  obtain ⟨k, rfl⟩ : ∃ k, m = k + 1 := ⟨m - 1, by omega⟩
  unfold part
  rw [List.drop_eq_getElem_cons h, List.take_succ_cons]
  simp [List.getD, h]
/-- No right entry's bits do. -/
theorem ent_far {l : List Int} {at_ p : Nat} (hb : Bytes l) (hl : l.length = 64) (h : EntryOk l) (hp : p < 4294967296) (hx : le l = 2 ^ at_ * p) : False := by
  obtain ⟨h54, hf, _⟩ := (ent_iff hb hl).1 h
  have hn1 := hf.1.1
  have hn2 := hf.1.2
  obtain ⟨hs0, _⟩ := name_ok hf.2.2
  have hsz := nm_size hb hl h54
  have e0 := le_parts l 4 (by omega)
  have e0' : le (part l 0 4) = u32 l 0 := rfl
  rw [e0', show (2 : Nat) ^ (8 * 4) = 4294967296 from rfl] at e0
  have h6 : l.getD 6 0 ≠ 0 := by
    intro h0
    have hm : (0 : UInt8) ∈ (nm l).data.toList := by
      unfold nm strOfNums
      rw [part_cons' (by omega) (by omega), h0]
      simp
    have hne : nameErr (nm l).data.toList = 0 := hf.2.2
    unfold nameErr at hne
    split at hne
    · omega
    · split at hne
      · omega
      · rw [if_pos (.inr hm)] at hne
        omega
  have e6 := le_parts l 6 (by omega)
  have hpos : 1 ≤ le (part l 6 (l.length - 6)) := by
    have hbb := part_bytes hb 6 (l.length - 6)
    rcases Nat.eq_zero_or_pos (le (part l 6 (l.length - 6))) with h0 | h0
    · exfalso
      have hz := le_zero hbb h0
      have : (part l 6 (l.length - 6)).getD 0 0 = l.getD (6 + 0) 0 := part_at (by omega)
      apply h6
      rw [show 6 = 6 + 0 from rfl, ← this]
      have hlen := part_len (l := l) (k := 6) (m := l.length - 6) (by omega)
      exact hz _ (by
        have : 0 < (part l 6 (l.length - 6)).length := by omega
        simp [List.getD, this])
    · exact h0
  have hbig : 281474976710656 ≤ le l := by
    rw [e6, show (2 : Nat) ^ (8 * 6) = 281474976710656 from rfl]
    omega
  have hat : 17 ≤ at_ := by
    rcases Nat.lt_or_ge at_ 17 with h | h
    · exfalso
      have h1 : 2 ^ at_ ≤ 2 ^ 16 := Nat.pow_le_pow_right (by omega) (by omega)
      have := Nat.mul_le_mul h1 (Nat.le_of_lt_succ (show p < 4294967295 + 1 by omega))
      rw [← hx] at this
      omega
    · exact h
  obtain ⟨r, rfl⟩ : ∃ r, at_ = 17 + r := ⟨at_ - 17, by omega⟩
  rw [Nat.pow_add, Nat.mul_assoc] at hx
  omega
end Go.Proofs.Ytkkmkogpbhcpmab
