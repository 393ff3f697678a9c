import Derived.Laws.BitsAllLaws
namespace Go.Proofs.Ytkdjjnkhbmmfeaa

/-- One bit of the checksum's register. -/
def cb (r : Nat) : Nat := r / 2 ^^^ (if r % 2 = 1 then 2197175160 else 0)
/-- Many bits. -/
def cbs : Nat → Nat → Nat
  | 0, r => r
  | n + 1, r => cbs n (cb r)
/-- A list of bytes as one number, the lowest byte first. -/
def le : List Int → Nat
  | [] => 0
  | x :: t => x.toNat + 256 * le t
/-- The list holds bytes. -/
def Bytes (l : List Int) : Prop := ∀ x ∈ l, 0 ≤ x ∧ x < 256

theorem cb_xor (a b : Nat) : cb (a ^^^ b) = cb a ^^^ cb b := by
  unfold cb
  have h : (a ^^^ b) % 2 = (a + b) % 2 := by
    have e := Nat.testBit_xor a b 0
    simp only [Nat.testBit_zero] at e
    rcases Nat.mod_two_eq_zero_or_one a with ha | ha <;> rcases Nat.mod_two_eq_zero_or_one b with hb | hb <;> rcases Nat.mod_two_eq_zero_or_one (a ^^^ b) with hc | hc <;> rw [ha, hb, hc] at e <;> first | omega | exact absurd e (by decide)
  have hd : (a ^^^ b) / 2 = a / 2 ^^^ b / 2 := Nat.xor_div_two
  rw [hd]
  rcases Nat.mod_two_eq_zero_or_one a with ha | ha <;> rcases Nat.mod_two_eq_zero_or_one b with hb | hb
  · have : (a ^^^ b) % 2 = 0 := by omega
    simp [ha, hb, this]
  · have : (a ^^^ b) % 2 = 1 := by omega
    simp [ha, hb, this, Nat.xor_assoc]
  · have : (a ^^^ b) % 2 = 1 := by omega
    simp only [ha, hb, this, if_true]
    rw [Nat.xor_assoc, Nat.xor_assoc, Nat.xor_comm (b / 2)]
    simp
  · have : (a ^^^ b) % 2 = 0 := by omega
    simp only [ha, hb, this, if_true]
    rw [Nat.xor_assoc, Nat.xor_assoc, ← Nat.xor_assoc (2197175160) (b / 2), Nat.xor_comm 2197175160 (b / 2), Nat.xor_assoc (b / 2), Nat.xor_self]
    simp
theorem cbs_xor (n a b : Nat) : cbs n (a ^^^ b) = cbs n a ^^^ cbs n b := by
  induction n generalizing a b with
  | zero => rfl
  | succ n ih => simp only [cbs, cb_xor, ih]
theorem cb_lt {r : Nat} (h : r < 4294967296) : cb r < 4294967296 := by
  unfold cb
  have : r / 2 ^^^ (if r % 2 = 1 then 2197175160 else 0) < 2 ^ 32 := Nat.xor_lt_two_pow (by omega) (by split <;> omega)
  omega
theorem cbs_lt (n : Nat) {r : Nat} (h : r < 4294967296) : cbs n r < 4294967296 := by
  induction n generalizing r with
  | zero => exact h
  | succ n ih => exact ih (cb_lt h)
theorem cbs_zero (n : Nat) : cbs n 0 = 0 := by
  induction n with
  | zero => rfl
  | succ n ih => simpa [cbs, cb] using ih
theorem cbs_add (n m r : Nat) : cbs (n + m) r = cbs m (cbs n r) := by
  induction n generalizing r with
  | zero => simp [cbs]
  | succ n ih => rw [Nat.succ_add]; simp only [cbs]; exact ih (cb r)
theorem cb_even (m : Nat) : cb (2 * m) = m := by
  unfold cb
  have h1 : 2 * m / 2 = m := by omega
  have h2 : 2 * m % 2 = 0 := by omega
  rw [h1, h2]
  simp
theorem cbs_pow (n m : Nat) : cbs n (2 ^ n * m) = m := by
  induction n generalizing m with
  | zero => simp [cbs]
  | succ n ih =>
    rw [Nat.pow_succ, show 2 ^ n * 2 * m = 2 * (2 ^ n * m) by rw [Nat.mul_comm (2 ^ n) 2, Nat.mul_assoc], cbs, cb_even, ih]
theorem cb_none {d : Nat} (h : d < 4294967296) (h0 : cb d = 0) : d = 0 := by
  unfold cb at h0
  rcases Nat.mod_two_eq_zero_or_one d with hd | hd
  · simp [hd] at h0; omega
  · simp only [hd, if_true] at h0
    have : d / 2 = 2197175160 := by
      have := congrArg (· ^^^ 2197175160) h0
      simpa [Nat.xor_assoc] using this
    omega
theorem cbs_none (n : Nat) {d : Nat} (h : d < 4294967296) (h0 : cbs n d = 0) : d = 0 := by
  induction n generalizing d with
  | zero => exact h0
  | succ n ih => exact cb_none h (ih (cb_lt h) h0)
theorem xor_none {a b : Nat} (h : a ^^^ b = 0) : a = b := by
  have := congrArg (· ^^^ b) h
  simpa [Nat.xor_assoc] using this
theorem cbs_inj (n : Nat) {a b : Nat} (ha : a < 4294967296) (hb : b < 4294967296) (h : cbs n a = cbs n b) : a = b := by
  apply xor_none
  apply cbs_none n
  · have : a ^^^ b < 2 ^ 32 := Nat.xor_lt_two_pow (by omega) (by omega)
    omega
  · rw [cbs_xor, h, Nat.xor_self]
theorem add_xor (i a b : Nat) (h : b < 2 ^ i) : b + 2 ^ i * a = b ^^^ 2 ^ i * a := by
  apply Nat.eq_of_testBit_eq
  intro j
  rw [Nat.add_comm, Nat.testBit_two_pow_mul_add a h j, Nat.testBit_xor, Nat.testBit_two_pow_mul]
  by_cases hj : j < i
  · simp [hj, show ¬ i ≤ j by omega]
  · have : b.testBit j = false := Nat.testBit_lt_two_pow (Nat.lt_of_lt_of_le h (Nat.pow_le_pow_right (by decide) (by omega)))
    simp [hj, this, show i ≤ j by omega]
/-- Four bits by the table. -/
theorem cbs_nib (r : Nat) : cbs 4 r = r / 16 ^^^ cbs 4 (r % 16) := by
  have h : r = r % 16 ^^^ 2 ^ 4 * (r / 16) := by
    rw [← add_xor 4 (r / 16) (r % 16) (by omega)]
    omega
  conv => lhs; rw [h, cbs_xor, cbs_pow]
  exact Nat.xor_comm _ _

/-- The register behind the bytes. -/
def crc (r : Nat) (l : List Int) : Nat := cbs (8 * l.length) (r ^^^ le l)
/-- The checksum. -/
def sumOf (l : List Int) : Nat := crc 4294967295 l ^^^ 4294967295

theorem le_lt {l : List Int} (h : Bytes l) : le l < 2 ^ (8 * l.length) := by
  induction l with
  | nil => simp [le]
  | cons x t ih =>
    have h1 := h x (by simp)
    have h2 := ih (fun y hy => h y (by simp [hy]))
    simp only [le, List.length_cons]
    rw [show 8 * (t.length + 1) = 8 * t.length + 8 by omega, Nat.pow_add]
    have : x.toNat < 256 := by omega
    omega
theorem le_append (a b : List Int) : le (a ++ b) = le a + 2 ^ (8 * a.length) * le b := by
  induction a with
  | nil => simp [le]
  | cons x t ih =>
    simp only [List.cons_append, le, ih, List.length_cons]
    rw [show 8 * (t.length + 1) = 8 * t.length + 8 by omega, Nat.pow_add, Nat.mul_add]
    rw [show 2 ^ (8 * t.length) * 2 ^ 8 * le b = 256 * (2 ^ (8 * t.length) * le b) by rw [Nat.mul_comm (2 ^ (8 * t.length)) (2 ^ 8), Nat.mul_assoc]]
    omega
theorem le_xappend {a : List Int} (b : List Int) (h : Bytes a) : le (a ++ b) = le a ^^^ 2 ^ (8 * a.length) * le b := by
  rw [le_append, add_xor _ _ _ (le_lt h)]
theorem crc_nil (r : Nat) : crc r [] = r := by simp [crc, cbs, le]
theorem crc_append (r : Nat) {a : List Int} (b : List Int) (h : Bytes a) : crc r (a ++ b) = crc (crc r a) b := by
  unfold crc
  rw [le_xappend b h, List.length_append, Nat.mul_add, cbs_add, ← Nat.xor_assoc, cbs_xor (8 * a.length), cbs_pow]
theorem crc_snoc (r : Nat) {a : List Int} (x : Int) (h : Bytes a) : crc r (a ++ [x]) = cbs 8 (crc r a ^^^ x.toNat) := by
  rw [crc_append r _ h]
  simp [crc, le]
theorem crc_lt {r : Nat} {l : List Int} (hr : r < 4294967296) (h : Bytes l) : crc r l < 4294967296 := by
  induction l generalizing r with
  | nil => simpa [crc_nil] using hr
  | cons x t ih =>
    have hx := h x (by simp)
    have h1 : Bytes [x] := fun y hy => by simp at hy; subst hy; exact hx
    rw [show x :: t = [x] ++ t from rfl, crc_append r t h1]
    refine ih ?_ (fun y hy => h y (by simp [hy]))
    have : r ^^^ x.toNat < 2 ^ 32 := Nat.xor_lt_two_pow (by omega) (by omega)
    simpa [crc, le] using cbs_lt 8 (r := r ^^^ x.toNat) (by omega)
theorem sumOf_lt {l : List Int} (h : Bytes l) : sumOf l < 4294967296 := by
  have : crc 4294967295 l ^^^ 4294967295 < 2 ^ 32 := Nat.xor_lt_two_pow (by have := crc_lt (r := 4294967295) (by omega) h; omega) (by omega)
  unfold sumOf
  omega
/-- The bytes of a u32. -/
def bytes4 (s : Nat) : List Int := [((s % 256 : Nat) : Int), ((s / 256 % 256 : Nat) : Int), ((s / 65536 % 256 : Nat) : Int), ((s / 16777216 % 256 : Nat) : Int)]
theorem le_bytes4 {s : Nat} (h : s < 4294967296) : le (bytes4 s) = s := by
  simp only [bytes4, le, Int.toNat_natCast]
  omega
theorem not32 (r : Nat) : r ^^^ (r ^^^ 4294967295) = 4294967295 := by
  rw [← Nat.xor_assoc, Nat.xor_self, Nat.zero_xor]
/-- P209: bytes with their own sum behind them. -/
theorem crc_own {l : List Int} (h : Bytes l) : crc 4294967295 (l ++ bytes4 (sumOf l)) = cbs 32 4294967295 := by
  rw [crc_append _ _ h]
  conv => lhs; unfold crc
  rw [le_bytes4 (sumOf_lt h)]
  show cbs 32 (crc 4294967295 l ^^^ sumOf l) = _
  unfold sumOf
  rw [not32]
theorem sum_own {l : List Int} (h : Bytes l) : sumOf (l ++ bytes4 (sumOf l)) = 1214729159 := by
  unfold sumOf
  have := crc_own h
  unfold sumOf at this
  rw [this]
  decide
/-- P209: three lists mixed. -/
theorem xor3_self (a b c o : Nat) : (o ^^^ (a ^^^ b ^^^ c)) = (o ^^^ a) ^^^ (o ^^^ b) ^^^ (o ^^^ c) := by
  apply Nat.eq_of_testBit_eq
  intro i
  simp only [Nat.testBit_xor]
  cases o.testBit i <;> cases a.testBit i <;> cases b.testBit i <;> cases c.testBit i <;> rfl
theorem sum_mix {a b c d : List Int} (h1 : a.length = d.length) (h2 : b.length = d.length) (h3 : c.length = d.length) (h : le d = le a ^^^ le b ^^^ le c) :
    sumOf d = sumOf a ^^^ sumOf b ^^^ sumOf c := by
  unfold sumOf crc
  rw [h1, h2, h3, h, xor3_self, cbs_xor, cbs_xor]
  generalize cbs (8 * d.length) (4294967295 ^^^ le a) = x
  generalize cbs (8 * d.length) (4294967295 ^^^ le b) = y
  generalize cbs (8 * d.length) (4294967295 ^^^ le c) = z
  have := xor3_self x y z 4294967295
  rw [Nat.xor_comm _ 4294967295, this, Nat.xor_comm x, Nat.xor_comm y, Nat.xor_comm z]
theorem xor_low (x y z a b c : Nat) (hx : x < 256) (hy : y < 256) (hz : z < 256) : (x ^^^ y ^^^ z) + 256 * (a ^^^ b ^^^ c) = (x + 256 * a) ^^^ (y + 256 * b) ^^^ (z + 256 * c) := by
  have e : ∀ u v : Nat, u < 256 → u + 256 * v = u ^^^ 2 ^ 8 * v := fun u v h => add_xor 8 v u h
  have h1 : x ^^^ y < 2 ^ 8 := Nat.xor_lt_two_pow (by omega) (by omega)
  have h2 : x ^^^ y ^^^ z < 2 ^ 8 := Nat.xor_lt_two_pow (by omega) (by omega)
  rw [e _ _ (by omega), e x a hx, e y b hy, e z c hz]
  apply Nat.eq_of_testBit_eq
  intro i
  simp only [Nat.testBit_xor, Nat.testBit_two_pow_mul]
  generalize x.testBit i = x'
  generalize y.testBit i = y'
  generalize z.testBit i = z'
  by_cases hi : 8 ≤ i
  · simp only [hi, decide_true, Bool.true_and]
    generalize a.testBit (i - 8) = a'
    generalize b.testBit (i - 8) = b'
    generalize c.testBit (i - 8) = c'
    cases x' <;> cases y' <;> cases z' <;> cases a' <;> cases b' <;> cases c' <;> rfl
  · simp [hi]
end Go.Proofs.Ytkdjjnkhbmmfeaa
