import Derived.Laws.BitsAllLaws
import Derived.Test.YtohgdjlgbnpobaaRows
import Derived.WalkKit
import Derived.WalkSpells
import Derived.WalkLawsBesides
import Derived.Below
import Derived.Laws.CopyOwn
import Derived.Lib.SliceRun
import Derived.Deep.QuietTactic
import Derived.BigQuiet
import Derived.Deep.AppendLies
section
namespace Go.Proofs.Ytohgdjlgbnpobaa

/-- One bit of the checksum's register. -/
def cb (r : Nat) : Nat := r / 2 ^^^ (if r % 2 = 1 then 2197175160 else 0)
/-- Many bits. -/
def cbs : Nat → Nat → Nat
  | 0, r => r
  | n + 1, r => cbs n (cb r)
/-- A list of bytes as one number, the lowest byte first. -/
def le : List Int → Nat
  | [] => 0
  | x :: t => x.toNat + 256 * le t
/-- The list holds bytes. -/
def Bytes (l : List Int) : Prop := ∀ x ∈ l, 0 ≤ x ∧ x < 256

theorem cb_xor (a b : Nat) : cb (a ^^^ b) = cb a ^^^ cb b := by
  unfold cb
  have h : (a ^^^ b) % 2 = (a + b) % 2 := by
    have e := Nat.testBit_xor a b 0
    simp only [Nat.testBit_zero] at e
    rcases Nat.mod_two_eq_zero_or_one a with ha | ha <;> rcases Nat.mod_two_eq_zero_or_one b with hb | hb <;> rcases Nat.mod_two_eq_zero_or_one (a ^^^ b) with hc | hc <;> rw [ha, hb, hc] at e <;> first | omega | exact absurd e (by decide)
  have hd : (a ^^^ b) / 2 = a / 2 ^^^ b / 2 := Nat.xor_div_two
  rw [hd]
  rcases Nat.mod_two_eq_zero_or_one a with ha | ha <;> rcases Nat.mod_two_eq_zero_or_one b with hb | hb
  · have : (a ^^^ b) % 2 = 0 := by omega
    simp [ha, hb, this]
  · have : (a ^^^ b) % 2 = 1 := by omega
    simp [ha, hb, this, Nat.xor_assoc]
  · have : (a ^^^ b) % 2 = 1 := by omega
    simp only [ha, hb, this, if_true]
    rw [Nat.xor_assoc, Nat.xor_assoc, Nat.xor_comm (b / 2)]
    simp
  · have : (a ^^^ b) % 2 = 0 := by omega
    simp only [ha, hb, this, if_true]
    rw [Nat.xor_assoc, Nat.xor_assoc, ← Nat.xor_assoc (2197175160) (b / 2), Nat.xor_comm 2197175160 (b / 2), Nat.xor_assoc (b / 2), Nat.xor_self]
    simp
theorem cbs_xor (n a b : Nat) : cbs n (a ^^^ b) = cbs n a ^^^ cbs n b := by
  induction n generalizing a b with
  | zero => rfl
  | succ n ih => simp only [cbs, cb_xor, ih]
theorem cb_lt {r : Nat} (h : r < 4294967296) : cb r < 4294967296 := by
  unfold cb
  have : r / 2 ^^^ (if r % 2 = 1 then 2197175160 else 0) < 2 ^ 32 := Nat.xor_lt_two_pow (by omega) (by split <;> omega)
  omega
theorem cbs_lt (n : Nat) {r : Nat} (h : r < 4294967296) : cbs n r < 4294967296 := by
  induction n generalizing r with
  | zero => exact h
  | succ n ih => exact ih (cb_lt h)
theorem cbs_zero (n : Nat) : cbs n 0 = 0 := by
  induction n with
  | zero => rfl
  | succ n ih => simpa [cbs, cb] using ih
theorem cbs_add (n m r : Nat) : cbs (n + m) r = cbs m (cbs n r) := by
  induction n generalizing r with
  | zero => simp [cbs]
  | succ n ih => rw [Nat.succ_add]; simp only [cbs]; exact ih (cb r)
theorem cb_even (m : Nat) : cb (2 * m) = m := by
  unfold cb
  have h1 : 2 * m / 2 = m := by omega
  have h2 : 2 * m % 2 = 0 := by omega
  rw [h1, h2]
  simp
theorem cbs_pow (n m : Nat) : cbs n (2 ^ n * m) = m := by
  induction n generalizing m with
  | zero => simp [cbs]
  | succ n ih =>
    rw [Nat.pow_succ, show 2 ^ n * 2 * m = 2 * (2 ^ n * m) by rw [Nat.mul_comm (2 ^ n) 2, Nat.mul_assoc], cbs, cb_even, ih]
theorem cb_none {d : Nat} (h : d < 4294967296) (h0 : cb d = 0) : d = 0 := by
  unfold cb at h0
  rcases Nat.mod_two_eq_zero_or_one d with hd | hd
  · simp [hd] at h0; omega
  · simp only [hd, if_true] at h0
    have : d / 2 = 2197175160 := by
      have := congrArg (· ^^^ 2197175160) h0
      simpa [Nat.xor_assoc] using this
    omega
theorem cbs_none (n : Nat) {d : Nat} (h : d < 4294967296) (h0 : cbs n d = 0) : d = 0 := by
  induction n generalizing d with
  | zero => exact h0
  | succ n ih => exact cb_none h (ih (cb_lt h) h0)
theorem xor_none {a b : Nat} (h : a ^^^ b = 0) : a = b := by
  have := congrArg (· ^^^ b) h
  simpa [Nat.xor_assoc] using this
theorem cbs_inj (n : Nat) {a b : Nat} (ha : a < 4294967296) (hb : b < 4294967296) (h : cbs n a = cbs n b) : a = b := by
  apply xor_none
  apply cbs_none n
  · have : a ^^^ b < 2 ^ 32 := Nat.xor_lt_two_pow (by omega) (by omega)
    omega
  · rw [cbs_xor, h, Nat.xor_self]
theorem add_xor (i a b : Nat) (h : b < 2 ^ i) : b + 2 ^ i * a = b ^^^ 2 ^ i * a := by
  apply Nat.eq_of_testBit_eq
  intro j
  rw [Nat.add_comm, Nat.testBit_two_pow_mul_add a h j, Nat.testBit_xor, Nat.testBit_two_pow_mul]
  by_cases hj : j < i
  · simp [hj, show ¬ i ≤ j by omega]
  · have : b.testBit j = false := Nat.testBit_lt_two_pow (Nat.lt_of_lt_of_le h (Nat.pow_le_pow_right (by decide) (by omega)))
    simp [hj, this, show i ≤ j by omega]
/-- Four bits by the table. -/
theorem cbs_nib (r : Nat) : cbs 4 r = r / 16 ^^^ cbs 4 (r % 16) := by
  have h : r = r % 16 ^^^ 2 ^ 4 * (r / 16) := by
    rw [← add_xor 4 (r / 16) (r % 16) (by omega)]
    omega
  conv => lhs; rw [h, cbs_xor, cbs_pow]
  exact Nat.xor_comm _ _

/-- The register behind the bytes. -/
def crc (r : Nat) (l : List Int) : Nat := cbs (8 * l.length) (r ^^^ le l)
/-- The checksum. -/
def sumOf (l : List Int) : Nat := crc 4294967295 l ^^^ 4294967295

theorem le_lt {l : List Int} (h : Bytes l) : le l < 2 ^ (8 * l.length) := by
  induction l with
  | nil => simp [le]
  | cons x t ih =>
    have h1 := h x (by simp)
    have h2 := ih (fun y hy => h y (by simp [hy]))
    simp only [le, List.length_cons]
    rw [show 8 * (t.length + 1) = 8 * t.length + 8 by omega, Nat.pow_add]
    have : x.toNat < 256 := by omega
    omega
theorem le_append (a b : List Int) : le (a ++ b) = le a + 2 ^ (8 * a.length) * le b := by
  induction a with
  | nil => simp [le]
  | cons x t ih =>
    simp only [List.cons_append, le, ih, List.length_cons]
    rw [show 8 * (t.length + 1) = 8 * t.length + 8 by omega, Nat.pow_add, Nat.mul_add]
    rw [show 2 ^ (8 * t.length) * 2 ^ 8 * le b = 256 * (2 ^ (8 * t.length) * le b) by rw [Nat.mul_comm (2 ^ (8 * t.length)) (2 ^ 8), Nat.mul_assoc]]
    omega
theorem le_xappend {a : List Int} (b : List Int) (h : Bytes a) : le (a ++ b) = le a ^^^ 2 ^ (8 * a.length) * le b := by
  rw [le_append, add_xor _ _ _ (le_lt h)]
theorem crc_nil (r : Nat) : crc r [] = r := by simp [crc, cbs, le]
theorem crc_append (r : Nat) {a : List Int} (b : List Int) (h : Bytes a) : crc r (a ++ b) = crc (crc r a) b := by
  unfold crc
  rw [le_xappend b h, List.length_append, Nat.mul_add, cbs_add, ← Nat.xor_assoc, cbs_xor (8 * a.length), cbs_pow]
theorem crc_snoc (r : Nat) {a : List Int} (x : Int) (h : Bytes a) : crc r (a ++ [x]) = cbs 8 (crc r a ^^^ x.toNat) := by
  rw [crc_append r _ h]
  simp [crc, le]
theorem crc_lt {r : Nat} {l : List Int} (hr : r < 4294967296) (h : Bytes l) : crc r l < 4294967296 := by
  induction l generalizing r with
  | nil => simpa [crc_nil] using hr
  | cons x t ih =>
    have hx := h x (by simp)
    have h1 : Bytes [x] := fun y hy => by simp at hy; subst hy; exact hx
    rw [show x :: t = [x] ++ t from rfl, crc_append r t h1]
    refine ih ?_ (fun y hy => h y (by simp [hy]))
    have : r ^^^ x.toNat < 2 ^ 32 := Nat.xor_lt_two_pow (by omega) (by omega)
    simpa [crc, le] using cbs_lt 8 (r := r ^^^ x.toNat) (by omega)
theorem sumOf_lt {l : List Int} (h : Bytes l) : sumOf l < 4294967296 := by
  have : crc 4294967295 l ^^^ 4294967295 < 2 ^ 32 := Nat.xor_lt_two_pow (by have := crc_lt (r := 4294967295) (by omega) h; omega) (by omega)
  unfold sumOf
  omega
/-- The bytes of a u32. -/
def bytes4 (s : Nat) : List Int := [((s % 256 : Nat) : Int), ((s / 256 % 256 : Nat) : Int), ((s / 65536 % 256 : Nat) : Int), ((s / 16777216 % 256 : Nat) : Int)]
theorem le_bytes4 {s : Nat} (h : s < 4294967296) : le (bytes4 s) = s := by
  simp only [bytes4, le, Int.toNat_natCast]
  omega
theorem not32 (r : Nat) : r ^^^ (r ^^^ 4294967295) = 4294967295 := by
  rw [← Nat.xor_assoc, Nat.xor_self, Nat.zero_xor]
/-- P209: bytes with their own sum behind them. -/
theorem crc_own {l : List Int} (h : Bytes l) : crc 4294967295 (l ++ bytes4 (sumOf l)) = cbs 32 4294967295 := by
  rw [crc_append _ _ h]
  conv => lhs; unfold crc
  rw [le_bytes4 (sumOf_lt h)]
  show cbs 32 (crc 4294967295 l ^^^ sumOf l) = _
  unfold sumOf
  rw [not32]
theorem sum_own {l : List Int} (h : Bytes l) : sumOf (l ++ bytes4 (sumOf l)) = 1214729159 := by
  unfold sumOf
  have := crc_own h
  unfold sumOf at this
  rw [this]
  decide
/-- P209: three lists mixed. -/
theorem xor3_self (a b c o : Nat) : (o ^^^ (a ^^^ b ^^^ c)) = (o ^^^ a) ^^^ (o ^^^ b) ^^^ (o ^^^ c) := by
  apply Nat.eq_of_testBit_eq
  intro i
  simp only [Nat.testBit_xor]
  cases o.testBit i <;> cases a.testBit i <;> cases b.testBit i <;> cases c.testBit i <;> rfl
theorem sum_mix {a b c d : List Int} (h1 : a.length = d.length) (h2 : b.length = d.length) (h3 : c.length = d.length) (h : le d = le a ^^^ le b ^^^ le c) :
    sumOf d = sumOf a ^^^ sumOf b ^^^ sumOf c := by
  unfold sumOf crc
  rw [h1, h2, h3, h, xor3_self, cbs_xor, cbs_xor]
  generalize cbs (8 * d.length) (4294967295 ^^^ le a) = x
  generalize cbs (8 * d.length) (4294967295 ^^^ le b) = y
  generalize cbs (8 * d.length) (4294967295 ^^^ le c) = z
  have := xor3_self x y z 4294967295
  rw [Nat.xor_comm _ 4294967295, this, Nat.xor_comm x, Nat.xor_comm y, Nat.xor_comm z]
theorem xor_low (x y z a b c : Nat) (hx : x < 256) (hy : y < 256) (hz : z < 256) : (x ^^^ y ^^^ z) + 256 * (a ^^^ b ^^^ c) = (x + 256 * a) ^^^ (y + 256 * b) ^^^ (z + 256 * c) := by
  have e : ∀ u v : Nat, u < 256 → u + 256 * v = u ^^^ 2 ^ 8 * v := fun u v h => add_xor 8 v u h
  have h1 : x ^^^ y < 2 ^ 8 := Nat.xor_lt_two_pow (by omega) (by omega)
  have h2 : x ^^^ y ^^^ z < 2 ^ 8 := Nat.xor_lt_two_pow (by omega) (by omega)
  rw [e _ _ (by omega), e x a hx, e y b hy, e z c hz]
  apply Nat.eq_of_testBit_eq
  intro i
  simp only [Nat.testBit_xor, Nat.testBit_two_pow_mul]
  generalize x.testBit i = x'
  generalize y.testBit i = y'
  generalize z.testBit i = z'
  by_cases hi : 8 ≤ i
  · simp only [hi, decide_true, Bool.true_and]
    generalize a.testBit (i - 8) = a'
    generalize b.testBit (i - 8) = b'
    generalize c.testBit (i - 8) = c'
    cases x' <;> cases y' <;> cases z' <;> cases a' <;> cases b' <;> cases c' <;> rfl
  · simp [hi]
end Go.Proofs.Ytohgdjlgbnpobaa
end

section
namespace Go.Proofs.Ytohgdjlgbnpobaa
open Go.RowKit

theorem infoU8 : (Try.prog.info? 5).map (fun i => (i.zero, i.size, i.bytes)) = some (some (.int .u8 0), 1, 1) := by kernel_rfl

theorem addr_add (g o i : Nat) : (⟨g, o, none⟩ : Addr).add i = ⟨g, o + i, none⟩ := by
  unfold Addr.add
  split <;> simp_all

/-- Bytes as cells. -/
abbrev bs (l : List Int) : List Value := l.map (Value.int .u8)

/-- Block g is a row of c cells of type e, none frozen, that begins with xs. -/
def RowAt (w : World) (e : TypeId) (g c : Nat) (xs : List Value) : Prop :=
  ∃ cur, w.heap[g]? = some (.cells cur e (0, 0)) ∧ cur.size = c ∧ cur.toList.take xs.length = xs ∧ c ≤ maxLen

theorem RowAt.lt {w : World} {e : TypeId} {g c : Nat} {xs : List Value} (h : RowAt w e g c xs) : g < w.heap.size := by
  obtain ⟨cur, hb, _⟩ := h
  exact (Array.getElem?_eq_some_iff.1 hb).1
theorem RowAt.le {w : World} {e : TypeId} {g c : Nat} {xs : List Value} (h : RowAt w e g c xs) : xs.length ≤ c := by
  obtain ⟨cur, _, rfl, ht, _⟩ := h
  have := congrArg List.length ht
  simp at this
  omega
theorem RowAt.max {w : World} {e : TypeId} {g c : Nat} {xs : List Value} (h : RowAt w e g c xs) : c ≤ maxLen := by
  obtain ⟨cur, _, _, _, h⟩ := h; exact h
theorem RowAt.cell {w : World} {e : TypeId} {g c : Nat} {xs : List Value} (h : RowAt w e g c xs) {j : Nat} {u : Value} (hu : xs[j]? = some u) : w.cell? ⟨g, j, none⟩ = some u := by
  obtain ⟨cur, hb, _, ht, _⟩ := h
  simp only [World.cell?, hb]
  have hj := (List.getElem?_eq_some_iff.1 hu).1
  rw [← ht, List.getElem?_take] at hu
  rw [if_pos hj] at hu
  simpa using hu
theorem RowAt.byte {w : World} {e : TypeId} {g c : Nat} {l : List Int} (h : RowAt w e g c (bs l)) {i : Nat} (hi : i < l.length) : w.cell? ((⟨g, 0, none⟩ : Addr).add i) = some (.int .u8 (l.getD i 0)) := by
  rw [addr_add, Nat.zero_add]
  exact h.cell (by simp [bs, List.getD, List.getElem?_eq_getElem hi])
theorem RowAt.frozen {w : World} {e : TypeId} {g c : Nat} {xs : List Value} (h : RowAt w e g c xs) (j : Nat) : w.frozen? ⟨g, j, none⟩ = false := by
  obtain ⟨cur, hb, _⟩ := h
  simp [World.frozen?, hb]
theorem RowAt.agree {w w' : World} {e : TypeId} {g c : Nat} {xs : List Value} (h : RowAt w e g c xs) (hb : w'.heap[g]? = w.heap[g]?) : RowAt w' e g c xs := by
  obtain ⟨cur, h1, h2⟩ := h
  exact ⟨cur, hb.trans h1, h2⟩
theorem RowAt.owns {w : World} {e : TypeId} {g c : Nat} {xs : List Value} (h : RowAt w e g c xs) : w.ownsRow 0 e 1 (.slice (some ⟨g, 0, none⟩) xs.length c) xs.length xs := by
  have hle := h.le
  obtain ⟨cur, hb, hc, ht, hm⟩ := h
  exact ⟨by simp, .inr ⟨g, c, cur, rfl, Nat.zero_le _, hb, hle, hm, by simpa using hc, by simpa using ht⟩⟩
theorem RowAt.of_owns {w : World} {base : Nat} {e : TypeId} {v : Value} {n : Nat} {xs : List Value} (h : w.ownsRow base e 1 v n xs) (hv : v ≠ .slice none 0 0) :
    ∃ g c, v = .slice (some ⟨g, 0, none⟩) n c ∧ base ≤ g ∧ RowAt w e g c xs ∧ xs.length = n := by
  obtain ⟨hl, ⟨rfl, _⟩ | ⟨g, c, cur, rfl, hg, hb, hn, hm, hc, ht⟩⟩ := h
  · exact absurd rfl hv
  · simp only [Nat.mul_one] at hl hc ht
    exact ⟨g, c, rfl, hg, ⟨cur, hb, hc, by rw [hl]; exact ht, hm⟩, hl⟩

/-- w' is w but for new blocks and the blocks of F. -/
structure Keeps (F : Nat → Prop) (w w' : World) : Prop where
  os : w'.os = w.os
  tape : w'.tape = w.tape
  output : w'.output = w.output
  size : w.heap.size ≤ w'.heap.size
  block : ∀ k, k < w.heap.size → ¬ F k → w'.heap[k]? = w.heap[k]?

/-- The blocks that a thing has behind a call: those that it had, and what is new. -/
def more (F : Nat → Prop) (w w' : World) : Nat → Prop := fun k => F k ∨ (w.heap.size ≤ k ∧ k < w'.heap.size)

theorem Keeps.refl (F : Nat → Prop) (w : World) : Keeps F w w := ⟨rfl, rfl, rfl, Nat.le_refl _, fun _ _ _ => rfl⟩
theorem Keeps.trans {F G : Nat → Prop} {a b c : World} (h : Keeps F a b) (k : Keeps G b c) (hG : ∀ j, G j → F j ∨ a.heap.size ≤ j) : Keeps F a c :=
  ⟨k.os.trans h.os, k.tape.trans h.tape, k.output.trans h.output, Nat.le_trans h.size k.size, fun i hi hn =>
    (k.block i (Nat.lt_of_lt_of_le hi h.size) (fun hg => by rcases hG i hg with h1 | h1; exact hn h1; omega)).trans (h.block i hi hn)⟩
theorem Keeps.of_below {w w' : World} (F : Nat → Prop) (h : Below w.heap.size w w') : Keeps F w w' := ⟨h.os, h.tape, h.output, h.size, fun k hk _ => h.block k hk⟩
theorem Keeps.below {B : Nat} {F : Nat → Prop} {w w' : World} (h : Keeps F w w') (hF : ∀ k, F k → B ≤ k) (hB : B ≤ w.heap.size) : Below B w w' :=
  ⟨h.os, h.tape, h.output, h.size, fun k hk => h.block k (by omega) (fun hf => by have := hF k hf; omega)⟩
theorem Keeps.mono {F G : Nat → Prop} {w w' : World} (h : Keeps F w w') (hG : ∀ k, F k → G k) : Keeps G w w' := ⟨h.os, h.tape, h.output, h.size, fun k hk hn => h.block k hk (fun hf => hn (hG k hf))⟩
theorem Keeps.setCell {F : Nat → Prop} (w : World) {p : Addr} (hp : F p.block) (u : Value) : Keeps F w (w.setCell p u) :=
  ⟨rfl, rfl, rfl, by simp [World.setCell], fun k _ hn => Below.heap_setCell w p u k (fun e => hn (e ▸ hp))⟩
theorem Keeps.alloc (F : Nat → Prop) (w : World) (o : Obj) : Keeps F w (w.alloc o) := Keeps.of_below F ((Below.refl _ _).alloc (Nat.le_refl _) _)
theorem Keeps.drew (F : Nat → Prop) (w : World) : Keeps F w w.drew := ⟨rfl, rfl, rfl, Nat.le_refl _, fun _ _ _ => rfl⟩

theorem grown_setCell (w : World) (a : Addr) (v : Value) : w.grownBy (w.setCell a v) (some a.block) :=
  ⟨rfl, rfl, rfl, by simp [World.setCell], fun k _ hn => Below.heap_setCell w a v k (fun e => hn (by rw [e]))⟩

theorem cell_of_block {w : World} {g : Nat} {cur : Array Value} {e : TypeId} (hb : w.heap[g]? = some (.cells cur e (0, 0))) {j : Nat} {u : Value} (hu : cur[j]? = some u) : w.cell? ⟨g, j, none⟩ = some u := by
  simp only [World.cell?, hb]
  simpa using hu
theorem frozen_of_block {w : World} {g : Nat} {cur : Array Value} {e : TypeId} (hb : w.heap[g]? = some (.cells cur e (0, 0))) (j : Nat) : w.frozen? ⟨g, j, none⟩ = false := by
  simp [World.frozen?, hb]

/-- What is told of a list of bytes that is only read: n bytes at whatever address. -/
def Src (w : World) (a : Option Addr) (n : Nat) (l : List Int) : Prop :=
  l.length = n ∧ (a = none → n = 0) ∧ ∀ x, a = some x → ∀ i, i < n → w.cell? (x.add i) = some (.int .u8 (l.getD i 0))

theorem Src.at {w : World} {x : Addr} {n : Nat} {l : List Int} (h : Src w (some x) n l) {i : Nat} (hi : i < n) : w.cell? (x.add i) = some (.int .u8 (l.getD i 0)) := h.2.2 x rfl i hi
theorem RowAt.src {w : World} {e : TypeId} {g c : Nat} {l : List Int} (h : RowAt w e g c (bs l)) : Src w (some ⟨g, 0, none⟩) l.length l :=
  ⟨rfl, (fun h => by cases h), fun x hx i hi => by cases hx; exact h.byte hi⟩
theorem Src.spot {w : World} {x : Addr} {n : Nat} {l : List Int} (h : Src w (some x) n l) (hn : 0 < n) : ∃ b o, x = ⟨b, o, none⟩ ∧ ∀ i, i < n → w.cell? ⟨b, o + i, none⟩ = some (.int .u8 (l.getD i 0)) := by
  obtain ⟨b, o, sp⟩ := x
  have h0 := h.2.2 _ rfl 0 hn
  have hs : sp = none := by simpa [Addr.add] using World.cell?_spot h0
  subst hs
  exact ⟨b, o, rfl, fun i hi => by have := h.2.2 _ rfl i hi; rwa [addr_add] at this⟩
theorem Src.later {w w' : World} {a : Option Addr} {n : Nat} {l : List Int} (h : Src w a n l) (hb : Below w.heap.size w w') : Src w' a n l :=
  ⟨h.1, h.2.1, fun x hx i hi => cell_later hb (h.2.2 x hx i hi)⟩
theorem Src.keeps {w w' : World} {a : Option Addr} {n : Nat} {l : List Int} {F : Nat → Prop} {B : Nat} (h : Src w a n l) (hk : Keeps F w w') (hF : ∀ k, F k → B ≤ k) (ha : ∀ x, a = some x → 0 < n → x.block < B) : Src w' a n l :=
  ⟨h.1, h.2.1, fun x hx i hi => by
    have h0 := h.2.2 x hx i hi
    have hb : (x.add i).block = x.block := by unfold Addr.add; split <;> rfl
    rw [World.cell?_of_block (w := w) (hk.block _ (World.block_lt_of_cell? _ _ h0) (fun hf => by have := hF _ hf; have := ha x hx (by omega); omega))]
    exact h0⟩

theorem Hid.mk {p : Prop} (h : p) : Hid p := h

theorem made_row {w1 : World} {g n : Nat} {base : Nat} (hown : w1.ownsRow base 5 1 (.slice (some ⟨g, 0, none⟩) n n) n (madeCells #[Value.int .u8 0] n).toList) :
    RowAt w1 5 g n (bs (List.replicate n 0)) := by
  obtain ⟨g', c, hv, _, hr, _⟩ := RowAt.of_owns hown (by simp)
  cases hv
  have e : (madeCells #[Value.int .u8 0] n).toList = bs (List.replicate n 0) := by rw [toList_madeCells_one]; simp [bs]
  rw [e] at hr
  exact hr

theorem sizeU8 : (Try.prog.info? 5).map (·.size) = some 1 := by kernel_rfl

theorem bs_getElem {l : List Int} {j : Nat} {v : Value} (h : (bs l)[j]? = some v) : j < l.length ∧ v = .int .u8 (l.getD j 0) := by
  have hj : j < l.length := by
    have := (List.getElem?_eq_some_iff.1 h).1
    simpa [bs] using this
  simp [bs, List.getElem?_eq_getElem hj] at h
  exact ⟨hj, by simp [List.getD, List.getElem?_eq_getElem hj, h]⟩

theorem bs_one (l : List Int) : ∀ v ∈ bs l, v.oneCell' = true := by
  intro v hv
  obtain ⟨x, _, rfl⟩ := List.mem_map.1 hv
  rfl

/-- A row whose every cell is known: the block itself. -/
theorem RowAt.full {w : World} {e : TypeId} {g c : Nat} {xs : List Value} (h : RowAt w e g c xs) (hc : xs.length = c) : w.heap[g]? = some (.cells xs.toArray e (0, 0)) := by
  obtain ⟨cur, hb, hs, ht, _⟩ := h
  have : cur.toList = xs := by
    rw [← ht, List.take_of_length_le (by simp; omega)]
  rw [hb, ← this]
theorem RowAt.of_full {w : World} {e : TypeId} {g : Nat} {xs : List Value} (h : w.heap[g]? = some (.cells xs.toArray e (0, 0))) (hm : xs.length ≤ maxLen) : RowAt w e g xs.length xs :=
  ⟨xs.toArray, h, by simp, by simp, hm⟩

/-- copy of bytes: what it comes to. -/
theorem copy_run (w : World) (ty : TypeId) (dp : Option Addr) (g off dLen dCap : Nat) (a : Option Addr) (sLen sCap : Nat) (cur : List Value) (l : List Int) (hg : w.heap[g]? = some (.cells cur.toArray 5 (0, 0)))
    (hs : Src w a sLen l) (hd : 0 < dLen → dp = some ⟨g, off, none⟩) (hfit : off + dLen ≤ cur.length) :
    ∃ w2, (Builtin.copy_ #[25, 25] ty #[.slice dp dLen dCap, .slice a sLen sCap]).run Try.prog w = .ok (goInt (Nat.min sLen dLen)) w2 ∧
      w2.heap[g]? = some (.cells (splice cur off (bs (l.take dLen))).toArray 5 (0, 0)) ∧ Keeps (fun k => k = g) w w2 ∧ w2.heap.size = w.heap.size := by
  have hl := hs.1
  have hm : Nat.min sLen dLen = min sLen dLen := rfl
  by_cases h0 : min sLen dLen = 0
  · refine ⟨w, ?_, ?_, Keeps.refl _ _, rfl⟩
    · rw [hm, h0]
      exact run_copy_none (P := Try.prog) w _ _ ty 5 dp a dLen dCap sLen sCap Try.underlying25 sizeU8 h0
    · have e : bs (l.take dLen) = [] := by
        have : (bs (l.take dLen)).length = 0 := by simp only [bs, List.length_map, List.length_take]; omega
        exact List.eq_nil_of_length_eq_zero this
      rw [e, hg]
      simp [splice]
  · have h1 : 0 < sLen ∧ 0 < dLen := by omega
    obtain rfl := hd h1.2
    cases a with
    | none => have := hs.2.1 rfl; omega
    | some x =>
      have hlen : (bs (l.take dLen)).length = Nat.min sLen dLen := by
        simp only [bs, List.length_map, List.length_take]; omega
      have hrun := run_copy_row (P := Try.prog) w 25 25 ty 5 g off dLen dCap x sLen sCap cur.toArray 5 (bs (l.take dLen)) Try.underlying25 sizeU8 hg hlen
        (fun j v hj => by
          obtain ⟨hj', rfl⟩ := bs_getElem hj
          have hj2 : j < dLen ∧ j < l.length := by simp only [List.length_take] at hj'; omega
          rw [hs.2.2 x rfl j (by omega)]
          simp [List.getD, hj2.1]) (by simp only [List.size_toArray, hlen]; omega) (bs_one _)
      rw [hlen] at hrun
      refine ⟨_, hrun, ?_, ⟨rfl, rfl, rfl, by simp, fun k _ hk => setRow_other w g k _ hk⟩, by simp⟩
      rw [setRow_heap w g _ _ 5 _ hg]
      simp only [splice, hlen, List.append_assoc]

theorem blockOf_add (x : Addr) (n : Nat) : (x.add n).block = x.block := by unfold Addr.add; split <;> rfl
theorem Src.old {W : World} {a : Option Addr} {n : Nat} {l : List Int} (h : Src W a n l) : ∀ x, a = some x → 0 < n → x.block < W.heap.size := fun x hx hn => by
  have := World.block_lt_of_cell? _ _ (h.2.2 x hx 0 hn)
  rwa [blockOf_add] at this
end Go.Proofs.Ytohgdjlgbnpobaa
end

section
namespace Go.Proofs.Ytohgdjlgbnpobaa
open Go.RowKit

theorem infoRow : (Try.prog.info? 25).map (fun i => (i.zero, i.size, i.bytes)) = some (some (.slice none 0 0), 1, 24) := by kernel_rfl
theorem below_box (w : World) (o : Obj) : Below w.heap.size w (w.alloc o) := (Below.refl _ _).alloc (Nat.le_refl _) _
end Go.Proofs.Ytohgdjlgbnpobaa
end

section
namespace Go.Proofs.Ytohgdjlgbnpobaa
open Go.RowKit Go.Maps

section
variable {W W' w w' wr : World} {B : Nat} {e : TypeId} {v v' : Value} {n m : Nat} {xs : List Value} {g : Nat}
theorem rowBlock (h : W.ownsRow B e m v n xs) (hv : v.ownBlock = some g) : ∃ cur, W.heap[g]? = some (.cells cur e (0, 0)) := by
  obtain ⟨_, ⟨rfl, _⟩ | ⟨g', cap, cur, rfl, _, hb, _⟩⟩ := h
  · simp [Value.ownBlock] at hv
  · simp [Value.ownBlock] at hv
    subst hv
    exact ⟨cur, hb⟩
theorem rowAgree (h : W.ownsRow B e m v n xs) (hb : ∀ g, v.ownBlock = some g → W'.heap[g]? = W.heap[g]?) : W'.ownsRow B e m v n xs := by
  obtain ⟨hl, h | ⟨g, cap, cur, rfl, hg, hbk, h1⟩⟩ := h
  · exact ⟨hl, .inl h⟩
  · exact ⟨hl, .inr ⟨g, cap, cur, rfl, hg, (hb g rfl).trans hbk, h1⟩⟩
theorem rowLow (h : W.ownsRow B e m v n xs) (hv : v.ownBlock = some g) : B ≤ g := by
  obtain ⟨_, ⟨rfl, _⟩ | ⟨g', cap, cur, rfl, hg, hb, _⟩⟩ := h
  · simp [Value.ownBlock] at hv
  · simp [Value.ownBlock] at hv
    omega
theorem rowLt (h : W.ownsRow B e m v n xs) (hv : v.ownBlock = some g) : g < W.heap.size := by
  obtain ⟨cur, hc⟩ := rowBlock h hv
  exact (Array.getElem?_eq_some_iff.1 hc).1
theorem typeApart {cur cur' : Array Value} {t t' : TypeId} {fz fz' : Nat × Nat} (h : W.heap[g]? = some (.cells cur t fz)) (h' : W.heap[g]? = some (.cells cur' t' fz')) (ht : t ≠ t') : False := by
  rw [h] at h'
  cases h'
  exact ht rfl
theorem Src.past {a : Option Addr} {l : List Int} {F : Nat → Prop} (h : Src w a n l) (hk : Keeps F w w') (ha : ∀ y, a = some y → 0 < n → ¬ F y.block) : Src w' a n l :=
  ⟨h.1, h.2.1, fun x hx i hi => by
    have h0 := h.2.2 x hx i hi
    have hb : (x.add i).block = x.block := by unfold Addr.add; split <;> rfl
    rw [World.cell?_of_block (w := w) (hk.block _ (World.block_lt_of_cell? _ _ h0) (fun hf => by rw [hb] at hf; exact ha x hx (by omega) hf))]
    exact h0⟩
end

theorem app_list {W : World} {B k : Nat} {v : Value} {vs : List Value} (hrow : W.ownsRow B 25 1 v k vs) (x : Value) (hx : x.oneCell' = true) (hk : k ≤ 100000000) (hB : B ≤ W.heap.size) :
    ∃ g cap w', (Builtin.append_ #[24, 24] 24 #[v, .slice (some ⟨W.heap.size, 0, none⟩) 1 1]).run Try.prog (W.alloc (.cells #[x] 25)) = .ok (.slice (some ⟨g, 0, none⟩) (k + 1) cap) w' ∧ w'.ownsRow B 25 1 (.slice (some ⟨g, 0, none⟩) (k + 1) cap) (k + 1) (vs ++ [x]) ∧ (W.alloc (.cells #[x] 25)).grownBy w' v.ownBlock ∧ (v.ownBlock = some g ∨ g = W.heap.size + 1) := by
  obtain ⟨i0, hi, hz0, hz1, hz2⟩ := info_parts infoRow
  obtain ⟨g, cap, w', h1, h2, h3, h4, _⟩ := run_append_lies (P := Try.prog) (W.alloc (.cells #[x] 25)) 24 24 B 25 i0 (.slice none 0 0) 1 24 Try.underlying24 hi hz0 hz1 hz2 rfl (by decide) v k vs (rowAgree hrow (fun g hg => Below.heap_alloc _ _ _ (rowLt hrow hg))) ⟨W.heap.size, 0, none⟩ 1 1 [x] rfl (World.news_of_block (cs := #[x]) (t := 25) (fr := (0, 0)) (heap_alloc_new W _)) (by simpa using hx) (by omega) (by unfold maxLen; omega) (by omega) (by simp; omega) _ rfl
  exact ⟨g, cap, w', h1, h2, h3, h4.imp (fun e => e) (fun e => e.trans (by simp))⟩
end Go.Proofs.Ytohgdjlgbnpobaa
end

section
namespace Go.Proofs.Ytohgdjlgbnpobaa
open Go.RowKit Go.Maps

theorem nextcap_succ (old : Nat) : Builtin.nextslicecap (old + 1) old ≤ old + (old + 768) / 4 + 512 := by
  unfold Builtin.nextslicecap
  split
  · omega
  · split
    · omega
    · rw [growBy_four]
      repeat' split
      all_goals omega

/-- One more list at the end of a row of lists, as long as may be. -/
theorem app_list2 {W : World} {k : Nat} {v : Value} {vs : List Value} (hrow : W.ownsRow 0 25 1 v k vs) (x : Value) (hx : x.oneCell' = true) (hk : k ≤ 7000000000000) :
    ∃ g cap w', (Builtin.append_ #[24, 24] 24 #[v, .slice (some ⟨W.heap.size, 0, none⟩) 1 1]).run Try.prog (W.alloc (.cells #[x] 25)) = .ok (.slice (some ⟨g, 0, none⟩) (k + 1) cap) w' ∧ w'.ownsRow 0 25 1 (.slice (some ⟨g, 0, none⟩) (k + 1) cap) (k + 1) (vs ++ [x]) ∧ (W.alloc (.cells #[x] 25)).grownBy w' v.ownBlock ∧ (v.ownBlock = some g ∨ g = W.heap.size + 1) := by
  by_cases hs : k ≤ 100000000
  · exact app_list hrow x hx hs (Nat.zero_le _)
  · obtain ⟨i0, hi, hz0, hz1, hz2⟩ := info_parts infoRow
    have hcl := hrow
    obtain ⟨hl, ⟨_, h0⟩ | ⟨g, cap, cur, rfl, hg0, hb, hnc, hmc, hcs, ht⟩⟩ := hrow
    · omega
    · simp only [Nat.mul_one] at hl hcs ht
      have hb1 : (W.alloc (.cells #[x] 25)).heap[g]? = some (.cells cur 25 (0, 0)) := (Below.heap_alloc _ _ _ (Array.getElem?_eq_some_iff.1 hb).1).trans hb
      have hnews := World.news_of_block (cs := #[x]) (t := 25) (fr := (0, 0)) (heap_alloc_new W _)
      by_cases hroom : k + 1 ≤ cap
      · have hr := run_append_room (P := Try.prog) (W.alloc (.cells #[x] 25)) 24 24 25 i0 Try.underlying24 hi g k cap cur hb1 ⟨W.heap.size, 0, none⟩ 1 1 [x] (by rw [hz1]; rfl) hnews (by simpa using hx) hroom (by rw [hz1]; simp; omega)
        refine ⟨g, cap, _, hr, ⟨by simp [hl], .inr ⟨g, cap, _, rfl, hg0, setRow_heap _ g cur _ _ _ hb1, hroom, hmc, ?_, ?_⟩⟩, ⟨rfl, rfl, rfl, by simp, fun j _ hj => setRow_other _ g j _ (fun e => hj (by simp [Value.ownBlock, e]))⟩, .inl rfl⟩
        · simp only [hz1, Nat.mul_one, List.size_toArray, List.length_append, List.length_take, List.length_drop, Array.length_toList, List.length_cons, List.length_nil]
          omega
        · simp only [hz1, Nat.mul_one, ht]
          rw [List.take_left' (by simp [hl])]
      · have hr := run_append_grow (P := Try.prog) (W.alloc (.cells #[x] 25)) 24 24 25 i0 (.slice none 0 0) Try.underlying24 hi hz0 ⟨g, 0, none⟩ k cap vs (by rw [hz1]; simpa using hl) (fun j u hu => (World.cell?_of_block (w := W) (by rw [blockOf_add]; exact hb1.trans hb.symm)).trans (hcl.cells (g := g) rfl j u hu)) ⟨W.heap.size, 0, none⟩ 1 1 [x] (by rw [hz1]; rfl) hnews (by omega) (by omega) (by
          obtain rfl : cap = k := by omega
          rw [hz2]
          have := nextcap_succ cap
          omega)
        have hge := grownCap_ge (W.alloc (.cells #[x] 25)) (k + 1) cap 25
        have hcm : grownCap (W.alloc (.cells #[x] 25)) (k + 1) cap 25 ≤ maxLen := grownCap_le_maxLen _ _ _ _ (by unfold maxLen; omega)
        refine ⟨_, _, _, hr, ⟨by simp [hl], .inr ⟨_, _, _, rfl, Nat.zero_le _, heap_alloc_new _ _, hge, hcm, ?_, ?_⟩⟩, ⟨rfl, rfl, rfl, by simp, fun j hj _ => Below.heap_alloc _ _ _ hj⟩, .inr (by simp)⟩
        · simp only [Array.size_append, List.size_toArray, size_zeroCells, hl, Nat.mul_one]
          show k + 1 + (grownCap _ (k + 1) cap _ - (k + 1)) * 1 = _
          omega
        · simp only [Array.toList_append, List.append_assoc, Nat.mul_one]
          rw [← List.append_assoc]
          exact List.take_left' (by simp [hl])
end Go.Proofs.Ytohgdjlgbnpobaa
end

section
namespace Go.Proofs.Ytohgdjlgbnpobaa
open Go.RowKit Go.Maps

/-- The blocks of one owner. -/
abbrev ofL (lab : Nat → Nat) (x : Nat) : Nat → Prop := fun k => lab k = x
/-- New blocks get an owner. -/
def relab (lab : Nat → Nat) (a b x : Nat) : Nat → Nat := fun k => if a ≤ k ∧ k < b then x else lab k
theorem relab_old {lab : Nat → Nat} {a b x k : Nat} (h : k < a) : relab lab a b x k = lab k := by
  unfold relab; rw [if_neg (by omega)]
theorem relab_new {lab : Nat → Nat} {a b x k : Nat} (h : a ≤ k) (h2 : k < b) : relab lab a b x k = x := by
  unfold relab; rw [if_pos ⟨h, h2⟩]
theorem relab_far {lab : Nat → Nat} {a b x k : Nat} (h : b ≤ k) : relab lab a b x k = lab k := by
  unfold relab; rw [if_neg (by omega)]

/-- What is not there yet is nobody's. -/
def LZ (lab : Nat → Nat) (w : World) : Prop := ∀ k, w.heap.size ≤ k → lab k = 0

/-- Blocks by owner: the blocks of X alone may change; what is new is X's or nobody's. -/
structure Gro (lab lab' : Nat → Nat) (w w' : World) (X : Nat → Prop) : Prop where
  kp : Keeps (fun k => X (lab k)) w w'
  old : ∀ k, k < w.heap.size → lab' k = lab k
  new : ∀ k, w.heap.size ≤ k → lab' k = 0 ∨ X (lab' k)
  lz : LZ lab' w'

section
variable {lab lab' lab2 : Nat → Nat} {w w' w2 : World} {X Y Z : Nat → Prop}
theorem Gro.refl (hz : LZ lab w) (X : Nat → Prop) : Gro lab lab w w X := ⟨Keeps.refl _ _, fun _ _ => rfl, fun k hk => .inl (hz k hk), hz⟩
theorem Gro.join (h : Gro lab lab' w w' X) (h2 : Gro lab' lab2 w' w2 Y) (hX : ∀ y, X y → Z y) (hY : ∀ y, Y y → Z y) : Gro lab lab2 w w2 Z := by
  refine ⟨(h.kp.mono (fun k => hX _)).trans h2.kp (fun j hj => ?_), fun k hk => ?_, fun k hk => ?_, h2.lz⟩
  · by_cases e : j < w.heap.size
    · left
      rw [h.old j e] at hj
      exact hY _ hj
    · exact .inr (by omega)
  · rw [h2.old k (Nat.lt_of_lt_of_le hk h.kp.size), h.old k hk]
  · by_cases e : k < w'.heap.size
    · rw [h2.old k e]
      exact (h.new k hk).imp id (hX _)
    · exact (h2.new k (by omega)).imp id (hY _)
theorem Gro.trans (h : Gro lab lab' w w' X) (h2 : Gro lab' lab2 w' w2 X) : Gro lab lab2 w w2 X := h.join h2 (fun _ h => h) (fun _ h => h)
theorem Gro.mono (h : Gro lab lab' w w' X) (hX : ∀ y, X y → Z y) : Gro lab lab' w w' Z := ⟨h.kp.mono (fun _ => hX _), h.old, fun k hk => (h.new k hk).imp id (hX _), h.lz⟩
theorem Gro.below (hz : LZ lab w) (hb : Below w.heap.size w w') (X : Nat → Prop) : Gro lab lab w w' X := ⟨Keeps.of_below _ hb, fun _ _ => rfl, fun k hk => .inl (hz k hk), fun k hk => hz k (Nat.le_trans hb.size hk)⟩
/-- What is new becomes x's. -/
theorem Gro.keeps (hz : LZ lab w) {F : Nat → Prop} (hk : Keeps F w w') (x : Nat) (hF : ∀ k, k < w.heap.size → F k → lab k = x) : Gro lab (relab lab w.heap.size w'.heap.size x) w w' (fun y => y = x) := by
  refine ⟨⟨hk.os, hk.tape, hk.output, hk.size, fun k h1 h2 => hk.block k h1 (fun hf => h2 (hF k h1 hf))⟩, fun k hk => relab_old hk, fun k h1 => ?_, fun k h1 => ?_⟩
  · by_cases e : k < w'.heap.size
    · exact .inr (relab_new h1 e)
    · left
      rw [relab_far (by omega)]
      exact hz k h1
  · rw [relab_far h1]
    exact hz k (Nat.le_trans hk.size h1)
/-- What is new stays nobody's. -/
theorem Gro.plain (hz : LZ lab w) {F : Nat → Prop} (hk : Keeps F w w') (hF : ∀ k, k < w.heap.size → F k → X (lab k)) : Gro lab lab w w' X :=
  ⟨⟨hk.os, hk.tape, hk.output, hk.size, fun k h1 h2 => hk.block k h1 (fun hf => h2 (hF k h1 hf))⟩, fun _ _ => rfl, fun k h1 => .inl (hz k h1), fun k h1 => hz k (Nat.le_trans hk.size h1)⟩
theorem Gro.block (h : Gro lab lab' w w' X) {k y : Nat} (hk : k < w.heap.size) (hy : lab k = y) (hX : ¬ X y) : w'.heap[k]? = w.heap[k]? := h.kp.block k hk (fun hx => hX (hy ▸ hx))
theorem Gro.tag (h : Gro lab lab' w w' X) {k y : Nat} (hk : k < w.heap.size) (hy : lab k = y) : lab' k = y := (h.old k hk).trans hy
theorem Gro.lowB (h : Gro lab lab' w w' X) {B : Nat} (hB : B ≤ w.heap.size) (hl : ∀ k, lab k ≠ 0 → B ≤ k) : ∀ k, lab' k ≠ 0 → B ≤ k := fun k hk => by
  by_cases e : k < w.heap.size
  · exact hl k (by rw [← h.old k e]; exact hk)
  · omega
theorem Gro.belowB (h : Gro lab lab' w w' X) {B : Nat} (hB : B ≤ w.heap.size) (hl : ∀ k, lab k ≠ 0 → B ≤ k) (h0 : ¬ X 0) : Below B w w' :=
  h.kp.below (fun k hx => hl k (fun e => h0 (e ▸ hx))) hB

theorem more_lab {x : Nat} (hz : LZ lab w) (hs : w.heap.size ≤ w'.heap.size) (hx : x ≠ 0) : (∀ k, more (ofL lab x) w w' k → ofL (relab lab w.heap.size w'.heap.size x) x k) ∧ ∀ k, ofL (relab lab w.heap.size w'.heap.size x) x k → k < w'.heap.size := by
  refine ⟨fun k hk => ?_, fun k hk => ?_⟩
  · show relab lab w.heap.size w'.heap.size x k = x
    rcases hk with hk | hk
    · unfold relab
      split
      · rfl
      · exact hk
    · exact relab_new hk.1 hk.2
  · apply Decidable.byContradiction
    intro hn
    have : relab lab w.heap.size w'.heap.size x k = x := hk
    rw [relab_far (by omega), hz k (by omega)] at this
    exact hx this.symm
end

/-- A row that has one owner. -/
def OR (w : World) (lab : Nat → Nat) (y : Nat) (e : TypeId) (v : Value) (n : Nat) (xs : List Value) : Prop := w.ownsRow 0 e 1 v n xs ∧ ∀ g, v.ownBlock = some g → lab g = y
/-- Bytes that have one owner. -/
def SL (w : World) (lab : Nat → Nat) (y : Nat) (a : Option Addr) (n : Nat) (l : List Int) : Prop := Src w a n l ∧ ∀ z, a = some z → 0 < n → lab z.block = y
/-- A list of lists of bytes: the row has the owner yr, the i-th list's bytes have yb i. Behind them more values, of which nothing is told. -/
def LX (w : World) (lab : Nat → Nat) (yr : Nat) (yb : Nat → Nat) (v : Value) (ds : List (List Int)) (xs : List Value) : Prop :=
  ∃ vs : List Value, vs.length = ds.length ∧ OR w lab yr 25 v (ds.length + xs.length) (vs ++ xs) ∧ ∀ i (hi : i < ds.length), ∃ a c, vs[i]? = some (.slice a (ds[i]).length c) ∧ SL w lab (yb i) a (ds[i]).length ds[i]

section
variable {lab lab' : Nat → Nat} {w w' : World} {X : Nat → Prop} {y yr n : Nat} {yb : Nat → Nat} {v : Value} {e : TypeId} {xs : List Value} {ds : List (List Int)}
theorem OR.nil (w : World) (lab : Nat → Nat) (y : Nat) (e : TypeId) : OR w lab y e (.slice none 0 0) 0 [] := ⟨World.ownsRow_nil _ _ _ _, fun g h => by simp [Value.ownBlock] at h⟩
theorem OR.gro (h : OR w lab y e v n xs) (g : Gro lab lab' w w' X) (hX : ¬ X y) : OR w' lab' y e v n xs :=
  ⟨rowAgree h.1 (fun k hk => g.block (rowLt h.1 hk) (h.2 k hk) hX), fun k hk => g.tag (rowLt h.1 hk) (h.2 k hk)⟩
theorem OR.form (h : OR w lab y e v n xs) : ∃ a c, v = .slice a n c := by
  obtain ⟨⟨hl, ⟨rfl, h3⟩ | ⟨g, cap, cur, rfl, _⟩⟩, _⟩ := h
  · exact ⟨none, 0, by rw [h3]⟩
  · exact ⟨_, _, rfl⟩
theorem OR.row (h : OR w lab y e v n xs) (hn : 0 < n) : ∃ g c, v = .slice (some ⟨g, 0, none⟩) n c ∧ RowAt w e g c xs ∧ lab g = y ∧ n ≤ c := by
  obtain ⟨g, c, rfl, _, hr, hl⟩ := RowAt.of_owns h.1 (by rintro rfl; obtain ⟨_, ⟨_, h3⟩ | ⟨g, cap, cur, h4, _⟩⟩ := h.1; omega; cases h4)
  exact ⟨g, c, rfl, hr, h.2 g rfl, by have := hr.le; omega⟩
theorem OR.src {l : List Int} (h : OR w lab y 5 v n (bs l)) : ∃ a c, v = .slice a n c ∧ SL w lab y a n l ∧ n ≤ c := by
  obtain ⟨⟨hl, ⟨rfl, rfl⟩ | ⟨g, cap, cur, rfl, h0, hb, hn, hm, hc, ht⟩⟩, h2⟩ := h
  · have : l = [] := by simpa using hl
    subst this
    exact ⟨none, 0, rfl, ⟨⟨rfl, fun _ => rfl, fun x hx => by cases hx⟩, fun z hz => by cases hz⟩, Nat.le_refl _⟩
  · have hl' : l.length = n := by simpa using hl
    have hr : RowAt w 5 g cap (bs l) := ⟨cur, hb, by omega, by simpa [hl'] using ht, hm⟩
    exact ⟨_, cap, rfl, ⟨hl' ▸ hr.src, fun z hz _ => by cases hz; exact h2 g rfl⟩, hn⟩
theorem SL.gro {a : Option Addr} {l : List Int} (h : SL w lab y a n l) (g : Gro lab lab' w w' X) (hX : ¬ X y) : SL w' lab' y a n l := by
  refine ⟨h.1.past g.kp (fun z hz hp hq => hX (h.2 z hz hp ▸ hq)), fun z hz hp => g.tag ?_ (h.2 z hz hp)⟩
  have h0 := World.block_lt_of_cell? _ _ (h.1.2.2 z hz 0 hp)
  rw [blockOf_add] at h0
  exact h0
theorem LX.nil (w : World) (lab : Nat → Nat) (yr : Nat) (yb : Nat → Nat) : LX w lab yr yb (.slice none 0 0) [] [] := ⟨[], rfl, OR.nil _ _ _ _, fun i hi => by cases hi⟩
theorem LX.gro (h : LX w lab yr yb v ds xs) (g : Gro lab lab' w w' X) (h1 : ¬ X yr) (h2 : ∀ i, i < ds.length → ¬ X (yb i)) : LX w' lab' yr yb v ds xs := by
  obtain ⟨vs, hl, ho, he⟩ := h
  refine ⟨vs, hl, ho.gro g h1, fun i hi => ?_⟩
  obtain ⟨a, c, e1, e2⟩ := he i hi
  exact ⟨a, c, e1, e2.gro g (h2 i hi)⟩
theorem LX.close {a : Option Addr} {d : List Int} {c : Nat} (h : LX w lab yr yb v ds (.slice a d.length c :: xs)) (hs : SL w lab (yb ds.length) a d.length d) : LX w lab yr yb v (ds ++ [d]) xs := by
  obtain ⟨vs, hl, ho, he⟩ := h
  refine ⟨vs ++ [.slice a d.length c], by simp [hl], ?_, fun i hi => ?_⟩
  · rw [List.append_assoc, List.length_append]
    have e : ds.length + (xs.length + 1) = ds.length + 1 + xs.length := by omega
    simpa [e] using ho
  · by_cases e : i < ds.length
    · obtain ⟨a2, c2, e1, e2⟩ := he i e
      refine ⟨a2, c2, ?_, ?_⟩
      · rw [List.getElem?_append_left (by omega), e1, List.getElem_append_left e]
      · rw [List.getElem_append_left e]
        exact e2
    · have ei : i = ds.length := by simp at hi; omega
      subst ei
      refine ⟨a, c, ?_, ?_⟩
      · rw [List.getElem?_append_right (by omega), hl]
        simp
      · simp only [List.getElem_append_right (Nat.le_refl _), Nat.sub_self, List.getElem_cons_zero]
        exact hs
/-- The list's i-th. -/
theorem LX.at (h : LX w lab yr yb v ds []) {i : Nat} (hi : i < ds.length) : ∃ g cap a c, v = .slice (some ⟨g, 0, none⟩) ds.length cap ∧ w.cell? ⟨g, i, none⟩ = some (.slice a (ds[i]).length c) ∧ SL w lab (yb i) a (ds[i]).length ds[i] := by
  obtain ⟨vs, hl, ho, he⟩ := h
  obtain ⟨g, c, rfl, hr, _, _⟩ := ho.row (by simp; omega)
  obtain ⟨a, c2, e1, e2⟩ := he i hi
  exact ⟨g, c, a, c2, rfl, hr.cell (by rw [List.append_nil]; exact e1), e2⟩
theorem LX.form (h : LX w lab yr yb v ds []) : ∃ a c, v = .slice a ds.length c := by
  obtain ⟨vs, hl, ho, he⟩ := h
  obtain ⟨a, c, rfl⟩ := ho.form
  exact ⟨a, c, by simp⟩
/-- One more value at the row's end. -/
theorem LX.push (h : LX w lab yr yb v ds xs) (hz : LZ lab w) (h0 : ∀ i, yr ≠ yb i) (hn : ds.length + xs.length ≤ 7000000000000) (x : Value) (hx : x.oneCell' = true) :
    ∃ g' cap' w', (Builtin.append_ #[24, 24] 24 #[v, .slice (some ⟨w.heap.size, 0, none⟩) 1 1]).run Try.prog (w.alloc (.cells #[x] 25)) = .ok (.slice (some ⟨g', 0, none⟩) (ds.length + xs.length + 1) cap') w' ∧ ∃ lab', Gro lab lab' w w' (fun y => y = yr) ∧ LX w' lab' yr yb (.slice (some ⟨g', 0, none⟩) (ds.length + xs.length + 1) cap') ds (xs ++ [x]) := by
  obtain ⟨vs, hl, ho, he⟩ := h
  obtain ⟨g', cap', w', hrun, hw, hg, hat⟩ := app_list2 ho.1 x hx hn
  have hbx := below_box w (.cells #[x] 25)
  have hk : Keeps (fun k => v.ownBlock = some k) w w' := ⟨hg.os.trans hbx.os, hg.tape.trans hbx.tape, hg.output.trans hbx.output, Nat.le_trans hbx.size hg.size, fun k hk hq => (hg.block k (Nat.lt_of_lt_of_le hk hbx.size) (fun e => hq e.symm)).trans (hbx.block k hk)⟩
  have G := Gro.keeps hz hk yr (fun k _ hf => ho.2 k hf)
  refine ⟨g', cap', w', hrun, _, G, vs, hl, ⟨?_, fun k hk' => ?_⟩, fun i hi => ?_⟩
  · rw [← List.append_assoc, List.length_append, ← Nat.add_assoc]
    exact hw
  · have e : k = g' := by simpa [Value.ownBlock] using hk'.symm
    subst e
    rcases hat with e | e
    · exact G.tag (rowLt ho.1 e) (ho.2 _ e)
    · exact relab_new (by omega) (rowLt hw rfl)
  · obtain ⟨a, c, e1, e2⟩ := he i hi
    exact ⟨a, c, e1, e2.gro G (fun e => h0 i e.symm)⟩
end
end Go.Proofs.Ytohgdjlgbnpobaa
end

section
namespace Go.Proofs.Ytohgdjlgbnpobaa
open Go.RowKit Go.Maps

section
variable {lab : Nat → Nat} {w : World} {y n : Nat} {v : Value} {l : List Int}
/-- A byte is written. -/
theorem OR.put (h : OR w lab y 5 v n (bs l)) (hz : LZ lab w) {i : Nat} (hi : i < n) (m : Int) : ∃ g c, v = .slice (some ⟨g, 0, none⟩) n c ∧ w.cell? ⟨g, i, none⟩ = some (.int .u8 (l.getD i 0)) ∧ w.frozen? ⟨g, i, none⟩ = false ∧ n ≤ c ∧ Gro lab lab w (w.setCell ⟨g, i, none⟩ (.int .u8 m)) (fun x => x = y) ∧ OR (w.setCell ⟨g, i, none⟩ (.int .u8 m)) lab y 5 v n (bs (l.set i m)) := by
  obtain ⟨⟨hl, ⟨rfl, rfl⟩ | ⟨g, cap, cur, rfl, h0, hb, hn, hm, hc, ht⟩⟩, h2⟩ := h
  · omega
  · have hl' : l.length = n := by simpa using hl
    have hr : RowAt w 5 g cap (bs l) := ⟨cur, hb, by omega, by simpa [hl'] using ht, hm⟩
    refine ⟨g, cap, rfl, ?_, hr.frozen i, hn, Gro.plain hz (Keeps.setCell (F := fun k => k = g) w (p := ⟨g, i, none⟩) rfl _) (fun k _ e => by rw [e]; exact h2 g rfl), ⟨by simpa using hl, .inr ⟨g, cap, cur.setIfInBounds i (.int .u8 m), rfl, h0, heap_setCell_same _ _ i _ _ _ hb, hn, hm, by simpa using hc, ?_⟩⟩, h2⟩
    · exact hr.cell (by simp [bs, List.getD, hl', hi])
    · simp only [Nat.mul_one] at ht ⊢
      simp only [Array.toList_setIfInBounds, List.take_set, ht, bs, List.map_set]
/-- Bytes are appended: the list's own stay. -/
theorem OR.app (h : OR w lab y 5 v n (bs l)) (hz : LZ lab w) (ad : Addr) (m c : Nat) (nw : List Int) (hm : nw.length = m) (hnw : ∀ j u, (bs nw)[j]? = some u → w.cell? (ad.add j) = some u) (h0 : 0 < m) (hb : n + m ≤ 100000000000000) :
    ∃ g' cap' w', (Builtin.append_ #[25, 25] 25 #[v, .slice (some ad) m c]).run Try.prog w = .ok (.slice (some ⟨g', 0, none⟩) (n + m) cap') w' ∧ ∃ lab', Gro lab lab' w w' (fun x => x = y) ∧ OR w' lab' y 5 (.slice (some ⟨g', 0, none⟩) (n + m) cap') (n + m) (bs (l ++ nw)) ∧ OR w' lab' y 5 v n (bs l) := by
  obtain ⟨i0, hi, hz0, hz1, hz2⟩ := info_parts infoU8
  have hlen : (bs nw).length = m * 1 := by simp [bs, hm]
  have hone : ∀ u ∈ bs nw, u.oneCell' = true := by
    intro u hu
    obtain ⟨x, _, rfl⟩ := List.mem_map.1 hu
    rfl
  obtain ⟨g', cap', w', hr, hw, hg, hat, hlt⟩ := run_append_lies (P := Try.prog) w 25 25 0 5 i0 (.int .u8 0) 1 1 Try.underlying25 hi hz0 hz1 hz2 rfl (by decide) v n (bs l) h.1 ad m c (bs nw) hlen hnw hone h0 (by unfold maxLen; omega) (by omega) (Nat.zero_le _) _ rfl
  have hk : Keeps (fun k => v.ownBlock = some k) w w' := ⟨hg.os, hg.tape, hg.output, hg.size, fun k hk hq => hg.block k hk (fun e => hq e.symm)⟩
  have G := Gro.keeps hz hk y (fun k _ hf => h.2 k hf)
  refine ⟨g', cap', w', hr, _, G, ⟨by rw [show bs (l ++ nw) = bs l ++ bs nw by simp [bs]]; exact hw, fun k hk' => ?_⟩, ?_, fun k hk' => G.tag (rowLt h.1 hk') (h.2 k hk')⟩
  · have e : k = g' := by simpa [Value.ownBlock] using hk'.symm
    subst e
    rcases hat with e | e
    · exact G.tag (rowLt h.1 e) (h.2 _ e)
    · exact relab_new (by omega) hlt
  · obtain ⟨hl, ⟨rfl, rfl⟩ | ⟨g, cap, cur, rfl, hg0, hblk, hnc, hmc, hcs, ht⟩⟩ := h.1
    · exact ⟨hl, .inl ⟨rfl, rfl⟩⟩
    · simp only [Nat.mul_one] at hl hcs ht
      by_cases hroom : n + m ≤ cap
      · have hr2 := run_append_room (P := Try.prog) w 25 25 5 i0 Try.underlying25 hi g n cap cur hblk ad m c (bs nw) (by rw [hz1]; exact hlen) hnw hone hroom (by rw [hz1, hlen]; omega)
        rw [hr] at hr2
        injection hr2 with e1 e2
        injection e1 with e3 e4 e5
        injection e3 with e6
        injection e6 with e7
        subst e7
        subst e5
        obtain ⟨hl2, ⟨hh, _⟩ | ⟨g2, cap2, cur2, hh, _, hb2, hn2, hm2, hc2, ht2⟩⟩ := hw
        · cases hh
        · injection hh with q1 q2 q3
          injection q1 with q4
          injection q4 with q5
          subst q5
          subst q3
          simp only [Nat.mul_one] at hc2 ht2
          refine ⟨by simpa using hl, .inr ⟨_, _, cur2, rfl, Nat.zero_le _, hb2, hnc, hmc, by simpa using hc2, ?_⟩⟩
          simp only [Nat.mul_one]
          have := congrArg (List.take n) ht2
          rw [List.take_take, Nat.min_eq_left (by omega)] at this
          rw [this, List.take_left' hl]
      · have hr2 := run_append_grow (P := Try.prog) w 25 25 5 i0 (.int .u8 0) Try.underlying25 hi hz0 ⟨g, 0, none⟩ n cap (bs l) (by rw [hz1]; simpa using hl) (h.1.cells (g := g) rfl) ad m c (bs nw) (by rw [hz1]; exact hlen) hnw (by omega) (by omega) (growslice_fits (by omega) (by rw [hz2]; omega))
        rw [hr] at hr2
        injection hr2 with e1 e2
        refine ⟨by simpa using hl, .inr ⟨g, cap, cur, rfl, Nat.zero_le _, ?_, hnc, hmc, by simpa using hcs, by simpa using ht⟩⟩
        rw [e2, Below.heap_alloc w.drew _ g (Array.getElem?_eq_some_iff.1 hblk).1]
        exact hblk
set_option maxRecDepth 20000 in
/-- Where the bytes that are appended are one mark, each such mark stays. -/
theorem OR.stay (h : OR w lab y 5 v n (bs l)) (ad : Addr) (m c : Nat) (nw : List Int) (hm : nw.length = m) (hnw : ∀ j u, (bs nw)[j]? = some u → w.cell? (ad.add j) = some u) (h0 : 0 < m) (hb : n + m ≤ 1000000000) {r : Value} {w' : World}
    (hr : (Builtin.append_ #[25, 25] 25 #[v, .slice (some ad) m c]).run Try.prog w = .ok r w') {x : Int} (hx : ∀ z ∈ nw, z = x) {k o : Nat} (hc : w.cell? ⟨k, o, none⟩ = some (.int .u8 x)) : w'.cell? ⟨k, o, none⟩ = some (.int .u8 x) := by
  obtain ⟨i0, hi, hz0, hz1, hz2⟩ := info_parts infoU8
  have hlen : (bs nw).length = m * 1 := by simp [bs, hm]
  have hone : ∀ u ∈ bs nw, u.oneCell' = true := by
    intro u hu
    obtain ⟨x, _, rfl⟩ := List.mem_map.1 hu
    rfl
  obtain ⟨g', cap', w2, hr2, hw, hg, hat, hlt⟩ := run_append_lies (P := Try.prog) w 25 25 0 5 i0 (.int .u8 0) 1 1 Try.underlying25 hi hz0 hz1 hz2 rfl (by decide) v n (bs l) h.1 ad m c (bs nw) hlen hnw hone h0 (by unfold maxLen; omega) (by omega) (Nat.zero_le _) _ rfl
  rw [hr] at hr2
  injection hr2 with e1 e2
  subst e2
  have hkl := World.block_lt_of_cell? _ _ hc
  by_cases hk : v.ownBlock = some k
  · obtain ⟨hl, ⟨rfl, rfl⟩ | ⟨g, cap, cur, rfl, hg0, hblk, hnc, hmc, hcs, ht⟩⟩ := h.1
    · cases hk
    · obtain rfl : g = k := by simpa [Value.ownBlock] using hk
      simp only [Nat.mul_one] at hl hcs ht
      by_cases hroom : n + m ≤ cap
      · have hr3 := run_append_room (P := Try.prog) w 25 25 5 i0 Try.underlying25 hi g n cap cur hblk ad m c (bs nw) (by rw [hz1]; exact hlen) hnw hone hroom (by rw [hz1, hlen]; omega)
        rw [hr] at hr3
        injection hr3 with e3 e4
        have hblk2 := setRow_heap w g cur (cur.toList.take (n * i0.size) ++ bs nw ++ cur.toList.drop (n * i0.size + (bs nw).length)).toArray _ _ hblk
        rw [← e4] at hblk2
        rw [hz1, Nat.mul_one] at hblk2
        simp only [World.cell?, hblk] at hc
        simp only [World.cell?, hblk2]
        have hc' : cur.toList[o]? = some (.int .u8 x) := by simpa using hc
        have hbl : (bs nw).length = m := by simpa using hlen
        have hn1 : (cur.toList.take n).length = n := by simp; omega
        have hgoal : (cur.toList.take n ++ bs nw ++ cur.toList.drop (n + (bs nw).length))[o]? = some (.int .u8 x) := by
          by_cases o1 : o < n
          · rw [List.getElem?_append_left (by simp [List.length_append]; omega), List.getElem?_append_left (by omega), List.getElem?_take, if_pos o1]
            exact hc'
          · by_cases o2 : o < n + m
            · rw [List.getElem?_append_left (by rw [List.length_append]; omega), List.getElem?_append_right (by omega), hn1]
              have hlt2 : o - n < nw.length := by omega
              simp only [bs, List.getElem?_map, List.getElem?_eq_getElem hlt2, Option.map_some, Option.some.injEq, Value.int.injEq, true_and]
              exact hx _ (List.getElem_mem hlt2)
            · rw [List.getElem?_append_right (by rw [List.length_append]; omega), List.length_append, hn1, hbl, List.getElem?_drop, show n + m + (o - (n + m)) = o by omega]
              exact hc'
        simpa using hgoal
      · have hr3 := run_append_grow (P := Try.prog) w 25 25 5 i0 (.int .u8 0) Try.underlying25 hi hz0 ⟨g, 0, none⟩ n cap (bs l) (by rw [hz1]; simpa using hl) (h.1.cells (g := g) rfl) ad m c (bs nw) (by rw [hz1]; exact hlen) hnw (by omega) (by omega) (growslice_fits (by omega) (by rw [hz2]; omega))
        rw [hr] at hr3
        injection hr3 with e3 e4
        refine (World.cell?_of_block (w := w) (a := ⟨g, o, none⟩) ?_).trans hc
        rw [e4]
        exact Below.heap_alloc w.drew _ g hkl
  · exact (World.cell?_of_block (w := w) (a := ⟨k, o, none⟩) (hg.block k hkl (fun e => hk e.symm))).trans hc
end
end Go.Proofs.Ytohgdjlgbnpobaa
end
