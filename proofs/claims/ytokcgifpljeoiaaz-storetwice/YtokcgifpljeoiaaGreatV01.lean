import Derived.Laws.BitsAllLaws
import Derived.Test.YtokcgifpljeoiaaGreatRows
import Derived.WalkKit
import Derived.WalkSpells
import Derived.WalkLawsBesides
import Derived.Below
import Derived.Laws.CopyOwn
import Derived.Lib.SliceRun
import Derived.Deep.QuietTactic
import Derived.BigQuiet
import Derived.Maps.RangeWalk
section
namespace Go.Proofs.YtokcgifpljeoiaaGreat

/-- One bit of the checksum's register. -/
def cb (r : Nat) : Nat := r / 2 ^^^ (if r % 2 = 1 then 2197175160 else 0)
/-- Many bits. -/
def cbs : Nat → Nat → Nat
  | 0, r => r
  | n + 1, r => cbs n (cb r)
/-- A list of bytes as one number, the lowest byte first. -/
def le : List Int → Nat
  | [] => 0
  | x :: t => x.toNat + 256 * le t
/-- The list holds bytes. -/
def Bytes (l : List Int) : Prop := ∀ x ∈ l, 0 ≤ x ∧ x < 256

theorem cb_xor (a b : Nat) : cb (a ^^^ b) = cb a ^^^ cb b := by
  unfold cb
  have h : (a ^^^ b) % 2 = (a + b) % 2 := by
    have e := Nat.testBit_xor a b 0
    simp only [Nat.testBit_zero] at e
    rcases Nat.mod_two_eq_zero_or_one a with ha | ha <;> rcases Nat.mod_two_eq_zero_or_one b with hb | hb <;> rcases Nat.mod_two_eq_zero_or_one (a ^^^ b) with hc | hc <;> rw [ha, hb, hc] at e <;> first | omega | exact absurd e (by decide)
  have hd : (a ^^^ b) / 2 = a / 2 ^^^ b / 2 := Nat.xor_div_two
  rw [hd]
  rcases Nat.mod_two_eq_zero_or_one a with ha | ha <;> rcases Nat.mod_two_eq_zero_or_one b with hb | hb
  · have : (a ^^^ b) % 2 = 0 := by omega
    simp [ha, hb, this]
  · have : (a ^^^ b) % 2 = 1 := by omega
    simp [ha, hb, this, Nat.xor_assoc]
  · have : (a ^^^ b) % 2 = 1 := by omega
    simp only [ha, hb, this, if_true]
    rw [Nat.xor_assoc, Nat.xor_assoc, Nat.xor_comm (b / 2)]
    simp
  · have : (a ^^^ b) % 2 = 0 := by omega
    simp only [ha, hb, this, if_true]
    rw [Nat.xor_assoc, Nat.xor_assoc, ← Nat.xor_assoc (2197175160) (b / 2), Nat.xor_comm 2197175160 (b / 2), Nat.xor_assoc (b / 2), Nat.xor_self]
    simp
theorem cbs_xor (n a b : Nat) : cbs n (a ^^^ b) = cbs n a ^^^ cbs n b := by
  induction n generalizing a b with
  | zero => rfl
  | succ n ih => simp only [cbs, cb_xor, ih]
theorem cb_lt {r : Nat} (h : r < 4294967296) : cb r < 4294967296 := by
  unfold cb
  have : r / 2 ^^^ (if r % 2 = 1 then 2197175160 else 0) < 2 ^ 32 := Nat.xor_lt_two_pow (by omega) (by split <;> omega)
  omega
theorem cbs_lt (n : Nat) {r : Nat} (h : r < 4294967296) : cbs n r < 4294967296 := by
  induction n generalizing r with
  | zero => exact h
  | succ n ih => exact ih (cb_lt h)
theorem cbs_add (n m r : Nat) : cbs (n + m) r = cbs m (cbs n r) := by
  induction n generalizing r with
  | zero => simp [cbs]
  | succ n ih => rw [Nat.succ_add]; simp only [cbs]; exact ih (cb r)
theorem cb_even (m : Nat) : cb (2 * m) = m := by
  unfold cb
  have h1 : 2 * m / 2 = m := by omega
  have h2 : 2 * m % 2 = 0 := by omega
  rw [h1, h2]
  simp
theorem cbs_pow (n m : Nat) : cbs n (2 ^ n * m) = m := by
  induction n generalizing m with
  | zero => simp [cbs]
  | succ n ih =>
    rw [Nat.pow_succ, show 2 ^ n * 2 * m = 2 * (2 ^ n * m) by rw [Nat.mul_comm (2 ^ n) 2, Nat.mul_assoc], cbs, cb_even, ih]
theorem add_xor (i a b : Nat) (h : b < 2 ^ i) : b + 2 ^ i * a = b ^^^ 2 ^ i * a := by
  apply Nat.eq_of_testBit_eq
  intro j
  rw [Nat.add_comm, Nat.testBit_two_pow_mul_add a h j, Nat.testBit_xor, Nat.testBit_two_pow_mul]
  by_cases hj : j < i
  · simp [hj, show ¬ i ≤ j by omega]
  · have : b.testBit j = false := Nat.testBit_lt_two_pow (Nat.lt_of_lt_of_le h (Nat.pow_le_pow_right (by decide) (by omega)))
    simp [hj, this, show i ≤ j by omega]
/-- Four bits by the table. -/
theorem cbs_nib (r : Nat) : cbs 4 r = r / 16 ^^^ cbs 4 (r % 16) := by
  have h : r = r % 16 ^^^ 2 ^ 4 * (r / 16) := by
    rw [← add_xor 4 (r / 16) (r % 16) (by omega)]
    omega
  conv => lhs; rw [h, cbs_xor, cbs_pow]
  exact Nat.xor_comm _ _

/-- The register behind the bytes. -/
def crc (r : Nat) (l : List Int) : Nat := cbs (8 * l.length) (r ^^^ le l)
/-- The checksum. -/
def sumOf (l : List Int) : Nat := crc 4294967295 l ^^^ 4294967295

theorem le_lt {l : List Int} (h : Bytes l) : le l < 2 ^ (8 * l.length) := by
  induction l with
  | nil => simp [le]
  | cons x t ih =>
    have h1 := h x (by simp)
    have h2 := ih (fun y hy => h y (by simp [hy]))
    simp only [le, List.length_cons]
    rw [show 8 * (t.length + 1) = 8 * t.length + 8 by omega, Nat.pow_add]
    have : x.toNat < 256 := by omega
    omega
theorem le_append (a b : List Int) : le (a ++ b) = le a + 2 ^ (8 * a.length) * le b := by
  induction a with
  | nil => simp [le]
  | cons x t ih =>
    simp only [List.cons_append, le, ih, List.length_cons]
    rw [show 8 * (t.length + 1) = 8 * t.length + 8 by omega, Nat.pow_add, Nat.mul_add]
    rw [show 2 ^ (8 * t.length) * 2 ^ 8 * le b = 256 * (2 ^ (8 * t.length) * le b) by rw [Nat.mul_comm (2 ^ (8 * t.length)) (2 ^ 8), Nat.mul_assoc]]
    omega
theorem le_xappend {a : List Int} (b : List Int) (h : Bytes a) : le (a ++ b) = le a ^^^ 2 ^ (8 * a.length) * le b := by
  rw [le_append, add_xor _ _ _ (le_lt h)]
theorem crc_nil (r : Nat) : crc r [] = r := by simp [crc, cbs, le]
theorem crc_append (r : Nat) {a : List Int} (b : List Int) (h : Bytes a) : crc r (a ++ b) = crc (crc r a) b := by
  unfold crc
  rw [le_xappend b h, List.length_append, Nat.mul_add, cbs_add, ← Nat.xor_assoc, cbs_xor (8 * a.length), cbs_pow]
theorem crc_snoc (r : Nat) {a : List Int} (x : Int) (h : Bytes a) : crc r (a ++ [x]) = cbs 8 (crc r a ^^^ x.toNat) := by
  rw [crc_append r _ h]
  simp [crc, le]
theorem crc_lt {r : Nat} {l : List Int} (hr : r < 4294967296) (h : Bytes l) : crc r l < 4294967296 := by
  induction l generalizing r with
  | nil => simpa [crc_nil] using hr
  | cons x t ih =>
    have hx := h x (by simp)
    have h1 : Bytes [x] := fun y hy => by simp at hy; subst hy; exact hx
    rw [show x :: t = [x] ++ t from rfl, crc_append r t h1]
    refine ih ?_ (fun y hy => h y (by simp [hy]))
    have : r ^^^ x.toNat < 2 ^ 32 := Nat.xor_lt_two_pow (by omega) (by omega)
    simpa [crc, le] using cbs_lt 8 (r := r ^^^ x.toNat) (by omega)
theorem sumOf_lt {l : List Int} (h : Bytes l) : sumOf l < 4294967296 := by
  have : crc 4294967295 l ^^^ 4294967295 < 2 ^ 32 := Nat.xor_lt_two_pow (by have := crc_lt (r := 4294967295) (by omega) h; omega) (by omega)
  unfold sumOf
  omega
/-- The bytes of a u32. -/
def bytes4 (s : Nat) : List Int := [((s % 256 : Nat) : Int), ((s / 256 % 256 : Nat) : Int), ((s / 65536 % 256 : Nat) : Int), ((s / 16777216 % 256 : Nat) : Int)]
end Go.Proofs.YtokcgifpljeoiaaGreat
end

section
namespace Go.Proofs.YtokcgifpljeoiaaGreat
open Go.RowKit

theorem infoU8 : (Tryz.prog.info? 5).map (fun i => (i.zero, i.size, i.bytes)) = some (some (.int .u8 0), 1, 1) := by kernel_rfl

theorem addr_add (g o i : Nat) : (⟨g, o, none⟩ : Addr).add i = ⟨g, o + i, none⟩ := by
  unfold Addr.add
  split <;> simp_all

/-- Bytes as cells. -/
abbrev bs (l : List Int) : List Value := l.map (Value.int .u8)

/-- Block g is a row of c cells of type e, none frozen, that begins with xs. -/
def RowAt (w : World) (e : TypeId) (g c : Nat) (xs : List Value) : Prop :=
  ∃ cur, w.heap[g]? = some (.cells cur e (0, 0)) ∧ cur.size = c ∧ cur.toList.take xs.length = xs ∧ c ≤ maxLen

theorem RowAt.lt {w : World} {e : TypeId} {g c : Nat} {xs : List Value} (h : RowAt w e g c xs) : g < w.heap.size := by
  obtain ⟨cur, hb, _⟩ := h
  exact (Array.getElem?_eq_some_iff.1 hb).1
theorem RowAt.le {w : World} {e : TypeId} {g c : Nat} {xs : List Value} (h : RowAt w e g c xs) : xs.length ≤ c := by
  obtain ⟨cur, _, rfl, ht, _⟩ := h
  have := congrArg List.length ht
  simp at this
  omega
theorem RowAt.max {w : World} {e : TypeId} {g c : Nat} {xs : List Value} (h : RowAt w e g c xs) : c ≤ maxLen := by
  obtain ⟨cur, _, _, _, h⟩ := h; exact h
theorem RowAt.cell {w : World} {e : TypeId} {g c : Nat} {xs : List Value} (h : RowAt w e g c xs) {j : Nat} {u : Value} (hu : xs[j]? = some u) : w.cell? ⟨g, j, none⟩ = some u := by
  obtain ⟨cur, hb, _, ht, _⟩ := h
  simp only [World.cell?, hb]
  have hj := (List.getElem?_eq_some_iff.1 hu).1
  rw [← ht, List.getElem?_take] at hu
  rw [if_pos hj] at hu
  simpa using hu
theorem RowAt.byte {w : World} {e : TypeId} {g c : Nat} {l : List Int} (h : RowAt w e g c (bs l)) {i : Nat} (hi : i < l.length) : w.cell? ((⟨g, 0, none⟩ : Addr).add i) = some (.int .u8 (l.getD i 0)) := by
  rw [addr_add, Nat.zero_add]
  exact h.cell (by simp [bs, List.getD, List.getElem?_eq_getElem hi])
theorem RowAt.agree {w w' : World} {e : TypeId} {g c : Nat} {xs : List Value} (h : RowAt w e g c xs) (hb : w'.heap[g]? = w.heap[g]?) : RowAt w' e g c xs := by
  obtain ⟨cur, h1, h2⟩ := h
  exact ⟨cur, hb.trans h1, h2⟩
theorem RowAt.owns {w : World} {e : TypeId} {g c : Nat} {xs : List Value} (h : RowAt w e g c xs) : w.ownsRow 0 e 1 (.slice (some ⟨g, 0, none⟩) xs.length c) xs.length xs := by
  have hle := h.le
  obtain ⟨cur, hb, hc, ht, hm⟩ := h
  exact ⟨by simp, .inr ⟨g, c, cur, rfl, Nat.zero_le _, hb, hle, hm, by simpa using hc, by simpa using ht⟩⟩
theorem RowAt.of_owns {w : World} {base : Nat} {e : TypeId} {v : Value} {n : Nat} {xs : List Value} (h : w.ownsRow base e 1 v n xs) (hv : v ≠ .slice none 0 0) :
    ∃ g c, v = .slice (some ⟨g, 0, none⟩) n c ∧ base ≤ g ∧ RowAt w e g c xs ∧ xs.length = n := by
  obtain ⟨hl, ⟨rfl, _⟩ | ⟨g, c, cur, rfl, hg, hb, hn, hm, hc, ht⟩⟩ := h
  · exact absurd rfl hv
  · simp only [Nat.mul_one] at hl hc ht
    exact ⟨g, c, rfl, hg, ⟨cur, hb, hc, by rw [hl]; exact ht, hm⟩, hl⟩

/-- w' is w but for new blocks and the blocks of F. -/
structure Keeps (F : Nat → Prop) (w w' : World) : Prop where
  os : w'.os = w.os
  tape : w'.tape = w.tape
  output : w'.output = w.output
  size : w.heap.size ≤ w'.heap.size
  block : ∀ k, k < w.heap.size → ¬ F k → w'.heap[k]? = w.heap[k]?

/-- The blocks that a thing has behind a call: those that it had, and what is new. -/
def more (F : Nat → Prop) (w w' : World) : Nat → Prop := fun k => F k ∨ (w.heap.size ≤ k ∧ k < w'.heap.size)

theorem Keeps.refl (F : Nat → Prop) (w : World) : Keeps F w w := ⟨rfl, rfl, rfl, Nat.le_refl _, fun _ _ _ => rfl⟩
theorem Keeps.trans {F G : Nat → Prop} {a b c : World} (h : Keeps F a b) (k : Keeps G b c) (hG : ∀ j, G j → F j ∨ a.heap.size ≤ j) : Keeps F a c :=
  ⟨k.os.trans h.os, k.tape.trans h.tape, k.output.trans h.output, Nat.le_trans h.size k.size, fun i hi hn =>
    (k.block i (Nat.lt_of_lt_of_le hi h.size) (fun hg => by rcases hG i hg with h1 | h1; exact hn h1; omega)).trans (h.block i hi hn)⟩
theorem Keeps.of_below {w w' : World} (F : Nat → Prop) (h : Below w.heap.size w w') : Keeps F w w' := ⟨h.os, h.tape, h.output, h.size, fun k hk _ => h.block k hk⟩
theorem Keeps.below {B : Nat} {F : Nat → Prop} {w w' : World} (h : Keeps F w w') (hF : ∀ k, F k → B ≤ k) (hB : B ≤ w.heap.size) : Below B w w' :=
  ⟨h.os, h.tape, h.output, h.size, fun k hk => h.block k (by omega) (fun hf => by have := hF k hf; omega)⟩
theorem Keeps.mono {F G : Nat → Prop} {w w' : World} (h : Keeps F w w') (hG : ∀ k, F k → G k) : Keeps G w w' := ⟨h.os, h.tape, h.output, h.size, fun k hk hn => h.block k hk (fun hf => hn (hG k hf))⟩
theorem Keeps.setCell {F : Nat → Prop} (w : World) {p : Addr} (hp : F p.block) (u : Value) : Keeps F w (w.setCell p u) :=
  ⟨rfl, rfl, rfl, by simp [World.setCell], fun k _ hn => Below.heap_setCell w p u k (fun e => hn (e ▸ hp))⟩
theorem Keeps.alloc (F : Nat → Prop) (w : World) (o : Obj) : Keeps F w (w.alloc o) := Keeps.of_below F ((Below.refl _ _).alloc (Nat.le_refl _) _)
theorem grown_setCell (w : World) (a : Addr) (v : Value) : w.grownBy (w.setCell a v) (some a.block) :=
  ⟨rfl, rfl, rfl, by simp [World.setCell], fun k _ hn => Below.heap_setCell w a v k (fun e => hn (by rw [e]))⟩

theorem cell_of_block {w : World} {g : Nat} {cur : Array Value} {e : TypeId} (hb : w.heap[g]? = some (.cells cur e (0, 0))) {j : Nat} {u : Value} (hu : cur[j]? = some u) : w.cell? ⟨g, j, none⟩ = some u := by
  simp only [World.cell?, hb]
  simpa using hu
theorem frozen_of_block {w : World} {g : Nat} {cur : Array Value} {e : TypeId} (hb : w.heap[g]? = some (.cells cur e (0, 0))) (j : Nat) : w.frozen? ⟨g, j, none⟩ = false := by
  simp [World.frozen?, hb]

/-- What is told of a list of bytes that is only read: n bytes at whatever address. -/
def Src (w : World) (a : Option Addr) (n : Nat) (l : List Int) : Prop :=
  l.length = n ∧ (a = none → n = 0) ∧ ∀ x, a = some x → ∀ i, i < n → w.cell? (x.add i) = some (.int .u8 (l.getD i 0))

theorem Src.at {w : World} {x : Addr} {n : Nat} {l : List Int} (h : Src w (some x) n l) {i : Nat} (hi : i < n) : w.cell? (x.add i) = some (.int .u8 (l.getD i 0)) := h.2.2 x rfl i hi
theorem RowAt.src {w : World} {e : TypeId} {g c : Nat} {l : List Int} (h : RowAt w e g c (bs l)) : Src w (some ⟨g, 0, none⟩) l.length l :=
  ⟨rfl, (fun h => by cases h), fun x hx i hi => by cases hx; exact h.byte hi⟩
theorem Src.spot {w : World} {x : Addr} {n : Nat} {l : List Int} (h : Src w (some x) n l) (hn : 0 < n) : ∃ b o, x = ⟨b, o, none⟩ ∧ ∀ i, i < n → w.cell? ⟨b, o + i, none⟩ = some (.int .u8 (l.getD i 0)) := by
  obtain ⟨b, o, sp⟩ := x
  have h0 := h.2.2 _ rfl 0 hn
  have hs : sp = none := by simpa [Addr.add] using World.cell?_spot h0
  subst hs
  exact ⟨b, o, rfl, fun i hi => by have := h.2.2 _ rfl i hi; rwa [addr_add] at this⟩
theorem Src.later {w w' : World} {a : Option Addr} {n : Nat} {l : List Int} (h : Src w a n l) (hb : Below w.heap.size w w') : Src w' a n l :=
  ⟨h.1, h.2.1, fun x hx i hi => cell_later hb (h.2.2 x hx i hi)⟩
theorem Hid.mk {p : Prop} (h : p) : Hid p := h

theorem made_row {w1 : World} {g n : Nat} {base : Nat} (hown : w1.ownsRow base 5 1 (.slice (some ⟨g, 0, none⟩) n n) n (madeCells #[Value.int .u8 0] n).toList) :
    RowAt w1 5 g n (bs (List.replicate n 0)) := by
  obtain ⟨g', c, hv, _, hr, _⟩ := RowAt.of_owns hown (by simp)
  cases hv
  have e : (madeCells #[Value.int .u8 0] n).toList = bs (List.replicate n 0) := by rw [toList_madeCells_one]; simp [bs]
  rw [e] at hr
  exact hr

theorem sizeU8 : (Tryz.prog.info? 5).map (·.size) = some 1 := by kernel_rfl

theorem bs_getElem {l : List Int} {j : Nat} {v : Value} (h : (bs l)[j]? = some v) : j < l.length ∧ v = .int .u8 (l.getD j 0) := by
  have hj : j < l.length := by
    have := (List.getElem?_eq_some_iff.1 h).1
    simpa [bs] using this
  simp [bs, List.getElem?_eq_getElem hj] at h
  exact ⟨hj, by simp [List.getD, List.getElem?_eq_getElem hj, h]⟩

theorem bs_one (l : List Int) : ∀ v ∈ bs l, v.oneCell' = true := by
  intro v hv
  obtain ⟨x, _, rfl⟩ := List.mem_map.1 hv
  rfl

/-- A row whose every cell is known: the block itself. -/
theorem RowAt.full {w : World} {e : TypeId} {g c : Nat} {xs : List Value} (h : RowAt w e g c xs) (hc : xs.length = c) : w.heap[g]? = some (.cells xs.toArray e (0, 0)) := by
  obtain ⟨cur, hb, hs, ht, _⟩ := h
  have : cur.toList = xs := by
    rw [← ht, List.take_of_length_le (by simp; omega)]
  rw [hb, ← this]
theorem RowAt.of_full {w : World} {e : TypeId} {g : Nat} {xs : List Value} (h : w.heap[g]? = some (.cells xs.toArray e (0, 0))) (hm : xs.length ≤ maxLen) : RowAt w e g xs.length xs :=
  ⟨xs.toArray, h, by simp, by simp, hm⟩

/-- copy of bytes: what it comes to. -/
theorem copy_run (w : World) (ty : TypeId) (dp : Option Addr) (g off dLen dCap : Nat) (a : Option Addr) (sLen sCap : Nat) (cur : List Value) (l : List Int) (hg : w.heap[g]? = some (.cells cur.toArray 5 (0, 0)))
    (hs : Src w a sLen l) (hd : 0 < dLen → dp = some ⟨g, off, none⟩) (hfit : off + dLen ≤ cur.length) :
    ∃ w2, (Builtin.copy_ #[22, 22] ty #[.slice dp dLen dCap, .slice a sLen sCap]).run Tryz.prog w = .ok (goInt (Nat.min sLen dLen)) w2 ∧
      w2.heap[g]? = some (.cells (splice cur off (bs (l.take dLen))).toArray 5 (0, 0)) ∧ Keeps (fun k => k = g) w w2 ∧ w2.heap.size = w.heap.size := by
  have hl := hs.1
  have hm : Nat.min sLen dLen = min sLen dLen := rfl
  by_cases h0 : min sLen dLen = 0
  · refine ⟨w, ?_, ?_, Keeps.refl _ _, rfl⟩
    · rw [hm, h0]
      exact run_copy_none (P := Tryz.prog) w _ _ ty 5 dp a dLen dCap sLen sCap Tryz.underlying22 sizeU8 h0
    · have e : bs (l.take dLen) = [] := by
        have : (bs (l.take dLen)).length = 0 := by simp only [bs, List.length_map, List.length_take]; omega
        exact List.eq_nil_of_length_eq_zero this
      rw [e, hg]
      simp [splice]
  · have h1 : 0 < sLen ∧ 0 < dLen := by omega
    obtain rfl := hd h1.2
    cases a with
    | none => have := hs.2.1 rfl; omega
    | some x =>
      have hlen : (bs (l.take dLen)).length = Nat.min sLen dLen := by
        simp only [bs, List.length_map, List.length_take]; omega
      have hrun := run_copy_row (P := Tryz.prog) w 22 22 ty 5 g off dLen dCap x sLen sCap cur.toArray 5 (bs (l.take dLen)) Tryz.underlying22 sizeU8 hg hlen
        (fun j v hj => by
          obtain ⟨hj', rfl⟩ := bs_getElem hj
          have hj2 : j < dLen ∧ j < l.length := by simp only [List.length_take] at hj'; omega
          rw [hs.2.2 x rfl j (by omega)]
          simp [List.getD, hj2.1]) (by simp only [List.size_toArray, hlen]; omega) (bs_one _)
      rw [hlen] at hrun
      refine ⟨_, hrun, ?_, ⟨rfl, rfl, rfl, by simp, fun k _ hk => setRow_other w g k _ hk⟩, by simp⟩
      rw [setRow_heap w g _ _ 5 _ hg]
      simp only [splice, hlen, List.append_assoc]

theorem blockOf_add (x : Addr) (n : Nat) : (x.add n).block = x.block := by unfold Addr.add; split <;> rfl
theorem Src.old {W : World} {a : Option Addr} {n : Nat} {l : List Int} (h : Src W a n l) : ∀ x, a = some x → 0 < n → x.block < W.heap.size := fun x hx hn => by
  have := World.block_lt_of_cell? _ _ (h.2.2 x hx 0 hn)
  rwa [blockOf_add] at this
end Go.Proofs.YtokcgifpljeoiaaGreat
end

section
namespace Go.Proofs.YtokcgifpljeoiaaGreat
open Go.RowKit

/-- New contents of blocks, by the blocks' numbers, in rising order. -/
abbrev CM := List (Nat × List Int)
def CM.get : CM → Nat → Option (List Int)
  | [], _ => none
  | q :: qs, k => if q.1 = k then some q.2 else CM.get qs k
def CM.put : CM → Nat → List Int → CM
  | [], k, c => [(k, c)]
  | q :: qs, k, c => if k < q.1 then (k, c) :: q :: qs else if k = q.1 then (k, c) :: qs else q :: CM.put qs k c
def CM.Ok (ms : CM) : Prop := ms.Pairwise (fun a b => a.1 < b.1)
def CM.keys (ms : CM) : List Nat := ms.map (·.1)

namespace CM
theorem get_cons (q : Nat × List Int) (qs : CM) (k : Nat) : get (q :: qs) k = if q.1 = k then some q.2 else get qs k := rfl
theorem get_none_of {ms : CM} {k : Nat} (h : ∀ q ∈ ms, q.1 ≠ k) : get ms k = none := by
  induction ms with
  | nil => rfl
  | cons q qs ih =>
    unfold get
    rw [if_neg (h q List.mem_cons_self)]
    exact ih (fun x hx => h x (List.mem_cons_of_mem _ hx))
theorem get_mem {ms : CM} {k : Nat} {c : List Int} (h : get ms k = some c) : (k, c) ∈ ms := by
  induction ms with
  | nil => cases h
  | cons q qs ih =>
    unfold get at h
    split at h
    · rename_i e
      cases h
      rw [← e]
      exact List.mem_cons_self
    · exact List.mem_cons_of_mem _ (ih h)
theorem get_of_mem {ms : CM} (ho : Ok ms) {k : Nat} {c : List Int} (h : (k, c) ∈ ms) : get ms k = some c := by
  induction ms with
  | nil => cases h
  | cons q qs ih =>
    unfold get
    rcases List.mem_cons.1 h with e | h1
    · rw [← e, if_pos rfl]
    · have := (List.pairwise_cons.1 ho).1 (k, c) h1
      rw [if_neg (by simp only at this; omega)]
      exact ih (List.pairwise_cons.1 ho).2 h1
theorem get_put (ms : CM) (k : Nat) (c : List Int) (j : Nat) (ho : Ok ms) : get (put ms k c) j = if j = k then some c else get ms j := by
  induction ms with
  | nil =>
    unfold put
    simp only [get]
    by_cases e : j = k
    · rw [if_pos e.symm, if_pos e]
    · rw [if_neg (fun h => e h.symm), if_neg e]
  | cons q qs ih =>
    unfold put
    by_cases h1 : k < q.1
    · rw [if_pos h1]
      by_cases e : j = k
      · rw [if_pos e]
        unfold get
        rw [if_pos e.symm]
      · rw [if_neg e]
        conv => lhs; unfold get
        rw [if_neg (fun h => e h.symm)]
    · rw [if_neg h1]
      by_cases h2 : k = q.1
      · rw [if_pos h2]
        by_cases e : j = k
        · rw [if_pos e]
          unfold get
          rw [if_pos e.symm]
        · rw [if_neg e]
          conv => lhs; unfold get
          conv => rhs; unfold get
          rw [if_neg (fun h => e h.symm), if_neg (fun h => e (h2 ▸ h.symm))]
      · rw [if_neg h2]
        conv => lhs; unfold get
        by_cases e : q.1 = j
        · rw [if_pos e, if_neg (fun h => h2 (h.symm.trans e.symm))]
          conv => rhs; unfold get
          rw [if_pos e]
        · rw [if_neg e, ih (List.pairwise_cons.1 ho).2]
          conv => rhs; rhs; unfold get
          rw [if_neg e]
theorem put_key {ms : CM} {k : Nat} {c : List Int} {q : Nat × List Int} (h : q ∈ put ms k c) : q = (k, c) ∨ q ∈ ms := by
  induction ms with
  | nil =>
    unfold put at h
    exact .inl (List.mem_singleton.1 h)
  | cons x xs ih =>
    unfold put at h
    split at h
    · rcases List.mem_cons.1 h with h | h
      · exact .inl h
      · exact .inr h
    · split at h
      · rcases List.mem_cons.1 h with h | h
        · exact .inl h
        · exact .inr (List.mem_cons_of_mem _ h)
      · rcases List.mem_cons.1 h with h | h
        · exact .inr (h ▸ List.mem_cons_self)
        · exact (ih h).imp id (List.mem_cons_of_mem _)
theorem put_ok {ms : CM} (ho : Ok ms) (k : Nat) (c : List Int) : Ok (put ms k c) := by
  induction ms with
  | nil => exact List.pairwise_singleton _ _
  | cons x xs ih =>
    have hq := List.pairwise_cons.1 ho
    unfold put
    split
    · rename_i h
      refine List.pairwise_cons.2 ⟨fun y hy => ?_, ho⟩
      rcases List.mem_cons.1 hy with rfl | hy
      · exact h
      · exact Nat.lt_trans h (hq.1 y hy)
    · split
      · rename_i h
        exact List.pairwise_cons.2 ⟨fun y hy => by show k < y.1; rw [h]; exact hq.1 y hy, hq.2⟩
      · rename_i h1 h2
        refine List.pairwise_cons.2 ⟨fun y hy => ?_, ih hq.2⟩
        rcases put_key hy with rfl | hy
        · show x.1 < k
          omega
        · exact hq.1 y hy
theorem put_length {ms : CM} (ho : Ok ms) (k : Nat) (c : List Int) : (put ms k c).length = if (get ms k).isSome then ms.length else ms.length + 1 := by
  induction ms with
  | nil => rfl
  | cons x xs ih =>
    have hq := List.pairwise_cons.1 ho
    unfold put
    by_cases h1 : k < x.1
    · rw [if_pos h1, get_none_of (fun q hm => by
        rcases List.mem_cons.1 hm with rfl | hm
        · omega
        · have := hq.1 q hm; omega)]
      rfl
    · rw [if_neg h1]
      by_cases h2 : k = x.1
      · rw [if_pos h2]
        unfold get
        rw [if_pos h2.symm]
        rfl
      · rw [if_neg h2]
        have e : get (x :: xs) k = get xs k := by rw [get_cons, if_neg (fun h => h2 h.symm)]
        rw [e, List.length_cons, ih hq.2, List.length_cons]
        split <;> rfl
theorem keys_ok {ms : CM} (ho : Ok ms) : (keys ms).Pairwise (· < ·) := List.Pairwise.map _ (fun _ _ h => h) ho
/-- One over the other. -/
def over (ms ns : CM) : CM := ns.foldl (fun m q => put m q.1 q.2) ms
theorem over_ok {ms : CM} (ho : Ok ms) : ∀ (ns : CM), Ok (over ms ns) := fun ns => by
  induction ns generalizing ms with
  | nil => exact ho
  | cons q qs ih => exact ih (put_ok ho _ _)
end CM
end Go.Proofs.YtokcgifpljeoiaaGreat
end

section
namespace Go.Proofs.YtokcgifpljeoiaaGreat
open Go.RowKit Go.Maps

theorem infoRow : (Tryz.prog.info? 22).map (fun i => (i.zero, i.size, i.bytes)) = some (some (.slice none 0 0), 1, 24) := by kernel_rfl
theorem infoInt : (Tryz.prog.info? 3).map (fun i => (i.zero, i.size, i.bytes)) = some (some (.int .i64 0), 1, 8) := by kernel_rfl

/-- The cells of a Disk. -/
abbrev dkCells (im pend : Value) (fuse life r wr fl rf : Int) : Array Value :=
  #[im, pend, .int .i64 fuse, .int .i64 life, .int .i64 r, .int .i64 wr, .int .i64 fl, .int .i64 rf, .int .i64 0]

set_option maxHeartbeats 400000 in
theorem over_low (a : Option Addr) (n c : Nat) (w : World) :
    Calls Tryz.prog 41 #[.slice a n c] w fun e w' => e = .returned (.pointer (some ⟨w.heap.size + 1, 0, none⟩)) ∧
      w' = (w.alloc (.map #[] 0)).alloc (.cells (dkCells (.slice a n c) (.map (some w.heap.size)) (-1) 1 0 0 0 0) 108) := by
  have hmm := @run_makeMap Tryz.prog
  go_enter Tryz.func41, Tryz.ntmps41
  go_wp2
  go_ret
  exact ⟨rfl, rfl⟩

theorem burnt_low (p : Nat) (fuse : Int) (w : World) (c2 : w.cell? ⟨p, 2, none⟩ = some (.int .i64 fuse)) :
    Calls Tryz.prog 51 #[.pointer (some ⟨p, 0, none⟩)] w fun e w' => e = .returned (.bool (fuse == 0)) ∧ w' = w := by
  go_enter Tryz.func51, Tryz.ntmps51
  go_wp2
  go_ret
  exact ⟨rfl, rfl⟩

theorem life_low (p : Nat) (life : Int) (w : World) (c3 : w.cell? ⟨p, 3, none⟩ = some (.int .i64 life)) :
    Calls Tryz.prog 125 #[.pointer (some ⟨p, 0, none⟩)] w fun e w' => e = .returned (.int .i64 life) ∧ w' = w := by
  go_enter Tryz.func125, Tryz.ntmps125
  go_wp2
  go_ret
  exact ⟨rfl, rfl⟩

theorem sectors_low (p : Nat) (a : Option Addr) (n c : Nat) (w : World) (hn : n ≤ 1048576) (c0 : w.cell? ⟨p, 0, none⟩ = some (.slice a n c)) :
    Calls Tryz.prog 20 #[.pointer (some ⟨p, 0, none⟩)] w fun e w' => e = .returned (.int .i64 ((n / 512 : Nat) : Int)) ∧ w' = w := by
  go_enter Tryz.func20, Tryz.ntmps20
  go_wp2
  go_ret
  exact ⟨by go_num, rfl⟩

theorem has_low (p : Nat) (a : Option Addr) (n c : Nat) (at_ : Int) (w : World) (hn : n ≤ 1048576) (c0 : w.cell? ⟨p, 0, none⟩ = some (.slice a n c)) :
    Calls Tryz.prog 110 #[.pointer (some ⟨p, 0, none⟩), .int .i64 at_] w fun e w' => e = .returned (.bool (decide (0 ≤ at_) && decide (at_ < ((n / 512 : Nat) : Int)))) ∧ w' = w := by
  by_cases h0 : 0 ≤ at_
  · go_enter Tryz.func110, Tryz.ntmps110
    go_wp2_with (go_at_call 20; refine (sectors_low _ _ _ _ _ hn c0).mono ?_; rintro e w' ⟨rfl, rfl⟩)
    go_ret
    exact ⟨by simp [h0], rfl⟩
  · go_enter Tryz.func110, Tryz.ntmps110
    go_wp2
    go_ret
    exact ⟨by simp; omega, rfl⟩

theorem refuse_low (p : Nat) (rf er : Int) (w : World) (c7 : w.cell? ⟨p, 7, none⟩ = some (.int .i64 rf)) (f7 : w.frozen? ⟨p, 7, none⟩ = false) :
    Calls Tryz.prog 111 #[.pointer (some ⟨p, 0, none⟩), .int .i64 er] w fun e w' => e = .returned (.int .i64 er) ∧ w' = w.setCell ⟨p, 7, none⟩ (.int .i64 (wrap64 (rf + 1))) := by
  go_enter Tryz.func111, Tryz.ntmps111
  go_wp2
  go_ret
  exact ⟨rfl, rfl⟩

theorem spend_low (p : Nat) (fuse : Int) (w : World) (c2 : w.cell? ⟨p, 2, none⟩ = some (.int .i64 fuse)) (f2 : w.frozen? ⟨p, 2, none⟩ = false) (hf : -1 ≤ fuse) :
    Calls Tryz.prog 112 #[.pointer (some ⟨p, 0, none⟩)] w fun e w' => e = .returned (.tuple #[]) ∧ w' = if 0 < fuse then w.setCell ⟨p, 2, none⟩ (.int .i64 (wrap64 (fuse - 1))) else w := by
  by_cases h : 0 < fuse
  · go_enter Tryz.func112, Tryz.ntmps112
    go_wp2
    go_end0
    exact ⟨rfl, rfl⟩
  · go_enter Tryz.func112, Tryz.ntmps112
    go_wp2
    go_end0
    exact ⟨rfl, rfl⟩

theorem take_low (p : Nat) (life : Int) (w : World) (c3 : w.cell? ⟨p, 3, none⟩ = some (.int .i64 life)) (f3 : w.frozen? ⟨p, 3, none⟩ = false) :
    Calls Tryz.prog 75 #[.pointer (some ⟨p, 0, none⟩)] w fun e w' => e = .returned (.int .i64 (wrap64 (life + 1))) ∧ w' = w.setCell ⟨p, 3, none⟩ (.int .i64 (wrap64 (life + 1))) := by
  go_enter Tryz.func75, Tryz.ntmps75
  go_wp2
  go_ret
  exact ⟨rfl, rfl⟩

theorem fuse_low (p : Nat) (fuse calls : Int) (w : World) (c2 : w.cell? ⟨p, 2, none⟩ = some (.int .i64 fuse)) (f2 : w.frozen? ⟨p, 2, none⟩ = false) :
    Calls Tryz.prog 14 #[.pointer (some ⟨p, 0, none⟩), .int .i64 calls] w fun e w' => e = .returned (.tuple #[]) ∧ w' = if fuse = 0 then w else w.setCell ⟨p, 2, none⟩ (.int .i64 (max calls (-1))) := by
  by_cases h : fuse = 0
  · have hb : (fuse == 0) = true := by simp [h]
    go_enter Tryz.func14, Tryz.ntmps14
    go_wp2_with (go_at_call 51; refine (burnt_low _ _ _ c2).mono ?_; rintro e w' ⟨rfl, rfl⟩)
    exact bodyPost_ret (results_none rfl _ _ _) rfl ⟨rfl, rfl⟩
  · have hb : (fuse == 0) = false := by simp [h]
    go_enter Tryz.func14, Tryz.ntmps14
    go_wp2_with (go_at_call 51; refine (burnt_low _ _ _ c2).mono ?_; rintro e w' ⟨rfl, rfl⟩)
    all_goals
      go_end0
      refine ⟨rfl, ?_⟩
      first | rw [show max calls (-1) = calls by omega] | rw [show max calls (-1) = -1 by omega]

theorem durable_low (p gi n c s : Nat) (at_ : Int) (k : Nat) (w : World) (c0 : w.cell? ⟨p, 0, none⟩ = some (.slice (some ⟨gi, 0, none⟩) n c)) (hk : at_ = (k : Int)) (hks : k < s) (hn : n = s * 512) (hs : s ≤ 2048) (hc : n ≤ c) :
    Calls Tryz.prog 92 #[.pointer (some ⟨p, 0, none⟩), .int .i64 at_] w fun e w' => e = .returned (.slice (some ⟨gi, k * 512, none⟩) 512 512) ∧ w' = w := by
  subst hk
  go_enter Tryz.func92, Tryz.ntmps92
  have e : (k + 1) * 512 - k * 512 = 512 := by omega
  go_wp2
  go_ret
  exact ⟨congrArg (fun z => Ending.returned (Value.slice (some ⟨gi, k * 512, none⟩) z z)) e, rfl⟩
end Go.Proofs.YtokcgifpljeoiaaGreat
end

section
namespace Go.Proofs.YtokcgifpljeoiaaGreat
open Go.RowKit Go.Maps

/-- A disk's state: the image's bytes; the pending writes in their order; the rest. -/
structure DS where
  im : List Int
  puts : List (Nat × List Int)
  fuse : Int
  life : Int
  reads : Int
  writes : Int
  flushes : Int
  refused : Int

/-- A sector's pending writes. -/
def pendOf (puts : List (Nat × List Int)) (k : Nat) : List (List Int) := (puts.filter (fun q => q.1 == k)).map (·.2)

structure DS.Ok (S : DS) (s : Nat) : Prop where
  len : S.im.length = s * 512
  lo : 1 ≤ s
  hi : s ≤ 2048
  puts : ∀ q ∈ S.puts, q.1 < s ∧ q.2.length = 512
  fuse : -1 ≤ S.fuse ∧ S.fuse ≤ 9223372036854775807

/-- The pending writes of one sector as they lie in memory. -/
def Rows' (w : World) (F : Nat → Prop) (gi : Nat) : List Value → List (List Int) → Prop
  | [], [] => True
  | v :: vs, l :: ls => (∃ g c, v = .slice (some ⟨g, 0, none⟩) 512 c ∧ F g ∧ g ≠ gi ∧ RowAt w 5 g c (bs l)) ∧ Rows' w F gi vs ls
  | _, _ => False

/-- A map's elements: slices, as they are. -/
def Rs (v : Value) : Option (DataW Value × List MemPlace) :=
  match v with
  | .slice _ _ _ => some (.held v, [])
  | _ => none

theorem keyInt : Keyed Tryz.prog 3 := int_keyed Tryz.underlying3

abbrev kk (k : Nat) : Lit := .int .i64 (k : Int)

structure PendAt (w : World) (F : Nat → Prop) (gi : Nat) (D : DataW Value) (gr cr : Nat → Nat) (pend : Nat → List (List Int)) : Prop where
  keys : ∀ kl, has D kl = true → ∃ k : Nat, kl = kk k ∧ pend k ≠ []
  nope : ∀ k, pend k = [] → has D (kk k) = false
  look : ∀ k, pend k ≠ [] → ∀ z, D.atKey (kk k) z = .held (.slice (some ⟨gr k, 0, none⟩) (pend k).length (cr k))
  row : ∀ k, pend k ≠ [] → F (gr k) ∧ ∃ xs, RowAt w 22 (gr k) (cr k) xs ∧ Rows' w F gi xs (pend k)
  inj : ∀ k k', pend k ≠ [] → pend k' ≠ [] → gr k = gr k' → k = k'

structure DiskRaw (w : World) (F : Nat → Prop) (p s : Nat) (S : DS) (gi ci m : Nat) (D : DataW Value) (gr cr : Nat → Nat) : Prop where
  fp : F p
  fgi : F gi
  fm : F m
  lt : ∀ k, F k → k < w.heap.size
  blk : w.heap[p]? = some (.cells (dkCells (.slice (some ⟨gi, 0, none⟩) (s * 512) ci) (.map (some m)) S.fuse S.life S.reads S.writes S.flushes S.refused) 108 (0, 0))
  img : RowAt w 5 gi ci (bs S.im)
  map : w.ownsMap Tryz.prog 3 Rs m S.puts.length D
  pend : PendAt w F gi D gr cr (pendOf S.puts)
  ok : S.Ok s

def DiskAt (w : World) (F : Nat → Prop) (p s : Nat) (S : DS) : Prop := ∃ gi ci m D gr cr, DiskRaw w F p s S gi ci m D gr cr

theorem Rows'.agree {w w' : World} {F : Nat → Prop} {gi : Nat} (hb : ∀ k, F k → w'.heap[k]? = w.heap[k]?) : ∀ {xs : List Value} {ls : List (List Int)}, Rows' w F gi xs ls → Rows' w' F gi xs ls
  | [], [], _ => trivial
  | _ :: _, _ :: _, ⟨⟨g, c, h1, h2, h3, h4⟩, h5⟩ => ⟨⟨g, c, h1, h2, h3, h4.agree (hb g h2)⟩, Rows'.agree hb h5⟩
  | [], _ :: _, h => h.elim
  | _ :: _, [], h => h.elim

theorem Rows'.carry {w w' : World} {F : Nat → Prop} {gi : Nat} (hb : ∀ g c xs, F g → g ≠ gi → RowAt w 5 g c xs → RowAt w' 5 g c xs) : ∀ {xs : List Value} {ls : List (List Int)}, Rows' w F gi xs ls → Rows' w' F gi xs ls
  | [], [], _ => trivial
  | _ :: _, _ :: _, ⟨⟨g, c, h1, h2, h3, h4⟩, h5⟩ => ⟨⟨g, c, h1, h2, h3, hb g c _ h2 h3 h4⟩, Rows'.carry hb h5⟩
  | [], _ :: _, h => h.elim
  | _ :: _, [], h => h.elim

theorem Rows'.mono {w : World} {F G : Nat → Prop} {gi : Nat} (hG : ∀ k, F k → G k) : ∀ {xs : List Value} {ls : List (List Int)}, Rows' w F gi xs ls → Rows' w G gi xs ls
  | [], [], _ => trivial
  | _ :: _, _ :: _, ⟨⟨g, c, h1, h2, h3, h4⟩, h5⟩ => ⟨⟨g, c, h1, hG g h2, h3, h4⟩, Rows'.mono hG h5⟩
  | [], _ :: _, h => h.elim
  | _ :: _, [], h => h.elim

theorem Rows'.length {w : World} {F : Nat → Prop} {gi : Nat} : ∀ {xs : List Value} {ls : List (List Int)}, Rows' w F gi xs ls → xs.length = ls.length
  | [], [], _ => rfl
  | _ :: _, _ :: _, ⟨_, h5⟩ => by simp [Rows'.length h5]
  | [], _ :: _, h => h.elim
  | _ :: _, [], h => h.elim

theorem Rows'.snoc {w : World} {F : Nat → Prop} {gi : Nat} {v : Value} {l : List Int} (hv : ∃ g c, v = .slice (some ⟨g, 0, none⟩) 512 c ∧ F g ∧ g ≠ gi ∧ RowAt w 5 g c (bs l)) :
    ∀ {xs : List Value} {ls : List (List Int)}, Rows' w F gi xs ls → Rows' w F gi (xs ++ [v]) (ls ++ [l])
  | [], [], _ => ⟨hv, trivial⟩
  | _ :: _, _ :: _, ⟨h, h5⟩ => ⟨h, Rows'.snoc hv h5⟩
  | [], _ :: _, h => h.elim
  | _ :: _, [], h => h.elim

theorem Rows'.get {w : World} {F : Nat → Prop} {gi : Nat} : ∀ {xs : List Value} {ls : List (List Int)}, Rows' w F gi xs ls → ∀ j (hj : j < ls.length), ∃ g c, xs[j]? = some (.slice (some ⟨g, 0, none⟩) 512 c) ∧ F g ∧ g ≠ gi ∧ RowAt w 5 g c (bs ls[j])
  | [], [], _, j, hj => by simp at hj
  | v :: vs, l :: ls, ⟨⟨g, c, h1, h2, h3, h4⟩, h5⟩, j, hj => by
    cases j with
    | zero => exact ⟨g, c, by simp [h1], h2, h3, h4⟩
    | succ j => simpa using Rows'.get h5 j (by simpa using hj)
  | [], _ :: _, h, _, _ => h.elim
  | _ :: _, [], h, _, _ => h.elim

theorem DiskAt.lt {w : World} {F : Nat → Prop} {p s : Nat} {S : DS} (h : DiskAt w F p s S) : ∀ k, F k → k < w.heap.size := by
  obtain ⟨gi, ci, m, D, gr, cr, _, _, _, h, _⟩ := h; exact h
theorem DiskAt.ok {w : World} {F : Nat → Prop} {p s : Nat} {S : DS} (h : DiskAt w F p s S) : S.Ok s := by
  obtain ⟨gi, ci, m, D, gr, cr, _, _, _, _, _, _, _, _, h⟩ := h; exact h
theorem ownsMap_agree {w w' : World} {m n : Nat} {D : DataW Value} (h : w.ownsMap Tryz.prog 3 Rs m n D) (hb : w'.heap[m]? = w.heap[m]?) : w'.ownsMap Tryz.prog 3 Rs m n D := by
  obtain ⟨es, clock, h1, h2⟩ := h
  exact ⟨es, clock, hb.trans h1, h2⟩

theorem PendAt.agree {w w' : World} {F : Nat → Prop} {gi : Nat} {D : DataW Value} {gr cr : Nat → Nat} {pend : Nat → List (List Int)} (h : PendAt w F gi D gr cr pend) (hb : ∀ k, F k → w'.heap[k]? = w.heap[k]?) :
    PendAt w' F gi D gr cr pend :=
  ⟨h.keys, h.nope, h.look, fun k hk => by
    obtain ⟨h1, xs, h2, h3⟩ := h.row k hk
    exact ⟨h1, xs, h2.agree (hb _ h1), h3.agree hb⟩, h.inj⟩

theorem PendAt.carry {w w' : World} {F : Nat → Prop} {gi : Nat} {D : DataW Value} {gr cr : Nat → Nat} {pend : Nat → List (List Int)} (h : PendAt w F gi D gr cr pend)
    (hb : ∀ g c xs, F g → g ≠ gi → RowAt w 5 g c xs → RowAt w' 5 g c xs) (hr : ∀ g c xs, F g → RowAt w 22 g c xs → RowAt w' 22 g c xs) : PendAt w' F gi D gr cr pend :=
  ⟨h.keys, h.nope, h.look, fun k hk => by
    obtain ⟨h1, xs, h2, h3⟩ := h.row k hk
    exact ⟨h1, xs, hr _ _ _ h1 h2, h3.carry hb⟩, h.inj⟩

theorem RowAt.other {w w' : World} {e e' : TypeId} {g c q : Nat} {xs : List Value} {cur : Array Value} {fz : Nat × Nat} (h : RowAt w e g c xs) (hk : Keeps (fun k => k = q) w w') (hq : w.heap[q]? = some (.cells cur e' fz)) (he : e' ≠ e) : RowAt w' e g c xs := by
  refine h.agree (hk.block g h.lt (fun e1 => ?_))
  obtain ⟨cur', hb, _⟩ := h
  rw [e1, hq] at hb
  simp at hb
  exact he hb.2.1

theorem RowAt.ne {w : World} {e e' : TypeId} {g c q : Nat} {xs : List Value} {cur : Array Value} {fz : Nat × Nat} (h : RowAt w e g c xs) (hq : w.heap[q]? = some (.cells cur e' fz)) (he : e' ≠ e) : g ≠ q := by
  intro e1
  obtain ⟨cur', hb, _⟩ := h
  rw [e1, hq] at hb
  simp at hb
  exact he hb.2.1

theorem ownsMap_ne {w : World} {m n q : Nat} {D : DataW Value} {cur : Array Value} {e : TypeId} {fz : Nat × Nat} (h : w.ownsMap Tryz.prog 3 Rs m n D) (hq : w.heap[q]? = some (.cells cur e fz)) : m ≠ q := by
  obtain ⟨es, clock, h1, _⟩ := h
  intro e1
  rw [e1, hq] at h1
  simp at h1

theorem PendAt.mono {w : World} {F G : Nat → Prop} {gi : Nat} {D : DataW Value} {gr cr : Nat → Nat} {pend : Nat → List (List Int)} (h : PendAt w F gi D gr cr pend) (hG : ∀ k, F k → G k) :
    PendAt w G gi D gr cr pend :=
  ⟨h.keys, h.nope, h.look, fun k hk => by
    obtain ⟨h1, xs, h2, h3⟩ := h.row k hk
    exact ⟨hG _ h1, xs, h2, h3.mono hG⟩, h.inj⟩

/-- A disk stays what it is where its own blocks stay. -/
theorem DiskAt.agree {w w' : World} {F : Nat → Prop} {p s : Nat} {S : DS} (h : DiskAt w F p s S) (hs : w.heap.size ≤ w'.heap.size) (hb : ∀ k, F k → w'.heap[k]? = w.heap[k]?) : DiskAt w' F p s S := by
  obtain ⟨gi, ci, m, D, gr, cr, h1, h2, h3, h4, h5, h6, h7, h8, h9⟩ := h
  exact ⟨gi, ci, m, D, gr, cr, h1, h2, h3, fun k hk => Nat.lt_of_lt_of_le (h4 k hk) hs, (hb p h1).trans h5, h6.agree (hb gi h2), ownsMap_agree h7 (hb m h3), h8.agree hb, h9⟩

theorem DiskAt.keep {w w' : World} {F G : Nat → Prop} {p s : Nat} {S : DS} (h : DiskAt w F p s S) (k : Keeps G w w') (hd : ∀ k, F k → ¬ G k) : DiskAt w' F p s S :=
  h.agree k.size (fun j hj => k.block j (h.lt j hj) (hd j hj))

theorem DiskAt.mono {w : World} {F G : Nat → Prop} {p s : Nat} {S : DS} (h : DiskAt w F p s S) (hG : ∀ k, F k → G k) (hl : ∀ k, G k → k < w.heap.size) : DiskAt w G p s S := by
  obtain ⟨gi, ci, m, D, gr, cr, h1, h2, h3, h4, h5, h6, h7, h8, h9⟩ := h
  exact ⟨gi, ci, m, D, gr, cr, hG _ h1, hG _ h2, hG _ h3, hl, h5, h6, h7, h8.mono hG, h9⟩

/-- A disk whose map of pending writes is block m. -/
def DiskM (w : World) (F : Nat → Prop) (p s : Nat) (S : DS) (m : Nat) : Prop := ∃ gi ci D gr cr, DiskRaw w F p s S gi ci m D gr cr
theorem DiskM.at {w : World} {F : Nat → Prop} {p s : Nat} {S : DS} {m : Nat} (h : DiskM w F p s S m) : DiskAt w F p s S := by
  obtain ⟨gi, ci, D, gr, cr, h⟩ := h
  exact ⟨gi, ci, m, D, gr, cr, h⟩
theorem DiskAt.m {w : World} {F : Nat → Prop} {p s : Nat} {S : DS} (h : DiskAt w F p s S) : ∃ m, DiskM w F p s S m := by
  obtain ⟨gi, ci, m, D, gr, cr, h⟩ := h
  exact ⟨m, gi, ci, D, gr, cr, h⟩
theorem DiskM.agree {w w' : World} {F : Nat → Prop} {p s : Nat} {S : DS} {m : Nat} (h : DiskM w F p s S m) (hs : w.heap.size ≤ w'.heap.size) (hb : ∀ k, F k → w'.heap[k]? = w.heap[k]?) : DiskM w' F p s S m := by
  obtain ⟨gi, ci, D, gr, cr, h1, h2, h3, h4, h5, h6, h7, h8, h9⟩ := h
  exact ⟨gi, ci, D, gr, cr, h1, h2, h3, fun k hk => Nat.lt_of_lt_of_le (h4 k hk) hs, (hb p h1).trans h5, h6.agree (hb gi h2), ownsMap_agree h7 (hb m h3), h8.agree hb, h9⟩
theorem DiskM.keep {w w' : World} {F G : Nat → Prop} {p s : Nat} {S : DS} {m : Nat} (h : DiskM w F p s S m) (k : Keeps G w w') (hd : ∀ k, F k → ¬ G k) : DiskM w' F p s S m :=
  h.agree k.size (fun j hj => k.block j (h.at.lt j hj) (hd j hj))
theorem DiskM.mono {w : World} {F G : Nat → Prop} {p s : Nat} {S : DS} {m : Nat} (h : DiskM w F p s S m) (hG : ∀ k, F k → G k) (hl : ∀ k, G k → k < w.heap.size) : DiskM w G p s S m := by
  obtain ⟨gi, ci, D, gr, cr, h1, h2, h3, h4, h5, h6, h7, h8, h9⟩ := h
  exact ⟨gi, ci, D, gr, cr, hG _ h1, hG _ h2, hG _ h3, hl, h5, h6, h7, h8.mono hG, h9⟩

/-- Where the struct's own cells alone have turned. -/
theorem DiskRaw.turn {w w' : World} {F : Nat → Prop} {p s : Nat} {S S' : DS} {gi ci m : Nat} {D : DataW Value} {gr cr : Nat → Nat} (h : DiskRaw w F p s S gi ci m D gr cr) (hk : Keeps (fun k => k = p) w w')
    (hb : w'.heap[p]? = some (.cells (dkCells (.slice (some ⟨gi, 0, none⟩) (s * 512) ci) (.map (some m)) S'.fuse S'.life S'.reads S'.writes S'.flushes S'.refused) 108 (0, 0))) (h1 : S'.im = S.im) (h2 : S'.puts = S.puts) (h3 : -1 ≤ S'.fuse ∧ S'.fuse ≤ 9223372036854775807) :
    DiskRaw w' F p s S' gi ci m D gr cr := by
  refine ⟨h.fp, h.fgi, h.fm, fun k hf => Nat.lt_of_lt_of_le (h.lt k hf) hk.size, hb, ?_, ?_, ?_, ⟨?_, h.ok.lo, h.ok.hi, ?_, h3⟩⟩
  · rw [h1]; exact h.img.other hk h.blk (by decide)
  · rw [h2]; exact ownsMap_agree h.map (hk.block m (h.lt m h.fm) (ownsMap_ne h.map h.blk))
  · rw [h2]; exact h.pend.carry (fun g c xs _ _ hr => hr.other hk h.blk (by decide)) (fun g c xs _ hr => hr.other hk h.blk (by decide))
  · rw [h1]; exact h.ok.len
  · rw [h2]; exact h.ok.puts

/-- The empty map pends nothing. -/
theorem PendAt.empty (w : World) (F : Nat → Prop) (gi : Nat) (gr cr : Nat → Nat) : PendAt w F gi (.map []) gr cr (pendOf []) :=
  ⟨fun kl h => by simp [has] at h, fun _ _ => rfl, fun k h => absurd rfl h, fun k h => absurd rfl h, fun k _ h => absurd rfl h⟩

end Go.Proofs.YtokcgifpljeoiaaGreat
end

section
namespace Go.Proofs.YtokcgifpljeoiaaGreat
open Go.RowKit Go.Maps

set_option maxHeartbeats 2000000 in
theorem clone_low (a : Addr) (n c : Nat) (l : List Int) (w : World) (hx : l.length = n) (hbig : n ≤ 140737488355328) (hc : ∀ i, i < n → w.cell? (a.add i) = some (.int .u8 (l.getD i 0))) :
    Calls Tryz.prog 42 #[.slice (some a) n c] w fun e w' => ∃ g c', e = .returned (.slice (some ⟨g, 0, none⟩) n c') ∧ w.heap.size ≤ g ∧ RowAt w' 5 g c' (bs l) ∧ Below w.heap.size w w' := by
  obtain ⟨i0, hi, hz0, hz1, hz2⟩ := info_parts infoU8
  have q22 : ∀ (w : World) (a : Option Addr) (n c n' c' : Nat), (binOp .eql 22 (.slice a n c) (.slice none n' c')).run Tryz.prog w = .ok (.bool a.isNone) w := fun w a n c n' c' => Lib.run_eql_slice_nil w _ _ a n c n' c' Tryz.underlying22
  go_enter Tryz.func42, Tryz.ntmps42
  go_wp2_with (at_builtin; refine wpList_append_own _ rfl _ _ 22 rfl w.heap.size 5 i0 (.int .u8 0) 1 1 Tryz.underlying22 hi hz0 hz1 hz2 rfl (by decide) _ _ _ rfl (World.ownsRow_made w #[] 0 (Nat.le_refl _) (Nat.zero_le _) rfl) a n c (bs l) rfl ?qc1 ?qc2 ?qc3 ?qc4 ?qc5 ?qc6 ?_)
  case qc1 => simp; omega
  case qc2 =>
    intro j u hj
    have hjn : j < n := by
      have := (List.getElem?_eq_some_iff.1 hj).1
      simp at this
      omega
    refine Lib.cell?_alloc_some _ ?_
    rw [hc j hjn]
    have e : (bs l)[j]? = some (Value.int .u8 (l.getD j 0)) := by simp [bs, List.getD, List.getElem?_eq_getElem (show j < l.length by omega)]
    rw [e] at hj
    exact hj
  case qc3 => intro u hu; obtain ⟨x, _, rfl⟩ := List.mem_map.1 hu; rfl
  case qc4 => unfold maxLen; omega
  case qc5 => omega
  case qc6 => simp
  intro v' w1 hown hgrow hnil
  have hb := ((Below.refl _ w).alloc (Nat.le_refl _) _).grown hgrow (by simp) (by intro k hk; simp [Value.ownBlock] at hk; omega)
  have hv : v' ≠ .slice none 0 0 := by first | exact hnil | (intro e; exact absurd (hnil.1 e).1 (by simp))
  have hown' : w1.ownsRow w.heap.size 5 1 v' n (bs l) := by simpa using hown
  obtain ⟨g, c', rfl, hg, hr, _⟩ := RowAt.of_owns hown' hv
  go_wp2
  go_ret
  exact ⟨g, c', rfl, hg, hr, hb⟩

/-- What New and Load make: a disk of its own. -/
def DS.fresh (l : List Int) : DS := { im := l, puts := [], fuse := -1, life := 1, reads := 0, writes := 0, flushes := 0, refused := 0 }

theorem fresh_at {w0 w1 : World} {g c s : Nat} {l : List Int} (hb : Below w0.heap.size w0 w1) (hg : w0.heap.size ≤ g) (hr : RowAt w1 5 g c (bs l)) (hl : l.length = s * 512) (h1 : 1 ≤ s) (h2 : s ≤ 2048) :
    let w' := (w1.alloc (.map #[] 0)).alloc (.cells (dkCells (.slice (some ⟨g, 0, none⟩) (s * 512) c) (.map (some w1.heap.size)) (-1) 1 0 0 0 0) 108)
    DiskAt w' (fun k => w0.heap.size ≤ k ∧ k < w'.heap.size) (w1.heap.size + 1) s (DS.fresh l) ∧ Below w0.heap.size w0 w' := by
  intro w'
  have hgl := hr.lt
  have hz := hb.size
  have hsz : w'.heap.size = w1.heap.size + 2 := by simp [w']
  have e0 : ∀ k, k < w1.heap.size → w'.heap[k]? = w1.heap[k]? := fun k hk => by
    rw [Below.heap_alloc _ _ _ (by simp; omega), Below.heap_alloc _ _ _ hk]
  have e1 : w'.heap[w1.heap.size]? = some (.map #[] 0) := by
    rw [Below.heap_alloc _ _ _ (by simp)]; exact heap_alloc_new _ _
  have e2 : w'.heap[w1.heap.size + 1]? = some (.cells (dkCells (.slice (some ⟨g, 0, none⟩) (s * 512) c) (.map (some w1.heap.size)) (-1) 1 0 0 0 0) 108 (0, 0)) := by
    have := heap_alloc_new (w1.alloc (.map #[] 0)) (.cells (dkCells (.slice (some ⟨g, 0, none⟩) (s * 512) c) (.map (some w1.heap.size)) (-1) 1 0 0 0 0) 108)
    have hs1 : (w1.alloc (.map #[] 0)).heap.size = w1.heap.size + 1 := by simp
    rw [hs1] at this
    exact this
  refine ⟨⟨g, c, w1.heap.size, .map [], fun _ => 0, fun _ => 0, ⟨by omega, by omega⟩, ⟨by omega, by omega⟩, ⟨by omega, by omega⟩, fun k hk => hk.2, e2, hr.agree (e0 g hgl), ?_, PendAt.empty _ _ _ _ _, ⟨hl, h1, h2, by simp [DS.fresh], by simp [DS.fresh]⟩⟩, ?_⟩
  · have := World.ownsMap_made w1 Tryz.prog 3 Rs
    exact ownsMap_agree this (by rw [e1]; exact (heap_alloc_new _ _).symm)
  · exact (hb.alloc (by omega) _).alloc (by simp; omega) _

end Go.Proofs.YtokcgifpljeoiaaGreat
end

section
namespace Go.Proofs.YtokcgifpljeoiaaGreat
open Go.RowKit Go.Maps

theorem new_no (s : Int) (w : World) (h : s < 1 ∨ 2048 < s) :
    Calls Tryz.prog 43 #[.int .i64 s] w fun e w' => e = .returned (.tuple #[.pointer none, .int .i64 10]) ∧ w' = w := by
  go_enter Tryz.func43, Tryz.ntmps43
  rcases h with h | h
  · go_wp2
    go_ret2
    exact ⟨rfl, rfl⟩
  · have h' : ¬ s < 1 := by omega
    go_wp2
    go_ret2
    exact ⟨rfl, rfl⟩
set_option maxHeartbeats 1000000 in
theorem new_ok (s : Nat) (w : World) (h1 : 1 ≤ s) (h2 : s ≤ 2048) :
    Calls Tryz.prog 43 #[.int .i64 s] w fun e w' => ∃ p, e = .returned (.tuple #[.pointer (some ⟨p, 0, none⟩), .int .i64 0]) ∧
      DiskAt w' (fun k => w.heap.size ≤ k ∧ k < w'.heap.size) p s (DS.fresh (List.replicate (s * 512) 0)) ∧ Below w.heap.size w w' := by
  obtain ⟨i0, hi, hz0, hz1, hz2⟩ := info_parts infoU8
  have h1' : ¬ (s : Int) < 1 := by omega
  have h2' : ¬ (2048 : Int) < (s : Int) := by omega
  go_enter Tryz.func43, Tryz.ntmps43
  go_wp2_with (at_make; refine wpList_make_full _ rfl _ _ 22 rfl w.heap.size 5 i0 (.int .u8 0) 1 Tryz.underlying22 hi hz0 hz1 _ _ _ _ (s * 512) rfl rfl ?c1 ?c2 ?c3 ?c4 ?c5 ?_)
  case c3 => omega
  case c4 => unfold maxLen; omega
  intro w1 hown hgrow
  have hb := (Below.refl _ w).grown hgrow (Nat.le_refl _) (by intro k hk; cases hk)
  go_wp2_with (go_at_call 41; refine (over_low _ _ _ _).mono ?_; rintro e w' ⟨rfl, rfl⟩)
  go_ret2
  exact ⟨_, rfl, (fresh_at hb (Nat.le_refl _) (made_row hown) (by simp) h1 h2)⟩

theorem load_bad (a : Option Addr) (n c : Nat) (w : World) (h : n % 512 ≠ 0) (hn : n ≤ 140737488355328) :
    Calls Tryz.prog 8 #[.slice a n c] w fun e w' => e = .returned (.tuple #[.pointer none, .int .i64 2]) ∧ w' = w := by
  have h' : (((n : Int) % 512) != 0) = true := by rw [bne_iff_ne]; omega
  go_enter Tryz.func8, Tryz.ntmps8
  go_wp2
  go_ret2
  exact ⟨rfl, rfl⟩

theorem load_no (a : Option Addr) (n c : Nat) (w : World) (h : n % 512 = 0) (hn : n = 0 ∨ 1048576 < n) (hm : n ≤ 140737488355328) :
    Calls Tryz.prog 8 #[.slice a n c] w fun e w' => e = .returned (.tuple #[.pointer none, .int .i64 10]) ∧ w' = w := by
  have h' : (((n : Int) % 512) != 0) = false := by rw [Bool.eq_false_iff, ne_eq, bne_iff_ne]; omega
  go_enter Tryz.func8, Tryz.ntmps8
  rcases hn with h0 | h0
  · have h0' : ((n : Int) == 0) = true := by rw [beq_iff_eq]; omega
    go_wp2
    go_ret2
    exact ⟨rfl, rfl⟩
  · have h0' : ((n : Int) == 0) = false := by rw [Bool.eq_false_iff, ne_eq, beq_iff_eq]; omega
    go_wp2
    go_ret2
    exact ⟨rfl, rfl⟩
set_option maxHeartbeats 1000000 in
theorem load_ok (a : Addr) (n c s : Nat) (l : List Int) (w : World) (hs : n = s * 512) (h1 : 1 ≤ s) (h2 : s ≤ 2048) (hx : l.length = n) (hc : ∀ i, i < n → w.cell? (a.add i) = some (.int .u8 (l.getD i 0))) :
    Calls Tryz.prog 8 #[.slice (some a) n c] w fun e w' => ∃ p, e = .returned (.tuple #[.pointer (some ⟨p, 0, none⟩), .int .i64 0]) ∧
      DiskAt w' (fun k => w.heap.size ≤ k ∧ k < w'.heap.size) p s (DS.fresh l) ∧ Below w.heap.size w w' := by
  have h' : (((n : Int) % 512) != 0) = false := by rw [Bool.eq_false_iff, ne_eq, bne_iff_ne]; omega
  have h0' : ((n : Int) == 0) = false := by rw [Bool.eq_false_iff, ne_eq, beq_iff_eq]; omega
  have h3 : ¬ (1048576 : Int) < (n : Int) := by omega
  have H : Hid (∀ i, i < n → w.cell? (a.add i) = some (.int .u8 (l.getD i 0))) := hc
  have Hs : Hid (n = s * 512) := hs
  clear hc hs
  go_enter Tryz.func8, Tryz.ntmps8
  go_wp2_with fail
  refine (clone_low a n c l w hx (by omega) H.out).mono ?_
  rintro e w1 ⟨g, c', rfl, hg, hr, hb⟩
  have HF := Hid.mk (fresh_at hb hg hr (hx.trans Hs.out) h1 h2)
  rw [← Hs.out] at HF
  clear hr hb
  go_wp2_with (go_at_call 41; refine (over_low _ _ _ _).mono ?_; rintro e w' ⟨rfl, rfl⟩)
  go_ret2
  exact ⟨_, rfl, HF.out⟩

end Go.Proofs.YtokcgifpljeoiaaGreat
end

section
namespace Go.Proofs.YtokcgifpljeoiaaGreat
open Go.RowKit Go.Maps

set_option maxHeartbeats 1000000 in
theorem same_low (b o b' o' : Nat) (n c d : Nat) (l : List Int) (w : World) (hn : n ≤ 140737488355328) (h1 : ∀ i, i < n → w.cell? ⟨b, o + i, none⟩ = some (.int .u8 (l.getD i 0))) (h2 : ∀ i, i < n → w.cell? ⟨b', o' + i, none⟩ = some (.int .u8 (l.getD i 0))) :
    Calls Tryz.prog 45 #[.slice (some ⟨b, o, none⟩) n c, .slice (some ⟨b', o', none⟩) n d] w fun e w' => e = .returned (.bool true) ∧ Below w.heap.size w w' := by
  go_enter Tryz.func45, Tryz.ntmps45
  go_wp2
  go_loopw [5] (fun i wr => ∃ k : Nat, k ≤ n ∧ i = .int .i64 k ∧ Below w.heap.size w wr) (fun i _ => n - (intOf i).toNat)
  case atStart => exact ⟨0, Nat.zero_le _, rfl, Below.refl _ _⟩
  case round =>
    obtain ⟨k, hk, rfl, hb⟩ := hrel
    by_cases hlt : k < n
    · have c1 := cell_later hb (h1 k hlt)
      have c2 := cell_later hb (h2 k hlt)
      have hlt' : (k : Int) < (n : Int) := by omega
      go_wp2
      go_quiet (fail)
      go_wp2
      go_roundw
      case rel => exact ⟨k + 1, by omega, by go_num, below_drewN hb _⟩
      case measure => simp [intOf]; omega
    · have hlt' : ¬ (k : Int) < (n : Int) := by omega
      go_wp2
      go_ret
      exact ⟨rfl, hb⟩

set_option maxHeartbeats 1000000 in
theorem same_zero (a b : Option Addr) (c d : Nat) (w : World) :
    Calls Tryz.prog 45 #[.slice a 0 c, .slice b 0 d] w fun e w' => e = .returned (.bool true) ∧ w' = w := by
  go_enter Tryz.func45, Tryz.ntmps45
  go_wp2
  refine wp_loop_rounds 1 ?_; rw [rounds_succ]; go_wp2
  go_ret
  exact ⟨rfl, rfl⟩

theorem same_any (a b : Option Addr) (n c d : Nat) (l : List Int) (w : World) (hn : n ≤ 140737488355328) (h1 : Src w a n l) (h2 : Src w b n l) :
    Calls Tryz.prog 45 #[.slice a n c, .slice b n d] w fun e w' => e = .returned (.bool true) ∧ Below w.heap.size w w' := by
  by_cases h0 : n = 0
  · subst h0
    exact (same_zero a b c d w).mono (by rintro e w' ⟨rfl, rfl⟩; exact ⟨rfl, Below.refl _ _⟩)
  · cases a with
    | none => exact absurd (h1.2.1 rfl) h0
    | some x =>
      cases b with
      | none => exact absurd (h2.2.1 rfl) h0
      | some y =>
        obtain ⟨b1, o1, rfl, k1⟩ := h1.spot (by omega)
        obtain ⟨b2, o2, rfl, k2⟩ := h2.spot (by omega)
        exact same_low b1 o1 b2 o2 n c d l w hn k1 k2

end Go.Proofs.YtokcgifpljeoiaaGreat
end

section
namespace Go.Proofs.YtokcgifpljeoiaaGreat
open Go.RowKit Go.Maps

theorem same_kk (a b : Nat) : (kk a).sameKey (kk b) = (a == b) := by
  by_cases h : a = b
  · subst h
    simp [WideAt.sameKey_self (show WideAt.IsKeyLit (kk a) from trivial)]
  · rw [Maps.sameKey_ne (by intro e; simp [kk] at e; omega)]
    simp [h]

theorem PendAt.has {w : World} {F : Nat → Prop} {gi : Nat} {D : DataW Value} {gr cr : Nat → Nat} {pend : Nat → List (List Int)} (h : PendAt w F gi D gr cr pend) {k : Nat} (hk : pend k ≠ []) : Maps.has D (kk k) = true :=
  Maps.has_true_of_atKey (h.look k hk)

abbrev mkS (c : Option Addr × Nat × Nat) : Value := .slice c.1 c.2.1 c.2.2
theorem Rs_inv (v : Value) (y : DataW Value × List MemPlace) (h : Rs v = some y) : ∃ c, v = mkS c := by
  unfold Rs at h
  split at h
  · exact ⟨(_, _, _), rfl⟩
  · cases h
theorem Rs_mk (c : Option Addr × Nat × Nat) : Rs (mkS c) = some (.held (mkS c), []) := rfl

/-- What comes out of the map at a step: a key of a sector with pending writes, and its list. -/
theorem PendAt.met {w : World} {F : Nat → Prop} {gi : Nat} {D : DataW Value} {gr cr : Nat → Nat} {pend : Nat → List (List Int)} (h : PendAt w F gi D gr cr pend) {x : Int} {c : Option Addr × Nat × Nat} {kl : Lit} {y : DataW Value × List MemPlace}
    (hkey : keyOf Tryz.prog 3 (.int .i64 x) = some kl) (hv : Rs (mkS c) = some y) (hat : ∀ zd, D.atKey kl zd = y.1) :
    ∃ k : Nat, x = (k : Int) ∧ kl = kk k ∧ pend k ≠ [] ∧ c = (some ⟨gr k, 0, none⟩, (pend k).length, cr k) := by
  obtain ⟨k, rfl, hp⟩ := h.keys kl (Maps.has_true_of_atKey hat)
  obtain ⟨x', ex, ek, _⟩ := Maps.keyOf_int_inv Tryz.underlying3 hkey
  have hx : x = (k : Int) := by cases ex; simpa [kk] using ek.symm
  rw [Rs_mk] at hv
  cases hv
  have h1 := hat .nil
  rw [h.look k hp] at h1
  obtain ⟨a, n, cc⟩ := c
  simp [mkS] at h1
  exact ⟨k, hx, rfl, hp, by simp [h1]⟩

theorem set5 {w : World} {b : Nat} {t : TypeId} {a0 a1 a2 a3 a4 : Value} (v0 v1 v2 v3 v4 : Value) (h : w.heap[b]? = some (.cells #[a0, a1, a2, a3, a4] t (0, 0))) :
    (((((w.setCell ⟨b, 0, none⟩ v0).setCell ⟨b, 1, none⟩ v1).setCell ⟨b, 2, none⟩ v2).setCell ⟨b, 3, none⟩ v3).setCell ⟨b, 4, none⟩ v4).heap[b]? = some (.cells #[v0, v1, v2, v3, v4] t (0, 0)) := by
  simpa using (heap_setCell_same _ b 4 _ t v4 (heap_setCell_same _ b 3 _ t v3 (heap_setCell_same _ b 2 _ t v2 (heap_setCell_same _ b 1 _ t v1 (heap_setCell_same w b 0 _ t v0 h)))))

end Go.Proofs.YtokcgifpljeoiaaGreat
end

section
namespace Go.Proofs.YtokcgifpljeoiaaGreat
open Go.RowKit Go.Maps

theorem DiskAt.cells {w : World} {F : Nat → Prop} {p s : Nat} {S : DS} (h : DiskAt w F p s S) : w.cell? ⟨p, 2, none⟩ = some (.int .i64 S.fuse) ∧ w.cell? ⟨p, 3, none⟩ = some (.int .i64 S.life) ∧ (∀ j, w.frozen? ⟨p, j, none⟩ = false) ∧
    ∃ gi ci, w.cell? ⟨p, 0, none⟩ = some (.slice (some ⟨gi, 0, none⟩) (s * 512) ci) := by
  obtain ⟨gi, ci, m, D, gr, cr, h1, h2, h3, h4, h5, h6, h7, h8, h9⟩ := h
  exact ⟨cell_of_block h5 (j := 2) rfl, cell_of_block h5 (j := 3) rfl, frozen_of_block h5, gi, ci, cell_of_block h5 (j := 0) rfl⟩

theorem sectors_at {w : World} {F : Nat → Prop} {p s : Nat} {S : DS} (h : DiskAt w F p s S) :
    Calls Tryz.prog 20 #[.pointer (some ⟨p, 0, none⟩)] w fun e w' => e = .returned (.int .i64 s) ∧ w' = w := by
  obtain ⟨_, _, _, gi, ci, c0⟩ := h.cells
  have := h.ok.hi
  have e : s * 512 / 512 = s := by omega
  have hc := sectors_low p _ (s * 512) ci w (by omega) c0
  rw [e] at hc
  exact hc
theorem burnt_at {w : World} {F : Nat → Prop} {p s : Nat} {S : DS} (h : DiskAt w F p s S) :
    Calls Tryz.prog 51 #[.pointer (some ⟨p, 0, none⟩)] w fun e w' => e = .returned (.bool (S.fuse == 0)) ∧ w' = w := burnt_low p _ w h.cells.1
theorem life_at {w : World} {F : Nat → Prop} {p s : Nat} {S : DS} (h : DiskAt w F p s S) :
    Calls Tryz.prog 125 #[.pointer (some ⟨p, 0, none⟩)] w fun e w' => e = .returned (.int .i64 S.life) ∧ w' = w := life_low p _ w h.cells.2.1

end Go.Proofs.YtokcgifpljeoiaaGreat
end

section
namespace Go.Proofs.YtokcgifpljeoiaaGreat
open Go.RowKit Go.Maps

set_option maxHeartbeats 2000000 in
theorem twin_any (a : Option Addr) (n c : Nat) (l : List Int) (w : World) (hn : n ≤ 140737488355328) (hs : Src w a n l) :
    Calls Tryz.prog 9 #[.slice a n c] w fun e w' => ∃ g, e = .returned (.slice (some ⟨g, 0, none⟩) n n) ∧ w.heap.size ≤ g ∧ RowAt w' 5 g n (bs l) ∧ Below w.heap.size w w' := by
  obtain ⟨i0, hi, hz0, hz1, hz2⟩ := info_parts infoU8
  go_enter Tryz.func9, Tryz.ntmps9
  go_wp2_with (at_make; refine wpList_make_full _ rfl _ _ 22 rfl w.heap.size 5 i0 (.int .u8 0) 1 Tryz.underlying22 hi hz0 hz1 _ _ _ _ n rfl rfl ?c1 ?c2 ?c3 ?c4 ?c5 ?_)
  case c1 => rfl
  case c2 => rfl
  case c3 => rw [hz2]; omega
  case c4 => unfold maxLen; omega
  case c5 => exact Nat.le_refl _
  intro w1 hown hgrow
  have hr := made_row hown
  have hb := (Below.refl _ w).grown hgrow (Nat.le_refl _) (by intro k hk; cases hk)
  have hf := hr.full (by simp [bs])
  have hs1 := hs.later hb
  have hl := hs.1
  obtain ⟨w2, hrun, hh, hk, _⟩ := copy_run w1 3 (some ⟨w.heap.size, 0, none⟩) w.heap.size 0 n n a n c (bs (List.replicate n 0)) l hf hs1 (fun _ => rfl) (by simp [bs])
  have hb2 := hb.trans (hk.below (fun k h => by omega) hb.size)
  have hr2 : RowAt w2 5 w.heap.size n (bs l) := by
    have e : splice (bs (List.replicate n 0)) 0 (bs (l.take n)) = bs l := by
      rw [List.take_of_length_le (by omega)]
      simp [splice, bs]; omega
    rw [e] at hh
    have := RowAt.of_full hh (by simp [bs, maxLen]; omega)
    simpa [bs, hl] using this
  go_wp2
  go_ret
  exact ⟨w.heap.size, rfl, Nat.le_refl _, hr2, hb2⟩
end Go.Proofs.YtokcgifpljeoiaaGreat
end
