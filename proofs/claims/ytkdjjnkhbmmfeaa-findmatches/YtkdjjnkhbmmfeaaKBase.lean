import Derived.Test.YtkdjjnkhbmmfeaaRows
import Derived.Test.YtkdjjnkhbmmfeaaCrc
import Derived.WalkKit
import Derived.WalkSpells
import Derived.WalkLawsBesides
import Derived.Below
import Derived.Laws.CopyOwn
import Derived.Lib.SliceRun
import Derived.Deep.QuietTactic
import Derived.BigQuiet
namespace Go.Proofs.Ytkdjjnkhbmmfeaa
open Go.RowKit

theorem infoU8 : (Try.prog.info? 5).map (fun i => (i.zero, i.size, i.bytes)) = some (some (.int .u8 0), 1, 1) := by kernel_rfl

theorem addr_add (g o i : Nat) : (⟨g, o, none⟩ : Addr).add i = ⟨g, o + i, none⟩ := by
  unfold Addr.add
  split <;> simp_all

/-- Bytes as cells. -/
abbrev bs (l : List Int) : List Value := l.map (Value.int .u8)

/-- Block g is a row of c cells of type e, none frozen, that begins with xs. -/
def RowAt (w : World) (e : TypeId) (g c : Nat) (xs : List Value) : Prop :=
  ∃ cur, w.heap[g]? = some (.cells cur e (0, 0)) ∧ cur.size = c ∧ cur.toList.take xs.length = xs ∧ c ≤ maxLen

theorem RowAt.lt {w : World} {e : TypeId} {g c : Nat} {xs : List Value} (h : RowAt w e g c xs) : g < w.heap.size := by
  obtain ⟨cur, hb, _⟩ := h
  exact (Array.getElem?_eq_some_iff.1 hb).1
theorem RowAt.le {w : World} {e : TypeId} {g c : Nat} {xs : List Value} (h : RowAt w e g c xs) : xs.length ≤ c := by
  obtain ⟨cur, _, rfl, ht, _⟩ := h
  have := congrArg List.length ht
  simp at this
  omega
theorem RowAt.max {w : World} {e : TypeId} {g c : Nat} {xs : List Value} (h : RowAt w e g c xs) : c ≤ maxLen := by
  obtain ⟨cur, _, _, _, h⟩ := h; exact h
theorem RowAt.cell {w : World} {e : TypeId} {g c : Nat} {xs : List Value} (h : RowAt w e g c xs) {j : Nat} {u : Value} (hu : xs[j]? = some u) : w.cell? ⟨g, j, none⟩ = some u := by
  obtain ⟨cur, hb, _, ht, _⟩ := h
  simp only [World.cell?, hb]
  have hj := (List.getElem?_eq_some_iff.1 hu).1
  rw [← ht, List.getElem?_take] at hu
  rw [if_pos hj] at hu
  simpa using hu
theorem RowAt.byte {w : World} {e : TypeId} {g c : Nat} {l : List Int} (h : RowAt w e g c (bs l)) {i : Nat} (hi : i < l.length) : w.cell? ((⟨g, 0, none⟩ : Addr).add i) = some (.int .u8 (l.getD i 0)) := by
  rw [addr_add, Nat.zero_add]
  exact h.cell (by simp [bs, List.getD, List.getElem?_eq_getElem hi])
theorem RowAt.frozen {w : World} {e : TypeId} {g c : Nat} {xs : List Value} (h : RowAt w e g c xs) (j : Nat) : w.frozen? ⟨g, j, none⟩ = false := by
  obtain ⟨cur, hb, _⟩ := h
  simp [World.frozen?, hb]
theorem RowAt.agree {w w' : World} {e : TypeId} {g c : Nat} {xs : List Value} (h : RowAt w e g c xs) (hb : w'.heap[g]? = w.heap[g]?) : RowAt w' e g c xs := by
  obtain ⟨cur, h1, h2⟩ := h
  exact ⟨cur, hb.trans h1, h2⟩
theorem RowAt.owns {w : World} {e : TypeId} {g c : Nat} {xs : List Value} (h : RowAt w e g c xs) : w.ownsRow 0 e 1 (.slice (some ⟨g, 0, none⟩) xs.length c) xs.length xs := by
  have hle := h.le
  obtain ⟨cur, hb, hc, ht, hm⟩ := h
  exact ⟨by simp, .inr ⟨g, c, cur, rfl, Nat.zero_le _, hb, hle, hm, by simpa using hc, by simpa using ht⟩⟩
theorem RowAt.of_owns {w : World} {base : Nat} {e : TypeId} {v : Value} {n : Nat} {xs : List Value} (h : w.ownsRow base e 1 v n xs) (hv : v ≠ .slice none 0 0) :
    ∃ g c, v = .slice (some ⟨g, 0, none⟩) n c ∧ base ≤ g ∧ RowAt w e g c xs ∧ xs.length = n := by
  obtain ⟨hl, ⟨rfl, _⟩ | ⟨g, c, cur, rfl, hg, hb, hn, hm, hc, ht⟩⟩ := h
  · exact absurd rfl hv
  · simp only [Nat.mul_one] at hl hc ht
    exact ⟨g, c, rfl, hg, ⟨cur, hb, hc, by rw [hl]; exact ht, hm⟩, hl⟩

/-- w' is w but for new blocks and the blocks of F. -/
structure Keeps (F : Nat → Prop) (w w' : World) : Prop where
  os : w'.os = w.os
  tape : w'.tape = w.tape
  output : w'.output = w.output
  size : w.heap.size ≤ w'.heap.size
  block : ∀ k, k < w.heap.size → ¬ F k → w'.heap[k]? = w.heap[k]?

/-- The blocks that a thing has behind a call: those that it had, and what is new. -/
def more (F : Nat → Prop) (w w' : World) : Nat → Prop := fun k => F k ∨ (w.heap.size ≤ k ∧ k < w'.heap.size)

theorem Keeps.refl (F : Nat → Prop) (w : World) : Keeps F w w := ⟨rfl, rfl, rfl, Nat.le_refl _, fun _ _ _ => rfl⟩
theorem Keeps.trans {F G : Nat → Prop} {a b c : World} (h : Keeps F a b) (k : Keeps G b c) (hG : ∀ j, G j → F j ∨ a.heap.size ≤ j) : Keeps F a c :=
  ⟨k.os.trans h.os, k.tape.trans h.tape, k.output.trans h.output, Nat.le_trans h.size k.size, fun i hi hn =>
    (k.block i (Nat.lt_of_lt_of_le hi h.size) (fun hg => by rcases hG i hg with h1 | h1; exact hn h1; omega)).trans (h.block i hi hn)⟩
theorem Keeps.of_below {w w' : World} (F : Nat → Prop) (h : Below w.heap.size w w') : Keeps F w w' := ⟨h.os, h.tape, h.output, h.size, fun k hk _ => h.block k hk⟩
theorem Keeps.below {B : Nat} {F : Nat → Prop} {w w' : World} (h : Keeps F w w') (hF : ∀ k, F k → B ≤ k) (hB : B ≤ w.heap.size) : Below B w w' :=
  ⟨h.os, h.tape, h.output, h.size, fun k hk => h.block k (by omega) (fun hf => by have := hF k hf; omega)⟩
theorem Keeps.mono {F G : Nat → Prop} {w w' : World} (h : Keeps F w w') (hG : ∀ k, F k → G k) : Keeps G w w' := ⟨h.os, h.tape, h.output, h.size, fun k hk hn => h.block k hk (fun hf => hn (hG k hf))⟩
theorem Keeps.setCell {F : Nat → Prop} (w : World) {p : Addr} (hp : F p.block) (u : Value) : Keeps F w (w.setCell p u) :=
  ⟨rfl, rfl, rfl, by simp [World.setCell], fun k _ hn => Below.heap_setCell w p u k (fun e => hn (e ▸ hp))⟩
theorem Keeps.alloc (F : Nat → Prop) (w : World) (o : Obj) : Keeps F w (w.alloc o) := Keeps.of_below F ((Below.refl _ _).alloc (Nat.le_refl _) _)
theorem Keeps.drew (F : Nat → Prop) (w : World) : Keeps F w w.drew := ⟨rfl, rfl, rfl, Nat.le_refl _, fun _ _ _ => rfl⟩

theorem grown_setCell (w : World) (a : Addr) (v : Value) : w.grownBy (w.setCell a v) (some a.block) :=
  ⟨rfl, rfl, rfl, by simp [World.setCell], fun k _ hn => Below.heap_setCell w a v k (fun e => hn (by rw [e]))⟩

theorem cell_of_block {w : World} {g : Nat} {cur : Array Value} {e : TypeId} (hb : w.heap[g]? = some (.cells cur e (0, 0))) {j : Nat} {u : Value} (hu : cur[j]? = some u) : w.cell? ⟨g, j, none⟩ = some u := by
  simp only [World.cell?, hb]
  simpa using hu
theorem frozen_of_block {w : World} {g : Nat} {cur : Array Value} {e : TypeId} (hb : w.heap[g]? = some (.cells cur e (0, 0))) (j : Nat) : w.frozen? ⟨g, j, none⟩ = false := by
  simp [World.frozen?, hb]

/-- What is told of a list of bytes that is only read: n bytes at whatever address. -/
def Src (w : World) (a : Option Addr) (n : Nat) (l : List Int) : Prop :=
  l.length = n ∧ (a = none → n = 0) ∧ ∀ x, a = some x → ∀ i, i < n → w.cell? (x.add i) = some (.int .u8 (l.getD i 0))

theorem Src.at {w : World} {x : Addr} {n : Nat} {l : List Int} (h : Src w (some x) n l) {i : Nat} (hi : i < n) : w.cell? (x.add i) = some (.int .u8 (l.getD i 0)) := h.2.2 x rfl i hi
theorem RowAt.src {w : World} {e : TypeId} {g c : Nat} {l : List Int} (h : RowAt w e g c (bs l)) : Src w (some ⟨g, 0, none⟩) l.length l :=
  ⟨rfl, (fun h => by cases h), fun x hx i hi => by cases hx; exact h.byte hi⟩
theorem Src.spot {w : World} {x : Addr} {n : Nat} {l : List Int} (h : Src w (some x) n l) (hn : 0 < n) : ∃ b o, x = ⟨b, o, none⟩ ∧ ∀ i, i < n → w.cell? ⟨b, o + i, none⟩ = some (.int .u8 (l.getD i 0)) := by
  obtain ⟨b, o, sp⟩ := x
  have h0 := h.2.2 _ rfl 0 hn
  have hs : sp = none := by simpa [Addr.add] using World.cell?_spot h0
  subst hs
  exact ⟨b, o, rfl, fun i hi => by have := h.2.2 _ rfl i hi; rwa [addr_add] at this⟩
theorem Src.later {w w' : World} {a : Option Addr} {n : Nat} {l : List Int} (h : Src w a n l) (hb : Below w.heap.size w w') : Src w' a n l :=
  ⟨h.1, h.2.1, fun x hx i hi => cell_later hb (h.2.2 x hx i hi)⟩
theorem Src.keeps {w w' : World} {a : Option Addr} {n : Nat} {l : List Int} {F : Nat → Prop} {B : Nat} (h : Src w a n l) (hk : Keeps F w w') (hF : ∀ k, F k → B ≤ k) (ha : ∀ x, a = some x → 0 < n → x.block < B) : Src w' a n l :=
  ⟨h.1, h.2.1, fun x hx i hi => by
    have h0 := h.2.2 x hx i hi
    have hb : (x.add i).block = x.block := by unfold Addr.add; split <;> rfl
    rw [World.cell?_of_block (w := w) (hk.block _ (World.block_lt_of_cell? _ _ h0) (fun hf => by have := hF _ hf; have := ha x hx (by omega); omega))]
    exact h0⟩

theorem Hid.mk {p : Prop} (h : p) : Hid p := h

theorem made_row {w1 : World} {g n : Nat} {base : Nat} (hown : w1.ownsRow base 5 1 (.slice (some ⟨g, 0, none⟩) n n) n (madeCells #[Value.int .u8 0] n).toList) :
    RowAt w1 5 g n (bs (List.replicate n 0)) := by
  obtain ⟨g', c, hv, _, hr, _⟩ := RowAt.of_owns hown (by simp)
  cases hv
  have e : (madeCells #[Value.int .u8 0] n).toList = bs (List.replicate n 0) := by rw [toList_madeCells_one]; simp [bs]
  rw [e] at hr
  exact hr

theorem sizeU8 : (Try.prog.info? 5).map (·.size) = some 1 := by kernel_rfl

theorem bs_getElem {l : List Int} {j : Nat} {v : Value} (h : (bs l)[j]? = some v) : j < l.length ∧ v = .int .u8 (l.getD j 0) := by
  have hj : j < l.length := by
    have := (List.getElem?_eq_some_iff.1 h).1
    simpa [bs] using this
  simp [bs, List.getElem?_eq_getElem hj] at h
  exact ⟨hj, by simp [List.getD, List.getElem?_eq_getElem hj, h]⟩

theorem bs_one (l : List Int) : ∀ v ∈ bs l, v.oneCell' = true := by
  intro v hv
  obtain ⟨x, _, rfl⟩ := List.mem_map.1 hv
  rfl

/-- A row whose every cell is known: the block itself. -/
theorem RowAt.full {w : World} {e : TypeId} {g c : Nat} {xs : List Value} (h : RowAt w e g c xs) (hc : xs.length = c) : w.heap[g]? = some (.cells xs.toArray e (0, 0)) := by
  obtain ⟨cur, hb, hs, ht, _⟩ := h
  have : cur.toList = xs := by
    rw [← ht, List.take_of_length_le (by simp; omega)]
  rw [hb, ← this]
theorem RowAt.of_full {w : World} {e : TypeId} {g : Nat} {xs : List Value} (h : w.heap[g]? = some (.cells xs.toArray e (0, 0))) (hm : xs.length ≤ maxLen) : RowAt w e g xs.length xs :=
  ⟨xs.toArray, h, by simp, by simp, hm⟩

/-- copy of bytes: what it comes to. -/
theorem copy_run (w : World) (ty : TypeId) (dp : Option Addr) (g off dLen dCap : Nat) (a : Option Addr) (sLen sCap : Nat) (cur : List Value) (l : List Int) (hg : w.heap[g]? = some (.cells cur.toArray 5 (0, 0)))
    (hs : Src w a sLen l) (hd : 0 < dLen → dp = some ⟨g, off, none⟩) (hfit : off + dLen ≤ cur.length) :
    ∃ w2, (Builtin.copy_ #[25, 25] ty #[.slice dp dLen dCap, .slice a sLen sCap]).run Try.prog w = .ok (goInt (Nat.min sLen dLen)) w2 ∧
      w2.heap[g]? = some (.cells (splice cur off (bs (l.take dLen))).toArray 5 (0, 0)) ∧ Keeps (fun k => k = g) w w2 ∧ w2.heap.size = w.heap.size := by
  have hl := hs.1
  have hm : Nat.min sLen dLen = min sLen dLen := rfl
  by_cases h0 : min sLen dLen = 0
  · refine ⟨w, ?_, ?_, Keeps.refl _ _, rfl⟩
    · rw [hm, h0]
      exact run_copy_none (P := Try.prog) w _ _ ty 5 dp a dLen dCap sLen sCap Try.underlying25 sizeU8 h0
    · have e : bs (l.take dLen) = [] := by
        have : (bs (l.take dLen)).length = 0 := by simp only [bs, List.length_map, List.length_take]; omega
        exact List.eq_nil_of_length_eq_zero this
      rw [e, hg]
      simp [splice]
  · have h1 : 0 < sLen ∧ 0 < dLen := by omega
    obtain rfl := hd h1.2
    cases a with
    | none => have := hs.2.1 rfl; omega
    | some x =>
      have hlen : (bs (l.take dLen)).length = Nat.min sLen dLen := by
        simp only [bs, List.length_map, List.length_take]; omega
      have hrun := run_copy_row (P := Try.prog) w 25 25 ty 5 g off dLen dCap x sLen sCap cur.toArray 5 (bs (l.take dLen)) Try.underlying25 sizeU8 hg hlen
        (fun j v hj => by
          obtain ⟨hj', rfl⟩ := bs_getElem hj
          have hj2 : j < dLen ∧ j < l.length := by simp only [List.length_take] at hj'; omega
          rw [hs.2.2 x rfl j (by omega)]
          simp [List.getD, hj2.1]) (by simp only [List.size_toArray, hlen]; omega) (bs_one _)
      rw [hlen] at hrun
      refine ⟨_, hrun, ?_, ⟨rfl, rfl, rfl, by simp, fun k _ hk => setRow_other w g k _ hk⟩, by simp⟩
      rw [setRow_heap w g _ _ 5 _ hg]
      simp only [splice, hlen, List.append_assoc]

theorem blockOf_add (x : Addr) (n : Nat) : (x.add n).block = x.block := by unfold Addr.add; split <;> rfl
theorem Src.old {W : World} {a : Option Addr} {n : Nat} {l : List Int} (h : Src W a n l) : ∀ x, a = some x → 0 < n → x.block < W.heap.size := fun x hx hn => by
  have := World.block_lt_of_cell? _ _ (h.2.2 x hx 0 hn)
  rwa [blockOf_add] at this
end Go.Proofs.Ytkdjjnkhbmmfeaa
