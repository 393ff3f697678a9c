import Derived.Test.YtokcgifpljeoiaaGreatW01
import Derived.Test.YtokcgifpljeoiaaGreatW02
import Derived.Test.YtokcgifpljeoiaaGreatW03
import Derived.Test.YtokcgifpljeoiaaGreatW04
import Derived.Test.YtokcgifpljeoiaaGreatW05
import Derived.RegionTactic
section
namespace Go.Proofs.YtokcgifpljeoiaaGreat
open Go.RowKit Go.Maps

def DS.wr (S : DS) (s : Nat) (x : Int) (n : Nat) (l : List Int) : Int × DS :=
  if S.fuse = 0 then (3, S) else if x < 0 ∨ (s : Int) ≤ x then (11, S.refuse) else if n ≠ 512 then (2, S.refuse) else (0, (S.put x.toNat l).wrote.spend)
def DS.rd (S : DS) (s : Nat) (x : Int) : Int × DS × List Int :=
  if S.fuse = 0 then (3, S, []) else if x < 0 ∨ (s : Int) ≤ x then (11, S.refuse, []) else (0, S.read, S.now x.toNat)
def DS.fl (S : DS) (s : Nat) : Int × DS := if S.fuse = 0 then (3, S) else (0, (S.flush s).spend)

theorem DiskAt.more {w w' : World} {F : Nat → Prop} {p s : Nat} {S : DS} (h : DiskAt w' F p s S) : DiskAt w' (more F w w') p s S :=
  h.mono (fun _ hk => .inl hk) (fun k hk => by rcases hk with hk | hk; exact h.lt k hk; exact hk.2)

theorem write_all {w : World} {F : Nat → Prop} {p s : Nat} {S : DS} (h : DiskAt w F p s S) (x : Int) (a : Option Addr) (n c : Nat) (l : List Int) (hs : Src w a n l) (hbig : S.puts.length + 1 ≤ 4000000000000) :
    Calls Tryz.prog 78 #[.pointer (some ⟨p, 0, none⟩), .int .i64 x, .slice a n c] w fun e w' => e = .returned (.int .i64 (S.wr s x n l).1) ∧ DiskAt w' (more F w w') p s (S.wr s x n l).2 ∧ Keeps F w w' := by
  by_cases hf : S.fuse = 0
  · simp only [DS.wr, hf, if_true]
    refine (write_dead h x a n c hf).mono ?_
    rintro e w' ⟨rfl, rfl⟩
    exact ⟨rfl, h.more, Keeps.refl _ _⟩
  · by_cases hx : x < 0 ∨ (s : Int) ≤ x
    · simp only [DS.wr, hf, if_false, hx, if_true]
      refine (write_range h x a n c hf hx).mono ?_
      rintro e w' ⟨rfl, h1, h2⟩
      exact ⟨rfl, h1.more, h2⟩
    · obtain ⟨k, rfl⟩ : ∃ k : Nat, x = (k : Int) := ⟨x.toNat, by omega⟩
      have hk : k < s := by omega
      by_cases hn : n = 512
      · subst hn
        simp only [DS.wr, hf, if_false, hx, ne_eq, not_true_eq_false, Int.toNat_natCast]
        obtain ⟨y, rfl⟩ : ∃ y, a = some y := by
          cases a with
          | none => have := hs.2.1 rfl; omega
          | some y => exact ⟨y, rfl⟩
        exact write_ok h k hk hf (by omega) y c l hs
      · simp only [DS.wr, hf, if_false, hx, ne_eq, hn, not_false_eq_true, if_true]
        refine (write_length h k a n c hf hk hn).mono ?_
        rintro e w' ⟨rfl, h1, h2⟩
        exact ⟨rfl, h1.more, h2⟩

/-- What a Read hands out. -/
def Out (lo : Nat) (w : World) (l : List Int) (v : Value) : Prop := ∃ a c, v = .slice a l.length c ∧ Src w a l.length l ∧ ∀ x, a = some x → lo ≤ x.block

theorem Out.nil (lo : Nat) (w : World) : Out lo w [] (.slice none 0 0) := ⟨none, 0, rfl, ⟨rfl, fun _ => rfl, fun x hx => by cases hx⟩, fun x hx => by cases hx⟩
theorem Out.row {lo : Nat} {w : World} {g c : Nat} {l : List Int} (h : RowAt w 5 g c (bs l)) (hg : lo ≤ g) : Out lo w l (.slice (some ⟨g, 0, none⟩) l.length c) := ⟨_, c, rfl, h.src, fun x hx => by cases hx; exact hg⟩

theorem read_all {w : World} {F : Nat → Prop} {p s : Nat} {S : DS} (h : DiskAt w F p s S) (x : Int) (hbig : S.puts.length + 1 ≤ 4000000000000) :
    Calls Tryz.prog 80 #[.pointer (some ⟨p, 0, none⟩), .int .i64 x] w fun e w' => ∃ v, e = .returned (.tuple #[v, .int .i64 (S.rd s x).1]) ∧ Out w.heap.size w' (S.rd s x).2.2 v ∧ DiskAt w' F p s (S.rd s x).2.1 ∧ Keeps F w w' := by
  by_cases hf : S.fuse = 0
  · simp only [DS.rd, hf, if_true]
    refine (read_dead h x hf).mono ?_
    rintro e w' ⟨rfl, rfl⟩
    exact ⟨_, rfl, Out.nil _ _, h, Keeps.refl _ _⟩
  · by_cases hx : x < 0 ∨ (s : Int) ≤ x
    · simp only [DS.rd, hf, if_false, hx, if_true]
      refine (read_range h x hf hx).mono ?_
      rintro e w' ⟨rfl, h1, h2⟩
      exact ⟨_, rfl, Out.nil _ _, h1, h2⟩
    · obtain ⟨k, rfl⟩ : ∃ k : Nat, x = (k : Int) := ⟨x.toNat, by omega⟩
      have hk : k < s := by omega
      simp only [DS.rd, hf, if_false, hx, Int.toNat_natCast]
      refine (read_ok h k hf hk (by omega)).mono ?_
      rintro e w' ⟨g, c, rfl, hg, hr, h1, h2⟩
      have := Out.row hr hg
      rw [now_len h.ok k hk] at this
      exact ⟨_, rfl, this, h1, h2⟩

theorem flush_all {w : World} {F : Nat → Prop} {p s : Nat} {S : DS} (h : DiskAt w F p s S) (hbig : S.puts.length + 1 ≤ 4000000000000) :
    Calls Tryz.prog 79 #[.pointer (some ⟨p, 0, none⟩)] w fun e w' => e = .returned (.int .i64 (S.fl s).1) ∧ DiskAt w' F p s (S.fl s).2 ∧ Keeps F w w' := by
  by_cases hf : S.fuse = 0
  · simp only [DS.fl, hf, if_true]
    refine (flush_dead h hf).mono ?_
    rintro e w' ⟨rfl, rfl⟩
    exact ⟨rfl, h, Keeps.refl _ _⟩
  · simp only [DS.fl, hf, if_false]
    exact flush_ok h hf (by omega)

theorem Out.keeps {lo : Nat} {w w' : World} {l : List Int} {v : Value} {F : Nat → Prop} (h : Out lo w l v) (hk : Keeps F w w') (hF : ∀ k, F k → k < lo) : Out lo w' l v := by
  obtain ⟨a, c, rfl, hs, hl⟩ := h
  refine ⟨a, c, rfl, ⟨hs.1, hs.2.1, fun x hx i hi => ?_⟩, hl⟩
  have h1 := hs.2.2 x hx i hi
  have hb := World.block_lt_of_cell? _ _ h1
  rw [blockOf_add] at hb
  exact (World.cell?_of_block (w := w) (by rw [blockOf_add]; exact hk.block _ hb (fun hf => by have := hF _ hf; have := hl x hx; omega))).trans h1
theorem wr_puts (S : DS) (s : Nat) (x : Int) (n : Nat) (l : List Int) : (S.wr s x n l).2.puts.length ≤ S.puts.length + 1 := by
  unfold DS.wr
  split
  · simp
  · split
    · simp [DS.refuse]
    · split
      · simp [DS.refuse]
      · simp [DS.put, DS.wrote, DS.spend]
theorem fl_puts (S : DS) (s : Nat) : (S.fl s).2.puts.length ≤ S.puts.length + 1 := by
  unfold DS.fl
  split
  · simp
  · simp [DS.flush, DS.spend]
theorem below_box (w : World) (o : Obj) : Below w.heap.size w (w.alloc o) := (Below.refl _ _).alloc (Nat.le_refl _) _

end Go.Proofs.YtokcgifpljeoiaaGreat
end

section
namespace Go.Proofs.YtokcgifpljeoiaaGreat
open Go.RowKit

/-- An area as a value. -/
abbrev areaV (p : Nat) (f n : Int) : Value := .agg #[.pointer (some ⟨p, 0, none⟩), .int .i64 f, .int .i64 n]

set_option maxRecDepth 20000 in
set_option maxHeartbeats 2000000 in
theorem aend_any (p : Nat) (f n : Int) (w : World) (hf : 0 ≤ f) (hf2 : f ≤ 100000) (hn : 0 ≤ n) (hn2 : n ≤ 100000) :
    Calls Tryz.prog 117 #[areaV p f n] w fun e w' => e = .returned (.int .i64 (f + 2 + n)) ∧ Below w.heap.size w w' := by
  go_enter Tryz.func117, Tryz.ntmps117
  go_wp2
  go_ret
  exact ⟨rfl, ((Below.refl w.heap.size w).alloc (Nat.le_refl _) (.cells #[.pointer (some ⟨p, 0, none⟩), .int .i64 f, .int .i64 n] 134))⟩

set_option maxRecDepth 20000 in
set_option maxHeartbeats 2000000 in
theorem aat_any (p : Nat) (f n x : Int) (w : World) (hf : 0 ≤ f) (hf2 : f ≤ 100000) (hn : 1 ≤ n) (hn2 : n ≤ 100000) (hx : 0 ≤ x) :
    Calls Tryz.prog 143 #[areaV p f n, .int .i64 x] w fun e w' => e = .returned (.int .i64 (f + 2 + x % n)) ∧ Below w.heap.size w w' := by
  have h1 : 0 ≤ x % n := Int.emod_nonneg _ (by omega)
  have h2 : x % n < n := Int.emod_lt_of_pos _ (by omega)
  have h3 : x.tmod n = x % n := Int.tmod_eq_emod_of_nonneg hx
  generalize x % n = y at *
  go_enter Tryz.func143, Tryz.ntmps143
  go_wp2
  go_region
  go_wp2
  go_ret
  exact ⟨rfl, below_drew ((Below.refl w.heap.size w).alloc (Nat.le_refl _) (.cells #[.pointer (some ⟨p, 0, none⟩), .int .i64 f, .int .i64 n] 134))⟩

/-- Why no log can lie there. -/
def lrefuse (S : DS) (s : Nat) (f n : Int) : Int :=
  if S.fuse = 0 then 3 else if f < 0 ∨ (s : Int) ≤ f then 11 else if n < 18 ∨ 256 < n then 1 else if (s : Int) < f + 2 + n then 11 else 0

theorem DiskAt.boxed {w : World} {F : Nat → Prop} {p s : Nat} {S : DS} (h : DiskAt w F p s S) (o : Obj) : DiskAt (w.alloc o) F p s S :=
  h.keep (Keeps.of_below (fun _ => False) ((Below.refl w.heap.size w).alloc (Nat.le_refl _) o)) (fun _ _ h => h)

set_option maxRecDepth 20000 in
set_option maxHeartbeats 4000000 in
theorem refusal_any {w : World} {F : Nat → Prop} {p s : Nat} {S : DS} (h : DiskAt w F p s S) (f n : Int) (hs : s ≤ 2048) :
    Calls Tryz.prog 83 #[areaV p f n] w fun e w' => e = .returned (.int .i64 (lrefuse S s f n)) ∧ Below w.heap.size w w' := by
  have hB := (Below.refl w.heap.size w).alloc (Nat.le_refl _) (.cells #[.pointer (some ⟨p, 0, none⟩), .int .i64 f, .int .i64 n] 134)
  have h1 := sectors_at (h.boxed (.cells #[.pointer (some ⟨p, 0, none⟩), .int .i64 f, .int .i64 n] 134))
  have h2 := burnt_at (h.boxed (.cells #[.pointer (some ⟨p, 0, none⟩), .int .i64 f, .int .i64 n] 134))
  have h3 := aend_any p f n (w.alloc (.cells #[.pointer (some ⟨p, 0, none⟩), .int .i64 f, .int .i64 n] 134))
  unfold lrefuse
  go_enter Tryz.func83, Tryz.ntmps83
  by_cases c1 : S.fuse = 0
  · rw [show (S.fuse == 0) = true by simp [c1]] at h2
    rw [if_pos c1]
    go_wp2_with (first | (go_at_call 20; refine h1.mono ?_; rintro e w' ⟨rfl, hw⟩; subst hw) | (go_at_call 51; refine h2.mono ?_; rintro e w' ⟨rfl, hw⟩; subst hw))
    go_ret
    exact ⟨rfl, hB⟩
  · rw [show (S.fuse == 0) = false by simp [c1]] at h2
    rw [if_neg c1]
    by_cases c2 : f < 0 ∨ (s : Int) ≤ f
    · rw [if_pos c2]
      by_cases c3 : f < 0
      · clear c2
        go_wp2_with (first | (go_at_call 20; refine h1.mono ?_; rintro e w' ⟨rfl, hw⟩; subst hw) | (go_at_call 51; refine h2.mono ?_; rintro e w' ⟨rfl, hw⟩; subst hw))
        go_ret
        exact ⟨rfl, hB⟩
      · have c4 : (s : Int) ≤ f := by omega
        go_wp2_with (first | (go_at_call 20; refine h1.mono ?_; rintro e w' ⟨rfl, hw⟩; subst hw) | (go_at_call 51; refine h2.mono ?_; rintro e w' ⟨rfl, hw⟩; subst hw))
        go_ret
        exact ⟨rfl, hB⟩
    · rw [if_neg c2]
      have c3 : ¬ f < 0 := by omega
      have c4 : ¬ (s : Int) ≤ f := by omega
      by_cases c5 : n < 18 ∨ 256 < n
      · rw [if_pos c5]
        by_cases c6 : n < 18
        · clear c5
          go_wp2_with (first | (go_at_call 20; refine h1.mono ?_; rintro e w' ⟨rfl, hw⟩; subst hw) | (go_at_call 51; refine h2.mono ?_; rintro e w' ⟨rfl, hw⟩; subst hw))
          go_ret
          exact ⟨rfl, hB⟩
        · have c7 : 256 < n := by omega
          go_wp2_with (first | (go_at_call 20; refine h1.mono ?_; rintro e w' ⟨rfl, hw⟩; subst hw) | (go_at_call 51; refine h2.mono ?_; rintro e w' ⟨rfl, hw⟩; subst hw))
          go_ret
          exact ⟨rfl, hB⟩
      · rw [if_neg c5]
        have c6 : ¬ n < 18 := by omega
        have c7 : ¬ 256 < n := by omega
        have h3 := h3 (by omega) (by omega) (by omega) (by omega)
        by_cases c8 : (s : Int) < f + 2 + n
        · rw [if_pos c8]
          go_wp2_with (first | (go_at_call 20; refine h1.mono ?_; rintro e w' ⟨rfl, hw⟩; subst hw) | (go_at_call 51; refine h2.mono ?_; rintro e w' ⟨rfl, hw⟩; subst hw))
          refine h3.mono ?_
          rintro e w2 ⟨rfl, hb⟩
          go_wp2
          go_ret
          exact ⟨rfl, (hB.trans (hb.mono hB.size))⟩
        · rw [if_neg c8]
          go_wp2_with (first | (go_at_call 20; refine h1.mono ?_; rintro e w' ⟨rfl, hw⟩; subst hw) | (go_at_call 51; refine h2.mono ?_; rintro e w' ⟨rfl, hw⟩; subst hw))
          refine h3.mono ?_
          rintro e w2 ⟨rfl, hb⟩
          go_wp2
          go_ret
          exact ⟨rfl, (hB.trans (hb.mono hB.size))⟩
end Go.Proofs.YtokcgifpljeoiaaGreat
end

section
namespace Go.Proofs.YtokcgifpljeoiaaGreat
open Go.RowKit

end Go.Proofs.YtokcgifpljeoiaaGreat
end

section
namespace Go.Proofs.YtokcgifpljeoiaaGreat
open Go.RowKit

end Go.Proofs.YtokcgifpljeoiaaGreat
end

section
namespace Go.Proofs.YtokcgifpljeoiaaGreat
open Go.RowKit

theorem src_spot {w : World} {a : Option Addr} {n : Nat} {l : List Int} (h : Src w a n l) (hn : 0 < n) : ∃ b o, a = some ⟨b, o, none⟩ := by
  cases a with
  | none => have := h.2.1 rfl; omega
  | some x =>
    obtain ⟨b, o, rfl, _⟩ := h.spot hn
    exact ⟨b, o, rfl⟩

theorem seal_any (a : Option Addr) (n c : Nat) (old : List Int) (a2 : Option Addr) (m c2 : Nat) (body : List Int) (w : World) (hs : Src w a n old) (hs2 : Src w a2 m body) (hb : Bytes body) :
    Calls Tryz.prog 167 #[.slice a n c, .slice a2 m c2] w fun e w' => ∃ v, e = .returned (.tuple #[v, .int .i64 (((sseal old body).2 : Nat) : Int)]) ∧ Lst w' w.heap.size v (sseal old body).1 ∧ Below w.heap.size w w' := by
  have h1 := hs.1
  have h2 := hs2.1
  by_cases hn : n = 512
  · subst hn
    obtain ⟨b, o, rfl⟩ := src_spot hs (by omega)
    by_cases hm : 504 < m
    · refine (seal_no2 b o c old a2 m c2 w hs hm).mono ?_
      rintro e w' ⟨rfl, hbel⟩
      have e : sseal old body = ([], 7) := by unfold sseal; rw [if_neg (by omega), if_pos (by omega)]
      rw [e]
      exact ⟨_, rfl, Lst.nil _ _, hbel⟩
    · refine (seal_ok b o c old a2 m c2 body w hs hs2 (by omega) hb).mono ?_
      rintro e w' ⟨g, rfl, hblk, hg, hbel⟩
      have e : sseal old body = (sform (turnOf (old.getD 0 0) (old.getD 511 0)) body, 0) := by unfold sseal; rw [if_neg (by omega), if_neg (by omega)]
      rw [e]
      have hl : (sform (turnOf (old.getD 0 0) (old.getD 511 0)) body).length = 512 := sform_len (by omega)
      have := hblk.lst hg
      rw [hl] at this
      exact ⟨_, rfl, this, hbel⟩
  · refine (seal_no1 a n c a2 m c2 w hn).mono ?_
    rintro e w' ⟨rfl, hbel⟩
    have e : sseal old body = ([], 2) := by unfold sseal; rw [if_pos (by omega)]
    rw [e]
    exact ⟨_, rfl, Lst.nil _ _, hbel⟩
end Go.Proofs.YtokcgifpljeoiaaGreat
end

section
namespace Go.Proofs.YtokcgifpljeoiaaGreat
open Go.RowKit

end Go.Proofs.YtokcgifpljeoiaaGreat
end

section
namespace Go.Proofs.YtokcgifpljeoiaaGreat
open Go.RowKit

theorem sopens_no1 {s : List Int} (h : s.length ≠ 512) : sopens s = ([], 2) := by unfold sopens; rw [if_pos h]
theorem sopens_none {s : List Int} (h : s.length = 512) (h2 : sopen s = none) : sopens s = ([], 30) := by unfold sopens; rw [if_neg (by omega), h2]
theorem sopens_some {s b : List Int} (h : s.length = 512) (h2 : sopen s = some b) : sopens s = (b, 0) := by unfold sopens; rw [if_neg (by omega), h2]
theorem sopen_yes {s : List Int} (h1 : slen s ≤ 504) (h2 : s.getD 0 0 ≤ 2) (h3 : sform (s.getD 0 0) (sbody s) = s) : sopen s = some (sbody s) := by unfold sopen; rw [if_pos ⟨h1, h2, h3⟩]
theorem sopen_no {s : List Int} (h : ¬ (slen s ≤ 504 ∧ s.getD 0 0 ≤ 2 ∧ sform (s.getD 0 0) (sbody s) = s)) : sopen s = none := by unfold sopen; rw [if_neg h]
theorem slen_eq {s : List Int} (h : Bytes s) : ((slen s : Nat) : Int) = s.getD 1 0 + 256 * s.getD 2 0 := by
  have h1 := h.getD 1
  have h2 := h.getD 2
  unfold slen
  omega

end Go.Proofs.YtokcgifpljeoiaaGreat
end

section
namespace Go.Proofs.YtokcgifpljeoiaaGreat
open Go.RowKit

theorem le2 {a b : Int} (ha : 0 ≤ a) (hb : 0 ≤ b) : ((le [a, b] : Nat) : Int) = a + 256 * b := by
  simp only [le]
  omega
theorem take2 {s : List Int} (h : s.length = 512) : (s.drop 1).take 2 = [s.getD 1 0, s.getD 2 0] := by
  match s, h with
  | a :: b :: c :: r, _ => rfl
theorem src_part {w : World} {b o n : Nat} {l : List Int} (h : Src w (some ⟨b, o, none⟩) n l) {i m : Nat} (hm : i + m ≤ n) : Src w (some ⟨b, o + i, none⟩) m ((l.drop i).take m) :=
  ⟨by have := h.1; simp; omega, (fun e => by cases e), fun x hx j hj => by
    cases hx
    have := h.2.2 _ rfl (i + j) (by omega)
    rw [addr_add] at this ⊢
    rw [Nat.add_assoc, this]
    simp [List.getD, hj]⟩

set_option maxRecDepth 20000 in
set_option maxHeartbeats 4000000 in
theorem open_no (g o : Nat) (s : List Int) (w : World) (hs : Src w (some ⟨g, o, none⟩) 512 s) (hb : Bytes s) (hbad : 504 < slen s ∨ 2 < s.getD 0 0) :
    Calls Tryz.prog 188 #[.pointer (some ⟨g, o, none⟩)] w fun e w' => e = .returned (.tuple #[.slice none 0 0, .bool false]) ∧ w' = w := by
  have hp := src_part hs (i := 1) (m := 2) (by omega)
  have h2 := taken_any g (o + 1) 2 2 ((s.drop 1).take 2) w ((hb.drop _).take _) hp.1 (by omega) (fun i hi => by have := hp.2.2 _ rfl i hi; rwa [addr_add] at this)
  rw [take2 hs.1, le2 (hb.getD 1).1 (hb.getD 2).1, ← (slen_eq hb)] at h2
  have c0 := hs.2.2 _ rfl 0 (by omega)
  rw [addr_add, Nat.add_zero] at c0
  have g0 := hb.getD 0
  have h00 := g0.1
  have h01 := g0.2
  generalize s.getD 0 0 = x at *
  generalize slen s = N at *
  clear hs hp g0
  go_enter Tryz.func188, Tryz.ntmps188
  go_wp2_with fail
  refine (cut_any g o 1 3 w (by omega) (by omega)).mono ?_
  rintro e w' ⟨rfl, hw⟩
  have hw' := hw.symm
  subst hw'
  clear hw
  go_wp2_with fail
  refine h2.mono ?_
  rintro e w' ⟨rfl, hw⟩
  have hw' := hw.symm
  subst hw'
  clear hw h2
  by_cases hx : 2 < x
  · have hx' : 3 ≤ x := by omega
    go_wp2
    go_ret2
    exact ⟨rfl, rfl⟩
  · have hx' : ¬ 3 ≤ x := by omega
    have hN : 504 < (N : Int) := by omega
    go_wp2
    go_ret2
    exact ⟨rfl, rfl⟩

theorem quiet_load_mid {P : Program} {C : World → Prop} {a : Act} {op : Oper} {K : Act → Prop} (ty : TypeId) (x : Operand) (ho : op.op = .load ty x)
    (b o : Nat) (hx : a.eval x = .pointer (some ⟨b, o, none⟩)) (cs : List Value) (d : TypeDesc) (hc : ∀ w, C w → w.rangeAt b o cs)
    (hu : P.underlying ty = some d) (hd : d.isRow = true) (hi : (P.info? ty).map (·.size) = some cs.length) (hk : K (a.put op.dst (.agg cs.toArray))) : op.quiet P a C K :=
  ⟨_, fun w hw => by
    unfold Oper.quietAt execOp
    simp only [ho, hx, Instr.loadAt, Instr.sureAddr, Sem.run_bind, Sem.run_pure, Result.andThen_ok, run_loadVar_mid w b o ty cs d (hc w hw) hu hd hi]
    exact ⟨rfl, rfl⟩, hk⟩
theorem quiet_eq_sec {C : World → Prop} {a : Act} {op : Oper} {K : Act → Prop} (x y : Operand) (T : TypeId) (ho : op.op = .binOp .eql 200 x y T)
    (l m : List Int) (hx : a.eval x = .agg (bs l).toArray) (hy : a.eval y = .agg (bs m).toArray) (hl : l.length = 512) (hm : m.length = 512) (hk : K (a.put op.dst (.bool (decide (l = m))))) : op.quiet Tryz.prog a C K :=
  ⟨_, fun w _ => by
    unfold Oper.quietAt execOp
    simp only [ho, hx, hy]
    have := eqop_sec l m hl hm w x y
    rw [Sem.run_bind, this]
    exact ⟨rfl, rfl⟩, hk⟩

set_option maxRecDepth 20000 in
set_option maxHeartbeats 4000000 in
theorem open_yes (g o : Nat) (s : List Int) (w : World) (hs : Src w (some ⟨g, o, none⟩) 512 s) (hb : Bytes s) (hN : slen s ≤ 504) (hx : s.getD 0 0 ≤ 2) :
    Calls Tryz.prog 188 #[.pointer (some ⟨g, o, none⟩)] w fun e w' => ∃ k, e = .returned (.tuple #[.slice (some ⟨g, k, none⟩) (slen s) (slen s), .bool (decide (sform (s.getD 0 0) (sbody s) = s))]) ∧ (0 < slen s → k = o + 7) ∧ Below w.heap.size w w' := by
  have hp := src_part hs (i := 1) (m := 2) (by omega)
  have h2 := taken_any g (o + 1) 2 2 ((s.drop 1).take 2) w ((hb.drop _).take _) hp.1 (by omega) (fun i hi => by have := hp.2.2 _ rfl i hi; rwa [addr_add] at this)
  rw [take2 hs.1, le2 (hb.getD 1).1 (hb.getD 2).1, ← (slen_eq hb)] at h2
  have c0 := hs.2.2 _ rfl 0 (by omega)
  rw [addr_add, Nat.add_zero] at c0
  have g0 := hb.getD 0
  have hbody : ∃ k, Src w (some ⟨g, k, none⟩) (slen s) (sbody s) ∧ (0 < slen s → k = o + 7) ∧ Calls Tryz.prog 179 #[.pointer (some ⟨g, o, none⟩), .int .i64 7, .int .i64 (7 + (slen s : Int))] w fun e w' => e = .returned (.slice (some ⟨g, k, none⟩) (slen s) (slen s)) ∧ w' = w := by
    by_cases h0 : slen s = 0
    · have hcn := cut_none g o 7 w (by omega)
      refine ⟨o, ⟨by rw [sbody_len hN hs.1], (fun e => by cases e), fun x hx i hi => by omega⟩, fun h => by omega, ?_⟩
      rw [h0]
      exact hcn
    · have hc := cut_any g o 7 (7 + slen s) w (by omega) (by omega)
      refine ⟨o + 7, src_part hs (i := 7) (m := slen s) (by omega), fun _ => rfl, ?_⟩
      have e1 : 7 + slen s - 7 = slen s := by omega
      rw [e1] at hc
      have e2 : ((7 + slen s : Nat) : Int) = 7 + (slen s : Int) := by omega
      rw [e2] at hc
      exact hc
  obtain ⟨k, hk, hkk, hc⟩ := hbody
  obtain ⟨t, ht⟩ : ∃ t : Nat, s.getD 0 0 = (t : Int) := ⟨(s.getD 0 0).toNat, by omega⟩
  have hbb : Bytes (sbody s) := (hb.drop _).take _
  rw [ht] at c0 hx ⊢
  have p1 : (∀ q : Later w, Calls Tryz.prog 152 #[.int .u8 (t : Int), .slice (some ⟨g, k, none⟩) (slen s) (slen s)] q.to fun e w' => e = .returned (.agg (bs (sform t (sbody s))).toArray) ∧ Below q.to.heap.size q.to w') :=
    fun q => sealed_any t (some ⟨g, k, none⟩) (slen s) (slen s) (sbody s) q.to (by omega) (hk.later q.h) hN hbb
  have hfl : (sform t (sbody s)).length = 512 := sform_len (by rw [(sbody_len hN hs.1)]; exact hN)
  have hra : ∀ w', (∃ q : Later w, w' = q.to) → w'.rangeAt g o (bs s) := fun w' ⟨q, e⟩ => by rw [e]; exact src_range (hs.later q.h)
  have c0q : ∀ q : Later w, q.to.cell? ⟨g, o, none⟩ = some (.int .u8 (t : Int)) := fun q => cell_later q.h c0
  have Hkk := hkk
  have Hra := hra
  have Hfl := hfl
  have Hsl := hs.1
  have Hinfo := infoSecL (l := s) hs.1
  clear hs hp g0 hk hkk hbb hfl hra
  obtain ⟨R, hR⟩ : ∃ R, R = sform t (sbody s) := ⟨_, rfl⟩
  rw [← hR] at p1 Hfl ⊢
  clear hR
  generalize slen s = N at *
  have hx3 : ¬ 3 ≤ (t : Int) := by omega
  go_enter Tryz.func188, Tryz.ntmps188
  go_wp2_with fail
  refine (cut_any g o 1 3 w (by omega) (by omega)).mono ?_
  rintro e w' ⟨rfl, hw⟩
  have hw' := hw.symm
  subst hw'
  clear hw
  go_wp2_with fail
  refine h2.mono ?_
  rintro e w' ⟨rfl, hw⟩
  have hw' := hw.symm
  subst hw'
  clear hw h2
  go_wp2_with fail
  refine hc.mono ?_
  rintro e w' ⟨rfl, hw⟩
  have hw' := hw.symm
  subst hw'
  clear hw hc
  go_wp2_with fail
  have hne := Later.some w
  refine wp_region_later (by kernel_rfl) (by kernel_rfl) ?_
  repeat (first | go_big_quiet_skip | (go_big_quiet_want; go_big_quiet_op; first | go_big_quiet_on | (apply Exists.intro; refine ⟨fun q => ?_, ?_⟩; exact Calls.later_of (p1 q); go_big_quiet_on)))
  go_big_quiet_want
  refine quiet_load_mid 200 _ rfl g o rfl (bs s) _ Hra Tryz.underlying200 rfl Hinfo ?_
  simp only [Act.put, List.setIfInBounds_toArray, List.set_cons_succ, List.set_cons_zero]
  go_big_quiet_on
  go_big_quiet_want
  refine quiet_eq_sec _ _ _ rfl R s rfl rfl Hfl Hsl ?_
  simp only [Act.put, List.setIfInBounds_toArray, List.set_cons_succ, List.set_cons_zero]
  go_big_quiet_on
  repeat (go_big_quiet_want; go_big_quiet_op; go_big_quiet_on)
  refine wpQuiet_nil ?_
  rintro _ ⟨q, rfl⟩
  go_wp2
  go_ret2
  exact ⟨k, rfl, Hkk, q.h⟩
end Go.Proofs.YtokcgifpljeoiaaGreat
end

section
namespace Go.Proofs.YtokcgifpljeoiaaGreat
open Go.RowKit

set_option maxRecDepth 20000 in
set_option maxHeartbeats 4000000 in
theorem sopen_no1 (a : Option Addr) (n c : Nat) (w : World) (hn : n ≠ 512) :
    Calls Tryz.prog 173 #[.slice a n c] w fun e w' => e = .returned (.tuple #[.slice none 0 0, .int .i64 2]) ∧ Below w.heap.size w w' := by
  have hz := zeroSec
  have hs := sectorOf_no a n c w hn
  have hinfo := infoSecZ
  have hone := zsec_one
  generalize zsec = Z at *
  have hall : Z.all Value.oneCell' = true := all_oneCell_toArray hone
  go_enter Tryz.func173, Tryz.ntmps173
  go_wp2_with fail
  refine hs.mono ?_
  rintro e w1 ⟨rfl, hb1⟩
  have hw1 : (w1.alloc (.cells Z 200)).heap[w1.heap.size]? = some (.cells Z 200 (0, 0)) := heap_alloc_new _ _
  have hth : (w1.alloc (.cells Z 200)).there w1.heap.size 0 Z.toList.length := there_of hw1 (by simp)
  have hB1 : Below w.heap.size w (w1.alloc (.cells Z 200)) := hb1.alloc hb1.size _
  have hsz := hb1.size
  have hB6 := (hB1.trans ((Keeps.setCells (F := fun j => j = w1.heap.size) rfl Z.toList 0 _).below (fun j hj => by omega) hB1.size))
  go_wp2_with (refine wpList_store_mid rfl 200 _ _ rfl w1.heap.size 0 Z rfl rfl ?h1 ?h2 hall ?_)
  case h1 => simpa using hth
  case h2 => simpa using hinfo
  go_ret2
  exact ⟨rfl, hB6⟩

set_option maxRecDepth 20000 in
set_option maxHeartbeats 4000000 in
theorem sopen_all (b o c : Nat) (s : List Int) (w : World) (hs : Src w (some ⟨b, o, none⟩) 512 s) (hbs : Bytes s) :
    Calls Tryz.prog 173 #[.slice (some ⟨b, o, none⟩) 512 c] w fun e w' => ∃ v, e = .returned (.tuple #[v, .int .i64 (((sopens s).2 : Nat) : Int)]) ∧ Lst w' w.heap.size v (sopens s).1 ∧ Below w.heap.size w w' := by
  have hz := zeroSec
  have hs1 := sectorOf_ok b o c s w hs
  have hinfo := infoSecL (l := s) hs.1
  have hone := bs_one s
  have hll : (bs s).length = 512 := by rw [bs, List.length_map, hs.1]
  have hsl := hs.1
  have hall := all_oneCell_toArray hone
  obtain ⟨F, hF⟩ : ∃ F, F = bs s := ⟨_, rfl⟩
  rw [← hF] at hs1 hinfo hone hll hall
  have HF := Hid.mk hF
  clear hone hs hF
  go_enter Tryz.func173, Tryz.ntmps173
  go_wp2_with fail
  refine hs1.mono ?_
  rintro e w1 ⟨rfl, hb1⟩
  have hw1 : (w1.alloc (.cells zsec 200)).heap[w1.heap.size]? = some (.cells zsec 200 (0, 0)) := heap_alloc_new _ _
  have hth := there_of hw1 zsec_size
  rw [← hll] at hth
  have hB1 : Below w.heap.size w (w1.alloc (.cells zsec 200)) := hb1.alloc hb1.size _
  have hsz := hb1.size
  have hB2 := hB1.trans ((Keeps.setCells (F := fun j => j = w1.heap.size) rfl F 0 _).below (fun j hj => by omega) hB1.size)
  have hblk := blk_stored (l := s) hw1 (by rw [zsec_size, hsl])
  rw [← HF.out] at hblk
  obtain ⟨w2, hw2⟩ : ∃ w2, w2 = (w1.alloc (.cells zsec 200)).setCells w1.heap.size 0 F := ⟨_, rfl⟩
  rw [← hw2] at hblk hB2
  have hsrc : Src w2 (some ⟨w1.heap.size, 0, none⟩) 512 s := by
    have := hblk.src (o := 0) (n := 512) (by omega)
    rwa [List.drop_zero, List.take_of_length_le (by omega)] at this
  have HB2 := Hid.mk hB2
  have Hsrc := Hid.mk hsrc
  clear hs1 hw1 hB1 hb1 hblk hB2 hsrc
  go_wp2_with (refine wpList_store_mid rfl 200 _ _ rfl w1.heap.size 0 F.toArray rfl rfl ?h1 ?h2 hall ?_)
  case h1 => simpa using hth
  case h2 => simpa using hinfo
  rw [← hw2]
  clear hw2 hth hinfo hall
  by_cases hbad : 504 < slen s ∨ 2 < s.getD 0 0
  · have hno := sopens_none hsl (sopen_no (fun h => by omega))
    have Hno := Hid.mk hno
    refine (open_no w1.heap.size 0 s w2 Hsrc.out hbs hbad).mono ?_
    rintro e w' ⟨rfl, hw⟩
    have hw' := hw.symm
    subst hw'
    clear hw hno hbad
    go_wp2
    go_ret2
    exact ⟨_, by rw [Hno.out]; rfl, by rw [Hno.out]; exact Lst.nil _ _, HB2.out⟩
  · refine (open_yes w1.heap.size 0 s w2 Hsrc.out hbs (by omega) (by omega)).mono ?_
    rintro e w3 ⟨k, rfl, hk, hb3⟩
    have hsb : Src w3 (some ⟨w1.heap.size, k, none⟩) (slen s) (sbody s) := by
      by_cases h0 : slen s = 0
      · exact ⟨sbody_len (by omega) hsl, (fun e => by cases e), fun x hx i hi => by omega⟩
      · rw [hk (by omega)]
        exact src_part (Hsrc.out.later hb3) (i := 7) (m := slen s) (by omega)
    have HB3 := Hid.mk (HB2.out.trans (hb3.mono HB2.out.size))
    have hbl := sbody_len (s := s) (by omega) hsl
    have hlst : Lst w3 w.heap.size (.slice (some ⟨w1.heap.size, k, none⟩) (slen s) (slen s)) (sbody s) := ⟨some ⟨w1.heap.size, k, none⟩, slen s, by rw [hbl], by rw [hbl]; exact hsb, by omega, fun x hx => by cases hx; exact hsz⟩
    have Hlst := Hid.mk hlst
    clear hsb hlst hk hb3 hbl
    by_cases heq : sform (s.getD 0 0) (sbody s) = s
    · have hy := sopens_some hsl (sopen_yes (by omega) (by omega) heq)
      have Hy := Hid.mk hy
      rw [decide_eq_true heq]
      clear heq hy
      go_wp2
      go_ret2
      exact ⟨_, by rw [Hy.out]; rfl, by rw [Hy.out]; exact Hlst.out, HB3.out⟩
    · have hy := sopens_none hsl (sopen_no (fun h => heq h.2.2))
      have Hy := Hid.mk hy
      rw [decide_eq_false heq]
      clear heq hy
      go_wp2
      go_ret2
      exact ⟨_, by rw [Hy.out]; rfl, by rw [Hy.out]; exact Lst.nil _ _, HB3.out⟩

theorem sopen_any (a : Option Addr) (n c : Nat) (s : List Int) (w : World) (hs : Src w a n s) (hb : Bytes s) :
    Calls Tryz.prog 173 #[.slice a n c] w fun e w' => ∃ v, e = .returned (.tuple #[v, .int .i64 (((sopens s).2 : Nat) : Int)]) ∧ Lst w' w.heap.size v (sopens s).1 ∧ Below w.heap.size w w' := by
  by_cases hn : n = 512
  · subst hn
    obtain ⟨b, o, rfl⟩ := src_spot hs (by omega)
    exact sopen_all b o c s w hs hb
  · refine (sopen_no1 a n c w hn).mono ?_
    rintro e w' ⟨rfl, hbel⟩
    rw [sopens_no1 (by rw [hs.1]; exact hn)]
    exact ⟨_, rfl, Lst.nil _ _, hbel⟩
theorem sseal_ok {old body : List Int} (h1 : old.length = 512) (h2 : body.length ≤ 504) : sseal old body = (sform (turnOf (old.getD 0 0) (old.getD 511 0)) body, 0) := by
  unfold sseal; rw [if_neg (by omega), if_neg (by omega)]
end Go.Proofs.YtokcgifpljeoiaaGreat
end

section
namespace Go.Proofs.YtokcgifpljeoiaaGreat
open Go.RowKit

/-- What sectorOf makes of a list. -/
def secOf (l : List Int) : List Int := if l.length = 512 then l else zs 512
theorem secOf_len (l : List Int) : (secOf l).length = 512 := by unfold secOf; split; assumption; exact zs_len 512
theorem secOf_self {l : List Int} (h : l.length = 512) : secOf l = l := by unfold secOf; rw [if_pos h]
theorem sectorOf_any (a : Option Addr) (n c : Nat) (l : List Int) (w : World) (hs : Src w a n l) :
    Calls Tryz.prog 176 #[.slice a n c] w fun e w' => e = .returned (.tuple #[.agg (bs (secOf l)).toArray, .bool (decide (n = 512))]) ∧ Below w.heap.size w w' := by
  by_cases hn : n = 512
  · subst hn
    cases a with
    | none => have := hs.2.1 rfl; omega
    | some x =>
      obtain ⟨b, o, rfl, _⟩ := hs.spot (by omega)
      rw [secOf_self hs.1]
      exact sectorOf_ok b o c l w hs
  · have e : secOf l = zs 512 := by unfold secOf; rw [if_neg (by rw [hs.1]; exact hn)]
    rw [e, decide_eq_false hn]
    exact sectorOf_no a n c w hn

def zpair : Array Value := (bs (zs 1024)).toArray
theorem infoPair : (Tryz.prog.info? 202).map (fun i => (i.zero, i.size)) = some (some (.agg zpair), 1024) := by kernel_rfl
theorem zeroPair (w : World) : (zeroValue 202).run Tryz.prog w = .ok (.agg zpair) w := by
  obtain ⟨i, hi, he⟩ := Option.map_eq_some_iff.1 infoPair
  simp only [Prod.mk.injEq] at he
  simp [zeroValue, typeInfo, hi, he.1]
theorem sizePair : (Tryz.prog.info? 202).map (·.size) = some 1024 := by
  obtain ⟨i, hi, he⟩ := Option.map_eq_some_iff.1 infoPair
  simp only [Prod.mk.injEq] at he
  rw [hi, ← he.2]; rfl
theorem zpair_size : zpair.size = 1024 := by unfold zpair; simp only [List.size_toArray, bs, List.length_map, zs_len]

theorem foldl_put : ∀ (vs : List Value) (k off : Nat) (cells : Array Value), off + k + vs.length ≤ cells.size →
    ((vs.zipIdx k).foldl (fun cs (x : Value × Nat) => cs.setIfInBounds (off + x.2) x.1) cells).toList = cells.toList.take (off + k) ++ vs ++ cells.toList.drop (off + k + vs.length)
  | [], k, off, cells, h => by simp
  | v :: r, k, off, cells, h => by
    have h1 : off + k < cells.toList.length := by simp at h ⊢; omega
    rw [List.zipIdx_cons, List.foldl_cons, foldl_put r (k + 1) off _ (by simp at h ⊢; omega)]
    simp only [Array.toList_setIfInBounds]
    rw [show off + (k + 1) = off + k + 1 by omega, List.take_set, List.drop_set]
    rw [if_pos (by omega), List.take_succ_eq_append_getElem h1, List.set_append_right _ _ (by simp; omega)]
    have : (off + k) - (cells.toList.take (off + k)).length = 0 := by simp; omega
    rw [this, List.set_cons_zero]
    simp only [List.length_cons, List.append_assoc, List.cons_append, List.nil_append]
    congr 4
    omega
theorem fold_cells (F cells : Array Value) (off : Nat) (h : off + F.size ≤ cells.size) :
    (F.zipIdx.foldl (fun cs (x : Value × Nat) => cs.setIfInBounds (off + x.2) x.1) cells).toList = cells.toList.take off ++ F.toList ++ cells.toList.drop (off + F.size) := by
  rw [← Array.foldl_toList, Array.toList_zipIdx]
  have := foldl_put F.toList 0 off cells (by simpa using h)
  simpa using this
theorem build_pair (F G : Array Value) (hF : F.size = 512) (hG : G.size = 512) (w : World) :
    (Instr.build 202 #[(0, .agg F), (1, .agg G)]).run Tryz.prog w = .ok (.agg (F ++ G)) w := by
  obtain ⟨i, hi, he⟩ := Option.map_eq_some_iff.1 sizeSec
  have hz := zpair_size
  have e1 := fold_cells F zpair (0 * 512) (by omega)
  have s1 : (F.zipIdx.foldl (fun cs (x : Value × Nat) => cs.setIfInBounds (0 * 512 + x.2) x.1) zpair).size = 1024 := by
    rw [← Array.length_toList, e1]; simp; omega
  have e2 := fold_cells G (F.zipIdx.foldl (fun cs (x : Value × Nat) => cs.setIfInBounds (0 * 512 + x.2) x.1) zpair) (1 * 512) (by omega)
  have key : Instr.fill (fun i => some (i * 512, 512)) zpair [(0, .agg F), (1, .agg G)] = some (F ++ G) := by
    have c1 : (Value.agg F).cells = F := rfl
    have c2 : (Value.agg G).cells = G := rfl
    simp only [Instr.fill, c1, c2, hF, hG, hz]
    rw [if_neg (by simp), if_neg (by simp only [ne_eq, not_true, decide_false, Bool.false_or, decide_eq_true_eq]; omega)]
    refine congrArg some ?_
    apply Array.ext'
    rw [e2, e1]
    have hFl : F.toList.length = 512 := by simpa using hF
    simp only [Nat.zero_mul, List.take_zero, List.nil_append, Nat.zero_add, Nat.one_mul, hF, hG]
    rw [List.take_left' hFl, List.drop_eq_nil_of_le (by simp; omega)]
    simp
  have c3 : (Value.agg zpair).cells = zpair := rfl
  simp only [Instr.build, Sem.run_bind, zeroPair, Result.andThen_ok, run_underlying Tryz.underlying202, c3]
  have hsz : (sizeOf 200).run Tryz.prog w = .ok 512 w := by simp [sizeOf, typeInfo, hi, he]
  rw [hsz, Result.andThen_ok, key]
  rfl
end Go.Proofs.YtokcgifpljeoiaaGreat
end

section
namespace Go.Proofs.YtokcgifpljeoiaaGreat
open Go.RowKit

theorem infoSec512 {F : List Value} (h : F.length = 512) : (Tryz.prog.info? 200).map (·.size) = some F.length := by rw [sizeSec, h]

theorem wpList_build_pair {ops : Array Oper} {rest : List Oper} {op : Oper} {a : Act} {w : World} {Q : Exit → Act → World → Prop} (hgd : op.guard = none) (x y : Operand) (ho : op.op = .build 202 #[(0, x), (1, y)])
    (F G P : Array Value) (hx : a.eval x = .agg F) (hy : a.eval y = .agg G) (hF : F.size = 512) (hG : G.size = 512) (hP : P = F ++ G)
    (h : wpList Tryz.prog ops Q rest (a.put op.dst (.agg P)) w) : wpList Tryz.prog ops Q (op :: rest) a w :=
  wpList_plain hgd fun K hK => by
    subst hP
    unfold Oper.wp execOp
    simp only [ho]
    have e : (#[(0, x), (1, y)] : Array (Nat × Operand)).map (fun (i, o) => (i, a.eval o)) = #[(0, .agg F), (1, .agg G)] := by simp [hx, hy]
    rw [e, Sem.run_bind, (build_pair F G hF hG w)]
    exact hK _ _ h

set_option maxRecDepth 20000 in
set_option maxHeartbeats 4000000 in
theorem pairOf_low (b1 b2 : Bool) (F G : List Value) (hF : F.length = 512) (hG : G.length = 512) (h1F : ∀ v ∈ F, v.oneCell' = true) (h1G : ∀ v ∈ G, v.oneCell' = true) (x y : Value) (w : World)
    (hc1 : ∀ w' : World, Below w.heap.size w w' → Calls Tryz.prog 176 #[x] w' fun e w'' => e = .returned (.tuple #[.agg F.toArray, .bool b1]) ∧ Below w'.heap.size w' w'')
    (hc2 : ∀ w' : World, Below w.heap.size w w' → Calls Tryz.prog 176 #[y] w' fun e w'' => e = .returned (.tuple #[.agg G.toArray, .bool b2]) ∧ Below w'.heap.size w' w'') :
    Calls Tryz.prog 149 #[x, y] w fun e w' => e = .returned (.tuple #[.agg (F.toArray ++ G.toArray), .bool (b1 && b2)]) ∧ Below w.heap.size w w' := by
  cases b1
  · have hz := zeroSec
    have hsF : F.toArray.size = 512 := by simpa using hF
    have hsG : G.toArray.size = 512 := by simpa using hG
    have hinfoF := infoSec512 hF
    have hinfoG := infoSec512 hG
    have hinfoP : (Tryz.prog.info? 202).map (·.size) = some (F.toArray ++ G.toArray).size := by rw [sizePair]; simp; omega
    have hallF := all_oneCell_toArray h1F
    have hallG := all_oneCell_toArray h1G
    have hallP : (F.toArray ++ G.toArray).all (·.oneCell') = true := by
      have := all_oneCell_toArray (cs := F ++ G) (fun v hv => (List.mem_append.1 hv).elim (h1F v) (h1G v))
      simpa using this
    have hB1 : Below w.heap.size w (w.alloc (.cells zpair 202)) := (Below.refl _ w).alloc (Nat.le_refl _) _
    have k1 := hc1 _ hB1
    have HB1 := Hid.mk hB1
    have hres0 : (w.alloc (.cells zpair 202)).heap[w.heap.size]? = some (.cells zpair 202 (0, 0)) := heap_alloc_new _ _
    have Hres0 := Hid.mk hres0
    have Hc2 := Hid.mk hc2
    have hw1 : w.heap.size < (w.alloc (.cells zpair 202)).heap.size := by simp
    clear hB1 hc1 hc2 hres0
    go_enter Tryz.func149, Tryz.ntmps149
    go_wp2_with fail
    refine k1.mono ?_
    rintro e w1 ⟨rfl, hb1⟩
    have hB2 := HB1.out.trans (hb1.mono HB1.out.size)
    have hres1 := (hb1.block w.heap.size hw1).trans Hres0.out
    have hz1 := hB2.size
    have hsz1 := Nat.lt_of_lt_of_le hw1 hb1.size
    have hn1 : (w1.alloc (.cells zsec 200)).heap[w1.heap.size]? = some (.cells zsec 200 (0, 0)) := heap_alloc_new _ _
    have hth := there_of hn1 zsec_size
    rw [← hF] at hth
    have hB3 : Below w.heap.size w (w1.alloc (.cells zsec 200)) := hB2.alloc hz1 _
    have hB4 := hB3.trans ((Keeps.setCells (F := fun j => j = w1.heap.size) rfl F 0 _).below (fun j hj => by omega) hB3.size)
    have hrF := World.rangeAt_setCells_same (w1.alloc (.cells zsec 200)) w1.heap.size 0 F hth
    have hres2 : ((w1.alloc (.cells zsec 200)).setCells w1.heap.size 0 F).heap[w.heap.size]? = some (.cells zpair 202 (0, 0)) :=
      ((Keeps.setCells (F := fun j => j = w1.heap.size) rfl F 0 _).block w.heap.size (by simp; omega) (by omega)).trans ((heap_alloc_old w1 _ hsz1).trans hres1)
    have hsz2 : ((w1.alloc (.cells zsec 200)).setCells w1.heap.size 0 F).heap.size = w1.heap.size + 1 := by rw [size_setCells]; simp
    obtain ⟨w2, hw2⟩ : ∃ w2, w2 = (w1.alloc (.cells zsec 200)).setCells w1.heap.size 0 F := ⟨_, rfl⟩
    rw [← hw2] at hB4 hrF hres2 hsz2
    have k2 := Hc2.out w2 hB4
    have HW2 := Hid.mk hw2
    have HB4 := Hid.mk hB4
    have HrF := Hid.mk hrF
    have Hres2 := Hid.mk hres2
    clear k1 hb1 hB2 hres1 hn1 hB3 hB4 hrF hres2 hw2 Hc2 HB1 Hres0
    go_wp2_with (refine wpList_store_mid rfl 200 _ _ rfl w1.heap.size 0 F.toArray rfl rfl ?h1 ?h2 hallF ?_)
    case h1 => simpa using hth
    case h2 => simpa using hinfoF
    rw [← HW2.out]
    refine k2.mono ?_
    rintro e w3 ⟨rfl, hb3⟩
    have hB5 := HB4.out.trans (hb3.mono HB4.out.size)
    have hres3 := (hb3.block w.heap.size (by omega)).trans Hres2.out
    have hz3 := hB5.size
    have hsz3 := hb3.size
    have hn3 : (w3.alloc (.cells zsec 200)).heap[w3.heap.size]? = some (.cells zsec 200 (0, 0)) := heap_alloc_new _ _
    have hth3 := there_of hn3 zsec_size
    rw [← hG] at hth3
    have hB6 : Below w.heap.size w (w3.alloc (.cells zsec 200)) := hB5.alloc hz3 _
    have hB7 := hB6.trans ((Keeps.setCells (F := fun j => j = w3.heap.size) rfl G 0 _).below (fun j hj => by omega) hB6.size)
    have hrG := World.rangeAt_setCells_same (w3.alloc (.cells zsec 200)) w3.heap.size 0 G hth3
    have hrF3 : ((w3.alloc (.cells zsec 200)).setCells w3.heap.size 0 G).rangeAt w1.heap.size 0 F := by
      intro j v hv
      rw [World.cell?_of_block (w := w2) (a := ⟨w1.heap.size, 0 + j, none⟩)]
      · exact (HrF.out j v hv)
      · exact ((Keeps.setCells (F := fun j => j = w3.heap.size) rfl G 0 _).block w1.heap.size (by simp; omega) (by omega)).trans ((heap_alloc_old w3 _ (show w1.heap.size < w3.heap.size by omega)).trans (hb3.block w1.heap.size (by omega)))
    have hres4 : ((w3.alloc (.cells zsec 200)).setCells w3.heap.size 0 G).heap[w.heap.size]? = some (.cells zpair 202 (0, 0)) :=
      ((Keeps.setCells (F := fun j => j = w3.heap.size) rfl G 0 _).block w.heap.size (by simp; omega) (by omega)).trans ((heap_alloc_old w3 _ (show w.heap.size < w3.heap.size by omega)).trans hres3)
    obtain ⟨w4, hw4⟩ : ∃ w4, w4 = (w3.alloc (.cells zsec 200)).setCells w3.heap.size 0 G := ⟨_, rfl⟩
    rw [← hw4] at hB7 hrG hrF3 hres4
    have hthP : w4.there w.heap.size 0 (F.toArray ++ G.toArray).toList.length := there_of hres4 (by rw [zpair_size]; simp; omega)
    have hrP := Hid.mk (World.rangeAt_setCells_same w4 w.heap.size 0 (F.toArray ++ G.toArray).toList hthP)
    have hB8 := Hid.mk (hB7.trans ((Keeps.setCells (F := fun j => j = w.heap.size) rfl (F.toArray ++ G.toArray).toList 0 w4).below (fun j hj => by omega) hB7.size))
    have HW4 := Hid.mk hw4
    have hinfoP' : (Tryz.prog.info? 202).map (·.size) = some (F.toArray ++ G.toArray).toList.length := by rw [sizePair]; simp; omega
    obtain ⟨P, hP⟩ : ∃ P, P = F.toArray ++ G.toArray := ⟨_, rfl⟩
    rw [← hP] at hinfoP hallP hthP hrP hB8 hinfoP'
    have HP := Hid.mk hP
    clear k2 hb3 hB5 hres3 hn3 hB6 hB7 hres4 hw4 hP HB4 HrF Hres2 HW2
    go_wp2_with (first | refine wpList_build_pair rfl _ _ rfl F.toArray G.toArray P rfl rfl hsF hsG HP.out ?_ | refine wpList_store_mid rfl 200 _ _ rfl w3.heap.size 0 G.toArray rfl rfl ?h1 ?h2 hallG ?_ | (rw [← HW4.out]; first | refine wpList_load_mid rfl 200 _ rfl w1.heap.size 0 rfl F _ hrF3 Tryz.underlying200 rfl hinfoF ?_ | refine wpList_load_mid rfl 200 _ rfl w3.heap.size 0 rfl G _ hrG Tryz.underlying200 rfl hinfoG ?_) | refine wpList_load_mid rfl 200 _ rfl w1.heap.size 0 rfl F _ hrF3 Tryz.underlying200 rfl hinfoF ?_ | refine wpList_load_mid rfl 200 _ rfl w3.heap.size 0 rfl G _ hrG Tryz.underlying200 rfl hinfoG ?_ | refine wpList_store_mid rfl 202 _ _ rfl w.heap.size 0 P rfl rfl ?h3 ?h4 hallP ?_)
    case h1 => simpa using hth3
    case h2 => simpa using hinfoG
    case h3 => simpa using hthP
    case h4 => simpa using hinfoP
    have eP : P.toList.toArray = (F ++ G).toArray := by rw [HP.out]; simp
    exact bodyPost_ret (results_cell_tmp (P := Tryz.prog) rfl _ _ w.heap.size P.toList _ _ rfl rfl hrP.out Tryz.underlying202 rfl hinfoP') rfl ⟨by rw [eP]; rfl, hB8.out⟩
  · have hz := zeroSec
    have hsF : F.toArray.size = 512 := by simpa using hF
    have hsG : G.toArray.size = 512 := by simpa using hG
    have hinfoF := infoSec512 hF
    have hinfoG := infoSec512 hG
    have hinfoP : (Tryz.prog.info? 202).map (·.size) = some (F.toArray ++ G.toArray).size := by rw [sizePair]; simp; omega
    have hallF := all_oneCell_toArray h1F
    have hallG := all_oneCell_toArray h1G
    have hallP : (F.toArray ++ G.toArray).all (·.oneCell') = true := by
      have := all_oneCell_toArray (cs := F ++ G) (fun v hv => (List.mem_append.1 hv).elim (h1F v) (h1G v))
      simpa using this
    have hB1 : Below w.heap.size w (w.alloc (.cells zpair 202)) := (Below.refl _ w).alloc (Nat.le_refl _) _
    have k1 := hc1 _ hB1
    have HB1 := Hid.mk hB1
    have hres0 : (w.alloc (.cells zpair 202)).heap[w.heap.size]? = some (.cells zpair 202 (0, 0)) := heap_alloc_new _ _
    have Hres0 := Hid.mk hres0
    have Hc2 := Hid.mk hc2
    have hw1 : w.heap.size < (w.alloc (.cells zpair 202)).heap.size := by simp
    clear hB1 hc1 hc2 hres0
    go_enter Tryz.func149, Tryz.ntmps149
    go_wp2_with fail
    refine k1.mono ?_
    rintro e w1 ⟨rfl, hb1⟩
    have hB2 := HB1.out.trans (hb1.mono HB1.out.size)
    have hres1 := (hb1.block w.heap.size hw1).trans Hres0.out
    have hz1 := hB2.size
    have hsz1 := Nat.lt_of_lt_of_le hw1 hb1.size
    have hn1 : (w1.alloc (.cells zsec 200)).heap[w1.heap.size]? = some (.cells zsec 200 (0, 0)) := heap_alloc_new _ _
    have hth := there_of hn1 zsec_size
    rw [← hF] at hth
    have hB3 : Below w.heap.size w (w1.alloc (.cells zsec 200)) := hB2.alloc hz1 _
    have hB4 := hB3.trans ((Keeps.setCells (F := fun j => j = w1.heap.size) rfl F 0 _).below (fun j hj => by omega) hB3.size)
    have hrF := World.rangeAt_setCells_same (w1.alloc (.cells zsec 200)) w1.heap.size 0 F hth
    have hres2 : ((w1.alloc (.cells zsec 200)).setCells w1.heap.size 0 F).heap[w.heap.size]? = some (.cells zpair 202 (0, 0)) :=
      ((Keeps.setCells (F := fun j => j = w1.heap.size) rfl F 0 _).block w.heap.size (by simp; omega) (by omega)).trans ((heap_alloc_old w1 _ hsz1).trans hres1)
    have hsz2 : ((w1.alloc (.cells zsec 200)).setCells w1.heap.size 0 F).heap.size = w1.heap.size + 1 := by rw [size_setCells]; simp
    obtain ⟨w2, hw2⟩ : ∃ w2, w2 = (w1.alloc (.cells zsec 200)).setCells w1.heap.size 0 F := ⟨_, rfl⟩
    rw [← hw2] at hB4 hrF hres2 hsz2
    have k2 := Hc2.out w2 hB4
    have HW2 := Hid.mk hw2
    have HB4 := Hid.mk hB4
    have HrF := Hid.mk hrF
    have Hres2 := Hid.mk hres2
    clear k1 hb1 hB2 hres1 hn1 hB3 hB4 hrF hres2 hw2 Hc2 HB1 Hres0
    go_wp2_with (refine wpList_store_mid rfl 200 _ _ rfl w1.heap.size 0 F.toArray rfl rfl ?h1 ?h2 hallF ?_)
    case h1 => simpa using hth
    case h2 => simpa using hinfoF
    rw [← HW2.out]
    refine k2.mono ?_
    rintro e w3 ⟨rfl, hb3⟩
    have hB5 := HB4.out.trans (hb3.mono HB4.out.size)
    have hres3 := (hb3.block w.heap.size (by omega)).trans Hres2.out
    have hz3 := hB5.size
    have hsz3 := hb3.size
    have hn3 : (w3.alloc (.cells zsec 200)).heap[w3.heap.size]? = some (.cells zsec 200 (0, 0)) := heap_alloc_new _ _
    have hth3 := there_of hn3 zsec_size
    rw [← hG] at hth3
    have hB6 : Below w.heap.size w (w3.alloc (.cells zsec 200)) := hB5.alloc hz3 _
    have hB7 := hB6.trans ((Keeps.setCells (F := fun j => j = w3.heap.size) rfl G 0 _).below (fun j hj => by omega) hB6.size)
    have hrG := World.rangeAt_setCells_same (w3.alloc (.cells zsec 200)) w3.heap.size 0 G hth3
    have hrF3 : ((w3.alloc (.cells zsec 200)).setCells w3.heap.size 0 G).rangeAt w1.heap.size 0 F := by
      intro j v hv
      rw [World.cell?_of_block (w := w2) (a := ⟨w1.heap.size, 0 + j, none⟩)]
      · exact (HrF.out j v hv)
      · exact ((Keeps.setCells (F := fun j => j = w3.heap.size) rfl G 0 _).block w1.heap.size (by simp; omega) (by omega)).trans ((heap_alloc_old w3 _ (show w1.heap.size < w3.heap.size by omega)).trans (hb3.block w1.heap.size (by omega)))
    have hres4 : ((w3.alloc (.cells zsec 200)).setCells w3.heap.size 0 G).heap[w.heap.size]? = some (.cells zpair 202 (0, 0)) :=
      ((Keeps.setCells (F := fun j => j = w3.heap.size) rfl G 0 _).block w.heap.size (by simp; omega) (by omega)).trans ((heap_alloc_old w3 _ (show w.heap.size < w3.heap.size by omega)).trans hres3)
    obtain ⟨w4, hw4⟩ : ∃ w4, w4 = (w3.alloc (.cells zsec 200)).setCells w3.heap.size 0 G := ⟨_, rfl⟩
    rw [← hw4] at hB7 hrG hrF3 hres4
    have hthP : w4.there w.heap.size 0 (F.toArray ++ G.toArray).toList.length := there_of hres4 (by rw [zpair_size]; simp; omega)
    have hrP := Hid.mk (World.rangeAt_setCells_same w4 w.heap.size 0 (F.toArray ++ G.toArray).toList hthP)
    have hB8 := Hid.mk (hB7.trans ((Keeps.setCells (F := fun j => j = w.heap.size) rfl (F.toArray ++ G.toArray).toList 0 w4).below (fun j hj => by omega) hB7.size))
    have HW4 := Hid.mk hw4
    have hinfoP' : (Tryz.prog.info? 202).map (·.size) = some (F.toArray ++ G.toArray).toList.length := by rw [sizePair]; simp; omega
    obtain ⟨P, hP⟩ : ∃ P, P = F.toArray ++ G.toArray := ⟨_, rfl⟩
    rw [← hP] at hinfoP hallP hthP hrP hB8 hinfoP'
    have HP := Hid.mk hP
    clear k2 hb3 hB5 hres3 hn3 hB6 hB7 hres4 hw4 hP HB4 HrF Hres2 HW2
    go_wp2_with (first | refine wpList_build_pair rfl _ _ rfl F.toArray G.toArray P rfl rfl hsF hsG HP.out ?_ | refine wpList_store_mid rfl 200 _ _ rfl w3.heap.size 0 G.toArray rfl rfl ?h1 ?h2 hallG ?_ | (rw [← HW4.out]; first | refine wpList_load_mid rfl 200 _ rfl w1.heap.size 0 rfl F _ hrF3 Tryz.underlying200 rfl hinfoF ?_ | refine wpList_load_mid rfl 200 _ rfl w3.heap.size 0 rfl G _ hrG Tryz.underlying200 rfl hinfoG ?_) | refine wpList_load_mid rfl 200 _ rfl w1.heap.size 0 rfl F _ hrF3 Tryz.underlying200 rfl hinfoF ?_ | refine wpList_load_mid rfl 200 _ rfl w3.heap.size 0 rfl G _ hrG Tryz.underlying200 rfl hinfoG ?_ | refine wpList_store_mid rfl 202 _ _ rfl w.heap.size 0 P rfl rfl ?h3 ?h4 hallP ?_)
    case h1 => simpa using hth3
    case h2 => simpa using hinfoG
    case h3 => simpa using hthP
    case h4 => simpa using hinfoP
    have eP : P.toList.toArray = (F ++ G).toArray := by rw [HP.out]; simp
    exact bodyPost_ret (results_cell_tmp (P := Tryz.prog) rfl _ _ w.heap.size P.toList _ _ rfl rfl hrP.out Tryz.underlying202 rfl hinfoP') rfl ⟨by rw [eP]; rfl, hB8.out⟩

theorem pairOf_any (a : Option Addr) (n c : Nat) (l : List Int) (a2 : Option Addr) (m d : Nat) (r : List Int) (w : World) (hs : Src w a n l) (hs2 : Src w a2 m r) :
    Calls Tryz.prog 149 #[.slice a n c, .slice a2 m d] w fun e w' => e = .returned (.tuple #[.agg (bs (secOf l ++ secOf r)).toArray, .bool (decide (n = 512) && decide (m = 512))]) ∧ Below w.heap.size w w' := by
  have h := pairOf_low (decide (n = 512)) (decide (m = 512)) (bs (secOf l)) (bs (secOf r)) (by rw [bs, List.length_map, secOf_len]) (by rw [bs, List.length_map, secOf_len]) (bs_one _) (bs_one _) (.slice a n c) (.slice a2 m d) w
    (fun w' hb => sectorOf_any a n c l w' (hs.later hb)) (fun w' hb => sectorOf_any a2 m d r w' (hs2.later hb))
  rw [List.append_toArray, ← bs_append] at h
  exact h
end Go.Proofs.YtokcgifpljeoiaaGreat
end

section
namespace Go.Proofs.YtokcgifpljeoiaaGreat
open Go.RowKit

/-- What a call answers: a list in block g, or none. -/
def LstIn (w : World) (g : Nat) (v : Value) (l : List Int) : Prop := ∃ a c, v = .slice a l.length c ∧ Src w a l.length l ∧ l.length ≤ c ∧ ∀ x, a = some x → x.block = g
theorem LstIn.nil (w : World) (g : Nat) : LstIn w g (.slice none 0 0) [] := ⟨none, 0, rfl, ⟨rfl, fun _ => rfl, fun x hx => by cases hx⟩, Nat.le_refl _, fun x hx => by cases hx⟩
theorem LstIn.later {w w' : World} {g : Nat} {v : Value} {l : List Int} (h : LstIn w g v l) (hb : Below w.heap.size w w') : LstIn w' g v l := by
  obtain ⟨a, c, rfl, hs, hc, hx⟩ := h
  exact ⟨a, c, rfl, hs.later hb, hc, hx⟩
theorem LstIn.lst {w : World} {g B : Nat} {v : Value} {l : List Int} (h : LstIn w g v l) (hg : B ≤ g) : Lst w B v l := by
  obtain ⟨a, c, rfl, hs, hc, hx⟩ := h
  exact ⟨a, c, rfl, hs, hc, fun x e => by rw [hx x e]; exact hg⟩

theorem sanchor_short {s : List Int} (h : sopen s = none ∨ ∃ b, sopen s = some b ∧ (b.length < 8 ∨ 9223372036854775808 ≤ le (b.take 8))) : sanchor s = (0, []) := by
  rcases h with h | ⟨b, h, h2⟩
  · simp [sanchor, h]
  · simp only [sanchor, h]
    rw [if_neg (by omega)]
theorem sanchor_good {s b : List Int} (h : sopen s = some b) (h1 : 8 ≤ b.length) (h2 : le (b.take 8) < 9223372036854775808) : sanchor s = (le (b.take 8), b.drop 8) := by
  simp only [sanchor, h]
  rw [if_pos ⟨h1, h2⟩]

set_option maxRecDepth 20000 in
set_option maxHeartbeats 4000000 in
theorem anchor_any (g o : Nat) (s : List Int) (w : World) (hs : Src w (some ⟨g, o, none⟩) 512 s) (hb : Bytes s) :
    Calls Tryz.prog 177 #[.pointer (some ⟨g, o, none⟩)] w fun e w' => ∃ v, e = .returned (.tuple #[.int .i64 (((sanchor s).1 : Nat) : Int), v]) ∧ LstIn w' g v (sanchor s).2 ∧ Below w.heap.size w w' := by
  have hsl := hs.1
  go_enter Tryz.func177, Tryz.ntmps177
  go_wp2_with fail
  by_cases hbad : 504 < slen s ∨ 2 < s.getD 0 0
  · have hno : sanchor s = (0, []) := sanchor_short (.inl (by unfold sopen; rw [if_neg (fun h => by omega)]))
    have Hno := Hid.mk hno
    have h1 := open_no g o s w hs hb hbad
    clear hno hs
    refine h1.mono ?_
    rintro e w' ⟨rfl, hw⟩
    have hw' := hw.symm
    subst hw'
    clear hw h1
    go_wp2
    go_ret2
    exact ⟨_, by rw [Hno.out]; rfl, by rw [Hno.out]; exact LstIn.nil _ _, Below.refl _ _⟩
  · have h1 := open_yes g o s w hs hb (by omega) (by omega)
    have hbl := sbody_len (s := s) (by omega) hsl
    have hbb : Bytes (sbody s) := (hb.drop _).take _
    by_cases heq : sform (s.getD 0 0) (sbody s) = s
    · have hop : sopen s = some (sbody s) := by unfold sopen; rw [if_pos ⟨by omega, by omega, heq⟩]
      rw [decide_eq_true heq] at h1
      refine h1.mono ?_
      by_cases h8 : slen s < 8
      · have hno := sanchor_short (.inr ⟨_, hop, .inl (by omega)⟩)
        have Hno := Hid.mk hno
        have h8' : (slen s : Int) < 8 := by omega
        clear hno hs hop heq hbb
        generalize slen s = N at *
        rintro e w1 ⟨k, rfl, _, hb1⟩
        have HB1 := Hid.mk hb1
        clear hb1 h1
        go_wp2
        go_ret2
        exact ⟨_, by rw [Hno.out]; rfl, by rw [Hno.out]; exact LstIn.nil _ _, HB1.out⟩
      · have h8' : ¬ (slen s : Int) < 8 := by omega
        have hsb : ∀ w1 : World, Below w.heap.size w w1 → Src w1 (some ⟨g, o + 7, none⟩) (slen s) (sbody s) := fun w1 h => src_part (hs.later h) (i := 7) (m := slen s) (by omega)
        have ht8 : ((sbody s).take 8).length = 8 := by rw [List.length_take]; omega
        have hsmall := le_small (hbb.take 8) (by omega)
        have htk := fun w1 h => by
          have hp := src_part (hsb w1 h) (i := 0) (m := 8) (by omega)
          rw [List.drop_zero] at hp
          exact taken_any g (o + 7) 8 8 ((sbody s).take 8) w1 (hbb.take 8) ht8 (by omega) (fun i hi => by have := hp.2.2 _ rfl i hi; rwa [addr_add, Nat.add_zero] at this)
        have Htk := Hid.mk htk
        clear htk
        obtain ⟨M, hM⟩ : ∃ M, M = le ((sbody s).take 8) := ⟨_, rfl⟩
        rw [← hM] at hsmall Htk
        rintro e w1 ⟨k, rfl, hk, hb1⟩
        have hk' := hk (by omega)
        subst hk'
        have HB1 := Hid.mk hb1
        have ht := Htk.out w1 hb1
        clear hb1 h1 Htk hk
        go_wp2_with fail
        refine ht.mono ?_
        rintro e w' ⟨rfl, hw⟩
        have hw' := hw.symm
        subst hw'
        clear hw ht
        by_cases hbig : 9223372036854775807 < M
        · have hno := sanchor_short (.inr ⟨_, hop, .inr (by omega)⟩)
          have Hno := Hid.mk hno
          have hbig' : 9223372036854775807 < (M : Int) := by omega
          clear hno hs hop heq hbb hM
          generalize slen s = N at *
          have c8 : (8 : Int) ≤ (N : Int) := by omega
          go_wp2
          go_ret2
          exact ⟨_, by rw [Hno.out]; rfl, by rw [Hno.out]; exact LstIn.nil _ _, HB1.out⟩
        · have hyes : sanchor s = (M, (sbody s).drop 8) := by rw [hM]; exact sanchor_good hop (by omega) (by omega)
          have Hyes := Hid.mk hyes
          have hbig' : ¬ 9223372036854775807 < (M : Int) := by omega
          have hdl : ((sbody s).drop 8).length = slen s - 8 := by simp; omega
          have hfin : ∀ (w1 : World) (k : Nat), Below w.heap.size w w1 → (8 < slen s → k = o + 7 + 8) → LstIn w1 g (.slice (some ⟨g, k, none⟩) (slen s - 8) (slen s - 8)) ((sbody s).drop 8) := by
            intro w1 k h hk
            refine ⟨some ⟨g, k, none⟩, slen s - 8, by rw [hdl], ?_, by omega, fun x hx => by cases hx; rfl⟩
            rw [hdl]
            by_cases h9 : 8 < slen s
            · rw [hk h9]
              have := src_part (hsb w1 h) (i := 8) (m := slen s - 8) (by omega)
              rwa [List.take_of_length_le (by omega)] at this
            · exact ⟨by omega, (fun e => by cases e), fun x hx i hi => by omega⟩
          have Hfin := Hid.mk hfin
          clear hyes hs hop heq hbb hM hfin hsb hdl ht8 hbl
          generalize slen s = N at *
          have c8 : (8 : Int) ≤ (N : Int) := by omega
          go_wp2
          go_quiet (fail)
          by_cases h9 : N = 8
          · subst h9
            go_wp2
            go_ret2
            exact ⟨_, by rw [Hyes.out]; rfl, by rw [Hyes.out]; exact Hfin.out _ _ (below_drewN HB1.out _) (fun h => by omega), below_drewN HB1.out _⟩
          · have h9' : ¬ (N : Int) = 8 := by omega
            go_wp2
            go_ret2
            exact ⟨_, by rw [Hyes.out]; rfl, by rw [Hyes.out]; exact Hfin.out _ _ (below_drewN HB1.out _) (fun h => by omega), below_drewN HB1.out _⟩
    · have hno := sanchor_short (.inl (by unfold sopen; rw [if_neg (fun h => heq h.2.2)]))
      have Hno := Hid.mk hno
      rw [decide_eq_false heq] at h1
      clear hno hs heq hbb
      generalize slen s = N at *
      refine h1.mono ?_
      rintro e w1 ⟨k, rfl, _, hb1⟩
      have HB1 := Hid.mk hb1
      clear hb1 h1
      go_wp2
      go_ret2
      exact ⟨_, by rw [Hno.out]; rfl, by rw [Hno.out]; exact LstIn.nil _ _, HB1.out⟩
end Go.Proofs.YtokcgifpljeoiaaGreat
end
