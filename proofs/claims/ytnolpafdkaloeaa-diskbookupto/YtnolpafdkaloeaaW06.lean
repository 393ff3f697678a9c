import Derived.Test.YtnolpafdkaloeaaW05
import Derived.Deep.RegionLaw
import Derived.BigRegion
import Derived.ProofKit
import Derived.OpenShut
import Derived.ShutString
import Derived.ChangeOld
import Derived.SizedLaws
import Derived.Deep.Slices
section
namespace Go.Proofs.Ytnolpafdkaloeaa
open Go.RowKit Go.Maps

def DS.wr (S : DS) (s : Nat) (x : Int) (n : Nat) (l : List Int) : Int × DS :=
  if S.fuse = 0 then (3, S) else if x < 0 ∨ (s : Int) ≤ x then (11, S.refuse) else if n ≠ 512 then (2, S.refuse) else (0, (S.put x.toNat l).wrote.spend)
def DS.rd (S : DS) (s : Nat) (x : Int) : Int × DS × List Int :=
  if S.fuse = 0 then (3, S, []) else if x < 0 ∨ (s : Int) ≤ x then (11, S.refuse, []) else (0, S.read, S.now x.toNat)
def DS.fl (S : DS) (s : Nat) : Int × DS := if S.fuse = 0 then (3, S) else (0, (S.flush s).spend)

theorem DiskAt.more {w w' : World} {F : Nat → Prop} {p s : Nat} {S : DS} (h : DiskAt w' F p s S) : DiskAt w' (more F w w') p s S :=
  h.mono (fun _ hk => .inl hk) (fun k hk => by rcases hk with hk | hk; exact h.lt k hk; exact hk.2)

theorem write_all {w : World} {F : Nat → Prop} {p s : Nat} {S : DS} (h : DiskAt w F p s S) (x : Int) (a : Option Addr) (n c : Nat) (l : List Int) (hs : Src w a n l) (hbig : S.puts.length + 1 ≤ 4000000000000) :
    Calls Try.prog 12 #[.pointer (some ⟨p, 0, none⟩), .int .i64 x, .slice a n c] w fun e w' => e = .returned (.int .i64 (S.wr s x n l).1) ∧ DiskAt w' (more F w w') p s (S.wr s x n l).2 ∧ Keeps F w w' := by
  by_cases hf : S.fuse = 0
  · simp only [DS.wr, hf, if_true]
    refine (write_dead h x a n c hf).mono ?_
    rintro e w' ⟨rfl, rfl⟩
    exact ⟨rfl, h.more, Keeps.refl _ _⟩
  · by_cases hx : x < 0 ∨ (s : Int) ≤ x
    · simp only [DS.wr, hf, if_false, hx, if_true]
      refine (write_range h x a n c hf hx).mono ?_
      rintro e w' ⟨rfl, h1, h2⟩
      exact ⟨rfl, h1.more, h2⟩
    · obtain ⟨k, rfl⟩ : ∃ k : Nat, x = (k : Int) := ⟨x.toNat, by omega⟩
      have hk : k < s := by omega
      by_cases hn : n = 512
      · subst hn
        simp only [DS.wr, hf, if_false, hx, ne_eq, not_true_eq_false, Int.toNat_natCast]
        obtain ⟨y, rfl⟩ : ∃ y, a = some y := by
          cases a with
          | none => have := hs.2.1 rfl; omega
          | some y => exact ⟨y, rfl⟩
        exact write_ok h k hk hf (by omega) y c l hs
      · simp only [DS.wr, hf, if_false, hx, ne_eq, hn, not_false_eq_true, if_true]
        refine (write_length h k a n c hf hk hn).mono ?_
        rintro e w' ⟨rfl, h1, h2⟩
        exact ⟨rfl, h1.more, h2⟩

/-- What a Read hands out. -/
def Out (lo : Nat) (w : World) (l : List Int) (v : Value) : Prop := ∃ a c, v = .slice a l.length c ∧ Src w a l.length l ∧ ∀ x, a = some x → lo ≤ x.block

theorem Out.nil (lo : Nat) (w : World) : Out lo w [] (.slice none 0 0) := ⟨none, 0, rfl, ⟨rfl, fun _ => rfl, fun x hx => by cases hx⟩, fun x hx => by cases hx⟩
theorem Out.row {lo : Nat} {w : World} {g c : Nat} {l : List Int} (h : RowAt w 5 g c (bs l)) (hg : lo ≤ g) : Out lo w l (.slice (some ⟨g, 0, none⟩) l.length c) := ⟨_, c, rfl, h.src, fun x hx => by cases hx; exact hg⟩

theorem read_all {w : World} {F : Nat → Prop} {p s : Nat} {S : DS} (h : DiskAt w F p s S) (x : Int) (hbig : S.puts.length + 1 ≤ 4000000000000) :
    Calls Try.prog 14 #[.pointer (some ⟨p, 0, none⟩), .int .i64 x] w fun e w' => ∃ v, e = .returned (.tuple #[v, .int .i64 (S.rd s x).1]) ∧ Out w.heap.size w' (S.rd s x).2.2 v ∧ DiskAt w' F p s (S.rd s x).2.1 ∧ Keeps F w w' := by
  by_cases hf : S.fuse = 0
  · simp only [DS.rd, hf, if_true]
    refine (read_dead h x hf).mono ?_
    rintro e w' ⟨rfl, rfl⟩
    exact ⟨_, rfl, Out.nil _ _, h, Keeps.refl _ _⟩
  · by_cases hx : x < 0 ∨ (s : Int) ≤ x
    · simp only [DS.rd, hf, if_false, hx, if_true]
      refine (read_range h x hf hx).mono ?_
      rintro e w' ⟨rfl, h1, h2⟩
      exact ⟨_, rfl, Out.nil _ _, h1, h2⟩
    · obtain ⟨k, rfl⟩ : ∃ k : Nat, x = (k : Int) := ⟨x.toNat, by omega⟩
      have hk : k < s := by omega
      simp only [DS.rd, hf, if_false, hx, Int.toNat_natCast]
      refine (read_ok h k hf hk (by omega)).mono ?_
      rintro e w' ⟨g, c, rfl, hg, hr, h1, h2⟩
      have := Out.row hr hg
      rw [now_len h.ok k hk] at this
      exact ⟨_, rfl, this, h1, h2⟩

theorem flush_all {w : World} {F : Nat → Prop} {p s : Nat} {S : DS} (h : DiskAt w F p s S) (hbig : S.puts.length + 1 ≤ 4000000000000) :
    Calls Try.prog 21 #[.pointer (some ⟨p, 0, none⟩)] w fun e w' => e = .returned (.int .i64 (S.fl s).1) ∧ DiskAt w' F p s (S.fl s).2 ∧ Keeps F w w' := by
  by_cases hf : S.fuse = 0
  · simp only [DS.fl, hf, if_true]
    refine (flush_dead h hf).mono ?_
    rintro e w' ⟨rfl, rfl⟩
    exact ⟨rfl, h, Keeps.refl _ _⟩
  · simp only [DS.fl, hf, if_false]
    exact flush_ok h hf (by omega)

theorem blockOf_add (x : Addr) (n : Nat) : (x.add n).block = x.block := by unfold Addr.add; split <;> rfl
theorem Src.far {w w' : World} {B : Nat} {a : Option Addr} {n : Nat} {l : List Int} (h : Src w a n l) (hb : Below B w w') (ha : ∀ x, a = some x → 0 < n → x.block < B) : Src w' a n l :=
  ⟨h.1, h.2.1, fun x hx i hi => (World.cell?_of_block (w := w) (by rw [blockOf_add]; exact hb.block _ (ha x hx (by omega)))).trans (h.2.2 x hx i hi)⟩
theorem PSrc.far {w w' : World} {B : Nat} {a : Option Addr} {n : Nat} {l : List P3} (h : PSrc w a n l) (hb : Below B w w') (ha : ∀ x, a = some x → 0 < n → x.block < B) : PSrc w' a n l := by
  refine ⟨h.1, h.2.1, fun x hx i hi => ?_, h.2.2.2⟩
  obtain ⟨b, o, rfl, h1, h2, h3⟩ := h.2.2.1 x hx i hi
  have e := hb.block b (ha _ hx (by have := h.1; omega))
  exact ⟨b, o, rfl, (World.cell?_of_block (w := w) (a := ⟨b, _, none⟩) e).trans h1, (World.cell?_of_block (w := w) (a := ⟨b, _, none⟩) e).trans h2, (World.cell?_of_block (w := w) (a := ⟨b, _, none⟩) e).trans h3⟩
theorem Out.keeps {lo : Nat} {w w' : World} {l : List Int} {v : Value} {F : Nat → Prop} (h : Out lo w l v) (hk : Keeps F w w') (hF : ∀ k, F k → k < lo) : Out lo w' l v := by
  obtain ⟨a, c, rfl, hs, hl⟩ := h
  refine ⟨a, c, rfl, ⟨hs.1, hs.2.1, fun x hx i hi => ?_⟩, hl⟩
  have h1 := hs.2.2 x hx i hi
  have hb := World.block_lt_of_cell? _ _ h1
  rw [blockOf_add] at hb
  exact (World.cell?_of_block (w := w) (by rw [blockOf_add]; exact hk.block _ hb (fun hf => by have := hF _ hf; have := hl x hx; omega))).trans h1
theorem same_out {lo lo' : Nat} {w : World} {l : List Int} {v v' : Value} (h : Out lo w l v) (h' : Out lo' w l v') (hn : l.length ≤ 140737488355328) :
    Calls Try.prog 15 #[v, v'] w fun e w' => e = .returned (.bool true) ∧ Below w.heap.size w w' := by
  obtain ⟨a, c, rfl, hs, _⟩ := h
  obtain ⟨a', c', rfl, hs', _⟩ := h'
  exact same_any a a' _ c c' l w hn hs hs'
theorem rd_len {S : DS} {s : Nat} (h : S.Ok s) (x : Int) : (S.rd s x).2.2.length ≤ 512 := by
  unfold DS.rd
  split
  · simp
  · split
    · simp
    · rename_i h1 h2
      show (S.now x.toNat).length ≤ 512
      rw [now_len h x.toNat (by omega)]
      exact Nat.le_refl _
theorem wr_puts (S : DS) (s : Nat) (x : Int) (n : Nat) (l : List Int) : (S.wr s x n l).2.puts.length ≤ S.puts.length + 1 := by
  unfold DS.wr
  split
  · simp
  · split
    · simp [DS.refuse]
    · split
      · simp [DS.refuse]
      · simp [DS.put, DS.wrote, DS.spend]
theorem rd_puts (S : DS) (s : Nat) (x : Int) : (S.rd s x).2.1.puts.length ≤ S.puts.length + 1 := by
  unfold DS.rd
  split
  · simp
  · split
    · simp [DS.refuse]
    · simp [DS.read]
theorem fl_puts (S : DS) (s : Nat) : (S.fl s).2.puts.length ≤ S.puts.length + 1 := by
  unfold DS.fl
  split
  · simp
  · simp [DS.flush, DS.spend]
theorem lay_puts (S : DS) (x : Int) : (S.lay x).puts.length ≤ S.puts.length + 1 := by
  unfold DS.lay
  split <;> simp

abbrev opV (kind x : Int) (a : Option Addr) (n c : Nat) (pa : Option Addr) (pn pc : Nat) : Value := .agg #[.int .i64 kind, .int .i64 x, .slice a n c, .slice pa pn pc]
abbrev opC (kind x : Int) (a : Option Addr) (n c : Nat) (pa : Option Addr) (pn pc : Nat) : Array Value := #[.int .i64 kind, .int .i64 x, .slice a n c, .slice pa pn pc]

theorem below_box (w : World) (o : Obj) : Below w.heap.size w (w.alloc o) := (Below.refl _ _).alloc (Nat.le_refl _) _

/-- What is told of an operation of the script: the lists that it holds lie below B. -/
structure OpOk (w : World) (B : Nat) (x : Int) (a : Option Addr) (n : Nat) (pa : Option Addr) (pn : Nat) (l : List Int) (pl : List P3) : Prop where
  x : x ≤ 9223372036854775807
  s : Src w a n l
  sB : ∀ x, a = some x → 0 < n → x.block < B
  n : n ≤ 140737488355328
  p : PSrc w pa pn pl
  pB : ∀ x, pa = some x → 0 < pn → x.block < B
  pn : 24 * pn ≤ 140737488355328

theorem OpOk.far {w w' : World} {B : Nat} {x : Int} {a : Option Addr} {n : Nat} {pa : Option Addr} {pn : Nat} {l : List Int} {pl : List P3} (h : OpOk w B x a n pa pn l pl) (hb : Below B w w') : OpOk w' B x a n pa pn l pl :=
  ⟨h.x, h.s.far hb h.sB, h.sB, h.n, h.p.far hb h.pB, h.pB, h.pn⟩

/-- What is told of a script: its operations lie below B, and so do their lists. -/
def Script (w : World) (B : Nat) (sa : Option Addr) (n : Nat) : Prop :=
  (sa = none → n = 0) ∧ ∀ y, sa = some y → ∀ i, i < n → ∃ b o, y = ⟨b, o, none⟩ ∧ b < B ∧ ∃ kind x a m c pa pn pc l pl,
    w.cell? ⟨b, o + i * 4, none⟩ = some (.int .i64 kind) ∧ w.cell? ⟨b, o + i * 4 + 1, none⟩ = some (.int .i64 x) ∧ w.cell? ⟨b, o + i * 4 + 2, none⟩ = some (.slice a m c) ∧ w.cell? ⟨b, o + i * 4 + 3, none⟩ = some (.slice pa pn pc) ∧ OpOk w B x a m pa pn l pl

theorem Script.far {w w' : World} {B : Nat} {sa : Option Addr} {n : Nat} (h : Script w B sa n) (hb : Below B w w') : Script w' B sa n := by
  refine ⟨h.1, fun y hy i hi => ?_⟩
  obtain ⟨b, o, rfl, hbB, kind, x, a, m, c, pa, pn, pc, l, pl, c0, c1, c2, c3, ho⟩ := h.2 y hy i hi
  have e := hb.block b hbB
  exact ⟨b, o, rfl, hbB, kind, x, a, m, c, pa, pn, pc, l, pl, (World.cell?_of_block (w := w) (a := ⟨b, _, none⟩) e).trans c0, (World.cell?_of_block (w := w) (a := ⟨b, _, none⟩) e).trans c1, (World.cell?_of_block (w := w) (a := ⟨b, _, none⟩) e).trans c2, (World.cell?_of_block (w := w) (a := ⟨b, _, none⟩) e).trans c3, ho.far hb⟩
end Go.Proofs.Ytnolpafdkaloeaa
end

section
namespace Go.Proofs.Ytnolpafdkaloeaa
open Go.RowKit Go.Maps

theorem RefAt.more {w w' : World} {F : Nat → Prop} {r s : Nat} {S : DS} (h : RefAt w' F r s S) : RefAt w' (more F w w') r s S := by
  obtain ⟨gl, cl, ls, pv, xs, h⟩ := h
  exact ⟨gl, cl, ls, pv, xs, h.mono (fun _ hk => .inl hk) (fun k hk => by rcases hk with hk | hk; exact h.lt k hk; exact hk.2)⟩

theorem rwrite_all {w : World} {F : Nat → Prop} {p s : Nat} {S : DS} (h : RefAt w F p s S) (x : Int) (a : Option Addr) (n c : Nat) (l : List Int) (hs : Src w a n l) (hbig : S.puts.length + 1 ≤ 4000000000000) :
    Calls Try.prog 36 #[.pointer (some ⟨p, 0, none⟩), .int .i64 x, .slice a n c] w fun e w' => e = .returned (.int .i64 (S.wr s x n l).1) ∧ RefAt w' (more F w w') p s (S.wr s x n l).2 ∧ Keeps F w w' := by
  by_cases hf : S.fuse = 0
  · simp only [DS.wr, hf, if_true]
    refine (rwrite_dead h x a n c hf).mono ?_
    rintro e w' ⟨rfl, rfl⟩
    exact ⟨rfl, h.more, Keeps.refl _ _⟩
  · by_cases hx : x < 0 ∨ (s : Int) ≤ x
    · simp only [DS.wr, hf, if_false, hx, if_true]
      refine (rwrite_range h x a n c hf hx).mono ?_
      rintro e w' ⟨rfl, h1, h2⟩
      exact ⟨rfl, h1.more, h2⟩
    · obtain ⟨k, rfl⟩ : ∃ k : Nat, x = (k : Int) := ⟨x.toNat, by omega⟩
      have hk : k < s := by omega
      by_cases hn : n = 512
      · subst hn
        simp only [DS.wr, hf, if_false, hx, ne_eq, not_true_eq_false, Int.toNat_natCast]
        obtain ⟨y, rfl⟩ : ∃ y, a = some y := by
          cases a with
          | none => have := hs.2.1 rfl; omega
          | some y => exact ⟨y, rfl⟩
        exact rwrite_ok h k hk hf hbig y c l hs
      · simp only [DS.wr, hf, if_false, hx, ne_eq, hn, not_false_eq_true, if_true]
        refine (rwrite_length h k a n c hf hk hn).mono ?_
        rintro e w' ⟨rfl, h1, h2⟩
        exact ⟨rfl, h1.more, h2⟩

theorem rread_all {w : World} {F : Nat → Prop} {p s : Nat} {S : DS} (h : RefAt w F p s S) (x : Int) (hbig : S.puts.length + 1 ≤ 4000000000000) :
    Calls Try.prog 30 #[.pointer (some ⟨p, 0, none⟩), .int .i64 x] w fun e w' => ∃ v, e = .returned (.tuple #[v, .int .i64 (S.rd s x).1]) ∧ Out w.heap.size w' (S.rd s x).2.2 v ∧ RefAt w' F p s (S.rd s x).2.1 ∧ Keeps F w w' := by
  by_cases hf : S.fuse = 0
  · simp only [DS.rd, hf, if_true]
    refine (rread_dead h x hf).mono ?_
    rintro e w' ⟨rfl, rfl⟩
    exact ⟨_, rfl, Out.nil _ _, h, Keeps.refl _ _⟩
  · by_cases hx : x < 0 ∨ (s : Int) ≤ x
    · simp only [DS.rd, hf, if_false, hx, if_true]
      refine (rread_range h x hf hx).mono ?_
      rintro e w' ⟨rfl, h1, h2⟩
      exact ⟨_, rfl, Out.nil _ _, h1, h2⟩
    · obtain ⟨k, rfl⟩ : ∃ k : Nat, x = (k : Int) := ⟨x.toNat, by omega⟩
      have hk : k < s := by omega
      simp only [DS.rd, hf, if_false, hx, Int.toNat_natCast]
      refine (rread_ok h k hf hk (by omega)).mono ?_
      rintro e w' ⟨g, rfl, hg, hr, h1, h2⟩
      have := Out.row hr hg
      rw [now_len h.ok k hk] at this
      exact ⟨_, rfl, this, h1, h2⟩

theorem rflush_all {w : World} {F : Nat → Prop} {p s : Nat} {S : DS} (h : RefAt w F p s S) (hbig : S.puts.length + 1 ≤ 4000000000000) :
    Calls Try.prog 78 #[.pointer (some ⟨p, 0, none⟩)] w fun e w' => e = .returned (.int .i64 (S.fl s).1) ∧ RefAt w' F p s (S.fl s).2 ∧ Keeps F w w' := by
  by_cases hf : S.fuse = 0
  · simp only [DS.fl, hf, if_true]
    refine (rflush_dead h hf).mono ?_
    rintro e w' ⟨rfl, rfl⟩
    exact ⟨rfl, h, Keeps.refl _ _⟩
  · simp only [DS.fl, hf, if_false]
    exact rflush_ok h hf (by omega)

theorem rcrash_all {w : World} {F : Nat → Prop} {r s : Nat} {S : DS} (hd : RefAt w F r s S) (hbig : S.puts.length + 1 ≤ 4000000000000) (a : Option Addr) (n c : Nat) (l : List P3) (hps : PSrc w a n l) (hn : n ≤ 140737488355328) :
    Calls Try.prog 39 #[.pointer (some ⟨r, 0, none⟩), .slice a n c] w fun e w' => e = .returned (.tuple #[]) ∧ RefAt w' (more F w w') r s (S.crash s l) ∧ Keeps F w w' := by
  by_cases hz : S.puts.length = 0
  · exact rcrash_zero hd hz a n c l
  · exact rcrash_more hd (by omega) hbig a n c l hps hn

/-- The program's disk and the document's, each in blocks of its own, all from B on. -/
structure Two (w : World) (B : Nat) (F G : Nat → Prop) (p r s : Nat) (S T : DS) : Prop where
  d : DiskAt w F p s S
  e : RefAt w G r s T
  lo : B ≤ w.heap.size
  fF : ∀ k, F k → B ≤ k
  fG : ∀ k, G k → B ≤ k
  dis : ∀ k, F k → ¬ G k

theorem Two.left {w w' : World} {B : Nat} {F G : Nat → Prop} {p r s : Nat} {S S' T : DS} (h : Two w B F G p r s S T) (hd : DiskAt w' (more F w w') p s S') (hk : Keeps F w w') : Two w' B (more F w w') G p r s S' T := by
  refine ⟨hd, h.e.keep hk (fun k hg hf => h.dis k hf hg), Nat.le_trans h.lo hk.size, fun k hk' => ?_, h.fG, fun k hk' hg => ?_⟩
  · rcases hk' with h1 | h1
    · exact h.fF k h1
    · have := h.lo; omega
  · rcases hk' with h1 | h1
    · exact h.dis k h1 hg
    · have := h.e.lt k hg; omega
theorem Two.right {w w' : World} {B : Nat} {F G : Nat → Prop} {p r s : Nat} {S T T' : DS} (h : Two w B F G p r s S T) (hd : RefAt w' (more G w w') r s T') (hk : Keeps G w w') : Two w' B F (more G w w') p r s S T' := by
  refine ⟨h.d.keep hk (fun k hf hg => h.dis k hf hg), hd, Nat.le_trans h.lo hk.size, h.fF, fun k hk' => ?_, fun k hf hk' => ?_⟩
  · rcases hk' with h1 | h1
    · exact h.fG k h1
    · have := h.lo; omega
  · rcases hk' with h1 | h1
    · exact h.dis k hf h1
    · have := h.d.lt k hf; omega
theorem Two.later {w w' : World} {B : Nat} {F G : Nat → Prop} {p r s : Nat} {S T : DS} (h : Two w B F G p r s S T) (hb : Below w.heap.size w w') : Two w' B F G p r s S T :=
  ⟨h.d.keep (Keeps.of_below (fun _ => False) hb) (fun _ _ h => h), h.e.keep (Keeps.of_below (fun _ => False) hb) (fun _ _ h => h), Nat.le_trans h.lo hb.size, h.fF, h.fG, h.dis⟩
theorem Two.leftBelow {w w' : World} {B : Nat} {F G : Nat → Prop} {p r s : Nat} {S T : DS} (h : Two w B F G p r s S T) (hk : Keeps F w w') : Below B w w' := hk.below h.fF h.lo
theorem Two.rightBelow {w w' : World} {B : Nat} {F G : Nat → Prop} {p r s : Nat} {S T : DS} (h : Two w B F G p r s S T) (hk : Keeps G w w') : Below B w w' := hk.below h.fG h.lo

end Go.Proofs.Ytnolpafdkaloeaa
end

section
namespace Go.Proofs.Ytnolpafdkaloeaa
open Go.RowKit Go.Maps

section
variable {w : World} {B : Nat} {F G : Nat → Prop} {p r s : Nat} {S : DS}

set_option maxHeartbeats 2000000 in
theorem asked_burnt (h : Two w B F G p r s S S) (x : Int) (a : Option Addr) (n c : Nat) (pa : Option Addr) (pn pc : Nat) :
    Calls Try.prog 81 #[.pointer (some ⟨p, 0, none⟩), .pointer (some ⟨r, 0, none⟩), opV 5 x a n c pa pn pc] w fun e w' => e = .returned (.bool true) ∧ Below w.heap.size w w' := by
  obtain ⟨w0, hw0⟩ : ∃ w0, w0 = w.alloc (.cells (opC 5 x a n c pa pn pc) 33) := ⟨_, rfl⟩
  have hb0 : Below w.heap.size w w0 := hw0 ▸ below_box _ _
  have h0 := h.later hb0
  have hb := burnt_at h0.d
  have hr := rburnt_at h0.e
  have hee : ((S.fuse == 0) == (S.fuse == 0)) = true := by simp
  clear h h0
  go_enter Try.func81, Try.ntmps81
  go_wp2_with fail
  rw [← hw0]
  clear hw0
  refine hb.mono ?_
  rintro e w1 ⟨rfl, hw⟩
  have hw' := hw.symm
  subst hw'
  generalize (S.fuse == 0) = fz at *
  go_wp2_with fail
  refine hr.mono ?_
  rintro e w1 ⟨rfl, hw⟩
  have hw' := hw.symm
  subst hw'
  clear hb hr
  go_wp2
  go_ret
  exact ⟨by simp, hb0⟩

set_option maxHeartbeats 2000000 in
theorem asked_life (h : Two w B F G p r s S S) (x : Int) (a : Option Addr) (n c : Nat) (pa : Option Addr) (pn pc : Nat) :
    Calls Try.prog 81 #[.pointer (some ⟨p, 0, none⟩), .pointer (some ⟨r, 0, none⟩), opV 8 x a n c pa pn pc] w fun e w' => e = .returned (.bool true) ∧ Below w.heap.size w w' := by
  obtain ⟨w0, hw0⟩ : ∃ w0, w0 = w.alloc (.cells (opC 8 x a n c pa pn pc) 33) := ⟨_, rfl⟩
  have hb0 : Below w.heap.size w w0 := hw0 ▸ below_box _ _
  have h0 := h.later hb0
  have hb := life_at h0.d
  have hr := rlife_at h0.e
  clear h h0
  go_enter Try.func81, Try.ntmps81
  go_wp2_with fail
  rw [← hw0]
  clear hw0
  refine hb.mono ?_
  rintro e w1 ⟨rfl, hw⟩
  have hw' := hw.symm
  subst hw'
  have hee : (S.life == S.life) = true := by simp
  go_wp2_with fail
  refine hr.mono ?_
  rintro e w1 ⟨rfl, hw⟩
  have hw' := hw.symm
  subst hw'
  clear hb hr
  go_wp2
  go_ret
  exact ⟨by first | rfl | simp, hb0⟩

set_option maxHeartbeats 2000000 in
theorem asked_sectors (h : Two w B F G p r s S S) (x : Int) (a : Option Addr) (n c : Nat) (pa : Option Addr) (pn pc : Nat) :
    Calls Try.prog 81 #[.pointer (some ⟨p, 0, none⟩), .pointer (some ⟨r, 0, none⟩), opV 11 x a n c pa pn pc] w fun e w' => e = .returned (.bool true) ∧ Below w.heap.size w w' := by
  obtain ⟨w0, hw0⟩ : ∃ w0, w0 = w.alloc (.cells (opC 11 x a n c pa pn pc) 33) := ⟨_, rfl⟩
  have hb0 : Below w.heap.size w w0 := hw0 ▸ below_box _ _
  have h0 := h.later hb0
  have hb := sectors_at h0.d
  have hr := rsectors_at h0.e
  clear h h0
  go_enter Try.func81, Try.ntmps81
  go_wp2_with fail
  rw [← hw0]
  clear hw0
  refine hb.mono ?_
  rintro e w1 ⟨rfl, hw⟩
  have hw' := hw.symm
  subst hw'
  have hee : ((s : Int) == (s : Int)) = true := by simp
  go_wp2_with fail
  refine hr.mono ?_
  rintro e w1 ⟨rfl, hw⟩
  have hw' := hw.symm
  subst hw'
  clear hb hr
  go_wp2
  go_ret
  exact ⟨by first | rfl | simp, hb0⟩

set_option maxHeartbeats 2000000 in
theorem asked_image (h : Two w B F G p r s S S) (x : Int) (a : Option Addr) (n c : Nat) (pa : Option Addr) (pn pc : Nat) :
    Calls Try.prog 81 #[.pointer (some ⟨p, 0, none⟩), .pointer (some ⟨r, 0, none⟩), opV 9 x a n c pa pn pc] w fun e w' => e = .returned (.bool true) ∧ Below w.heap.size w w' := by
  obtain ⟨w0, hw0⟩ : ∃ w0, w0 = w.alloc (.cells (opC 9 x a n c pa pn pc) 33) := ⟨_, rfl⟩
  have hb0 : Below w.heap.size w w0 := hw0 ▸ below_box _ _
  have h0 := h.later hb0
  have hb := image_any _ _ _ _ _ h0.d
  have hlen := h0.d.ok.len
  have hhi := h0.d.ok.hi
  have H0 := Hid.mk h0
  clear h h0
  go_enter Try.func81, Try.ntmps81
  go_wp2_with fail
  rw [← hw0]
  clear hw0
  refine hb.mono ?_
  rintro e w1 ⟨g1, c1, rfl, hg1, hr1, hb1⟩
  have h1 := H0.out.later hb1
  have hr := rimage_any h1.e
  have Hr1 := Hid.mk hr1
  have hbw1 : Below w.heap.size w w1 := hb0.trans (hb1.mono hb0.size)
  clear H0 h1 hb hr1 hb1 hb0
  go_wp2_with fail
  refine hr.mono ?_
  rintro e w2 ⟨g2, c2, rfl, hg2, hr2, hb2⟩
  have hbw2 : Below w.heap.size w w2 := hbw1.trans (hb2.mono hbw1.size)
  have hs1 := Hr1.out.src.later hb2
  have hs2 := hr2.src
  rw [hlen] at hs1 hs2
  have hsa := same_any (some ⟨g1, 0, none⟩) (some ⟨g2, 0, none⟩) (s * 512) c1 c2 S.im w2 (by omega) hs1 hs2
  clear hs1 hs2 hr2 Hr1 hb2 hbw1 hr
  go_wp2_with fail
  refine hsa.mono ?_
  rintro e w3 ⟨rfl, hb3⟩
  have hbw3 : Below w.heap.size w w3 := hbw2.trans (hb3.mono hbw2.size)
  clear hsa hb3 hbw2
  go_wp2
  go_ret
  exact ⟨rfl, hbw3⟩

theorem asked_none (kind : Int) (h1 : kind ≠ 5) (h2 : kind ≠ 8) (h3 : kind ≠ 9) (h4 : kind ≠ 10) (h5 : kind ≠ 11) (x : Int) (a : Option Addr) (n c : Nat) (pa : Option Addr) (pn pc : Nat) :
    Calls Try.prog 81 #[.pointer (some ⟨p, 0, none⟩), .pointer (some ⟨r, 0, none⟩), opV kind x a n c pa pn pc] w fun e w' => e = .returned (.bool true) ∧ Below w.heap.size w w' := by
  have e1 : (kind == 5) = false := by simp [h1]
  have e2 : (kind == 8) = false := by simp [h2]
  have e3 : (kind == 9) = false := by simp [h3]
  have e4 : (kind == 10) = false := by simp [h4]
  have e5 : (kind == 11) = false := by simp [h5]
  clear h1 h2 h3 h4 h5
  have hb0 := below_box w (.cells (opC kind x a n c pa pn pc) 33)
  go_enter Try.func81, Try.ntmps81
  go_wp2
  go_ret
  exact ⟨rfl, hb0⟩

set_option maxHeartbeats 4000000 in
theorem asked_counts (h : Two w B F G p r s S S) (hbig : S.puts.length + 1 ≤ 4000000000000) (x : Int) (a : Option Addr) (n c : Nat) (pa : Option Addr) (pn pc : Nat) :
    Calls Try.prog 81 #[.pointer (some ⟨p, 0, none⟩), .pointer (some ⟨r, 0, none⟩), opV 10 x a n c pa pn pc] w fun e w' => e = .returned (.bool true) ∧ Below w.heap.size w w' := by
  obtain ⟨w0, hw0⟩ : ∃ w0, w0 = w.alloc (.cells (opC 10 x a n c pa pn pc) 33) := ⟨_, rfl⟩
  have hb0 : Below w.heap.size w w0 := hw0 ▸ below_box _ _
  have h0 := h.later hb0
  have hb := counts_any _ _ _ _ _ h0.d (by omega)
  have H0 := Hid.mk h0
  clear h h0
  go_enter Try.func81, Try.ntmps81
  go_wp2_with fail
  rw [← hw0]
  clear hw0
  refine hb.mono ?_
  rintro e w1 ⟨rfl, hb1⟩
  have h1 := H0.out.later hb1
  have hbw1 : Below w.heap.size w w1 := hb0.trans (hb1.mono hb0.size)
  have H1 := Hid.mk h1
  clear H0 h1 hb hb1 hb0
  obtain ⟨w2, hw2⟩ : ∃ w2, w2 = w1.alloc (.cells (cnCells S.reads S.writes S.flushes S.refused S.puts.length) 103) := ⟨_, rfl⟩
  have hb2 : Below w1.heap.size w1 w2 := hw2 ▸ below_box _ _
  have hbx : w2.heap[w1.heap.size]? = some (.cells (cnCells S.reads S.writes S.flushes S.refused S.puts.length) 103 (0, 0)) := hw2 ▸ heap_alloc_new _ _
  have hr := rcounts_at (H1.out.later hb2).e
  have hbw2 : Below w.heap.size w w2 := hbw1.trans (hb2.mono hbw1.size)
  clear H1 hbw1
  simp only [cnCells]
  go_wp2_with fail
  rw [← hw2]
  clear hw2
  refine hr.mono ?_
  rintro e w3 ⟨rfl, hb3⟩
  have hlt := (Array.getElem?_eq_some_iff.1 hbx).1
  have hbx3 := (hb3.block _ hlt).trans hbx
  have c0 := cell_of_block hbx3 (j := 0) rfl
  have c1 := cell_of_block hbx3 (j := 1) rfl
  have c2 := cell_of_block hbx3 (j := 2) rfl
  have c3 := cell_of_block hbx3 (j := 3) rfl
  have c4 := cell_of_block hbx3 (j := 4) rfl
  have hlt3 : w1.heap.size < w3.heap.size := Nat.lt_of_lt_of_le hlt hb3.size
  have hbw3 : Below w.heap.size w w3 := hbw2.trans (hb3.mono hbw2.size)
  have hfin := Hid.mk (fun o => hbw3.alloc hbw3.size o)
  clear hr hbx hbx3 hb3 hbw2 hbw3 hb2 hlt
  simp only [cnCells]
  go_wp2
  go_ret
  exact ⟨by first | rfl | simp, hfin.out _⟩

end
end Go.Proofs.Ytnolpafdkaloeaa
end

section
namespace Go.Proofs.Ytnolpafdkaloeaa
open Go.RowKit Go.Maps

/-- Inside a step: both disks, and the step's own copy of the operation. U: the blocks that the two had. -/
structure Mid (w0 w : World) (B q : Nat) (U F G : Nat → Prop) (p r s : Nat) (S T : DS) (C : Array Value) : Prop where
  two : Two w B F G p r s S T
  box : w.heap[q]? = some (.cells C 33 (0, 0))
  qF : ¬ F q
  qG : ¬ G q
  bel : Below B w0 w
  kp : Keeps U w0 w
  fU : ∀ k, F k → U k ∨ w0.heap.size ≤ k
  gU : ∀ k, G k → U k ∨ w0.heap.size ≤ k

theorem Mid.lt {w0 w : World} {B q : Nat} {U F G : Nat → Prop} {p r s : Nat} {S T : DS} {C : Array Value} (h : Mid w0 w B q U F G p r s S T C) : q < w.heap.size := (Array.getElem?_eq_some_iff.1 h.box).1
theorem Mid.start {w : World} {B : Nat} {F G : Nat → Prop} {p r s : Nat} {S T : DS} (h : Two w B F G p r s S T) (C : Array Value) : Mid w (w.alloc (.cells C 33)) B w.heap.size (fun k => F k ∨ G k) F G p r s S T C :=
  ⟨h.later (below_box _ _), heap_alloc_new _ _, fun hf => by have := h.d.lt _ hf; omega, fun hf => by have := h.e.lt _ hf; omega, (below_box w _).mono h.lo, Keeps.of_below _ (below_box w _), fun _ hk => .inl (.inl hk), fun _ hk => .inl (.inr hk)⟩
theorem Mid.left {w0 w w' : World} {B q : Nat} {U F G : Nat → Prop} {p r s : Nat} {S S' T : DS} {C : Array Value} (h : Mid w0 w B q U F G p r s S T C) (hd : DiskAt w' (more F w w') p s S') (hk : Keeps F w w') : Mid w0 w' B q U (more F w w') G p r s S' T C :=
  ⟨h.two.left hd hk, (hk.block q h.lt h.qF).trans h.box, fun hf => by rcases hf with h1 | h1; exact h.qF h1; have := h.lt; omega, h.qG, h.bel.trans (h.two.leftBelow hk), h.kp.trans hk h.fU, fun k hf => by rcases hf with h1 | h1; exact h.fU k h1; have := h.kp.size; exact .inr (by omega), h.gU⟩
theorem Mid.right {w0 w w' : World} {B q : Nat} {U F G : Nat → Prop} {p r s : Nat} {S T T' : DS} {C : Array Value} (h : Mid w0 w B q U F G p r s S T C) (hd : RefAt w' (more G w w') r s T') (hk : Keeps G w w') : Mid w0 w' B q U F (more G w w') p r s S T' C :=
  ⟨h.two.right hd hk, (hk.block q h.lt h.qG).trans h.box, h.qF, fun hf => by rcases hf with h1 | h1; exact h.qG h1; have := h.lt; omega, h.bel.trans (h.two.rightBelow hk), h.kp.trans hk h.gU, h.fU, fun k hf => by rcases hf with h1 | h1; exact h.gU k h1; have := h.kp.size; exact .inr (by omega)⟩
theorem Mid.later {w0 w w' : World} {B q : Nat} {U F G : Nat → Prop} {p r s : Nat} {S T : DS} {C : Array Value} (h : Mid w0 w B q U F G p r s S T C) (hb : Below w.heap.size w w') : Mid w0 w' B q U F G p r s S T C :=
  ⟨h.two.later hb, (hb.block q h.lt).trans h.box, h.qF, h.qG, h.bel.trans (hb.mono h.two.lo), h.kp.trans (Keeps.of_below (fun _ => False) hb) (fun _ h => h.elim), h.fU, h.gU⟩

/-- What a step leaves. -/
def StepOut (w w' : World) (B p r s N : Nat) (U : Nat → Prop) : Prop := ∃ F G S, Two w' B F G p r s S S ∧ Below B w w' ∧ S.puts.length ≤ N ∧ Keeps U w w' ∧ (∀ k, F k → U k ∨ w.heap.size ≤ k) ∧ ∀ k, G k → U k ∨ w.heap.size ≤ k

theorem Mid.out {w0 w : World} {B q : Nat} {U F G : Nat → Prop} {p r s : Nat} {S : DS} {C : Array Value} (h : Mid w0 w B q U F G p r s S S C) {N : Nat} (hn : S.puts.length ≤ N) : StepOut w0 w B p r s N U := ⟨F, G, S, h.two, h.bel, hn, h.kp, h.fU, h.gU⟩

section
variable {w : World} {B : Nat} {F G : Nat → Prop} {p r s : Nat} {S : DS}

set_option maxHeartbeats 2000000 in
theorem step_read (h : Two w B F G p r s S S) (hbig : S.puts.length + 1 ≤ 4000000000000) (x : Int) (a : Option Addr) (n c : Nat) (pa : Option Addr) (pn pc : Nat) :
    Calls Try.prog 40 #[.pointer (some ⟨p, 0, none⟩), .pointer (some ⟨r, 0, none⟩), opV 1 x a n c pa pn pc] w fun e w' => e = .returned (.bool true) ∧ StepOut w w' B p r s (S.puts.length + 1) (fun k => F k ∨ G k) := by
  obtain ⟨w0, hw0⟩ : ∃ w0, w0 = w.alloc (.cells (opC 1 x a n c pa pn pc) 33) := ⟨_, rfl⟩
  have M0 : Mid w w0 B w.heap.size (fun k => F k ∨ G k) F G p r s S S (opC 1 x a n c pa pn pc) := hw0 ▸ Mid.start h _
  have hd := read_all M0.two.d x hbig
  have hrl := rd_len M0.two.d.ok x
  have M := Hid.mk M0
  clear h M0
  go_enter Try.func40, Try.ntmps40
  go_wp2_with fail
  rw [← hw0]
  clear hw0
  refine hd.mono ?_
  rintro e w1 ⟨v, rfl, ho, hd1, hk1⟩
  have M1 := M.out.left hd1.more hk1
  have hr := rread_all M1.two.e x hbig
  have c1 := cell_of_block M1.box (j := 1) rfl
  obtain ⟨a1, ca, rfl, hs1, hl1⟩ := ho
  have Ho : Hid (Out w0.heap.size w1 (S.rd s x).2.2 (.slice a1 (S.rd s x).2.2.length ca)) := ⟨a1, ca, rfl, hs1, hl1⟩
  have HM1 := Hid.mk M1
  clear hd hd1 hk1 hs1 hl1 M1
  generalize hcode : (S.rd s x).1 = code at *
  generalize hlen : (S.rd s x).2.2.length = ln at *
  go_wp2_with fail
  refine hr.mono ?_
  rintro e w2 ⟨v, rfl, ho2, hd2, hk2⟩
  have M2 := HM1.out.right hd2.more hk2
  have Ho2 := Ho.out.keeps hk2 (fun k hk => M.out.two.e.lt k hk)
  have hsa := same_out Ho2 ho2 (by omega)
  have hee : (code == code) = true := by simp
  have Hfin := Hid.mk (fun w3 (hb : Below w2.heap.size w2 w3) => (M2.later hb).out (rd_puts S s x))
  clear hr c1 Ho Ho2 HM1 hd2 hk2 M2 M
  obtain ⟨a2, ca2, rfl, hs2, hl2⟩ := ho2
  rw [hlen] at hsa
  clear hs2 hl2
  rw [hlen]
  go_wp2_with fail
  refine hsa.mono ?_
  rintro e w3 ⟨rfl, hb3⟩
  have hfin := Hfin.out w3 hb3
  have HF := Hid.mk hfin
  clear hsa hb3 hfin Hfin
  go_wp2
  go_ret
  exact ⟨rfl, HF.out⟩

set_option maxHeartbeats 2000000 in
theorem step_flush (h : Two w B F G p r s S S) (hbig : S.puts.length + 1 ≤ 4000000000000) (x : Int) (a : Option Addr) (n c : Nat) (pa : Option Addr) (pn pc : Nat) :
    Calls Try.prog 40 #[.pointer (some ⟨p, 0, none⟩), .pointer (some ⟨r, 0, none⟩), opV 3 x a n c pa pn pc] w fun e w' => e = .returned (.bool true) ∧ StepOut w w' B p r s (S.puts.length + 1) (fun k => F k ∨ G k) := by
  obtain ⟨w0, hw0⟩ : ∃ w0, w0 = w.alloc (.cells (opC 3 x a n c pa pn pc) 33) := ⟨_, rfl⟩
  have M0 : Mid w w0 B w.heap.size (fun k => F k ∨ G k) F G p r s S S (opC 3 x a n c pa pn pc) := hw0 ▸ Mid.start h _
  have hd := flush_all M0.two.d hbig
  have M := Hid.mk M0
  clear h M0
  go_enter Try.func40, Try.ntmps40
  go_wp2_with fail
  rw [← hw0]
  clear hw0
  refine hd.mono ?_
  rintro e w1 ⟨rfl, hd1, hk1⟩
  have M1 := M.out.left hd1.more hk1
  have hr := rflush_all M1.two.e hbig
  have HM1 := Hid.mk M1
  clear hd hd1 hk1 M1 M
  generalize hcode : (S.fl s).1 = code at *
  go_wp2_with fail
  refine hr.mono ?_
  rintro e w2 ⟨rfl, hd2, hk2⟩
  have M2 := HM1.out.right hd2.more hk2
  have hee : (code == code) = true := by simp
  have HF := Hid.mk (M2.out (fl_puts S s))
  clear hr HM1 hd2 hk2 M2
  go_wp2
  go_ret
  exact ⟨rfl, HF.out⟩

set_option maxHeartbeats 2000000 in
theorem step_fuse (h : Two w B F G p r s S S) (x : Int) (hx : x ≤ 9223372036854775807) (a : Option Addr) (n c : Nat) (pa : Option Addr) (pn pc : Nat) :
    Calls Try.prog 40 #[.pointer (some ⟨p, 0, none⟩), .pointer (some ⟨r, 0, none⟩), opV 4 x a n c pa pn pc] w fun e w' => e = .returned (.bool true) ∧ StepOut w w' B p r s (S.puts.length + 1) (fun k => F k ∨ G k) := by
  obtain ⟨w0, hw0⟩ : ∃ w0, w0 = w.alloc (.cells (opC 4 x a n c pa pn pc) 33) := ⟨_, rfl⟩
  have M0 : Mid w w0 B w.heap.size (fun k => F k ∨ G k) F G p r s S S (opC 4 x a n c pa pn pc) := hw0 ▸ Mid.start h _
  have hd := fuse_at M0.two.d x hx
  have M := Hid.mk M0
  clear h M0
  go_enter Try.func40, Try.ntmps40
  go_wp2_with fail
  rw [← hw0]
  clear hw0
  refine hd.mono ?_
  rintro e w1 ⟨rfl, hd1, hk1⟩
  have M1 := M.out.left hd1.more hk1
  have hr := rfuse_at M1.two.e x hx
  have c1 := cell_of_block M1.box (j := 1) rfl
  have HM1 := Hid.mk M1
  clear hd hd1 hk1 M1 M
  go_wp2_with fail
  refine hr.mono ?_
  rintro e w2 ⟨rfl, hd2, hk2⟩
  have M2 := HM1.out.right hd2.more hk2
  have HF := Hid.mk (M2.out (lay_puts S x))
  clear hr HM1 hd2 hk2 M2
  go_wp2
  go_ret
  exact ⟨rfl, HF.out⟩

set_option maxHeartbeats 2000000 in
theorem step_take (h : Two w B F G p r s S S) (x : Int) (a : Option Addr) (n c : Nat) (pa : Option Addr) (pn pc : Nat) :
    Calls Try.prog 40 #[.pointer (some ⟨p, 0, none⟩), .pointer (some ⟨r, 0, none⟩), opV 7 x a n c pa pn pc] w fun e w' => e = .returned (.bool true) ∧ StepOut w w' B p r s (S.puts.length + 1) (fun k => F k ∨ G k) := by
  obtain ⟨w0, hw0⟩ : ∃ w0, w0 = w.alloc (.cells (opC 7 x a n c pa pn pc) 33) := ⟨_, rfl⟩
  have M0 : Mid w w0 B w.heap.size (fun k => F k ∨ G k) F G p r s S S (opC 7 x a n c pa pn pc) := hw0 ▸ Mid.start h _
  have hd := take_at M0.two.d
  have M := Hid.mk M0
  clear h M0
  go_enter Try.func40, Try.ntmps40
  go_wp2_with fail
  rw [← hw0]
  clear hw0
  refine hd.mono ?_
  rintro e w1 ⟨rfl, hd1, hk1⟩
  have M1 := M.out.left hd1.more hk1
  have hr := rtake_at M1.two.e
  have HM1 := Hid.mk M1
  clear hd hd1 hk1 M1 M
  generalize hcode : wrap64 (S.life + 1) = code at *
  go_wp2_with fail
  refine hr.mono ?_
  rintro e w2 ⟨rfl, hd2, hk2⟩
  have M2 := HM1.out.right hd2.more hk2
  have hee : (code == code) = true := by simp
  have HF := Hid.mk (M2.out (N := S.puts.length + 1) (by simp [DS.take]))
  clear hr HM1 hd2 hk2 M2
  go_wp2
  go_ret
  exact ⟨rfl, HF.out⟩

set_option maxHeartbeats 2000000 in
theorem step_crash (h : Two w B F G p r s S S) (hbig : S.puts.length + 1 ≤ 4000000000000) (x : Int) (a : Option Addr) (n c : Nat) (pa : Option Addr) (pn pc : Nat) (pl : List P3) (hp : PSrc w pa pn pl) (hpB : ∀ x, pa = some x → 0 < pn → x.block < B) (hpn : 24 * pn ≤ 140737488355328) :
    Calls Try.prog 40 #[.pointer (some ⟨p, 0, none⟩), .pointer (some ⟨r, 0, none⟩), opV 6 x a n c pa pn pc] w fun e w' => e = .returned (.bool true) ∧ StepOut w w' B p r s (S.puts.length + 1) (fun k => F k ∨ G k) := by
  obtain ⟨w0, hw0⟩ : ∃ w0, w0 = w.alloc (.cells (opC 6 x a n c pa pn pc) 33) := ⟨_, rfl⟩
  have M0 : Mid w w0 B w.heap.size (fun k => F k ∨ G k) F G p r s S S (opC 6 x a n c pa pn pc) := hw0 ▸ Mid.start h _
  have htw := twinp_any pa pn pc pl w0 hpn (hp.far M0.bel hpB)
  have M := Hid.mk M0
  have Hp := Hid.mk hp
  clear h M0 hp
  go_enter Try.func40, Try.ntmps40
  go_wp2_with fail
  rw [← hw0]
  clear hw0
  refine htw.mono ?_
  rintro e w1 ⟨g, rfl, hg, hps, hb1⟩
  have M1 := M.out.later hb1
  have hd := crash_ok sorts sortn M1.two.d (by omega) (some ⟨g, 0, none⟩) pn pn pl hps (by omega) (fun x hx hf => by cases hx; have h9 : g < w0.heap.size := M.out.two.d.lt _ hf; omega)
  have HM1 := Hid.mk M1
  clear htw hps hb1 M1 M hg
  go_wp2_with fail
  refine hd.mono ?_
  rintro e w2 ⟨rfl, hd1, hk1⟩
  have M2 := HM1.out.left hd1.more hk1
  have hr := rcrash_all M2.two.e hbig pa pn pc pl (Hp.out.far M2.bel hpB) (by omega)
  have c3 := cell_of_block M2.box (j := 3) rfl
  have HM2 := Hid.mk M2
  clear hd hd1 hk1 M2 HM1
  go_wp2_with fail
  refine hr.mono ?_
  rintro e w3 ⟨rfl, hd2, hk2⟩
  have M3 := HM2.out.right hd2 hk2
  have HF := Hid.mk (M3.out (N := S.puts.length + 1) (by simp [DS.crash]))
  clear hr HM2 hd2 hk2 M3
  go_wp2
  go_ret
  exact ⟨rfl, HF.out⟩

end
end Go.Proofs.Ytnolpafdkaloeaa
end

section
namespace Go.Proofs.Ytnolpafdkaloeaa
open Go.RowKit Go.Maps

/-- What Twin gives, of any length. -/
def TwN (w : World) (n : Nat) (l : List Int) (v : Value) (w' : World) : Prop := ∃ g, v = .slice (some ⟨g, 0, none⟩) n n ∧ w.heap.size ≤ g ∧ RowAt w' 5 g n (bs l) ∧ Below w.heap.size w w'

section
variable {w : World} {B : Nat} {F G : Nat → Prop} {p r s : Nat} {S : DS}

set_option maxHeartbeats 4000000 in
set_option maxRecDepth 100000 in
theorem step_write (h : Two w B F G p r s S S) (hbig : S.puts.length + 1 ≤ 4000000000000) (x : Int) (a : Option Addr) (n c : Nat) (l : List Int) (hs : Src w a n l) (hsB : ∀ x, a = some x → 0 < n → x.block < B) (hn : n ≤ 140737488355328) (pa : Option Addr) (pn pc : Nat) :
    Calls Try.prog 40 #[.pointer (some ⟨p, 0, none⟩), .pointer (some ⟨r, 0, none⟩), opV 2 x a n c pa pn pc] w fun e w' => e = .returned (.bool true) ∧ StepOut w w' B p r s (S.puts.length + 1) (fun k => F k ∨ G k) := by
  obtain ⟨w0, hw0⟩ : ∃ w0, w0 = w.alloc (.cells (opC 2 x a n c pa pn pc) 33) := ⟨_, rfl⟩
  have M0 : Mid w w0 B w.heap.size (fun k => F k ∨ G k) F G p r s S S (opC 2 x a n c pa pn pc) := hw0 ▸ Mid.start h _
  have htw : Calls Try.prog 13 #[.slice a n c] w0.drew fun e w' => ∃ v, e = .returned v ∧ TwN w0 n l v w' :=
    (twin_any a n c l w0.drew hn (show Src w0 a n l from hs.far M0.bel hsB)).mono (by rintro e w' ⟨g, rfl, h1, h2, h3⟩; exact ⟨_, rfl, g, rfl, h1, h2, ⟨h3.os, h3.tape, h3.output, h3.size, h3.block⟩⟩)
  have c1 := cell_of_block M0.box (j := 1) rfl
  have c2 := cell_of_block M0.box (j := 2) rfl
  have hl := hs.1
  have M := Hid.mk M0
  have Hs := Hid.mk hs
  have Htw := Hid.mk htw
  clear h M0 hs htw
  go_enter Try.func40, Try.ntmps40
  go_wp2_with fail
  rw [← hw0]
  clear hw0
  generalize w.heap.size = q at *
  go_region_law
    (first
      | (refine step_call (by rfl) 13 #[.slice a n c] (by simp [go_sem]) (TwN w0 n l) Htw.out ?_; rintro _ w1 ⟨g, rfl, hg, hr, hb1⟩; have M1 := M.out.later hb1; have k1 := cell_of_block M1.box (j := 1) rfl)
      | (refine step_call (by rfl) 12 #[.pointer (some ⟨p, 0, none⟩), .int .i64 x, .slice (some ⟨g, 0, none⟩) n n] (by simp [go_sem]) (fun v w' => v = .int .i64 (S.wr s x n l).1 ∧ DiskAt w' (more F w1 w') p s (S.wr s x n l).2 ∧ Keeps F w1 w') ((write_all M1.two.d x (some ⟨g, 0, none⟩) n n l (hl ▸ hr.src) hbig).mono (by rintro e w' ⟨rfl, h1, h2⟩; exact ⟨_, rfl, rfl, h1, h2⟩)) ?_; rintro _ w2 ⟨rfl, hd2, hk2⟩; have M2 := M1.left hd2 hk2))
  all_goals
    have hr2 := rwrite_all M2.two.e x a n c l (Hs.out.far M2.bel hsB) hbig
    have e1 := cell_of_block M2.box (j := 1) rfl
    have e2 := cell_of_block M2.box (j := 2) rfl
    have HM2 := Hid.mk M2
    clear hd2 hk2 M2 M1 hr hb1 k1 hg M Htw c1 c2 Hs
    generalize hcode : (S.wr s x n l).1 = code at *
    go_wp2_with fail
    refine hr2.mono ?_
    rintro e w3 ⟨rfl, hd3, hk3⟩
    have HF := Hid.mk ((HM2.out.right hd3 hk3).out (wr_puts S s x n l))
    have hee : (code == code) = true := by simp
    clear hr2 hd3 hk3 HM2 e1 e2
    go_wp2
    go_ret
    exact ⟨rfl, HF.out⟩

set_option maxHeartbeats 2000000 in
theorem step_ask (h : Two w B F G p r s S S) (hbig : S.puts.length + 1 ≤ 4000000000000) (kind : Int) (h1 : kind ≠ 1) (h2 : kind ≠ 2) (h3 : kind ≠ 3) (h4 : kind ≠ 4) (h6 : kind ≠ 6) (h7 : kind ≠ 7) (x : Int) (a : Option Addr) (n c : Nat) (pa : Option Addr) (pn pc : Nat) :
    Calls Try.prog 40 #[.pointer (some ⟨p, 0, none⟩), .pointer (some ⟨r, 0, none⟩), opV kind x a n c pa pn pc] w fun e w' => e = .returned (.bool true) ∧ StepOut w w' B p r s (S.puts.length + 1) (fun k => F k ∨ G k) := by
  obtain ⟨w0, hw0⟩ : ∃ w0, w0 = w.alloc (.cells (opC kind x a n c pa pn pc) 33) := ⟨_, rfl⟩
  have M0 : Mid w w0 B w.heap.size (fun k => F k ∨ G k) F G p r s S S (opC kind x a n c pa pn pc) := hw0 ▸ Mid.start h _
  have ha : Calls Try.prog 81 #[.pointer (some ⟨p, 0, none⟩), .pointer (some ⟨r, 0, none⟩), opV kind x a n c pa pn pc] w0 fun e w' => e = .returned (.bool true) ∧ Below w0.heap.size w0 w' := by
    by_cases k5 : kind = 5
    · subst k5; exact asked_burnt M0.two x a n c pa pn pc
    by_cases k8 : kind = 8
    · subst k8; exact asked_life M0.two x a n c pa pn pc
    by_cases k9 : kind = 9
    · subst k9; exact asked_image M0.two x a n c pa pn pc
    by_cases k10 : kind = 10
    · subst k10; exact asked_counts M0.two hbig x a n c pa pn pc
    by_cases k11 : kind = 11
    · subst k11; exact asked_sectors M0.two x a n c pa pn pc
    exact asked_none kind k5 k8 k9 k10 k11 x a n c pa pn pc
  have e1 : (kind == 1) = false := by simp [h1]
  have e2 : (kind == 2) = false := by simp [h2]
  have e3 : (kind == 3) = false := by simp [h3]
  have e4 : (kind == 4) = false := by simp [h4]
  have e6 : (kind == 6) = false := by simp [h6]
  have e7 : (kind == 7) = false := by simp [h7]
  have M := Hid.mk M0
  clear h M0 h1 h2 h3 h4 h6 h7
  go_enter Try.func40, Try.ntmps40
  go_wp2_with fail
  rw [← hw0]
  clear hw0
  refine ha.mono ?_
  rintro e w1 ⟨rfl, hb1⟩
  have HF := Hid.mk ((M.out.later hb1).out (Nat.le_succ S.puts.length))
  clear M ha hb1
  go_wp2
  go_ret
  exact ⟨rfl, HF.out⟩

theorem step_any (h : Two w B F G p r s S S) (hbig : S.puts.length + 1 ≤ 4000000000000) (kind x : Int) (a : Option Addr) (n c : Nat) (pa : Option Addr) (pn pc : Nat) (l : List Int) (pl : List P3) (ho : OpOk w B x a n pa pn l pl) :
    Calls Try.prog 40 #[.pointer (some ⟨p, 0, none⟩), .pointer (some ⟨r, 0, none⟩), opV kind x a n c pa pn pc] w fun e w' => e = .returned (.bool true) ∧ StepOut w w' B p r s (S.puts.length + 1) (fun k => F k ∨ G k) := by
  by_cases k1 : kind = 1
  · subst k1; exact step_read h hbig x a n c pa pn pc
  by_cases k2 : kind = 2
  · subst k2; exact step_write h hbig x a n c l ho.s ho.sB ho.n pa pn pc
  by_cases k3 : kind = 3
  · subst k3; exact step_flush h hbig x a n c pa pn pc
  by_cases k4 : kind = 4
  · subst k4; exact step_fuse h x ho.x a n c pa pn pc
  by_cases k6 : kind = 6
  · subst k6; exact step_crash h hbig x a n c pa pn pc pl ho.p ho.pB ho.pn
  by_cases k7 : kind = 7
  · subst k7; exact step_take h x a n c pa pn pc
  exact step_ask h hbig kind k1 k2 k3 k4 k6 k7 x a n c pa pn pc

end
end Go.Proofs.Ytnolpafdkaloeaa
end

section
namespace Go.Proofs.Ytnolpafdkaloeaa
open Go.RowKit Go.Maps

theorem Two.begin {w0 w1 w2 : World} {B p r s : Nat} {S : DS} {F G : Nat → Prop} (hB : B ≤ w0.heap.size) (hb1 : Below w0.heap.size w0 w1) (hd : DiskAt w1 F p s S) (hF : ∀ k, F k → w0.heap.size ≤ k) (hb2 : Below w1.heap.size w1 w2) (he : RefAt w2 G r s S) (hG : ∀ k, G k → w1.heap.size ≤ k) : Two w2 B F G p r s S S :=
  ⟨hd.keep (Keeps.of_below (fun _ => False) hb2) (fun _ _ h => h), he, by have := hb1.size; have := hb2.size; omega, fun k hk => by have := hF k hk; omega, fun k hk => by have := hG k hk; have := hb1.size; omega, fun k hf hg => by have := hd.lt k hf; have := hG k hg; omega⟩

/-- What Begin leaves. -/
def BeginOut (w w' : World) (B : Nat) (d r : Value) : Prop := Below w.heap.size w w' ∧ ((d = .pointer none ∧ r = .pointer none) ∨ ∃ F G p q s S, d = .pointer (some ⟨p, 0, none⟩) ∧ r = .pointer (some ⟨q, 0, none⟩) ∧ Two w' B F G p q s S S ∧ S.puts.length = 0 ∧ (∀ k, F k → w.heap.size ≤ k) ∧ (∀ k, G k → w.heap.size ≤ k))

end Go.Proofs.Ytnolpafdkaloeaa
end

section
namespace Go.Proofs.Ytnolpafdkaloeaa
open Go.ChangeShapes Go.WideShapes Go.ChangeAt Go.RowKit Go.Deep

theorem ownKnobs : ownKnob Try.prog.godebug = none := by kernel_rfl
theorem laidOut : laidOutB Try.prog = true := by kernel_rfl
theorem bytesU8 : Try.prog.bytesOf 5 = 1 := by kernel_rfl
theorem bytesPick : Try.prog.bytesOf 50 = 24 := by kernel_rfl
theorem bytesOp : Try.prog.bytesOf 33 = 64 := by kernel_rfl
theorem cellsU8 : Try.prog.cellsOf 5 = 1 := by kernel_rfl
theorem cellsInt : Try.prog.cellsOf 3 = 1 := by kernel_rfl
theorem cellsBytes : Try.prog.cellsOf 22 = 1 := by kernel_rfl
theorem cellsPicks : Try.prog.cellsOf 31 = 1 := by kernel_rfl
theorem cellsPick : Try.prog.cellsOf 50 = 3 := by kernel_rfl
theorem cellsOp : Try.prog.cellsOf 33 = 4 := by kernel_rfl

section
variable {H : Type} {enc : TypeId × Value → H} {W : World} {base : Nat} {spare : Nat → Bool} {held : Bool}

theorem weightsAll_mem {P : Program} {e : TypeId} {n : Nat} : ∀ {ds : List (DataW H)} {d : DataW H}, d ∈ ds → n ∈ d.weights P e → n ∈ DataW.weightsAll P e ds
  | d :: r, d', hd, hn => by
    rw [DataW.weightsAll]
    rcases List.mem_cons.1 hd with rfl | h
    · exact List.mem_append_left _ hn
    · exact List.mem_append_right _ (weightsAll_mem h hn)

theorem trod3 {P : Program} {e : TypeId} {f0 f1 f2 : Field} {n : Nat} {cs : List Value} {x : DataW H × List MemPlace} (he : P.underlying e = some (.struct #[f0, f1, f2])) (ce : P.cellsOf e = 3) (o0 : f0.offset = 0) (o1 : f1.offset = 1) (o2 : f2.offset = 2)
    (c0 : P.cellsOf f0.type = 1) (c1 : P.cellsOf f1.type = 1) (c2 : P.cellsOf f2.type = 1) (h : DataW.trod enc P W base spare held n e cs = some x) :
    ∃ v0 v1 v2 y0 y1 y2 k, cs = [v0, v1, v2] ∧ x.1 = .agg [y0.1, y1.1, y2.1] ∧ DataW.trod enc P W base spare held k f0.type [v0] = some y0 ∧ DataW.trod enc P W base spare held k f1.type [v1] = some y1 ∧ DataW.trod enc P W base spare held k f2.type [v2] = some y2 := by
  obtain ⟨xs, k, _, hxy, hlen, hxl, hf⟩ := DataW.trod_struct he h
  rw [ce] at hlen
  match xs, hxl, cs, hlen with
  | [y0, y1, y2], _, [v0, v1, v2], _ =>
    have g0 := hf 0 f0 rfl
    have g1 := hf 1 f1 rfl
    have g2 := hf 2 f2 rfl
    simp [o0, o1, o2, c0, c1, c2] at g0 g1 g2
    exact ⟨v0, v1, v2, y0, y1, y2, k, rfl, by rw [hxy]; rfl, g0, g1, g2⟩

theorem trod4 {P : Program} {e : TypeId} {f0 f1 f2 f3 : Field} {n : Nat} {cs : List Value} {x : DataW H × List MemPlace} (he : P.underlying e = some (.struct #[f0, f1, f2, f3])) (ce : P.cellsOf e = 4) (o0 : f0.offset = 0) (o1 : f1.offset = 1) (o2 : f2.offset = 2) (o3 : f3.offset = 3)
    (c0 : P.cellsOf f0.type = 1) (c1 : P.cellsOf f1.type = 1) (c2 : P.cellsOf f2.type = 1) (c3 : P.cellsOf f3.type = 1) (h : DataW.trod enc P W base spare held n e cs = some x) :
    ∃ v0 v1 v2 v3 y0 y1 y2 y3 k, cs = [v0, v1, v2, v3] ∧ x.1 = .agg [y0.1, y1.1, y2.1, y3.1] ∧ DataW.trod enc P W base spare held k f0.type [v0] = some y0 ∧ DataW.trod enc P W base spare held k f1.type [v1] = some y1 ∧ DataW.trod enc P W base spare held k f2.type [v2] = some y2 ∧ DataW.trod enc P W base spare held k f3.type [v3] = some y3 := by
  obtain ⟨xs, k, _, hxy, hlen, hxl, hf⟩ := DataW.trod_struct he h
  rw [ce] at hlen
  match xs, hxl, cs, hlen with
  | [y0, y1, y2, y3], _, [v0, v1, v2, v3], _ =>
    have g0 := hf 0 f0 rfl
    have g1 := hf 1 f1 rfl
    have g2 := hf 2 f2 rfl
    have g3 := hf 3 f3 rfl
    simp [o0, o1, o2, o3, c0, c1, c2, c3] at g0 g1 g2 g3
    exact ⟨v0, v1, v2, v3, y0, y1, y2, y3, k, rfl, by rw [hxy]; rfl, g0, g1, g2, g3⟩

theorem weights4 {P : Program} {e : TypeId} {f0 f1 f2 f3 : Field} (he : P.underlying e = some (.struct #[f0, f1, f2, f3])) {d0 d1 d2 d3 : DataW H} {n : Nat} (hn : n ∈ d2.weights P f2.type ∨ n ∈ d3.weights P f3.type) : n ∈ (DataW.agg [d0, d1, d2, d3]).weights P e := by
  simp only [DataW.weights, he, List.map, DataW.weightsEach]
  rcases hn with h | h <;> simp [h]

theorem open_bytes {fuel : Nat} {v : Value} {d : DataW H} {pl : List MemPlace} (h : DataW.trod enc Try.prog W base spare held fuel 22 [v] = some (d, pl)) (hw : ∀ n ∈ d.weights Try.prog 22, n ≤ reachBytes) :
    ∃ a n c l, v = .slice a n c ∧ Src W a n l ∧ n ≤ c ∧ n ≤ 140737488355328 := by
  rcases open_ints Try.underlying22 Try.underlying5 cellsU8 h with ⟨hcs, _⟩ | ⟨x, l, c, zs, hcs, _, hl, hm, hz, hd, hcell, hwz⟩
  · simp only [List.cons.injEq, and_true] at hcs
    exact ⟨none, 0, 0, [], hcs, ⟨rfl, fun _ => rfl, fun x hx => by cases hx⟩, Nat.le_refl _, Nat.zero_le _⟩
  · simp only [List.cons.injEq, and_true] at hcs
    simp only [Prod.mk.injEq] at hd
    obtain ⟨rfl, rfl⟩ := hd
    have hzl : l ≤ zs.length := by rw [hz]; split <;> omega
    have h1 := hw ((((lits IntKind.u8 (zs.take l) : List (DataW H))).length + ((lits IntKind.u8 (zs.drop l) : List (DataW H))).length) * Try.prog.bytesOf 5) (by simp [DataW.weights, Try.underlying22])
    rw [bytesU8] at h1
    simp only [lits, List.length_map, List.length_take, List.length_drop, reachBytes] at h1
    refine ⟨some x, l, c, zs.take l, hcs, ⟨by simp; omega, (fun h => by cases h), fun y hy i hi => ?_⟩, hl, by omega⟩
    cases hy
    rw [hcell i (by omega)]
    simp [List.getD, hi]

theorem int_le {n : Int} (h : (Lit.int .i64 n).wf = true) : n ≤ 9223372036854775807 := by
  have := h
  simp [Lit.wf] at this
  omega

theorem open_picks {fuel : Nat} {v : Value} {d : DataW H} {pl : List MemPlace} (h : DataW.trod enc Try.prog W base spare held fuel 31 [v] = some (d, pl)) (hw : ∀ n ∈ d.weights Try.prog 31, n ≤ reachBytes) :
    ∃ a n c l, v = .slice a n c ∧ PSrc W a n l ∧ 24 * n ≤ 140737488355328 := by
  rcases open_slice Try.underlying31 h with ⟨hcs, _⟩ | ⟨x, len, cap, m, k, D, Pl, hcs, _, hl, hm, hmm, hd, hx⟩
  · simp only [List.cons.injEq, and_true] at hcs
    exact ⟨none, 0, 0, [], hcs, ⟨rfl, fun _ => rfl, (fun x hx => by cases hx), fun q hq => by cases hq⟩, Nat.zero_le _⟩
  · simp only [List.cons.injEq, and_true] at hcs
    simp only [Prod.mk.injEq] at hd
    replace hd := hd.1
    subst hd
    have hlm : len ≤ m := by rw [hmm]; split <;> omega
    have h1 := hw ((((List.range len).map D).length + ((List.range (m - len)).map fun j => D (len + j)).length) * Try.prog.bytesOf 50) (by simp [DataW.weights, Try.underlying31])
    rw [bytesPick] at h1
    simp only [List.length_map, List.length_range, reachBytes] at h1
    rw [cellsPick] at hx
    have each : ∀ i, i < len → ∃ q : P3, W.cell? (x.add (i * 3)) = some (.int .i64 q.1) ∧ W.cell? (x.add (i * 3 + 1)) = some (.int .i64 q.2.1) ∧ W.cell? (x.add (i * 3 + 2)) = some (.int .i64 q.2.2) ∧ q.1 ≤ 9223372036854775807 ∧ q.2.1 ≤ 9223372036854775807 ∧ q.2.2 ≤ 9223372036854775807 := by
      intro i hi
      obtain ⟨cs', e1, e2⟩ := hx i (by omega)
      obtain ⟨_, hlen, hcell⟩ := World.cells?_some e1
      obtain ⟨v0, v1, v2, y0, y1, y2, k', rfl, _, g0, g1, g2⟩ := trod3 Try.underlying50 cellsPick rfl rfl rfl cellsInt cellsInt cellsInt e2
      obtain ⟨n0, q0, _, w0⟩ := DataW.trod_int Try.underlying3 g0
      obtain ⟨n1, q1, _, w1⟩ := DataW.trod_int Try.underlying3 g1
      obtain ⟨n2, q2, _, w2⟩ := DataW.trod_int Try.underlying3 g2
      simp only [List.cons.injEq, and_true] at q0 q1 q2
      subst q0 q1 q2
      have c0 := hcell 0 (by omega)
      have c1 := hcell 1 (by omega)
      have c2 := hcell 2 (by omega)
      rw [add_add] at c0 c1 c2
      exact ⟨(n0, n1, n2), by simpa using c0, by simpa using c1, by simpa using c2, int_le w0, int_le w1, int_le w2⟩
    obtain ⟨f, hf⟩ := choose_lt each
    refine ⟨some x, len, cap, (List.range len).map f, hcs, ⟨by simp, (fun h => by cases h), fun y hy i hi => ?_, fun q hq => ?_⟩, by omega⟩
    · cases hy
      have hi' : i < len := by simpa using hi
      obtain ⟨a0, a1, a2, _⟩ := hf i hi'
      obtain ⟨z0, _⟩ := hf 0 (by omega)
      obtain ⟨b, o, spot⟩ := x
      have hspot : spot = none := by simpa [Addr.add] using World.cell?_spot z0
      subst hspot
      rw [addr_add] at a0 a1 a2
      exact ⟨b, o, rfl, by simpa using a0, by simpa [Nat.add_assoc] using a1, by simpa [Nat.add_assoc] using a2⟩
    · obtain ⟨i, hi, rfl⟩ := List.mem_map.1 hq
      exact (hf i (List.mem_range.1 hi)).2.2.2

theorem Src.old {W : World} {a : Option Addr} {n : Nat} {l : List Int} (h : Src W a n l) : ∀ x, a = some x → 0 < n → x.block < W.heap.size := fun x hx hn => by
  have := World.block_lt_of_cell? _ _ (h.2.2 x hx 0 hn)
  rwa [blockOf_add] at this
theorem PSrc.old {W : World} {a : Option Addr} {n : Nat} {l : List P3} (h : PSrc W a n l) : ∀ x, a = some x → 0 < n → x.block < W.heap.size := fun x hx hn => by
  obtain ⟨b, o, rfl, h1, _⟩ := h.2.2.1 x hx 0 (by rw [h.1]; exact hn)
  exact World.block_lt_of_cell? _ _ h1

theorem open_ops {fuel : Nat} {v : Value} {d : DataW H} {pl : List MemPlace} (h : DataW.trod enc Try.prog W base spare held fuel 23 [v] = some (d, pl)) (hw : ∀ n ∈ d.weights Try.prog 23, n ≤ reachBytes) :
    ∃ a n c, v = .slice a n c ∧ Script W W.heap.size a n ∧ 64 * n ≤ 140737488355328 := by
  rcases open_slice Try.underlying23 h with ⟨hcs, _⟩ | ⟨x, len, cap, m, k, D, Pl, hcs, _, hl, hm, hmm, hd, hx⟩
  · simp only [List.cons.injEq, and_true] at hcs
    exact ⟨none, 0, 0, hcs, ⟨fun _ => rfl, (fun x hx => by cases hx)⟩, Nat.zero_le _⟩
  · simp only [List.cons.injEq, and_true] at hcs
    simp only [Prod.mk.injEq] at hd
    replace hd := hd.1
    subst hd
    have hlm : len ≤ m := by rw [hmm]; split <;> omega
    have h1 := hw ((((List.range len).map D).length + ((List.range (m - len)).map fun j => D (len + j)).length) * Try.prog.bytesOf 33) (by simp [DataW.weights, Try.underlying23])
    rw [bytesOp] at h1
    simp only [List.length_map, List.length_range, reachBytes] at h1
    rw [cellsOp] at hx
    have hwe : ∀ i, i < len → ∀ n ∈ (D i).weights Try.prog 33, n ≤ reachBytes := fun i hi n hn => hw n (by
      simp only [DataW.weights, Try.underlying23]
      exact List.mem_cons_of_mem _ (List.mem_append_left _ (weightsAll_mem (List.mem_map.2 ⟨i, List.mem_range.2 hi, rfl⟩) hn)))
    refine ⟨some x, len, cap, hcs, ⟨(fun h => by cases h), fun y hy i hi => ?_⟩, by omega⟩
    cases hy
    obtain ⟨cs', e1, e2⟩ := hx i (by omega)
    obtain ⟨_, hlen, hcell⟩ := World.cells?_some e1
    obtain ⟨v0, v1, v2, v3, y0, y1, y2, y3, k', rfl, hxy, g0, g1, g2, g3⟩ := trod4 Try.underlying33 cellsOp rfl rfl rfl rfl cellsInt cellsInt cellsBytes cellsPicks e2
    have hwi := hwe i hi
    have hxy' : D i = .agg [y0.1, y1.1, y2.1, y3.1] := hxy
    rw [hxy'] at hwi
    obtain ⟨n0, q0, _, w0⟩ := DataW.trod_int Try.underlying3 g0
    obtain ⟨n1, q1, _, w1⟩ := DataW.trod_int Try.underlying3 g1
    obtain ⟨a, na, ca, l, q2, hs, _, hsn⟩ := open_bytes g2 (fun z hz => hwi z (weights4 Try.underlying33 (.inl hz)))
    obtain ⟨pa, pn, pc, pl, q3, hp, hpn⟩ := open_picks g3 (fun z hz => hwi z (weights4 Try.underlying33 (.inr hz)))
    simp only [List.cons.injEq, and_true] at q0 q1
    subst q0 q1 q2 q3
    have c0 := hcell 0 (by omega)
    have c1 := hcell 1 (by omega)
    have c2 := hcell 2 (by omega)
    have c3 := hcell 3 (by omega)
    rw [add_add] at c0 c1 c2 c3
    obtain ⟨cs0, z1, z2⟩ := hx 0 (by omega)
    obtain ⟨u0, u1, u2, u3, _, _, _, _, _, rfl, _⟩ := trod4 Try.underlying33 cellsOp rfl rfl rfl rfl cellsInt cellsInt cellsBytes cellsPicks z2
    obtain ⟨_, _, zcell⟩ := World.cells?_some z1
    have z0 := zcell 0 (by omega)
    rw [add_add] at z0
    obtain ⟨b, o, spot⟩ := x
    have hspot : spot = none := by simpa [Addr.add] using World.cell?_spot z0
    subst hspot
    rw [addr_add] at c0 c1 c2 c3
    simp at c0 c1 c2 c3
    exact ⟨b, o, rfl, World.block_lt_of_cell? _ _ c0, n0, n1, a, na, ca, pa, pn, pc, l, pl, c0, by simpa [Nat.add_assoc] using c1, by simpa [Nat.add_assoc] using c2, by simpa [Nat.add_assoc] using c3, ⟨int_le w1, hs, hs.old, hsn, hp, hp.old, hpn⟩⟩
end
end Go.Proofs.Ytnolpafdkaloeaa
end

section
namespace Go.Proofs.Ytnolpafdkaloeaa
end Go.Proofs.Ytnolpafdkaloeaa
end
