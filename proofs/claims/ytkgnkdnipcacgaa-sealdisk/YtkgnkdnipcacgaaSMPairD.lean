import Derived.Test.YtkgnkdnipcacgaaSMSorts
namespace Go.Proofs.Ytkgnkdnipcacgaa
open Go.RowKit Go.Maps

def DS.wr (S : DS) (s : Nat) (x : Int) (n : Nat) (l : List Int) : Int × DS :=
  if S.fuse = 0 then (3, S) else if x < 0 ∨ (s : Int) ≤ x then (11, S.refuse) else if n ≠ 512 then (2, S.refuse) else (0, (S.put x.toNat l).wrote.spend)
def DS.rd (S : DS) (s : Nat) (x : Int) : Int × DS × List Int :=
  if S.fuse = 0 then (3, S, []) else if x < 0 ∨ (s : Int) ≤ x then (11, S.refuse, []) else (0, S.read, S.now x.toNat)
def DS.fl (S : DS) (s : Nat) : Int × DS := if S.fuse = 0 then (3, S) else (0, (S.flush s).spend)

theorem DiskAt.more {w w' : World} {F : Nat → Prop} {p s : Nat} {S : DS} (h : DiskAt w' F p s S) : DiskAt w' (more F w w') p s S :=
  h.mono (fun _ hk => .inl hk) (fun k hk => by rcases hk with hk | hk; exact h.lt k hk; exact hk.2)

theorem write_all {w : World} {F : Nat → Prop} {p s : Nat} {S : DS} (h : DiskAt w F p s S) (x : Int) (a : Option Addr) (n c : Nat) (l : List Int) (hs : Src w a n l) (hbig : S.puts.length + 1 ≤ 4000000000000) :
    Calls Try.prog 11 #[.pointer (some ⟨p, 0, none⟩), .int .i64 x, .slice a n c] w fun e w' => e = .returned (.int .i64 (S.wr s x n l).1) ∧ DiskAt w' (more F w w') p s (S.wr s x n l).2 ∧ Keeps F w w' := by
  by_cases hf : S.fuse = 0
  · simp only [DS.wr, hf, if_true]
    refine (write_dead h x a n c hf).mono ?_
    rintro e w' ⟨rfl, rfl⟩
    exact ⟨rfl, h.more, Keeps.refl _ _⟩
  · by_cases hx : x < 0 ∨ (s : Int) ≤ x
    · simp only [DS.wr, hf, if_false, hx, if_true]
      refine (write_range h x a n c hf hx).mono ?_
      rintro e w' ⟨rfl, h1, h2⟩
      exact ⟨rfl, h1.more, h2⟩
    · obtain ⟨k, rfl⟩ : ∃ k : Nat, x = (k : Int) := ⟨x.toNat, by omega⟩
      have hk : k < s := by omega
      by_cases hn : n = 512
      · subst hn
        simp only [DS.wr, hf, if_false, hx, ne_eq, not_true_eq_false, Int.toNat_natCast]
        obtain ⟨y, rfl⟩ : ∃ y, a = some y := by
          cases a with
          | none => have := hs.2.1 rfl; omega
          | some y => exact ⟨y, rfl⟩
        exact write_ok h k hk hf (by omega) y c l hs
      · simp only [DS.wr, hf, if_false, hx, ne_eq, hn, not_false_eq_true, if_true]
        refine (write_length h k a n c hf hk hn).mono ?_
        rintro e w' ⟨rfl, h1, h2⟩
        exact ⟨rfl, h1.more, h2⟩

/-- What a Read hands out. -/
def Out (lo : Nat) (w : World) (l : List Int) (v : Value) : Prop := ∃ a c, v = .slice a l.length c ∧ Src w a l.length l ∧ ∀ x, a = some x → lo ≤ x.block

theorem Out.nil (lo : Nat) (w : World) : Out lo w [] (.slice none 0 0) := ⟨none, 0, rfl, ⟨rfl, fun _ => rfl, fun x hx => by cases hx⟩, fun x hx => by cases hx⟩
theorem Out.row {lo : Nat} {w : World} {g c : Nat} {l : List Int} (h : RowAt w 5 g c (bs l)) (hg : lo ≤ g) : Out lo w l (.slice (some ⟨g, 0, none⟩) l.length c) := ⟨_, c, rfl, h.src, fun x hx => by cases hx; exact hg⟩

theorem read_all {w : World} {F : Nat → Prop} {p s : Nat} {S : DS} (h : DiskAt w F p s S) (x : Int) (hbig : S.puts.length + 1 ≤ 4000000000000) :
    Calls Try.prog 13 #[.pointer (some ⟨p, 0, none⟩), .int .i64 x] w fun e w' => ∃ v, e = .returned (.tuple #[v, .int .i64 (S.rd s x).1]) ∧ Out w.heap.size w' (S.rd s x).2.2 v ∧ DiskAt w' F p s (S.rd s x).2.1 ∧ Keeps F w w' := by
  by_cases hf : S.fuse = 0
  · simp only [DS.rd, hf, if_true]
    refine (read_dead h x hf).mono ?_
    rintro e w' ⟨rfl, rfl⟩
    exact ⟨_, rfl, Out.nil _ _, h, Keeps.refl _ _⟩
  · by_cases hx : x < 0 ∨ (s : Int) ≤ x
    · simp only [DS.rd, hf, if_false, hx, if_true]
      refine (read_range h x hf hx).mono ?_
      rintro e w' ⟨rfl, h1, h2⟩
      exact ⟨_, rfl, Out.nil _ _, h1, h2⟩
    · obtain ⟨k, rfl⟩ : ∃ k : Nat, x = (k : Int) := ⟨x.toNat, by omega⟩
      have hk : k < s := by omega
      simp only [DS.rd, hf, if_false, hx, Int.toNat_natCast]
      refine (read_ok h k hf hk (by omega)).mono ?_
      rintro e w' ⟨g, c, rfl, hg, hr, h1, h2⟩
      have := Out.row hr hg
      rw [now_len h.ok k hk] at this
      exact ⟨_, rfl, this, h1, h2⟩

theorem flush_all {w : World} {F : Nat → Prop} {p s : Nat} {S : DS} (h : DiskAt w F p s S) (hbig : S.puts.length + 1 ≤ 4000000000000) :
    Calls Try.prog 20 #[.pointer (some ⟨p, 0, none⟩)] w fun e w' => e = .returned (.int .i64 (S.fl s).1) ∧ DiskAt w' F p s (S.fl s).2 ∧ Keeps F w w' := by
  by_cases hf : S.fuse = 0
  · simp only [DS.fl, hf, if_true]
    refine (flush_dead h hf).mono ?_
    rintro e w' ⟨rfl, rfl⟩
    exact ⟨rfl, h, Keeps.refl _ _⟩
  · simp only [DS.fl, hf, if_false]
    exact flush_ok h hf (by omega)

theorem Src.far {w w' : World} {B : Nat} {a : Option Addr} {n : Nat} {l : List Int} (h : Src w a n l) (hb : Below B w w') (ha : ∀ x, a = some x → 0 < n → x.block < B) : Src w' a n l :=
  ⟨h.1, h.2.1, fun x hx i hi => (World.cell?_of_block (w := w) (by rw [blockOf_add]; exact hb.block _ (ha x hx (by omega)))).trans (h.2.2 x hx i hi)⟩
theorem PSrc.far {w w' : World} {B : Nat} {a : Option Addr} {n : Nat} {l : List P3} (h : PSrc w a n l) (hb : Below B w w') (ha : ∀ x, a = some x → 0 < n → x.block < B) : PSrc w' a n l := by
  refine ⟨h.1, h.2.1, fun x hx i hi => ?_, h.2.2.2⟩
  obtain ⟨b, o, rfl, h1, h2, h3⟩ := h.2.2.1 x hx i hi
  have e := hb.block b (ha _ hx (by have := h.1; omega))
  exact ⟨b, o, rfl, (World.cell?_of_block (w := w) (a := ⟨b, _, none⟩) e).trans h1, (World.cell?_of_block (w := w) (a := ⟨b, _, none⟩) e).trans h2, (World.cell?_of_block (w := w) (a := ⟨b, _, none⟩) e).trans h3⟩
theorem Out.keeps {lo : Nat} {w w' : World} {l : List Int} {v : Value} {F : Nat → Prop} (h : Out lo w l v) (hk : Keeps F w w') (hF : ∀ k, F k → k < lo) : Out lo w' l v := by
  obtain ⟨a, c, rfl, hs, hl⟩ := h
  refine ⟨a, c, rfl, ⟨hs.1, hs.2.1, fun x hx i hi => ?_⟩, hl⟩
  have h1 := hs.2.2 x hx i hi
  have hb := World.block_lt_of_cell? _ _ h1
  rw [blockOf_add] at hb
  exact (World.cell?_of_block (w := w) (by rw [blockOf_add]; exact hk.block _ hb (fun hf => by have := hF _ hf; have := hl x hx; omega))).trans h1
theorem same_out {lo lo' : Nat} {w : World} {l : List Int} {v v' : Value} (h : Out lo w l v) (h' : Out lo' w l v') (hn : l.length ≤ 140737488355328) :
    Calls Try.prog 14 #[v, v'] w fun e w' => e = .returned (.bool true) ∧ Below w.heap.size w w' := by
  obtain ⟨a, c, rfl, hs, _⟩ := h
  obtain ⟨a', c', rfl, hs', _⟩ := h'
  exact same_any a a' _ c c' l w hn hs hs'
theorem rd_len {S : DS} {s : Nat} (h : S.Ok s) (x : Int) : (S.rd s x).2.2.length ≤ 512 := by
  unfold DS.rd
  split
  · simp
  · split
    · simp
    · rename_i h1 h2
      show (S.now x.toNat).length ≤ 512
      rw [now_len h x.toNat (by omega)]
      exact Nat.le_refl _
theorem wr_puts (S : DS) (s : Nat) (x : Int) (n : Nat) (l : List Int) : (S.wr s x n l).2.puts.length ≤ S.puts.length + 1 := by
  unfold DS.wr
  split
  · simp
  · split
    · simp [DS.refuse]
    · split
      · simp [DS.refuse]
      · simp [DS.put, DS.wrote, DS.spend]
theorem rd_puts (S : DS) (s : Nat) (x : Int) : (S.rd s x).2.1.puts.length ≤ S.puts.length + 1 := by
  unfold DS.rd
  split
  · simp
  · split
    · simp [DS.refuse]
    · simp [DS.read]
theorem fl_puts (S : DS) (s : Nat) : (S.fl s).2.puts.length ≤ S.puts.length + 1 := by
  unfold DS.fl
  split
  · simp
  · simp [DS.flush, DS.spend]
theorem lay_puts (S : DS) (x : Int) : (S.lay x).puts.length ≤ S.puts.length + 1 := by
  unfold DS.lay
  split <;> simp

abbrev opV (kind x : Int) (a : Option Addr) (n c : Nat) (pa : Option Addr) (pn pc : Nat) : Value := .agg #[.int .i64 kind, .int .i64 x, .slice a n c, .slice pa pn pc]
abbrev opC (kind x : Int) (a : Option Addr) (n c : Nat) (pa : Option Addr) (pn pc : Nat) : Array Value := #[.int .i64 kind, .int .i64 x, .slice a n c, .slice pa pn pc]

theorem below_box (w : World) (o : Obj) : Below w.heap.size w (w.alloc o) := (Below.refl _ _).alloc (Nat.le_refl _) _

/-- What is told of an operation of the script: the lists that it holds lie below B. -/
structure OpOk (w : World) (B : Nat) (x : Int) (a : Option Addr) (n : Nat) (pa : Option Addr) (pn : Nat) (l : List Int) (pl : List P3) : Prop where
  x : x ≤ 9223372036854775807
  s : Src w a n l
  sB : ∀ x, a = some x → 0 < n → x.block < B
  n : n ≤ 140737488355328
  p : PSrc w pa pn pl
  pB : ∀ x, pa = some x → 0 < pn → x.block < B
  pn : 24 * pn ≤ 140737488355328

theorem OpOk.far {w w' : World} {B : Nat} {x : Int} {a : Option Addr} {n : Nat} {pa : Option Addr} {pn : Nat} {l : List Int} {pl : List P3} (h : OpOk w B x a n pa pn l pl) (hb : Below B w w') : OpOk w' B x a n pa pn l pl :=
  ⟨h.x, h.s.far hb h.sB, h.sB, h.n, h.p.far hb h.pB, h.pB, h.pn⟩

/-- What is told of a script: its operations lie below B, and so do their lists. -/
def Script (w : World) (B : Nat) (sa : Option Addr) (n : Nat) : Prop :=
  (sa = none → n = 0) ∧ ∀ y, sa = some y → ∀ i, i < n → ∃ b o, y = ⟨b, o, none⟩ ∧ b < B ∧ ∃ kind x a m c pa pn pc l pl,
    w.cell? ⟨b, o + i * 4, none⟩ = some (.int .i64 kind) ∧ w.cell? ⟨b, o + i * 4 + 1, none⟩ = some (.int .i64 x) ∧ w.cell? ⟨b, o + i * 4 + 2, none⟩ = some (.slice a m c) ∧ w.cell? ⟨b, o + i * 4 + 3, none⟩ = some (.slice pa pn pc) ∧ OpOk w B x a m pa pn l pl

theorem Script.far {w w' : World} {B : Nat} {sa : Option Addr} {n : Nat} (h : Script w B sa n) (hb : Below B w w') : Script w' B sa n := by
  refine ⟨h.1, fun y hy i hi => ?_⟩
  obtain ⟨b, o, rfl, hbB, kind, x, a, m, c, pa, pn, pc, l, pl, c0, c1, c2, c3, ho⟩ := h.2 y hy i hi
  have e := hb.block b hbB
  exact ⟨b, o, rfl, hbB, kind, x, a, m, c, pa, pn, pc, l, pl, (World.cell?_of_block (w := w) (a := ⟨b, _, none⟩) e).trans c0, (World.cell?_of_block (w := w) (a := ⟨b, _, none⟩) e).trans c1, (World.cell?_of_block (w := w) (a := ⟨b, _, none⟩) e).trans c2, (World.cell?_of_block (w := w) (a := ⟨b, _, none⟩) e).trans c3, ho.far hb⟩
end Go.Proofs.Ytkgnkdnipcacgaa
