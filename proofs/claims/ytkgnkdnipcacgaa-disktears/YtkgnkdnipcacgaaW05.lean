import Derived.Test.YtkgnkdnipcacgaaW04
import Derived.Shelf.Sort.AssemblyIn
import Derived.Sort.EveryDepth
import Derived.Sort.OwnSortedInts
import Derived.Deep.RegionLaw
import Derived.BigRegion
section
namespace Go.Proofs.Ytkgnkdnipcacgaa
open Go.RowKit Go.Maps Go.Shelf Go.Sort

theorem sorts : SortSaid := by
  intro g cap zs w hr hsz
  have hle := hr.le
  have hr0 := hr
  obtain ⟨cur, hb, hc, ht, hm⟩ := hr0
  have hlz : (zs.map (Value.int .i64)).length = zs.length := by simp
  rw [hlz] at hle ht
  have hH : Holds (Value.int .i64) w g 0 zs.toArray := holds_of_blockI hb ht
  refine (calls_of_every_depth fun D => AnyS.slices_Sort_int_in Try.lays189 D g 0 cap zs w hH hr.lt hsz).mono ?_
  rintro e w' ⟨rfl, n, os, rfl⟩
  have hl : (zs.mergeSort fun x y => decide (x ≤ y)).length = zs.length := List.length_mergeSort _
  have hg := grownBy_sortedI (w := w) (g := g) (n := n) (os := os) (zs.mergeSort fun x y => decide (x ≤ y)).toArray
  refine ⟨rfl, ⟨_, heap_sortedI _ hb, by simp [putCells, hc], ?_, hm⟩, ⟨hg.os, hg.tape, hg.output, hg.size, fun k hk hne => hg.block k hk (by simpa using hne)⟩⟩
  rw [List.length_map]
  exact take_putCellsI cur _ (by omega)

theorem ins_nil (w : World) : Calls Try.prog 101 #[.slice none 0 0, .int .i64 0, .int .i64 0] w fun e w' => e = .returned (.tuple #[]) ∧ w' = w := by
  go_enter Try.func101, Try.ntmps101
  go_wp2
  refine wp_loop_rounds 1 ?_
  rw [rounds_succ]
  go_wp2
  go_end0
  exact ⟨rfl, rfl⟩

theorem pdq_nil (n : Int) (w : World) : Calls Try.prog 93 #[.slice none 0 0, .int .i64 0, .int .i64 0, .int .i64 n] w fun e w' => e = .returned (.tuple #[]) ∧ w' = w := by
  go_enter Try.func93, Try.ntmps93
  go_wp2
  refine wp_loop_rounds 1 ?_
  rw [rounds_succ]
  go_wp2_with (go_at_call 101; refine (ins_nil _).mono ?_; rintro e w' ⟨rfl, rfl⟩)
  exact bodyPost_ret (results_none rfl _ _ _) rfl ⟨rfl, rfl⟩

theorem sortn : SortNil := by
  intro w
  go_enter Try.func80, Try.ntmps80
  go_wp2_with (first | (go_at_call 93; refine (pdq_nil _ _).mono ?_; rintro e w' ⟨rfl, rfl⟩) | go_in)
  go_end0
  exact ⟨rfl, RowKit.Below.refl _ _⟩
end Go.Proofs.Ytkgnkdnipcacgaa
end

section
namespace Go.Proofs.Ytkgnkdnipcacgaa
open Go.RowKit Go.Maps

def DS.wr (S : DS) (s : Nat) (x : Int) (n : Nat) (l : List Int) : Int × DS :=
  if S.fuse = 0 then (3, S) else if x < 0 ∨ (s : Int) ≤ x then (11, S.refuse) else if n ≠ 512 then (2, S.refuse) else (0, (S.put x.toNat l).wrote.spend)
def DS.rd (S : DS) (s : Nat) (x : Int) : Int × DS × List Int :=
  if S.fuse = 0 then (3, S, []) else if x < 0 ∨ (s : Int) ≤ x then (11, S.refuse, []) else (0, S.read, S.now x.toNat)
def DS.fl (S : DS) (s : Nat) : Int × DS := if S.fuse = 0 then (3, S) else (0, (S.flush s).spend)

theorem DiskAt.more {w w' : World} {F : Nat → Prop} {p s : Nat} {S : DS} (h : DiskAt w' F p s S) : DiskAt w' (more F w w') p s S :=
  h.mono (fun _ hk => .inl hk) (fun k hk => by rcases hk with hk | hk; exact h.lt k hk; exact hk.2)

theorem write_all {w : World} {F : Nat → Prop} {p s : Nat} {S : DS} (h : DiskAt w F p s S) (x : Int) (a : Option Addr) (n c : Nat) (l : List Int) (hs : Src w a n l) (hbig : S.puts.length + 1 ≤ 4000000000000) :
    Calls Try.prog 11 #[.pointer (some ⟨p, 0, none⟩), .int .i64 x, .slice a n c] w fun e w' => e = .returned (.int .i64 (S.wr s x n l).1) ∧ DiskAt w' (more F w w') p s (S.wr s x n l).2 ∧ Keeps F w w' := by
  by_cases hf : S.fuse = 0
  · simp only [DS.wr, hf, if_true]
    refine (write_dead h x a n c hf).mono ?_
    rintro e w' ⟨rfl, rfl⟩
    exact ⟨rfl, h.more, Keeps.refl _ _⟩
  · by_cases hx : x < 0 ∨ (s : Int) ≤ x
    · simp only [DS.wr, hf, if_false, hx, if_true]
      refine (write_range h x a n c hf hx).mono ?_
      rintro e w' ⟨rfl, h1, h2⟩
      exact ⟨rfl, h1.more, h2⟩
    · obtain ⟨k, rfl⟩ : ∃ k : Nat, x = (k : Int) := ⟨x.toNat, by omega⟩
      have hk : k < s := by omega
      by_cases hn : n = 512
      · subst hn
        simp only [DS.wr, hf, if_false, hx, ne_eq, not_true_eq_false, Int.toNat_natCast]
        obtain ⟨y, rfl⟩ : ∃ y, a = some y := by
          cases a with
          | none => have := hs.2.1 rfl; omega
          | some y => exact ⟨y, rfl⟩
        exact write_ok h k hk hf (by omega) y c l hs
      · simp only [DS.wr, hf, if_false, hx, ne_eq, hn, not_false_eq_true, if_true]
        refine (write_length h k a n c hf hk hn).mono ?_
        rintro e w' ⟨rfl, h1, h2⟩
        exact ⟨rfl, h1.more, h2⟩

/-- What a Read hands out. -/
def Out (lo : Nat) (w : World) (l : List Int) (v : Value) : Prop := ∃ a c, v = .slice a l.length c ∧ Src w a l.length l ∧ ∀ x, a = some x → lo ≤ x.block

theorem Out.nil (lo : Nat) (w : World) : Out lo w [] (.slice none 0 0) := ⟨none, 0, rfl, ⟨rfl, fun _ => rfl, fun x hx => by cases hx⟩, fun x hx => by cases hx⟩
theorem Out.row {lo : Nat} {w : World} {g c : Nat} {l : List Int} (h : RowAt w 5 g c (bs l)) (hg : lo ≤ g) : Out lo w l (.slice (some ⟨g, 0, none⟩) l.length c) := ⟨_, c, rfl, h.src, fun x hx => by cases hx; exact hg⟩

theorem read_all {w : World} {F : Nat → Prop} {p s : Nat} {S : DS} (h : DiskAt w F p s S) (x : Int) (hbig : S.puts.length + 1 ≤ 4000000000000) :
    Calls Try.prog 13 #[.pointer (some ⟨p, 0, none⟩), .int .i64 x] w fun e w' => ∃ v, e = .returned (.tuple #[v, .int .i64 (S.rd s x).1]) ∧ Out w.heap.size w' (S.rd s x).2.2 v ∧ DiskAt w' F p s (S.rd s x).2.1 ∧ Keeps F w w' := by
  by_cases hf : S.fuse = 0
  · simp only [DS.rd, hf, if_true]
    refine (read_dead h x hf).mono ?_
    rintro e w' ⟨rfl, rfl⟩
    exact ⟨_, rfl, Out.nil _ _, h, Keeps.refl _ _⟩
  · by_cases hx : x < 0 ∨ (s : Int) ≤ x
    · simp only [DS.rd, hf, if_false, hx, if_true]
      refine (read_range h x hf hx).mono ?_
      rintro e w' ⟨rfl, h1, h2⟩
      exact ⟨_, rfl, Out.nil _ _, h1, h2⟩
    · obtain ⟨k, rfl⟩ : ∃ k : Nat, x = (k : Int) := ⟨x.toNat, by omega⟩
      have hk : k < s := by omega
      simp only [DS.rd, hf, if_false, hx, Int.toNat_natCast]
      refine (read_ok h k hf hk (by omega)).mono ?_
      rintro e w' ⟨g, c, rfl, hg, hr, h1, h2⟩
      have := Out.row hr hg
      rw [now_len h.ok k hk] at this
      exact ⟨_, rfl, this, h1, h2⟩

theorem flush_all {w : World} {F : Nat → Prop} {p s : Nat} {S : DS} (h : DiskAt w F p s S) (hbig : S.puts.length + 1 ≤ 4000000000000) :
    Calls Try.prog 20 #[.pointer (some ⟨p, 0, none⟩)] w fun e w' => e = .returned (.int .i64 (S.fl s).1) ∧ DiskAt w' F p s (S.fl s).2 ∧ Keeps F w w' := by
  by_cases hf : S.fuse = 0
  · simp only [DS.fl, hf, if_true]
    refine (flush_dead h hf).mono ?_
    rintro e w' ⟨rfl, rfl⟩
    exact ⟨rfl, h, Keeps.refl _ _⟩
  · simp only [DS.fl, hf, if_false]
    exact flush_ok h hf (by omega)

theorem blockOf_add (x : Addr) (n : Nat) : (x.add n).block = x.block := by unfold Addr.add; split <;> rfl
theorem Src.far {w w' : World} {B : Nat} {a : Option Addr} {n : Nat} {l : List Int} (h : Src w a n l) (hb : Below B w w') (ha : ∀ x, a = some x → 0 < n → x.block < B) : Src w' a n l :=
  ⟨h.1, h.2.1, fun x hx i hi => (World.cell?_of_block (w := w) (by rw [blockOf_add]; exact hb.block _ (ha x hx (by omega)))).trans (h.2.2 x hx i hi)⟩
theorem PSrc.far {w w' : World} {B : Nat} {a : Option Addr} {n : Nat} {l : List P3} (h : PSrc w a n l) (hb : Below B w w') (ha : ∀ x, a = some x → 0 < n → x.block < B) : PSrc w' a n l := by
  refine ⟨h.1, h.2.1, fun x hx i hi => ?_, h.2.2.2⟩
  obtain ⟨b, o, rfl, h1, h2, h3⟩ := h.2.2.1 x hx i hi
  have e := hb.block b (ha _ hx (by have := h.1; omega))
  exact ⟨b, o, rfl, (World.cell?_of_block (w := w) (a := ⟨b, _, none⟩) e).trans h1, (World.cell?_of_block (w := w) (a := ⟨b, _, none⟩) e).trans h2, (World.cell?_of_block (w := w) (a := ⟨b, _, none⟩) e).trans h3⟩
theorem Out.keeps {lo : Nat} {w w' : World} {l : List Int} {v : Value} {F : Nat → Prop} (h : Out lo w l v) (hk : Keeps F w w') (hF : ∀ k, F k → k < lo) : Out lo w' l v := by
  obtain ⟨a, c, rfl, hs, hl⟩ := h
  refine ⟨a, c, rfl, ⟨hs.1, hs.2.1, fun x hx i hi => ?_⟩, hl⟩
  have h1 := hs.2.2 x hx i hi
  have hb := World.block_lt_of_cell? _ _ h1
  rw [blockOf_add] at hb
  exact (World.cell?_of_block (w := w) (by rw [blockOf_add]; exact hk.block _ hb (fun hf => by have := hF _ hf; have := hl x hx; omega))).trans h1
theorem same_out {lo lo' : Nat} {w : World} {l : List Int} {v v' : Value} (h : Out lo w l v) (h' : Out lo' w l v') (hn : l.length ≤ 140737488355328) :
    Calls Try.prog 14 #[v, v'] w fun e w' => e = .returned (.bool true) ∧ Below w.heap.size w w' := by
  obtain ⟨a, c, rfl, hs, _⟩ := h
  obtain ⟨a', c', rfl, hs', _⟩ := h'
  exact same_any a a' _ c c' l w hn hs hs'
theorem rd_len {S : DS} {s : Nat} (h : S.Ok s) (x : Int) : (S.rd s x).2.2.length ≤ 512 := by
  unfold DS.rd
  split
  · simp
  · split
    · simp
    · rename_i h1 h2
      show (S.now x.toNat).length ≤ 512
      rw [now_len h x.toNat (by omega)]
      exact Nat.le_refl _
theorem wr_puts (S : DS) (s : Nat) (x : Int) (n : Nat) (l : List Int) : (S.wr s x n l).2.puts.length ≤ S.puts.length + 1 := by
  unfold DS.wr
  split
  · simp
  · split
    · simp [DS.refuse]
    · split
      · simp [DS.refuse]
      · simp [DS.put, DS.wrote, DS.spend]
theorem rd_puts (S : DS) (s : Nat) (x : Int) : (S.rd s x).2.1.puts.length ≤ S.puts.length + 1 := by
  unfold DS.rd
  split
  · simp
  · split
    · simp [DS.refuse]
    · simp [DS.read]
theorem fl_puts (S : DS) (s : Nat) : (S.fl s).2.puts.length ≤ S.puts.length + 1 := by
  unfold DS.fl
  split
  · simp
  · simp [DS.flush, DS.spend]
theorem lay_puts (S : DS) (x : Int) : (S.lay x).puts.length ≤ S.puts.length + 1 := by
  unfold DS.lay
  split <;> simp

abbrev opV (kind x : Int) (a : Option Addr) (n c : Nat) (pa : Option Addr) (pn pc : Nat) : Value := .agg #[.int .i64 kind, .int .i64 x, .slice a n c, .slice pa pn pc]
abbrev opC (kind x : Int) (a : Option Addr) (n c : Nat) (pa : Option Addr) (pn pc : Nat) : Array Value := #[.int .i64 kind, .int .i64 x, .slice a n c, .slice pa pn pc]

theorem below_box (w : World) (o : Obj) : Below w.heap.size w (w.alloc o) := (Below.refl _ _).alloc (Nat.le_refl _) _

/-- What is told of an operation of the script: the lists that it holds lie below B. -/
structure OpOk (w : World) (B : Nat) (x : Int) (a : Option Addr) (n : Nat) (pa : Option Addr) (pn : Nat) (l : List Int) (pl : List P3) : Prop where
  x : x ≤ 9223372036854775807
  s : Src w a n l
  sB : ∀ x, a = some x → 0 < n → x.block < B
  n : n ≤ 140737488355328
  p : PSrc w pa pn pl
  pB : ∀ x, pa = some x → 0 < pn → x.block < B
  pn : 24 * pn ≤ 140737488355328

theorem OpOk.far {w w' : World} {B : Nat} {x : Int} {a : Option Addr} {n : Nat} {pa : Option Addr} {pn : Nat} {l : List Int} {pl : List P3} (h : OpOk w B x a n pa pn l pl) (hb : Below B w w') : OpOk w' B x a n pa pn l pl :=
  ⟨h.x, h.s.far hb h.sB, h.sB, h.n, h.p.far hb h.pB, h.pB, h.pn⟩

/-- What is told of a script: its operations lie below B, and so do their lists. -/
def Script (w : World) (B : Nat) (sa : Option Addr) (n : Nat) : Prop :=
  (sa = none → n = 0) ∧ ∀ y, sa = some y → ∀ i, i < n → ∃ b o, y = ⟨b, o, none⟩ ∧ b < B ∧ ∃ kind x a m c pa pn pc l pl,
    w.cell? ⟨b, o + i * 4, none⟩ = some (.int .i64 kind) ∧ w.cell? ⟨b, o + i * 4 + 1, none⟩ = some (.int .i64 x) ∧ w.cell? ⟨b, o + i * 4 + 2, none⟩ = some (.slice a m c) ∧ w.cell? ⟨b, o + i * 4 + 3, none⟩ = some (.slice pa pn pc) ∧ OpOk w B x a m pa pn l pl

theorem Script.far {w w' : World} {B : Nat} {sa : Option Addr} {n : Nat} (h : Script w B sa n) (hb : Below B w w') : Script w' B sa n := by
  refine ⟨h.1, fun y hy i hi => ?_⟩
  obtain ⟨b, o, rfl, hbB, kind, x, a, m, c, pa, pn, pc, l, pl, c0, c1, c2, c3, ho⟩ := h.2 y hy i hi
  have e := hb.block b hbB
  exact ⟨b, o, rfl, hbB, kind, x, a, m, c, pa, pn, pc, l, pl, (World.cell?_of_block (w := w) (a := ⟨b, _, none⟩) e).trans c0, (World.cell?_of_block (w := w) (a := ⟨b, _, none⟩) e).trans c1, (World.cell?_of_block (w := w) (a := ⟨b, _, none⟩) e).trans c2, (World.cell?_of_block (w := w) (a := ⟨b, _, none⟩) e).trans c3, ho.far hb⟩
end Go.Proofs.Ytkgnkdnipcacgaa
end

section
namespace Go.Proofs.Ytkgnkdnipcacgaa
open Go.RowKit Go.Maps

/-- What a step whose answers are let go makes of a disk. -/
def DS.act (S : DS) (s : Nat) (kind x : Int) (n : Nat) (l : List Int) (pl : List P3) : DS :=
  if kind = 1 then (S.rd s x).2.1 else if kind = 2 then (S.wr s x n l).2 else if kind = 3 then (S.fl s).2 else if kind = 4 then S.lay x else if kind = 6 then S.crash s pl else if kind = 7 then S.take else S

theorem act_puts (S : DS) (s : Nat) (kind x : Int) (n : Nat) (l : List Int) (pl : List P3) : (S.act s kind x n l pl).puts.length ≤ S.puts.length + 1 := by
  unfold DS.act
  split
  · exact rd_puts S s x
  · split
    · exact wr_puts S s x n l
    · split
      · exact fl_puts S s
      · split
        · exact lay_puts S x
        · split
          · simp [DS.crash]
          · split <;> simp [DS.take]

theorem act_fin {w w0 w1 : World} {F : Nat → Prop} {p s : Nat} {S : DS} (hb0 : Below w.heap.size w w0) (hd : DiskAt w1 (more F w0 w1) p s S) (hk : Keeps F w0 w1) : DiskAt w1 (more F w w1) p s S ∧ Keeps F w w1 := by
  have h0 := hb0.size
  refine ⟨hd.mono (fun k hk' => by rcases hk' with h | h; exact .inl h; exact .inr ⟨by omega, h.2⟩) (fun k hk' => ?_), (Keeps.of_below F hb0).trans hk (fun j hj => .inl hj)⟩
  rcases hk' with h | h
  · exact hd.lt k (.inl h)
  · exact h.2

theorem act_same {w w1 : World} {F : Nat → Prop} {p s : Nat} {S : DS} (h : DiskAt w F p s S) (hb : Below w.heap.size w w1) : DiskAt w1 (more F w w1) p s S ∧ Keeps F w w1 :=
  ⟨(h.keep (Keeps.of_below (fun _ => False) hb) (fun _ _ h => h)).more, Keeps.of_below F hb⟩

/-- What Twin gives, of any length. -/
def TwA (w : World) (n : Nat) (l : List Int) (v : Value) (w' : World) : Prop := ∃ g, v = .slice (some ⟨g, 0, none⟩) n n ∧ w.heap.size ≤ g ∧ RowAt w' 5 g n (bs l) ∧ Below w.heap.size w w'

/-- A call of a Go function at a step of a region that draws its order. -/
theorem stepA_call {P : Program} {w : World} {ops : Array Oper} {o : Oper} {a : Act} {K : Act → World → Prop} {Q : Exit → Act → World → Prop} {E : Prop} (hgd : o.guard = none) (f : FuncId) (args : Array Value)
    (hen : (execOp a.eval o).run P w = .ok (.enter f args) w) (R : Value → World → Prop) (hc : Calls P f args w fun e w' => ∃ v, e = .returned v ∧ R v w') (h : ∀ v w', R v w' → K (a.put o.dst v) w') :
    if Region.wanted o (yielded ops a.tmps) = true then Oper.wp P o a w K Q else E := by
  have hw : Region.wanted o (yielded ops a.tmps) = true := by simp [Region.wanted, hgd]
  rw [if_pos hw]
  unfold Oper.wp
  rw [hen, Oper.upon_enter]
  refine hc.mono ?_
  rintro e w' ⟨v, rfl, hr⟩
  exact h v w' hr

section
variable {w : World} {F : Nat → Prop} {p s : Nat} {S : DS}

set_option maxHeartbeats 2000000 in
set_option maxRecDepth 100000 in
theorem act_read (h : DiskAt w F p s S) (hbig : S.puts.length + 1 ≤ 4000000000000) (x : Int) (a : Option Addr) (n c : Nat) (pa : Option Addr) (pn pc : Nat) :
    Calls Try.prog 17 #[.pointer (some ⟨p, 0, none⟩), opV 1 x a n c pa pn pc] w fun e w' => e = .returned (.tuple #[]) ∧ DiskAt w' (more F w w') p s (S.rd s x).2.1 ∧ Keeps F w w' := by
  obtain ⟨w0, hw0⟩ : ∃ w0, w0 = w.alloc (.cells (opC 1 x a n c pa pn pc) 33) := ⟨_, rfl⟩
  have hb0 : Below w.heap.size w w0 := hw0 ▸ below_box _ _
  have h0 := h.keep (Keeps.of_below (fun _ => False) hb0) (fun _ _ h => h)
  have hd := read_all h0 x hbig
  clear h h0
  go_enter Try.func17, Try.ntmps17
  go_wp2_with fail
  rw [← hw0]
  clear hw0
  refine hd.mono ?_
  rintro e w1 ⟨v, rfl, ho, hd1, hk1⟩
  have HF := Hid.mk (act_fin hb0 hd1.more hk1)
  clear hd ho hd1 hk1 hb0
  go_wp2
  go_end0
  exact ⟨rfl, HF.out⟩

set_option maxHeartbeats 2000000 in
set_option maxRecDepth 100000 in
theorem act_flush (h : DiskAt w F p s S) (hbig : S.puts.length + 1 ≤ 4000000000000) (x : Int) (a : Option Addr) (n c : Nat) (pa : Option Addr) (pn pc : Nat) :
    Calls Try.prog 17 #[.pointer (some ⟨p, 0, none⟩), opV 3 x a n c pa pn pc] w fun e w' => e = .returned (.tuple #[]) ∧ DiskAt w' (more F w w') p s (S.fl s).2 ∧ Keeps F w w' := by
  obtain ⟨w0, hw0⟩ : ∃ w0, w0 = w.alloc (.cells (opC 3 x a n c pa pn pc) 33) := ⟨_, rfl⟩
  have hb0 : Below w.heap.size w w0 := hw0 ▸ below_box _ _
  have h0 := h.keep (Keeps.of_below (fun _ => False) hb0) (fun _ _ h => h)
  have hd := flush_all h0 hbig
  clear h h0
  go_enter Try.func17, Try.ntmps17
  go_wp2_with fail
  rw [← hw0]
  clear hw0
  refine hd.mono ?_
  rintro e w1 ⟨rfl, hd1, hk1⟩
  have HF := Hid.mk (act_fin hb0 hd1.more hk1)
  clear hd hd1 hk1 hb0
  go_wp2
  go_end0
  exact ⟨rfl, HF.out⟩

set_option maxHeartbeats 2000000 in
set_option maxRecDepth 100000 in
theorem act_fuse (h : DiskAt w F p s S) (x : Int) (hx : x ≤ 9223372036854775807) (a : Option Addr) (n c : Nat) (pa : Option Addr) (pn pc : Nat) :
    Calls Try.prog 17 #[.pointer (some ⟨p, 0, none⟩), opV 4 x a n c pa pn pc] w fun e w' => e = .returned (.tuple #[]) ∧ DiskAt w' (more F w w') p s (S.lay x) ∧ Keeps F w w' := by
  obtain ⟨w0, hw0⟩ : ∃ w0, w0 = w.alloc (.cells (opC 4 x a n c pa pn pc) 33) := ⟨_, rfl⟩
  have hb0 : Below w.heap.size w w0 := hw0 ▸ below_box _ _
  have h0 := h.keep (Keeps.of_below (fun _ => False) hb0) (fun _ _ h => h)
  have hd := fuse_at h0 x hx
  clear h h0
  go_enter Try.func17, Try.ntmps17
  go_wp2_with fail
  rw [← hw0]
  clear hw0
  refine hd.mono ?_
  rintro e w1 ⟨rfl, hd1, hk1⟩
  have HF := Hid.mk (act_fin hb0 hd1.more hk1)
  clear hd hd1 hk1 hb0
  go_wp2
  go_end0
  exact ⟨rfl, HF.out⟩

set_option maxHeartbeats 2000000 in
set_option maxRecDepth 100000 in
theorem act_take (h : DiskAt w F p s S) (x : Int) (a : Option Addr) (n c : Nat) (pa : Option Addr) (pn pc : Nat) :
    Calls Try.prog 17 #[.pointer (some ⟨p, 0, none⟩), opV 7 x a n c pa pn pc] w fun e w' => e = .returned (.tuple #[]) ∧ DiskAt w' (more F w w') p s S.take ∧ Keeps F w w' := by
  obtain ⟨w0, hw0⟩ : ∃ w0, w0 = w.alloc (.cells (opC 7 x a n c pa pn pc) 33) := ⟨_, rfl⟩
  have hb0 : Below w.heap.size w w0 := hw0 ▸ below_box _ _
  have h0 := h.keep (Keeps.of_below (fun _ => False) hb0) (fun _ _ h => h)
  have hd := take_at h0
  clear h h0
  go_enter Try.func17, Try.ntmps17
  go_wp2_with fail
  rw [← hw0]
  clear hw0
  refine hd.mono ?_
  rintro e w1 ⟨rfl, hd1, hk1⟩
  have HF := Hid.mk (act_fin hb0 hd1.more hk1)
  clear hd hd1 hk1 hb0
  go_wp2
  go_end0
  exact ⟨rfl, HF.out⟩

set_option maxHeartbeats 2000000 in
set_option maxRecDepth 100000 in
theorem act_burnt (h : DiskAt w F p s S) (x : Int) (a : Option Addr) (n c : Nat) (pa : Option Addr) (pn pc : Nat) :
    Calls Try.prog 17 #[.pointer (some ⟨p, 0, none⟩), opV 5 x a n c pa pn pc] w fun e w' => e = .returned (.tuple #[]) ∧ DiskAt w' (more F w w') p s S ∧ Keeps F w w' := by
  obtain ⟨w0, hw0⟩ : ∃ w0, w0 = w.alloc (.cells (opC 5 x a n c pa pn pc) 33) := ⟨_, rfl⟩
  have hb0 : Below w.heap.size w w0 := hw0 ▸ below_box _ _
  have h0 := h.keep (Keeps.of_below (fun _ => False) hb0) (fun _ _ h => h)
  have hd := burnt_at h0
  have HF := Hid.mk (act_same h hb0)
  clear h h0
  go_enter Try.func17, Try.ntmps17
  go_wp2_with fail
  rw [← hw0]
  clear hw0
  refine hd.mono ?_
  rintro e w1 ⟨rfl, hw⟩
  have hw' := hw.symm
  subst hw'
  clear hd
  go_wp2
  go_end0
  exact ⟨rfl, HF.out⟩

set_option maxHeartbeats 2000000 in
set_option maxRecDepth 100000 in
theorem act_life (h : DiskAt w F p s S) (x : Int) (a : Option Addr) (n c : Nat) (pa : Option Addr) (pn pc : Nat) :
    Calls Try.prog 17 #[.pointer (some ⟨p, 0, none⟩), opV 8 x a n c pa pn pc] w fun e w' => e = .returned (.tuple #[]) ∧ DiskAt w' (more F w w') p s S ∧ Keeps F w w' := by
  obtain ⟨w0, hw0⟩ : ∃ w0, w0 = w.alloc (.cells (opC 8 x a n c pa pn pc) 33) := ⟨_, rfl⟩
  have hb0 : Below w.heap.size w w0 := hw0 ▸ below_box _ _
  have h0 := h.keep (Keeps.of_below (fun _ => False) hb0) (fun _ _ h => h)
  have hd := life_at h0
  have HF := Hid.mk (act_same h hb0)
  clear h h0
  go_enter Try.func17, Try.ntmps17
  go_wp2_with fail
  rw [← hw0]
  clear hw0
  refine hd.mono ?_
  rintro e w1 ⟨rfl, hw⟩
  have hw' := hw.symm
  subst hw'
  clear hd
  go_wp2
  go_end0
  exact ⟨rfl, HF.out⟩

set_option maxHeartbeats 2000000 in
set_option maxRecDepth 100000 in
theorem act_sectors (h : DiskAt w F p s S) (x : Int) (a : Option Addr) (n c : Nat) (pa : Option Addr) (pn pc : Nat) :
    Calls Try.prog 17 #[.pointer (some ⟨p, 0, none⟩), opV 11 x a n c pa pn pc] w fun e w' => e = .returned (.tuple #[]) ∧ DiskAt w' (more F w w') p s S ∧ Keeps F w w' := by
  obtain ⟨w0, hw0⟩ : ∃ w0, w0 = w.alloc (.cells (opC 11 x a n c pa pn pc) 33) := ⟨_, rfl⟩
  have hb0 : Below w.heap.size w w0 := hw0 ▸ below_box _ _
  have h0 := h.keep (Keeps.of_below (fun _ => False) hb0) (fun _ _ h => h)
  have hd := sectors_at h0
  have HF := Hid.mk (act_same h hb0)
  clear h h0
  go_enter Try.func17, Try.ntmps17
  go_wp2_with fail
  rw [← hw0]
  clear hw0
  refine hd.mono ?_
  rintro e w1 ⟨rfl, hw⟩
  have hw' := hw.symm
  subst hw'
  clear hd
  go_wp2
  go_end0
  exact ⟨rfl, HF.out⟩

set_option maxHeartbeats 2000000 in
set_option maxRecDepth 100000 in
theorem act_image (h : DiskAt w F p s S) (x : Int) (a : Option Addr) (n c : Nat) (pa : Option Addr) (pn pc : Nat) :
    Calls Try.prog 17 #[.pointer (some ⟨p, 0, none⟩), opV 9 x a n c pa pn pc] w fun e w' => e = .returned (.tuple #[]) ∧ DiskAt w' (more F w w') p s S ∧ Keeps F w w' := by
  obtain ⟨w0, hw0⟩ : ∃ w0, w0 = w.alloc (.cells (opC 9 x a n c pa pn pc) 33) := ⟨_, rfl⟩
  have hb0 : Below w.heap.size w w0 := hw0 ▸ below_box _ _
  have h0 := h.keep (Keeps.of_below (fun _ => False) hb0) (fun _ _ h => h)
  have hd := image_any _ _ _ _ _ h0
  have H := Hid.mk h
  clear h h0
  go_enter Try.func17, Try.ntmps17
  go_wp2_with fail
  rw [← hw0]
  clear hw0
  refine hd.mono ?_
  rintro e w1 ⟨g1, c1, rfl, _, _, hb1⟩
  have HF := Hid.mk (act_same H.out (hb0.trans (hb1.mono hb0.size)))
  clear hd H
  go_wp2
  go_end0
  exact ⟨rfl, HF.out⟩

set_option maxHeartbeats 2000000 in
set_option maxRecDepth 100000 in
theorem act_counts (h : DiskAt w F p s S) (hbig : S.puts.length + 1 ≤ 4000000000000) (x : Int) (a : Option Addr) (n c : Nat) (pa : Option Addr) (pn pc : Nat) :
    Calls Try.prog 17 #[.pointer (some ⟨p, 0, none⟩), opV 10 x a n c pa pn pc] w fun e w' => e = .returned (.tuple #[]) ∧ DiskAt w' (more F w w') p s S ∧ Keeps F w w' := by
  obtain ⟨w0, hw0⟩ : ∃ w0, w0 = w.alloc (.cells (opC 10 x a n c pa pn pc) 33) := ⟨_, rfl⟩
  have hb0 : Below w.heap.size w w0 := hw0 ▸ below_box _ _
  have h0 := h.keep (Keeps.of_below (fun _ => False) hb0) (fun _ _ h => h)
  have hd := counts_any _ _ _ _ _ h0 (by omega)
  have H := Hid.mk h
  clear h h0
  go_enter Try.func17, Try.ntmps17
  go_wp2_with fail
  rw [← hw0]
  clear hw0
  refine hd.mono ?_
  rintro e w1 ⟨rfl, hb1⟩
  have HF := Hid.mk (act_same H.out (hb0.trans (hb1.mono hb0.size)))
  clear hd H
  go_wp2
  go_end0
  exact ⟨rfl, HF.out⟩

set_option maxHeartbeats 2000000 in
set_option maxRecDepth 100000 in
theorem act_crash (h : DiskAt w F p s S) (hbig : S.puts.length + 1 ≤ 4000000000000) (x : Int) (a : Option Addr) (n c : Nat) (pa : Option Addr) (pn pc : Nat) (pl : List P3) (hp : PSrc w pa pn pl) (hpn : 24 * pn ≤ 140737488355328) :
    Calls Try.prog 17 #[.pointer (some ⟨p, 0, none⟩), opV 6 x a n c pa pn pc] w fun e w' => e = .returned (.tuple #[]) ∧ DiskAt w' (more F w w') p s (S.crash s pl) ∧ Keeps F w w' := by
  obtain ⟨w0, hw0⟩ : ∃ w0, w0 = w.alloc (.cells (opC 6 x a n c pa pn pc) 33) := ⟨_, rfl⟩
  have hb0 : Below w.heap.size w w0 := hw0 ▸ below_box _ _
  have h0 := h.keep (Keeps.of_below (fun _ => False) hb0) (fun _ _ h => h)
  have htw := twinp_any pa pn pc pl w0 hpn (hp.later hb0)
  have H := Hid.mk h0
  clear h h0 hp
  go_enter Try.func17, Try.ntmps17
  go_wp2_with fail
  rw [← hw0]
  clear hw0
  refine htw.mono ?_
  rintro e w1 ⟨g, rfl, hg, hps, hb1⟩
  have h1 := H.out.keep (Keeps.of_below (fun _ => False) hb1) (fun _ _ h => h)
  have hd := crash_ok sorts sortn h1 (by omega) (some ⟨g, 0, none⟩) pn pn pl hps (by omega) (fun x hx hf => by cases hx; have h9 : g < w0.heap.size := H.out.lt _ hf; omega)
  have hbw1 : Below w.heap.size w w1 := hb0.trans (hb1.mono hb0.size)
  clear htw hps hb1 h1 H hg hb0
  go_wp2_with fail
  refine hd.mono ?_
  rintro e w2 ⟨rfl, hd1, hk1⟩
  have HF := Hid.mk (act_fin hbw1 hd1.more hk1)
  clear hd hd1 hk1 hbw1
  go_wp2
  go_end0
  exact ⟨rfl, HF.out⟩

set_option maxHeartbeats 2000000 in
set_option maxRecDepth 100000 in
theorem act_write (h : DiskAt w F p s S) (hbig : S.puts.length + 1 ≤ 4000000000000) (x : Int) (a : Option Addr) (n c : Nat) (pa : Option Addr) (pn pc : Nat) (l : List Int) (hs : Src w a n l) (hn : n ≤ 140737488355328) :
    Calls Try.prog 17 #[.pointer (some ⟨p, 0, none⟩), opV 2 x a n c pa pn pc] w fun e w' => e = .returned (.tuple #[]) ∧ DiskAt w' (more F w w') p s (S.wr s x n l).2 ∧ Keeps F w w' := by
  obtain ⟨w0, hw0⟩ : ∃ w0, w0 = w.alloc (.cells (opC 2 x a n c pa pn pc) 33) := ⟨_, rfl⟩
  have hb0 : Below w.heap.size w w0 := hw0 ▸ below_box _ _
  have h0 := h.keep (Keeps.of_below (fun _ => False) hb0) (fun _ _ h => h)
  have htw : Calls Try.prog 12 #[.slice a n c] w0.drew fun e w' => ∃ v, e = .returned v ∧ TwA w0 n l v w' :=
    (twin_any a n c l w0.drew hn (show Src w0 a n l from hs.later hb0)).mono (by rintro e w' ⟨g, rfl, h1, h2, h3⟩; exact ⟨_, rfl, g, rfl, h1, h2, ⟨h3.os, h3.tape, h3.output, h3.size, h3.block⟩⟩)
  have hbx : w0.heap[w.heap.size]? = some (.cells (opC 2 x a n c pa pn pc) 33 (0, 0)) := hw0 ▸ heap_alloc_new _ _
  have c1 := cell_of_block hbx (j := 1) rfl
  have c2 := cell_of_block hbx (j := 2) rfl
  have hbl := (Array.getElem?_eq_some_iff.1 hbx).1
  have hl := hs.1
  have H := Hid.mk h0
  have Htw := Hid.mk htw
  have Hbx := Hid.mk hbx
  have Hb0 := Hid.mk hb0
  clear h h0 hs htw hbx hb0
  go_enter Try.func17, Try.ntmps17
  go_wp2_with fail
  rw [← hw0]
  clear hw0
  obtain ⟨q, hq⟩ : ∃ q, q = w.heap.size := ⟨_, rfl⟩
  rw [← hq] at c1 c2 hbl
  have Hbx' : Hid (w0.heap[q]? = some (.cells (opC 2 x a n c pa pn pc) 33 (0, 0))) := by rw [hq]; exact Hbx.out
  rw [← hq]
  clear Hbx hq
  go_region_law
    (first
      | (refine stepA_call (by rfl) 12 #[.slice a n c] (by simp [go_sem]) (TwA w0 n l) Htw.out ?_; rintro _ w1 ⟨g, rfl, hg, hr, hb1⟩; have h1 := H.out.keep (Keeps.of_below (fun _ => False) hb1) (fun _ _ h => h); have k1 := cell_of_block ((hb1.block q hbl).trans Hbx'.out) (j := 1) rfl)
      | (refine stepA_call (by rfl) 11 #[.pointer (some ⟨p, 0, none⟩), .int .i64 x, .slice (some ⟨g, 0, none⟩) n n] (by simp [go_sem]) (fun v w' => v = .int .i64 (S.wr s x n l).1 ∧ DiskAt w' (more F w1 w') p s (S.wr s x n l).2 ∧ Keeps F w1 w') ((write_all h1 x (some ⟨g, 0, none⟩) n n l (hl ▸ hr.src) hbig).mono (by rintro e w' ⟨rfl, h1, h2⟩; exact ⟨_, rfl, rfl, h1, h2⟩)) ?_; rintro _ w2 ⟨rfl, hd2, hk2⟩))
  all_goals
    have HF := Hid.mk (act_fin (Hb0.out.trans (hb1.mono Hb0.out.size)) hd2 hk2)
    clear hd2 hk2 h1 hr hb1 k1 hg H Htw c1 c2 Hbx' Hb0
    go_wp2
    go_end0
    exact ⟨rfl, HF.out⟩

set_option maxHeartbeats 2000000 in
theorem act_none (h : DiskAt w F p s S) (kind : Int) (hk : ¬ (kind = 1 ∨ kind = 2 ∨ kind = 3 ∨ kind = 4 ∨ kind = 5 ∨ kind = 6 ∨ kind = 7 ∨ kind = 8 ∨ kind = 9 ∨ kind = 10 ∨ kind = 11)) (x : Int) (a : Option Addr) (n c : Nat) (pa : Option Addr) (pn pc : Nat) :
    Calls Try.prog 17 #[.pointer (some ⟨p, 0, none⟩), opV kind x a n c pa pn pc] w fun e w' => e = .returned (.tuple #[]) ∧ DiskAt w' (more F w w') p s S ∧ Keeps F w w' := by
  have e1 : (kind == 1) = false := by rw [Bool.eq_false_iff, ne_eq, beq_iff_eq]; omega
  have e2 : (kind == 2) = false := by rw [Bool.eq_false_iff, ne_eq, beq_iff_eq]; omega
  have e3 : (kind == 3) = false := by rw [Bool.eq_false_iff, ne_eq, beq_iff_eq]; omega
  have e4 : (kind == 4) = false := by rw [Bool.eq_false_iff, ne_eq, beq_iff_eq]; omega
  have e5 : (kind == 5) = false := by rw [Bool.eq_false_iff, ne_eq, beq_iff_eq]; omega
  have e6 : (kind == 6) = false := by rw [Bool.eq_false_iff, ne_eq, beq_iff_eq]; omega
  have e7 : (kind == 7) = false := by rw [Bool.eq_false_iff, ne_eq, beq_iff_eq]; omega
  have e8 : (kind == 8) = false := by rw [Bool.eq_false_iff, ne_eq, beq_iff_eq]; omega
  have e9 : (kind == 9) = false := by rw [Bool.eq_false_iff, ne_eq, beq_iff_eq]; omega
  have e10 : (kind == 10) = false := by rw [Bool.eq_false_iff, ne_eq, beq_iff_eq]; omega
  have e11 : (kind == 11) = false := by rw [Bool.eq_false_iff, ne_eq, beq_iff_eq]; omega
  have HF := Hid.mk (act_same h (below_box w (.cells (opC kind x a n c pa pn pc) 33)))
  clear h hk
  go_enter Try.func17, Try.ntmps17
  go_wp2
  go_end0
  exact ⟨rfl, HF.out⟩

theorem act_any (h : DiskAt w F p s S) (hbig : S.puts.length + 1 ≤ 4000000000000) (kind x : Int) (a : Option Addr) (n c : Nat) (pa : Option Addr) (pn pc : Nat) (l : List Int) (pl : List P3) {B : Nat} (ho : OpOk w B x a n pa pn l pl) :
    Calls Try.prog 17 #[.pointer (some ⟨p, 0, none⟩), opV kind x a n c pa pn pc] w fun e w' => e = .returned (.tuple #[]) ∧ DiskAt w' (more F w w') p s (S.act s kind x n l pl) ∧ Keeps F w w' := by
  by_cases k1 : kind = 1
  · subst k1; exact act_read h hbig x a n c pa pn pc
  by_cases k2 : kind = 2
  · subst k2; exact act_write h hbig x a n c pa pn pc l ho.s ho.n
  by_cases k3 : kind = 3
  · subst k3; exact act_flush h hbig x a n c pa pn pc
  by_cases k4 : kind = 4
  · subst k4; exact act_fuse h x ho.x a n c pa pn pc
  by_cases k6 : kind = 6
  · subst k6; exact act_crash h hbig x a n c pa pn pc pl ho.p ho.pn
  by_cases k7 : kind = 7
  · subst k7; exact act_take h x a n c pa pn pc
  have e : S.act s kind x n l pl = S := by simp only [DS.act, k1, k2, k3, k4, k6, k7, if_false]
  rw [e]
  by_cases k5 : kind = 5
  · subst k5; exact act_burnt h x a n c pa pn pc
  by_cases k8 : kind = 8
  · subst k8; exact act_life h x a n c pa pn pc
  by_cases k9 : kind = 9
  · subst k9; exact act_image h x a n c pa pn pc
  by_cases k10 : kind = 10
  · subst k10; exact act_counts h hbig x a n c pa pn pc
  by_cases k11 : kind = 11
  · subst k11; exact act_sectors h x a n c pa pn pc
  exact act_none h kind (by omega) x a n c pa pn pc

end
end Go.Proofs.Ytkgnkdnipcacgaa
end

section
namespace Go.Proofs.Ytkgnkdnipcacgaa
open Go.RowKit Go.Maps

/-- What open leaves. -/
def OpenOut (w w' : World) (d : Value) : Prop := Below w.heap.size w w' ∧ (d = .pointer none ∨ ∃ F p s S, d = .pointer (some ⟨p, 0, none⟩) ∧ DiskAt w' F p s S ∧ S.puts.length = 0 ∧ S.fuse = -1 ∧ ∀ k, F k → w.heap.size ≤ k)

set_option maxHeartbeats 2000000 in
theorem open_bad (sec : Int) (a : Option Addr) (n c : Nat) (l : List Int) (w : World) (hs : Src w a n l) (hn : n ≤ 140737488355328) (h : n % 512 ≠ 0) :
    Calls Try.prog 7 #[.int .i64 sec, .slice a n c] w fun e w' => ∃ d, e = .returned (.tuple #[d, .bool true]) ∧ OpenOut w w' d := by
  have h0 : (0 : Int) < (n : Int) := by omega
  have h' : (((n : Int) % 512) != 0) = true := by rw [bne_iff_ne]; omega
  have ht := twin_any a n c l w hn hs
  clear hs
  go_enter Try.func7, Try.ntmps7
  go_wp2_with fail
  refine ht.mono ?_
  rintro e w1 ⟨g, rfl, hg, hr, hb1⟩
  have hl := load_bad (some ⟨g, 0, none⟩) n n w1 h hn
  clear hr ht
  go_wp2_with fail
  refine hl.mono ?_
  rintro e w2 ⟨rfl, hw⟩
  have hw' := hw.symm
  subst hw'
  clear hl
  go_wp2
  go_ret2
  exact ⟨_, rfl, hb1, .inl rfl⟩

set_option maxHeartbeats 2000000 in
theorem open_no (sec : Int) (a : Option Addr) (n c : Nat) (l : List Int) (w : World) (hs : Src w a n l) (hn : n ≤ 140737488355328) (h : n % 512 = 0) (h1 : 1048576 < n) :
    Calls Try.prog 7 #[.int .i64 sec, .slice a n c] w fun e w' => ∃ d, e = .returned (.tuple #[d, .bool true]) ∧ OpenOut w w' d := by
  have h0 : (0 : Int) < (n : Int) := by omega
  have h' : (((n : Int) % 512) != 0) = false := by rw [Bool.eq_false_iff, ne_eq, bne_iff_ne]; omega
  obtain ⟨q, hq⟩ : ∃ q : Nat, ((n : Int) / 512) = (q : Int) := ⟨n / 512, by omega⟩
  have hwq : wrap64 (q : Int) = (q : Int) := by unfold wrap64; omega
  have h2 : 2048 < (q : Int) := by omega
  have ht := twin_any a n c l w hn hs
  clear hs
  go_enter Try.func7, Try.ntmps7
  go_wp2_with fail
  refine ht.mono ?_
  rintro e w1 ⟨g, rfl, hg, hr, hb1⟩
  have hl := load_no (some ⟨g, 0, none⟩) n n w1 h (.inr h1) hn
  clear hr ht
  go_wp2_with fail
  refine hl.mono ?_
  rintro e w2 ⟨rfl, hw⟩
  have hw' := hw.symm
  subst hw'
  clear hl
  go_wp2
  go_ret2
  exact ⟨_, rfl, hb1, .inl rfl⟩

set_option maxHeartbeats 2000000 in
theorem open_load (sec : Int) (a : Option Addr) (n c s : Nat) (l : List Int) (w : World) (hs : Src w a n l) (h : n = s * 512) (h1 : 1 ≤ s) (h2 : s ≤ 2048) :
    Calls Try.prog 7 #[.int .i64 sec, .slice a n c] w fun e w' => ∃ d, e = .returned (.tuple #[d, .bool true]) ∧ OpenOut w w' d := by
  have h0 : (0 : Int) < (n : Int) := by omega
  have h' : (((n : Int) % 512) != 0) = false := by rw [Bool.eq_false_iff, ne_eq, bne_iff_ne]; omega
  have hq : ((n : Int) / 512) = (s : Int) := by omega
  have h2' : ¬ 2048 < (s : Int) := by omega
  have hll := hs.1
  have ht := twin_any a n c l w (by omega) hs
  have Hn := Hid.mk h
  have hno : n ≤ 1048576 := by omega
  clear hs h
  go_enter Try.func7, Try.ntmps7
  go_wp2_with fail
  refine ht.mono ?_
  rintro e w1 ⟨g, rfl, hg, hr, hb1⟩
  have hl := load_ok ⟨g, 0, none⟩ n n s l w1 Hn.out h1 h2 hll (fun i hi => hr.byte (by omega))
  clear hr ht
  go_wp2_with fail
  refine hl.mono ?_
  rintro e w2 ⟨p, rfl, hd, hb2⟩
  have hbw2 : Below w.heap.size w w2 := hb1.trans (hb2.mono hb1.size)
  have hsz := hb1.size
  have HF : Hid (OpenOut w w2 (.pointer (some ⟨p, 0, none⟩))) := ⟨hbw2, .inr ⟨_, p, s, _, rfl, hd, rfl, rfl, fun k hk => by have := hk.1; omega⟩⟩
  clear hl hd hbw2 hb2 hb1
  go_wp2
  go_ret2
  exact ⟨_, rfl, HF.out⟩

set_option maxHeartbeats 2000000 in
theorem open_out (sec : Int) (a : Option Addr) (c : Nat) (w : World) (h : sec < 1 ∨ 2048 < sec) :
    Calls Try.prog 7 #[.int .i64 sec, .slice a 0 c] w fun e w' => ∃ d, e = .returned (.tuple #[d, .bool true]) ∧ OpenOut w w' d := by
  have hl := new_no sec w h
  rcases h with h | h
  · go_enter Try.func7, Try.ntmps7
    go_wp2_with fail
    refine hl.mono ?_
    rintro e w2 ⟨rfl, hw⟩
    have hw' := hw.symm
    subst hw'
    clear hl
    go_wp2
    go_ret2
    exact ⟨_, rfl, Below.refl _ _, .inl rfl⟩
  · have h' : ¬ sec < 1 := by omega
    go_enter Try.func7, Try.ntmps7
    go_wp2_with fail
    refine hl.mono ?_
    rintro e w2 ⟨rfl, hw⟩
    have hw' := hw.symm
    subst hw'
    clear hl
    go_wp2
    go_ret2
    exact ⟨_, rfl, Below.refl _ _, .inl rfl⟩

set_option maxHeartbeats 2000000 in
theorem open_new (s : Nat) (a : Option Addr) (c : Nat) (w : World) (h1 : 1 ≤ s) (h2 : s ≤ 2048) :
    Calls Try.prog 7 #[.int .i64 (s : Int), .slice a 0 c] w fun e w' => ∃ p, e = .returned (.tuple #[.pointer (some ⟨p, 0, none⟩), .bool true]) ∧ DiskAt w' (fun k => w.heap.size ≤ k ∧ k < w'.heap.size) p s (DS.fresh (List.replicate (s * 512) 0)) ∧ Below w.heap.size w w' := by
  have hl := new_ok s w h1 h2
  have h1' : ¬ (s : Int) < 1 := by omega
  have h2' : ¬ 2048 < (s : Int) := by omega
  go_enter Try.func7, Try.ntmps7
  go_wp2_with fail
  refine hl.mono ?_
  rintro e w2 ⟨p, rfl, hd, hb2⟩
  have HF := Hid.mk (And.intro hd hb2)
  clear hl hd hb2
  go_wp2
  go_ret2
  exact ⟨_, rfl, HF.out⟩

theorem open_any (sec : Int) (a : Option Addr) (n c : Nat) (l : List Int) (w : World) (hs : Src w a n l) (hn : n ≤ 140737488355328) :
    Calls Try.prog 7 #[.int .i64 sec, .slice a n c] w fun e w' => ∃ d, e = .returned (.tuple #[d, .bool true]) ∧ OpenOut w w' d := by
  by_cases h0 : n = 0
  · subst h0
    by_cases h : sec < 1 ∨ 2048 < sec
    · exact open_out sec a c w h
    · obtain ⟨s, rfl⟩ : ∃ s : Nat, sec = (s : Int) := ⟨sec.toNat, by omega⟩
      refine (open_new s a c w (by omega) (by omega)).mono ?_
      rintro e w' ⟨p, rfl, hd, hb⟩
      exact ⟨_, rfl, hb, .inr ⟨_, p, s, _, rfl, hd, rfl, rfl, fun k hk => hk.1⟩⟩
  · by_cases h : n % 512 = 0
    · by_cases h1 : 1048576 < n
      · exact open_no sec a n c l w hs hn h h1
      · exact open_load sec a n c (n / 512) l w hs (by omega) (by omega) (by omega)
    · exact open_bad sec a n c l w hs hn h
end Go.Proofs.Ytkgnkdnipcacgaa
end
