import Derived.Test.YthdgndbmecnimaaW03
import Derived.Shelf.Lays
import Derived.Test.YthdgndbmecnimaaProg
import Derived.Shelf.Sort.AssemblyIn
import Derived.Sort.EveryDepth
import Derived.Sort.OwnSortedInts
import Derived.ProofKit
import Derived.OpenShut
import Derived.ShutString
import Derived.ChangeOld
import Derived.SizedLaws
import Derived.Deep.Slices
section
namespace Go.Proofs
open Go.Shelf
def Try.lays189_ren : Go.Shelf.Ren := ⟨fun | 189 => 66 | 125 => 82 | 257 => 81 | 128 => 102 | 129 => 103 | 294 => 93 | 295 => 94 | 296 => 95 | 297 => 96 | 298 => 97 | 299 => 98 | 216 => 99 | 300 => 100 | 301 => 101 | 328 => 107 | 329 => 108 | 330 => 109 | 331 => 110 | 332 => 111 | 215 => 112 | 343 => 116 | n => n, fun | 28 => 84 | 3 => 3 | 46 => 110 | 0 => 0 | 51 => 153 | 53 => 138 | 4 => 4 | 183 => 145 | 182 => 144 | 131 => 150 | 5 => 5 | 9 => 9 | 218 => 160 | 222 => 164 | 228 => 170 | 229 => 171 | n => n, fun | n => n⟩
theorem Try.lays189 : Go.Proofs.Lays.n189 Try.prog Try.lays189_ren := {
  mixed := by kernel_rfl
  f125 := Try.func82.trans (congrArg some (by kernel_rfl))
  f128 := Try.func102.trans (congrArg some (by kernel_rfl))
  f129 := Try.func103.trans (congrArg some (by kernel_rfl))
  f189 := Try.func66.trans (congrArg some (by kernel_rfl))
  f215 := Try.func112.trans (congrArg some (by kernel_rfl))
  f216 := Try.func99.trans (congrArg some (by kernel_rfl))
  f257 := Try.func81.trans (congrArg some (by kernel_rfl))
  f294 := Try.func93.trans (congrArg some (by kernel_rfl))
  f295 := Try.func94.trans (congrArg some (by kernel_rfl))
  f296 := Try.func95.trans (congrArg some (by kernel_rfl))
  f297 := Try.func96.trans (congrArg some (by kernel_rfl))
  f298 := Try.func97.trans (congrArg some (by kernel_rfl))
  f299 := Try.func98.trans (congrArg some (by kernel_rfl))
  f300 := Try.func100.trans (congrArg some (by kernel_rfl))
  f301 := Try.func101.trans (congrArg some (by kernel_rfl))
  f328 := Try.func107.trans (congrArg some (by kernel_rfl))
  f329 := Try.func108.trans (congrArg some (by kernel_rfl))
  f330 := Try.func109.trans (congrArg some (by kernel_rfl))
  f331 := Try.func110.trans (congrArg some (by kernel_rfl))
  f332 := Try.func111.trans (congrArg some (by kernel_rfl))
  f343 := Try.func116.trans (congrArg some (by kernel_rfl))
  t0 := Try.underlying0
  a0 := Try.isAgg0
  z0 := Try.sizeOf0
  v0 := Try.zeroValue0
  t3 := Try.underlying3
  a3 := Try.isAgg3
  z3 := Try.sizeOf3
  v3 := Try.zeroValue3
  t4 := Try.underlying4
  a4 := Try.isAgg4
  z4 := Try.sizeOf4
  v4 := Try.zeroValue4
  t5 := Try.underlying5
  a5 := Try.isAgg5
  z5 := Try.sizeOf5
  v5 := Try.zeroValue5
  t9 := Try.underlying9
  a9 := Try.isAgg9
  z9 := Try.sizeOf9
  v9 := Try.zeroValue9
  t28 := Try.underlying84
  a28 := Try.isAgg84
  z28 := Try.sizeOf84
  v28 := Try.zeroValue84
  t46 := Try.underlying110
  a46 := Try.isAgg110
  z46 := Try.sizeOf110
  v46 := Try.zeroValue110
  t51 := Try.underlying153
  a51 := Try.isAgg153
  z51 := Try.sizeOf153
  v51 := Try.zeroValue153
  t53 := Try.underlying138
  a53 := Try.isAgg138
  z53 := Try.sizeOf138
  v53 := Try.zeroValue138
  t131 := Try.underlying150
  a131 := Try.isAgg150
  z131 := Try.sizeOf150
  v131 := Try.zeroValue150
  t182 := Try.underlying144
  a182 := Try.isAgg144
  z182 := Try.sizeOf144
  v182 := Try.zeroValue144
  t183 := Try.underlying145
  a183 := Try.isAgg145
  z183 := Try.sizeOf145
  v183 := Try.zeroValue145
  t218 := Try.underlying160
  a218 := Try.isAgg160
  z218 := Try.sizeOf160
  v218 := Try.zeroValue160
  t222 := Try.underlying164
  a222 := Try.isAgg164
  z222 := Try.sizeOf164
  v222 := Try.zeroValue164
  t228 := Try.underlying170
  a228 := Try.isAgg170
  z228 := Try.sizeOf170
  v228 := Try.zeroValue170
  t229 := Try.underlying171
  a229 := Try.isAgg171
  z229 := Try.sizeOf171
  v229 := Try.zeroValue171 }
end Go.Proofs
end

section
namespace Go.Proofs.Ythdgndbmecnimaa
open Go.RowKit Go.Maps Go.Shelf Go.Sort

theorem sorts : SortSaid := by
  intro g cap zs w hr hsz
  have hle := hr.le
  have hr0 := hr
  obtain ⟨cur, hb, hc, ht, hm⟩ := hr0
  have hlz : (zs.map (Value.int .i64)).length = zs.length := by simp
  rw [hlz] at hle ht
  have hH : Holds (Value.int .i64) w g 0 zs.toArray := holds_of_blockI hb ht
  refine (calls_of_every_depth fun D => AnyS.slices_Sort_int_in Try.lays189 D g 0 cap zs w hH hr.lt hsz).mono ?_
  rintro e w' ⟨rfl, n, os, rfl⟩
  have hl : (zs.mergeSort fun x y => decide (x ≤ y)).length = zs.length := List.length_mergeSort _
  have hg := grownBy_sortedI (w := w) (g := g) (n := n) (os := os) (zs.mergeSort fun x y => decide (x ≤ y)).toArray
  refine ⟨rfl, ⟨_, heap_sortedI _ hb, by simp [putCells, hc], ?_, hm⟩, ⟨hg.os, hg.tape, hg.output, hg.size, fun k hk hne => hg.block k hk (by simpa using hne)⟩⟩
  rw [List.length_map]
  exact take_putCellsI cur _ (by omega)

theorem ins_nil (w : World) : Calls Try.prog 93 #[.slice none 0 0, .int .i64 0, .int .i64 0] w fun e w' => e = .returned (.tuple #[]) ∧ w' = w := by
  go_enter Try.func93, Try.ntmps93
  go_wp2
  refine wp_loop_rounds 1 ?_
  rw [rounds_succ]
  go_wp2
  go_end0
  exact ⟨rfl, rfl⟩

theorem pdq_nil (n : Int) (w : World) : Calls Try.prog 81 #[.slice none 0 0, .int .i64 0, .int .i64 0, .int .i64 n] w fun e w' => e = .returned (.tuple #[]) ∧ w' = w := by
  go_enter Try.func81, Try.ntmps81
  go_wp2
  refine wp_loop_rounds 1 ?_
  rw [rounds_succ]
  go_wp2_with (go_at_call 93; refine (ins_nil _).mono ?_; rintro e w' ⟨rfl, rfl⟩)
  exact bodyPost_ret (results_none rfl _ _ _) rfl ⟨rfl, rfl⟩

theorem sortn : SortNil := by
  intro w
  go_enter Try.func66, Try.ntmps66
  go_wp2_with (first | (go_at_call 81; refine (pdq_nil _ _).mono ?_; rintro e w' ⟨rfl, rfl⟩) | go_in)
  go_end0
  exact ⟨rfl, RowKit.Below.refl _ _⟩
end Go.Proofs.Ythdgndbmecnimaa
end

section
namespace Go.Proofs.Ythdgndbmecnimaa
open Go.RowKit Go.Maps

def DS.wr (S : DS) (s : Nat) (x : Int) (n : Nat) (l : List Int) : Int × DS :=
  if S.fuse = 0 then (3, S) else if x < 0 ∨ (s : Int) ≤ x then (11, S.refuse) else if n ≠ 512 then (2, S.refuse) else (0, (S.put x.toNat l).wrote.spend)
def DS.rd (S : DS) (s : Nat) (x : Int) : Int × DS × List Int :=
  if S.fuse = 0 then (3, S, []) else if x < 0 ∨ (s : Int) ≤ x then (11, S.refuse, []) else (0, S.read, S.now x.toNat)
def DS.fl (S : DS) (s : Nat) : Int × DS := if S.fuse = 0 then (3, S) else (0, (S.flush s).spend)

theorem DiskAt.more {w w' : World} {F : Nat → Prop} {p s : Nat} {S : DS} (h : DiskAt w' F p s S) : DiskAt w' (more F w w') p s S :=
  h.mono (fun _ hk => .inl hk) (fun k hk => by rcases hk with hk | hk; exact h.lt k hk; exact hk.2)

theorem write_all {w : World} {F : Nat → Prop} {p s : Nat} {S : DS} (h : DiskAt w F p s S) (x : Int) (a : Option Addr) (n c : Nat) (l : List Int) (hs : Src w a n l) (hbig : S.puts.length + 1 ≤ 4000000000000) :
    Calls Try.prog 57 #[.pointer (some ⟨p, 0, none⟩), .int .i64 x, .slice a n c] w fun e w' => e = .returned (.int .i64 (S.wr s x n l).1) ∧ DiskAt w' (more F w w') p s (S.wr s x n l).2 ∧ Keeps F w w' := by
  by_cases hf : S.fuse = 0
  · simp only [DS.wr, hf, if_true]
    refine (write_dead h x a n c hf).mono ?_
    rintro e w' ⟨rfl, rfl⟩
    exact ⟨rfl, h.more, Keeps.refl _ _⟩
  · by_cases hx : x < 0 ∨ (s : Int) ≤ x
    · simp only [DS.wr, hf, if_false, hx, if_true]
      refine (write_range h x a n c hf hx).mono ?_
      rintro e w' ⟨rfl, h1, h2⟩
      exact ⟨rfl, h1.more, h2⟩
    · obtain ⟨k, rfl⟩ : ∃ k : Nat, x = (k : Int) := ⟨x.toNat, by omega⟩
      have hk : k < s := by omega
      by_cases hn : n = 512
      · subst hn
        simp only [DS.wr, hf, if_false, hx, ne_eq, not_true_eq_false, Int.toNat_natCast]
        obtain ⟨y, rfl⟩ : ∃ y, a = some y := by
          cases a with
          | none => have := hs.2.1 rfl; omega
          | some y => exact ⟨y, rfl⟩
        exact write_ok h k hk hf (by omega) y c l hs
      · simp only [DS.wr, hf, if_false, hx, ne_eq, hn, not_false_eq_true, if_true]
        refine (write_length h k a n c hf hk hn).mono ?_
        rintro e w' ⟨rfl, h1, h2⟩
        exact ⟨rfl, h1.more, h2⟩

/-- What a Read hands out. -/
def Out (lo : Nat) (w : World) (l : List Int) (v : Value) : Prop := ∃ a c, v = .slice a l.length c ∧ Src w a l.length l ∧ ∀ x, a = some x → lo ≤ x.block

theorem Out.nil (lo : Nat) (w : World) : Out lo w [] (.slice none 0 0) := ⟨none, 0, rfl, ⟨rfl, fun _ => rfl, fun x hx => by cases hx⟩, fun x hx => by cases hx⟩
theorem Out.row {lo : Nat} {w : World} {g c : Nat} {l : List Int} (h : RowAt w 5 g c (bs l)) (hg : lo ≤ g) : Out lo w l (.slice (some ⟨g, 0, none⟩) l.length c) := ⟨_, c, rfl, h.src, fun x hx => by cases hx; exact hg⟩

theorem read_all {w : World} {F : Nat → Prop} {p s : Nat} {S : DS} (h : DiskAt w F p s S) (x : Int) (hbig : S.puts.length + 1 ≤ 4000000000000) :
    Calls Try.prog 54 #[.pointer (some ⟨p, 0, none⟩), .int .i64 x] w fun e w' => ∃ v, e = .returned (.tuple #[v, .int .i64 (S.rd s x).1]) ∧ Out w.heap.size w' (S.rd s x).2.2 v ∧ DiskAt w' F p s (S.rd s x).2.1 ∧ Keeps F w w' := by
  by_cases hf : S.fuse = 0
  · simp only [DS.rd, hf, if_true]
    refine (read_dead h x hf).mono ?_
    rintro e w' ⟨rfl, rfl⟩
    exact ⟨_, rfl, Out.nil _ _, h, Keeps.refl _ _⟩
  · by_cases hx : x < 0 ∨ (s : Int) ≤ x
    · simp only [DS.rd, hf, if_false, hx, if_true]
      refine (read_range h x hf hx).mono ?_
      rintro e w' ⟨rfl, h1, h2⟩
      exact ⟨_, rfl, Out.nil _ _, h1, h2⟩
    · obtain ⟨k, rfl⟩ : ∃ k : Nat, x = (k : Int) := ⟨x.toNat, by omega⟩
      have hk : k < s := by omega
      simp only [DS.rd, hf, if_false, hx, Int.toNat_natCast]
      refine (read_ok h k hf hk (by omega)).mono ?_
      rintro e w' ⟨g, c, rfl, hg, hr, h1, h2⟩
      have := Out.row hr hg
      rw [now_len h.ok k hk] at this
      exact ⟨_, rfl, this, h1, h2⟩

theorem flush_all {w : World} {F : Nat → Prop} {p s : Nat} {S : DS} (h : DiskAt w F p s S) (hbig : S.puts.length + 1 ≤ 4000000000000) :
    Calls Try.prog 39 #[.pointer (some ⟨p, 0, none⟩)] w fun e w' => e = .returned (.int .i64 (S.fl s).1) ∧ DiskAt w' F p s (S.fl s).2 ∧ Keeps F w w' := by
  by_cases hf : S.fuse = 0
  · simp only [DS.fl, hf, if_true]
    refine (flush_dead h hf).mono ?_
    rintro e w' ⟨rfl, rfl⟩
    exact ⟨rfl, h, Keeps.refl _ _⟩
  · simp only [DS.fl, hf, if_false]
    exact flush_ok h hf (by omega)

theorem Src.far {w w' : World} {B : Nat} {a : Option Addr} {n : Nat} {l : List Int} (h : Src w a n l) (hb : Below B w w') (ha : ∀ x, a = some x → 0 < n → x.block < B) : Src w' a n l :=
  ⟨h.1, h.2.1, fun x hx i hi => (World.cell?_of_block (w := w) (by rw [blockOf_add]; exact hb.block _ (ha x hx (by omega)))).trans (h.2.2 x hx i hi)⟩
theorem PSrc.far {w w' : World} {B : Nat} {a : Option Addr} {n : Nat} {l : List P3} (h : PSrc w a n l) (hb : Below B w w') (ha : ∀ x, a = some x → 0 < n → x.block < B) : PSrc w' a n l := by
  refine ⟨h.1, h.2.1, fun x hx i hi => ?_, h.2.2.2⟩
  obtain ⟨b, o, rfl, h1, h2, h3⟩ := h.2.2.1 x hx i hi
  have e := hb.block b (ha _ hx (by have := h.1; omega))
  exact ⟨b, o, rfl, (World.cell?_of_block (w := w) (a := ⟨b, _, none⟩) e).trans h1, (World.cell?_of_block (w := w) (a := ⟨b, _, none⟩) e).trans h2, (World.cell?_of_block (w := w) (a := ⟨b, _, none⟩) e).trans h3⟩
theorem Out.keeps {lo : Nat} {w w' : World} {l : List Int} {v : Value} {F : Nat → Prop} (h : Out lo w l v) (hk : Keeps F w w') (hF : ∀ k, F k → k < lo) : Out lo w' l v := by
  obtain ⟨a, c, rfl, hs, hl⟩ := h
  refine ⟨a, c, rfl, ⟨hs.1, hs.2.1, fun x hx i hi => ?_⟩, hl⟩
  have h1 := hs.2.2 x hx i hi
  have hb := World.block_lt_of_cell? _ _ h1
  rw [blockOf_add] at hb
  exact (World.cell?_of_block (w := w) (by rw [blockOf_add]; exact hk.block _ hb (fun hf => by have := hF _ hf; have := hl x hx; omega))).trans h1
theorem same_out {lo lo' : Nat} {w : World} {l : List Int} {v v' : Value} (h : Out lo w l v) (h' : Out lo' w l v') (hn : l.length ≤ 140737488355328) :
    Calls Try.prog 10 #[v, v'] w fun e w' => e = .returned (.bool true) ∧ Below w.heap.size w w' := by
  obtain ⟨a, c, rfl, hs, _⟩ := h
  obtain ⟨a', c', rfl, hs', _⟩ := h'
  exact same_any a a' _ c c' l w hn hs hs'
theorem rd_len {S : DS} {s : Nat} (h : S.Ok s) (x : Int) : (S.rd s x).2.2.length ≤ 512 := by
  unfold DS.rd
  split
  · simp
  · split
    · simp
    · rename_i h1 h2
      show (S.now x.toNat).length ≤ 512
      rw [now_len h x.toNat (by omega)]
      exact Nat.le_refl _
theorem wr_puts (S : DS) (s : Nat) (x : Int) (n : Nat) (l : List Int) : (S.wr s x n l).2.puts.length ≤ S.puts.length + 1 := by
  unfold DS.wr
  split
  · simp
  · split
    · simp [DS.refuse]
    · split
      · simp [DS.refuse]
      · simp [DS.put, DS.wrote, DS.spend]
theorem rd_puts (S : DS) (s : Nat) (x : Int) : (S.rd s x).2.1.puts.length ≤ S.puts.length + 1 := by
  unfold DS.rd
  split
  · simp
  · split
    · simp [DS.refuse]
    · simp [DS.read]
theorem fl_puts (S : DS) (s : Nat) : (S.fl s).2.puts.length ≤ S.puts.length + 1 := by
  unfold DS.fl
  split
  · simp
  · simp [DS.flush, DS.spend]
theorem lay_puts (S : DS) (x : Int) : (S.lay x).puts.length ≤ S.puts.length + 1 := by
  unfold DS.lay
  split <;> simp

abbrev opV (kind x : Int) (a : Option Addr) (n c : Nat) (pa : Option Addr) (pn pc : Nat) : Value := .agg #[.int .i64 kind, .int .i64 x, .slice a n c, .slice pa pn pc]
abbrev opC (kind x : Int) (a : Option Addr) (n c : Nat) (pa : Option Addr) (pn pc : Nat) : Array Value := #[.int .i64 kind, .int .i64 x, .slice a n c, .slice pa pn pc]

theorem below_box (w : World) (o : Obj) : Below w.heap.size w (w.alloc o) := (Below.refl _ _).alloc (Nat.le_refl _) _

/-- What is told of an operation of the script: the lists that it holds lie below B. -/
structure OpOk (w : World) (B : Nat) (x : Int) (a : Option Addr) (n : Nat) (pa : Option Addr) (pn : Nat) (l : List Int) (pl : List P3) : Prop where
  x : x ≤ 9223372036854775807
  s : Src w a n l
  sB : ∀ x, a = some x → 0 < n → x.block < B
  n : n ≤ 140737488355328
  p : PSrc w pa pn pl
  pB : ∀ x, pa = some x → 0 < pn → x.block < B
  pn : 24 * pn ≤ 140737488355328

theorem OpOk.far {w w' : World} {B : Nat} {x : Int} {a : Option Addr} {n : Nat} {pa : Option Addr} {pn : Nat} {l : List Int} {pl : List P3} (h : OpOk w B x a n pa pn l pl) (hb : Below B w w') : OpOk w' B x a n pa pn l pl :=
  ⟨h.x, h.s.far hb h.sB, h.sB, h.n, h.p.far hb h.pB, h.pB, h.pn⟩

/-- What is told of a script: its operations lie below B, and so do their lists. -/
def Script (w : World) (B : Nat) (sa : Option Addr) (n : Nat) : Prop :=
  (sa = none → n = 0) ∧ ∀ y, sa = some y → ∀ i, i < n → ∃ b o, y = ⟨b, o, none⟩ ∧ b < B ∧ ∃ kind x a m c pa pn pc l pl,
    w.cell? ⟨b, o + i * 4, none⟩ = some (.int .i64 kind) ∧ w.cell? ⟨b, o + i * 4 + 1, none⟩ = some (.int .i64 x) ∧ w.cell? ⟨b, o + i * 4 + 2, none⟩ = some (.slice a m c) ∧ w.cell? ⟨b, o + i * 4 + 3, none⟩ = some (.slice pa pn pc) ∧ OpOk w B x a m pa pn l pl

theorem Script.far {w w' : World} {B : Nat} {sa : Option Addr} {n : Nat} (h : Script w B sa n) (hb : Below B w w') : Script w' B sa n := by
  refine ⟨h.1, fun y hy i hi => ?_⟩
  obtain ⟨b, o, rfl, hbB, kind, x, a, m, c, pa, pn, pc, l, pl, c0, c1, c2, c3, ho⟩ := h.2 y hy i hi
  have e := hb.block b hbB
  exact ⟨b, o, rfl, hbB, kind, x, a, m, c, pa, pn, pc, l, pl, (World.cell?_of_block (w := w) (a := ⟨b, _, none⟩) e).trans c0, (World.cell?_of_block (w := w) (a := ⟨b, _, none⟩) e).trans c1, (World.cell?_of_block (w := w) (a := ⟨b, _, none⟩) e).trans c2, (World.cell?_of_block (w := w) (a := ⟨b, _, none⟩) e).trans c3, ho.far hb⟩
end Go.Proofs.Ythdgndbmecnimaa
end

section
namespace Go.Proofs.Ythdgndbmecnimaa

/-- What the checksum of a sealed sector goes over. -/
def stext (body : List Int) : List Int := ((body.length % 256 : Nat) : Int) :: ((body.length / 256 : Nat) : Int) :: (body ++ List.replicate (504 - body.length) 0)
/-- The sealed sector with that turn and body. -/
def sform (t : Int) (body : List Int) : List Int :=
  t :: ((body.length % 256 : Nat) : Int) :: ((body.length / 256 : Nat) : Int) :: (bytes4 (sumOf (stext body)) ++ (body ++ (List.replicate (504 - body.length) 0 ++ [t])))
/-- The turn of what is written over a sector with these ends. -/
def turnOf (a b : Int) : Nat := if a ≠ 0 ∧ b ≠ 0 then 0 else if a ≠ 1 ∧ b ≠ 1 then 1 else 2

theorem turnOf_le (a b : Int) : turnOf a b ≤ 2 := by unfold turnOf; split <;> (try split) <;> omega
theorem turnOf_ne (a b : Int) : ((turnOf a b : Nat) : Int) ≠ a ∧ ((turnOf a b : Nat) : Int) ≠ b := by
  unfold turnOf
  by_cases h : a ≠ 0 ∧ b ≠ 0
  · rw [if_pos h]; omega
  · rw [if_neg h]
    by_cases h1 : a ≠ 1 ∧ b ≠ 1
    · rw [if_pos h1]; omega
    · rw [if_neg h1]; omega

theorem bytes4_len (s : Nat) : (bytes4 s).length = 4 := rfl
theorem bytes4_bytes (s : Nat) : Bytes (bytes4 s) := by
  intro x hx
  simp only [bytes4, List.mem_cons, List.not_mem_nil, or_false] at hx
  omega
theorem stext_len {body : List Int} (h : body.length ≤ 504) : (stext body).length = 506 := by simp [stext]; omega
theorem sform_len {t : Int} {body : List Int} (h : body.length ≤ 504) : (sform t body).length = 512 := by simp [sform, bytes4_len]; omega
theorem Bytes.append {a b : List Int} (ha : Bytes a) (hb : Bytes b) : Bytes (a ++ b) := fun x hx => (List.mem_append.1 hx).elim (ha x) (hb x)
theorem Bytes.cons {a : Int} {b : List Int} (ha : 0 ≤ a ∧ a < 256) (hb : Bytes b) : Bytes (a :: b) := fun x hx => (List.mem_cons.1 hx).elim (fun h => h ▸ ha) (hb x)
theorem Bytes.nil : Bytes [] := fun _ hx => by cases hx
theorem Bytes.zeros (n : Nat) : Bytes (List.replicate n 0) := fun x hx => by rw [List.eq_of_mem_replicate hx]; omega
theorem Bytes.take {l : List Int} (h : Bytes l) (n : Nat) : Bytes (l.take n) := fun x hx => h x (List.mem_of_mem_take hx)
theorem Bytes.drop {l : List Int} (h : Bytes l) (n : Nat) : Bytes (l.drop n) := fun x hx => h x (List.mem_of_mem_drop hx)
theorem Bytes.getD {l : List Int} (h : Bytes l) (i : Nat) : 0 ≤ l.getD i 0 ∧ l.getD i 0 < 256 := by
  by_cases hi : i < l.length
  · have := h l[i] (List.getElem_mem hi)
    simpa [List.getD, hi] using this
  · simp [List.getD, List.getElem?_eq_none (Nat.le_of_not_lt hi)]
theorem stext_bytes {body : List Int} (h : Bytes body) (hl : body.length ≤ 504) : Bytes (stext body) :=
  .cons (by omega) (.cons (by omega) (h.append (.zeros _)))
theorem sform_bytes {t : Int} {body : List Int} (h : Bytes body) (hl : body.length ≤ 504) (ht : 0 ≤ t ∧ t < 256) : Bytes (sform t body) :=
  .cons ht (.cons (by omega) (.cons (by omega) ((bytes4_bytes _).append (h.append ((Bytes.zeros _).append (.cons ht .nil))))))

/-- The length that a sector tells. -/
def slen (s : List Int) : Nat := (s.getD 1 0 + 256 * s.getD 2 0).toNat
/-- Its body. -/
def sbody (s : List Int) : List Int := (s.drop 7).take (slen s)
/-- What Open tells. -/
def sopen (s : List Int) : Option (List Int) := if slen s ≤ 504 ∧ s.getD 0 0 ≤ 2 ∧ sform (s.getD 0 0) (sbody s) = s then some (sbody s) else none

theorem slen_form (t : Int) (body : List Int) (h : body.length ≤ 504) : slen (sform t body) = body.length := by
  simp [slen, sform, List.getD]; omega
theorem sform_drop (t : Int) (body : List Int) : (sform t body).drop 7 = body ++ (List.replicate (504 - body.length) 0 ++ [t]) := by
  simp [sform, bytes4]
theorem sbody_form (t : Int) (body : List Int) (h : body.length ≤ 504) : sbody (sform t body) = body := by
  rw [sbody, slen_form t body h, sform_drop]
  simp
theorem sform_first (t : Int) (body : List Int) : (sform t body).getD 0 0 = t := rfl
theorem sform_last (t : Int) (body : List Int) (h : body.length ≤ 504) : (sform t body).getD 511 0 = t := by
  have e : sform t body = (t :: ((body.length % 256 : Nat) : Int) :: ((body.length / 256 : Nat) : Int) :: (bytes4 (sumOf (stext body)) ++ (body ++ List.replicate (504 - body.length) 0))) ++ [t] := by
    simp [sform]
  rw [e, List.getD, List.getElem?_append_right (by simp [bytes4_len]; omega)]
  have : 511 - (t :: ((body.length % 256 : Nat) : Int) :: ((body.length / 256 : Nat) : Int) :: (bytes4 (sumOf (stext body)) ++ (body ++ List.replicate (504 - body.length) 0))).length = 0 := by
    simp [bytes4_len]; omega
  rw [this]; rfl
theorem sopen_form (t : Int) (body : List Int) (h : body.length ≤ 504) (ht : t ≤ 2) : sopen (sform t body) = some body := by
  unfold sopen
  rw [slen_form t body h, sform_first, sbody_form t body h, if_pos ⟨h, ht, rfl⟩]
theorem sopen_some {s body : List Int} (h : sopen s = some body) : slen s ≤ 504 ∧ s.getD 0 0 ≤ 2 ∧ sform (s.getD 0 0) (sbody s) = s ∧ body = sbody s := by
  unfold sopen at h
  split at h
  · next hc => exact ⟨hc.1, hc.2.1, hc.2.2, (Option.some.inj h).symm⟩
  · cases h
theorem sbody_len {s : List Int} (h : slen s ≤ 504) (hs : s.length = 512) : (sbody s).length = slen s := by
  simp [sbody]; omega
theorem sopen_len {s body : List Int} (h : sopen s = some body) (hs : s.length = 512) : body.length ≤ 504 := by
  obtain ⟨h1, _, _, rfl⟩ := sopen_some h
  rw [sbody_len h1 hs]; exact h1
theorem sopen_ends {s body : List Int} (h : sopen s = some body) (hs : s.length = 512) : s.getD 511 0 = s.getD 0 0 := by
  have hl := sopen_len h hs
  obtain ⟨h1, _, h3, rfl⟩ := sopen_some h
  rw [← h3, sform_last _ _ hl, sform_first]

/-- What the sum goes over, of a sector. -/
def stextOf (s : List Int) : List Int := (s.drop 1).take 2 ++ (s.drop 7).take 504
theorem stextOf_form (t : Int) (body : List Int) (h : body.length ≤ 504) : stextOf (sform t body) = stext body := by
  rw [stextOf, sform_drop, ← List.append_assoc, List.take_left' (by simp; omega)]
  simp [sform, stext]
theorem ssum_form (t : Int) (body : List Int) : ((sform t body).drop 3).take 4 = bytes4 (sumOf (stext body)) := by
  simp [sform, bytes4]
/-- A sealed sector's sum is right. -/
theorem sopen_sum {s body : List Int} (h : sopen s = some body) (hs : s.length = 512) : (s.drop 3).take 4 = bytes4 (sumOf (stextOf s)) := by
  have hl := sopen_len h hs
  obtain ⟨h1, _, h3, rfl⟩ := sopen_some h
  rw [← h3, ssum_form, stextOf_form _ _ hl]

/-- An anchor's number and data; 0: it is none. -/
def sanchor (s : List Int) : Nat × List Int :=
  match sopen s with
  | none => (0, [])
  | some body => if 8 ≤ body.length ∧ le (body.take 8) < 9223372036854775808 then (le (body.take 8), body.drop 8) else (0, [])
/-- What Newest tells: slot, number, data, error. -/
def snewest (l r : List Int) : Nat × Nat × List Int × Nat :=
  if l.length ≠ 512 ∨ r.length ≠ 512 then (0, 0, [], 2) else
  if (sanchor l).1 = 0 ∧ (sanchor r).1 = 0 then (0, 0, [], 30) else
  if (sanchor l).1 < (sanchor r).1 then (1, (sanchor r).1, (sanchor r).2, 0) else (0, (sanchor l).1, (sanchor l).2, 0)

/-- Eight bytes of a number, the low one first. -/
def bytes8 (n : Nat) : List Int := (List.range 8).map (fun k => ((n / 256 ^ k % 256 : Nat) : Int))
/-- What Seal tells. -/
def sseal (old body : List Int) : List Int × Nat :=
  if old.length ≠ 512 then ([], 2) else if 504 < body.length then ([], 7) else (sform (turnOf (old.getD 0 0) (old.getD 511 0)) body, 0)
def sopens (s : List Int) : List Int × Nat :=
  if s.length ≠ 512 then ([], 2) else match sopen s with | none => ([], 30) | some b => (b, 0)
/-- What Renew tells. -/
def srenew (l r : List Int) (number : Int) (data : List Int) : Nat × List Int × Nat :=
  if l.length ≠ 512 ∨ r.length ≠ 512 then (0, [], 2) else
  if number < 1 then (0, [], 1) else
  if 496 < data.length then (0, [], 7) else
  let a := snewest l r
  if number ≤ a.2.1 then (0, [], 31) else
  if a.2.2.2 = 0 ∧ a.1 = 0 then (1, sform (turnOf (r.getD 0 0) (r.getD 511 0)) (bytes8 number.toNat ++ data), 0)
  else (0, sform (turnOf (l.getD 0 0) (l.getD 511 0)) (bytes8 number.toNat ++ data), 0)
end Go.Proofs.Ythdgndbmecnimaa
end

section
namespace Go.Proofs.Ythdgndbmecnimaa

/-- The parity of a number's bits. -/
def par (n : Nat) : Nat := if n = 0 then 0 else (n % 2 + par (n / 2)) % 2
termination_by n
decreasing_by omega
theorem par_half (n : Nat) : par n = (n % 2 + par (n / 2)) % 2 := by
  by_cases h : n = 0
  · subst h; rw [par]; simp
  · conv => lhs; rw [par, if_neg h]
theorem par_zero : par 0 = 0 := by rw [par]; simp
theorem par_lt (n : Nat) : par n < 2 := by rw [par_half]; omega
theorem xor_half (a b : Nat) : (a ^^^ b) / 2 = a / 2 ^^^ b / 2 := by
  have := Nat.xor_div_two (a := a) (b := b)
  exact this
theorem xor_low1 (a b : Nat) : (a ^^^ b) % 2 = (a % 2 + b % 2) % 2 := by
  have := Nat.xor_mod_two_pow (a := a) (b := b) (n := 1)
  rw [Nat.pow_one] at this
  rw [this]
  rcases Nat.mod_two_eq_zero_or_one a with ha | ha <;> rcases Nat.mod_two_eq_zero_or_one b with hb | hb <;> rw [ha, hb] <;> rfl
theorem xor_swap (a b c : Nat) : a ^^^ b ^^^ c = a ^^^ c ^^^ b := by rw [Nat.xor_assoc, Nat.xor_comm b c, ← Nat.xor_assoc]
theorem par_xor (a b : Nat) : par (a ^^^ b) = (par a + par b) % 2 := by
  induction a using Nat.strongRecOn generalizing b with
  | ind a ih =>
    by_cases h : a = 0
    · subst h
      have := par_lt b
      simp [par_zero]; omega
    · rw [par_half (a ^^^ b), par_half a, par_half b, xor_half, xor_low1, ih (a / 2) (by omega)]
      omega
theorem par_pow (n : Nat) : par (2 ^ n) = 1 := by
  induction n with
  | zero => rw [par_half]; simp; rw [par_zero]
  | succ n ih => rw [par_half, Nat.pow_succ, Nat.mul_mod_left, Nat.mul_div_cancel _ (by omega), ih]
theorem par_poly : par 2197175160 = 1 := by
  have e : 2197175160 = 2 ^ 31 ^^^ 2 ^ 25 ^^^ 2 ^ 23 ^^^ 2 ^ 22 ^^^ 2 ^ 21 ^^^ 2 ^ 20 ^^^ 2 ^ 18 ^^^ 2 ^ 17 ^^^ 2 ^ 13 ^^^ 2 ^ 12 ^^^ 2 ^ 11 ^^^ 2 ^ 9 ^^^ 2 ^ 8 ^^^ 2 ^ 6 ^^^ 2 ^ 5 ^^^ 2 ^ 4 ^^^ 2 ^ 3 := by decide
  rw [e]
  simp only [par_xor, par_pow]
theorem par_cb (r : Nat) : par (cb r) = par r := by
  unfold cb
  rw [par_half r]
  by_cases h : r % 2 = 1
  · rw [if_pos h, par_xor, par_poly, h]; omega
  · rw [if_neg h]
    have := par_lt (r / 2)
    simp; omega
theorem par_cbs (n r : Nat) : par (cbs n r) = par r := by
  induction n generalizing r with
  | zero => rfl
  | succ n ih => rw [cbs, ih, par_cb]

/-- The register comes to 1 in none of n steps. -/
def away : Nat → Nat → Bool
  | 0, _ => true
  | n + 1, s => if cb s = 1 then false else away n (cb s)
theorem away_spec : ∀ (n s : Nat), away n s = true → ∀ a, a < n → cbs (a + 1) s ≠ 1
  | 0, _, _, a, ha => by omega
  | n + 1, s, h, a, ha => by
    unfold away at h
    split at h
    · cases h
    · next hc =>
      cases a with
      | zero => exact hc
      | succ a => exact away_spec n (cb s) h a (by omega)
theorem order {a : Nat} (h0 : 0 < a) (h1 : a ≤ 4080) : cbs a 1 ≠ 1 := by
  have h : away 4080 1 = true := by decide +kernel
  have := away_spec 4080 1 h (a - 1) (by omega)
  rwa [show a - 1 + 1 = a by omega] at this

theorem mul_xor (n a b : Nat) : 2 ^ n * (a ^^^ b) = 2 ^ n * a ^^^ 2 ^ n * b := by
  have := Nat.shiftLeft_xor_distrib (a := a) (b := b) (i := n)
  simpa [Nat.shiftLeft_eq, Nat.mul_comm] using this

theorem le_set {l : List Int} (h : Bytes l) (i : Nat) (x : Int) (hx : 0 ≤ x ∧ x < 256) (hi : i < l.length) :
    le (l.set i x) = le l ^^^ 2 ^ (8 * i) * ((l.getD i 0).toNat ^^^ x.toNat) := by
  induction l generalizing i with
  | nil => simp at hi
  | cons y t ih =>
    have hy := h y (by simp)
    have ht : Bytes t := fun z hz => h z (by simp [hz])
    have e : ∀ (z : Int) (u : List Int), (0 ≤ z ∧ z < 256) → le (z :: u) = z.toNat ^^^ 2 ^ 8 * le u := fun z u hz => by
      have := le_xappend (a := [z]) u (fun q hq => by simp at hq; subst hq; exact hz)
      simpa [le] using this
    cases i with
    | zero =>
      rw [List.set_cons_zero, e x t hx, e y t hy]
      simp only [Nat.mul_zero, Nat.pow_zero, Nat.one_mul]
      show x.toNat ^^^ 2 ^ 8 * le t = y.toNat ^^^ 2 ^ 8 * le t ^^^ (y.toNat ^^^ x.toNat)
      rw [xor_swap, ← Nat.xor_assoc y.toNat, Nat.xor_self, Nat.zero_xor]
    | succ i =>
      rw [List.set_cons_succ, e y _ hy, e y t hy, ih ht i (by simpa using hi), mul_xor, ← Nat.mul_assoc, ← Nat.pow_add, ← Nat.xor_assoc]
      have : (y :: t).getD (i + 1) 0 = t.getD i 0 := rfl
      rw [this, show 8 + 8 * i = 8 * (i + 1) by omega]

/-- Where the bytes of the word lie in the sector. -/
def psi (j : Nat) : Nat := if j < 2 then j + 1 else if j < 506 then j + 5 else j - 503
/-- Where a sector's byte lies in the word. -/
def phi (k : Nat) : Nat := if k < 3 then k - 1 else if k < 7 then k + 503 else k - 5
/-- The sector as one word: the text and its sum. -/
def cwl (s : List Int) : List Int := (List.range 510).map (fun j => s.getD (psi j) 0)
theorem cwl_len (s : List Int) : (cwl s).length = 510 := by simp [cwl]
theorem cwl_bytes {s : List Int} (h : Bytes s) : Bytes (cwl s) := by
  intro x hx
  obtain ⟨j, _, rfl⟩ := List.mem_map.1 hx
  exact h.getD _
theorem cwl_eq {s : List Int} (hs : s.length = 512) : cwl s = stextOf s ++ (s.drop 3).take 4 := by
  apply List.ext_getElem?
  intro j
  have h1 : ((s.drop 1).take 2).length = 2 := by simp; omega
  have h2 : ((s.drop 7).take 504).length = 504 := by simp; omega
  have h3 : (stextOf s).length = 506 := by simp [stextOf]; omega
  by_cases hj : j < 510
  · have hL : (cwl s)[j]? = some (s.getD (psi j) 0) := by simp [cwl, hj]
    rw [hL]
    by_cases a : j < 506
    · rw [List.getElem?_append_left (by omega)]
      unfold stextOf
      by_cases b : j < 2
      · rw [List.getElem?_append_left (by omega)]
        simp only [psi, b, if_true, List.getElem?_take, List.getElem?_drop, List.getD]
        rw [show 1 + j = j + 1 by omega, List.getElem?_eq_getElem (by omega)]
        rfl
      · rw [List.getElem?_append_right (by omega), h1]
        simp only [psi, b, a, if_false, if_true, List.getElem?_take, List.getElem?_drop, List.getD]
        rw [if_pos (by omega), show 7 + (j - 2) = j + 5 by omega, List.getElem?_eq_getElem (by omega)]
        rfl
    · rw [List.getElem?_append_right (by omega), h3]
      simp only [psi, a, show ¬ j < 2 by omega, if_false, List.getElem?_take, List.getElem?_drop, List.getD]
      rw [if_pos (by omega), show 3 + (j - 506) = j - 503 by omega, List.getElem?_eq_getElem (by omega)]
      rfl
  · rw [List.getElem?_eq_none (by rw [cwl_len]; omega), List.getElem?_eq_none (by simp [h3]; omega)]
theorem cwl_set {s : List Int} (hs : s.length = 512) (k : Nat) (h1 : 1 ≤ k) (h2 : k ≤ 510) (x : Int) : cwl (s.set k x) = (cwl s).set (phi k) x := by
  apply List.ext_getElem?
  intro j
  by_cases hj : j < 510
  · have hL : (cwl (s.set k x))[j]? = some ((s.set k x).getD (psi j) 0) := by simp [cwl, hj]
    rw [hL]
    by_cases e : j = phi k
    · have e2 : psi j = k := by rw [e]; unfold psi phi; repeat (first | omega | split)
      rw [e2, e, List.getElem?_set_self (by rw [cwl_len]; omega), List.getD, List.getElem?_set_self (by omega)]
      rfl
    · have e2 : psi j ≠ k := by intro h; apply e; rw [← h]; unfold psi phi; repeat (first | omega | split)
      rw [List.getElem?_set_ne (by omega), List.getD, List.getElem?_set_ne (by omega)]
      simp [cwl, hj, List.getD]
  · rw [List.getElem?_eq_none (by rw [cwl_len]; omega), List.getElem?_eq_none (by simp [cwl_len]; omega)]

/-- What a sealed sector's word comes to. -/
theorem sopen_word {s body : List Int} (h : sopen s = some body) (hs : s.length = 512) (hb : Bytes s) : cbs 4080 (4294967295 ^^^ le (cwl s)) = cbs 32 4294967295 := by
  have h1 : cwl s = stextOf s ++ bytes4 (sumOf (stextOf s)) := by rw [cwl_eq hs, sopen_sum h hs]
  have h2 : Bytes (stextOf s) := Bytes.append ((hb.drop _).take _) ((hb.drop _).take _)
  have h3 := crc_own h2
  rw [← h1] at h3
  unfold crc at h3
  rwa [cwl_len] at h3
theorem sopen_two {s s' body body' : List Int} (h : sopen s = some body) (hs : s.length = 512) (hb : Bytes s) (h' : sopen s' = some body') (hs' : s'.length = 512) (hb' : Bytes s') :
    cbs 4080 (le (cwl s) ^^^ le (cwl s')) = 0 := by
  have h1 := sopen_word h hs hb
  have h2 := sopen_word h' hs' hb'
  have e : le (cwl s) ^^^ le (cwl s') = (4294967295 ^^^ le (cwl s)) ^^^ (4294967295 ^^^ le (cwl s')) := by
    rw [xor_swap 4294967295 (le (cwl s)), ← Nat.xor_assoc 4294967295 4294967295, Nat.xor_self, Nat.zero_xor, Nat.xor_comm]
  rw [e, cbs_xor, h1, h2, Nat.xor_self]

/-- One bit of the bytes 1 to 510 turned over. -/
def sflip (s : List Int) (p : Nat) : List Int := s.set (1 + p / 8) (((s.getD (1 + p / 8) 0).toNat ^^^ 2 ^ (p % 8) : Nat) : Int)
def spos (p : Nat) : Nat := 8 * phi (1 + p / 8) + p % 8
theorem sflip_len (s : List Int) (p : Nat) : (sflip s p).length = s.length := by simp [sflip]
theorem byte_flip {x : Int} (hx : 0 ≤ x ∧ x < 256) (k : Nat) (hk : k < 8) : x.toNat ^^^ 2 ^ k < 256 := by
  have h1 : 2 ^ k ≤ 2 ^ 7 := Nat.pow_le_pow_right (by omega) (by omega)
  have : x.toNat ^^^ 2 ^ k < 2 ^ 8 := Nat.xor_lt_two_pow (by omega) (by omega)
  omega
theorem sflip_bytes {s : List Int} (h : Bytes s) (p : Nat) : Bytes (sflip s p) := by
  intro x hx
  rcases List.mem_or_eq_of_mem_set hx with h1 | h1
  · exact h x h1
  · subst h1
    have := byte_flip (h.getD (1 + p / 8)) (p % 8) (by omega)
    omega
theorem phi_lt {k : Nat} (h1 : 1 ≤ k) (h2 : k ≤ 510) : phi k < 510 := by unfold phi; repeat (first | omega | split)
theorem cwl_flip {s : List Int} (hs : s.length = 512) (h : Bytes s) (p : Nat) (hp : p < 4080) : le (cwl (sflip s p)) = le (cwl s) ^^^ 2 ^ spos p := by
  have hk1 : 1 ≤ 1 + p / 8 := by omega
  have hk2 : 1 + p / 8 ≤ 510 := by omega
  have hf := phi_lt hk1 hk2
  have hb := byte_flip (h.getD (1 + p / 8)) (p % 8) (by omega)
  unfold sflip
  rw [cwl_set hs _ hk1 hk2, le_set (cwl_bytes h) _ _ (by omega) (by rw [cwl_len]; exact hf)]
  have e : (cwl s).getD (phi (1 + p / 8)) 0 = s.getD (1 + p / 8) 0 := by
    have e2 : psi (phi (1 + p / 8)) = 1 + p / 8 := by
      generalize 1 + p / 8 = k at *
      unfold psi phi; repeat (first | omega | split)
    rw [List.getD, cwl, List.getElem?_map, List.getElem?_range hf]
    show s.getD (psi (phi (1 + p / 8))) 0 = _
    rw [e2]
  rw [e, Int.toNat_natCast, ← Nat.xor_assoc, Nat.xor_self, Nat.zero_xor, ← Nat.pow_add]
  rfl
theorem spos_lt {p : Nat} (hp : p < 4080) : spos p < 4080 := by
  have := phi_lt (k := 1 + p / 8) (by omega) (by omega)
  unfold spos; omega
theorem phi_inj {a b : Nat} (ha : 1 ≤ a ∧ a ≤ 510) (hb : 1 ≤ b ∧ b ≤ 510) (h : phi a = phi b) : a = b := by
  unfold phi at h; revert h; repeat (first | omega | split)
theorem spos_inj {p q : Nat} (hp : p < 4080) (hq : q < 4080) (h : spos p = spos q) : p = q := by
  unfold spos at h
  have h1 : phi (1 + p / 8) = phi (1 + q / 8) := by omega
  have := phi_inj (by omega) (by omega) h1
  omega
theorem sflip_twice {s : List Int} (h : Bytes s) (p : Nat) (hp : 1 + p / 8 < s.length) : sflip (sflip s p) p = s := by
  have hb := h.getD (1 + p / 8)
  unfold sflip
  rw [List.set_set]
  have e : (s.set (1 + p / 8) (((s.getD (1 + p / 8) 0).toNat ^^^ 2 ^ (p % 8) : Nat) : Int)).getD (1 + p / 8) 0 = (((s.getD (1 + p / 8) 0).toNat ^^^ 2 ^ (p % 8) : Nat) : Int) := by
    rw [List.getD, List.getElem?_set_self hp]; rfl
  rw [e, Int.toNat_natCast, Nat.xor_assoc, Nat.xor_self, Nat.xor_zero]
  have : ((s.getD (1 + p / 8) 0).toNat : Int) = s[1 + p / 8] := by
    rw [Int.toNat_of_nonneg hb.1]; simp [List.getD, hp]
  rw [this]; exact List.set_getElem_self hp

theorem none_of {α : Type} {o : Option α} (h : ∀ x, o = some x → False) : o = none := by
  cases o with
  | none => rfl
  | some x => exact (h x rfl).elim
theorem not_flat {d : Nat} (h : cbs 4080 d = 0) (hp : par d = 1) : False := by
  have := par_cbs 4080 d
  rw [h, par_zero] at this
  omega
theorem rot1 {s body : List Int} (h : sopen s = some body) (hs : s.length = 512) (hb : Bytes s) {p : Nat} (hp : p < 4080) : sopen (sflip s p) = none :=
  none_of fun b' h' => by
    have h1 := sopen_two h hs hb h' ((sflip_len _ _).trans hs) (sflip_bytes hb _)
    rw [cwl_flip hs hb p hp, ← Nat.xor_assoc, Nat.xor_self, Nat.zero_xor] at h1
    exact not_flat h1 (par_pow _)
theorem two_bits {p q : Nat} (hpq : p < q) (hq : q < 4080) (h : cbs 4080 (2 ^ p ^^^ 2 ^ q) = 0) : False := by
  have e : 2 ^ p ^^^ 2 ^ q = 2 ^ p * (1 ^^^ 2 ^ (q - p)) := by
    rw [mul_xor, Nat.mul_one, ← Nat.pow_add, show p + (q - p) = q by omega]
  rw [e, show 4080 = p + ((q - p) + (4080 - q)) by omega, cbs_add, cbs_pow, cbs_add, cbs_xor] at h
  have e2 : cbs (q - p) (2 ^ (q - p)) = 1 := by have := cbs_pow (q - p) 1; rwa [Nat.mul_one] at this
  rw [e2] at h
  have h3 : cbs (q - p) 1 < 4294967296 := cbs_lt _ (by omega)
  have h4 : cbs (q - p) 1 ^^^ 1 < 4294967296 := by
    have : cbs (q - p) 1 ^^^ 1 < 2 ^ 32 := Nat.xor_lt_two_pow (by omega) (by omega)
    omega
  exact order (by omega) (by omega) (xor_none (cbs_none _ h4 h))
theorem rot2 {s body : List Int} (h : sopen s = some body) (hs : s.length = 512) (hb : Bytes s) {p q : Nat} (hp : p < 4080) (hq : q < 4080) (hne : p ≠ q) : sopen (sflip (sflip s p) q) = none :=
  none_of fun b' h' => by
    have hs1 := (sflip_len s p).trans hs
    have hb1 := sflip_bytes hb p
    have h1 := sopen_two h hs hb h' ((sflip_len _ _).trans hs1) (sflip_bytes hb1 _)
    rw [cwl_flip hs1 hb1 q hq, cwl_flip hs hb p hp, ← Nat.xor_assoc, ← Nat.xor_assoc, Nat.xor_self, Nat.zero_xor] at h1
    have hn : spos p ≠ spos q := fun e => hne (spos_inj hp hq e)
    have l1 := spos_lt hp
    have l2 := spos_lt hq
    rcases Nat.lt_or_gt_of_ne hn with hlt | hlt
    · exact two_bits hlt l2 h1
    · rw [Nat.xor_comm] at h1
      exact two_bits hlt l1 h1
theorem rot3 {s body : List Int} (h : sopen s = some body) (hs : s.length = 512) (hb : Bytes s) {p q r : Nat} (hp : p < 4080) (hq : q < 4080) (hr : r < 4080) : sopen (sflip (sflip (sflip s p) q) r) = none :=
  none_of fun b' h' => by
    have hs1 := (sflip_len s p).trans hs
    have hb1 := sflip_bytes hb p
    have hs2 := (sflip_len (sflip s p) q).trans hs1
    have hb2 := sflip_bytes hb1 q
    have h1 := sopen_two h hs hb h' ((sflip_len _ _).trans hs2) (sflip_bytes hb2 _)
    rw [cwl_flip hs2 hb2 r hr, cwl_flip hs1 hb1 q hq, cwl_flip hs hb p hp, ← Nat.xor_assoc, ← Nat.xor_assoc, ← Nat.xor_assoc, Nat.xor_self, Nat.zero_xor] at h1
    refine not_flat h1 ?_
    rw [par_xor, par_xor, par_pow, par_pow, par_pow]
end Go.Proofs.Ythdgndbmecnimaa
end

section
namespace Go.Proofs.Ythdgndbmecnimaa

/-- One byte mixed with w. -/
def sxor (s : List Int) (k w : Nat) : List Int := s.set k (((s.getD k 0).toNat ^^^ w : Nat) : Int)
theorem sxor_len (s : List Int) (k w : Nat) : (sxor s k w).length = s.length := by simp [sxor]
theorem byte_xor {x : Int} (hx : 0 ≤ x ∧ x < 256) {w : Nat} (hw : w < 256) : x.toNat ^^^ w < 256 := by
  have : x.toNat ^^^ w < 2 ^ 8 := Nat.xor_lt_two_pow (by omega) (by omega)
  omega
theorem sxor_bytes {s : List Int} (h : Bytes s) (k : Nat) {w : Nat} (hw : w < 256) : Bytes (sxor s k w) := by
  intro x hx
  rcases List.mem_or_eq_of_mem_set hx with h1 | h1
  · exact h x h1
  · subst h1
    have := byte_xor (h.getD k) hw
    omega
theorem sxor_zero {s : List Int} (h : Bytes s) (k : Nat) (hk : k < s.length) : sxor s k 0 = s := by
  have hb := h.getD k
  unfold sxor
  rw [Nat.xor_zero, Int.toNat_of_nonneg hb.1]
  have : s.getD k 0 = s[k] := by simp [List.getD, hk]
  rw [this]; exact List.set_getElem_self hk
theorem cwl_xor {s : List Int} (hs : s.length = 512) (h : Bytes s) (k w : Nat) (h1 : 1 ≤ k) (h2 : k ≤ 510) (hw : w < 256) : le (cwl (sxor s k w)) = le (cwl s) ^^^ 2 ^ (8 * phi k) * w := by
  have hf := phi_lt h1 h2
  have hb := byte_xor (h.getD k) hw
  unfold sxor
  rw [cwl_set hs _ h1 h2, le_set (cwl_bytes h) _ _ (by omega) (by rw [cwl_len]; exact hf)]
  have e : (cwl s).getD (phi k) 0 = s.getD k 0 := by
    have e2 : psi (phi k) = k := by unfold psi phi; repeat (first | omega | split)
    rw [List.getD, cwl, List.getElem?_map, List.getElem?_range hf]
    show s.getD (psi (phi k)) 0 = _
    rw [e2]
  rw [e, Int.toNat_natCast, ← Nat.xor_assoc, Nat.xor_self, Nat.zero_xor]
/-- Four neighbouring bytes mixed. -/
def sburst (s : List Int) (k w0 w1 w2 w3 : Nat) : List Int := sxor (sxor (sxor (sxor s k w0) (k + 1) w1) (k + 2) w2) (k + 3) w3
theorem burst {s body : List Int} (h : sopen s = some body) (hs : s.length = 512) (hb : Bytes s) {k w0 w1 w2 w3 : Nat} (h0 : w0 < 256) (h1 : w1 < 256) (h2 : w2 < 256) (h3 : w3 < 256) (k1 : 7 ≤ k) (k2 : k ≤ 507) :
    sopen (sburst s k w0 w1 w2 w3) = none ∨ sburst s k w0 w1 w2 w3 = s := by
  by_cases hw : w0 = 0 ∧ w1 = 0 ∧ w2 = 0 ∧ w3 = 0
  · obtain ⟨rfl, rfl, rfl, rfl⟩ := hw
    right
    unfold sburst
    rw [sxor_zero hb _ (by omega), sxor_zero hb _ (by omega), sxor_zero hb _ (by omega), sxor_zero hb _ (by omega)]
  · left
    refine none_of fun b' h' => hw ?_
    have b1 := sxor_bytes hb k h0
    have b2 := sxor_bytes b1 (k + 1) h1
    have b3 := sxor_bytes b2 (k + 2) h2
    have b4 := sxor_bytes b3 (k + 3) h3
    have l1 := (sxor_len s k w0).trans hs
    have l2 := (sxor_len _ (k + 1) w1).trans l1
    have l3 := (sxor_len _ (k + 2) w2).trans l2
    have l4 := (sxor_len _ (k + 3) w3).trans l3
    have hz := sopen_two h hs hb h' l4 b4
    unfold sburst at hz
    rw [cwl_xor l3 b3 _ _ (by omega) (by omega) h3, cwl_xor l2 b2 _ _ (by omega) (by omega) h2, cwl_xor l1 b1 _ _ (by omega) (by omega) h1, cwl_xor hs hb _ _ (by omega) (by omega) h0] at hz
    have f0 : phi k = k - 5 := by unfold phi; repeat (first | omega | split)
    have f1 : phi (k + 1) = k - 5 + 1 := by unfold phi; repeat (first | omega | split)
    have f2 : phi (k + 2) = k - 5 + 2 := by unfold phi; repeat (first | omega | split)
    have f3 : phi (k + 3) = k - 5 + 3 := by unfold phi; repeat (first | omega | split)
    rw [f0, f1, f2, f3] at hz
    have hm : ∀ j a : Nat, 2 ^ (8 * (k - 5 + j)) * a = 2 ^ (8 * (k - 5)) * (2 ^ (8 * j) * a) := fun j a => by
      rw [← Nat.mul_assoc, ← Nat.pow_add, Nat.mul_add]
    rw [hm 1, hm 2, hm 3] at hz
    simp only [← Nat.xor_assoc, Nat.xor_self, Nat.zero_xor] at hz
    rw [← mul_xor, ← mul_xor, ← mul_xor] at hz
    rw [show 4080 = 8 * (k - 5) + (4080 - 8 * (k - 5)) by omega, cbs_add, cbs_pow] at hz
    have e : w0 ^^^ 2 ^ (8 * 1) * w1 ^^^ 2 ^ (8 * 2) * w2 ^^^ 2 ^ (8 * 3) * w3 = w0 + 256 * w1 + 65536 * w2 + 16777216 * w3 := by
      rw [← add_xor (8 * 1) w1 w0 (by omega), ← add_xor (8 * 2) w2 _ (by omega), ← add_xor (8 * 3) w3 _ (by omega)]
    rw [e] at hz
    have := cbs_none _ (by omega) hz
    omega

theorem ends_none {m : List Int} (hm : m.length = 512) (h : m.getD 0 0 ≠ m.getD 511 0) : sopen m = none :=
  none_of fun _ h' => h (sopen_ends h' hm).symm
/-- What a torn write leaves. -/
def smix (a b : List Int) (c : Nat) : List Int := a.take c ++ b.drop c
theorem smix_len {a b : List Int} (ha : a.length = 512) (hb : b.length = 512) {c : Nat} (hc : c ≤ 512) : (smix a b c).length = 512 := by simp [smix]; omega
theorem smix_bytes {a b : List Int} (ha : Bytes a) (hb : Bytes b) (c : Nat) : Bytes (smix a b c) := (ha.take c).append (hb.drop c)
theorem smix_first {a b : List Int} (ha : a.length = 512) {c : Nat} (h0 : 0 < c) : (smix a b c).getD 0 0 = a.getD 0 0 := by
  rw [smix, List.getD, List.getElem?_append_left (by simp; omega), List.getElem?_take, if_pos h0]; rfl
theorem smix_last {a b : List Int} (ha : a.length = 512) {c : Nat} (h1 : c < 512) : (smix a b c).getD 511 0 = b.getD 511 0 := by
  rw [smix, List.getD, List.getElem?_append_right (by simp; omega), List.getElem?_drop]
  simp only [List.length_take, ha, List.getD]
  rw [show c + (511 - min c 512) = 511 by omega]
theorem smix_zero (a b : List Int) : smix a b 0 = b := by simp [smix]
theorem smix_all {a b : List Int} (ha : a.length = 512) (hb : b.length = 512) : smix a b 512 = a := by
  simp [smix, List.take_of_length_le (Nat.le_of_eq ha), List.drop_eq_nil_of_le (Nat.le_of_eq hb)]
theorem torn {o : List Int} (ho : o.length = 512) {t : Int} (h0 : t ≠ o.getD 0 0) (h1 : t ≠ o.getD 511 0) {body : List Int} (hl : body.length ≤ 504) {c : Nat} (hc : c ≤ 512) :
    (smix o (sform t body) c = o ∨ smix o (sform t body) c = sform t body ∨ sopen (smix o (sform t body) c) = none) ∧
    (smix (sform t body) o c = o ∨ smix (sform t body) o c = sform t body ∨ sopen (smix (sform t body) o c) = none) := by
  have hf := sform_len (t := t) hl
  by_cases c0 : c = 0
  · subst c0; exact ⟨.inr (.inl (smix_zero _ _)), .inl (smix_zero _ _)⟩
  · by_cases c1 : c = 512
    · subst c1; exact ⟨.inl (smix_all ho hf), .inr (.inl (smix_all hf ho))⟩
    · refine ⟨.inr (.inr (ends_none (smix_len ho hf hc) ?_)), .inr (.inr (ends_none (smix_len hf ho hc) ?_))⟩
      · rw [smix_first ho (by omega), smix_last ho (by omega), sform_last t body hl]; exact fun h => h0 h.symm
      · rw [smix_first hf (by omega), smix_last hf (by omega), sform_first]; exact h1

theorem bytes8_eq (n : Nat) : bytes8 n = [((n % 256 : Nat) : Int), ((n / 256 % 256 : Nat) : Int), ((n / 65536 % 256 : Nat) : Int), ((n / 16777216 % 256 : Nat) : Int), ((n / 4294967296 % 256 : Nat) : Int), ((n / 1099511627776 % 256 : Nat) : Int), ((n / 281474976710656 % 256 : Nat) : Int), ((n / 72057594037927936 % 256 : Nat) : Int)] := by
  simp [bytes8, List.range, List.range.loop]
theorem bytes8_len (n : Nat) : (bytes8 n).length = 8 := by simp [bytes8]
theorem bytes8_bytes (n : Nat) : Bytes (bytes8 n) := by
  intro x hx
  obtain ⟨j, _, rfl⟩ := List.mem_map.1 hx
  omega
theorem le_bytes8 {n : Nat} (h : n < 18446744073709551616) : le (bytes8 n) = n := by
  rw [bytes8_eq]
  simp only [le, Int.toNat_natCast]
  omega
theorem sanchor_form {t : Int} (ht : t ≤ 2) {n : Nat} (hn : n < 9223372036854775808) {data : List Int} (hd : data.length ≤ 496) : sanchor (sform t (bytes8 n ++ data)) = (n, data) := by
  have h8 := bytes8_len n
  unfold sanchor
  rw [sopen_form _ _ (by simp [h8]; omega) ht]
  simp only [List.take_left' h8, List.drop_left' h8, le_bytes8 (show n < 18446744073709551616 by omega)]
  rw [if_pos ⟨by simp [h8], hn⟩]
theorem sanchor_none {s : List Int} (h : sopen s = none) : sanchor s = (0, []) := by simp [sanchor, h]

/-- The pair with s in that slot. -/
def sput (l r : List Int) (slot : Nat) (s : List Int) : List Int × List Int := if slot = 0 then (s, r) else (l, s)
theorem pair_new {l r data : List Int} (hl : l.length = 512) (hr : r.length = 512) {n : Nat} (hn : n < 9223372036854775808) (h1 : 1 ≤ n) (hd : data.length ≤ 496) (hgt : (snewest l r).2.1 < n) {t : Int} (ht : t ≤ 2) (slot : Nat)
    (hs : slot = if (snewest l r).2.2.2 = 0 ∧ (snewest l r).1 = 0 then 1 else 0) :
    snewest (sput l r slot (sform t (bytes8 n ++ data))).1 (sput l r slot (sform t (bytes8 n ++ data))).2 = (slot, n, data, 0) := by
  have ha := sanchor_form ht hn hd
  have hf : (sform t (bytes8 n ++ data)).length = 512 := sform_len (by simp [bytes8_len]; omega)
  generalize sform t (bytes8 n ++ data) = s at *
  have e : snewest l r = if (sanchor l).1 = 0 ∧ (sanchor r).1 = 0 then (0, 0, [], 30) else if (sanchor l).1 < (sanchor r).1 then (1, (sanchor r).1, (sanchor r).2, 0) else (0, (sanchor l).1, (sanchor l).2, 0) := by
    unfold snewest; rw [if_neg (by omega)]
  rw [e] at hs hgt
  by_cases z : (sanchor l).1 = 0 ∧ (sanchor r).1 = 0
  · rw [if_pos z] at hs hgt
    have : slot = 0 := by rw [hs]; rfl
    subst this
    simp only [sput, if_true, snewest]
    rw [if_neg (by omega), ha, if_neg (by simp; omega), if_neg (by simp; omega)]
  · rw [if_neg z] at hs hgt
    by_cases q : (sanchor l).1 < (sanchor r).1
    · rw [if_pos q] at hs hgt
      have : slot = 0 := by rw [hs]; rfl
      subst this
      simp only [sput, if_true, snewest]
      rw [if_neg (by omega), ha, if_neg (by simp; omega), if_neg (by simp at hgt ⊢; omega)]
    · rw [if_neg q] at hs hgt
      have : slot = 1 := by rw [hs]; rfl
      subst this
      have h10 : ¬ (1 : Nat) = 0 := by omega
      simp only [sput, if_neg h10, snewest]
      rw [if_neg (by omega), ha, if_neg (by simp; omega), if_pos (by simp at hgt ⊢; omega)]
theorem pair_old {l r m : List Int} (hl : l.length = 512) (hr : r.length = 512) (hm : m.length = 512) (hnone : sanchor m = (0, [])) (slot : Nat)
    (hs : slot = if (snewest l r).2.2.2 = 0 ∧ (snewest l r).1 = 0 then 1 else 0) : snewest (sput l r slot m).1 (sput l r slot m).2 = snewest l r := by
  have e : snewest l r = if (sanchor l).1 = 0 ∧ (sanchor r).1 = 0 then (0, 0, [], 30) else if (sanchor l).1 < (sanchor r).1 then (1, (sanchor r).1, (sanchor r).2, 0) else (0, (sanchor l).1, (sanchor l).2, 0) := by
    unfold snewest; rw [if_neg (by omega)]
  rw [e] at hs
  rw [e]
  by_cases z : (sanchor l).1 = 0 ∧ (sanchor r).1 = 0
  · rw [if_pos z] at hs ⊢
    have : slot = 0 := by rw [hs]; rfl
    subst this
    simp only [sput, if_true, snewest]
    rw [if_neg (by omega), hnone, if_pos ⟨rfl, z.2⟩]
  · rw [if_neg z] at hs ⊢
    by_cases q : (sanchor l).1 < (sanchor r).1
    · rw [if_pos q] at hs ⊢
      have : slot = 0 := by rw [hs]; rfl
      subst this
      simp only [sput, if_true, snewest]
      rw [if_neg (by omega), hnone, if_neg (by simp; omega), if_pos (by simp; omega)]
    · rw [if_neg q] at hs ⊢
      have : slot = 1 := by rw [hs]; rfl
      subst this
      have h10 : ¬ (1 : Nat) = 0 := by omega
      simp only [sput, if_neg h10, snewest]
      rw [if_neg (by omega), hnone, if_neg (by simp; omega), if_neg (by simp)]
end Go.Proofs.Ythdgndbmecnimaa
end

section
namespace Go.Proofs.Ythdgndbmecnimaa
open Go.ChangeShapes Go.WideShapes Go.ChangeAt Go.RowKit Go.Deep

theorem ownKnobs : ownKnob Try.prog.godebug = none := by kernel_rfl
theorem laidOut : laidOutB Try.prog = true := by kernel_rfl
theorem bytesU8 : Try.prog.bytesOf 5 = 1 := by kernel_rfl
theorem cellsU8 : Try.prog.cellsOf 5 = 1 := by kernel_rfl
theorem cellsInt : Try.prog.cellsOf 3 = 1 := by kernel_rfl
theorem cellsBytes : Try.prog.cellsOf 27 = 1 := by kernel_rfl

/-- An int's bounds. -/
def I64 (n : Int) : Prop := -9223372036854775808 ≤ n ∧ n ≤ 9223372036854775807
theorem int_wf {n : Int} (h : (Lit.int .i64 n).wf = true) : I64 n := by
  have := h
  simp [Lit.wf, IntKind.min, IntKind.max, IntKind.bits, IntKind.signed] at this
  unfold I64
  omega
theorem u8_wf {n : Int} (h : (Lit.int .u8 n).wf = true) : 0 ≤ n ∧ n < 256 := by
  have := h
  simp [Lit.wf, IntKind.min, IntKind.max, IntKind.bits, IntKind.signed] at this
  omega

section
variable {H : Type} {enc : TypeId × Value → H} {W : World} {base : Nat} {spare : Nat → Bool} {held : Bool}

theorem weightsAll_mem {P : Program} {e : TypeId} {n : Nat} : ∀ {ds : List (DataW H)} {d : DataW H}, d ∈ ds → n ∈ d.weights P e → n ∈ DataW.weightsAll P e ds
  | d :: r, d', hd, hn => by
    rw [DataW.weightsAll]
    rcases List.mem_cons.1 hd with rfl | h
    · exact List.mem_append_left _ hn
    · exact List.mem_append_right _ (weightsAll_mem h hn)

theorem trod3 {P : Program} {e : TypeId} {f0 f1 f2 : Field} {n : Nat} {cs : List Value} {x : DataW H × List MemPlace} (he : P.underlying e = some (.struct #[f0, f1, f2])) (ce : P.cellsOf e = 3) (o0 : f0.offset = 0) (o1 : f1.offset = 1) (o2 : f2.offset = 2)
    (c0 : P.cellsOf f0.type = 1) (c1 : P.cellsOf f1.type = 1) (c2 : P.cellsOf f2.type = 1) (h : DataW.trod enc P W base spare held n e cs = some x) :
    ∃ v0 v1 v2 y0 y1 y2 k, cs = [v0, v1, v2] ∧ x.1 = .agg [y0.1, y1.1, y2.1] ∧ DataW.trod enc P W base spare held k f0.type [v0] = some y0 ∧ DataW.trod enc P W base spare held k f1.type [v1] = some y1 ∧ DataW.trod enc P W base spare held k f2.type [v2] = some y2 := by
  obtain ⟨xs, k, _, hxy, hlen, hxl, hf⟩ := DataW.trod_struct he h
  rw [ce] at hlen
  match xs, hxl, cs, hlen with
  | [y0, y1, y2], _, [v0, v1, v2], _ =>
    have g0 := hf 0 f0 rfl
    have g1 := hf 1 f1 rfl
    have g2 := hf 2 f2 rfl
    simp [o0, o1, o2, c0, c1, c2] at g0 g1 g2
    exact ⟨v0, v1, v2, y0, y1, y2, k, rfl, by rw [hxy]; rfl, g0, g1, g2⟩

theorem open_bytes {fuel : Nat} {v : Value} {d : DataW H} {pl : List MemPlace} (h : DataW.trod enc Try.prog W base spare held fuel 27 [v] = some (d, pl)) (hw : ∀ n ∈ d.weights Try.prog 27, n ≤ reachBytes) :
    ∃ a n c l, v = .slice a n c ∧ Src W a n l ∧ Bytes l ∧ n ≤ c ∧ n ≤ 140737488355328 := by
  rcases open_ints Try.underlying27 Try.underlying5 cellsU8 h with ⟨hcs, _⟩ | ⟨x, l, c, zs, hcs, _, hl, hm, hz, hd, hcell, hwz⟩
  · simp only [List.cons.injEq, and_true] at hcs
    exact ⟨none, 0, 0, [], hcs, ⟨rfl, fun _ => rfl, fun x hx => by cases hx⟩, (fun x hx => by cases hx), Nat.le_refl _, Nat.zero_le _⟩
  · simp only [List.cons.injEq, and_true] at hcs
    simp only [Prod.mk.injEq] at hd
    obtain ⟨rfl, rfl⟩ := hd
    have hzl : l ≤ zs.length := by rw [hz]; split <;> omega
    have h1 := hw ((((lits IntKind.u8 (zs.take l) : List (DataW H))).length + ((lits IntKind.u8 (zs.drop l) : List (DataW H))).length) * Try.prog.bytesOf 5) (by simp [DataW.weights, Try.underlying27])
    rw [bytesU8] at h1
    simp only [lits, List.length_map, List.length_take, List.length_drop, reachBytes] at h1
    refine ⟨some x, l, c, zs.take l, hcs, ⟨by simp; omega, (fun h => by cases h), fun y hy i hi => ?_⟩, fun z hz => u8_wf (hwz z (List.mem_of_mem_take hz)), hl, by omega⟩
    cases hy
    rw [hcell i (by omega)]
    simp [List.getD, hi]
end
end Go.Proofs.Ythdgndbmecnimaa
end
