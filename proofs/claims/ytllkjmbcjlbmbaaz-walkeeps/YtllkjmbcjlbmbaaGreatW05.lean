import Derived.Test.YtllkjmbcjlbmbaaGreatW04
import Derived.Shelf.Sort.AssemblyIn
import Derived.Sort.EveryDepth
import Derived.Sort.OwnSortedInts
section
namespace Go.Proofs.YtllkjmbcjlbmbaaGreat
open Go.RowKit Go.Maps

theorem infoPick : (Tryz.prog.info? 89).map (fun i => (i.zero, i.size, i.bytes)) = some (some (.agg #[.int .i64 0, .int .i64 0, .int .i64 0]), 3, 24) := by kernel_rfl
theorem sizePick : (Tryz.prog.info? 89).map (·.size) = some 3 := by kernel_rfl

def p3 (l : List P3) : List Value := l.flatMap (fun q => [.int .i64 q.1, .int .i64 q.2.1, .int .i64 q.2.2])

theorem p3_len : ∀ l : List P3, (p3 l).length = l.length * 3
  | [] => rfl
  | q :: l => by have := p3_len l; simp only [p3, List.flatMap_cons, List.length_append, List.length_cons, List.length_nil] at this ⊢; omega

theorem p3_one (l : List P3) : ∀ v ∈ p3 l, v.oneCell' = true := by
  intro v hv
  simp only [p3, List.mem_flatMap] at hv
  obtain ⟨q, _, h⟩ := hv
  simp at h
  rcases h with rfl | rfl | rfl <;> rfl

theorem p3_at : ∀ (l : List P3) (i : Nat) (hi : i < l.length), (p3 l)[i * 3]? = some (.int .i64 l[i].1) ∧ (p3 l)[i * 3 + 1]? = some (.int .i64 l[i].2.1) ∧ (p3 l)[i * 3 + 2]? = some (.int .i64 l[i].2.2)
  | q :: l, 0, _ => by simp [p3]
  | q :: l, i + 1, hi => by
    have := p3_at l i (by simpa using hi)
    have e : p3 (q :: l) = [.int .i64 q.1, .int .i64 q.2.1, .int .i64 q.2.2] ++ p3 l := rfl
    rw [e, List.getElem?_append_right (by simp; omega), List.getElem?_append_right (by simp; omega), List.getElem?_append_right (by simp; omega)]
    simp only [List.length_cons, List.length_nil, List.getElem_cons_succ]
    rw [show (i + 1) * 3 - (0 + 1 + 1 + 1) = i * 3 by omega, show (i + 1) * 3 + 1 - (0 + 1 + 1 + 1) = i * 3 + 1 by omega, show (i + 1) * 3 + 2 - (0 + 1 + 1 + 1) = i * 3 + 2 by omega]
    exact this

theorem p3_src {w : World} {b o n : Nat} {l : List P3} (h : PSrc w (some ⟨b, o, none⟩) n l) (j : Nat) (v : Value) (hv : (p3 l)[j]? = some v) : w.cell? ((⟨b, o, none⟩ : Addr).add j) = some v := by
  rw [addr_add]
  have hj := (List.getElem?_eq_some_iff.1 hv).1
  rw [p3_len] at hj
  obtain ⟨i, t, ht, rfl⟩ : ∃ i t, t < 3 ∧ j = i * 3 + t := ⟨j / 3, j % 3, by omega, by omega⟩
  have hi : i < l.length := by omega
  obtain ⟨e0, e1, e2⟩ := p3_at l i hi
  obtain ⟨b', o', hx, c0, c1, c2⟩ := h.2.2.1 _ rfl i hi
  cases hx
  rw [← Nat.add_assoc]
  match t, ht with
  | 0, _ => rw [Nat.add_zero] at hv ⊢; rw [e0] at hv; rw [c0]; exact hv
  | 1, _ => rw [e1] at hv; rw [c1]; exact hv
  | 2, _ => rw [e2] at hv; rw [c2]; exact hv

theorem p3_to {w : World} {g n : Nat} {l : List P3} (hn : l.length = n) (hb : ∀ q ∈ l, q.1 ≤ 9223372036854775807 ∧ q.2.1 ≤ 9223372036854775807 ∧ q.2.2 ≤ 9223372036854775807) (h : w.heap[g]? = some (.cells (p3 l).toArray 89 (0, 0))) : PSrc w (some ⟨g, 0, none⟩) n l := by
  refine ⟨hn, (fun h => by cases h), fun x hx i hi => ?_, hb⟩
  cases hx
  obtain ⟨e0, e1, e2⟩ := p3_at l i hi
  refine ⟨g, 0, rfl, ?_, ?_, ?_⟩ <;> (simp only [World.cell?, h, Nat.zero_add]; simpa using ‹_›)

/-- copy of elements of three cells. -/
theorem copy3_run (w : World) (ty : TypeId) (g n : Nat) (a : Option Addr) (c d : Nat) (cur : Array Value) (l : List P3) (hg : w.heap[g]? = some (.cells cur 89 (0, 0))) (hcur : cur.size = n * 3) (hs : PSrc w a n l) :
    ∃ w2, (Builtin.copy_ #[36, 36] ty #[.slice (some ⟨g, 0, none⟩) n d, .slice a n c]).run Tryz.prog w = .ok (goInt n) w2 ∧
      w2.heap[g]? = some (.cells (p3 l).toArray 89 (0, 0)) ∧ Keeps (fun k => k = g) w w2 ∧ w2.heap.size = w.heap.size := by
  have hl := hs.1
  have hmm : Nat.min n n = n := Nat.min_self n
  obtain ⟨i0, hq, _, hi, _⟩ := info_parts infoPick
  by_cases h0 : n = 0
  · subst h0
    obtain rfl : l = [] := List.eq_nil_of_length_eq_zero hl
    have hcz : cur = #[] := Array.eq_empty_of_size_eq_zero (by omega)
    subst hcz
    have hlc : ∀ (x : Addr), (loadCells x 0).run Tryz.prog w = .ok #[] w := fun x => by simpa using run_loadCells_list (P := Tryz.prog) w x [] (by simp)
    refine ⟨w, ?_, hg, Keeps.refl _ _, rfl⟩
    cases a <;> simp [Builtin.copy_, run_underlying Tryz.underlying36, Builtin.lenOf, Builtin.firstCells, sizeOf, typeInfo, hq, storeCells, hlc]
  · obtain ⟨x, rfl⟩ : ∃ x, a = some x := by
      cases a with
      | none => exact absurd (hs.2.1 rfl) h0
      | some x => exact ⟨x, rfl⟩
    obtain ⟨b, o, rfl, _⟩ := hs.2.2.1 x rfl 0 (by omega)
    have hlc := run_loadCells_list (P := Tryz.prog) w ⟨b, o, none⟩ (p3 l) (p3_src hs)
    rw [p3_len, hl] at hlc
    have hst := run_storeCells_at Tryz.prog g 0 89 (p3 l) 0 cur w hg (by rw [p3_len]; omega) (p3_one l)
    have e : (List.take (0 + 0) cur.toList ++ p3 l ++ List.drop (0 + 0 + (p3 l).length) cur.toList).toArray = (p3 l).toArray := by
      rw [p3_len, List.drop_of_length_le (by simp; omega)]; simp
    rw [e] at hst
    refine ⟨w.setRow g (p3 l).toArray, ?_, ?_, ⟨rfl, rfl, rfl, by simp, fun k _ hk => setRow_other w g k _ hk⟩, by simp⟩
    · simp [Builtin.copy_, run_underlying Tryz.underlying36, Builtin.lenOf, Builtin.firstCells, sizeOf, typeInfo, hq, hi, hmm, hlc, hst]
    · exact setRow_heap w g _ _ 89 _ hg

theorem PSrc.later {w w' : World} {a : Option Addr} {n : Nat} {l : List P3} (h : PSrc w a n l) (hb : Below w.heap.size w w') : PSrc w' a n l := h.keeps (Keeps.of_below (fun _ => False) hb) (fun _ _ h => h)

set_option maxHeartbeats 2000000 in
theorem twinp_any (a : Option Addr) (n c : Nat) (l : List P3) (w : World) (hn : 24 * n ≤ 140737488355328) (hs : PSrc w a n l) :
    Calls Tryz.prog 16 #[.slice a n c] w fun e w' => ∃ g, e = .returned (.slice (some ⟨g, 0, none⟩) n n) ∧ w.heap.size ≤ g ∧ PSrc w' (some ⟨g, 0, none⟩) n l ∧ Below w.heap.size w w' := by
  obtain ⟨i0, hi, hz0, hz1, hz2⟩ := info_parts infoPick
  have H := Hid.mk hs
  clear hs
  go_enter Tryz.func16, Tryz.ntmps16
  go_wp2_with (at_make; refine wpList_make_full _ rfl _ _ 36 rfl w.heap.size 89 i0 _ 3 Tryz.underlying36 hi hz0 hz1 _ _ _ _ n rfl rfl ?c1 ?c2 ?c3 ?c4 ?c5 ?_)
  case c1 => rfl
  case c2 => rfl
  case c3 => rw [hz2]; omega
  case c4 => unfold maxLen; omega
  case c5 => exact Nat.le_refl _
  intro w1 hown hgrow
  have hb : Below w.heap.size w w1 := (Below.refl _ w).grown hgrow (Nat.le_refl _) (by intro k hk; cases hk)
  have hs1 := H.out.later hb
  have hl := H.out.1
  obtain ⟨_, ⟨hv, _⟩ | ⟨g', cap, cur, hv, _, hg, _, _, hcs, _⟩⟩ := hown
  · cases hv
  cases hv
  obtain ⟨w2, hrun, hh, hk, _⟩ := copy3_run w1 3 w.heap.size n a c n cur l hg hcs hs1
  have hb2 : Below w.heap.size w w2 := hb.trans (hk.below (fun k h => by omega) hb.size)
  have hr2 := p3_to (n := n) hl hs1.2.2.2 hh
  clear hh hs1 hb hk hg hcs hgrow
  go_wp2
  go_ret
  exact ⟨w.heap.size, rfl, Nat.le_refl _, hr2, hb2⟩
end Go.Proofs.YtllkjmbcjlbmbaaGreat
end

section
namespace Go.Proofs.YtllkjmbcjlbmbaaGreat
open Go.RowKit Go.Maps Go.Shelf Go.Sort

theorem sorts : SortSaid := by
  intro g cap zs w hr hsz
  have hle := hr.le
  have hr0 := hr
  obtain ⟨cur, hb, hc, ht, hm⟩ := hr0
  have hlz : (zs.map (Value.int .i64)).length = zs.length := by simp
  rw [hlz] at hle ht
  have hH : Holds (Value.int .i64) w g 0 zs.toArray := holds_of_blockI hb ht
  refine (calls_of_every_depth fun D => AnyS.slices_Sort_int_in Tryz.lays189 D g 0 cap zs w hH hr.lt hsz).mono ?_
  rintro e w' ⟨rfl, n, os, rfl⟩
  have hl : (zs.mergeSort fun x y => decide (x ≤ y)).length = zs.length := List.length_mergeSort _
  have hg := grownBy_sortedI (w := w) (g := g) (n := n) (os := os) (zs.mergeSort fun x y => decide (x ≤ y)).toArray
  refine ⟨rfl, ⟨_, heap_sortedI _ hb, by simp [putCells, hc], ?_, hm⟩, ⟨hg.os, hg.tape, hg.output, hg.size, fun k hk hne => hg.block k hk (by simpa using hne)⟩⟩
  rw [List.length_map]
  exact take_putCellsI cur _ (by omega)

theorem ins_nil (w : World) : Calls Tryz.prog 93 #[.slice none 0 0, .int .i64 0, .int .i64 0] w fun e w' => e = .returned (.tuple #[]) ∧ w' = w := by
  go_enter Tryz.func93, Tryz.ntmps93
  go_wp2
  refine wp_loop_rounds 1 ?_
  rw [rounds_succ]
  go_wp2
  go_end0
  exact ⟨rfl, rfl⟩

theorem pdq_nil (n : Int) (w : World) : Calls Tryz.prog 81 #[.slice none 0 0, .int .i64 0, .int .i64 0, .int .i64 n] w fun e w' => e = .returned (.tuple #[]) ∧ w' = w := by
  go_enter Tryz.func81, Tryz.ntmps81
  go_wp2
  refine wp_loop_rounds 1 ?_
  rw [rounds_succ]
  go_wp2_with (go_at_call 93; refine (ins_nil _).mono ?_; rintro e w' ⟨rfl, rfl⟩)
  exact bodyPost_ret (results_none rfl _ _ _) rfl ⟨rfl, rfl⟩

theorem sortn : SortNil := by
  intro w
  go_enter Tryz.func62, Tryz.ntmps62
  go_wp2_with (first | (go_at_call 81; refine (pdq_nil _ _).mono ?_; rintro e w' ⟨rfl, rfl⟩) | go_in)
  go_end0
  exact ⟨rfl, RowKit.Below.refl _ _⟩
end Go.Proofs.YtllkjmbcjlbmbaaGreat
end

section
namespace Go.Proofs.YtllkjmbcjlbmbaaGreat
open Go.RowKit Go.Maps

def DS.wr (S : DS) (s : Nat) (x : Int) (n : Nat) (l : List Int) : Int × DS :=
  if S.fuse = 0 then (3, S) else if x < 0 ∨ (s : Int) ≤ x then (11, S.refuse) else if n ≠ 512 then (2, S.refuse) else (0, (S.put x.toNat l).wrote.spend)
def DS.rd (S : DS) (s : Nat) (x : Int) : Int × DS × List Int :=
  if S.fuse = 0 then (3, S, []) else if x < 0 ∨ (s : Int) ≤ x then (11, S.refuse, []) else (0, S.read, S.now x.toNat)
def DS.fl (S : DS) (s : Nat) : Int × DS := if S.fuse = 0 then (3, S) else (0, (S.flush s).spend)

theorem DiskAt.more {w w' : World} {F : Nat → Prop} {p s : Nat} {S : DS} (h : DiskAt w' F p s S) : DiskAt w' (more F w w') p s S :=
  h.mono (fun _ hk => .inl hk) (fun k hk => by rcases hk with hk | hk; exact h.lt k hk; exact hk.2)

theorem write_all {w : World} {F : Nat → Prop} {p s : Nat} {S : DS} (h : DiskAt w F p s S) (x : Int) (a : Option Addr) (n c : Nat) (l : List Int) (hs : Src w a n l) (hbig : S.puts.length + 1 ≤ 4000000000000) :
    Calls Tryz.prog 54 #[.pointer (some ⟨p, 0, none⟩), .int .i64 x, .slice a n c] w fun e w' => e = .returned (.int .i64 (S.wr s x n l).1) ∧ DiskAt w' (more F w w') p s (S.wr s x n l).2 ∧ Keeps F w w' := by
  by_cases hf : S.fuse = 0
  · simp only [DS.wr, hf, if_true]
    refine (write_dead h x a n c hf).mono ?_
    rintro e w' ⟨rfl, rfl⟩
    exact ⟨rfl, h.more, Keeps.refl _ _⟩
  · by_cases hx : x < 0 ∨ (s : Int) ≤ x
    · simp only [DS.wr, hf, if_false, hx, if_true]
      refine (write_range h x a n c hf hx).mono ?_
      rintro e w' ⟨rfl, h1, h2⟩
      exact ⟨rfl, h1.more, h2⟩
    · obtain ⟨k, rfl⟩ : ∃ k : Nat, x = (k : Int) := ⟨x.toNat, by omega⟩
      have hk : k < s := by omega
      by_cases hn : n = 512
      · subst hn
        simp only [DS.wr, hf, if_false, hx, ne_eq, not_true_eq_false, Int.toNat_natCast]
        obtain ⟨y, rfl⟩ : ∃ y, a = some y := by
          cases a with
          | none => have := hs.2.1 rfl; omega
          | some y => exact ⟨y, rfl⟩
        exact write_ok h k hk hf (by omega) y c l hs
      · simp only [DS.wr, hf, if_false, hx, ne_eq, hn, not_false_eq_true, if_true]
        refine (write_length h k a n c hf hk hn).mono ?_
        rintro e w' ⟨rfl, h1, h2⟩
        exact ⟨rfl, h1.more, h2⟩

/-- What a Read hands out. -/
def Out (lo : Nat) (w : World) (l : List Int) (v : Value) : Prop := ∃ a c, v = .slice a l.length c ∧ Src w a l.length l ∧ ∀ x, a = some x → lo ≤ x.block

theorem Out.nil (lo : Nat) (w : World) : Out lo w [] (.slice none 0 0) := ⟨none, 0, rfl, ⟨rfl, fun _ => rfl, fun x hx => by cases hx⟩, fun x hx => by cases hx⟩
theorem Out.row {lo : Nat} {w : World} {g c : Nat} {l : List Int} (h : RowAt w 5 g c (bs l)) (hg : lo ≤ g) : Out lo w l (.slice (some ⟨g, 0, none⟩) l.length c) := ⟨_, c, rfl, h.src, fun x hx => by cases hx; exact hg⟩

theorem read_all {w : World} {F : Nat → Prop} {p s : Nat} {S : DS} (h : DiskAt w F p s S) (x : Int) (hbig : S.puts.length + 1 ≤ 4000000000000) :
    Calls Tryz.prog 37 #[.pointer (some ⟨p, 0, none⟩), .int .i64 x] w fun e w' => ∃ v, e = .returned (.tuple #[v, .int .i64 (S.rd s x).1]) ∧ Out w.heap.size w' (S.rd s x).2.2 v ∧ DiskAt w' F p s (S.rd s x).2.1 ∧ Keeps F w w' := by
  by_cases hf : S.fuse = 0
  · simp only [DS.rd, hf, if_true]
    refine (read_dead h x hf).mono ?_
    rintro e w' ⟨rfl, rfl⟩
    exact ⟨_, rfl, Out.nil _ _, h, Keeps.refl _ _⟩
  · by_cases hx : x < 0 ∨ (s : Int) ≤ x
    · simp only [DS.rd, hf, if_false, hx, if_true]
      refine (read_range h x hf hx).mono ?_
      rintro e w' ⟨rfl, h1, h2⟩
      exact ⟨_, rfl, Out.nil _ _, h1, h2⟩
    · obtain ⟨k, rfl⟩ : ∃ k : Nat, x = (k : Int) := ⟨x.toNat, by omega⟩
      have hk : k < s := by omega
      simp only [DS.rd, hf, if_false, hx, Int.toNat_natCast]
      refine (read_ok h k hf hk (by omega)).mono ?_
      rintro e w' ⟨g, c, rfl, hg, hr, h1, h2⟩
      have := Out.row hr hg
      rw [now_len h.ok k hk] at this
      exact ⟨_, rfl, this, h1, h2⟩

theorem flush_all {w : World} {F : Nat → Prop} {p s : Nat} {S : DS} (h : DiskAt w F p s S) (hbig : S.puts.length + 1 ≤ 4000000000000) :
    Calls Tryz.prog 34 #[.pointer (some ⟨p, 0, none⟩)] w fun e w' => e = .returned (.int .i64 (S.fl s).1) ∧ DiskAt w' F p s (S.fl s).2 ∧ Keeps F w w' := by
  by_cases hf : S.fuse = 0
  · simp only [DS.fl, hf, if_true]
    refine (flush_dead h hf).mono ?_
    rintro e w' ⟨rfl, rfl⟩
    exact ⟨rfl, h, Keeps.refl _ _⟩
  · simp only [DS.fl, hf, if_false]
    exact flush_ok h hf (by omega)

theorem Src.far {w w' : World} {B : Nat} {a : Option Addr} {n : Nat} {l : List Int} (h : Src w a n l) (hb : Below B w w') (ha : ∀ x, a = some x → 0 < n → x.block < B) : Src w' a n l :=
  ⟨h.1, h.2.1, fun x hx i hi => (World.cell?_of_block (w := w) (by rw [blockOf_add]; exact hb.block _ (ha x hx (by omega)))).trans (h.2.2 x hx i hi)⟩
theorem PSrc.far {w w' : World} {B : Nat} {a : Option Addr} {n : Nat} {l : List P3} (h : PSrc w a n l) (hb : Below B w w') (ha : ∀ x, a = some x → 0 < n → x.block < B) : PSrc w' a n l := by
  refine ⟨h.1, h.2.1, fun x hx i hi => ?_, h.2.2.2⟩
  obtain ⟨b, o, rfl, h1, h2, h3⟩ := h.2.2.1 x hx i hi
  have e := hb.block b (ha _ hx (by have := h.1; omega))
  exact ⟨b, o, rfl, (World.cell?_of_block (w := w) (a := ⟨b, _, none⟩) e).trans h1, (World.cell?_of_block (w := w) (a := ⟨b, _, none⟩) e).trans h2, (World.cell?_of_block (w := w) (a := ⟨b, _, none⟩) e).trans h3⟩
theorem Out.keeps {lo : Nat} {w w' : World} {l : List Int} {v : Value} {F : Nat → Prop} (h : Out lo w l v) (hk : Keeps F w w') (hF : ∀ k, F k → k < lo) : Out lo w' l v := by
  obtain ⟨a, c, rfl, hs, hl⟩ := h
  refine ⟨a, c, rfl, ⟨hs.1, hs.2.1, fun x hx i hi => ?_⟩, hl⟩
  have h1 := hs.2.2 x hx i hi
  have hb := World.block_lt_of_cell? _ _ h1
  rw [blockOf_add] at hb
  exact (World.cell?_of_block (w := w) (by rw [blockOf_add]; exact hk.block _ hb (fun hf => by have := hF _ hf; have := hl x hx; omega))).trans h1
theorem same_out {lo lo' : Nat} {w : World} {l : List Int} {v v' : Value} (h : Out lo w l v) (h' : Out lo' w l v') (hn : l.length ≤ 140737488355328) :
    Calls Tryz.prog 27 #[v, v'] w fun e w' => e = .returned (.bool true) ∧ Below w.heap.size w w' := by
  obtain ⟨a, c, rfl, hs, _⟩ := h
  obtain ⟨a', c', rfl, hs', _⟩ := h'
  exact same_any a a' _ c c' l w hn hs hs'
theorem rd_len {S : DS} {s : Nat} (h : S.Ok s) (x : Int) : (S.rd s x).2.2.length ≤ 512 := by
  unfold DS.rd
  split
  · simp
  · split
    · simp
    · rename_i h1 h2
      show (S.now x.toNat).length ≤ 512
      rw [now_len h x.toNat (by omega)]
      exact Nat.le_refl _
theorem wr_puts (S : DS) (s : Nat) (x : Int) (n : Nat) (l : List Int) : (S.wr s x n l).2.puts.length ≤ S.puts.length + 1 := by
  unfold DS.wr
  split
  · simp
  · split
    · simp [DS.refuse]
    · split
      · simp [DS.refuse]
      · simp [DS.put, DS.wrote, DS.spend]
theorem rd_puts (S : DS) (s : Nat) (x : Int) : (S.rd s x).2.1.puts.length ≤ S.puts.length + 1 := by
  unfold DS.rd
  split
  · simp
  · split
    · simp [DS.refuse]
    · simp [DS.read]
theorem fl_puts (S : DS) (s : Nat) : (S.fl s).2.puts.length ≤ S.puts.length + 1 := by
  unfold DS.fl
  split
  · simp
  · simp [DS.flush, DS.spend]
theorem lay_puts (S : DS) (x : Int) : (S.lay x).puts.length ≤ S.puts.length + 1 := by
  unfold DS.lay
  split <;> simp

abbrev opV (kind x : Int) (a : Option Addr) (n c : Nat) (pa : Option Addr) (pn pc : Nat) : Value := .agg #[.int .i64 kind, .int .i64 x, .slice a n c, .slice pa pn pc]
abbrev opC (kind x : Int) (a : Option Addr) (n c : Nat) (pa : Option Addr) (pn pc : Nat) : Array Value := #[.int .i64 kind, .int .i64 x, .slice a n c, .slice pa pn pc]

theorem below_box (w : World) (o : Obj) : Below w.heap.size w (w.alloc o) := (Below.refl _ _).alloc (Nat.le_refl _) _

/-- What is told of an operation of the script: the lists that it holds lie below B. -/
structure OpOk (w : World) (B : Nat) (x : Int) (a : Option Addr) (n : Nat) (pa : Option Addr) (pn : Nat) (l : List Int) (pl : List P3) : Prop where
  x : x ≤ 9223372036854775807
  s : Src w a n l
  sB : ∀ x, a = some x → 0 < n → x.block < B
  n : n ≤ 140737488355328
  p : PSrc w pa pn pl
  pB : ∀ x, pa = some x → 0 < pn → x.block < B
  pn : 24 * pn ≤ 140737488355328

theorem OpOk.far {w w' : World} {B : Nat} {x : Int} {a : Option Addr} {n : Nat} {pa : Option Addr} {pn : Nat} {l : List Int} {pl : List P3} (h : OpOk w B x a n pa pn l pl) (hb : Below B w w') : OpOk w' B x a n pa pn l pl :=
  ⟨h.x, h.s.far hb h.sB, h.sB, h.n, h.p.far hb h.pB, h.pB, h.pn⟩

/-- What is told of a script: its operations lie below B, and so do their lists. -/
def Script (w : World) (B : Nat) (sa : Option Addr) (n : Nat) : Prop :=
  (sa = none → n = 0) ∧ ∀ y, sa = some y → ∀ i, i < n → ∃ b o, y = ⟨b, o, none⟩ ∧ b < B ∧ ∃ kind x a m c pa pn pc l pl,
    w.cell? ⟨b, o + i * 4, none⟩ = some (.int .i64 kind) ∧ w.cell? ⟨b, o + i * 4 + 1, none⟩ = some (.int .i64 x) ∧ w.cell? ⟨b, o + i * 4 + 2, none⟩ = some (.slice a m c) ∧ w.cell? ⟨b, o + i * 4 + 3, none⟩ = some (.slice pa pn pc) ∧ OpOk w B x a m pa pn l pl

theorem Script.far {w w' : World} {B : Nat} {sa : Option Addr} {n : Nat} (h : Script w B sa n) (hb : Below B w w') : Script w' B sa n := by
  refine ⟨h.1, fun y hy i hi => ?_⟩
  obtain ⟨b, o, rfl, hbB, kind, x, a, m, c, pa, pn, pc, l, pl, c0, c1, c2, c3, ho⟩ := h.2 y hy i hi
  have e := hb.block b hbB
  exact ⟨b, o, rfl, hbB, kind, x, a, m, c, pa, pn, pc, l, pl, (World.cell?_of_block (w := w) (a := ⟨b, _, none⟩) e).trans c0, (World.cell?_of_block (w := w) (a := ⟨b, _, none⟩) e).trans c1, (World.cell?_of_block (w := w) (a := ⟨b, _, none⟩) e).trans c2, (World.cell?_of_block (w := w) (a := ⟨b, _, none⟩) e).trans c3, ho.far hb⟩
end Go.Proofs.YtllkjmbcjlbmbaaGreat
end

section
namespace Go.Proofs.YtllkjmbcjlbmbaaGreat

/-- What the checksum of a sealed sector goes over. -/
def stext (body : List Int) : List Int := ((body.length % 256 : Nat) : Int) :: ((body.length / 256 : Nat) : Int) :: (body ++ List.replicate (504 - body.length) 0)
/-- The sealed sector with that turn and body. -/
def sform (t : Int) (body : List Int) : List Int :=
  t :: ((body.length % 256 : Nat) : Int) :: ((body.length / 256 : Nat) : Int) :: (bytes4 (sumOf (stext body)) ++ (body ++ (List.replicate (504 - body.length) 0 ++ [t])))
/-- The turn of what is written over a sector with these ends. -/
def turnOf (a b : Int) : Nat := if a ≠ 0 ∧ b ≠ 0 then 0 else if a ≠ 1 ∧ b ≠ 1 then 1 else 2

theorem turnOf_le (a b : Int) : turnOf a b ≤ 2 := by unfold turnOf; split <;> (try split) <;> omega
theorem turnOf_ne (a b : Int) : ((turnOf a b : Nat) : Int) ≠ a ∧ ((turnOf a b : Nat) : Int) ≠ b := by
  unfold turnOf
  by_cases h : a ≠ 0 ∧ b ≠ 0
  · rw [if_pos h]; omega
  · rw [if_neg h]
    by_cases h1 : a ≠ 1 ∧ b ≠ 1
    · rw [if_pos h1]; omega
    · rw [if_neg h1]; omega

theorem bytes4_len (s : Nat) : (bytes4 s).length = 4 := rfl
theorem bytes4_bytes (s : Nat) : Bytes (bytes4 s) := by
  intro x hx
  simp only [bytes4, List.mem_cons, List.not_mem_nil, or_false] at hx
  omega
theorem stext_len {body : List Int} (h : body.length ≤ 504) : (stext body).length = 506 := by simp [stext]; omega
theorem sform_len {t : Int} {body : List Int} (h : body.length ≤ 504) : (sform t body).length = 512 := by simp [sform, bytes4_len]; omega
theorem Bytes.append {a b : List Int} (ha : Bytes a) (hb : Bytes b) : Bytes (a ++ b) := fun x hx => (List.mem_append.1 hx).elim (ha x) (hb x)
theorem Bytes.cons {a : Int} {b : List Int} (ha : 0 ≤ a ∧ a < 256) (hb : Bytes b) : Bytes (a :: b) := fun x hx => (List.mem_cons.1 hx).elim (fun h => h ▸ ha) (hb x)
theorem Bytes.nil : Bytes [] := fun _ hx => by cases hx
theorem Bytes.zeros (n : Nat) : Bytes (List.replicate n 0) := fun x hx => by rw [List.eq_of_mem_replicate hx]; omega
theorem Bytes.take {l : List Int} (h : Bytes l) (n : Nat) : Bytes (l.take n) := fun x hx => h x (List.mem_of_mem_take hx)
theorem Bytes.drop {l : List Int} (h : Bytes l) (n : Nat) : Bytes (l.drop n) := fun x hx => h x (List.mem_of_mem_drop hx)
theorem Bytes.getD {l : List Int} (h : Bytes l) (i : Nat) : 0 ≤ l.getD i 0 ∧ l.getD i 0 < 256 := by
  by_cases hi : i < l.length
  · have := h l[i] (List.getElem_mem hi)
    simpa [List.getD, hi] using this
  · simp [List.getD, List.getElem?_eq_none (Nat.le_of_not_lt hi)]
theorem stext_bytes {body : List Int} (h : Bytes body) (hl : body.length ≤ 504) : Bytes (stext body) :=
  .cons (by omega) (.cons (by omega) (h.append (.zeros _)))
theorem sform_bytes {t : Int} {body : List Int} (h : Bytes body) (hl : body.length ≤ 504) (ht : 0 ≤ t ∧ t < 256) : Bytes (sform t body) :=
  .cons ht (.cons (by omega) (.cons (by omega) ((bytes4_bytes _).append (h.append ((Bytes.zeros _).append (.cons ht .nil))))))

/-- The length that a sector tells. -/
def slen (s : List Int) : Nat := (s.getD 1 0 + 256 * s.getD 2 0).toNat
/-- Its body. -/
def sbody (s : List Int) : List Int := (s.drop 7).take (slen s)
/-- What Open tells. -/
def sopen (s : List Int) : Option (List Int) := if slen s ≤ 504 ∧ s.getD 0 0 ≤ 2 ∧ sform (s.getD 0 0) (sbody s) = s then some (sbody s) else none

theorem slen_form (t : Int) (body : List Int) (h : body.length ≤ 504) : slen (sform t body) = body.length := by
  simp [slen, sform, List.getD]; omega
theorem sform_drop (t : Int) (body : List Int) : (sform t body).drop 7 = body ++ (List.replicate (504 - body.length) 0 ++ [t]) := by
  simp [sform, bytes4]
theorem sbody_form (t : Int) (body : List Int) (h : body.length ≤ 504) : sbody (sform t body) = body := by
  rw [sbody, slen_form t body h, sform_drop]
  simp
theorem sform_first (t : Int) (body : List Int) : (sform t body).getD 0 0 = t := rfl
theorem sform_last (t : Int) (body : List Int) (h : body.length ≤ 504) : (sform t body).getD 511 0 = t := by
  have e : sform t body = (t :: ((body.length % 256 : Nat) : Int) :: ((body.length / 256 : Nat) : Int) :: (bytes4 (sumOf (stext body)) ++ (body ++ List.replicate (504 - body.length) 0))) ++ [t] := by
    simp [sform]
  rw [e, List.getD, List.getElem?_append_right (by simp [bytes4_len]; omega)]
  have : 511 - (t :: ((body.length % 256 : Nat) : Int) :: ((body.length / 256 : Nat) : Int) :: (bytes4 (sumOf (stext body)) ++ (body ++ List.replicate (504 - body.length) 0))).length = 0 := by
    simp [bytes4_len]; omega
  rw [this]; rfl
theorem sopen_form (t : Int) (body : List Int) (h : body.length ≤ 504) (ht : t ≤ 2) : sopen (sform t body) = some body := by
  unfold sopen
  rw [slen_form t body h, sform_first, sbody_form t body h, if_pos ⟨h, ht, rfl⟩]
theorem sopen_some {s body : List Int} (h : sopen s = some body) : slen s ≤ 504 ∧ s.getD 0 0 ≤ 2 ∧ sform (s.getD 0 0) (sbody s) = s ∧ body = sbody s := by
  unfold sopen at h
  split at h
  · next hc => exact ⟨hc.1, hc.2.1, hc.2.2, (Option.some.inj h).symm⟩
  · cases h
theorem sbody_len {s : List Int} (h : slen s ≤ 504) (hs : s.length = 512) : (sbody s).length = slen s := by
  simp [sbody]; omega
theorem sopen_len {s body : List Int} (h : sopen s = some body) (hs : s.length = 512) : body.length ≤ 504 := by
  obtain ⟨h1, _, _, rfl⟩ := sopen_some h
  rw [sbody_len h1 hs]; exact h1
theorem sopen_ends {s body : List Int} (h : sopen s = some body) (hs : s.length = 512) : s.getD 511 0 = s.getD 0 0 := by
  have hl := sopen_len h hs
  obtain ⟨h1, _, h3, rfl⟩ := sopen_some h
  rw [← h3, sform_last _ _ hl, sform_first]

/-- What the sum goes over, of a sector. -/
def stextOf (s : List Int) : List Int := (s.drop 1).take 2 ++ (s.drop 7).take 504
theorem stextOf_form (t : Int) (body : List Int) (h : body.length ≤ 504) : stextOf (sform t body) = stext body := by
  rw [stextOf, sform_drop, ← List.append_assoc, List.take_left' (by simp; omega)]
  simp [sform, stext]
theorem ssum_form (t : Int) (body : List Int) : ((sform t body).drop 3).take 4 = bytes4 (sumOf (stext body)) := by
  simp [sform, bytes4]
/-- A sealed sector's sum is right. -/
theorem sopen_sum {s body : List Int} (h : sopen s = some body) (hs : s.length = 512) : (s.drop 3).take 4 = bytes4 (sumOf (stextOf s)) := by
  have hl := sopen_len h hs
  obtain ⟨h1, _, h3, rfl⟩ := sopen_some h
  rw [← h3, ssum_form, stextOf_form _ _ hl]

/-- An anchor's number and data; 0: it is none. -/
def sanchor (s : List Int) : Nat × List Int :=
  match sopen s with
  | none => (0, [])
  | some body => if 8 ≤ body.length ∧ le (body.take 8) < 9223372036854775808 then (le (body.take 8), body.drop 8) else (0, [])
/-- What Newest tells: slot, number, data, error. -/
def snewest (l r : List Int) : Nat × Nat × List Int × Nat :=
  if l.length ≠ 512 ∨ r.length ≠ 512 then (0, 0, [], 2) else
  if (sanchor l).1 = 0 ∧ (sanchor r).1 = 0 then (0, 0, [], 30) else
  if (sanchor l).1 < (sanchor r).1 then (1, (sanchor r).1, (sanchor r).2, 0) else (0, (sanchor l).1, (sanchor l).2, 0)

/-- Eight bytes of a number, the low one first. -/
def bytes8 (n : Nat) : List Int := (List.range 8).map (fun k => ((n / 256 ^ k % 256 : Nat) : Int))
/-- What Seal tells. -/
def sseal (old body : List Int) : List Int × Nat :=
  if old.length ≠ 512 then ([], 2) else if 504 < body.length then ([], 7) else (sform (turnOf (old.getD 0 0) (old.getD 511 0)) body, 0)
def sopens (s : List Int) : List Int × Nat :=
  if s.length ≠ 512 then ([], 2) else match sopen s with | none => ([], 30) | some b => (b, 0)
/-- What Renew tells. -/
def srenew (l r : List Int) (number : Int) (data : List Int) : Nat × List Int × Nat :=
  if l.length ≠ 512 ∨ r.length ≠ 512 then (0, [], 2) else
  if number < 1 then (0, [], 1) else
  if 496 < data.length then (0, [], 7) else
  let a := snewest l r
  if number ≤ a.2.1 then (0, [], 31) else
  if a.2.2.2 = 0 ∧ a.1 = 0 then (1, sform (turnOf (r.getD 0 0) (r.getD 511 0)) (bytes8 number.toNat ++ data), 0)
  else (0, sform (turnOf (l.getD 0 0) (l.getD 511 0)) (bytes8 number.toNat ++ data), 0)
end Go.Proofs.YtllkjmbcjlbmbaaGreat
end

section
namespace Go.Proofs.YtllkjmbcjlbmbaaGreat

/-- The parity of a number's bits. -/
def par (n : Nat) : Nat := if n = 0 then 0 else (n % 2 + par (n / 2)) % 2
termination_by n
decreasing_by omega
theorem par_half (n : Nat) : par n = (n % 2 + par (n / 2)) % 2 := by
  by_cases h : n = 0
  · subst h; rw [par]; simp
  · conv => lhs; rw [par, if_neg h]
theorem par_zero : par 0 = 0 := by rw [par]; simp
theorem par_lt (n : Nat) : par n < 2 := by rw [par_half]; omega
theorem xor_half (a b : Nat) : (a ^^^ b) / 2 = a / 2 ^^^ b / 2 := by
  have := Nat.xor_div_two (a := a) (b := b)
  exact this
theorem xor_low1 (a b : Nat) : (a ^^^ b) % 2 = (a % 2 + b % 2) % 2 := by
  have := Nat.xor_mod_two_pow (a := a) (b := b) (n := 1)
  rw [Nat.pow_one] at this
  rw [this]
  rcases Nat.mod_two_eq_zero_or_one a with ha | ha <;> rcases Nat.mod_two_eq_zero_or_one b with hb | hb <;> rw [ha, hb] <;> rfl
theorem xor_swap (a b c : Nat) : a ^^^ b ^^^ c = a ^^^ c ^^^ b := by rw [Nat.xor_assoc, Nat.xor_comm b c, ← Nat.xor_assoc]
theorem par_xor (a b : Nat) : par (a ^^^ b) = (par a + par b) % 2 := by
  induction a using Nat.strongRecOn generalizing b with
  | ind a ih =>
    by_cases h : a = 0
    · subst h
      have := par_lt b
      simp [par_zero]; omega
    · rw [par_half (a ^^^ b), par_half a, par_half b, xor_half, xor_low1, ih (a / 2) (by omega)]
      omega
theorem par_pow (n : Nat) : par (2 ^ n) = 1 := by
  induction n with
  | zero => rw [par_half]; simp; rw [par_zero]
  | succ n ih => rw [par_half, Nat.pow_succ, Nat.mul_mod_left, Nat.mul_div_cancel _ (by omega), ih]
theorem par_poly : par 2197175160 = 1 := by
  have e : 2197175160 = 2 ^ 31 ^^^ 2 ^ 25 ^^^ 2 ^ 23 ^^^ 2 ^ 22 ^^^ 2 ^ 21 ^^^ 2 ^ 20 ^^^ 2 ^ 18 ^^^ 2 ^ 17 ^^^ 2 ^ 13 ^^^ 2 ^ 12 ^^^ 2 ^ 11 ^^^ 2 ^ 9 ^^^ 2 ^ 8 ^^^ 2 ^ 6 ^^^ 2 ^ 5 ^^^ 2 ^ 4 ^^^ 2 ^ 3 := by decide
  rw [e]
  simp only [par_xor, par_pow]
theorem par_cb (r : Nat) : par (cb r) = par r := by
  unfold cb
  rw [par_half r]
  by_cases h : r % 2 = 1
  · rw [if_pos h, par_xor, par_poly, h]; omega
  · rw [if_neg h]
    have := par_lt (r / 2)
    simp; omega
theorem par_cbs (n r : Nat) : par (cbs n r) = par r := by
  induction n generalizing r with
  | zero => rfl
  | succ n ih => rw [cbs, ih, par_cb]

/-- The register comes to 1 in none of n steps. -/
def away : Nat → Nat → Bool
  | 0, _ => true
  | n + 1, s => if cb s = 1 then false else away n (cb s)
theorem away_spec : ∀ (n s : Nat), away n s = true → ∀ a, a < n → cbs (a + 1) s ≠ 1
  | 0, _, _, a, ha => by omega
  | n + 1, s, h, a, ha => by
    unfold away at h
    split at h
    · cases h
    · next hc =>
      cases a with
      | zero => exact hc
      | succ a => exact away_spec n (cb s) h a (by omega)
theorem order {a : Nat} (h0 : 0 < a) (h1 : a ≤ 4080) : cbs a 1 ≠ 1 := by
  have h : away 4080 1 = true := by decide +kernel
  have := away_spec 4080 1 h (a - 1) (by omega)
  rwa [show a - 1 + 1 = a by omega] at this

theorem mul_xor (n a b : Nat) : 2 ^ n * (a ^^^ b) = 2 ^ n * a ^^^ 2 ^ n * b := by
  have := Nat.shiftLeft_xor_distrib (a := a) (b := b) (i := n)
  simpa [Nat.shiftLeft_eq, Nat.mul_comm] using this

theorem le_set {l : List Int} (h : Bytes l) (i : Nat) (x : Int) (hx : 0 ≤ x ∧ x < 256) (hi : i < l.length) :
    le (l.set i x) = le l ^^^ 2 ^ (8 * i) * ((l.getD i 0).toNat ^^^ x.toNat) := by
  induction l generalizing i with
  | nil => simp at hi
  | cons y t ih =>
    have hy := h y (by simp)
    have ht : Bytes t := fun z hz => h z (by simp [hz])
    have e : ∀ (z : Int) (u : List Int), (0 ≤ z ∧ z < 256) → le (z :: u) = z.toNat ^^^ 2 ^ 8 * le u := fun z u hz => by
      have := le_xappend (a := [z]) u (fun q hq => by simp at hq; subst hq; exact hz)
      simpa [le] using this
    cases i with
    | zero =>
      rw [List.set_cons_zero, e x t hx, e y t hy]
      simp only [Nat.mul_zero, Nat.pow_zero, Nat.one_mul]
      show x.toNat ^^^ 2 ^ 8 * le t = y.toNat ^^^ 2 ^ 8 * le t ^^^ (y.toNat ^^^ x.toNat)
      rw [xor_swap, ← Nat.xor_assoc y.toNat, Nat.xor_self, Nat.zero_xor]
    | succ i =>
      rw [List.set_cons_succ, e y _ hy, e y t hy, ih ht i (by simpa using hi), mul_xor, ← Nat.mul_assoc, ← Nat.pow_add, ← Nat.xor_assoc]
      have : (y :: t).getD (i + 1) 0 = t.getD i 0 := rfl
      rw [this, show 8 + 8 * i = 8 * (i + 1) by omega]

/-- Where the bytes of the word lie in the sector. -/
def psi (j : Nat) : Nat := if j < 2 then j + 1 else if j < 506 then j + 5 else j - 503
/-- Where a sector's byte lies in the word. -/
def phi (k : Nat) : Nat := if k < 3 then k - 1 else if k < 7 then k + 503 else k - 5
/-- The sector as one word: the text and its sum. -/
def cwl (s : List Int) : List Int := (List.range 510).map (fun j => s.getD (psi j) 0)
theorem cwl_len (s : List Int) : (cwl s).length = 510 := by simp [cwl]
theorem cwl_bytes {s : List Int} (h : Bytes s) : Bytes (cwl s) := by
  intro x hx
  obtain ⟨j, _, rfl⟩ := List.mem_map.1 hx
  exact h.getD _
theorem cwl_eq {s : List Int} (hs : s.length = 512) : cwl s = stextOf s ++ (s.drop 3).take 4 := by
  apply List.ext_getElem?
  intro j
  have h1 : ((s.drop 1).take 2).length = 2 := by simp; omega
  have h2 : ((s.drop 7).take 504).length = 504 := by simp; omega
  have h3 : (stextOf s).length = 506 := by simp [stextOf]; omega
  by_cases hj : j < 510
  · have hL : (cwl s)[j]? = some (s.getD (psi j) 0) := by simp [cwl, hj]
    rw [hL]
    by_cases a : j < 506
    · rw [List.getElem?_append_left (by omega)]
      unfold stextOf
      by_cases b : j < 2
      · rw [List.getElem?_append_left (by omega)]
        simp only [psi, b, if_true, List.getElem?_take, List.getElem?_drop, List.getD]
        rw [show 1 + j = j + 1 by omega, List.getElem?_eq_getElem (by omega)]
        rfl
      · rw [List.getElem?_append_right (by omega), h1]
        simp only [psi, b, a, if_false, if_true, List.getElem?_take, List.getElem?_drop, List.getD]
        rw [if_pos (by omega), show 7 + (j - 2) = j + 5 by omega, List.getElem?_eq_getElem (by omega)]
        rfl
    · rw [List.getElem?_append_right (by omega), h3]
      simp only [psi, a, show ¬ j < 2 by omega, if_false, List.getElem?_take, List.getElem?_drop, List.getD]
      rw [if_pos (by omega), show 3 + (j - 506) = j - 503 by omega, List.getElem?_eq_getElem (by omega)]
      rfl
  · rw [List.getElem?_eq_none (by rw [cwl_len]; omega), List.getElem?_eq_none (by simp [h3]; omega)]
theorem cwl_set {s : List Int} (hs : s.length = 512) (k : Nat) (h1 : 1 ≤ k) (h2 : k ≤ 510) (x : Int) : cwl (s.set k x) = (cwl s).set (phi k) x := by
  apply List.ext_getElem?
  intro j
  by_cases hj : j < 510
  · have hL : (cwl (s.set k x))[j]? = some ((s.set k x).getD (psi j) 0) := by simp [cwl, hj]
    rw [hL]
    by_cases e : j = phi k
    · have e2 : psi j = k := by rw [e]; unfold psi phi; repeat (first | omega | split)
      rw [e2, e, List.getElem?_set_self (by rw [cwl_len]; omega), List.getD, List.getElem?_set_self (by omega)]
      rfl
    · have e2 : psi j ≠ k := by intro h; apply e; rw [← h]; unfold psi phi; repeat (first | omega | split)
      rw [List.getElem?_set_ne (by omega), List.getD, List.getElem?_set_ne (by omega)]
      simp [cwl, hj, List.getD]
  · rw [List.getElem?_eq_none (by rw [cwl_len]; omega), List.getElem?_eq_none (by simp [cwl_len]; omega)]

/-- What a sealed sector's word comes to. -/
theorem sopen_word {s body : List Int} (h : sopen s = some body) (hs : s.length = 512) (hb : Bytes s) : cbs 4080 (4294967295 ^^^ le (cwl s)) = cbs 32 4294967295 := by
  have h1 : cwl s = stextOf s ++ bytes4 (sumOf (stextOf s)) := by rw [cwl_eq hs, sopen_sum h hs]
  have h2 : Bytes (stextOf s) := Bytes.append ((hb.drop _).take _) ((hb.drop _).take _)
  have h3 := crc_own h2
  rw [← h1] at h3
  unfold crc at h3
  rwa [cwl_len] at h3
theorem sopen_two {s s' body body' : List Int} (h : sopen s = some body) (hs : s.length = 512) (hb : Bytes s) (h' : sopen s' = some body') (hs' : s'.length = 512) (hb' : Bytes s') :
    cbs 4080 (le (cwl s) ^^^ le (cwl s')) = 0 := by
  have h1 := sopen_word h hs hb
  have h2 := sopen_word h' hs' hb'
  have e : le (cwl s) ^^^ le (cwl s') = (4294967295 ^^^ le (cwl s)) ^^^ (4294967295 ^^^ le (cwl s')) := by
    rw [xor_swap 4294967295 (le (cwl s)), ← Nat.xor_assoc 4294967295 4294967295, Nat.xor_self, Nat.zero_xor, Nat.xor_comm]
  rw [e, cbs_xor, h1, h2, Nat.xor_self]

/-- One bit of the bytes 1 to 510 turned over. -/
def sflip (s : List Int) (p : Nat) : List Int := s.set (1 + p / 8) (((s.getD (1 + p / 8) 0).toNat ^^^ 2 ^ (p % 8) : Nat) : Int)
def spos (p : Nat) : Nat := 8 * phi (1 + p / 8) + p % 8
theorem sflip_len (s : List Int) (p : Nat) : (sflip s p).length = s.length := by simp [sflip]
theorem byte_flip {x : Int} (hx : 0 ≤ x ∧ x < 256) (k : Nat) (hk : k < 8) : x.toNat ^^^ 2 ^ k < 256 := by
  have h1 : 2 ^ k ≤ 2 ^ 7 := Nat.pow_le_pow_right (by omega) (by omega)
  have : x.toNat ^^^ 2 ^ k < 2 ^ 8 := Nat.xor_lt_two_pow (by omega) (by omega)
  omega
theorem sflip_bytes {s : List Int} (h : Bytes s) (p : Nat) : Bytes (sflip s p) := by
  intro x hx
  rcases List.mem_or_eq_of_mem_set hx with h1 | h1
  · exact h x h1
  · subst h1
    have := byte_flip (h.getD (1 + p / 8)) (p % 8) (by omega)
    omega
theorem phi_lt {k : Nat} (h1 : 1 ≤ k) (h2 : k ≤ 510) : phi k < 510 := by unfold phi; repeat (first | omega | split)
theorem cwl_flip {s : List Int} (hs : s.length = 512) (h : Bytes s) (p : Nat) (hp : p < 4080) : le (cwl (sflip s p)) = le (cwl s) ^^^ 2 ^ spos p := by
  have hk1 : 1 ≤ 1 + p / 8 := by omega
  have hk2 : 1 + p / 8 ≤ 510 := by omega
  have hf := phi_lt hk1 hk2
  have hb := byte_flip (h.getD (1 + p / 8)) (p % 8) (by omega)
  unfold sflip
  rw [cwl_set hs _ hk1 hk2, le_set (cwl_bytes h) _ _ (by omega) (by rw [cwl_len]; exact hf)]
  have e : (cwl s).getD (phi (1 + p / 8)) 0 = s.getD (1 + p / 8) 0 := by
    have e2 : psi (phi (1 + p / 8)) = 1 + p / 8 := by
      generalize 1 + p / 8 = k at *
      unfold psi phi; repeat (first | omega | split)
    rw [List.getD, cwl, List.getElem?_map, List.getElem?_range hf]
    show s.getD (psi (phi (1 + p / 8))) 0 = _
    rw [e2]
  rw [e, Int.toNat_natCast, ← Nat.xor_assoc, Nat.xor_self, Nat.zero_xor, ← Nat.pow_add]
  rfl
theorem spos_lt {p : Nat} (hp : p < 4080) : spos p < 4080 := by
  have := phi_lt (k := 1 + p / 8) (by omega) (by omega)
  unfold spos; omega
theorem phi_inj {a b : Nat} (ha : 1 ≤ a ∧ a ≤ 510) (hb : 1 ≤ b ∧ b ≤ 510) (h : phi a = phi b) : a = b := by
  unfold phi at h; revert h; repeat (first | omega | split)
theorem spos_inj {p q : Nat} (hp : p < 4080) (hq : q < 4080) (h : spos p = spos q) : p = q := by
  unfold spos at h
  have h1 : phi (1 + p / 8) = phi (1 + q / 8) := by omega
  have := phi_inj (by omega) (by omega) h1
  omega
theorem sflip_twice {s : List Int} (h : Bytes s) (p : Nat) (hp : 1 + p / 8 < s.length) : sflip (sflip s p) p = s := by
  have hb := h.getD (1 + p / 8)
  unfold sflip
  rw [List.set_set]
  have e : (s.set (1 + p / 8) (((s.getD (1 + p / 8) 0).toNat ^^^ 2 ^ (p % 8) : Nat) : Int)).getD (1 + p / 8) 0 = (((s.getD (1 + p / 8) 0).toNat ^^^ 2 ^ (p % 8) : Nat) : Int) := by
    rw [List.getD, List.getElem?_set_self hp]; rfl
  rw [e, Int.toNat_natCast, Nat.xor_assoc, Nat.xor_self, Nat.xor_zero]
  have : ((s.getD (1 + p / 8) 0).toNat : Int) = s[1 + p / 8] := by
    rw [Int.toNat_of_nonneg hb.1]; simp [List.getD, hp]
  rw [this]; exact List.set_getElem_self hp

theorem none_of {α : Type} {o : Option α} (h : ∀ x, o = some x → False) : o = none := by
  cases o with
  | none => rfl
  | some x => exact (h x rfl).elim
theorem not_flat {d : Nat} (h : cbs 4080 d = 0) (hp : par d = 1) : False := by
  have := par_cbs 4080 d
  rw [h, par_zero] at this
  omega
theorem rot1 {s body : List Int} (h : sopen s = some body) (hs : s.length = 512) (hb : Bytes s) {p : Nat} (hp : p < 4080) : sopen (sflip s p) = none :=
  none_of fun b' h' => by
    have h1 := sopen_two h hs hb h' ((sflip_len _ _).trans hs) (sflip_bytes hb _)
    rw [cwl_flip hs hb p hp, ← Nat.xor_assoc, Nat.xor_self, Nat.zero_xor] at h1
    exact not_flat h1 (par_pow _)
theorem two_bits {p q : Nat} (hpq : p < q) (hq : q < 4080) (h : cbs 4080 (2 ^ p ^^^ 2 ^ q) = 0) : False := by
  have e : 2 ^ p ^^^ 2 ^ q = 2 ^ p * (1 ^^^ 2 ^ (q - p)) := by
    rw [mul_xor, Nat.mul_one, ← Nat.pow_add, show p + (q - p) = q by omega]
  rw [e, show 4080 = p + ((q - p) + (4080 - q)) by omega, cbs_add, cbs_pow, cbs_add, cbs_xor] at h
  have e2 : cbs (q - p) (2 ^ (q - p)) = 1 := by have := cbs_pow (q - p) 1; rwa [Nat.mul_one] at this
  rw [e2] at h
  have h3 : cbs (q - p) 1 < 4294967296 := cbs_lt _ (by omega)
  have h4 : cbs (q - p) 1 ^^^ 1 < 4294967296 := by
    have : cbs (q - p) 1 ^^^ 1 < 2 ^ 32 := Nat.xor_lt_two_pow (by omega) (by omega)
    omega
  exact order (by omega) (by omega) (xor_none (cbs_none _ h4 h))
theorem rot2 {s body : List Int} (h : sopen s = some body) (hs : s.length = 512) (hb : Bytes s) {p q : Nat} (hp : p < 4080) (hq : q < 4080) (hne : p ≠ q) : sopen (sflip (sflip s p) q) = none :=
  none_of fun b' h' => by
    have hs1 := (sflip_len s p).trans hs
    have hb1 := sflip_bytes hb p
    have h1 := sopen_two h hs hb h' ((sflip_len _ _).trans hs1) (sflip_bytes hb1 _)
    rw [cwl_flip hs1 hb1 q hq, cwl_flip hs hb p hp, ← Nat.xor_assoc, ← Nat.xor_assoc, Nat.xor_self, Nat.zero_xor] at h1
    have hn : spos p ≠ spos q := fun e => hne (spos_inj hp hq e)
    have l1 := spos_lt hp
    have l2 := spos_lt hq
    rcases Nat.lt_or_gt_of_ne hn with hlt | hlt
    · exact two_bits hlt l2 h1
    · rw [Nat.xor_comm] at h1
      exact two_bits hlt l1 h1
theorem rot3 {s body : List Int} (h : sopen s = some body) (hs : s.length = 512) (hb : Bytes s) {p q r : Nat} (hp : p < 4080) (hq : q < 4080) (hr : r < 4080) : sopen (sflip (sflip (sflip s p) q) r) = none :=
  none_of fun b' h' => by
    have hs1 := (sflip_len s p).trans hs
    have hb1 := sflip_bytes hb p
    have hs2 := (sflip_len (sflip s p) q).trans hs1
    have hb2 := sflip_bytes hb1 q
    have h1 := sopen_two h hs hb h' ((sflip_len _ _).trans hs2) (sflip_bytes hb2 _)
    rw [cwl_flip hs2 hb2 r hr, cwl_flip hs1 hb1 q hq, cwl_flip hs hb p hp, ← Nat.xor_assoc, ← Nat.xor_assoc, ← Nat.xor_assoc, Nat.xor_self, Nat.zero_xor] at h1
    refine not_flat h1 ?_
    rw [par_xor, par_xor, par_pow, par_pow, par_pow]
end Go.Proofs.YtllkjmbcjlbmbaaGreat
end
