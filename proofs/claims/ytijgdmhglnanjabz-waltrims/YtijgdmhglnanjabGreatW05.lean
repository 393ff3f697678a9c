import Derived.Test.YtijgdmhglnanjabGreatW04
import Derived.Shelf.Lays
import Derived.Test.YtijgdmhglnanjabGreatProg
import Derived.Shelf.Sort.AssemblyIn
import Derived.Sort.EveryDepth
import Derived.Sort.OwnSortedInts
section
namespace Go.Proofs.YtijgdmhglnanjabGreat
open Go.RowKit Go.Maps

theorem infoPick : (Tryz.prog.info? 102).map (fun i => (i.zero, i.size, i.bytes)) = some (some (.agg #[.int .i64 0, .int .i64 0, .int .i64 0]), 3, 24) := by kernel_rfl
theorem sizePick : (Tryz.prog.info? 102).map (·.size) = some 3 := by kernel_rfl

def p3 (l : List P3) : List Value := l.flatMap (fun q => [.int .i64 q.1, .int .i64 q.2.1, .int .i64 q.2.2])

theorem p3_len : ∀ l : List P3, (p3 l).length = l.length * 3
  | [] => rfl
  | q :: l => by have := p3_len l; simp only [p3, List.flatMap_cons, List.length_append, List.length_cons, List.length_nil] at this ⊢; omega

theorem p3_one (l : List P3) : ∀ v ∈ p3 l, v.oneCell' = true := by
  intro v hv
  simp only [p3, List.mem_flatMap] at hv
  obtain ⟨q, _, h⟩ := hv
  simp at h
  rcases h with rfl | rfl | rfl <;> rfl

theorem p3_at : ∀ (l : List P3) (i : Nat) (hi : i < l.length), (p3 l)[i * 3]? = some (.int .i64 l[i].1) ∧ (p3 l)[i * 3 + 1]? = some (.int .i64 l[i].2.1) ∧ (p3 l)[i * 3 + 2]? = some (.int .i64 l[i].2.2)
  | q :: l, 0, _ => by simp [p3]
  | q :: l, i + 1, hi => by
    have := p3_at l i (by simpa using hi)
    have e : p3 (q :: l) = [.int .i64 q.1, .int .i64 q.2.1, .int .i64 q.2.2] ++ p3 l := rfl
    rw [e, List.getElem?_append_right (by simp; omega), List.getElem?_append_right (by simp; omega), List.getElem?_append_right (by simp; omega)]
    simp only [List.length_cons, List.length_nil, List.getElem_cons_succ]
    rw [show (i + 1) * 3 - (0 + 1 + 1 + 1) = i * 3 by omega, show (i + 1) * 3 + 1 - (0 + 1 + 1 + 1) = i * 3 + 1 by omega, show (i + 1) * 3 + 2 - (0 + 1 + 1 + 1) = i * 3 + 2 by omega]
    exact this

theorem p3_src {w : World} {b o n : Nat} {l : List P3} (h : PSrc w (some ⟨b, o, none⟩) n l) (j : Nat) (v : Value) (hv : (p3 l)[j]? = some v) : w.cell? ((⟨b, o, none⟩ : Addr).add j) = some v := by
  rw [addr_add]
  have hj := (List.getElem?_eq_some_iff.1 hv).1
  rw [p3_len] at hj
  obtain ⟨i, t, ht, rfl⟩ : ∃ i t, t < 3 ∧ j = i * 3 + t := ⟨j / 3, j % 3, by omega, by omega⟩
  have hi : i < l.length := by omega
  obtain ⟨e0, e1, e2⟩ := p3_at l i hi
  obtain ⟨b', o', hx, c0, c1, c2⟩ := h.2.2.1 _ rfl i hi
  cases hx
  rw [← Nat.add_assoc]
  match t, ht with
  | 0, _ => rw [Nat.add_zero] at hv ⊢; rw [e0] at hv; rw [c0]; exact hv
  | 1, _ => rw [e1] at hv; rw [c1]; exact hv
  | 2, _ => rw [e2] at hv; rw [c2]; exact hv

theorem p3_to {w : World} {g n : Nat} {l : List P3} (hn : l.length = n) (hb : ∀ q ∈ l, q.1 ≤ 9223372036854775807 ∧ q.2.1 ≤ 9223372036854775807 ∧ q.2.2 ≤ 9223372036854775807) (h : w.heap[g]? = some (.cells (p3 l).toArray 102 (0, 0))) : PSrc w (some ⟨g, 0, none⟩) n l := by
  refine ⟨hn, (fun h => by cases h), fun x hx i hi => ?_, hb⟩
  cases hx
  obtain ⟨e0, e1, e2⟩ := p3_at l i hi
  refine ⟨g, 0, rfl, ?_, ?_, ?_⟩ <;> (simp only [World.cell?, h, Nat.zero_add]; simpa using ‹_›)

/-- copy of elements of three cells. -/
theorem copy3_run (w : World) (ty : TypeId) (g n : Nat) (a : Option Addr) (c d : Nat) (cur : Array Value) (l : List P3) (hg : w.heap[g]? = some (.cells cur 102 (0, 0))) (hcur : cur.size = n * 3) (hs : PSrc w a n l) :
    ∃ w2, (Builtin.copy_ #[36, 36] ty #[.slice (some ⟨g, 0, none⟩) n d, .slice a n c]).run Tryz.prog w = .ok (goInt n) w2 ∧
      w2.heap[g]? = some (.cells (p3 l).toArray 102 (0, 0)) ∧ Keeps (fun k => k = g) w w2 ∧ w2.heap.size = w.heap.size := by
  have hl := hs.1
  have hmm : Nat.min n n = n := Nat.min_self n
  obtain ⟨i0, hq, _, hi, _⟩ := info_parts infoPick
  by_cases h0 : n = 0
  · subst h0
    obtain rfl : l = [] := List.eq_nil_of_length_eq_zero hl
    have hcz : cur = #[] := Array.eq_empty_of_size_eq_zero (by omega)
    subst hcz
    have hlc : ∀ (x : Addr), (loadCells x 0).run Tryz.prog w = .ok #[] w := fun x => by simpa using run_loadCells_list (P := Tryz.prog) w x [] (by simp)
    refine ⟨w, ?_, hg, Keeps.refl _ _, rfl⟩
    cases a <;> simp [Builtin.copy_, run_underlying Tryz.underlying36, Builtin.lenOf, Builtin.firstCells, sizeOf, typeInfo, hq, storeCells, hlc]
  · obtain ⟨x, rfl⟩ : ∃ x, a = some x := by
      cases a with
      | none => exact absurd (hs.2.1 rfl) h0
      | some x => exact ⟨x, rfl⟩
    obtain ⟨b, o, rfl, _⟩ := hs.2.2.1 x rfl 0 (by omega)
    have hlc := run_loadCells_list (P := Tryz.prog) w ⟨b, o, none⟩ (p3 l) (p3_src hs)
    rw [p3_len, hl] at hlc
    have hst := run_storeCells_at Tryz.prog g 0 102 (p3 l) 0 cur w hg (by rw [p3_len]; omega) (p3_one l)
    have e : (List.take (0 + 0) cur.toList ++ p3 l ++ List.drop (0 + 0 + (p3 l).length) cur.toList).toArray = (p3 l).toArray := by
      rw [p3_len, List.drop_of_length_le (by simp; omega)]; simp
    rw [e] at hst
    refine ⟨w.setRow g (p3 l).toArray, ?_, ?_, ⟨rfl, rfl, rfl, by simp, fun k _ hk => setRow_other w g k _ hk⟩, by simp⟩
    · simp [Builtin.copy_, run_underlying Tryz.underlying36, Builtin.lenOf, Builtin.firstCells, sizeOf, typeInfo, hq, hi, hmm, hlc, hst]
    · exact setRow_heap w g _ _ 102 _ hg

theorem PSrc.later {w w' : World} {a : Option Addr} {n : Nat} {l : List P3} (h : PSrc w a n l) (hb : Below w.heap.size w w') : PSrc w' a n l := h.keeps (Keeps.of_below (fun _ => False) hb) (fun _ _ h => h)

set_option maxHeartbeats 2000000 in
theorem twinp_any (a : Option Addr) (n c : Nat) (l : List P3) (w : World) (hn : 24 * n ≤ 140737488355328) (hs : PSrc w a n l) :
    Calls Tryz.prog 24 #[.slice a n c] w fun e w' => ∃ g, e = .returned (.slice (some ⟨g, 0, none⟩) n n) ∧ w.heap.size ≤ g ∧ PSrc w' (some ⟨g, 0, none⟩) n l ∧ Below w.heap.size w w' := by
  obtain ⟨i0, hi, hz0, hz1, hz2⟩ := info_parts infoPick
  have H := Hid.mk hs
  clear hs
  go_enter Tryz.func24, Tryz.ntmps24
  go_wp2_with (at_make; refine wpList_make_full _ rfl _ _ 36 rfl w.heap.size 102 i0 _ 3 Tryz.underlying36 hi hz0 hz1 _ _ _ _ n rfl rfl ?c1 ?c2 ?c3 ?c4 ?c5 ?_)
  case c1 => rfl
  case c2 => rfl
  case c3 => rw [hz2]; omega
  case c4 => unfold maxLen; omega
  case c5 => exact Nat.le_refl _
  intro w1 hown hgrow
  have hb : Below w.heap.size w w1 := (Below.refl _ w).grown hgrow (Nat.le_refl _) (by intro k hk; cases hk)
  have hs1 := H.out.later hb
  have hl := H.out.1
  obtain ⟨_, ⟨hv, _⟩ | ⟨g', cap, cur, hv, _, hg, _, _, hcs, _⟩⟩ := hown
  · cases hv
  cases hv
  obtain ⟨w2, hrun, hh, hk, _⟩ := copy3_run w1 3 w.heap.size n a c n cur l hg hcs hs1
  have hb2 : Below w.heap.size w w2 := hb.trans (hk.below (fun k h => by omega) hb.size)
  have hr2 := p3_to (n := n) hl hs1.2.2.2 hh
  clear hh hs1 hb hk hg hcs hgrow
  go_wp2
  go_ret
  exact ⟨w.heap.size, rfl, Nat.le_refl _, hr2, hb2⟩
end Go.Proofs.YtijgdmhglnanjabGreat
end

section
namespace Go.Proofs
open Go.Shelf
def Tryz.lays189_ren : Go.Shelf.Ren := ⟨fun | 189 => 95 | 125 => 124 | 257 => 123 | 128 => 146 | 129 => 147 | 294 => 137 | 295 => 138 | 296 => 139 | 297 => 140 | 298 => 141 | 299 => 142 | 216 => 143 | 300 => 144 | 301 => 145 | 328 => 155 | 329 => 156 | 330 => 157 | 331 => 158 | 332 => 159 | 215 => 160 | 343 => 163 | n => n, fun | 28 => 99 | 3 => 3 | 46 => 128 | 0 => 0 | 51 => 194 | 53 => 180 | 4 => 4 | 183 => 186 | 182 => 185 | 131 => 191 | 5 => 5 | 9 => 9 | 218 => 201 | 222 => 205 | 228 => 210 | 229 => 114 | n => n, fun | n => n⟩
theorem Tryz.lays189 : Go.Proofs.Lays.n189 Tryz.prog Tryz.lays189_ren := {
  mixed := by kernel_rfl
  f125 := Tryz.func124.trans (congrArg some (by kernel_rfl))
  f128 := Tryz.func146.trans (congrArg some (by kernel_rfl))
  f129 := Tryz.func147.trans (congrArg some (by kernel_rfl))
  f189 := Tryz.func95.trans (congrArg some (by kernel_rfl))
  f215 := Tryz.func160.trans (congrArg some (by kernel_rfl))
  f216 := Tryz.func143.trans (congrArg some (by kernel_rfl))
  f257 := Tryz.func123.trans (congrArg some (by kernel_rfl))
  f294 := Tryz.func137.trans (congrArg some (by kernel_rfl))
  f295 := Tryz.func138.trans (congrArg some (by kernel_rfl))
  f296 := Tryz.func139.trans (congrArg some (by kernel_rfl))
  f297 := Tryz.func140.trans (congrArg some (by kernel_rfl))
  f298 := Tryz.func141.trans (congrArg some (by kernel_rfl))
  f299 := Tryz.func142.trans (congrArg some (by kernel_rfl))
  f300 := Tryz.func144.trans (congrArg some (by kernel_rfl))
  f301 := Tryz.func145.trans (congrArg some (by kernel_rfl))
  f328 := Tryz.func155.trans (congrArg some (by kernel_rfl))
  f329 := Tryz.func156.trans (congrArg some (by kernel_rfl))
  f330 := Tryz.func157.trans (congrArg some (by kernel_rfl))
  f331 := Tryz.func158.trans (congrArg some (by kernel_rfl))
  f332 := Tryz.func159.trans (congrArg some (by kernel_rfl))
  f343 := Tryz.func163.trans (congrArg some (by kernel_rfl))
  t0 := Tryz.underlying0
  a0 := Tryz.isAgg0
  z0 := Tryz.sizeOf0
  v0 := Tryz.zeroValue0
  t3 := Tryz.underlying3
  a3 := Tryz.isAgg3
  z3 := Tryz.sizeOf3
  v3 := Tryz.zeroValue3
  t4 := Tryz.underlying4
  a4 := Tryz.isAgg4
  z4 := Tryz.sizeOf4
  v4 := Tryz.zeroValue4
  t5 := Tryz.underlying5
  a5 := Tryz.isAgg5
  z5 := Tryz.sizeOf5
  v5 := Tryz.zeroValue5
  t9 := Tryz.underlying9
  a9 := Tryz.isAgg9
  z9 := Tryz.sizeOf9
  v9 := Tryz.zeroValue9
  t28 := Tryz.underlying99
  a28 := Tryz.isAgg99
  z28 := Tryz.sizeOf99
  v28 := Tryz.zeroValue99
  t46 := Tryz.underlying128
  a46 := Tryz.isAgg128
  z46 := Tryz.sizeOf128
  v46 := Tryz.zeroValue128
  t51 := Tryz.underlying194
  a51 := Tryz.isAgg194
  z51 := Tryz.sizeOf194
  v51 := Tryz.zeroValue194
  t53 := Tryz.underlying180
  a53 := Tryz.isAgg180
  z53 := Tryz.sizeOf180
  v53 := Tryz.zeroValue180
  t131 := Tryz.underlying191
  a131 := Tryz.isAgg191
  z131 := Tryz.sizeOf191
  v131 := Tryz.zeroValue191
  t182 := Tryz.underlying185
  a182 := Tryz.isAgg185
  z182 := Tryz.sizeOf185
  v182 := Tryz.zeroValue185
  t183 := Tryz.underlying186
  a183 := Tryz.isAgg186
  z183 := Tryz.sizeOf186
  v183 := Tryz.zeroValue186
  t218 := Tryz.underlying201
  a218 := Tryz.isAgg201
  z218 := Tryz.sizeOf201
  v218 := Tryz.zeroValue201
  t222 := Tryz.underlying205
  a222 := Tryz.isAgg205
  z222 := Tryz.sizeOf205
  v222 := Tryz.zeroValue205
  t228 := Tryz.underlying210
  a228 := Tryz.isAgg210
  z228 := Tryz.sizeOf210
  v228 := Tryz.zeroValue210
  t229 := Tryz.underlying114
  a229 := Tryz.isAgg114
  z229 := Tryz.sizeOf114
  v229 := Tryz.zeroValue114 }
end Go.Proofs
end

section
namespace Go.Proofs.YtijgdmhglnanjabGreat
open Go.RowKit Go.Maps Go.Shelf Go.Sort

theorem sorts : SortSaid := by
  intro g cap zs w hr hsz
  have hle := hr.le
  have hr0 := hr
  obtain ⟨cur, hb, hc, ht, hm⟩ := hr0
  have hlz : (zs.map (Value.int .i64)).length = zs.length := by simp
  rw [hlz] at hle ht
  have hH : Holds (Value.int .i64) w g 0 zs.toArray := holds_of_blockI hb ht
  refine (calls_of_every_depth fun D => AnyS.slices_Sort_int_in Tryz.lays189 D g 0 cap zs w hH hr.lt hsz).mono ?_
  rintro e w' ⟨rfl, n, os, rfl⟩
  have hl : (zs.mergeSort fun x y => decide (x ≤ y)).length = zs.length := List.length_mergeSort _
  have hg := grownBy_sortedI (w := w) (g := g) (n := n) (os := os) (zs.mergeSort fun x y => decide (x ≤ y)).toArray
  refine ⟨rfl, ⟨_, heap_sortedI _ hb, by simp [putCells, hc], ?_, hm⟩, ⟨hg.os, hg.tape, hg.output, hg.size, fun k hk hne => hg.block k hk (by simpa using hne)⟩⟩
  rw [List.length_map]
  exact take_putCellsI cur _ (by omega)

theorem ins_nil (w : World) : Calls Tryz.prog 137 #[.slice none 0 0, .int .i64 0, .int .i64 0] w fun e w' => e = .returned (.tuple #[]) ∧ w' = w := by
  go_enter Tryz.func137, Tryz.ntmps137
  go_wp2
  refine wp_loop_rounds 1 ?_
  rw [rounds_succ]
  go_wp2
  go_end0
  exact ⟨rfl, rfl⟩

theorem pdq_nil (n : Int) (w : World) : Calls Tryz.prog 123 #[.slice none 0 0, .int .i64 0, .int .i64 0, .int .i64 n] w fun e w' => e = .returned (.tuple #[]) ∧ w' = w := by
  go_enter Tryz.func123, Tryz.ntmps123
  go_wp2
  refine wp_loop_rounds 1 ?_
  rw [rounds_succ]
  go_wp2_with (go_at_call 137; refine (ins_nil _).mono ?_; rintro e w' ⟨rfl, rfl⟩)
  exact bodyPost_ret (results_none rfl _ _ _) rfl ⟨rfl, rfl⟩

theorem sortn : SortNil := by
  intro w
  go_enter Tryz.func95, Tryz.ntmps95
  go_wp2_with (first | (go_at_call 123; refine (pdq_nil _ _).mono ?_; rintro e w' ⟨rfl, rfl⟩) | go_in)
  go_end0
  exact ⟨rfl, RowKit.Below.refl _ _⟩
end Go.Proofs.YtijgdmhglnanjabGreat
end

section
namespace Go.Proofs.YtijgdmhglnanjabGreat
open Go.RowKit Go.Maps

def DS.wr (S : DS) (s : Nat) (x : Int) (n : Nat) (l : List Int) : Int × DS :=
  if S.fuse = 0 then (3, S) else if x < 0 ∨ (s : Int) ≤ x then (11, S.refuse) else if n ≠ 512 then (2, S.refuse) else (0, (S.put x.toNat l).wrote.spend)
def DS.rd (S : DS) (s : Nat) (x : Int) : Int × DS × List Int :=
  if S.fuse = 0 then (3, S, []) else if x < 0 ∨ (s : Int) ≤ x then (11, S.refuse, []) else (0, S.read, S.now x.toNat)
def DS.fl (S : DS) (s : Nat) : Int × DS := if S.fuse = 0 then (3, S) else (0, (S.flush s).spend)

theorem DiskAt.more {w w' : World} {F : Nat → Prop} {p s : Nat} {S : DS} (h : DiskAt w' F p s S) : DiskAt w' (more F w w') p s S :=
  h.mono (fun _ hk => .inl hk) (fun k hk => by rcases hk with hk | hk; exact h.lt k hk; exact hk.2)

theorem write_all {w : World} {F : Nat → Prop} {p s : Nat} {S : DS} (h : DiskAt w F p s S) (x : Int) (a : Option Addr) (n c : Nat) (l : List Int) (hs : Src w a n l) (hbig : S.puts.length + 1 ≤ 4000000000000) :
    Calls Tryz.prog 83 #[.pointer (some ⟨p, 0, none⟩), .int .i64 x, .slice a n c] w fun e w' => e = .returned (.int .i64 (S.wr s x n l).1) ∧ DiskAt w' (more F w w') p s (S.wr s x n l).2 ∧ Keeps F w w' := by
  by_cases hf : S.fuse = 0
  · simp only [DS.wr, hf, if_true]
    refine (write_dead h x a n c hf).mono ?_
    rintro e w' ⟨rfl, rfl⟩
    exact ⟨rfl, h.more, Keeps.refl _ _⟩
  · by_cases hx : x < 0 ∨ (s : Int) ≤ x
    · simp only [DS.wr, hf, if_false, hx, if_true]
      refine (write_range h x a n c hf hx).mono ?_
      rintro e w' ⟨rfl, h1, h2⟩
      exact ⟨rfl, h1.more, h2⟩
    · obtain ⟨k, rfl⟩ : ∃ k : Nat, x = (k : Int) := ⟨x.toNat, by omega⟩
      have hk : k < s := by omega
      by_cases hn : n = 512
      · subst hn
        simp only [DS.wr, hf, if_false, hx, ne_eq, not_true_eq_false, Int.toNat_natCast]
        obtain ⟨y, rfl⟩ : ∃ y, a = some y := by
          cases a with
          | none => have := hs.2.1 rfl; omega
          | some y => exact ⟨y, rfl⟩
        exact write_ok h k hk hf (by omega) y c l hs
      · simp only [DS.wr, hf, if_false, hx, ne_eq, hn, not_false_eq_true, if_true]
        refine (write_length h k a n c hf hk hn).mono ?_
        rintro e w' ⟨rfl, h1, h2⟩
        exact ⟨rfl, h1.more, h2⟩

/-- What a Read hands out. -/
def Out (lo : Nat) (w : World) (l : List Int) (v : Value) : Prop := ∃ a c, v = .slice a l.length c ∧ Src w a l.length l ∧ ∀ x, a = some x → lo ≤ x.block

theorem Out.nil (lo : Nat) (w : World) : Out lo w [] (.slice none 0 0) := ⟨none, 0, rfl, ⟨rfl, fun _ => rfl, fun x hx => by cases hx⟩, fun x hx => by cases hx⟩
theorem Out.row {lo : Nat} {w : World} {g c : Nat} {l : List Int} (h : RowAt w 5 g c (bs l)) (hg : lo ≤ g) : Out lo w l (.slice (some ⟨g, 0, none⟩) l.length c) := ⟨_, c, rfl, h.src, fun x hx => by cases hx; exact hg⟩

theorem read_all {w : World} {F : Nat → Prop} {p s : Nat} {S : DS} (h : DiskAt w F p s S) (x : Int) (hbig : S.puts.length + 1 ≤ 4000000000000) :
    Calls Tryz.prog 65 #[.pointer (some ⟨p, 0, none⟩), .int .i64 x] w fun e w' => ∃ v, e = .returned (.tuple #[v, .int .i64 (S.rd s x).1]) ∧ Out w.heap.size w' (S.rd s x).2.2 v ∧ DiskAt w' F p s (S.rd s x).2.1 ∧ Keeps F w w' := by
  by_cases hf : S.fuse = 0
  · simp only [DS.rd, hf, if_true]
    refine (read_dead h x hf).mono ?_
    rintro e w' ⟨rfl, rfl⟩
    exact ⟨_, rfl, Out.nil _ _, h, Keeps.refl _ _⟩
  · by_cases hx : x < 0 ∨ (s : Int) ≤ x
    · simp only [DS.rd, hf, if_false, hx, if_true]
      refine (read_range h x hf hx).mono ?_
      rintro e w' ⟨rfl, h1, h2⟩
      exact ⟨_, rfl, Out.nil _ _, h1, h2⟩
    · obtain ⟨k, rfl⟩ : ∃ k : Nat, x = (k : Int) := ⟨x.toNat, by omega⟩
      have hk : k < s := by omega
      simp only [DS.rd, hf, if_false, hx, Int.toNat_natCast]
      refine (read_ok h k hf hk (by omega)).mono ?_
      rintro e w' ⟨g, c, rfl, hg, hr, h1, h2⟩
      have := Out.row hr hg
      rw [now_len h.ok k hk] at this
      exact ⟨_, rfl, this, h1, h2⟩

theorem flush_all {w : World} {F : Nat → Prop} {p s : Nat} {S : DS} (h : DiskAt w F p s S) (hbig : S.puts.length + 1 ≤ 4000000000000) :
    Calls Tryz.prog 78 #[.pointer (some ⟨p, 0, none⟩)] w fun e w' => e = .returned (.int .i64 (S.fl s).1) ∧ DiskAt w' F p s (S.fl s).2 ∧ Keeps F w w' := by
  by_cases hf : S.fuse = 0
  · simp only [DS.fl, hf, if_true]
    refine (flush_dead h hf).mono ?_
    rintro e w' ⟨rfl, rfl⟩
    exact ⟨rfl, h, Keeps.refl _ _⟩
  · simp only [DS.fl, hf, if_false]
    exact flush_ok h hf (by omega)

theorem Src.far {w w' : World} {B : Nat} {a : Option Addr} {n : Nat} {l : List Int} (h : Src w a n l) (hb : Below B w w') (ha : ∀ x, a = some x → 0 < n → x.block < B) : Src w' a n l :=
  ⟨h.1, h.2.1, fun x hx i hi => (World.cell?_of_block (w := w) (by rw [blockOf_add]; exact hb.block _ (ha x hx (by omega)))).trans (h.2.2 x hx i hi)⟩
theorem PSrc.far {w w' : World} {B : Nat} {a : Option Addr} {n : Nat} {l : List P3} (h : PSrc w a n l) (hb : Below B w w') (ha : ∀ x, a = some x → 0 < n → x.block < B) : PSrc w' a n l := by
  refine ⟨h.1, h.2.1, fun x hx i hi => ?_, h.2.2.2⟩
  obtain ⟨b, o, rfl, h1, h2, h3⟩ := h.2.2.1 x hx i hi
  have e := hb.block b (ha _ hx (by have := h.1; omega))
  exact ⟨b, o, rfl, (World.cell?_of_block (w := w) (a := ⟨b, _, none⟩) e).trans h1, (World.cell?_of_block (w := w) (a := ⟨b, _, none⟩) e).trans h2, (World.cell?_of_block (w := w) (a := ⟨b, _, none⟩) e).trans h3⟩
theorem Out.keeps {lo : Nat} {w w' : World} {l : List Int} {v : Value} {F : Nat → Prop} (h : Out lo w l v) (hk : Keeps F w w') (hF : ∀ k, F k → k < lo) : Out lo w' l v := by
  obtain ⟨a, c, rfl, hs, hl⟩ := h
  refine ⟨a, c, rfl, ⟨hs.1, hs.2.1, fun x hx i hi => ?_⟩, hl⟩
  have h1 := hs.2.2 x hx i hi
  have hb := World.block_lt_of_cell? _ _ h1
  rw [blockOf_add] at hb
  exact (World.cell?_of_block (w := w) (by rw [blockOf_add]; exact hk.block _ hb (fun hf => by have := hF _ hf; have := hl x hx; omega))).trans h1
theorem same_out {lo lo' : Nat} {w : World} {l : List Int} {v v' : Value} (h : Out lo w l v) (h' : Out lo' w l v') (hn : l.length ≤ 140737488355328) :
    Calls Tryz.prog 60 #[v, v'] w fun e w' => e = .returned (.bool true) ∧ Below w.heap.size w w' := by
  obtain ⟨a, c, rfl, hs, _⟩ := h
  obtain ⟨a', c', rfl, hs', _⟩ := h'
  exact same_any a a' _ c c' l w hn hs hs'
theorem rd_len {S : DS} {s : Nat} (h : S.Ok s) (x : Int) : (S.rd s x).2.2.length ≤ 512 := by
  unfold DS.rd
  split
  · simp
  · split
    · simp
    · rename_i h1 h2
      show (S.now x.toNat).length ≤ 512
      rw [now_len h x.toNat (by omega)]
      exact Nat.le_refl _
theorem wr_puts (S : DS) (s : Nat) (x : Int) (n : Nat) (l : List Int) : (S.wr s x n l).2.puts.length ≤ S.puts.length + 1 := by
  unfold DS.wr
  split
  · simp
  · split
    · simp [DS.refuse]
    · split
      · simp [DS.refuse]
      · simp [DS.put, DS.wrote, DS.spend]
theorem rd_puts (S : DS) (s : Nat) (x : Int) : (S.rd s x).2.1.puts.length ≤ S.puts.length + 1 := by
  unfold DS.rd
  split
  · simp
  · split
    · simp [DS.refuse]
    · simp [DS.read]
theorem fl_puts (S : DS) (s : Nat) : (S.fl s).2.puts.length ≤ S.puts.length + 1 := by
  unfold DS.fl
  split
  · simp
  · simp [DS.flush, DS.spend]
theorem lay_puts (S : DS) (x : Int) : (S.lay x).puts.length ≤ S.puts.length + 1 := by
  unfold DS.lay
  split <;> simp

abbrev opV (kind x : Int) (a : Option Addr) (n c : Nat) (pa : Option Addr) (pn pc : Nat) : Value := .agg #[.int .i64 kind, .int .i64 x, .slice a n c, .slice pa pn pc]
abbrev opC (kind x : Int) (a : Option Addr) (n c : Nat) (pa : Option Addr) (pn pc : Nat) : Array Value := #[.int .i64 kind, .int .i64 x, .slice a n c, .slice pa pn pc]

theorem below_box (w : World) (o : Obj) : Below w.heap.size w (w.alloc o) := (Below.refl _ _).alloc (Nat.le_refl _) _

/-- What is told of an operation of the script: the lists that it holds lie below B. -/
structure OpOk (w : World) (B : Nat) (x : Int) (a : Option Addr) (n : Nat) (pa : Option Addr) (pn : Nat) (l : List Int) (pl : List P3) : Prop where
  x : x ≤ 9223372036854775807
  s : Src w a n l
  sB : ∀ x, a = some x → 0 < n → x.block < B
  n : n ≤ 140737488355328
  p : PSrc w pa pn pl
  pB : ∀ x, pa = some x → 0 < pn → x.block < B
  pn : 24 * pn ≤ 140737488355328

theorem OpOk.far {w w' : World} {B : Nat} {x : Int} {a : Option Addr} {n : Nat} {pa : Option Addr} {pn : Nat} {l : List Int} {pl : List P3} (h : OpOk w B x a n pa pn l pl) (hb : Below B w w') : OpOk w' B x a n pa pn l pl :=
  ⟨h.x, h.s.far hb h.sB, h.sB, h.n, h.p.far hb h.pB, h.pB, h.pn⟩

/-- What is told of a script: its operations lie below B, and so do their lists. -/
def Script (w : World) (B : Nat) (sa : Option Addr) (n : Nat) : Prop :=
  (sa = none → n = 0) ∧ ∀ y, sa = some y → ∀ i, i < n → ∃ b o, y = ⟨b, o, none⟩ ∧ b < B ∧ ∃ kind x a m c pa pn pc l pl,
    w.cell? ⟨b, o + i * 4, none⟩ = some (.int .i64 kind) ∧ w.cell? ⟨b, o + i * 4 + 1, none⟩ = some (.int .i64 x) ∧ w.cell? ⟨b, o + i * 4 + 2, none⟩ = some (.slice a m c) ∧ w.cell? ⟨b, o + i * 4 + 3, none⟩ = some (.slice pa pn pc) ∧ OpOk w B x a m pa pn l pl

theorem Script.far {w w' : World} {B : Nat} {sa : Option Addr} {n : Nat} (h : Script w B sa n) (hb : Below B w w') : Script w' B sa n := by
  refine ⟨h.1, fun y hy i hi => ?_⟩
  obtain ⟨b, o, rfl, hbB, kind, x, a, m, c, pa, pn, pc, l, pl, c0, c1, c2, c3, ho⟩ := h.2 y hy i hi
  have e := hb.block b hbB
  exact ⟨b, o, rfl, hbB, kind, x, a, m, c, pa, pn, pc, l, pl, (World.cell?_of_block (w := w) (a := ⟨b, _, none⟩) e).trans c0, (World.cell?_of_block (w := w) (a := ⟨b, _, none⟩) e).trans c1, (World.cell?_of_block (w := w) (a := ⟨b, _, none⟩) e).trans c2, (World.cell?_of_block (w := w) (a := ⟨b, _, none⟩) e).trans c3, ho.far hb⟩
end Go.Proofs.YtijgdmhglnanjabGreat
end

section
namespace Go.Proofs.YtijgdmhglnanjabGreat

/-- What the checksum of a sealed sector goes over. -/
def stext (body : List Int) : List Int := ((body.length % 256 : Nat) : Int) :: ((body.length / 256 : Nat) : Int) :: (body ++ List.replicate (504 - body.length) 0)
/-- The sealed sector with that turn and body. -/
def sform (t : Int) (body : List Int) : List Int :=
  t :: ((body.length % 256 : Nat) : Int) :: ((body.length / 256 : Nat) : Int) :: (bytes4 (sumOf (stext body)) ++ (body ++ (List.replicate (504 - body.length) 0 ++ [t])))
/-- The turn of what is written over a sector with these ends. -/
def turnOf (a b : Int) : Nat := if a ≠ 0 ∧ b ≠ 0 then 0 else if a ≠ 1 ∧ b ≠ 1 then 1 else 2

theorem turnOf_le (a b : Int) : turnOf a b ≤ 2 := by unfold turnOf; split <;> (try split) <;> omega
theorem turnOf_ne (a b : Int) : ((turnOf a b : Nat) : Int) ≠ a ∧ ((turnOf a b : Nat) : Int) ≠ b := by
  unfold turnOf
  by_cases h : a ≠ 0 ∧ b ≠ 0
  · rw [if_pos h]; omega
  · rw [if_neg h]
    by_cases h1 : a ≠ 1 ∧ b ≠ 1
    · rw [if_pos h1]; omega
    · rw [if_neg h1]; omega

theorem bytes4_len (s : Nat) : (bytes4 s).length = 4 := rfl
theorem bytes4_bytes (s : Nat) : Bytes (bytes4 s) := by
  intro x hx
  simp only [bytes4, List.mem_cons, List.not_mem_nil, or_false] at hx
  omega
theorem stext_len {body : List Int} (h : body.length ≤ 504) : (stext body).length = 506 := by simp [stext]; omega
theorem sform_len {t : Int} {body : List Int} (h : body.length ≤ 504) : (sform t body).length = 512 := by simp [sform, bytes4_len]; omega
theorem Bytes.append {a b : List Int} (ha : Bytes a) (hb : Bytes b) : Bytes (a ++ b) := fun x hx => (List.mem_append.1 hx).elim (ha x) (hb x)
theorem Bytes.cons {a : Int} {b : List Int} (ha : 0 ≤ a ∧ a < 256) (hb : Bytes b) : Bytes (a :: b) := fun x hx => (List.mem_cons.1 hx).elim (fun h => h ▸ ha) (hb x)
theorem Bytes.nil : Bytes [] := fun _ hx => by cases hx
theorem Bytes.zeros (n : Nat) : Bytes (List.replicate n 0) := fun x hx => by rw [List.eq_of_mem_replicate hx]; omega
theorem Bytes.take {l : List Int} (h : Bytes l) (n : Nat) : Bytes (l.take n) := fun x hx => h x (List.mem_of_mem_take hx)
theorem Bytes.drop {l : List Int} (h : Bytes l) (n : Nat) : Bytes (l.drop n) := fun x hx => h x (List.mem_of_mem_drop hx)
theorem Bytes.getD {l : List Int} (h : Bytes l) (i : Nat) : 0 ≤ l.getD i 0 ∧ l.getD i 0 < 256 := by
  by_cases hi : i < l.length
  · have := h l[i] (List.getElem_mem hi)
    simpa [List.getD, hi] using this
  · simp [List.getD, List.getElem?_eq_none (Nat.le_of_not_lt hi)]
theorem stext_bytes {body : List Int} (h : Bytes body) (hl : body.length ≤ 504) : Bytes (stext body) :=
  .cons (by omega) (.cons (by omega) (h.append (.zeros _)))
theorem sform_bytes {t : Int} {body : List Int} (h : Bytes body) (hl : body.length ≤ 504) (ht : 0 ≤ t ∧ t < 256) : Bytes (sform t body) :=
  .cons ht (.cons (by omega) (.cons (by omega) ((bytes4_bytes _).append (h.append ((Bytes.zeros _).append (.cons ht .nil))))))

/-- The length that a sector tells. -/
def slen (s : List Int) : Nat := (s.getD 1 0 + 256 * s.getD 2 0).toNat
/-- Its body. -/
def sbody (s : List Int) : List Int := (s.drop 7).take (slen s)
/-- What Open tells. -/
def sopen (s : List Int) : Option (List Int) := if slen s ≤ 504 ∧ s.getD 0 0 ≤ 2 ∧ sform (s.getD 0 0) (sbody s) = s then some (sbody s) else none

theorem slen_form (t : Int) (body : List Int) (h : body.length ≤ 504) : slen (sform t body) = body.length := by
  simp [slen, sform, List.getD]; omega
theorem sform_drop (t : Int) (body : List Int) : (sform t body).drop 7 = body ++ (List.replicate (504 - body.length) 0 ++ [t]) := by
  simp [sform, bytes4]
theorem sbody_form (t : Int) (body : List Int) (h : body.length ≤ 504) : sbody (sform t body) = body := by
  rw [sbody, slen_form t body h, sform_drop]
  simp
theorem sform_first (t : Int) (body : List Int) : (sform t body).getD 0 0 = t := rfl
theorem sform_last (t : Int) (body : List Int) (h : body.length ≤ 504) : (sform t body).getD 511 0 = t := by
  have e : sform t body = (t :: ((body.length % 256 : Nat) : Int) :: ((body.length / 256 : Nat) : Int) :: (bytes4 (sumOf (stext body)) ++ (body ++ List.replicate (504 - body.length) 0))) ++ [t] := by
    simp [sform]
  rw [e, List.getD, List.getElem?_append_right (by simp [bytes4_len]; omega)]
  have : 511 - (t :: ((body.length % 256 : Nat) : Int) :: ((body.length / 256 : Nat) : Int) :: (bytes4 (sumOf (stext body)) ++ (body ++ List.replicate (504 - body.length) 0))).length = 0 := by
    simp [bytes4_len]; omega
  rw [this]; rfl
theorem sopen_form (t : Int) (body : List Int) (h : body.length ≤ 504) (ht : t ≤ 2) : sopen (sform t body) = some body := by
  unfold sopen
  rw [slen_form t body h, sform_first, sbody_form t body h, if_pos ⟨h, ht, rfl⟩]
theorem sopen_some {s body : List Int} (h : sopen s = some body) : slen s ≤ 504 ∧ s.getD 0 0 ≤ 2 ∧ sform (s.getD 0 0) (sbody s) = s ∧ body = sbody s := by
  unfold sopen at h
  split at h
  · next hc => exact ⟨hc.1, hc.2.1, hc.2.2, (Option.some.inj h).symm⟩
  · cases h
theorem sbody_len {s : List Int} (h : slen s ≤ 504) (hs : s.length = 512) : (sbody s).length = slen s := by
  simp [sbody]; omega
theorem sopen_len {s body : List Int} (h : sopen s = some body) (hs : s.length = 512) : body.length ≤ 504 := by
  obtain ⟨h1, _, _, rfl⟩ := sopen_some h
  rw [sbody_len h1 hs]; exact h1
theorem sopen_ends {s body : List Int} (h : sopen s = some body) (hs : s.length = 512) : s.getD 511 0 = s.getD 0 0 := by
  have hl := sopen_len h hs
  obtain ⟨h1, _, h3, rfl⟩ := sopen_some h
  rw [← h3, sform_last _ _ hl, sform_first]

/-- What the sum goes over, of a sector. -/
def stextOf (s : List Int) : List Int := (s.drop 1).take 2 ++ (s.drop 7).take 504
theorem stextOf_form (t : Int) (body : List Int) (h : body.length ≤ 504) : stextOf (sform t body) = stext body := by
  rw [stextOf, sform_drop, ← List.append_assoc, List.take_left' (by simp; omega)]
  simp [sform, stext]
theorem ssum_form (t : Int) (body : List Int) : ((sform t body).drop 3).take 4 = bytes4 (sumOf (stext body)) := by
  simp [sform, bytes4]
/-- A sealed sector's sum is right. -/
theorem sopen_sum {s body : List Int} (h : sopen s = some body) (hs : s.length = 512) : (s.drop 3).take 4 = bytes4 (sumOf (stextOf s)) := by
  have hl := sopen_len h hs
  obtain ⟨h1, _, h3, rfl⟩ := sopen_some h
  rw [← h3, ssum_form, stextOf_form _ _ hl]

/-- An anchor's number and data; 0: it is none. -/
def sanchor (s : List Int) : Nat × List Int :=
  match sopen s with
  | none => (0, [])
  | some body => if 8 ≤ body.length ∧ le (body.take 8) < 9223372036854775808 then (le (body.take 8), body.drop 8) else (0, [])
/-- What Newest tells: slot, number, data, error. -/
def snewest (l r : List Int) : Nat × Nat × List Int × Nat :=
  if l.length ≠ 512 ∨ r.length ≠ 512 then (0, 0, [], 2) else
  if (sanchor l).1 = 0 ∧ (sanchor r).1 = 0 then (0, 0, [], 30) else
  if (sanchor l).1 < (sanchor r).1 then (1, (sanchor r).1, (sanchor r).2, 0) else (0, (sanchor l).1, (sanchor l).2, 0)

/-- Eight bytes of a number, the low one first. -/
def bytes8 (n : Nat) : List Int := (List.range 8).map (fun k => ((n / 256 ^ k % 256 : Nat) : Int))
/-- What Seal tells. -/
def sseal (old body : List Int) : List Int × Nat :=
  if old.length ≠ 512 then ([], 2) else if 504 < body.length then ([], 7) else (sform (turnOf (old.getD 0 0) (old.getD 511 0)) body, 0)
def sopens (s : List Int) : List Int × Nat :=
  if s.length ≠ 512 then ([], 2) else match sopen s with | none => ([], 30) | some b => (b, 0)
/-- What Renew tells. -/
def srenew (l r : List Int) (number : Int) (data : List Int) : Nat × List Int × Nat :=
  if l.length ≠ 512 ∨ r.length ≠ 512 then (0, [], 2) else
  if number < 1 then (0, [], 1) else
  if 496 < data.length then (0, [], 7) else
  let a := snewest l r
  if number ≤ a.2.1 then (0, [], 31) else
  if a.2.2.2 = 0 ∧ a.1 = 0 then (1, sform (turnOf (r.getD 0 0) (r.getD 511 0)) (bytes8 number.toNat ++ data), 0)
  else (0, sform (turnOf (l.getD 0 0) (l.getD 511 0)) (bytes8 number.toNat ++ data), 0)
end Go.Proofs.YtijgdmhglnanjabGreat
end
