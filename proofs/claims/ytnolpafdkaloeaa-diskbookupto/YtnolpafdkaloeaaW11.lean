import Derived.Test.YtnolpafdkaloeaaW10
section
namespace Go.Proofs.Ytnolpafdkaloeaa
open Go.RowKit Go.Maps

/-- What handed leaves. -/
def HdO (w : World) (lab : Nat → Nat) (B p r s : Nat) (S T : DS) (w' : World) : Prop := ∃ lab', Gro lab lab' w w' (fun z => z = 1 ∨ z = 9) ∧ Tw w' B lab' p r s S T

theorem p3_append (l m : List P3) : p3 (l ++ m) = p3 l ++ p3 m := by simp [p3]
/-- copy of elements of three cells into a longer list. -/
theorem copy3_more (w : World) (ty : TypeId) (g n m : Nat) (a : Option Addr) (c d : Nat) (cur : Array Value) (l : List P3) (hg : w.heap[g]? = some (.cells cur 50 (0, 0))) (hcur : cur.size = m * 3) (hnm : n ≤ m) (hs : PSrc w a n l) :
    ∃ w2, (Builtin.copy_ #[31, 31] ty #[.slice (some ⟨g, 0, none⟩) m d, .slice a n c]).run Try.prog w = .ok (goInt n) w2 ∧
      w2.heap[g]? = some (.cells (p3 l ++ cur.toList.drop (n * 3)).toArray 50 (0, 0)) ∧ Keeps (fun k => k = g) w w2 ∧ w2.heap.size = w.heap.size := by
  have hl := hs.1
  have hmm : Nat.min n m = n := Nat.min_eq_left hnm
  obtain ⟨i0, hq, _, hi, _⟩ := info_parts infoPick
  by_cases h0 : n = 0
  · subst h0
    obtain rfl : l = [] := List.eq_nil_of_length_eq_zero hl
    have hlc : ∀ (x : Addr), (loadCells x 0).run Try.prog w = .ok #[] w := fun x => by simpa using run_loadCells_list (P := Try.prog) w x [] (by simp)
    refine ⟨w, ?_, by simpa [p3] using hg, Keeps.refl _ _, rfl⟩
    cases a <;> simp [Builtin.copy_, run_underlying Try.underlying31, Builtin.lenOf, Builtin.firstCells, sizeOf, typeInfo, hq, storeCells, hlc]
  · obtain ⟨x, rfl⟩ : ∃ x, a = some x := by
      cases a with
      | none => exact absurd (hs.2.1 rfl) h0
      | some x => exact ⟨x, rfl⟩
    obtain ⟨b, o, rfl, _⟩ := hs.2.2.1 x rfl 0 (by omega)
    have hlc := run_loadCells_list (P := Try.prog) w ⟨b, o, none⟩ (p3 l) (p3_src hs)
    rw [p3_len, hl] at hlc
    have hst := run_storeCells_at Try.prog g 0 50 (p3 l) 0 cur w hg (by rw [p3_len]; omega) (p3_one l)
    have e : (List.take (0 + 0) cur.toList ++ p3 l ++ List.drop (0 + 0 + (p3 l).length) cur.toList).toArray = (p3 l ++ cur.toList.drop (n * 3)).toArray := by
      rw [p3_len, hl]; simp
    rw [e] at hst
    refine ⟨w.setRow g (p3 l ++ cur.toList.drop (n * 3)).toArray, ?_, ?_, ⟨rfl, rfl, rfl, by simp, fun k _ hk => setRow_other w g k _ hk⟩, by simp⟩
    · simp [Builtin.copy_, run_underlying Try.underlying31, Builtin.lenOf, Builtin.firstCells, sizeOf, typeInfo, hq, hi, hmm, hlc, hst]
    · exact setRow_heap w g _ _ 50 _ hg

/-- A pick is written. -/
theorem p3_set {w : World} {g n : Nat} {A : List P3} {y0 y1 y2 : Value} {R : List Value} {i j k : Int} (hn : A.length = n) (h : w.heap[g]? = some (.cells (p3 A ++ y0 :: y1 :: y2 :: R).toArray 50 (0, 0))) :
    (((w.setCell ⟨g, n * 3, none⟩ (.int .i64 i)).setCell ⟨g, n * 3 + 1, none⟩ (.int .i64 j)).setCell ⟨g, n * 3 + 2, none⟩ (.int .i64 k)).heap[g]? = some (.cells (p3 A ++ .int .i64 i :: .int .i64 j :: .int .i64 k :: R).toArray 50 (0, 0)) := by
  have h1 : (w.setCell ⟨g, n * 3, none⟩ (.int .i64 i)).heap[g]? = _ := heap_setCell_same _ _ _ _ _ _ h
  have h2 : ((w.setCell ⟨g, n * 3, none⟩ (.int .i64 i)).setCell ⟨g, n * 3 + 1, none⟩ (.int .i64 j)).heap[g]? = _ := heap_setCell_same _ _ _ _ _ _ h1
  have h3 : (((w.setCell ⟨g, n * 3, none⟩ (.int .i64 i)).setCell ⟨g, n * 3 + 1, none⟩ (.int .i64 j)).setCell ⟨g, n * 3 + 2, none⟩ (.int .i64 k)).heap[g]? = _ := heap_setCell_same _ _ _ _ _ _ h2
  refine h3.trans ?_
  have hl := p3_len A
  rw [hn] at hl
  simp only [List.setIfInBounds_toArray]
  rw [List.set_append_right _ _ (by omega), List.set_append_right _ _ (by omega), List.set_append_right _ _ (by omega), hl]
  simp only [Nat.sub_self, List.set_cons_zero, show n * 3 + 1 - n * 3 = 1 by omega, show n * 3 + 2 - n * 3 = 2 by omega, List.set_cons_succ]
theorem p3_cells {w : World} {g n : Nat} {A : List P3} {y0 y1 y2 : Value} {R : List Value} (hn : A.length = n) (h : w.heap[g]? = some (.cells (p3 A ++ y0 :: y1 :: y2 :: R).toArray 50 (0, 0))) : w.cell? ⟨g, n * 3, none⟩ = some y0 ∧ w.cell? ⟨g, n * 3 + 1, none⟩ = some y1 ∧ w.cell? ⟨g, n * 3 + 2, none⟩ = some y2 := by
  have hl := p3_len A
  rw [hn] at hl
  refine ⟨cell_of_block h ?_, cell_of_block h ?_, cell_of_block h ?_⟩ <;> simp only [List.getElem?_toArray] <;> rw [List.getElem?_append_right (by omega), hl]
  · simp
  · simp [show n * 3 + 1 - n * 3 = 1 by omega]
  · simp [show n * 3 + 2 - n * 3 = 2 by omega]

theorem p3_pre {w : World} {g n : Nat} {l : List P3} {R : List Value} (hn : l.length = n) (hb : ∀ q ∈ l, q.1 ≤ 9223372036854775807 ∧ q.2.1 ≤ 9223372036854775807 ∧ q.2.2 ≤ 9223372036854775807) (h : w.heap[g]? = some (.cells (p3 l ++ R).toArray 50 (0, 0))) : PSrc w (some ⟨g, 0, none⟩) n l := by
  refine ⟨hn, (fun h => by cases h), fun x hx i hi => ?_, hb⟩
  cases hx
  obtain ⟨e0, e1, e2⟩ := p3_at l i hi
  have hl := p3_len l
  refine ⟨g, 0, rfl, ?_, ?_, ?_⟩ <;> rw [Nat.zero_add] <;> refine cell_of_block h ?_ <;> simp only [List.getElem?_toArray] <;> rw [List.getElem?_append_left (by omega)] <;> assumption
theorem p3_three (q : P3) (l : List P3) : p3 (q :: l) = .int .i64 q.1 :: .int .i64 q.2.1 :: .int .i64 q.2.2 :: p3 l := rfl
/-- In the midst of handed. -/
def HdI (w : World) (lab : Nat → Nat) (B p r s : Nat) (S T : DS) (pl : List P3) (k : Nat) (wr : World) : Prop := ∃ (A : List P3) (L : Nat → Nat), A.length = k ∧ wr.heap[w.heap.size]? = some (.cells (p3 A ++ p3 (pl.drop k ++ [(5, 6, 7)])).toArray 50 (0, 0)) ∧ L w.heap.size = 9 ∧ Gro lab L w wr (fun z => z = 1 ∨ z = 9) ∧ Tw wr B L p r s S T

set_option maxRecDepth 20000 in
set_option maxHeartbeats 16000000 in
/-- A power cut with picks that are looked at and written over behind it. -/
theorem handed_any {w : World} {B p r s : Nat} {lab : Nat → Nat} {S T : DS} (hT : Tw w B lab p r s S T) (hz : LZ lab w) (hlo : ∀ k, lab k ≠ 0 → B ≤ k) (hB : B ≤ w.heap.size) (hbig : S.puts.length + 10 ≤ 4000000000000) (pa : Option Addr) (pn pc : Nat) (pl : List P3) (hp : PSrc w pa pn pl) (hpB : ∀ x, pa = some x → 0 < pn → x.block < B) (hpn : 24 * pn + 24 ≤ 140737488355328) :
    Calls Try.prog 38 #[.pointer (some ⟨p, 0, none⟩), .slice pa pn pc] w fun e w' => e = .returned (.bool true) ∧ HdO w lab B p r s (S.crash s pl) T w' := by
  obtain ⟨i0, hi, hz0, hz1, hz2⟩ := info_parts infoPick
  have x1 : IntKind.i64.wrap ((pn : Int) + 1) = ((pn + 1 : Nat) : Int) := by rw [IntKind.wrap_i64]; all_goals omega
  have x2 : wrap64 ((pn : Int) + 1) = ((pn + 1 : Nat) : Int) := by unfold wrap64; omega
  obtain ⟨m, hm⟩ : ∃ m, m = pn + 1 := ⟨_, rfl⟩
  have hml : 24 * m ≤ 140737488355328 := by omega
  have hpm : (pn : Int) < (m : Int) := by omega
  have hpm2 : pn < m := by omega
  have hpm3 : (pn : Int) ≤ (m : Int) := by omega
  have Hm := Hid.mk hm
  rw [← hm] at x1 x2
  have H := Hid.mk (And.intro hT (And.intro hz (And.intro hlo (And.intro hB (And.intro hp hpB)))))
  have hpl := hp.1
  clear hT hz hlo hB hp hpB hm
  go_enter Try.func38, Try.ntmps38
  go_wp2_with (at_make; refine wpList_make_full _ rfl _ _ 31 rfl w.heap.size 50 i0 _ 3 Try.underlying31 hi hz0 hz1 _ _ _ _ m rfl rfl ?c1 ?c2 ?c3 ?c4 ?c5 ?_)
  case c1 => rfl
  case c2 => rfl
  case c3 => rw [hz2]; omega
  case c4 => unfold maxLen; omega
  case c5 => exact Nat.le_refl _
  intro w1 hown hgrow
  have hb : Below w.heap.size w w1 := (Below.refl _ w).grown hgrow (Nat.le_refl _) (by intro k hk; cases hk)
  obtain ⟨hT, hz, hlo, hB, hp, hpB⟩ := H.out
  have hs1 := hp.far (hb.mono hB) hpB
  obtain ⟨hcl, ⟨hv, _⟩ | ⟨g', cap, cur, hv, _, hg, _, _, hcs, hct⟩⟩ := hown
  · cases hv
  cases hv
  obtain ⟨w2, hrun, hh, hk, hsz⟩ := copy3_more w1 3 w.heap.size pn m pa pc m cur pl hg hcs (by omega) hs1
  obtain ⟨y0, y1, y2, hy⟩ : ∃ y0 y1 y2, cur.toList.drop (pn * 3) = [y0, y1, y2] := by
    have hl3 : (cur.toList.drop (pn * 3)).length = 3 := by
      have := Hm.out
      simp only [List.length_drop, Array.length_toList, hcs]
      omega
    match hq : cur.toList.drop (pn * 3), hl3 with
    | [a, b, c], _ => exact ⟨a, b, c, rfl⟩
  rw [hy] at hh
  obtain ⟨k0, k1, k2⟩ := p3_cells hpl hh
  have f0 := frozen_of_block hh (pn * 3)
  have f1 := frozen_of_block hh (pn * 3 + 1)
  have f2 := frozen_of_block hh (pn * 3 + 2)
  have hset := p3_set (i := 5) (j := 6) (k := 7) hpl hh
  have H2 := Hid.mk (And.intro hb (And.intro hk (And.intro hsz hset)))
  clear hgrow hb hs1 hct hcl hg hcs hk hsz hy hset hT hz hlo hB hp hpB hh
  go_wp2_with fail
  obtain ⟨W3, hW3⟩ : ∃ W, W = ((w2.setCell ⟨w.heap.size, pn * 3, none⟩ (.int .i64 5)).setCell ⟨w.heap.size, pn * 3 + 1, none⟩ (.int .i64 6)).setCell ⟨w.heap.size, pn * 3 + 2, none⟩ (.int .i64 7) := ⟨_, rfl⟩
  rw [← hW3]
  obtain ⟨hb, hk, hsz, hset⟩ := H2.out
  obtain ⟨hT, hz, hlo, hB, hp, hpB⟩ := H.out
  have hb2 : Below w.heap.size w w2 := hb.trans (hk.below (fun k h => by omega) hb.size)
  have hks : ∀ (u : World) (i : Nat) (v : Value), Keeps (fun k => k = w.heap.size) u (u.setCell ⟨w.heap.size, i, none⟩ v) := fun u i v => Keeps.setCell (F := fun k => k = w.heap.size) u (p := ⟨w.heap.size, i, none⟩) rfl v
  have hk3 : Keeps (fun k => k = w.heap.size) w2 W3 := by
    rw [hW3]
    exact ((hks _ _ _).trans (hks _ _ _) (fun _ h => .inl h)).trans (hks _ _ _) (fun _ h => .inl h)
  have hb3 : Below w.heap.size w W3 := hb2.trans (hk3.below (fun k h => by omega) hb2.size)
  rw [← hW3] at hset
  have hset2 : W3.heap[w.heap.size]? = some (.cells (p3 pl ++ p3 [(5, 6, 7)]).toArray 50 (0, 0)) := hset
  have hps := p3_pre hpl hp.2.2.2 hset
  have g3 := Gro.keeps hz (Keeps.of_below (fun _ => False) hb3) 9 (fun _ _ h => h.elim)
  have hgl := (Array.getElem?_eq_some_iff.1 hset).1
  have lg : relab lab w.heap.size W3.heap.size 9 w.heap.size = 9 := relab_new (Nat.le_refl _) hgl
  obtain ⟨F, G, t3, hf3, hg3⟩ := hT.gro g3 (by omega)
  have hcr := crash_ok sorts sortn t3.d (by omega) (some ⟨w.heap.size, 0, none⟩) pn m pl hps (by omega) (fun x hx hq => by
    cases hx
    rw [hf3 _ hq] at lg
    cases lg)
  generalize relab lab w.heap.size W3.heap.size 9 = L3 at *
  have H3 := Hid.mk (And.intro hset2 (And.intro lg (And.intro g3 (And.intro t3 (And.intro hf3 hg3)))))
  clear hb hk hsz hset hT hz hlo hB hp hpB hb2 hks hk3 hb3 hps g3 hgl lg t3 hf3 hg3 hset2 H2 k0 k1 k2 f0 f1 f2 hrun hW3
  refine hcr.mono ?_
  rintro e w4 ⟨rfl, d4, k4⟩
  obtain ⟨hset, lg, g3, t3, hf3, hg3⟩ := H3.out
  have g4 := Gro.plain (X := fun z => z = 1) g3.lz k4 (fun k _ h => hf3 k h)
  have hgl := (Array.getElem?_eq_some_iff.1 hset).1
  have hb4 := (g4.block hgl lg (by omega)).trans hset
  obtain ⟨c5, c6, c7⟩ := p3_cells hpl hb4
  have H4 : Hid (HdI w lab B p r s (S.crash s pl) T pl 0 w4) := ⟨[], L3, rfl, by rw [List.drop_zero, p3_append]; exact hb4, lg, g3.join g4 (Z := fun z => z = 1 ∨ z = 9) (fun _ h => .inr h) (fun _ h => .inl h), F, G, t3.same d4 k4, hf3, hg3⟩
  clear hset lg g3 t3 hf3 hg3 g4 hgl hb4 d4 k4 hcr H3
  go_wp2
  clear c5 c6 c7
  go_loopw [6, 7] (fun v i wr => ∃ k : Nat, k ≤ pn ∧ v = .bool true ∧ i = .int .i64 (k : Int) ∧ HdI w lab B p r s (S.crash s pl) T pl k wr) (fun _ i _ => pn - (intOf i).toNat)
  case atStart => exact ⟨0, Nat.zero_le _, rfl, rfl, H4.out⟩
  case round =>
    clear H4
    obtain ⟨k, hk, rfl, rfl, A, L, hA, hbk, lg, hG, hT⟩ := hrel
    by_cases hlt : k < pn
    · have hdrop : pl.drop k = pl[k]'(by omega) :: pl.drop (k + 1) := List.drop_eq_getElem_cons (by omega)
      rw [hdrop, List.cons_append, p3_three] at hbk
      obtain ⟨c0, c1, c2⟩ := p3_cells hA hbk
      obtain ⟨_, hz, hlo, hB, hp, hpB⟩ := H.out
      have hpw := hp.far (hG.belowB hB hlo (by omega)) hpB
      obtain ⟨x, rfl⟩ : ∃ x, pa = some x := by
        cases pa with
        | none => have := hpw.2.1 rfl; omega
        | some x => exact ⟨x, rfl⟩
      obtain ⟨b, o, rfl, e0, e1, e2⟩ := hpw.2.2.1 x rfl k (by omega)
      generalize pl[k]'(by omega) = q at *
      obtain ⟨q0, q1, q2⟩ := q
      dsimp only at c0 c1 c2 e0 e1 e2 hbk
      have f0 := frozen_of_block hbk (k * 3)
      have f1 := frozen_of_block hbk (k * 3 + 1)
      have f2 := frozen_of_block hbk (k * 3 + 2)
      obtain ⟨wd, hwd⟩ : ∃ wd, wd = wr.drew := ⟨_, rfl⟩
      have gd := Gro.drew hG.lz (fun _ => False)
      rw [← hwd] at gd
      have bd : wd.heap[w.heap.size]? = some (.cells (p3 A ++ .int .i64 q0 :: .int .i64 q1 :: .int .i64 q2 :: p3 (pl.drop (k + 1) ++ [(5, 6, 7)])).toArray 50 (0, 0)) := by rw [hwd]; exact hbk
      have hset := p3_set (i := 1) (j := 1) (k := 1) hA bd
      have HC : Hid (wr.drew.cell? ⟨w.heap.size, k * 3, none⟩ = some (.int .i64 q0) ∧ wr.drew.cell? ⟨w.heap.size, k * 3 + 1, none⟩ = some (.int .i64 q1) ∧ wr.drew.cell? ⟨w.heap.size, k * 3 + 2, none⟩ = some (.int .i64 q2) ∧ wr.drew.cell? ⟨b, o + k * 3, none⟩ = some (.int .i64 q0) ∧ wr.drew.cell? ⟨b, o + k * 3 + 1, none⟩ = some (.int .i64 q1) ∧ wr.drew.cell? ⟨b, o + k * 3 + 2, none⟩ = some (.int .i64 q2)) := ⟨c0, c1, c2, e0, e1, e2⟩
      have d0 : wd.cell? ⟨w.heap.size, k * 3, none⟩ = some (.int .i64 q0) := by rw [hwd]; exact c0
      have d1 : wd.cell? ⟨w.heap.size, k * 3 + 1, none⟩ = some (.int .i64 q1) := by rw [hwd]; exact c1
      have d2 : wd.cell? ⟨w.heap.size, k * 3 + 2, none⟩ = some (.int .i64 q2) := by rw [hwd]; exact c2
      have z0 : wd.frozen? ⟨w.heap.size, k * 3, none⟩ = false := by rw [hwd]; exact f0
      have z1 : wd.frozen? ⟨w.heap.size, k * 3 + 1, none⟩ = false := by rw [hwd]; exact f1
      have z2 : wd.frozen? ⟨w.heap.size, k * 3 + 2, none⟩ = false := by rw [hwd]; exact f2
      have hlt' : (k : Int) < (pn : Int) := by omega
      have hk0 : (0 : Int) ≤ (k : Int) := by omega
      have hkm : k < m := by omega
      have hkm' : (k : Int) < (m : Int) := by omega
      have lgd := gd.tag (Array.getElem?_eq_some_iff.1 hbk).1 lg
      have gs : ∀ (u : World) (hu : LZ L u) (i : Nat) (v : Value), Gro L L u (u.setCell ⟨w.heap.size, i, none⟩ v) (fun z => z = 9) := fun u hu i v => Gro.plain hu (Keeps.setCell (F := fun k => k = w.heap.size) u (p := ⟨w.heap.size, i, none⟩) rfl v) (fun k _ e => by rw [e]; exact lg)
      have g1 := gs wd gd.lz (k * 3) (.int .i64 1)
      have g2 := gs _ g1.lz (k * 3 + 1) (.int .i64 1)
      have g3 := gs _ g2.lz (k * 3 + 2) (.int .i64 1)
      have gg := (g1.trans g2).trans g3
      have HR : Hid (HdI w lab B p r s (S.crash s pl) T pl (k + 1) (((wd.setCell ⟨w.heap.size, k * 3, none⟩ (.int .i64 1)).setCell ⟨w.heap.size, k * 3 + 1, none⟩ (.int .i64 1)).setCell ⟨w.heap.size, k * 3 + 2, none⟩ (.int .i64 1))) := ⟨A ++ [(1, 1, 1)], L, by rw [List.length_append, List.length_singleton, hA], by rw [p3_append A]; simpa [p3] using hset, lg, hG.join (gd.join gg (Z := fun z => z = 1 ∨ z = 9) (fun _ h => h.elim) (fun _ h => .inr h)) (Z := fun z => z = 1 ∨ z = 9) (fun _ h => h) (fun _ h => h), (hT.gro gd (fun h => h)).gro gg (by omega)⟩
      have HW := Hid.mk hwd
      clear hbk lg hG hT hdrop hz hlo hB hp hpB hpw c0 c1 c2 e0 e1 e2 f0 f1 f2 gd bd hset lgd gs g1 g2 g3 gg hwd hA hk
      go_wp2
      refine wp_region_held_drew (S := (fun w' => w'.cell? ⟨w.heap.size, k * 3, none⟩ = some (.int .i64 q0) ∧ w'.cell? ⟨w.heap.size, k * 3 + 1, none⟩ = some (.int .i64 q1) ∧ w'.cell? ⟨w.heap.size, k * 3 + 2, none⟩ = some (.int .i64 q2) ∧ w'.cell? ⟨b, o + k * 3, none⟩ = some (.int .i64 q0) ∧ w'.cell? ⟨b, o + k * 3 + 1, none⟩ = some (.int .i64 q1) ∧ w'.cell? ⟨b, o + k * 3 + 2, none⟩ = some (.int .i64 q2))) (by kernel_rfl) (HC.out) (fun hHeld => ?_)
      refine wpAnyH_take (i := 0) (oi := { dst := some 57, op := Op.move (Operand.tmp 6), type := 4, pos := "outright.go:437", after := #[], guard := none }) (v := .bool true) rfl (by kernel_rfl) (by kernel_rfl) (by kernel_rfl) (fun _ _ _ h => h) (Or.inl ⟨by rfl, ?_⟩) (by assumption) ?_
      · intro w hSw
        (try dsimp only at hSw)
        go_simp
      try simp only [Act.put, List.setIfInBounds_toArray, List.set_cons_zero, List.set_cons_succ]
      refine wpAnyH_take (i := 1) (oi := { dst := some 58, op := Op.move (Operand.tmp 57), type := 4, pos := "outright.go:437", after := #[{ on := 0, ground := Ground.data }], guard := none }) (v := .bool true) rfl (by kernel_rfl) (by kernel_rfl) (by kernel_rfl) (fun _ _ _ h => h) (Or.inl ⟨by rfl, ?_⟩) (by assumption) ?_
      · intro w hSw
        (try dsimp only at hSw)
        go_simp
      try simp only [Act.put, List.setIfInBounds_toArray, List.set_cons_zero, List.set_cons_succ]
      refine wpAnyH_take (i := 2) (oi := { dst := some 59, op := Op.move (Operand.tmp 5), type := 31, pos := "outright.go:437", after := #[{ on := 1, ground := Ground.guard }], guard := some (1, true) }) (v := .slice (some ⟨w.heap.size, 0, none⟩) m m) rfl (by kernel_rfl) (by kernel_rfl) (by kernel_rfl) (fun _ _ _ h => h) (Or.inl ⟨by rfl, ?_⟩) (by assumption) ?_
      · intro w hSw
        (try dsimp only at hSw)
        go_simp
      try simp only [Act.put, List.setIfInBounds_toArray, List.set_cons_zero, List.set_cons_succ]
      refine wpAnyH_take (i := 3) (oi := { dst := some 60, op := Op.move (Operand.tmp 7), type := 3, pos := "outright.go:437", after := #[{ on := 1, ground := Ground.guard }], guard := some (1, true) }) (v := .int .i64 (k : Int)) rfl (by kernel_rfl) (by kernel_rfl) (by kernel_rfl) (fun _ _ _ h => h) (Or.inl ⟨by rfl, ?_⟩) (by assumption) ?_
      · intro w hSw
        (try dsimp only at hSw)
        go_simp
      try simp only [Act.put, List.setIfInBounds_toArray, List.set_cons_zero, List.set_cons_succ]
      refine wpAnyH_take (i := 4) (oi := { dst := some 61, op := Op.indexAddr 31 (Operand.tmp 59) (Operand.tmp 60), type := 0, pos := "outright.go:437", after := #[{ on := 2, ground := Ground.data }, { on := 3, ground := Ground.data }, { on := 1, ground := Ground.guard }], guard := some (1, true) }) (v := .pointer (some ⟨w.heap.size, k * 3, none⟩)) rfl (by kernel_rfl) (by kernel_rfl) (by kernel_rfl) (fun _ _ _ h => h) (Or.inl ⟨by rfl, ?_⟩) (by assumption) ?_
      · intro w hSw
        (try dsimp only at hSw)
        go_simp
      try simp only [Act.put, List.setIfInBounds_toArray, List.set_cons_zero, List.set_cons_succ]
      refine wpAnyH_take (i := 5) (oi := { dst := some 62, op := Op.fieldAddr 50 (Operand.tmp 61) 0, type := 0, pos := "outright.go:437", after := #[{ on := 4, ground := Ground.data }, { on := 1, ground := Ground.guard }], guard := some (1, true) }) (v := .pointer (some ⟨w.heap.size, k * 3, none⟩)) rfl (by kernel_rfl) (by kernel_rfl) (by kernel_rfl) (fun _ _ _ h => h) (Or.inl ⟨by rfl, ?_⟩) (by assumption) ?_
      · intro w hSw
        (try dsimp only at hSw)
        go_simp
      try simp only [Act.put, List.setIfInBounds_toArray, List.set_cons_zero, List.set_cons_succ]
      refine wpAnyH_take (i := 6) (oi := { dst := some 63, op := Op.load 3 (Operand.tmp 62), type := 3, pos := "outright.go:437", after := #[{ on := 5, ground := Ground.data }, { on := 1, ground := Ground.guard }], guard := some (1, true) }) (v := .int .i64 q0) rfl (by kernel_rfl) (by kernel_rfl) (by kernel_rfl) (fun _ _ _ h => h) (Or.inl ⟨by rfl, ?_⟩) (by assumption) ?_
      · intro w hSw
        (try dsimp only at hSw)
        go_simp
      try simp only [Act.put, List.setIfInBounds_toArray, List.set_cons_zero, List.set_cons_succ]
      refine wpAnyH_take (i := 7) (oi := { dst := some 64, op := Op.move (Operand.tmp 1), type := 31, pos := "outright.go:437", after := #[{ on := 1, ground := Ground.guard }], guard := some (1, true) }) (v := .slice (some ⟨b, o, none⟩) pn pc) rfl (by kernel_rfl) (by kernel_rfl) (by kernel_rfl) (fun _ _ _ h => h) (Or.inl ⟨by rfl, ?_⟩) (by assumption) ?_
      · intro w hSw
        (try dsimp only at hSw)
        go_simp
      try simp only [Act.put, List.setIfInBounds_toArray, List.set_cons_zero, List.set_cons_succ]
      refine wpAnyH_take (i := 8) (oi := { dst := some 65, op := Op.move (Operand.tmp 7), type := 3, pos := "outright.go:437", after := #[{ on := 1, ground := Ground.guard }], guard := some (1, true) }) (v := .int .i64 (k : Int)) rfl (by kernel_rfl) (by kernel_rfl) (by kernel_rfl) (fun _ _ _ h => h) (Or.inl ⟨by rfl, ?_⟩) (by assumption) ?_
      · intro w hSw
        (try dsimp only at hSw)
        go_simp
      try simp only [Act.put, List.setIfInBounds_toArray, List.set_cons_zero, List.set_cons_succ]
      refine wpAnyH_take (i := 9) (oi := { dst := some 66, op := Op.indexAddr 31 (Operand.tmp 64) (Operand.tmp 65), type := 0, pos := "outright.go:437", after := #[{ on := 7, ground := Ground.data }, { on := 8, ground := Ground.data }, { on := 1, ground := Ground.guard }], guard := some (1, true) }) (v := .pointer (some ⟨b, o + k * 3, none⟩)) rfl (by kernel_rfl) (by kernel_rfl) (by kernel_rfl) (fun _ _ _ h => h) (Or.inl ⟨by rfl, ?_⟩) (by assumption) ?_
      · intro w hSw
        (try dsimp only at hSw)
        go_simp
      try simp only [Act.put, List.setIfInBounds_toArray, List.set_cons_zero, List.set_cons_succ]
      refine wpAnyH_take (i := 10) (oi := { dst := some 67, op := Op.fieldAddr 50 (Operand.tmp 66) 0, type := 0, pos := "outright.go:437", after := #[{ on := 9, ground := Ground.data }, { on := 1, ground := Ground.guard }], guard := some (1, true) }) (v := .pointer (some ⟨b, o + k * 3, none⟩)) rfl (by kernel_rfl) (by kernel_rfl) (by kernel_rfl) (fun _ _ _ h => h) (Or.inl ⟨by rfl, ?_⟩) (by assumption) ?_
      · intro w hSw
        (try dsimp only at hSw)
        go_simp
      try simp only [Act.put, List.setIfInBounds_toArray, List.set_cons_zero, List.set_cons_succ]
      refine wpAnyH_take (i := 11) (oi := { dst := some 68, op := Op.load 3 (Operand.tmp 67), type := 3, pos := "outright.go:437", after := #[{ on := 10, ground := Ground.data }, { on := 1, ground := Ground.guard }], guard := some (1, true) }) (v := .int .i64 q0) rfl (by kernel_rfl) (by kernel_rfl) (by kernel_rfl) (fun _ _ _ h => h) (Or.inl ⟨by rfl, ?_⟩) (by assumption) ?_
      · intro w hSw
        (try dsimp only at hSw)
        go_simp
      try simp only [Act.put, List.setIfInBounds_toArray, List.set_cons_zero, List.set_cons_succ]
      refine wpAnyH_take (i := 12) (oi := { dst := some 69, op := Op.binOp BinOp.eql 3 (Operand.tmp 63) (Operand.tmp 68) 3, type := 4, pos := "outright.go:437", after := #[{ on := 6, ground := Ground.data }, { on := 11, ground := Ground.data }, { on := 1, ground := Ground.guard }], guard := some (1, true) }) (v := .bool true) rfl (by kernel_rfl) (by kernel_rfl) (by kernel_rfl) (fun _ _ _ h => h) (Or.inl ⟨by rfl, ?_⟩) (by assumption) ?_
      · intro w hSw
        (try dsimp only at hSw)
        go_simp
      try simp only [Act.put, List.setIfInBounds_toArray, List.set_cons_zero, List.set_cons_succ]
      refine wpAnyH_take (i := 13) (oi := { dst := some 70, op := Op.pick (Operand.tmp 58) (Operand.tmp 69) (Operand.const (Value.bool false)), type := 4, pos := "outright.go:437", after := #[{ on := 1, ground := Ground.data }, { on := 12, ground := Ground.data }], guard := none }) (v := .bool true) rfl (by kernel_rfl) (by kernel_rfl) (by kernel_rfl) (fun _ _ _ h => h) (Or.inl ⟨by rfl, ?_⟩) (by assumption) ?_
      · intro w hSw
        (try dsimp only at hSw)
        go_simp
      try simp only [Act.put, List.setIfInBounds_toArray, List.set_cons_zero, List.set_cons_succ]
      refine wpAnyH_take (i := 14) (oi := { dst := some 71, op := Op.move (Operand.tmp 70), type := 4, pos := "outright.go:437", after := #[{ on := 13, ground := Ground.data }, { on := 1, ground := Ground.chain }], guard := none }) (v := .bool true) rfl (by kernel_rfl) (by kernel_rfl) (by kernel_rfl) (fun _ _ _ h => h) (Or.inl ⟨by rfl, ?_⟩) (by assumption) ?_
      · intro w hSw
        (try dsimp only at hSw)
        go_simp
      try simp only [Act.put, List.setIfInBounds_toArray, List.set_cons_zero, List.set_cons_succ]
      refine wpAnyH_take (i := 15) (oi := { dst := some 72, op := Op.move (Operand.tmp 5), type := 31, pos := "outright.go:437", after := #[{ on := 14, ground := Ground.guard }], guard := some (14, true) }) (v := .slice (some ⟨w.heap.size, 0, none⟩) m m) rfl (by kernel_rfl) (by kernel_rfl) (by kernel_rfl) (fun _ _ _ h => h) (Or.inl ⟨by rfl, ?_⟩) (by assumption) ?_
      · intro w hSw
        (try dsimp only at hSw)
        go_simp
      try simp only [Act.put, List.setIfInBounds_toArray, List.set_cons_zero, List.set_cons_succ]
      refine wpAnyH_take (i := 16) (oi := { dst := some 73, op := Op.move (Operand.tmp 7), type := 3, pos := "outright.go:437", after := #[{ on := 14, ground := Ground.guard }], guard := some (14, true) }) (v := .int .i64 (k : Int)) rfl (by kernel_rfl) (by kernel_rfl) (by kernel_rfl) (fun _ _ _ h => h) (Or.inl ⟨by rfl, ?_⟩) (by assumption) ?_
      · intro w hSw
        (try dsimp only at hSw)
        go_simp
      try simp only [Act.put, List.setIfInBounds_toArray, List.set_cons_zero, List.set_cons_succ]
      refine wpAnyH_take (i := 17) (oi := { dst := some 74, op := Op.indexAddr 31 (Operand.tmp 72) (Operand.tmp 73), type := 0, pos := "outright.go:437", after := #[{ on := 15, ground := Ground.data }, { on := 16, ground := Ground.data }, { on := 14, ground := Ground.guard }], guard := some (14, true) }) (v := .pointer (some ⟨w.heap.size, k * 3, none⟩)) rfl (by kernel_rfl) (by kernel_rfl) (by kernel_rfl) (fun _ _ _ h => h) (Or.inl ⟨by rfl, ?_⟩) (by assumption) ?_
      · intro w hSw
        (try dsimp only at hSw)
        go_simp
      try simp only [Act.put, List.setIfInBounds_toArray, List.set_cons_zero, List.set_cons_succ]
      refine wpAnyH_take (i := 18) (oi := { dst := some 75, op := Op.fieldAddr 50 (Operand.tmp 74) 1, type := 0, pos := "outright.go:437", after := #[{ on := 17, ground := Ground.data }, { on := 14, ground := Ground.guard }], guard := some (14, true) }) (v := .pointer (some ⟨w.heap.size, k * 3 + 1, none⟩)) rfl (by kernel_rfl) (by kernel_rfl) (by kernel_rfl) (fun _ _ _ h => h) (Or.inl ⟨by rfl, ?_⟩) (by assumption) ?_
      · intro w hSw
        (try dsimp only at hSw)
        go_simp
      try simp only [Act.put, List.setIfInBounds_toArray, List.set_cons_zero, List.set_cons_succ]
      refine wpAnyH_take (i := 19) (oi := { dst := some 76, op := Op.load 3 (Operand.tmp 75), type := 3, pos := "outright.go:437", after := #[{ on := 18, ground := Ground.data }, { on := 14, ground := Ground.guard }], guard := some (14, true) }) (v := .int .i64 q1) rfl (by kernel_rfl) (by kernel_rfl) (by kernel_rfl) (fun _ _ _ h => h) (Or.inl ⟨by rfl, ?_⟩) (by assumption) ?_
      · intro w hSw
        (try dsimp only at hSw)
        go_simp
      try simp only [Act.put, List.setIfInBounds_toArray, List.set_cons_zero, List.set_cons_succ]
      refine wpAnyH_take (i := 20) (oi := { dst := some 77, op := Op.move (Operand.tmp 1), type := 31, pos := "outright.go:437", after := #[{ on := 14, ground := Ground.guard }], guard := some (14, true) }) (v := .slice (some ⟨b, o, none⟩) pn pc) rfl (by kernel_rfl) (by kernel_rfl) (by kernel_rfl) (fun _ _ _ h => h) (Or.inl ⟨by rfl, ?_⟩) (by assumption) ?_
      · intro w hSw
        (try dsimp only at hSw)
        go_simp
      try simp only [Act.put, List.setIfInBounds_toArray, List.set_cons_zero, List.set_cons_succ]
      refine wpAnyH_take (i := 21) (oi := { dst := some 78, op := Op.move (Operand.tmp 7), type := 3, pos := "outright.go:437", after := #[{ on := 14, ground := Ground.guard }], guard := some (14, true) }) (v := .int .i64 (k : Int)) rfl (by kernel_rfl) (by kernel_rfl) (by kernel_rfl) (fun _ _ _ h => h) (Or.inl ⟨by rfl, ?_⟩) (by assumption) ?_
      · intro w hSw
        (try dsimp only at hSw)
        go_simp
      try simp only [Act.put, List.setIfInBounds_toArray, List.set_cons_zero, List.set_cons_succ]
      refine wpAnyH_take (i := 22) (oi := { dst := some 79, op := Op.indexAddr 31 (Operand.tmp 77) (Operand.tmp 78), type := 0, pos := "outright.go:437", after := #[{ on := 20, ground := Ground.data }, { on := 21, ground := Ground.data }, { on := 14, ground := Ground.guard }], guard := some (14, true) }) (v := .pointer (some ⟨b, o + k * 3, none⟩)) rfl (by kernel_rfl) (by kernel_rfl) (by kernel_rfl) (fun _ _ _ h => h) (Or.inl ⟨by rfl, ?_⟩) (by assumption) ?_
      · intro w hSw
        (try dsimp only at hSw)
        go_simp
      try simp only [Act.put, List.setIfInBounds_toArray, List.set_cons_zero, List.set_cons_succ]
      refine wpAnyH_take (i := 23) (oi := { dst := some 80, op := Op.fieldAddr 50 (Operand.tmp 79) 1, type := 0, pos := "outright.go:437", after := #[{ on := 22, ground := Ground.data }, { on := 14, ground := Ground.guard }], guard := some (14, true) }) (v := .pointer (some ⟨b, o + k * 3 + 1, none⟩)) rfl (by kernel_rfl) (by kernel_rfl) (by kernel_rfl) (fun _ _ _ h => h) (Or.inl ⟨by rfl, ?_⟩) (by assumption) ?_
      · intro w hSw
        (try dsimp only at hSw)
        go_simp
      try simp only [Act.put, List.setIfInBounds_toArray, List.set_cons_zero, List.set_cons_succ]
      refine wpAnyH_take (i := 24) (oi := { dst := some 81, op := Op.load 3 (Operand.tmp 80), type := 3, pos := "outright.go:437", after := #[{ on := 23, ground := Ground.data }, { on := 14, ground := Ground.guard }], guard := some (14, true) }) (v := .int .i64 q1) rfl (by kernel_rfl) (by kernel_rfl) (by kernel_rfl) (fun _ _ _ h => h) (Or.inl ⟨by rfl, ?_⟩) (by assumption) ?_
      · intro w hSw
        (try dsimp only at hSw)
        go_simp
      try simp only [Act.put, List.setIfInBounds_toArray, List.set_cons_zero, List.set_cons_succ]
      refine wpAnyH_take (i := 25) (oi := { dst := some 82, op := Op.binOp BinOp.eql 3 (Operand.tmp 76) (Operand.tmp 81) 3, type := 4, pos := "outright.go:437", after := #[{ on := 19, ground := Ground.data }, { on := 24, ground := Ground.data }, { on := 14, ground := Ground.guard }], guard := some (14, true) }) (v := .bool true) rfl (by kernel_rfl) (by kernel_rfl) (by kernel_rfl) (fun _ _ _ h => h) (Or.inl ⟨by rfl, ?_⟩) (by assumption) ?_
      · intro w hSw
        (try dsimp only at hSw)
        go_simp
      try simp only [Act.put, List.setIfInBounds_toArray, List.set_cons_zero, List.set_cons_succ]
      refine wpAnyH_take (i := 26) (oi := { dst := some 83, op := Op.pick (Operand.tmp 71) (Operand.tmp 82) (Operand.const (Value.bool false)), type := 4, pos := "outright.go:437", after := #[{ on := 14, ground := Ground.data }, { on := 25, ground := Ground.data }], guard := none }) (v := .bool true) rfl (by kernel_rfl) (by kernel_rfl) (by kernel_rfl) (fun _ _ _ h => h) (Or.inl ⟨by rfl, ?_⟩) (by assumption) ?_
      · intro w hSw
        (try dsimp only at hSw)
        go_simp
      try simp only [Act.put, List.setIfInBounds_toArray, List.set_cons_zero, List.set_cons_succ]
      refine wpAnyH_take (i := 27) (oi := { dst := some 84, op := Op.move (Operand.tmp 83), type := 4, pos := "outright.go:437", after := #[{ on := 26, ground := Ground.data }, { on := 14, ground := Ground.chain }], guard := none }) (v := .bool true) rfl (by kernel_rfl) (by kernel_rfl) (by kernel_rfl) (fun _ _ _ h => h) (Or.inl ⟨by rfl, ?_⟩) (by assumption) ?_
      · intro w hSw
        (try dsimp only at hSw)
        go_simp
      try simp only [Act.put, List.setIfInBounds_toArray, List.set_cons_zero, List.set_cons_succ]
      refine wpAnyH_take (i := 28) (oi := { dst := some 85, op := Op.move (Operand.tmp 5), type := 31, pos := "outright.go:437", after := #[{ on := 27, ground := Ground.guard }], guard := some (27, true) }) (v := .slice (some ⟨w.heap.size, 0, none⟩) m m) rfl (by kernel_rfl) (by kernel_rfl) (by kernel_rfl) (fun _ _ _ h => h) (Or.inl ⟨by rfl, ?_⟩) (by assumption) ?_
      · intro w hSw
        (try dsimp only at hSw)
        go_simp
      try simp only [Act.put, List.setIfInBounds_toArray, List.set_cons_zero, List.set_cons_succ]
      refine wpAnyH_take (i := 29) (oi := { dst := some 86, op := Op.move (Operand.tmp 7), type := 3, pos := "outright.go:437", after := #[{ on := 27, ground := Ground.guard }], guard := some (27, true) }) (v := .int .i64 (k : Int)) rfl (by kernel_rfl) (by kernel_rfl) (by kernel_rfl) (fun _ _ _ h => h) (Or.inl ⟨by rfl, ?_⟩) (by assumption) ?_
      · intro w hSw
        (try dsimp only at hSw)
        go_simp
      try simp only [Act.put, List.setIfInBounds_toArray, List.set_cons_zero, List.set_cons_succ]
      refine wpAnyH_take (i := 30) (oi := { dst := some 87, op := Op.indexAddr 31 (Operand.tmp 85) (Operand.tmp 86), type := 0, pos := "outright.go:437", after := #[{ on := 28, ground := Ground.data }, { on := 29, ground := Ground.data }, { on := 27, ground := Ground.guard }], guard := some (27, true) }) (v := .pointer (some ⟨w.heap.size, k * 3, none⟩)) rfl (by kernel_rfl) (by kernel_rfl) (by kernel_rfl) (fun _ _ _ h => h) (Or.inl ⟨by rfl, ?_⟩) (by assumption) ?_
      · intro w hSw
        (try dsimp only at hSw)
        go_simp
      try simp only [Act.put, List.setIfInBounds_toArray, List.set_cons_zero, List.set_cons_succ]
      refine wpAnyH_take (i := 31) (oi := { dst := some 88, op := Op.fieldAddr 50 (Operand.tmp 87) 2, type := 0, pos := "outright.go:437", after := #[{ on := 30, ground := Ground.data }, { on := 27, ground := Ground.guard }], guard := some (27, true) }) (v := .pointer (some ⟨w.heap.size, k * 3 + 2, none⟩)) rfl (by kernel_rfl) (by kernel_rfl) (by kernel_rfl) (fun _ _ _ h => h) (Or.inl ⟨by rfl, ?_⟩) (by assumption) ?_
      · intro w hSw
        (try dsimp only at hSw)
        go_simp
      try simp only [Act.put, List.setIfInBounds_toArray, List.set_cons_zero, List.set_cons_succ]
      refine wpAnyH_take (i := 32) (oi := { dst := some 89, op := Op.load 3 (Operand.tmp 88), type := 3, pos := "outright.go:437", after := #[{ on := 31, ground := Ground.data }, { on := 27, ground := Ground.guard }], guard := some (27, true) }) (v := .int .i64 q2) rfl (by kernel_rfl) (by kernel_rfl) (by kernel_rfl) (fun _ _ _ h => h) (Or.inl ⟨by rfl, ?_⟩) (by assumption) ?_
      · intro w hSw
        (try dsimp only at hSw)
        go_simp
      try simp only [Act.put, List.setIfInBounds_toArray, List.set_cons_zero, List.set_cons_succ]
      refine wpAnyH_take (i := 33) (oi := { dst := some 90, op := Op.move (Operand.tmp 1), type := 31, pos := "outright.go:437", after := #[{ on := 27, ground := Ground.guard }], guard := some (27, true) }) (v := .slice (some ⟨b, o, none⟩) pn pc) rfl (by kernel_rfl) (by kernel_rfl) (by kernel_rfl) (fun _ _ _ h => h) (Or.inl ⟨by rfl, ?_⟩) (by assumption) ?_
      · intro w hSw
        (try dsimp only at hSw)
        go_simp
      try simp only [Act.put, List.setIfInBounds_toArray, List.set_cons_zero, List.set_cons_succ]
      refine wpAnyH_take (i := 34) (oi := { dst := some 91, op := Op.move (Operand.tmp 7), type := 3, pos := "outright.go:437", after := #[{ on := 27, ground := Ground.guard }], guard := some (27, true) }) (v := .int .i64 (k : Int)) rfl (by kernel_rfl) (by kernel_rfl) (by kernel_rfl) (fun _ _ _ h => h) (Or.inl ⟨by rfl, ?_⟩) (by assumption) ?_
      · intro w hSw
        (try dsimp only at hSw)
        go_simp
      try simp only [Act.put, List.setIfInBounds_toArray, List.set_cons_zero, List.set_cons_succ]
      refine wpAnyH_take (i := 35) (oi := { dst := some 92, op := Op.indexAddr 31 (Operand.tmp 90) (Operand.tmp 91), type := 0, pos := "outright.go:437", after := #[{ on := 33, ground := Ground.data }, { on := 34, ground := Ground.data }, { on := 27, ground := Ground.guard }], guard := some (27, true) }) (v := .pointer (some ⟨b, o + k * 3, none⟩)) rfl (by kernel_rfl) (by kernel_rfl) (by kernel_rfl) (fun _ _ _ h => h) (Or.inl ⟨by rfl, ?_⟩) (by assumption) ?_
      · intro w hSw
        (try dsimp only at hSw)
        go_simp
      try simp only [Act.put, List.setIfInBounds_toArray, List.set_cons_zero, List.set_cons_succ]
      refine wpAnyH_take (i := 36) (oi := { dst := some 93, op := Op.fieldAddr 50 (Operand.tmp 92) 2, type := 0, pos := "outright.go:437", after := #[{ on := 35, ground := Ground.data }, { on := 27, ground := Ground.guard }], guard := some (27, true) }) (v := .pointer (some ⟨b, o + k * 3 + 2, none⟩)) rfl (by kernel_rfl) (by kernel_rfl) (by kernel_rfl) (fun _ _ _ h => h) (Or.inl ⟨by rfl, ?_⟩) (by assumption) ?_
      · intro w hSw
        (try dsimp only at hSw)
        go_simp
      try simp only [Act.put, List.setIfInBounds_toArray, List.set_cons_zero, List.set_cons_succ]
      refine wpAnyH_take (i := 37) (oi := { dst := some 94, op := Op.load 3 (Operand.tmp 93), type := 3, pos := "outright.go:437", after := #[{ on := 36, ground := Ground.data }, { on := 27, ground := Ground.guard }], guard := some (27, true) }) (v := .int .i64 q2) rfl (by kernel_rfl) (by kernel_rfl) (by kernel_rfl) (fun _ _ _ h => h) (Or.inl ⟨by rfl, ?_⟩) (by assumption) ?_
      · intro w hSw
        (try dsimp only at hSw)
        go_simp
      try simp only [Act.put, List.setIfInBounds_toArray, List.set_cons_zero, List.set_cons_succ]
      refine wpAnyH_take (i := 38) (oi := { dst := some 95, op := Op.binOp BinOp.eql 3 (Operand.tmp 89) (Operand.tmp 94) 3, type := 4, pos := "outright.go:437", after := #[{ on := 32, ground := Ground.data }, { on := 37, ground := Ground.data }, { on := 27, ground := Ground.guard }], guard := some (27, true) }) (v := .bool true) rfl (by kernel_rfl) (by kernel_rfl) (by kernel_rfl) (fun _ _ _ h => h) (Or.inl ⟨by rfl, ?_⟩) (by assumption) ?_
      · intro w hSw
        (try dsimp only at hSw)
        go_simp
      try simp only [Act.put, List.setIfInBounds_toArray, List.set_cons_zero, List.set_cons_succ]
      refine wpAnyH_take (i := 39) (oi := { dst := some 96, op := Op.pick (Operand.tmp 84) (Operand.tmp 95) (Operand.const (Value.bool false)), type := 4, pos := "outright.go:437", after := #[{ on := 27, ground := Ground.data }, { on := 38, ground := Ground.data }], guard := none }) (v := .bool true) rfl (by kernel_rfl) (by kernel_rfl) (by kernel_rfl) (fun _ _ _ h => h) (Or.inl ⟨by rfl, ?_⟩) (by assumption) ?_
      · intro w hSw
        (try dsimp only at hSw)
        go_simp
      try simp only [Act.put, List.setIfInBounds_toArray, List.set_cons_zero, List.set_cons_succ]
      refine wpAnyH_take (i := 40) (oi := { dst := some 6, op := Op.assign (Operand.tmp 96), type := 4, pos := "outright.go:437", after := #[{ on := 39, ground := Ground.data }, { on := 27, ground := Ground.chain }, { on := 0, ground := Ground.phase }, { on := 1, ground := Ground.phase }, { on := 2, ground := Ground.phase }, { on := 3, ground := Ground.phase }, { on := 4, ground := Ground.phase }, { on := 5, ground := Ground.phase }, { on := 6, ground := Ground.phase }, { on := 7, ground := Ground.phase }, { on := 8, ground := Ground.phase }, { on := 9, ground := Ground.phase }, { on := 10, ground := Ground.phase }, { on := 11, ground := Ground.phase }, { on := 12, ground := Ground.phase }, { on := 13, ground := Ground.phase }, { on := 14, ground := Ground.phase }, { on := 15, ground := Ground.phase }, { on := 16, ground := Ground.phase }, { on := 17, ground := Ground.phase }, { on := 18, ground := Ground.phase }, { on := 19, ground := Ground.phase }, { on := 20, ground := Ground.phase }, { on := 21, ground := Ground.phase }, { on := 22, ground := Ground.phase }, { on := 23, ground := Ground.phase }, { on := 24, ground := Ground.phase }, { on := 25, ground := Ground.phase }, { on := 26, ground := Ground.phase }, { on := 27, ground := Ground.phase }, { on := 28, ground := Ground.phase }, { on := 29, ground := Ground.phase }, { on := 30, ground := Ground.phase }, { on := 31, ground := Ground.phase }, { on := 32, ground := Ground.phase }, { on := 33, ground := Ground.phase }, { on := 34, ground := Ground.phase }, { on := 35, ground := Ground.phase }, { on := 36, ground := Ground.phase }, { on := 37, ground := Ground.phase }, { on := 38, ground := Ground.phase }, { on := 39, ground := Ground.phase }], guard := none }) (v := .bool true) rfl (by kernel_rfl) (by kernel_rfl) (by kernel_rfl) (fun _ _ _ h => h) (Or.inl ⟨by rfl, ?_⟩) (by assumption) ?_
      · intro w hSw
        (try dsimp only at hSw)
        go_simp
      try simp only [Act.put, List.setIfInBounds_toArray, List.set_cons_zero, List.set_cons_succ]
      refine wpAnyH_done (by kernel_rfl) ?_ _
      rw [← HW.out]
      clear hHeld HC
      go_wp2
      go_roundw
      case rel => exact ⟨k + 1, by omega, rfl, by go_num, HR.out⟩
      case measure => simp [intOf]; omega
    · obtain rfl : k = pn := by omega
      have hlt' : ¬ (k : Int) < (k : Int) := by omega
      have HR : Hid (HdO w lab B p r s (S.crash s pl) T wr) := ⟨L, hG, hT⟩
      clear hbk lg hG hT hA
      go_wp2
      go_ret
      exact ⟨rfl, HR.out⟩
end Go.Proofs.Ytnolpafdkaloeaa
end

section
namespace Go.Proofs.Ytnolpafdkaloeaa
open Go.RowKit Go.Maps

theorem isB_no {y : Nat} (h : y < 11) : ¬ isB y := by rintro (h | h) <;> omega
theorem isK_no {y : Nat} (h : y < 20) : ¬ isK y := by rintro (h | h) <;> omega
theorem isB_notK {y : Nat} (h : isB y) (h2 : isK y) : False := by
  rcases h with h | h <;> rcases h2 with h2 | h2 <;> omega

/-- The law's world: both disks, the other disk, the book, what is kept, and the copy of the operation. -/
structure St (W0 w : World) (B : Nat) (lab : Nat → Nat) (p r s : Nat) (S T : DS) (q kq xp : Nat) (Sx : DS) (nm : List (Nat × Int)) (ds : List (List Int)) (Q : Option Nat) (C : Array Value) : Prop where
  lz : LZ lab w
  lo : ∀ k, lab k ≠ 0 → B ≤ k
  hB : B ≤ w.heap.size
  bel : Below B W0 w
  tw : Tw w B lab p r s S T
  x : DiskAt w (ofL lab 3) xp s Sx
  bk : ∃ v0 v1 v2 v3 v4 v5, Bk w lab q v0 v1 v2 v3 v4 v5 nm
  kp : ∃ vL vW, Kq w lab kq vL vW ds ds
  box : ∀ b, Q = some b → w.heap[b]? = some (.cells C 33 (0, 0)) ∧ lab b = 0

section
variable {W0 w w' : World} {B p r s q kq xp : Nat} {Q : Option Nat} {lab lab' : Nat → Nat} {S T S' T' Sx : DS} {nm nm' : List (Nat × Int)} {ds ds' : List (List Int)} {C : Array Value} {X : Nat → Prop}
theorem St.boxes (h : St W0 w B lab p r s S T q kq xp Sx nm ds Q C) (g : Gro lab lab' w w' X) (h0 : ¬ X 0) : ∀ b, Q = some b → w'.heap[b]? = some (.cells C 33 (0, 0)) ∧ lab' b = 0 := fun b hb => by
  obtain ⟨h1, h2⟩ := h.box b hb
  have hl := (Array.getElem?_eq_some_iff.1 h1).1
  exact ⟨(g.block hl h2 h0).trans h1, g.tag hl h2⟩
theorem St.opened (h : St W0 w B lab p r s S T q kq xp Sx nm ds none C) {b : Nat} {D : Array Value} (h1 : w.heap[b]? = some (.cells D 33 (0, 0))) (h2 : lab b = 0) : St W0 w B lab p r s S T q kq xp Sx nm ds (some b) D :=
  ⟨h.lz, h.lo, h.hB, h.bel, h.tw, h.x, h.bk, h.kp, fun b' e => by cases e; exact ⟨h1, h2⟩⟩
theorem St.closed (h : St W0 w B lab p r s S T q kq xp Sx nm ds Q C) : St W0 w B lab p r s S T q kq xp Sx nm ds none #[] :=
  ⟨h.lz, h.lo, h.hB, h.bel, h.tw, h.x, h.bk, h.kp, fun b' e => by cases e⟩
/-- A step of the disks, or of nobody that is here. -/
theorem St.go (h : St W0 w B lab p r s S T q kq xp Sx nm ds Q C) (g : Gro lab lab' w w' X) (h0 : ¬ X 0) (h3 : ¬ X 3) (hX : ∀ y, 11 ≤ y → y ≤ 22 → ¬ X y) (hYB : ∀ i, i < nm.length → ¬ X (yB i)) (hYK : ∀ i, i < ds.length → ¬ X (yK i)) (t : Tw w' B lab' p r s S' T') : St W0 w' B lab' p r s S' T' q kq xp Sx nm ds Q C := by
  obtain ⟨v0, v1, v2, v3, v4, v5, hb⟩ := h.bk
  obtain ⟨vL, vW, hk⟩ := h.kp
  exact ⟨g.lz, g.lowB h.hB h.lo, Nat.le_trans h.hB g.kp.size, h.bel.trans (g.belowB h.hB h.lo h0), t, h.x.gro g (by omega) h3, ⟨v0, v1, v2, v3, v4, v5, hb.gro g (fun y hy => hX y hy.1 (by omega)) hYB⟩, ⟨vL, vW, hk.gro g (fun y h1 h2 => hX y (by omega) h2) h0 hYK⟩, h.boxes g h0⟩
theorem St.later (h : St W0 w B lab p r s S T q kq xp Sx nm ds Q C) (hb : Below w.heap.size w w') : St W0 w' B lab p r s S T q kq xp Sx nm ds Q C :=
  h.go (Gro.below h.lz hb (fun _ => False)) (fun h => h) (fun h => h) (fun _ _ _ h => h) (fun _ _ h => h) (fun _ _ h => h) (h.tw.gro (Gro.below h.lz hb (fun _ => False)) (fun h => h))
theorem St.one (h : St W0 w B lab p r s S T q kq xp Sx nm ds Q C) (g : Gro lab lab' w w' (fun z => z = 1)) (t : Tw w' B lab' p r s S' T') : St W0 w' B lab' p r s S' T' q kq xp Sx nm ds Q C :=
  h.go g (by omega) (by omega) (fun y h1 h2 e => by omega) (fun i _ e => by have := yB_ge i; omega) (fun i _ e => by have := yK_ge i; omega) t
theorem St.nine (h : St W0 w B lab p r s S T q kq xp Sx nm ds Q C) (g : Gro lab lab' w w' (fun z => z = 1 ∨ z = 9)) (t : Tw w' B lab' p r s S' T') : St W0 w' B lab' p r s S' T' q kq xp Sx nm ds Q C :=
  h.go g (by omega) (by omega) (fun y h1 h2 e => by omega) (fun i _ e => by have := yB_ge i; omega) (fun i _ e => by have := yK_ge i; omega) t
theorem St.ynote (h : St W0 w B lab p r s S T q kq xp Sx nm ds Q C) (g : Gro lab lab' w w' (fun z => z = 1 ∨ z = yB nm.length)) (t : Tw w' B lab' p r s S' T') : St W0 w' B lab' p r s S' T' q kq xp Sx nm ds Q C := by
  have yb := yB_ge nm.length
  have ye := yB_even nm.length
  exact h.go g (by omega) (by omega) (fun y h1 h2 e => by omega) (fun i hi e => by
    rcases e with e | e
    · have := yB_ge i; omega
    · exact yB_ne hi e) (fun i _ e => by have := yK_ge i; have := yK_odd i; omega) t
theorem St.ykeep (h : St W0 w B lab p r s S T q kq xp Sx nm ds Q C) {m : Nat} (hm : ds.length ≤ m) (g : Gro lab lab' w w' (fun z => z = 1 ∨ z = yK m)) (t : Tw w' B lab' p r s S' T') : St W0 w' B lab' p r s S' T' q kq xp Sx nm ds Q C := by
  have yb := yK_ge m
  have ye := yK_odd m
  exact h.go g (by omega) (by omega) (fun y h1 h2 e => by omega) (fun i hi e => by have := yB_ge i; have := yB_even i; omega) (fun i hi e => by
    rcases e with e | e
    · have := yK_ge i; omega
    · exact yK_ne (by omega) e) t
/-- The book has grown. -/
theorem St.book (h : St W0 w B lab p r s S T q kq xp Sx nm ds Q C) (g : Gro lab lab' w w' (fun y => isB y ∨ y = 9)) {u0 u1 u2 u3 u4 u5 : Value} (hb : Bk w' lab' q u0 u1 u2 u3 u4 u5 nm') : St W0 w' B lab' p r s S T q kq xp Sx nm' ds Q C := by
  have no : ∀ y, y < 9 → ¬ (isB y ∨ y = 9) := fun y hy e => e.elim (isB_no (by omega)) (by omega)
  obtain ⟨vL, vW, hk⟩ := h.kp
  exact ⟨g.lz, g.lowB h.hB h.lo, Nat.le_trans h.hB g.kp.size, h.bel.trans (g.belowB h.hB h.lo (no 0 (by omega))), h.tw.gro g (no 1 (by omega)), h.x.gro g (by omega) (no 3 (by omega)), ⟨_, _, _, _, _, _, hb⟩, ⟨vL, vW, hk.far g (fun y hy hk => hy.elim (fun e => isB_notK e hk) (fun e => isK_no (by omega) hk)) (no 0 (by omega))⟩, h.boxes g (no 0 (by omega))⟩
/-- What is kept has grown. -/
theorem St.kept (h : St W0 w B lab p r s S T q kq xp Sx nm ds Q C) (g : Gro lab lab' w w' (fun z => z = 1 ∨ isK z)) (t : Tw w' B lab' p r s S' T') {vL vW : Value} (hk : Kq w' lab' kq vL vW ds' ds') : St W0 w' B lab' p r s S' T' q kq xp Sx nm ds' Q C := by
  have no : ∀ y, y ≠ 1 → y < 20 → ¬ (y = 1 ∨ isK y) := fun y h1 hy e => e.elim h1 (isK_no hy)
  obtain ⟨v0, v1, v2, v3, v4, v5, hb⟩ := h.bk
  exact ⟨g.lz, g.lowB h.hB h.lo, Nat.le_trans h.hB g.kp.size, h.bel.trans (g.belowB h.hB h.lo (no 0 (by omega) (by omega))), t, h.x.gro g (by omega) (no 3 (by omega) (by omega)), ⟨v0, v1, v2, v3, v4, v5, hb.far g (fun y hy hB => hy.elim (fun e => isB_no (by omega) hB) (fun e => isB_notK hB e))⟩, ⟨vL, vW, hk⟩, h.boxes g (no 0 (by omega) (by omega))⟩
theorem St.whole (h : St W0 w B lab p r s S T q kq xp Sx nm ds Q C) (hm : ∀ q ∈ nm, q.1 ≤ 100000000) (hN : nm.length ≤ 7000000000000) :
    Calls Try.prog 31 #[.pointer (some ⟨q, 0, none⟩)] w fun e w' => e = .returned (.bool true) ∧ Below w.heap.size w w' := by
  obtain ⟨v0, v1, v2, v3, v4, v5, hb⟩ := h.bk
  exact whole_any hb h.lz hm hN
theorem St.note (h : St W0 w B lab p r s S T q kq xp Sx nm ds Q C) {n : Nat} {v : Value} {l : List Int} (ho : OR w lab (yB nm.length) 5 v n (bs l)) (hn : n ≤ 100000000) (hN : nm.length ≤ 7000000000000) :
    Calls Try.prog 32 #[.pointer (some ⟨q, 0, none⟩), v] w fun e w' => e = .returned (.tuple #[]) ∧ ∃ lab' x, St W0 w' B lab' p r s S T q kq xp Sx (nm ++ [(n, x)]) ds Q C := by
  obtain ⟨v0, v1, v2, v3, v4, v5, hb⟩ := h.bk
  refine (note_any hb h.lz ho hn hN).mono ?_
  rintro e w' ⟨rfl, lab', x, u0, u1, u2, u3, u4, u5, g, hb'⟩
  exact ⟨rfl, lab', x, h.book g hb'⟩
theorem St.add (h : St W0 w B lab p r s S T q kq xp Sx nm ds Q C) {v : Value} {l : List Int} (ho : OR w lab (yK ds.length) 5 v l.length (bs l)) (hn : l.length ≤ 100000000) (hN : ds.length ≤ 7000000000000) :
    Calls Try.prog 35 #[.pointer (some ⟨kq, 0, none⟩), v] w fun e w' => e = .returned (.tuple #[]) ∧ ∃ lab', St W0 w' B lab' p r s S T q kq xp Sx nm (ds ++ [l]) Q C ∧ Gro lab lab' w w' (fun y => 20 ≤ y ∧ y ≤ 22) := by
  obtain ⟨vL, vW, hk⟩ := h.kp
  refine (add_any hk h.lz ho hn hN).mono ?_
  rintro e w' ⟨rfl, lab', uL, uW, g, hk'⟩
  have g2 := g.mono (Z := fun z => z = 1 ∨ isK z) (fun y hy => .inr (isK_of hy.1 (by omega)))
  exact ⟨rfl, lab', h.kept g2 (h.tw.gro g (by omega)) hk', g⟩
theorem St.reads (h : St W0 w B lab p r s S S q kq xp Sx nm ds Q C) (hbig : S.puts.length + 10 ≤ 4000000000000) (hN : ds.length ≤ 6000000000000) (hm : ∀ d ∈ ds, d.length ≤ 100000000) (x : Int) :
    Calls Try.prog 33 #[.pointer (some ⟨kq, 0, none⟩), .pointer (some ⟨p, 0, none⟩), .pointer (some ⟨r, 0, none⟩), .int .i64 x] w fun e w' => e = .returned (.bool true) ∧ ∃ lab' S' es, St W0 w' B lab' p r s S' S' q kq xp Sx nm es Q C ∧ es.length ≤ ds.length + 3 ∧ (∀ d ∈ es, d.length ≤ 100000000) ∧ S'.puts.length ≤ S.puts.length + 3 := by
  obtain ⟨vL, vW, hk⟩ := h.kp
  refine (reads_any h.tw h.lz hk hbig hN hm x).mono ?_
  rintro e w' ⟨rfl, lab', S', uL, uW, es, g, t, hk', h1, h2, h3⟩
  exact ⟨rfl, lab', S', es, h.kept g t hk', h1, h2, h3⟩
theorem Tw.rcrash (h : Tw w B lab p r s S T) (hz : LZ lab w) (hbig : T.puts.length + 1 ≤ 4000000000000) (a : Option Addr) (n c : Nat) (l : List P3) (hps : PSrc w a n l) (hn : n ≤ 140737488355328) :
    Calls Try.prog 39 #[.pointer (some ⟨r, 0, none⟩), .slice a n c] w fun e w' => e = .returned (.tuple #[]) ∧ ∃ lab', Gro lab lab' w w' (fun z => z = 1) ∧ Tw w' B lab' p r s S (T.crash s l) := by
  obtain ⟨F, G, h, hf, hg⟩ := h
  refine (rcrash_all h.e hbig a n c l hps hn).mono ?_
  rintro e w' ⟨rfl, h1, h2⟩
  have G1 := Gro.keeps hz h2 1 (fun k _ h => hg k h)
  refine ⟨rfl, _, G1, F, _, h.right h1 h2, fun k hk => G1.tag (h.d.lt k hk) (hf k hk), fun k hk => ?_⟩
  rcases hk with hk | hk
  · exact G1.tag (h.e.lt k hk) (hg k hk)
  · exact relab_new hk.1 hk.2
/-- What is left when all that was kept is written over. -/
def GrO (W0 : World) (B p r s q xp : Nat) (S T Sx : DS) (nm : List (Nat × Int)) (w' : World) : Prop := ∃ lab', LZ lab' w' ∧ Below B W0 w' ∧ Tw w' B lab' p r s S T ∧ DiskAt w' (ofL lab' 3) xp s Sx ∧ ∃ v0 v1 v2 v3 v4 v5, Bk w' lab' q v0 v1 v2 v3 v4 v5 nm
theorem GrO.later {wy : World} (h : GrO W0 B p r s q xp S T Sx nm w') (hb : Below w'.heap.size w' wy) (hB : B ≤ w'.heap.size) : GrO W0 B p r s q xp S T Sx nm wy := by
  obtain ⟨lab', hz, hw, t, x, v0, v1, v2, v3, v4, v5, hk⟩ := h
  have g := Gro.below hz hb (fun _ => False)
  exact ⟨lab', g.lz, hw.trans (hb.mono hB), t.gro g (fun h => h), x.gro g (by omega) (fun h => h), v0, v1, v2, v3, v4, v5, hk.later hz hb⟩
end
end Go.Proofs.Ytnolpafdkaloeaa
end
