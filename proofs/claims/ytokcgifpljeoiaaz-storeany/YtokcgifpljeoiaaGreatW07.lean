import Derived.Test.YtokcgifpljeoiaaGreatW06
import Derived.OwnWalk
import Derived.Laws.AppendOwnNone
section
namespace Go.Proofs.YtokcgifpljeoiaaGreat
open Go.RowKit

theorem snewest_eq {l r : List Int} (hl : l.length = 512) (hr : r.length = 512) : snewest l r = if (sanchor l).1 = 0 ∧ (sanchor r).1 = 0 then (0, 0, [], 30) else if (sanchor l).1 < (sanchor r).1 then (1, (sanchor r).1, (sanchor r).2, 0) else (0, (sanchor l).1, (sanchor l).2, 0) := by
  unfold snewest; rw [if_neg (by omega)]
theorem sanchor_small (s : List Int) : (sanchor s).1 ≤ 9223372036854775807 := by
  unfold sanchor
  split
  · simp
  · split
    · next h => simp only; omega
    · simp

/-- What newest holds behind k rounds. -/
def nst (l r : List Int) : Nat → Nat × Nat × List Int
  | 0 => (0, 0, [])
  | 1 => if 0 < (sanchor l).1 then (0, (sanchor l).1, (sanchor l).2) else (0, 0, [])
  | _ + 2 => if (if 0 < (sanchor l).1 then (0, (sanchor l).1, (sanchor l).2) else (0, 0, ([] : List Int))).2.1 < (sanchor r).1 then (1, (sanchor r).1, (sanchor r).2) else if 0 < (sanchor l).1 then (0, (sanchor l).1, (sanchor l).2) else (0, 0, [])
theorem nst_two {l r : List Int} (hl : l.length = 512) (hr : r.length = 512) : nst l r 2 = ((snewest l r).1, (snewest l r).2.1, (snewest l r).2.2.1) := by
  rw [snewest_eq hl hr]
  unfold nst
  by_cases h1 : 0 < (sanchor l).1
  · simp only [if_pos h1]
    rw [if_neg (show ¬ ((sanchor l).1 = 0 ∧ (sanchor r).1 = 0) by omega)]
    by_cases h2 : (sanchor l).1 < (sanchor r).1
    · simp only [if_pos h2]
    · simp only [if_neg h2]
  · simp only [if_neg h1]
    by_cases h2 : 0 < (sanchor r).1
    · simp only [if_pos h2]
      rw [if_neg (show ¬ ((sanchor l).1 = 0 ∧ (sanchor r).1 = 0) by omega), if_pos (show (sanchor l).1 < (sanchor r).1 by omega)]
    · simp only [if_neg h2]
      rw [if_pos (show (sanchor l).1 = 0 ∧ (sanchor r).1 = 0 by omega)]
theorem LstIn.agree {w w' : World} {g : Nat} {v : Value} {l : List Int} (h : LstIn w g v l) (hb : w'.heap[g]? = w.heap[g]?) : LstIn w' g v l := by
  obtain ⟨a, c, rfl, hs, hc, hx⟩ := h
  refine ⟨a, c, rfl, ⟨hs.1, hs.2.1, fun x e i hi => ?_⟩, hc, hx⟩
  rw [World.cell?_of_block (w := w) (by rw [blockOf_add, (hx x e)]; exact hb)]
  exact hs.2.2 x e i hi
theorem set3 {w : World} {g : Nat} {T : TypeId} {a b c x y z : Value} (h : w.heap[g]? = some (.cells #[a, b, c] T (0, 0))) :
    (((w.setCell ⟨g, 0, none⟩ x).setCell ⟨g, 1, none⟩ y).setCell ⟨g, 2, none⟩ z).heap[g]? = some (.cells #[x, y, z] T (0, 0)) := by
  rw [heap_setCell_same _ _ _ _ _ _ (heap_setCell_same _ _ _ _ _ _ (heap_setCell_same _ _ _ _ _ _ h))]
  rfl
theorem range3 {w : World} {g : Nat} {T : TypeId} {x y z : Value} (h : w.heap[g]? = some (.cells #[x, y, z] T (0, 0))) : w.rangeAt g 0 [x, y, z] := by
  intro j v hv
  rw [Nat.zero_add]
  exact cell_of_block h (by simpa using hv)
theorem infoAnchor : (Tryz.prog.info? 206).map (·.size) = some 3 := by kernel_rfl
theorem keeps3 (w : World) (g : Nat) (x y z : Value) : Keeps (fun j => j = g) w (((w.setCell ⟨g, 0, none⟩ x).setCell ⟨g, 1, none⟩ y).setCell ⟨g, 2, none⟩ z) :=
  ((Keeps.setCell (F := fun j => j = g) (p := ⟨g, 0, none⟩) w rfl x).trans (Keeps.setCell (F := fun j => j = g) (p := ⟨g, 1, none⟩) _ rfl y) (fun _ h => .inl h)).trans (Keeps.setCell (F := fun j => j = g) (p := ⟨g, 2, none⟩) _ rfl z) (fun _ h => .inl h)
/-- What newest's loop keeps. -/
def Nw (w : World) (g : Nat) (l r : List Int) (k : Nat) (wr : World) : Prop :=
  ∃ v, wr.heap[w.heap.size + 1]? = some (.cells #[.int .i64 (((nst l r k).1 : Nat) : Int), .int .i64 (((nst l r k).2.1 : Nat) : Int), v] 206 (0, 0)) ∧ LstIn wr g v (nst l r k).2.2 ∧
    (∃ x y z, wr.heap[w.heap.size]? = some (.cells #[x, y, z] 206 (0, 0))) ∧ Below w.heap.size w wr

set_option maxRecDepth 20000 in
set_option maxHeartbeats 4000000 in
theorem newest_any (g : Nat) (l r : List Int) (w : World) (hs : Src w (some ⟨g, 0, none⟩) 512 l) (hs2 : Src w (some ⟨g, 512, none⟩) 512 r) (hl : Bytes l) (hr : Bytes r) :
    Calls Tryz.prog 150 #[.pointer (some ⟨g, 0, none⟩)] w fun e w' => ∃ v, e = .returned (.agg #[.int .i64 (((snewest l r).1 : Nat) : Int), .int .i64 (((snewest l r).2.1 : Nat) : Int), v]) ∧ LstIn w' g v (snewest l r).2.2.1 ∧ Below w.heap.size w w' := by
  have h1 := Hid.mk (fun w' (hb : Below w.heap.size w w') => anchor_any g 0 l w' (hs.later hb) hl)
  have h2 := Hid.mk (fun w' (hb : Below w.heap.size w w') => anchor_any g 512 r w' (hs2.later hb) hr)
  have hg : g < w.heap.size := hs.old _ rfl (by omega)
  have Hfin := Hid.mk (nst_two hs.1 hs2.1)
  clear hs hs2
  go_enter Tryz.func150, Tryz.ntmps150
  go_wp2
  go_loopw [8] (fun i wr => ∃ k : Nat, k ≤ 2 ∧ i = .int .i64 k ∧ Nw w g l r k wr) (fun i _ => 2 - (intOf i).toNat)
  case atStart => exact ⟨0, Nat.zero_le _, rfl, .slice none 0 0, heap_alloc2_new _ _ _, LstIn.nil _ _, ⟨_, _, _, heap_alloc2_old _ _ _⟩, ((Below.refl _ w).alloc (Nat.le_refl _) _).alloc (by simp) _⟩
  case round =>
    obtain ⟨k, hk, rfl, hN⟩ := hrel
    obtain rfl | rfl | rfl : k = 0 ∨ k = 1 ∨ k = 2 := by omega
    · obtain ⟨v, hblk, hlst, hres, hbr⟩ := hN
      have k1 := h1.out wr hbr
      have HN := Hid.mk (And.intro hblk (And.intro hlst (And.intro hres hbr)))
      clear hblk hlst hres hbr
      generalize hns : nst l r 0 = S at *
      go_wp2_with fail
      refine k1.mono ?_
      rintro e w1 ⟨v1, rfl, hl1, hb1⟩
      obtain ⟨a1, c1, hv1, hq1⟩ := hl1
      subst hv1
      have hl1 : LstIn w1 g _ _ := ⟨a1, c1, rfl, hq1⟩
      clear hq1
      obtain ⟨hblk, hlst, ⟨rx, ry, rz, hres⟩, hbr⟩ := HN.out
      have hblk1 := (hb1.block _ (Array.getElem?_eq_some_iff.1 hblk).1).trans hblk
      have hres1 := (hb1.block _ (Array.getElem?_eq_some_iff.1 hres).1).trans hres
      have hB1 := hbr.trans (hb1.mono hbr.size)
      have hlst1 := hlst.later hb1
      have hc0 := cell_of_block hblk1 (j := 0) rfl
      have hc1 := cell_of_block hblk1 (j := 1) rfl
      have hc2 := cell_of_block hblk1 (j := 2) rfl
      have hf0 := frozen_of_block hblk1 0
      have hf1 := frozen_of_block hblk1 1
      have hf2 := frozen_of_block hblk1 2
      have hz := hB1.size
      by_cases h0 : S.2.1 < (sanchor l).1
      · have h0' : ((S.2.1 : Nat) : Int) < (((sanchor l).1 : Nat) : Int) := by omega
        have hn : nst l r 1 = (0, (sanchor l).1, (sanchor l).2) := by
          rw [← hns] at h0
          have h0 : 0 < (sanchor l).1 := h0
          unfold nst; rw [if_pos h0]
        have hkp := keeps3 w1 (w.heap.size + 1) (.int .i64 0) (.int .i64 (((sanchor l).1 : Nat) : Int)) (.slice a1 (sanchor l).2.length c1)
        have hNw : Nw w g l r 1 (((w1.setCell ⟨w.heap.size + 1, 0, none⟩ (.int .i64 0)).setCell ⟨w.heap.size + 1, 1, none⟩ (.int .i64 (((sanchor l).1 : Nat) : Int))).setCell ⟨w.heap.size + 1, 2, none⟩ (.slice a1 (sanchor l).2.length c1)) := by
          refine ⟨_, by rw [hn]; exact (set3 (x := .int .i64 0) (y := .int .i64 (((sanchor l).1 : Nat) : Int)) (z := .slice a1 (sanchor l).2.length c1) hblk1), by rw [hn]; exact hl1.agree (hkp.block g (by omega) (by omega)), ⟨rx, ry, rz, (hkp.block _ (Array.getElem?_eq_some_iff.1 hres1).1 (by omega)).trans hres1⟩, hB1.trans (hkp.below (fun j hj => by omega) hB1.size)⟩
        have HNw := Hid.mk hNw
        generalize (sanchor l).1 = A at *
        generalize (sanchor l).2.length = D at *
        clear k1 HN hblk hlst hres hbr hblk1 hres1 hB1 hlst1 hkp hNw hl1 hb1 hn
        go_wp2
        go_roundw
        case rel => exact ⟨1, by omega, by go_num, HNw.out⟩
        case measure => simp [intOf]
      · have h0' : ¬ ((S.2.1 : Nat) : Int) < (((sanchor l).1 : Nat) : Int) := by omega
        have hn : nst l r 1 = S := by
          rw [← hns] at h0 ⊢
          have h0 : ¬ 0 < (sanchor l).1 := h0
          unfold nst; rw [if_neg h0]
        have hNw : Nw w g l r 1 w1 := ⟨v, by rw [hn]; exact hblk1, by rw [hn]; exact hlst1, ⟨rx, ry, rz, hres1⟩, hB1⟩
        have HNw := Hid.mk hNw
        generalize (sanchor l).1 = A at *
        generalize (sanchor l).2.length = D at *
        clear k1 HN hblk hlst hres hbr hblk1 hres1 hB1 hlst1 hNw hl1 hb1 hn
        go_wp2
        go_roundw
        case rel => exact ⟨1, by omega, by go_num, HNw.out⟩
        case measure => simp [intOf]
    · obtain ⟨v, hblk, hlst, hres, hbr⟩ := hN
      have k1 := h2.out wr hbr
      have HN := Hid.mk (And.intro hblk (And.intro hlst (And.intro hres hbr)))
      clear hblk hlst hres hbr
      generalize hns : nst l r 1 = S at *
      go_wp2_with fail
      refine k1.mono ?_
      rintro e w1 ⟨v1, rfl, hl1, hb1⟩
      obtain ⟨a1, c1, hv1, hq1⟩ := hl1
      subst hv1
      have hl1 : LstIn w1 g _ _ := ⟨a1, c1, rfl, hq1⟩
      clear hq1
      obtain ⟨hblk, hlst, ⟨rx, ry, rz, hres⟩, hbr⟩ := HN.out
      have hblk1 := (hb1.block _ (Array.getElem?_eq_some_iff.1 hblk).1).trans hblk
      have hres1 := (hb1.block _ (Array.getElem?_eq_some_iff.1 hres).1).trans hres
      have hB1 := hbr.trans (hb1.mono hbr.size)
      have hlst1 := hlst.later hb1
      have hc0 := cell_of_block hblk1 (j := 0) rfl
      have hc1 := cell_of_block hblk1 (j := 1) rfl
      have hc2 := cell_of_block hblk1 (j := 2) rfl
      have hf0 := frozen_of_block hblk1 0
      have hf1 := frozen_of_block hblk1 1
      have hf2 := frozen_of_block hblk1 2
      have hz := hB1.size
      by_cases h0 : S.2.1 < (sanchor r).1
      · have h0' : ((S.2.1 : Nat) : Int) < (((sanchor r).1 : Nat) : Int) := by omega
        have hn : nst l r 2 = (1, (sanchor r).1, (sanchor r).2) := by
          rw [← hns] at h0
          unfold nst at h0 ⊢; rw [if_pos h0]
        have hkp := keeps3 w1 (w.heap.size + 1) (.int .i64 1) (.int .i64 (((sanchor r).1 : Nat) : Int)) (.slice a1 (sanchor r).2.length c1)
        have hNw : Nw w g l r 2 (((w1.setCell ⟨w.heap.size + 1, 0, none⟩ (.int .i64 1)).setCell ⟨w.heap.size + 1, 1, none⟩ (.int .i64 (((sanchor r).1 : Nat) : Int))).setCell ⟨w.heap.size + 1, 2, none⟩ (.slice a1 (sanchor r).2.length c1)) := by
          refine ⟨_, by rw [hn]; exact (set3 (x := .int .i64 1) (y := .int .i64 (((sanchor r).1 : Nat) : Int)) (z := .slice a1 (sanchor r).2.length c1) hblk1), by rw [hn]; exact hl1.agree (hkp.block g (by omega) (by omega)), ⟨rx, ry, rz, (hkp.block _ (Array.getElem?_eq_some_iff.1 hres1).1 (by omega)).trans hres1⟩, hB1.trans (hkp.below (fun j hj => by omega) hB1.size)⟩
        have HNw := Hid.mk hNw
        generalize (sanchor r).1 = A at *
        generalize (sanchor r).2.length = D at *
        clear k1 HN hblk hlst hres hbr hblk1 hres1 hB1 hlst1 hkp hNw hl1 hb1 hn
        go_wp2
        go_roundw
        case rel => exact ⟨2, by omega, by go_num, HNw.out⟩
        case measure => simp [intOf]
      · have h0' : ¬ ((S.2.1 : Nat) : Int) < (((sanchor r).1 : Nat) : Int) := by omega
        have hn : nst l r 2 = S := by
          rw [← hns] at h0 ⊢
          unfold nst at h0 ⊢; rw [if_neg h0]
        have hNw : Nw w g l r 2 w1 := ⟨v, by rw [hn]; exact hblk1, by rw [hn]; exact hlst1, ⟨rx, ry, rz, hres1⟩, hB1⟩
        have HNw := Hid.mk hNw
        generalize (sanchor r).1 = A at *
        generalize (sanchor r).2.length = D at *
        clear k1 HN hblk hlst hres hbr hblk1 hres1 hB1 hlst1 hNw hl1 hb1 hn
        go_wp2
        go_roundw
        case rel => exact ⟨2, by omega, by go_num, HNw.out⟩
        case measure => simp [intOf]
    · obtain ⟨v, hblk, hlst, ⟨rx, ry, rz, hres⟩, hbr⟩ := hN
      rw [Hfin.out] at hblk hlst
      obtain ⟨a1, c1, hv1, hq1⟩ := hlst
      subst hv1
      have hlst : LstIn wr g _ _ := ⟨a1, c1, rfl, hq1⟩
      clear hq1
      dsimp only at hblk hlst
      generalize hD : (snewest l r).2.2.1.length = D at *
      have hc0 := cell_of_block hblk (j := 0) rfl
      have hc1 := cell_of_block hblk (j := 1) rfl
      have hc2 := cell_of_block hblk (j := 2) rfl
      have hd0 := cell_of_block hres (j := 0) rfl
      have hd1 := cell_of_block hres (j := 1) rfl
      have hd2 := cell_of_block hres (j := 2) rfl
      have hf0 := frozen_of_block hres 0
      have hf1 := frozen_of_block hres 1
      have hf2 := frozen_of_block hres 2
      have hset := set3 (x := .int .i64 (((snewest l r).1 : Nat) : Int)) (y := .int .i64 (((snewest l r).2.1 : Nat) : Int)) (z := .slice a1 D c1) hres
      have hkp := keeps3 wr w.heap.size (.int .i64 (((snewest l r).1 : Nat) : Int)) (.int .i64 (((snewest l r).2.1 : Nat) : Int)) (.slice a1 D c1)
      have hz := hbr.size
      have hl2 := hlst.agree (hkp.block g (by omega) (by omega))
      have hB2 := hbr.trans (hkp.below (fun j hj => by omega) hbr.size)
      have HH := Hid.mk (And.intro hl2 hB2)
      have e0 := cell_of_block hset (j := 0) rfl
      have e1 := cell_of_block hset (j := 1) rfl
      have e2 := cell_of_block hset (j := 2) rfl
      clear hblk hlst hres hbr hkp hl2 hB2 Hfin h1 h2
      have hr3 := Hid.mk (range3 hset)
      obtain ⟨A, hA⟩ : ∃ A, A = (snewest l r).1 := ⟨_, rfl⟩
      obtain ⟨B, hB⟩ : ∃ B, B = (snewest l r).2.1 := ⟨_, rfl⟩
      rw [← hA] at hc0 hset HH e0 e1 e2 hr3
      rw [← hB] at hc1 hset HH e0 e1 e2 hr3
      have HA := Hid.mk hA
      have HB := Hid.mk hB
      clear hA hB hD hset
      go_wp2
      exact bodyPost_ret (results_cell_mid (P := Tryz.prog) rfl _ _ w.heap.size _ _ rfl hr3.out Tryz.underlying206 rfl infoAnchor) rfl ⟨.slice a1 D c1, by rw [← HA.out, ← HB.out], HH.out⟩
end Go.Proofs.YtokcgifpljeoiaaGreat
end

section
namespace Go.Proofs.YtokcgifpljeoiaaGreat
open Go.RowKit

theorem results_tmp4 {P : Program} {fn : Func} {p q r s : Tmp} (h : fn.results = #[.tmp p, .tmp q, .tmp r, .tmp s]) (tmps : Array Value) (w : World) :
    (results fn tmps).run P w = .ok (.tuple #[tmps.getD p undef, tmps.getD q undef, tmps.getD r undef, tmps.getD s undef]) w := by
  simp [results, h]
theorem infoPairL {l r : List Int} (h : l.length = 512) (h2 : r.length = 512) : (Tryz.prog.info? 202).map (·.size) = some (bs (l ++ r)).length := by
  rw [sizePair, bs, List.length_map, List.length_append, h, h2]
theorem pair_srcs {w : World} {T : TypeId} {g : Nat} {l r : List Int} (h : Blk w T g (l ++ r)) (hl : l.length = 512) (hr : r.length = 512) : Src w (some ⟨g, 0, none⟩) 512 l ∧ Src w (some ⟨g, 512, none⟩) 512 r := by
  have hll : (l ++ r).length = 1024 := by simp; omega
  have h1 := h.src (o := 0) (n := 512) (by omega)
  have h2 := h.src (o := 512) (n := 512) (by omega)
  rw [List.drop_zero, List.take_left' hl] at h1
  rw [List.drop_left' hl, List.take_of_length_le (by omega)] at h2
  exact ⟨h1, h2⟩
set_option maxRecDepth 20000 in
set_option maxHeartbeats 4000000 in
theorem pnewest_any (a : Option Addr) (n c : Nat) (l : List Int) (a2 : Option Addr) (m d : Nat) (r : List Int) (w : World) (hs : Src w a n l) (hs2 : Src w a2 m r) (hl : Bytes l) (hr : Bytes r) :
    Calls Tryz.prog 142 #[.slice a n c, .slice a2 m d] w fun e w' => ∃ v, e = .returned (.tuple #[.int .i64 (((snewest l r).1 : Nat) : Int), .int .i64 (((snewest l r).2.1 : Nat) : Int), v, .int .i64 (((snewest l r).2.2.2 : Nat) : Int)]) ∧ Lst w' w.heap.size v (snewest l r).2.2.1 ∧ Below w.heap.size w w' := by
  have hz := zeroPair
  have h1 := pairOf_any a n c l a2 m d r w hs hs2
  have hln := hs.1
  have hrn := hs2.1
  have hinfo := infoPairL (secOf_len l) (secOf_len r)
  have hall := all_oneCell_toArray (bs_one (secOf l ++ secOf r))
  have hFl : (bs (secOf l ++ secOf r)).length = 1024 := by rw [bs, List.length_map, List.length_append, secOf_len, secOf_len]
  obtain ⟨F, hF⟩ : ∃ F, F = bs (secOf l ++ secOf r) := ⟨_, rfl⟩
  rw [← hF] at h1 hinfo hall hFl
  have HF := Hid.mk hF
  clear hF hs hs2
  go_enter Tryz.func142, Tryz.ntmps142
  go_wp2_with fail
  refine h1.mono ?_
  rintro e w1 ⟨rfl, hb1⟩
  have hw1 : (w1.alloc (.cells zpair 202)).heap[w1.heap.size]? = some (.cells zpair 202 (0, 0)) := heap_alloc_new _ _
  have hth := there_of hw1 zpair_size
  rw [← hFl] at hth
  have hB1 : Below w.heap.size w (w1.alloc (.cells zpair 202)) := hb1.alloc hb1.size _
  have hsz := hb1.size
  have hB2 := hB1.trans ((Keeps.setCells (F := fun j => j = w1.heap.size) rfl F 0 _).below (fun j hj => by omega) hB1.size)
  have hblk := blk_stored (l := secOf l ++ secOf r) hw1 (by rw [zpair_size, List.length_append, secOf_len, secOf_len])
  rw [← HF.out] at hblk
  obtain ⟨w2, hw2⟩ : ∃ w2, w2 = (w1.alloc (.cells zpair 202)).setCells w1.heap.size 0 F := ⟨_, rfl⟩
  rw [← hw2] at hB2 hblk
  have HB2 := Hid.mk hB2
  have Hblk := Hid.mk hblk
  have HW2 := Hid.mk hw2
  clear h1 hw1 hB1 hb1 hB2 hblk hw2
  by_cases hwh : n = 512 ∧ m = 512
  · obtain ⟨rfl, rfl⟩ := hwh
    rw [(secOf_self hln), (secOf_self hrn)] at Hblk
    obtain ⟨s1, s2⟩ := pair_srcs Hblk.out hln hrn
    have k1 := newest_any w1.heap.size l r w2 s1 s2 hl hr
    have hse := snewest_eq hln hrn
    have hsm : (snewest l r).2.1 ≤ 9223372036854775807 := by
      have sl := sanchor_small l
      have sr := sanchor_small r
      rw [hse]; split
      · simp
      · split <;> simp only <;> omega
    have herr : ((snewest l r).2.1 = 0 ∧ (snewest l r).1 = 0 ∧ (snewest l r).2.2.1 = [] ∧ (snewest l r).2.2.2 = 30) ∨ (0 < (snewest l r).2.1 ∧ (snewest l r).2.2.2 = 0) := by
      rw [hse]
      by_cases q : (sanchor l).1 = 0 ∧ (sanchor r).1 = 0
      · rw [if_pos q]; exact .inl ⟨rfl, rfl, rfl, rfl⟩
      · rw [if_neg q]
        by_cases q2 : (sanchor l).1 < (sanchor r).1
        · rw [if_pos q2]; exact .inr ⟨by simp only; omega, rfl⟩
        · rw [if_neg q2]; exact .inr ⟨by simp only; omega, rfl⟩
    clear hse Hblk s1 s2
    go_wp2_with (refine wpList_store_mid rfl 202 _ _ rfl w1.heap.size 0 F.toArray rfl rfl ?h1 ?h2 hall ?_)
    case h1 => simpa using hth
    case h2 => simpa using hinfo
    rw [← HW2.out]
    refine k1.mono ?_
    rintro e w3 ⟨v, rfl, hlst, hb3⟩
    obtain ⟨va, vc, hv, hq⟩ := hlst
    subst hv
    have hlst : LstIn w3 w1.heap.size _ _ := ⟨va, vc, rfl, hq⟩
    have hB3 := HB2.out.trans (hb3.mono HB2.out.size)
    have HL := Hid.mk (fun w' (h : Below w3.heap.size w3 w') => And.intro ((hlst.lst hsz).later h) (hB3.trans (h.mono hB3.size)))
    obtain ⟨A, hA⟩ : ∃ A, A = (snewest l r).1 := ⟨_, rfl⟩
    obtain ⟨B, hB⟩ : ∃ B, B = (snewest l r).2.1 := ⟨_, rfl⟩
    obtain ⟨D, hD⟩ : ∃ D, D = (snewest l r).2.2.1 := ⟨_, rfl⟩
    obtain ⟨E, hE⟩ : ∃ E, E = (snewest l r).2.2.2 := ⟨_, rfl⟩
    rw [← hA, ← hB, ← hD, ← hE] at herr
    rw [← hB] at hsm
    rw [← hD] at HL
    rw [← hA, ← hB, ← hD]
    have HE := Hid.mk (And.intro hA (And.intro hB (And.intro hD hE)))
    clear k1 hq hlst hb3 HW2 hth hinfo hall hB3 HB2 hA hB hD hE
    rcases herr with ⟨rfl, rfl, rfl, rfl⟩ | ⟨hB0, rfl⟩
    · go_wp2
      exact bodyPost_ret (results_tmp4 (P := Tryz.prog) rfl _ _) rfl ⟨.slice none 0 0, by rw [← HE.out.1, ← HE.out.2.1, ← HE.out.2.2.2]; rfl, by rw [← HE.out.2.2.1]; exact Lst.nil _ _, (HL.out _ ((Below.refl _ w3).alloc (Nat.le_refl _) _)).2⟩
    · have hB0' : ((B : Int) == 0) = false := by rw [beq_eq_false_iff_ne]; omega
      generalize hDL : D.length = DL at *
      clear hDL
      go_wp2
      go_quiet (fail)
      go_wp2
      exact bodyPost_ret (results_tmp4 (P := Tryz.prog) rfl _ _) rfl ⟨.slice va DL vc, by rw [← HE.out.1, ← HE.out.2.1, ← HE.out.2.2.2]; rfl, by rw [← HE.out.2.2.1]; exact (HL.out _ (below_drewN ((Below.refl _ w3).alloc (Nat.le_refl _) _) _)).1, (HL.out _ (below_drewN ((Below.refl _ w3).alloc (Nat.le_refl _) _) _)).2⟩
  · have e1 : snewest l r = (0, 0, [], 2) := by unfold snewest; rw [if_pos (by omega)]
    have hbb : (decide (n = 512) && decide (m = 512)) = false := by
      rw [← Bool.decide_and, decide_eq_false hwh]
    have He1 := Hid.mk e1
    rw [hbb]
    clear e1 hbb hwh
    go_wp2_with (refine wpList_store_mid rfl 202 _ _ rfl w1.heap.size 0 F.toArray rfl rfl ?h1 ?h2 hall ?_)
    case h1 => simpa using hth
    case h2 => simpa using hinfo
    rw [← HW2.out]
    exact bodyPost_ret (results_tmp4 (P := Tryz.prog) rfl _ _) rfl ⟨.slice none 0 0, by rw [He1.out]; rfl, by rw [He1.out]; exact Lst.nil _ _, HB2.out⟩
end Go.Proofs.YtokcgifpljeoiaaGreat
end

section
namespace Go.Proofs.YtokcgifpljeoiaaGreat
open Go.RowKit

end Go.Proofs.YtokcgifpljeoiaaGreat
end

section
namespace Go.Proofs.YtokcgifpljeoiaaGreat
open Go.RowKit

end Go.Proofs.YtokcgifpljeoiaaGreat
end

section
namespace Go.Proofs.YtokcgifpljeoiaaGreat
open Go.RowKit

end Go.Proofs.YtokcgifpljeoiaaGreat
end

section
namespace Go.Proofs.YtokcgifpljeoiaaGreat
open Go.RowKit

end Go.Proofs.YtokcgifpljeoiaaGreat
end

section
namespace Go.Proofs.YtokcgifpljeoiaaGreat
open Go.RowKit

/-- make of bytes, with a capacity beyond the length. -/
theorem wpList_make_part (w : World) {ops : Array Oper} {rest : List Oper} {o : Oper} {a : Act} {Q : Exit → Act → World → Prop}
    (hg : o.guard = none) (l c : Operand) (hop : o.op = Op.makeSlice 22 l c) (C : Int) (m n : Nat) (hl : a.eval l = .int .i64 (m : Int)) (hc : a.eval c = .int .i64 C) (hC : C = (n : Int)) (hmn : m ≤ n) (hn : n ≤ 140737488355328)
    (hK : ∀ w', Blk w' 5 w.heap.size (zs n) → Below w.heap.size w w' → wpList Tryz.prog ops Q rest (a.put o.dst (.slice (some ⟨w.heap.size, 0, none⟩) m n)) w') :
    wpList Tryz.prog ops Q (o :: rest) a w := by
  refine wpList_plain hg fun K hK' => ?_
  obtain ⟨i, hi, hz0, hz1, hz2⟩ := info_parts infoU8
  subst hC
  have hr := run_make (P := Tryz.prog) w 22 5 i (.int .u8 0) Tryz.underlying22 hi hz0 .i64 .i64 (m : Int) (n : Int) (by omega) (by omega) (by rw [hz2]; omega) (by omega)
  simp only [Int.toNat_natCast, hz1, Nat.mul_one] at hr
  unfold Oper.wp
  simp [execOp, hop, hl, hc, hr, Result.andThen]
  refine hK' _ _ (hK _ ?_ ?_)
  · have h1 := heap_alloc_new w (.cells (madeCells (Value.int .u8 0).cells n) 5)
    have e : madeCells (Value.int .u8 0).cells n = (bs (zs n)).toArray := by
      apply Array.ext'
      have : (Value.int .u8 0).cells = #[Value.int .u8 0] := rfl
      rw [this, toList_madeCells_one]
      simp [bs, zs]
    rw [e] at h1
    unfold Blk
    rw [← h1]
    simp [e]
  · exact (Below.refl _ w).alloc (Nat.le_refl _) _
end Go.Proofs.YtokcgifpljeoiaaGreat
end

section
namespace Go.Proofs.YtokcgifpljeoiaaGreat
open Go.RowKit

theorem leb8 (n : Nat) : leb 8 n = bytes8 n := by
  rw [bytes8_eq]
  simp only [leb, Nat.div_div_eq_div_mul]
theorem own_blk {w : World} {B g n : Nat} {p q : List Int} (h : Blk w 5 g (p ++ q)) (hg : B ≤ g) (hn : n = (p ++ q).length) (hm : n ≤ maxLen) : Own w B (.slice (some ⟨g, 0, none⟩) p.length n) p := by
  subst hn
  refine ⟨by simp [bs], .inr ⟨g, (p ++ q).length, _, rfl, hg, h, by simp, hm, by simp [bs], ?_⟩⟩
  rw [bs_append]
  simp [bs]

set_option maxRecDepth 20000 in
set_option maxHeartbeats 4000000 in
theorem anchorBody_any (N : Nat) (a : Option Addr) (n c : Nat) (l : List Int) (w : World) (hN : N < 9223372036854775808) (hs : Src w a n l) (hn : n ≤ 496) (hca : a = none → c = 0) :
    Calls Tryz.prog 154 #[.int .i64 (N : Int), .slice a n c] w fun e w' => ∃ v, e = .returned v ∧ Own w' w.heap.size v (bytes8 N ++ l) ∧ Below w.heap.size w w' := by
  obtain ⟨i0, hi, hz0, hz1, hz2⟩ := info_parts infoU8
  have hl := hs.1
  go_enter Tryz.func154, Tryz.ntmps154
  go_wp2_with (at_make; refine wpList_make_part _ rfl _ _ rfl _ 8 (8 + n) rfl rfl ?c1 ?c2 ?c3 ?_)
  case c1 => omega
  case c2 => omega
  case c3 => omega
  intro w1 hblk hb1
  have hl1 := lay_any w.heap.size 0 8 (8 + n) N 5 (zs (8 + n)) w1 hblk (by omega) (by rw [zs_len]; omega)
  have e1 : put (zs (8 + n)) 0 (leb 8 N) = bytes8 N ++ zs n := by
    rw [leb8, put, zs_add, bytes8_len]
    simp only [List.take_zero, List.nil_append, Nat.zero_add]
    rw [List.drop_left' (zs_len 8)]
  rw [e1] at hl1
  go_wp2_with fail
  refine hl1.mono ?_
  rintro e w2 ⟨rfl, hblk2, hk2, hz2'⟩
  have hB2 := hb1.trans (hk2.below (fun j hj => by omega) hb1.size)
  have hown := own_blk hblk2 (Nat.le_refl _) (by rw [List.length_append, bytes8_len, zs_len]) (by unfold maxLen; omega)
  rw [bytes8_len] at hown
  have hrow : w2.ownsRow w.heap.size 5 1 (.slice (some ⟨w.heap.size, 0, none⟩) 8 (8 + n)) 8 (bs (bytes8 N)) := by
    have := hown
    unfold Own at this
    rwa [bytes8_len] at this
  have hz := hB2.size
  cases a with
  | none =>
    have hn0 := hs.2.1 rfl
    subst hn0
    have hl0 := List.eq_nil_of_length_eq_zero hl
    subst hl0
    have hc0 := hca rfl
    subst hc0
    go_wp2_with (at_builtin; refine wpList_append_own_none rfl _ _ 22 rfl w.heap.size 5 i0 1 Tryz.underlying22 hi _ 8 (bs (bytes8 N)) rfl hrow rfl ?_)
    go_ret
    exact ⟨_, rfl, by rw [List.append_nil]; exact hown, hB2⟩
  | some x =>
    have hcells := (fun j u (hj : (bs l)[j]? = some u) => show w2.cell? (x.add j) = some u by
      obtain ⟨hj1, rfl⟩ := bs_getElem hj
      exact cell_later hB2 (hs.2.2 _ rfl j (by omega)))
    have hll : (bs l).length = n := by rw [bs, List.length_map, hl]
    go_wp2_with (at_builtin; refine wpList_append_own _ rfl _ _ 22 rfl w.heap.size 5 i0 (.int .u8 0) 1 1 Tryz.underlying22 hi hz0 hz1 hz2 rfl (by decide) _ 8 (bs (bytes8 N)) rfl hrow x n c (bs l) rfl ?n0 hcells ?n2 ?n3 ?n4 ?n5 ?_)
    case n0 => omega
    case n2 => exact bs_one _
    case n3 => unfold maxLen; omega
    case n4 => omega
    case n5 => exact hz
    intro v' w3 hown' hgrow' _
    rw [← bs_append] at hown'
    have HO := (own_of (m := bytes8 N ++ l) hown' (by rw [List.length_append, bytes8_len]; omega) rfl)
    go_wp2
    go_ret
    exact ⟨_, rfl, HO, (hB2.grown hgrow' hz (fun q e => (hrow.lt q e).1))⟩
end Go.Proofs.YtokcgifpljeoiaaGreat
end

section
namespace Go.Proofs.YtokcgifpljeoiaaGreat
open Go.RowKit

set_option maxRecDepth 20000 in
set_option maxHeartbeats 2000000 in
theorem other_any (s n : Nat) (v : Value) (w : World) (hs : s ≤ 1) :
    Calls Tryz.prog 151 #[.agg #[.int .i64 (s : Int), .int .i64 (n : Int), v]] w fun e w' => e = .returned (.int .i64 ((if n = 0 then 0 else 1 - s : Nat) : Int)) ∧ Below w.heap.size w w' := by
  have HB := ((Below.refl w.heap.size w).alloc (Nat.le_refl _) (.cells #[.int .i64 (s : Int), .int .i64 (n : Int), v] 206))
  go_enter Tryz.func151, Tryz.ntmps151
  by_cases h : n = 0
  · subst h
    go_wp2
    go_ret
    exact ⟨rfl, HB⟩
  · have h' : ((n : Int) == 0) = false := by rw [beq_eq_false_iff_ne]; omega
    have e : ((if n = 0 then 0 else 1 - s : Nat) : Int) = 1 - (s : Int) := by rw [if_neg h]; omega
    rw [e]
    go_wp2
    go_ret
    exact ⟨rfl, HB⟩
end Go.Proofs.YtokcgifpljeoiaaGreat
end

section
namespace Go.Proofs.YtokcgifpljeoiaaGreat
open Go.RowKit

set_option maxRecDepth 20000 in
set_option maxHeartbeats 4000000 in
theorem renew_no1 (a : Option Addr) (n c : Nat) (l : List Int) (a2 : Option Addr) (m d : Nat) (r : List Int) (a3 : Option Addr) (q e3 : Nat) (num : Int) (w : World) (hs : Src w a n l) (hs2 : Src w a2 m r) (hno : ¬ (n = 512 ∧ m = 512)) :
    Calls Tryz.prog 127 #[.slice a n c, .slice a2 m d, .int .i64 num, .slice a3 q e3] w fun e w' => e = .returned (.tuple #[.int .i64 0, .slice none 0 0, .int .i64 2]) ∧ Below w.heap.size w w' := by
  have hwh : (decide (n = 512) && decide (m = 512)) = false := by rw [← Bool.decide_and, decide_eq_false hno]
  clear hno
  have hz := zeroPair
  have h1 := pairOf_any a n c l a2 m d r w hs hs2
  have hinfo := infoPairL (secOf_len l) (secOf_len r)
  have hall := all_oneCell_toArray (bs_one (secOf l ++ secOf r))
  have hFl : (bs (secOf l ++ secOf r)).length = 1024 := by rw [bs, List.length_map, List.length_append, secOf_len, secOf_len]
  obtain ⟨F, hF⟩ : ∃ F, F = bs (secOf l ++ secOf r) := ⟨_, rfl⟩
  rw [← hF] at h1 hinfo hall hFl
  have HF := Hid.mk hF
  clear hF hs hs2
  go_enter Tryz.func127, Tryz.ntmps127
  go_wp2_with fail
  refine h1.mono ?_
  rintro e w1 ⟨rfl, hb1⟩
  have hw1 : (w1.alloc (.cells zpair 202)).heap[w1.heap.size]? = some (.cells zpair 202 (0, 0)) := heap_alloc_new _ _
  have hth := there_of hw1 zpair_size
  rw [← hFl] at hth
  have hB1 : Below w.heap.size w (w1.alloc (.cells zpair 202)) := hb1.alloc hb1.size _
  have hsz := hb1.size
  have hB2 := hB1.trans ((Keeps.setCells (F := fun j => j = w1.heap.size) rfl F 0 _).below (fun j hj => by omega) hB1.size)
  have hblk := blk_stored (l := secOf l ++ secOf r) hw1 (by rw [zpair_size, List.length_append, secOf_len, secOf_len])
  rw [← HF.out] at hblk
  obtain ⟨w2, hw2⟩ : ∃ w2, w2 = (w1.alloc (.cells zpair 202)).setCells w1.heap.size 0 F := ⟨_, rfl⟩
  rw [← hw2] at hB2 hblk
  have HB2 := Hid.mk hB2
  have HW2 := Hid.mk hw2
  clear h1 hw1 hB1 hb1 hB2 hblk hw2
  rw [hwh]
  go_wp2_with (refine wpList_store_mid rfl 202 _ _ rfl w1.heap.size 0 F.toArray rfl rfl ?h1 ?h2 hall ?_)
  case h1 => simpa using hth
  case h2 => simpa using hinfo
  rw [← HW2.out]
  go_ret3
  exact ⟨rfl, HB2.out⟩

set_option maxRecDepth 20000 in
set_option maxHeartbeats 4000000 in
theorem renew_no2 (a : Option Addr) (n c : Nat) (l : List Int) (a2 : Option Addr) (m d : Nat) (r : List Int) (a3 : Option Addr) (q e3 : Nat) (num : Int) (w : World) (hs : Src w a n l) (hs2 : Src w a2 m r) (hyes : n = 512 ∧ m = 512) (h1n : num < 1) :
    Calls Tryz.prog 127 #[.slice a n c, .slice a2 m d, .int .i64 num, .slice a3 q e3] w fun e w' => e = .returned (.tuple #[.int .i64 0, .slice none 0 0, .int .i64 1]) ∧ Below w.heap.size w w' := by
  have hwh : (decide (n = 512) && decide (m = 512)) = true := by rw [← Bool.decide_and, decide_eq_true hyes]
  clear hyes
  have hz := zeroPair
  have h1 := pairOf_any a n c l a2 m d r w hs hs2
  have hinfo := infoPairL (secOf_len l) (secOf_len r)
  have hall := all_oneCell_toArray (bs_one (secOf l ++ secOf r))
  have hFl : (bs (secOf l ++ secOf r)).length = 1024 := by rw [bs, List.length_map, List.length_append, secOf_len, secOf_len]
  obtain ⟨F, hF⟩ : ∃ F, F = bs (secOf l ++ secOf r) := ⟨_, rfl⟩
  rw [← hF] at h1 hinfo hall hFl
  have HF := Hid.mk hF
  clear hF hs hs2
  go_enter Tryz.func127, Tryz.ntmps127
  go_wp2_with fail
  refine h1.mono ?_
  rintro e w1 ⟨rfl, hb1⟩
  have hw1 : (w1.alloc (.cells zpair 202)).heap[w1.heap.size]? = some (.cells zpair 202 (0, 0)) := heap_alloc_new _ _
  have hth := there_of hw1 zpair_size
  rw [← hFl] at hth
  have hB1 : Below w.heap.size w (w1.alloc (.cells zpair 202)) := hb1.alloc hb1.size _
  have hsz := hb1.size
  have hB2 := hB1.trans ((Keeps.setCells (F := fun j => j = w1.heap.size) rfl F 0 _).below (fun j hj => by omega) hB1.size)
  have hblk := blk_stored (l := secOf l ++ secOf r) hw1 (by rw [zpair_size, List.length_append, secOf_len, secOf_len])
  rw [← HF.out] at hblk
  obtain ⟨w2, hw2⟩ : ∃ w2, w2 = (w1.alloc (.cells zpair 202)).setCells w1.heap.size 0 F := ⟨_, rfl⟩
  rw [← hw2] at hB2 hblk
  have HB2 := Hid.mk hB2
  have HW2 := Hid.mk hw2
  clear h1 hw1 hB1 hb1 hB2 hblk hw2
  rw [hwh]
  go_wp2_with (refine wpList_store_mid rfl 202 _ _ rfl w1.heap.size 0 F.toArray rfl rfl ?h1 ?h2 hall ?_)
  case h1 => simpa using hth
  case h2 => simpa using hinfo
  rw [← HW2.out]
  go_ret3
  exact ⟨rfl, HB2.out⟩

set_option maxRecDepth 20000 in
set_option maxHeartbeats 4000000 in
theorem renew_no3 (a : Option Addr) (n c : Nat) (l : List Int) (a2 : Option Addr) (m d : Nat) (r : List Int) (a3 : Option Addr) (q e3 : Nat) (num : Int) (w : World) (hs : Src w a n l) (hs2 : Src w a2 m r) (hyes : n = 512 ∧ m = 512) (h1n : ¬ num < 1) (h2n : 496 < q) :
    Calls Tryz.prog 127 #[.slice a n c, .slice a2 m d, .int .i64 num, .slice a3 q e3] w fun e w' => e = .returned (.tuple #[.int .i64 0, .slice none 0 0, .int .i64 7]) ∧ Below w.heap.size w w' := by
  have hwh : (decide (n = 512) && decide (m = 512)) = true := by rw [← Bool.decide_and, decide_eq_true hyes]
  have h2n' : 496 < (q : Int) := by omega
  clear hyes
  have hz := zeroPair
  have h1 := pairOf_any a n c l a2 m d r w hs hs2
  have hinfo := infoPairL (secOf_len l) (secOf_len r)
  have hall := all_oneCell_toArray (bs_one (secOf l ++ secOf r))
  have hFl : (bs (secOf l ++ secOf r)).length = 1024 := by rw [bs, List.length_map, List.length_append, secOf_len, secOf_len]
  obtain ⟨F, hF⟩ : ∃ F, F = bs (secOf l ++ secOf r) := ⟨_, rfl⟩
  rw [← hF] at h1 hinfo hall hFl
  have HF := Hid.mk hF
  clear hF hs hs2
  go_enter Tryz.func127, Tryz.ntmps127
  go_wp2_with fail
  refine h1.mono ?_
  rintro e w1 ⟨rfl, hb1⟩
  have hw1 : (w1.alloc (.cells zpair 202)).heap[w1.heap.size]? = some (.cells zpair 202 (0, 0)) := heap_alloc_new _ _
  have hth := there_of hw1 zpair_size
  rw [← hFl] at hth
  have hB1 : Below w.heap.size w (w1.alloc (.cells zpair 202)) := hb1.alloc hb1.size _
  have hsz := hb1.size
  have hB2 := hB1.trans ((Keeps.setCells (F := fun j => j = w1.heap.size) rfl F 0 _).below (fun j hj => by omega) hB1.size)
  have hblk := blk_stored (l := secOf l ++ secOf r) hw1 (by rw [zpair_size, List.length_append, secOf_len, secOf_len])
  rw [← HF.out] at hblk
  obtain ⟨w2, hw2⟩ : ∃ w2, w2 = (w1.alloc (.cells zpair 202)).setCells w1.heap.size 0 F := ⟨_, rfl⟩
  rw [← hw2] at hB2 hblk
  have HB2 := Hid.mk hB2
  have HW2 := Hid.mk hw2
  clear h1 hw1 hB1 hb1 hB2 hblk hw2
  rw [hwh]
  go_wp2_with (refine wpList_store_mid rfl 202 _ _ rfl w1.heap.size 0 F.toArray rfl rfl ?h1 ?h2 hall ?_)
  case h1 => simpa using hth
  case h2 => simpa using hinfo
  rw [← HW2.out]
  go_ret3
  exact ⟨rfl, HB2.out⟩

set_option maxRecDepth 20000 in
set_option maxHeartbeats 4000000 in
theorem renew_no4 (a : Option Addr) (n c : Nat) (l : List Int) (a2 : Option Addr) (m d : Nat) (r : List Int) (a3 : Option Addr) (q e3 : Nat) (num : Int) (w : World) (hs : Src w a n l) (hs2 : Src w a2 m r) (hl : Bytes l) (hr : Bytes r) (hyes : n = 512 ∧ m = 512) (h1n : ¬ num < 1) (h2n : q ≤ 496) (h3n : num ≤ (((snewest l r).2.1 : Nat) : Int)) :
    Calls Tryz.prog 127 #[.slice a n c, .slice a2 m d, .int .i64 num, .slice a3 q e3] w fun e w' => e = .returned (.tuple #[.int .i64 0, .slice none 0 0, .int .i64 31]) ∧ Below w.heap.size w w' := by
  obtain ⟨hn5, hm5⟩ := hyes
  subst hn5
  subst hm5
  have hwh : (decide (512 = 512) && decide (512 = 512)) = true := rfl
  have H3n := Hid.mk h3n
  clear h3n
  have hz := zeroPair
  have h1 := pairOf_any a 512 c l a2 512 d r w hs hs2
  have hln := hs.1
  have hrn := hs2.1
  have hinfo := infoPairL (secOf_len l) (secOf_len r)
  have hall := all_oneCell_toArray (bs_one (secOf l ++ secOf r))
  have hFl : (bs (secOf l ++ secOf r)).length = 1024 := by rw [bs, List.length_map, List.length_append, secOf_len, secOf_len]
  obtain ⟨F, hF⟩ : ∃ F, F = bs (secOf l ++ secOf r) := ⟨_, rfl⟩
  rw [← hF] at h1 hinfo hall hFl
  have HF := Hid.mk hF
  clear hF hs hs2
  go_enter Tryz.func127, Tryz.ntmps127
  go_wp2_with fail
  refine h1.mono ?_
  rintro e w1 ⟨rfl, hb1⟩
  have hw1 : (w1.alloc (.cells zpair 202)).heap[w1.heap.size]? = some (.cells zpair 202 (0, 0)) := heap_alloc_new _ _
  have hth := there_of hw1 zpair_size
  rw [← hFl] at hth
  have hB1 : Below w.heap.size w (w1.alloc (.cells zpair 202)) := hb1.alloc hb1.size _
  have hsz := hb1.size
  have hB2 := hB1.trans ((Keeps.setCells (F := fun j => j = w1.heap.size) rfl F 0 _).below (fun j hj => by omega) hB1.size)
  have hblk := blk_stored (l := secOf l ++ secOf r) hw1 (by rw [zpair_size, List.length_append, secOf_len, secOf_len])
  rw [← HF.out] at hblk
  obtain ⟨w2, hw2⟩ : ∃ w2, w2 = (w1.alloc (.cells zpair 202)).setCells w1.heap.size 0 F := ⟨_, rfl⟩
  rw [← hw2] at hB2 hblk
  have HB2 := Hid.mk hB2
  have Hblk := Hid.mk hblk
  have HW2 := Hid.mk hw2
  clear h1 hw1 hB1 hb1 hB2 hblk hw2
  rw [hwh]
  rw [(secOf_self hln), (secOf_self hrn)] at Hblk
  obtain ⟨s1, s2⟩ := pair_srcs Hblk.out hln hrn
  have k1 := newest_any w1.heap.size l r w2 s1 s2 hl hr
  clear s1 s2 Hblk
  go_wp2_with (refine wpList_store_mid rfl 202 _ _ rfl w1.heap.size 0 F.toArray rfl rfl ?h1 ?h2 hall ?_)
  case h1 => simpa using hth
  case h2 => simpa using hinfo
  rw [← HW2.out]
  refine k1.mono ?_
  rintro e w3 ⟨v, rfl, hlst, hb3⟩
  obtain ⟨va, vc, hv, hq⟩ := hlst
  subst hv
  have HB3 := Hid.mk ((HB2.out.trans (hb3.mono HB2.out.size)).alloc (Nat.le_trans HB2.out.size hb3.size) (.cells #[.int .i64 (((snewest l r).1 : Nat) : Int), .int .i64 (((snewest l r).2.1 : Nat) : Int), .slice va (snewest l r).2.2.1.length vc] 206))
  clear k1 hq hb3 HW2 hth hinfo hall HB2
  have h3n := H3n.out
  clear H3n
  generalize (snewest l r).1 = A at *
  generalize (snewest l r).2.1 = B at *
  generalize (snewest l r).2.2.1.length = D at *
  go_wp2
  go_ret3
  exact ⟨rfl, HB3.out⟩

set_option maxRecDepth 20000 in
set_option maxHeartbeats 4000000 in
theorem renew_ok0 (a : Option Addr) (n c : Nat) (l : List Int) (a2 : Option Addr) (m d : Nat) (r : List Int) (a3 : Option Addr) (q e3 : Nat) (dt : List Int) (num : Int) (w : World) (hs : Src w a n l) (hs2 : Src w a2 m r) (hl : Bytes l) (hr : Bytes r) (hyes : n = 512 ∧ m = 512) (N : Nat) (hnum : num = (N : Int)) (hN1 : 1 ≤ N) (hNm : N < 9223372036854775808) (hs3 : Src w a3 q dt) (hdt : Bytes dt) (h2n : q ≤ 496) (hca : a3 = none → e3 = 0) (h3n : (snewest l r).2.1 < N) (hA : (snewest l r).1 ≤ 1) (hslot : (if (snewest l r).2.1 = 0 then 0 else 1 - (snewest l r).1) = 0) :
    Calls Tryz.prog 127 #[.slice a n c, .slice a2 m d, .int .i64 num, .slice a3 q e3] w fun e w' => ∃ g, e = .returned (.tuple #[.int .i64 0, .slice (some ⟨g, 0, none⟩) 512 512, .int .i64 0]) ∧ Blk w' 200 g (sform (turnOf (l.getD 0 0) (l.getD 511 0)) (bytes8 N ++ dt)) ∧ w.heap.size ≤ g ∧ Below w.heap.size w w' := by
  subst hnum
  obtain ⟨hn5, hm5⟩ := hyes
  subst hn5
  subst hm5
  have hwh : (decide (512 = 512) && decide (512 = 512)) = true := rfl
  have H3n := Hid.mk h3n
  have HA := Hid.mk hA
  have Hslot := Hid.mk hslot
  clear h3n hA hslot
  have H3 := Hid.mk hs3
  have hdl := hs3.1
  have hz2 := zeroSec
  have hz := zeroPair
  have h1 := pairOf_any a 512 c l a2 512 d r w hs hs2
  have hln := hs.1
  have hrn := hs2.1
  have hinfo := infoPairL (secOf_len l) (secOf_len r)
  have hall := all_oneCell_toArray (bs_one (secOf l ++ secOf r))
  have hFl : (bs (secOf l ++ secOf r)).length = 1024 := by rw [bs, List.length_map, List.length_append, secOf_len, secOf_len]
  obtain ⟨F, hF⟩ : ∃ F, F = bs (secOf l ++ secOf r) := ⟨_, rfl⟩
  rw [← hF] at h1 hinfo hall hFl
  have HF := Hid.mk hF
  clear hF hs hs2 hs3
  go_enter Tryz.func127, Tryz.ntmps127
  go_wp2_with fail
  refine h1.mono ?_
  rintro e w1 ⟨rfl, hb1⟩
  have hw1 : (w1.alloc (.cells zpair 202)).heap[w1.heap.size]? = some (.cells zpair 202 (0, 0)) := heap_alloc_new _ _
  have hth := there_of hw1 zpair_size
  rw [← hFl] at hth
  have hB1 : Below w.heap.size w (w1.alloc (.cells zpair 202)) := hb1.alloc hb1.size _
  have hsz := hb1.size
  have hB2 := hB1.trans ((Keeps.setCells (F := fun j => j = w1.heap.size) rfl F 0 _).below (fun j hj => by omega) hB1.size)
  have hblk := blk_stored (l := secOf l ++ secOf r) hw1 (by rw [zpair_size, List.length_append, secOf_len, secOf_len])
  rw [← HF.out] at hblk
  obtain ⟨w2, hw2⟩ : ∃ w2, w2 = (w1.alloc (.cells zpair 202)).setCells w1.heap.size 0 F := ⟨_, rfl⟩
  rw [← hw2] at hB2 hblk
  have HB2 := Hid.mk hB2
  have Hblk := Hid.mk hblk
  have HW2 := Hid.mk hw2
  clear h1 hw1 hB1 hb1 hB2 hblk hw2
  rw [hwh]
  rw [(secOf_self hln), (secOf_self hrn)] at Hblk
  obtain ⟨s1, s2⟩ := pair_srcs Hblk.out hln hrn
  have k1 := newest_any w1.heap.size l r w2 s1 s2 hl hr
  have HS1 := Hid.mk s1
  clear s1 s2 Hblk
  go_wp2_with (refine wpList_store_mid rfl 202 _ _ rfl w1.heap.size 0 F.toArray rfl rfl ?h1 ?h2 hall ?_)
  case h1 => simpa using hth
  case h2 => simpa using hinfo
  rw [← HW2.out]
  refine k1.mono ?_
  rintro e w3 ⟨v, rfl, hlst, hb3⟩
  obtain ⟨va, vc, hv, hq⟩ := hlst
  subst hv
  have hB3 := HB2.out.trans (hb3.mono HB2.out.size)
  have hb4 : Below w3.heap.size w3 (w3.alloc (.cells #[.int .i64 (((snewest l r).1 : Nat) : Int), .int .i64 (((snewest l r).2.1 : Nat) : Int), .slice va (snewest l r).2.2.1.length vc] 206)) := (Below.refl _ w3).alloc (Nat.le_refl _) _
  have HB4 := Hid.mk (hB3.trans (hb4.mono hB3.size))
  have HX := Hid.mk ((HS1.out.later hb3).later hb4)
  have ho := Hid.mk (fun w' => other_any (snewest l r).1 (snewest l r).2.1 (.slice va (snewest l r).2.2.1.length vc) w' HA.out)
  rw [Hslot.out] at ho
  have h3n' : ¬ (N : Int) ≤ (((snewest l r).2.1 : Nat) : Int) := by have := H3n.out; omega
  clear H3n HA Hslot
  clear k1 hq hb3 HW2 hth hinfo hall HB2 hB3 hb4 HS1
  generalize (snewest l r).1 = A at *
  generalize (snewest l r).2.1 = B at *
  generalize (snewest l r).2.2.1.length = D at *
  go_wp2_with fail
  refine (ho.out _).mono ?_
  rintro e w5 ⟨rfl, hb5⟩
  have HB5 := Hid.mk (HB4.out.trans (hb5.mono HB4.out.size))
  have HX5 := Hid.mk (HX.out.later hb5)
  have c0 := HX5.out.2.2 _ rfl 0 (by omega)
  have c1 := HX5.out.2.2 _ rfl 511 (by omega)
  rw [addr_add] at c0 c1
  have k2 := nextTurn_any w1.heap.size 0 (l.getD 0 0) (l.getD 511 0) w5 c0 c1
  have ht := turnOf_le (l.getD 0 0) (l.getD 511 0)
  obtain ⟨t, hteq⟩ : ∃ t, t = turnOf (l.getD 0 0) (l.getD 511 0) := ⟨_, rfl⟩
  rw [← hteq] at ht k2
  have Hteq := Hid.mk hteq
  clear ho hb5 HB4 HX c0 c1 hteq
  go_wp2_with fail
  refine k2.mono ?_
  rintro e w' ⟨rfl, hw⟩
  have hw' := hw.symm
  subst hw'
  clear hw k2
  go_wp2_with fail
  refine (anchorBody_any N a3 q e3 dt w5 hNm (H3.out.later HB5.out) h2n hca).mono ?_
  rintro e w6 ⟨v6, rfl, ho6, hb6⟩
  obtain ⟨p6, c6, rfl, hs6, _, _⟩ := ho6.src
  have hbl : (bytes8 N ++ dt).length = 8 + q := by rw [List.length_append, bytes8_len, hdl]
  rw [hbl] at hs6 ⊢
  have HB6 := Hid.mk (HB5.out.trans (hb6.mono HB5.out.size))
  have k4 := sealed_any t p6 (8 + q) c6 (bytes8 N ++ dt) w6 (by omega) hs6 (by omega) ((bytes8_bytes N).append hdt)
  have hfl : (sform t (bytes8 N ++ dt)).length = 512 := sform_len (by omega)
  have hinfoS := infoSecL (l := sform t (bytes8 N ++ dt)) hfl
  have hallS := all_oneCell_toArray (bs_one (sform t (bytes8 N ++ dt)))
  have hll2 : (bs (sform t (bytes8 N ++ dt))).length = 512 := by rw [bs, List.length_map, hfl]
  obtain ⟨G, hG⟩ : ∃ G, G = bs (sform t (bytes8 N ++ dt)) := ⟨_, rfl⟩
  rw [← hG] at k4 hinfoS hallS hll2
  have HG := Hid.mk hG
  clear ho6 hb6 hs6 HB5 hG
  generalize 8 + q = Q8 at *
  go_wp2_with fail
  refine k4.mono ?_
  rintro e w7 ⟨rfl, hb7⟩
  have hB7 := HB6.out.trans (hb7.mono HB6.out.size)
  have hw7 : (w7.alloc (.cells zsec 200)).heap[w7.heap.size]? = some (.cells zsec 200 (0, 0)) := heap_alloc_new _ _
  have hth := there_of hw7 zsec_size
  rw [← hll2] at hth
  have hblk := blk_stored (l := sform t (bytes8 N ++ dt)) hw7 (by rw [zsec_size, hfl])
  rw [← HG.out] at hblk
  have hsz7 := hB7.size
  have hB8 : Below w.heap.size w (w7.alloc (.cells zsec 200)) := hB7.alloc hB7.size _
  have hB9 := hB8.trans ((Keeps.setCells (F := fun j => j = w7.heap.size) rfl G 0 _).below (fun j hj => by omega) hB8.size)
  rw [Hteq.out] at hblk
  have HH := Hid.mk (fun j => And.intro (hblk.keep (w' := ((w7.alloc (.cells zsec 200)).setCells w7.heap.size 0 G).drewN j) rfl) (And.intro hB7.size (below_drewN hB9 j)))
  clear k4 hb7 hB7 hw7 hblk hB8 hB9 HB6
  go_wp2_with (refine wpList_store_mid rfl 200 _ _ rfl w7.heap.size 0 G.toArray rfl rfl ?h1 ?h2 hallS ?_)
  case h1 => simpa using hth
  case h2 => simpa using hinfoS
  go_quiet (fail)
  go_wp2
  go_ret3
  exact ⟨w7.heap.size, rfl, HH.out _⟩

set_option maxRecDepth 20000 in
set_option maxHeartbeats 4000000 in
theorem renew_ok1 (a : Option Addr) (n c : Nat) (l : List Int) (a2 : Option Addr) (m d : Nat) (r : List Int) (a3 : Option Addr) (q e3 : Nat) (dt : List Int) (num : Int) (w : World) (hs : Src w a n l) (hs2 : Src w a2 m r) (hl : Bytes l) (hr : Bytes r) (hyes : n = 512 ∧ m = 512) (N : Nat) (hnum : num = (N : Int)) (hN1 : 1 ≤ N) (hNm : N < 9223372036854775808) (hs3 : Src w a3 q dt) (hdt : Bytes dt) (h2n : q ≤ 496) (hca : a3 = none → e3 = 0) (h3n : (snewest l r).2.1 < N) (hA : (snewest l r).1 ≤ 1) (hslot : (if (snewest l r).2.1 = 0 then 0 else 1 - (snewest l r).1) = 1) :
    Calls Tryz.prog 127 #[.slice a n c, .slice a2 m d, .int .i64 num, .slice a3 q e3] w fun e w' => ∃ g, e = .returned (.tuple #[.int .i64 1, .slice (some ⟨g, 0, none⟩) 512 512, .int .i64 0]) ∧ Blk w' 200 g (sform (turnOf (r.getD 0 0) (r.getD 511 0)) (bytes8 N ++ dt)) ∧ w.heap.size ≤ g ∧ Below w.heap.size w w' := by
  subst hnum
  obtain ⟨hn5, hm5⟩ := hyes
  subst hn5
  subst hm5
  have hwh : (decide (512 = 512) && decide (512 = 512)) = true := rfl
  have H3n := Hid.mk h3n
  have HA := Hid.mk hA
  have Hslot := Hid.mk hslot
  clear h3n hA hslot
  have H3 := Hid.mk hs3
  have hdl := hs3.1
  have hz2 := zeroSec
  have hz := zeroPair
  have h1 := pairOf_any a 512 c l a2 512 d r w hs hs2
  have hln := hs.1
  have hrn := hs2.1
  have hinfo := infoPairL (secOf_len l) (secOf_len r)
  have hall := all_oneCell_toArray (bs_one (secOf l ++ secOf r))
  have hFl : (bs (secOf l ++ secOf r)).length = 1024 := by rw [bs, List.length_map, List.length_append, secOf_len, secOf_len]
  obtain ⟨F, hF⟩ : ∃ F, F = bs (secOf l ++ secOf r) := ⟨_, rfl⟩
  rw [← hF] at h1 hinfo hall hFl
  have HF := Hid.mk hF
  clear hF hs hs2 hs3
  go_enter Tryz.func127, Tryz.ntmps127
  go_wp2_with fail
  refine h1.mono ?_
  rintro e w1 ⟨rfl, hb1⟩
  have hw1 : (w1.alloc (.cells zpair 202)).heap[w1.heap.size]? = some (.cells zpair 202 (0, 0)) := heap_alloc_new _ _
  have hth := there_of hw1 zpair_size
  rw [← hFl] at hth
  have hB1 : Below w.heap.size w (w1.alloc (.cells zpair 202)) := hb1.alloc hb1.size _
  have hsz := hb1.size
  have hB2 := hB1.trans ((Keeps.setCells (F := fun j => j = w1.heap.size) rfl F 0 _).below (fun j hj => by omega) hB1.size)
  have hblk := blk_stored (l := secOf l ++ secOf r) hw1 (by rw [zpair_size, List.length_append, secOf_len, secOf_len])
  rw [← HF.out] at hblk
  obtain ⟨w2, hw2⟩ : ∃ w2, w2 = (w1.alloc (.cells zpair 202)).setCells w1.heap.size 0 F := ⟨_, rfl⟩
  rw [← hw2] at hB2 hblk
  have HB2 := Hid.mk hB2
  have Hblk := Hid.mk hblk
  have HW2 := Hid.mk hw2
  clear h1 hw1 hB1 hb1 hB2 hblk hw2
  rw [hwh]
  rw [(secOf_self hln), (secOf_self hrn)] at Hblk
  obtain ⟨s1, s2⟩ := pair_srcs Hblk.out hln hrn
  have k1 := newest_any w1.heap.size l r w2 s1 s2 hl hr
  have HS2 := Hid.mk s2
  clear s1 s2 Hblk
  go_wp2_with (refine wpList_store_mid rfl 202 _ _ rfl w1.heap.size 0 F.toArray rfl rfl ?h1 ?h2 hall ?_)
  case h1 => simpa using hth
  case h2 => simpa using hinfo
  rw [← HW2.out]
  refine k1.mono ?_
  rintro e w3 ⟨v, rfl, hlst, hb3⟩
  obtain ⟨va, vc, hv, hq⟩ := hlst
  subst hv
  have hB3 := HB2.out.trans (hb3.mono HB2.out.size)
  have hb4 : Below w3.heap.size w3 (w3.alloc (.cells #[.int .i64 (((snewest l r).1 : Nat) : Int), .int .i64 (((snewest l r).2.1 : Nat) : Int), .slice va (snewest l r).2.2.1.length vc] 206)) := (Below.refl _ w3).alloc (Nat.le_refl _) _
  have HB4 := Hid.mk (hB3.trans (hb4.mono hB3.size))
  have HX := Hid.mk ((HS2.out.later hb3).later hb4)
  have ho := Hid.mk (fun w' => other_any (snewest l r).1 (snewest l r).2.1 (.slice va (snewest l r).2.2.1.length vc) w' HA.out)
  rw [Hslot.out] at ho
  have h3n' : ¬ (N : Int) ≤ (((snewest l r).2.1 : Nat) : Int) := by have := H3n.out; omega
  clear H3n HA Hslot
  clear k1 hq hb3 HW2 hth hinfo hall HB2 hB3 hb4 HS2
  generalize (snewest l r).1 = A at *
  generalize (snewest l r).2.1 = B at *
  generalize (snewest l r).2.2.1.length = D at *
  go_wp2_with fail
  refine (ho.out _).mono ?_
  rintro e w5 ⟨rfl, hb5⟩
  have HB5 := Hid.mk (HB4.out.trans (hb5.mono HB4.out.size))
  have HX5 := Hid.mk (HX.out.later hb5)
  have c0 := HX5.out.2.2 _ rfl 0 (by omega)
  have c1 := HX5.out.2.2 _ rfl 511 (by omega)
  rw [addr_add] at c0 c1
  have k2 := nextTurn_any w1.heap.size 512 (r.getD 0 0) (r.getD 511 0) w5 c0 c1
  have ht := turnOf_le (r.getD 0 0) (r.getD 511 0)
  obtain ⟨t, hteq⟩ : ∃ t, t = turnOf (r.getD 0 0) (r.getD 511 0) := ⟨_, rfl⟩
  rw [← hteq] at ht k2
  have Hteq := Hid.mk hteq
  clear ho hb5 HB4 HX c0 c1 hteq
  go_wp2_with fail
  refine k2.mono ?_
  rintro e w' ⟨rfl, hw⟩
  have hw' := hw.symm
  subst hw'
  clear hw k2
  go_wp2_with fail
  refine (anchorBody_any N a3 q e3 dt w5 hNm (H3.out.later HB5.out) h2n hca).mono ?_
  rintro e w6 ⟨v6, rfl, ho6, hb6⟩
  obtain ⟨p6, c6, rfl, hs6, _, _⟩ := ho6.src
  have hbl : (bytes8 N ++ dt).length = 8 + q := by rw [List.length_append, bytes8_len, hdl]
  rw [hbl] at hs6 ⊢
  have HB6 := Hid.mk (HB5.out.trans (hb6.mono HB5.out.size))
  have k4 := sealed_any t p6 (8 + q) c6 (bytes8 N ++ dt) w6 (by omega) hs6 (by omega) ((bytes8_bytes N).append hdt)
  have hfl : (sform t (bytes8 N ++ dt)).length = 512 := sform_len (by omega)
  have hinfoS := infoSecL (l := sform t (bytes8 N ++ dt)) hfl
  have hallS := all_oneCell_toArray (bs_one (sform t (bytes8 N ++ dt)))
  have hll2 : (bs (sform t (bytes8 N ++ dt))).length = 512 := by rw [bs, List.length_map, hfl]
  obtain ⟨G, hG⟩ : ∃ G, G = bs (sform t (bytes8 N ++ dt)) := ⟨_, rfl⟩
  rw [← hG] at k4 hinfoS hallS hll2
  have HG := Hid.mk hG
  clear ho6 hb6 hs6 HB5 hG
  generalize 8 + q = Q8 at *
  go_wp2_with fail
  refine k4.mono ?_
  rintro e w7 ⟨rfl, hb7⟩
  have hB7 := HB6.out.trans (hb7.mono HB6.out.size)
  have hw7 : (w7.alloc (.cells zsec 200)).heap[w7.heap.size]? = some (.cells zsec 200 (0, 0)) := heap_alloc_new _ _
  have hth := there_of hw7 zsec_size
  rw [← hll2] at hth
  have hblk := blk_stored (l := sform t (bytes8 N ++ dt)) hw7 (by rw [zsec_size, hfl])
  rw [← HG.out] at hblk
  have hsz7 := hB7.size
  have hB8 : Below w.heap.size w (w7.alloc (.cells zsec 200)) := hB7.alloc hB7.size _
  have hB9 := hB8.trans ((Keeps.setCells (F := fun j => j = w7.heap.size) rfl G 0 _).below (fun j hj => by omega) hB8.size)
  rw [Hteq.out] at hblk
  have HH := Hid.mk (fun j => And.intro (hblk.keep (w' := ((w7.alloc (.cells zsec 200)).setCells w7.heap.size 0 G).drewN j) rfl) (And.intro hB7.size (below_drewN hB9 j)))
  clear k4 hb7 hB7 hw7 hblk hB8 hB9 HB6
  go_wp2_with (refine wpList_store_mid rfl 200 _ _ rfl w7.heap.size 0 G.toArray rfl rfl ?h1 ?h2 hallS ?_)
  case h1 => simpa using hth
  case h2 => simpa using hinfoS
  go_quiet (fail)
  go_wp2
  go_ret3
  exact ⟨w7.heap.size, rfl, HH.out _⟩

end Go.Proofs.YtokcgifpljeoiaaGreat
end

section
namespace Go.Proofs.YtokcgifpljeoiaaGreat
open Go.RowKit

theorem snewest_slot (l r : List Int) : (snewest l r).1 ≤ 1 := by
  unfold snewest
  split
  · simp
  · split
    · simp
    · split <;> simp
theorem snewest_none {l r : List Int} (hl : l.length = 512) (hr : r.length = 512) : ((snewest l r).2.2.2 = 0 ∧ 0 < (snewest l r).2.1) ∨ ((snewest l r).2.2.2 = 30 ∧ (snewest l r).2.1 = 0 ∧ (snewest l r).1 = 0) := by
  rw [snewest_eq hl hr]
  by_cases q : (sanchor l).1 = 0 ∧ (sanchor r).1 = 0
  · rw [if_pos q]; exact .inr ⟨rfl, rfl, rfl⟩
  · rw [if_neg q]
    by_cases q2 : (sanchor l).1 < (sanchor r).1
    · rw [if_pos q2]; exact .inl ⟨rfl, by simp only; omega⟩
    · rw [if_neg q2]; exact .inl ⟨rfl, by simp only; omega⟩

theorem renew_any (a : Option Addr) (n c : Nat) (l : List Int) (a2 : Option Addr) (m d : Nat) (r : List Int) (a3 : Option Addr) (q e3 : Nat) (dt : List Int) (num : Int) (w : World) (hs : Src w a n l) (hs2 : Src w a2 m r) (hl : Bytes l) (hr : Bytes r)
    (hs3 : Src w a3 q dt) (hdt : Bytes dt) (hca : a3 = none → e3 = 0) (hhi : num ≤ 9223372036854775807) :
    Calls Tryz.prog 127 #[.slice a n c, .slice a2 m d, .int .i64 num, .slice a3 q e3] w fun e w' => ∃ v, e = .returned (.tuple #[.int .i64 (((srenew l r num dt).1 : Nat) : Int), v, .int .i64 (((srenew l r num dt).2.2 : Nat) : Int)]) ∧ Lst w' w.heap.size v (srenew l r num dt).2.1 ∧ Below w.heap.size w w' := by
  have hln := hs.1
  have hrn := hs2.1
  have hdn := hs3.1
  by_cases hyes : n = 512 ∧ m = 512
  · by_cases h1 : num < 1
    · refine (renew_no2 a n c l a2 m d r a3 q e3 num w hs hs2 hyes h1).mono ?_
      rintro e w' ⟨rfl, hb⟩
      have e1 : srenew l r num dt = (0, [], 1) := by unfold srenew; rw [if_neg (by omega), if_pos h1]
      rw [e1]; exact ⟨_, rfl, Lst.nil _ _, hb⟩
    · by_cases h2 : 496 < q
      · refine (renew_no3 a n c l a2 m d r a3 q e3 num w hs hs2 hyes h1 h2).mono ?_
        rintro e w' ⟨rfl, hb⟩
        have e1 : srenew l r num dt = (0, [], 7) := by unfold srenew; rw [if_neg (by omega), if_neg h1, if_pos (by omega)]
        rw [e1]; exact ⟨_, rfl, Lst.nil _ _, hb⟩
      · by_cases h3 : num ≤ (((snewest l r).2.1 : Nat) : Int)
        · refine (renew_no4 a n c l a2 m d r a3 q e3 num w hs hs2 hl hr hyes h1 (by omega) h3).mono ?_
          rintro e w' ⟨rfl, hb⟩
          have e1 : srenew l r num dt = (0, [], 31) := by unfold srenew; rw [if_neg (by omega), if_neg h1, if_neg (by omega)]; simp only; rw [if_pos h3]
          rw [e1]; exact ⟨_, rfl, Lst.nil _ _, hb⟩
        · obtain ⟨N, hN⟩ : ∃ N : Nat, num = (N : Int) := ⟨num.toNat, by omega⟩
          have hA := snewest_slot l r
          have hno := snewest_none (l := l) (r := r) (by omega) (by omega)
          have hdl : (bytes8 N ++ dt).length ≤ 504 := by rw [List.length_append, bytes8_len]; omega
          by_cases hs0 : (snewest l r).2.2.2 = 0 ∧ (snewest l r).1 = 0
          · refine (renew_ok1 a n c l a2 m d r a3 q e3 dt num w hs hs2 hl hr hyes N hN (by omega) (by omega) hs3 hdt (by omega) hca (by omega) hA (by rw [if_neg (by omega)]; omega)).mono ?_
            rintro e w' ⟨g, rfl, hblk, hg, hb⟩
            have e1 : srenew l r num dt = (1, sform (turnOf (r.getD 0 0) (r.getD 511 0)) (bytes8 N ++ dt), 0) := by unfold srenew; rw [if_neg (by omega), if_neg h1, if_neg (by omega)]; simp only; rw [if_neg h3, if_pos hs0, hN, Int.toNat_natCast]
            rw [e1]
            have := hblk.lst hg
            rw [sform_len hdl] at this
            exact ⟨_, rfl, this, hb⟩
          · refine (renew_ok0 a n c l a2 m d r a3 q e3 dt num w hs hs2 hl hr hyes N hN (by omega) (by omega) hs3 hdt (by omega) hca (by omega) hA (by split <;> omega)).mono ?_
            rintro e w' ⟨g, rfl, hblk, hg, hb⟩
            have e1 : srenew l r num dt = (0, sform (turnOf (l.getD 0 0) (l.getD 511 0)) (bytes8 N ++ dt), 0) := by unfold srenew; rw [if_neg (by omega), if_neg h1, if_neg (by omega)]; simp only; rw [if_neg h3, if_neg hs0, hN, Int.toNat_natCast]
            rw [e1]
            have := hblk.lst hg
            rw [sform_len hdl] at this
            exact ⟨_, rfl, this, hb⟩
  · refine (renew_no1 a n c l a2 m d r a3 q e3 num w hs hs2 hyes).mono ?_
    rintro e w' ⟨rfl, hb⟩
    have e1 : srenew l r num dt = (0, [], 2) := by unfold srenew; rw [if_pos (by omega)]
    rw [e1]; exact ⟨_, rfl, Lst.nil _ _, hb⟩
end Go.Proofs.YtokcgifpljeoiaaGreat
end

section
namespace Go.Proofs.YtokcgifpljeoiaaGreat
open Go.RowKit

end Go.Proofs.YtokcgifpljeoiaaGreat
end

section
namespace Go.Proofs.YtokcgifpljeoiaaGreat
open Go.RowKit

theorem snewest_small (l r : List Int) : (snewest l r).2.1 ≤ 9223372036854775807 := by
  have sl := sanchor_small l
  have sr := sanchor_small r
  unfold snewest
  split
  · simp
  · split
    · simp
    · split <;> simp only <;> omega

end Go.Proofs.YtokcgifpljeoiaaGreat
end

section
namespace Go.Proofs.YtokcgifpljeoiaaGreat
open Go.RowKit

theorem rd_dead {S : DS} (s : Nat) (x : Int) (h : S.fuse = 0) : S.rd s x = (3, S, []) := if_pos h
theorem rd_in {S : DS} {s k : Nat} (h : S.fuse ≠ 0) (hk : k < s) : S.rd s (k : Int) = (0, S.read, S.now k) := by
  unfold DS.rd
  rw [if_neg h, if_neg (by omega)]
  simp

theorem Out.low {lo lo' : Nat} {w : World} {l : List Int} {v : Value} (h : Out lo w l v) (hl : lo' ≤ lo) : Out lo' w l v := by
  obtain ⟨a, c, rfl, h1, h2⟩ := h
  exact ⟨a, c, rfl, h1, fun x e => Nat.le_trans hl (h2 x e)⟩
theorem Keeps.boxed {w : World} (F : Nat → Prop) (o : Obj) : Keeps F w (w.alloc o) := Keeps.alloc F w o

set_option maxRecDepth 20000 in
set_option maxHeartbeats 4000000 in
theorem pair_dead {w : World} {F : Nat → Prop} {p s : Nat} {S : DS} (h : DiskAt w F p s S) (f n : Int) (hbig : S.puts.length + 1 ≤ 4000000000000) (hf : S.fuse = 0) :
    Calls Tryz.prog 126 #[areaV p f n] w fun e w' => e = .returned (.tuple #[.slice none 0 0, .slice none 0 0, .int .i64 3]) ∧ DiskAt w' F p s S ∧ Keeps F w w' := by
  have h1 := read_all (h.boxed (.cells #[.pointer (some ⟨p, 0, none⟩), .int .i64 f, .int .i64 n] 134)) f hbig
  rw [rd_dead _ _ hf] at h1
  go_enter Tryz.func126, Tryz.ntmps126
  go_wp2_with fail
  refine h1.mono ?_
  rintro e w1 ⟨v, rfl, _, hd, hk⟩
  go_wp2
  go_ret3
  exact ⟨rfl, hd, ((Keeps.boxed (w := w) F (.cells #[.pointer (some ⟨p, 0, none⟩), .int .i64 f, .int .i64 n] 134)).trans hk (fun _ h => .inl h))⟩

/-- The box of an area, where all but the disk stays. -/
theorem box_kept {w w1 : World} {F : Nat → Prop} {o : Obj} (hl : ∀ k, F k → k < w.heap.size) (hk : Keeps F (w.alloc o) w1) : w1.heap[w.heap.size]? = some o := by
  rw [hk.block w.heap.size (by simp) (fun h => by have := hl _ h; omega)]
  exact heap_alloc_new _ _

set_option maxRecDepth 20000 in
set_option maxHeartbeats 4000000 in
theorem pair_ok {w : World} {F : Nat → Prop} {p s : Nat} {S : DS} (h : DiskAt w F p s S) (f : Nat) (n : Int) (hbig : S.puts.length + 1 ≤ 4000000000000) (hf : S.fuse ≠ 0) (hs : f + 1 < s) :
    Calls Tryz.prog 126 #[areaV p f n] w fun e w' => ∃ v1 v2, e = .returned (.tuple #[v1, v2, .int .i64 0]) ∧ Out w.heap.size w' (S.now f) v1 ∧ Out w.heap.size w' (S.now (f + 1)) v2 ∧ DiskAt w' F p s S.read.read ∧ Keeps F w w' := by
  have h1 := read_all (h.boxed (.cells #[.pointer (some ⟨p, 0, none⟩), .int .i64 f, .int .i64 n] 134)) f hbig
  rw [rd_in hf (by omega)] at h1
  have hs2 := h.ok.hi
  have HL := h.lt
  go_enter Tryz.func126, Tryz.ntmps126
  go_wp2_with fail
  refine h1.mono ?_
  rintro e w1 ⟨v, rfl, ho, hd, hk⟩
  have hbox := box_kept HL hk
  have hc0 := cell_of_block hbox (j := 0) rfl
  have hc1 := cell_of_block hbox (j := 1) rfl
  have h2 := read_all hd ((f + 1 : Nat) : Int) (by simpa [DS.read] using hbig)
  rw [rd_in (S := S.read) hf hs] at h2
  have HK := ((Keeps.boxed (w := w) F (.cells #[.pointer (some ⟨p, 0, none⟩), .int .i64 f, .int .i64 n] 134)).trans hk (fun _ h => .inl h))
  go_wp2_with fail
  refine h2.mono ?_
  rintro e w2 ⟨v2, rfl, ho2, hd2, hk2⟩
  have HO1 := (ho.keeps hk2 (fun k hk => by have := HL k hk; simp; omega))
  go_wp2
  go_ret3
  exact ⟨_, _, rfl, HO1.low (by simp), ho2.low HK.size, hd2, (HK.trans hk2 (fun _ h => .inl h))⟩
end Go.Proofs.YtokcgifpljeoiaaGreat
end
