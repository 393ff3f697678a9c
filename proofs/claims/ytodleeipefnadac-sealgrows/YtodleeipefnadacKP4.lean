import Derived.Test.YtodleeipefnadacKP2
namespace Go.Proofs.Ytodleeipefnadac
open Go.RowKit

theorem snewest_eq {l r : List Int} (hl : l.length = 512) (hr : r.length = 512) : snewest l r = if (sanchor l).1 = 0 ∧ (sanchor r).1 = 0 then (0, 0, [], 30) else if (sanchor l).1 < (sanchor r).1 then (1, (sanchor r).1, (sanchor r).2, 0) else (0, (sanchor l).1, (sanchor l).2, 0) := by
  unfold snewest; rw [if_neg (by omega)]
theorem sanchor_small (s : List Int) : (sanchor s).1 ≤ 9223372036854775807 := by
  unfold sanchor
  split
  · simp
  · split
    · next h => simp only; omega
    · simp

/-- What newest holds behind k rounds. -/
def nst (l r : List Int) : Nat → Nat × Nat × List Int
  | 0 => (0, 0, [])
  | 1 => if 0 < (sanchor l).1 then (0, (sanchor l).1, (sanchor l).2) else (0, 0, [])
  | _ + 2 => if (if 0 < (sanchor l).1 then (0, (sanchor l).1, (sanchor l).2) else (0, 0, ([] : List Int))).2.1 < (sanchor r).1 then (1, (sanchor r).1, (sanchor r).2) else if 0 < (sanchor l).1 then (0, (sanchor l).1, (sanchor l).2) else (0, 0, [])
theorem nst_two {l r : List Int} (hl : l.length = 512) (hr : r.length = 512) : nst l r 2 = ((snewest l r).1, (snewest l r).2.1, (snewest l r).2.2.1) := by
  rw [snewest_eq hl hr]
  unfold nst
  by_cases h1 : 0 < (sanchor l).1
  · simp only [if_pos h1]
    rw [if_neg (show ¬ ((sanchor l).1 = 0 ∧ (sanchor r).1 = 0) by omega)]
    by_cases h2 : (sanchor l).1 < (sanchor r).1
    · simp only [if_pos h2]
    · simp only [if_neg h2]
  · simp only [if_neg h1]
    by_cases h2 : 0 < (sanchor r).1
    · simp only [if_pos h2]
      rw [if_neg (show ¬ ((sanchor l).1 = 0 ∧ (sanchor r).1 = 0) by omega), if_pos (show (sanchor l).1 < (sanchor r).1 by omega)]
    · simp only [if_neg h2]
      rw [if_pos (show (sanchor l).1 = 0 ∧ (sanchor r).1 = 0 by omega)]
theorem LstIn.agree {w w' : World} {g : Nat} {v : Value} {l : List Int} (h : LstIn w g v l) (hb : w'.heap[g]? = w.heap[g]?) : LstIn w' g v l := by
  obtain ⟨a, c, rfl, hs, hc, hx⟩ := h
  refine ⟨a, c, rfl, ⟨hs.1, hs.2.1, fun x e i hi => ?_⟩, hc, hx⟩
  have hbl := hx x e
  rw [World.cell?_of_block (w := w) (by rw [blockOf_add, hbl]; exact hb)]
  exact hs.2.2 x e i hi
theorem set3 {w : World} {g : Nat} {T : TypeId} {a b c x y z : Value} (h : w.heap[g]? = some (.cells #[a, b, c] T (0, 0))) :
    (((w.setCell ⟨g, 0, none⟩ x).setCell ⟨g, 1, none⟩ y).setCell ⟨g, 2, none⟩ z).heap[g]? = some (.cells #[x, y, z] T (0, 0)) := by
  rw [heap_setCell_same _ _ _ _ _ _ (heap_setCell_same _ _ _ _ _ _ (heap_setCell_same _ _ _ _ _ _ h))]
  rfl
theorem range3 {w : World} {g : Nat} {T : TypeId} {x y z : Value} (h : w.heap[g]? = some (.cells #[x, y, z] T (0, 0))) : w.rangeAt g 0 [x, y, z] := by
  intro j v hv
  rw [Nat.zero_add]
  exact cell_of_block h (by simpa using hv)
theorem infoAnchor : (Try.prog.info? 101).map (·.size) = some 3 := by kernel_rfl
theorem keeps3 (w : World) (g : Nat) (x y z : Value) : Keeps (fun j => j = g) w (((w.setCell ⟨g, 0, none⟩ x).setCell ⟨g, 1, none⟩ y).setCell ⟨g, 2, none⟩ z) :=
  ((Keeps.setCell (F := fun j => j = g) (p := ⟨g, 0, none⟩) w rfl x).trans (Keeps.setCell (F := fun j => j = g) (p := ⟨g, 1, none⟩) _ rfl y) (fun _ h => .inl h)).trans (Keeps.setCell (F := fun j => j = g) (p := ⟨g, 2, none⟩) _ rfl z) (fun _ h => .inl h)
/-- What newest's loop keeps. -/
def Nw (w : World) (g : Nat) (l r : List Int) (k : Nat) (wr : World) : Prop :=
  ∃ v, wr.heap[w.heap.size + 1]? = some (.cells #[.int .i64 (((nst l r k).1 : Nat) : Int), .int .i64 (((nst l r k).2.1 : Nat) : Int), v] 101 (0, 0)) ∧ LstIn wr g v (nst l r k).2.2 ∧
    (∃ x y z, wr.heap[w.heap.size]? = some (.cells #[x, y, z] 101 (0, 0))) ∧ Below w.heap.size w wr

set_option maxRecDepth 20000 in
set_option maxHeartbeats 4000000 in
theorem newest_any (g : Nat) (l r : List Int) (w : World) (hs : Src w (some ⟨g, 0, none⟩) 512 l) (hs2 : Src w (some ⟨g, 512, none⟩) 512 r) (hl : Bytes l) (hr : Bytes r) :
    Calls Try.prog 48 #[.pointer (some ⟨g, 0, none⟩)] w fun e w' => ∃ v, e = .returned (.agg #[.int .i64 (((snewest l r).1 : Nat) : Int), .int .i64 (((snewest l r).2.1 : Nat) : Int), v]) ∧ LstIn w' g v (snewest l r).2.2.1 ∧ Below w.heap.size w w' := by
  have hll := hs.1
  have hrl := hs2.1
  have sl := sanchor_small l
  have sr := sanchor_small r
  have h1 := Hid.mk (fun w' (hb : Below w.heap.size w w') => anchor_any g 0 l w' (hs.later hb) hl)
  have h2 := Hid.mk (fun w' (hb : Below w.heap.size w w') => anchor_any g 512 r w' (hs2.later hb) hr)
  have hg : g < w.heap.size := hs.old _ rfl (by omega)
  have Hfin := Hid.mk (nst_two hll hrl)
  clear hs hs2
  go_enter Try.func48, Try.ntmps48
  go_wp2
  go_loopw [8] (fun i wr => ∃ k : Nat, k ≤ 2 ∧ i = .int .i64 k ∧ Nw w g l r k wr) (fun i _ => 2 - (intOf i).toNat)
  case atStart => exact ⟨0, Nat.zero_le _, rfl, .slice none 0 0, heap_alloc2_new _ _ _, LstIn.nil _ _, ⟨_, _, _, heap_alloc2_old _ _ _⟩, ((Below.refl _ w).alloc (Nat.le_refl _) _).alloc (by simp) _⟩
  case round =>
    obtain ⟨k, hk, rfl, hN⟩ := hrel
    obtain rfl | rfl | rfl : k = 0 ∨ k = 1 ∨ k = 2 := by omega
    · obtain ⟨v, hblk, hlst, hres, hbr⟩ := hN
      have k1 := h1.out wr hbr
      have HN := Hid.mk (And.intro hblk (And.intro hlst (And.intro hres hbr)))
      clear hblk hlst hres hbr
      generalize hns : nst l r 0 = S at *
      go_wp2_with fail
      refine k1.mono ?_
      rintro e w1 ⟨v1, rfl, hl1, hb1⟩
      obtain ⟨a1, c1, hv1, hq1⟩ := hl1
      subst hv1
      have hl1 : LstIn w1 g _ _ := ⟨a1, c1, rfl, hq1⟩
      clear hq1
      obtain ⟨hblk, hlst, ⟨rx, ry, rz, hres⟩, hbr⟩ := HN.out
      have hblk1 := (hb1.block _ (Array.getElem?_eq_some_iff.1 hblk).1).trans hblk
      have hres1 := (hb1.block _ (Array.getElem?_eq_some_iff.1 hres).1).trans hres
      have hB1 := hbr.trans (hb1.mono hbr.size)
      have hlst1 := hlst.later hb1
      have hc0 := cell_of_block hblk1 (j := 0) rfl
      have hc1 := cell_of_block hblk1 (j := 1) rfl
      have hc2 := cell_of_block hblk1 (j := 2) rfl
      have hf0 := frozen_of_block hblk1 0
      have hf1 := frozen_of_block hblk1 1
      have hf2 := frozen_of_block hblk1 2
      have hz := hB1.size
      by_cases h0 : S.2.1 < (sanchor l).1
      · have h0' : ((S.2.1 : Nat) : Int) < (((sanchor l).1 : Nat) : Int) := by omega
        have hn : nst l r 1 = (0, (sanchor l).1, (sanchor l).2) := by
          rw [← hns] at h0
          have h0 : 0 < (sanchor l).1 := h0
          unfold nst; rw [if_pos h0]
        have hset := set3 (x := .int .i64 0) (y := .int .i64 (((sanchor l).1 : Nat) : Int)) (z := .slice a1 (sanchor l).2.length c1) hblk1
        have hkp := keeps3 w1 (w.heap.size + 1) (.int .i64 0) (.int .i64 (((sanchor l).1 : Nat) : Int)) (.slice a1 (sanchor l).2.length c1)
        have hNw : Nw w g l r 1 (((w1.setCell ⟨w.heap.size + 1, 0, none⟩ (.int .i64 0)).setCell ⟨w.heap.size + 1, 1, none⟩ (.int .i64 (((sanchor l).1 : Nat) : Int))).setCell ⟨w.heap.size + 1, 2, none⟩ (.slice a1 (sanchor l).2.length c1)) := by
          refine ⟨_, by rw [hn]; exact hset, by rw [hn]; exact hl1.agree (hkp.block g (by omega) (by omega)), ⟨rx, ry, rz, (hkp.block _ (Array.getElem?_eq_some_iff.1 hres1).1 (by omega)).trans hres1⟩, hB1.trans (hkp.below (fun j hj => by omega) hB1.size)⟩
        have HNw := Hid.mk hNw
        generalize (sanchor l).1 = A at *
        generalize (sanchor l).2.length = D at *
        clear k1 HN hblk hlst hres hbr hblk1 hres1 hB1 hlst1 hset hkp hNw hl1 hb1 hn
        go_wp2
        go_roundw
        case rel => exact ⟨1, by omega, by go_num, HNw.out⟩
        case measure => simp [intOf]
      · have h0' : ¬ ((S.2.1 : Nat) : Int) < (((sanchor l).1 : Nat) : Int) := by omega
        have hn : nst l r 1 = S := by
          rw [← hns] at h0 ⊢
          have h0 : ¬ 0 < (sanchor l).1 := h0
          unfold nst; rw [if_neg h0]
        have hNw : Nw w g l r 1 w1 := ⟨v, by rw [hn]; exact hblk1, by rw [hn]; exact hlst1, ⟨rx, ry, rz, hres1⟩, hB1⟩
        have HNw := Hid.mk hNw
        generalize (sanchor l).1 = A at *
        generalize (sanchor l).2.length = D at *
        clear k1 HN hblk hlst hres hbr hblk1 hres1 hB1 hlst1 hNw hl1 hb1 hn
        go_wp2
        go_roundw
        case rel => exact ⟨1, by omega, by go_num, HNw.out⟩
        case measure => simp [intOf]
    · obtain ⟨v, hblk, hlst, hres, hbr⟩ := hN
      have k1 := h2.out wr hbr
      have HN := Hid.mk (And.intro hblk (And.intro hlst (And.intro hres hbr)))
      clear hblk hlst hres hbr
      generalize hns : nst l r 1 = S at *
      go_wp2_with fail
      refine k1.mono ?_
      rintro e w1 ⟨v1, rfl, hl1, hb1⟩
      obtain ⟨a1, c1, hv1, hq1⟩ := hl1
      subst hv1
      have hl1 : LstIn w1 g _ _ := ⟨a1, c1, rfl, hq1⟩
      clear hq1
      obtain ⟨hblk, hlst, ⟨rx, ry, rz, hres⟩, hbr⟩ := HN.out
      have hblk1 := (hb1.block _ (Array.getElem?_eq_some_iff.1 hblk).1).trans hblk
      have hres1 := (hb1.block _ (Array.getElem?_eq_some_iff.1 hres).1).trans hres
      have hB1 := hbr.trans (hb1.mono hbr.size)
      have hlst1 := hlst.later hb1
      have hc0 := cell_of_block hblk1 (j := 0) rfl
      have hc1 := cell_of_block hblk1 (j := 1) rfl
      have hc2 := cell_of_block hblk1 (j := 2) rfl
      have hf0 := frozen_of_block hblk1 0
      have hf1 := frozen_of_block hblk1 1
      have hf2 := frozen_of_block hblk1 2
      have hz := hB1.size
      by_cases h0 : S.2.1 < (sanchor r).1
      · have h0' : ((S.2.1 : Nat) : Int) < (((sanchor r).1 : Nat) : Int) := by omega
        have hn : nst l r 2 = (1, (sanchor r).1, (sanchor r).2) := by
          rw [← hns] at h0
          unfold nst at h0 ⊢; rw [if_pos h0]
        have hset := set3 (x := .int .i64 1) (y := .int .i64 (((sanchor r).1 : Nat) : Int)) (z := .slice a1 (sanchor r).2.length c1) hblk1
        have hkp := keeps3 w1 (w.heap.size + 1) (.int .i64 1) (.int .i64 (((sanchor r).1 : Nat) : Int)) (.slice a1 (sanchor r).2.length c1)
        have hNw : Nw w g l r 2 (((w1.setCell ⟨w.heap.size + 1, 0, none⟩ (.int .i64 1)).setCell ⟨w.heap.size + 1, 1, none⟩ (.int .i64 (((sanchor r).1 : Nat) : Int))).setCell ⟨w.heap.size + 1, 2, none⟩ (.slice a1 (sanchor r).2.length c1)) := by
          refine ⟨_, by rw [hn]; exact hset, by rw [hn]; exact hl1.agree (hkp.block g (by omega) (by omega)), ⟨rx, ry, rz, (hkp.block _ (Array.getElem?_eq_some_iff.1 hres1).1 (by omega)).trans hres1⟩, hB1.trans (hkp.below (fun j hj => by omega) hB1.size)⟩
        have HNw := Hid.mk hNw
        generalize (sanchor r).1 = A at *
        generalize (sanchor r).2.length = D at *
        clear k1 HN hblk hlst hres hbr hblk1 hres1 hB1 hlst1 hset hkp hNw hl1 hb1 hn
        go_wp2
        go_roundw
        case rel => exact ⟨2, by omega, by go_num, HNw.out⟩
        case measure => simp [intOf]
      · have h0' : ¬ ((S.2.1 : Nat) : Int) < (((sanchor r).1 : Nat) : Int) := by omega
        have hn : nst l r 2 = S := by
          rw [← hns] at h0 ⊢
          unfold nst at h0 ⊢; rw [if_neg h0]
        have hNw : Nw w g l r 2 w1 := ⟨v, by rw [hn]; exact hblk1, by rw [hn]; exact hlst1, ⟨rx, ry, rz, hres1⟩, hB1⟩
        have HNw := Hid.mk hNw
        generalize (sanchor r).1 = A at *
        generalize (sanchor r).2.length = D at *
        clear k1 HN hblk hlst hres hbr hblk1 hres1 hB1 hlst1 hNw hl1 hb1 hn
        go_wp2
        go_roundw
        case rel => exact ⟨2, by omega, by go_num, HNw.out⟩
        case measure => simp [intOf]
    · obtain ⟨v, hblk, hlst, ⟨rx, ry, rz, hres⟩, hbr⟩ := hN
      rw [Hfin.out] at hblk hlst
      obtain ⟨a1, c1, hv1, hq1⟩ := hlst
      subst hv1
      have hlst : LstIn wr g _ _ := ⟨a1, c1, rfl, hq1⟩
      clear hq1
      dsimp only at hblk hlst
      generalize hD : (snewest l r).2.2.1.length = D at *
      have hc0 := cell_of_block hblk (j := 0) rfl
      have hc1 := cell_of_block hblk (j := 1) rfl
      have hc2 := cell_of_block hblk (j := 2) rfl
      have hd0 := cell_of_block hres (j := 0) rfl
      have hd1 := cell_of_block hres (j := 1) rfl
      have hd2 := cell_of_block hres (j := 2) rfl
      have hf0 := frozen_of_block hres 0
      have hf1 := frozen_of_block hres 1
      have hf2 := frozen_of_block hres 2
      have hset := set3 (x := .int .i64 (((snewest l r).1 : Nat) : Int)) (y := .int .i64 (((snewest l r).2.1 : Nat) : Int)) (z := .slice a1 D c1) hres
      have hkp := keeps3 wr w.heap.size (.int .i64 (((snewest l r).1 : Nat) : Int)) (.int .i64 (((snewest l r).2.1 : Nat) : Int)) (.slice a1 D c1)
      have hz := hbr.size
      have hl2 := hlst.agree (hkp.block g (by omega) (by omega))
      have hB2 := hbr.trans (hkp.below (fun j hj => by omega) hbr.size)
      have HH := Hid.mk (And.intro hl2 hB2)
      have e0 := cell_of_block hset (j := 0) rfl
      have e1 := cell_of_block hset (j := 1) rfl
      have e2 := cell_of_block hset (j := 2) rfl
      clear hblk hlst hres hbr hkp hl2 hB2 Hfin h1 h2
      have hr3 := Hid.mk (range3 hset)
      obtain ⟨A, hA⟩ : ∃ A, A = (snewest l r).1 := ⟨_, rfl⟩
      obtain ⟨B, hB⟩ : ∃ B, B = (snewest l r).2.1 := ⟨_, rfl⟩
      rw [← hA] at hc0 hset HH e0 e1 e2 hr3
      rw [← hB] at hc1 hset HH e0 e1 e2 hr3
      have HA := Hid.mk hA
      have HB := Hid.mk hB
      have HD := Hid.mk hD
      clear hA hB hD hset
      go_wp2
      exact bodyPost_ret (results_cell_mid (P := Try.prog) rfl _ _ w.heap.size _ _ rfl hr3.out Try.underlying101 rfl infoAnchor) rfl ⟨.slice a1 D c1, by rw [← HA.out, ← HB.out], HH.out⟩
end Go.Proofs.Ytodleeipefnadac
