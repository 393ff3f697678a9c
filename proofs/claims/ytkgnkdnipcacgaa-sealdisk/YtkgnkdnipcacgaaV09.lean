import Derived.Test.YtkgnkdnipcacgaaV08
import Derived.OwnWalk
import Derived.Laws.AppendOwnNone
section
namespace Go.Proofs.Ytkgnkdnipcacgaa
open Go.RowKit

/-- What a call answers: a list in block g, or none. -/
def LstIn (w : World) (g : Nat) (v : Value) (l : List Int) : Prop := ∃ a c, v = .slice a l.length c ∧ Src w a l.length l ∧ l.length ≤ c ∧ ∀ x, a = some x → x.block = g
theorem LstIn.nil (w : World) (g : Nat) : LstIn w g (.slice none 0 0) [] := ⟨none, 0, rfl, ⟨rfl, fun _ => rfl, fun x hx => by cases hx⟩, Nat.le_refl _, fun x hx => by cases hx⟩
theorem LstIn.later {w w' : World} {g : Nat} {v : Value} {l : List Int} (h : LstIn w g v l) (hb : Below w.heap.size w w') : LstIn w' g v l := by
  obtain ⟨a, c, rfl, hs, hc, hx⟩ := h
  exact ⟨a, c, rfl, hs.later hb, hc, hx⟩
theorem LstIn.lst {w : World} {g B : Nat} {v : Value} {l : List Int} (h : LstIn w g v l) (hg : B ≤ g) : Lst w B v l := by
  obtain ⟨a, c, rfl, hs, hc, hx⟩ := h
  exact ⟨a, c, rfl, hs, hc, fun x e => by rw [hx x e]; exact hg⟩

theorem sanchor_short {s : List Int} (h : sopen s = none ∨ ∃ b, sopen s = some b ∧ (b.length < 8 ∨ 9223372036854775808 ≤ le (b.take 8))) : sanchor s = (0, []) := by
  rcases h with h | ⟨b, h, h2⟩
  · simp [sanchor, h]
  · simp only [sanchor, h]
    rw [if_neg (by omega)]
theorem sanchor_good {s b : List Int} (h : sopen s = some b) (h1 : 8 ≤ b.length) (h2 : le (b.take 8) < 9223372036854775808) : sanchor s = (le (b.take 8), b.drop 8) := by
  simp only [sanchor, h]
  rw [if_pos ⟨h1, h2⟩]

set_option maxRecDepth 20000 in
set_option maxHeartbeats 4000000 in
theorem anchor_any (g o : Nat) (s : List Int) (w : World) (hs : Src w (some ⟨g, o, none⟩) 512 s) (hb : Bytes s) :
    Calls Try.prog 98 #[.pointer (some ⟨g, o, none⟩)] w fun e w' => ∃ v, e = .returned (.tuple #[.int .i64 (((sanchor s).1 : Nat) : Int), v]) ∧ LstIn w' g v (sanchor s).2 ∧ Below w.heap.size w w' := by
  have hsl := hs.1
  by_cases hbad : 504 < slen s ∨ 2 < s.getD 0 0
  · have hno : sanchor s = (0, []) := sanchor_short (.inl (by unfold sopen; rw [if_neg (fun h => by omega)]))
    have Hno := Hid.mk hno
    have h1 := open_no g o s w hs hb hbad
    clear hno hs
    go_enter Try.func98, Try.ntmps98
    go_wp2_with fail
    refine h1.mono ?_
    rintro e w' ⟨rfl, hw⟩
    have hw' := hw.symm
    subst hw'
    clear hw h1
    go_wp2
    go_ret2
    exact ⟨_, by rw [Hno.out]; rfl, by rw [Hno.out]; exact LstIn.nil _ _, Below.refl _ _⟩
  · have h1 := open_yes g o s w hs hb (by omega) (by omega)
    have hbl := sbody_len (s := s) (by omega) hsl
    have hbb : Bytes (sbody s) := (hb.drop _).take _
    by_cases heq : sform (s.getD 0 0) (sbody s) = s
    · have hop : sopen s = some (sbody s) := by unfold sopen; rw [if_pos ⟨by omega, by omega, heq⟩]
      rw [decide_eq_true heq] at h1
      by_cases h8 : slen s < 8
      · have hno : sanchor s = (0, []) := sanchor_short (.inr ⟨_, hop, .inl (by omega)⟩)
        have Hno := Hid.mk hno
        have h8' : (slen s : Int) < 8 := by omega
        clear hno hs hop heq hbb
        generalize slen s = N at *
        go_enter Try.func98, Try.ntmps98
        go_wp2_with fail
        refine h1.mono ?_
        rintro e w1 ⟨k, rfl, _, hb1⟩
        have HB1 := Hid.mk hb1
        clear hb1 h1
        go_wp2
        go_ret2
        exact ⟨_, by rw [Hno.out]; rfl, by rw [Hno.out]; exact LstIn.nil _ _, HB1.out⟩
      · have h8' : ¬ (slen s : Int) < 8 := by omega
        have hsb : ∀ w1 : World, Below w.heap.size w w1 → Src w1 (some ⟨g, o + 7, none⟩) (slen s) (sbody s) := fun w1 h => src_part (hs.later h) (i := 7) (m := slen s) (by omega)
        have ht8 : ((sbody s).take 8).length = 8 := by rw [List.length_take]; omega
        have hsmall := le_small (hbb.take 8) (by omega)
        have htk : ∀ w1 : World, Below w.heap.size w w1 → Calls Try.prog 114 #[.slice (some ⟨g, o + 7, none⟩) 8 8] w1 fun e w' => e = .returned (.int .u64 ((le ((sbody s).take 8) : Nat) : Int)) ∧ w' = w1 := fun w1 h => by
          have hp := src_part (hsb w1 h) (i := 0) (m := 8) (by omega)
          rw [List.drop_zero] at hp
          exact taken_any g (o + 7) 8 8 ((sbody s).take 8) w1 (hbb.take 8) ht8 (by omega) (fun i hi => by have := hp.2.2 _ rfl i hi; rwa [addr_add, Nat.add_zero] at this)
        have Htk := Hid.mk htk
        clear htk
        obtain ⟨M, hM⟩ : ∃ M, M = le ((sbody s).take 8) := ⟨_, rfl⟩
        rw [← hM] at hsmall Htk
        by_cases hbig : 9223372036854775807 < M
        · have hno : sanchor s = (0, []) := sanchor_short (.inr ⟨_, hop, .inr (by omega)⟩)
          have Hno := Hid.mk hno
          have hbig' : 9223372036854775807 < (M : Int) := by omega
          clear hno hs hop heq hbb hM
          generalize slen s = N at *
          have c8 : (8 : Int) ≤ (N : Int) := by omega
          go_enter Try.func98, Try.ntmps98
          go_wp2_with fail
          refine h1.mono ?_
          rintro e w1 ⟨k, rfl, hk, hb1⟩
          have hk' := hk (by omega)
          subst hk'
          have HB1 := Hid.mk hb1
          have ht := Htk.out w1 hb1
          clear hb1 h1 Htk hk
          go_wp2_with fail
          refine ht.mono ?_
          rintro e w' ⟨rfl, hw⟩
          have hw' := hw.symm
          subst hw'
          clear hw ht
          go_wp2
          go_ret2
          exact ⟨_, by rw [Hno.out]; rfl, by rw [Hno.out]; exact LstIn.nil _ _, HB1.out⟩
        · have hyes : sanchor s = (M, (sbody s).drop 8) := by rw [hM]; exact sanchor_good hop (by omega) (by omega)
          have Hyes := Hid.mk hyes
          have hbig' : ¬ 9223372036854775807 < (M : Int) := by omega
          have hdl : ((sbody s).drop 8).length = slen s - 8 := by simp; omega
          have hfin : ∀ (w1 : World) (k : Nat), Below w.heap.size w w1 → (8 < slen s → k = o + 7 + 8) → LstIn w1 g (.slice (some ⟨g, k, none⟩) (slen s - 8) (slen s - 8)) ((sbody s).drop 8) := by
            intro w1 k h hk
            refine ⟨some ⟨g, k, none⟩, slen s - 8, by rw [hdl], ?_, by omega, fun x hx => by cases hx; rfl⟩
            rw [hdl]
            by_cases h9 : 8 < slen s
            · rw [hk h9]
              have := src_part (hsb w1 h) (i := 8) (m := slen s - 8) (by omega)
              rwa [List.take_of_length_le (by omega)] at this
            · exact ⟨by omega, (fun e => by cases e), fun x hx i hi => by omega⟩
          have Hfin := Hid.mk hfin
          clear hyes hs hop heq hbb hM hfin hsb hdl ht8 hbl
          generalize slen s = N at *
          have c8 : (8 : Int) ≤ (N : Int) := by omega
          by_cases h9 : N = 8
          · subst h9
            go_enter Try.func98, Try.ntmps98
            go_wp2_with fail
            refine h1.mono ?_
            rintro e w1 ⟨k, rfl, hk, hb1⟩
            have hk' := hk (by omega)
            subst hk'
            have HB1 := Hid.mk hb1
            have ht := Htk.out w1 hb1
            clear hb1 h1 Htk hk
            go_wp2_with fail
            refine ht.mono ?_
            rintro e w' ⟨rfl, hw⟩
            have hw' := hw.symm
            subst hw'
            clear hw ht
            go_wp2
            go_quiet (fail)
            go_wp2
            go_ret2
            exact ⟨_, by rw [Hyes.out]; rfl, by rw [Hyes.out]; exact Hfin.out _ _ (below_drewN HB1.out _) (fun h => by omega), below_drewN HB1.out _⟩
          · have h9' : ¬ (N : Int) = 8 := by omega
            have h9'' : (8 : Int) < (N : Int) := by omega
            go_enter Try.func98, Try.ntmps98
            go_wp2_with fail
            refine h1.mono ?_
            rintro e w1 ⟨k, rfl, hk, hb1⟩
            have hk' := hk (by omega)
            subst hk'
            have HB1 := Hid.mk hb1
            have ht := Htk.out w1 hb1
            clear hb1 h1 Htk hk
            go_wp2_with fail
            refine ht.mono ?_
            rintro e w' ⟨rfl, hw⟩
            have hw' := hw.symm
            subst hw'
            clear hw ht
            go_wp2
            go_quiet (fail)
            go_wp2
            go_ret2
            exact ⟨_, by rw [Hyes.out]; rfl, by rw [Hyes.out]; exact Hfin.out _ _ (below_drewN HB1.out _) (fun h => by omega), below_drewN HB1.out _⟩
    · have hno : sanchor s = (0, []) := sanchor_short (.inl (by unfold sopen; rw [if_neg (fun h => heq h.2.2)]))
      have Hno := Hid.mk hno
      rw [decide_eq_false heq] at h1
      clear hno hs heq hbb
      generalize slen s = N at *
      go_enter Try.func98, Try.ntmps98
      go_wp2_with fail
      refine h1.mono ?_
      rintro e w1 ⟨k, rfl, _, hb1⟩
      have HB1 := Hid.mk hb1
      clear hb1 h1
      go_wp2
      go_ret2
      exact ⟨_, by rw [Hno.out]; rfl, by rw [Hno.out]; exact LstIn.nil _ _, HB1.out⟩
end Go.Proofs.Ytkgnkdnipcacgaa
end

section
namespace Go.Proofs.Ytkgnkdnipcacgaa
open Go.RowKit

theorem snewest_eq {l r : List Int} (hl : l.length = 512) (hr : r.length = 512) : snewest l r = if (sanchor l).1 = 0 ∧ (sanchor r).1 = 0 then (0, 0, [], 30) else if (sanchor l).1 < (sanchor r).1 then (1, (sanchor r).1, (sanchor r).2, 0) else (0, (sanchor l).1, (sanchor l).2, 0) := by
  unfold snewest; rw [if_neg (by omega)]
theorem sanchor_small (s : List Int) : (sanchor s).1 ≤ 9223372036854775807 := by
  unfold sanchor
  split
  · simp
  · split
    · next h => simp only; omega
    · simp

/-- What newest holds behind k rounds. -/
def nst (l r : List Int) : Nat → Nat × Nat × List Int
  | 0 => (0, 0, [])
  | 1 => if 0 < (sanchor l).1 then (0, (sanchor l).1, (sanchor l).2) else (0, 0, [])
  | _ + 2 => if (if 0 < (sanchor l).1 then (0, (sanchor l).1, (sanchor l).2) else (0, 0, ([] : List Int))).2.1 < (sanchor r).1 then (1, (sanchor r).1, (sanchor r).2) else if 0 < (sanchor l).1 then (0, (sanchor l).1, (sanchor l).2) else (0, 0, [])
theorem nst_two {l r : List Int} (hl : l.length = 512) (hr : r.length = 512) : nst l r 2 = ((snewest l r).1, (snewest l r).2.1, (snewest l r).2.2.1) := by
  rw [snewest_eq hl hr]
  unfold nst
  by_cases h1 : 0 < (sanchor l).1
  · simp only [if_pos h1]
    rw [if_neg (show ¬ ((sanchor l).1 = 0 ∧ (sanchor r).1 = 0) by omega)]
    by_cases h2 : (sanchor l).1 < (sanchor r).1
    · simp only [if_pos h2]
    · simp only [if_neg h2]
  · simp only [if_neg h1]
    by_cases h2 : 0 < (sanchor r).1
    · simp only [if_pos h2]
      rw [if_neg (show ¬ ((sanchor l).1 = 0 ∧ (sanchor r).1 = 0) by omega), if_pos (show (sanchor l).1 < (sanchor r).1 by omega)]
    · simp only [if_neg h2]
      rw [if_pos (show (sanchor l).1 = 0 ∧ (sanchor r).1 = 0 by omega)]
theorem LstIn.agree {w w' : World} {g : Nat} {v : Value} {l : List Int} (h : LstIn w g v l) (hb : w'.heap[g]? = w.heap[g]?) : LstIn w' g v l := by
  obtain ⟨a, c, rfl, hs, hc, hx⟩ := h
  refine ⟨a, c, rfl, ⟨hs.1, hs.2.1, fun x e i hi => ?_⟩, hc, hx⟩
  have hbl := hx x e
  rw [World.cell?_of_block (w := w) (by rw [blockOf_add, hbl]; exact hb)]
  exact hs.2.2 x e i hi
theorem set3 {w : World} {g : Nat} {T : TypeId} {a b c x y z : Value} (h : w.heap[g]? = some (.cells #[a, b, c] T (0, 0))) :
    (((w.setCell ⟨g, 0, none⟩ x).setCell ⟨g, 1, none⟩ y).setCell ⟨g, 2, none⟩ z).heap[g]? = some (.cells #[x, y, z] T (0, 0)) := by
  rw [heap_setCell_same _ _ _ _ _ _ (heap_setCell_same _ _ _ _ _ _ (heap_setCell_same _ _ _ _ _ _ h))]
  rfl
theorem range3 {w : World} {g : Nat} {T : TypeId} {x y z : Value} (h : w.heap[g]? = some (.cells #[x, y, z] T (0, 0))) : w.rangeAt g 0 [x, y, z] := by
  intro j v hv
  rw [Nat.zero_add]
  exact cell_of_block h (by simpa using hv)
theorem infoAnchor : (Try.prog.info? 129).map (·.size) = some 3 := by kernel_rfl
theorem keeps3 (w : World) (g : Nat) (x y z : Value) : Keeps (fun j => j = g) w (((w.setCell ⟨g, 0, none⟩ x).setCell ⟨g, 1, none⟩ y).setCell ⟨g, 2, none⟩ z) :=
  ((Keeps.setCell (F := fun j => j = g) (p := ⟨g, 0, none⟩) w rfl x).trans (Keeps.setCell (F := fun j => j = g) (p := ⟨g, 1, none⟩) _ rfl y) (fun _ h => .inl h)).trans (Keeps.setCell (F := fun j => j = g) (p := ⟨g, 2, none⟩) _ rfl z) (fun _ h => .inl h)
/-- What newest's loop keeps. -/
def Nw (w : World) (g : Nat) (l r : List Int) (k : Nat) (wr : World) : Prop :=
  ∃ v, wr.heap[w.heap.size + 1]? = some (.cells #[.int .i64 (((nst l r k).1 : Nat) : Int), .int .i64 (((nst l r k).2.1 : Nat) : Int), v] 129 (0, 0)) ∧ LstIn wr g v (nst l r k).2.2 ∧
    (∃ x y z, wr.heap[w.heap.size]? = some (.cells #[x, y, z] 129 (0, 0))) ∧ Below w.heap.size w wr

set_option maxRecDepth 20000 in
set_option maxHeartbeats 4000000 in
theorem newest_any (g : Nat) (l r : List Int) (w : World) (hs : Src w (some ⟨g, 0, none⟩) 512 l) (hs2 : Src w (some ⟨g, 512, none⟩) 512 r) (hl : Bytes l) (hr : Bytes r) :
    Calls Try.prog 90 #[.pointer (some ⟨g, 0, none⟩)] w fun e w' => ∃ v, e = .returned (.agg #[.int .i64 (((snewest l r).1 : Nat) : Int), .int .i64 (((snewest l r).2.1 : Nat) : Int), v]) ∧ LstIn w' g v (snewest l r).2.2.1 ∧ Below w.heap.size w w' := by
  have hll := hs.1
  have hrl := hs2.1
  have sl := sanchor_small l
  have sr := sanchor_small r
  have h1 := Hid.mk (fun w' (hb : Below w.heap.size w w') => anchor_any g 0 l w' (hs.later hb) hl)
  have h2 := Hid.mk (fun w' (hb : Below w.heap.size w w') => anchor_any g 512 r w' (hs2.later hb) hr)
  have hg : g < w.heap.size := hs.old _ rfl (by omega)
  have Hfin := Hid.mk (nst_two hll hrl)
  clear hs hs2
  go_enter Try.func90, Try.ntmps90
  go_wp2
  go_loopw [8] (fun i wr => ∃ k : Nat, k ≤ 2 ∧ i = .int .i64 k ∧ Nw w g l r k wr) (fun i _ => 2 - (intOf i).toNat)
  case atStart => exact ⟨0, Nat.zero_le _, rfl, .slice none 0 0, heap_alloc2_new _ _ _, LstIn.nil _ _, ⟨_, _, _, heap_alloc2_old _ _ _⟩, ((Below.refl _ w).alloc (Nat.le_refl _) _).alloc (by simp) _⟩
  case round =>
    obtain ⟨k, hk, rfl, hN⟩ := hrel
    obtain rfl | rfl | rfl : k = 0 ∨ k = 1 ∨ k = 2 := by omega
    · obtain ⟨v, hblk, hlst, hres, hbr⟩ := hN
      have k1 := h1.out wr hbr
      have HN := Hid.mk (And.intro hblk (And.intro hlst (And.intro hres hbr)))
      clear hblk hlst hres hbr
      generalize hns : nst l r 0 = S at *
      go_wp2_with fail
      refine k1.mono ?_
      rintro e w1 ⟨v1, rfl, hl1, hb1⟩
      obtain ⟨a1, c1, hv1, hq1⟩ := hl1
      subst hv1
      have hl1 : LstIn w1 g _ _ := ⟨a1, c1, rfl, hq1⟩
      clear hq1
      obtain ⟨hblk, hlst, ⟨rx, ry, rz, hres⟩, hbr⟩ := HN.out
      have hblk1 := (hb1.block _ (Array.getElem?_eq_some_iff.1 hblk).1).trans hblk
      have hres1 := (hb1.block _ (Array.getElem?_eq_some_iff.1 hres).1).trans hres
      have hB1 := hbr.trans (hb1.mono hbr.size)
      have hlst1 := hlst.later hb1
      have hc0 := cell_of_block hblk1 (j := 0) rfl
      have hc1 := cell_of_block hblk1 (j := 1) rfl
      have hc2 := cell_of_block hblk1 (j := 2) rfl
      have hf0 := frozen_of_block hblk1 0
      have hf1 := frozen_of_block hblk1 1
      have hf2 := frozen_of_block hblk1 2
      have hz := hB1.size
      by_cases h0 : S.2.1 < (sanchor l).1
      · have h0' : ((S.2.1 : Nat) : Int) < (((sanchor l).1 : Nat) : Int) := by omega
        have hn : nst l r 1 = (0, (sanchor l).1, (sanchor l).2) := by
          rw [← hns] at h0
          have h0 : 0 < (sanchor l).1 := h0
          unfold nst; rw [if_pos h0]
        have hset := set3 (x := .int .i64 0) (y := .int .i64 (((sanchor l).1 : Nat) : Int)) (z := .slice a1 (sanchor l).2.length c1) hblk1
        have hkp := keeps3 w1 (w.heap.size + 1) (.int .i64 0) (.int .i64 (((sanchor l).1 : Nat) : Int)) (.slice a1 (sanchor l).2.length c1)
        have hNw : Nw w g l r 1 (((w1.setCell ⟨w.heap.size + 1, 0, none⟩ (.int .i64 0)).setCell ⟨w.heap.size + 1, 1, none⟩ (.int .i64 (((sanchor l).1 : Nat) : Int))).setCell ⟨w.heap.size + 1, 2, none⟩ (.slice a1 (sanchor l).2.length c1)) := by
          refine ⟨_, by rw [hn]; exact hset, by rw [hn]; exact hl1.agree (hkp.block g (by omega) (by omega)), ⟨rx, ry, rz, (hkp.block _ (Array.getElem?_eq_some_iff.1 hres1).1 (by omega)).trans hres1⟩, hB1.trans (hkp.below (fun j hj => by omega) hB1.size)⟩
        have HNw := Hid.mk hNw
        generalize (sanchor l).1 = A at *
        generalize (sanchor l).2.length = D at *
        clear k1 HN hblk hlst hres hbr hblk1 hres1 hB1 hlst1 hset hkp hNw hl1 hb1 hn
        go_wp2
        go_roundw
        case rel => exact ⟨1, by omega, by go_num, HNw.out⟩
        case measure => simp [intOf]
      · have h0' : ¬ ((S.2.1 : Nat) : Int) < (((sanchor l).1 : Nat) : Int) := by omega
        have hn : nst l r 1 = S := by
          rw [← hns] at h0 ⊢
          have h0 : ¬ 0 < (sanchor l).1 := h0
          unfold nst; rw [if_neg h0]
        have hNw : Nw w g l r 1 w1 := ⟨v, by rw [hn]; exact hblk1, by rw [hn]; exact hlst1, ⟨rx, ry, rz, hres1⟩, hB1⟩
        have HNw := Hid.mk hNw
        generalize (sanchor l).1 = A at *
        generalize (sanchor l).2.length = D at *
        clear k1 HN hblk hlst hres hbr hblk1 hres1 hB1 hlst1 hNw hl1 hb1 hn
        go_wp2
        go_roundw
        case rel => exact ⟨1, by omega, by go_num, HNw.out⟩
        case measure => simp [intOf]
    · obtain ⟨v, hblk, hlst, hres, hbr⟩ := hN
      have k1 := h2.out wr hbr
      have HN := Hid.mk (And.intro hblk (And.intro hlst (And.intro hres hbr)))
      clear hblk hlst hres hbr
      generalize hns : nst l r 1 = S at *
      go_wp2_with fail
      refine k1.mono ?_
      rintro e w1 ⟨v1, rfl, hl1, hb1⟩
      obtain ⟨a1, c1, hv1, hq1⟩ := hl1
      subst hv1
      have hl1 : LstIn w1 g _ _ := ⟨a1, c1, rfl, hq1⟩
      clear hq1
      obtain ⟨hblk, hlst, ⟨rx, ry, rz, hres⟩, hbr⟩ := HN.out
      have hblk1 := (hb1.block _ (Array.getElem?_eq_some_iff.1 hblk).1).trans hblk
      have hres1 := (hb1.block _ (Array.getElem?_eq_some_iff.1 hres).1).trans hres
      have hB1 := hbr.trans (hb1.mono hbr.size)
      have hlst1 := hlst.later hb1
      have hc0 := cell_of_block hblk1 (j := 0) rfl
      have hc1 := cell_of_block hblk1 (j := 1) rfl
      have hc2 := cell_of_block hblk1 (j := 2) rfl
      have hf0 := frozen_of_block hblk1 0
      have hf1 := frozen_of_block hblk1 1
      have hf2 := frozen_of_block hblk1 2
      have hz := hB1.size
      by_cases h0 : S.2.1 < (sanchor r).1
      · have h0' : ((S.2.1 : Nat) : Int) < (((sanchor r).1 : Nat) : Int) := by omega
        have hn : nst l r 2 = (1, (sanchor r).1, (sanchor r).2) := by
          rw [← hns] at h0
          unfold nst at h0 ⊢; rw [if_pos h0]
        have hset := set3 (x := .int .i64 1) (y := .int .i64 (((sanchor r).1 : Nat) : Int)) (z := .slice a1 (sanchor r).2.length c1) hblk1
        have hkp := keeps3 w1 (w.heap.size + 1) (.int .i64 1) (.int .i64 (((sanchor r).1 : Nat) : Int)) (.slice a1 (sanchor r).2.length c1)
        have hNw : Nw w g l r 2 (((w1.setCell ⟨w.heap.size + 1, 0, none⟩ (.int .i64 1)).setCell ⟨w.heap.size + 1, 1, none⟩ (.int .i64 (((sanchor r).1 : Nat) : Int))).setCell ⟨w.heap.size + 1, 2, none⟩ (.slice a1 (sanchor r).2.length c1)) := by
          refine ⟨_, by rw [hn]; exact hset, by rw [hn]; exact hl1.agree (hkp.block g (by omega) (by omega)), ⟨rx, ry, rz, (hkp.block _ (Array.getElem?_eq_some_iff.1 hres1).1 (by omega)).trans hres1⟩, hB1.trans (hkp.below (fun j hj => by omega) hB1.size)⟩
        have HNw := Hid.mk hNw
        generalize (sanchor r).1 = A at *
        generalize (sanchor r).2.length = D at *
        clear k1 HN hblk hlst hres hbr hblk1 hres1 hB1 hlst1 hset hkp hNw hl1 hb1 hn
        go_wp2
        go_roundw
        case rel => exact ⟨2, by omega, by go_num, HNw.out⟩
        case measure => simp [intOf]
      · have h0' : ¬ ((S.2.1 : Nat) : Int) < (((sanchor r).1 : Nat) : Int) := by omega
        have hn : nst l r 2 = S := by
          rw [← hns] at h0 ⊢
          unfold nst at h0 ⊢; rw [if_neg h0]
        have hNw : Nw w g l r 2 w1 := ⟨v, by rw [hn]; exact hblk1, by rw [hn]; exact hlst1, ⟨rx, ry, rz, hres1⟩, hB1⟩
        have HNw := Hid.mk hNw
        generalize (sanchor r).1 = A at *
        generalize (sanchor r).2.length = D at *
        clear k1 HN hblk hlst hres hbr hblk1 hres1 hB1 hlst1 hNw hl1 hb1 hn
        go_wp2
        go_roundw
        case rel => exact ⟨2, by omega, by go_num, HNw.out⟩
        case measure => simp [intOf]
    · obtain ⟨v, hblk, hlst, ⟨rx, ry, rz, hres⟩, hbr⟩ := hN
      rw [Hfin.out] at hblk hlst
      obtain ⟨a1, c1, hv1, hq1⟩ := hlst
      subst hv1
      have hlst : LstIn wr g _ _ := ⟨a1, c1, rfl, hq1⟩
      clear hq1
      dsimp only at hblk hlst
      generalize hD : (snewest l r).2.2.1.length = D at *
      have hc0 := cell_of_block hblk (j := 0) rfl
      have hc1 := cell_of_block hblk (j := 1) rfl
      have hc2 := cell_of_block hblk (j := 2) rfl
      have hd0 := cell_of_block hres (j := 0) rfl
      have hd1 := cell_of_block hres (j := 1) rfl
      have hd2 := cell_of_block hres (j := 2) rfl
      have hf0 := frozen_of_block hres 0
      have hf1 := frozen_of_block hres 1
      have hf2 := frozen_of_block hres 2
      have hset := set3 (x := .int .i64 (((snewest l r).1 : Nat) : Int)) (y := .int .i64 (((snewest l r).2.1 : Nat) : Int)) (z := .slice a1 D c1) hres
      have hkp := keeps3 wr w.heap.size (.int .i64 (((snewest l r).1 : Nat) : Int)) (.int .i64 (((snewest l r).2.1 : Nat) : Int)) (.slice a1 D c1)
      have hz := hbr.size
      have hl2 := hlst.agree (hkp.block g (by omega) (by omega))
      have hB2 := hbr.trans (hkp.below (fun j hj => by omega) hbr.size)
      have HH := Hid.mk (And.intro hl2 hB2)
      have e0 := cell_of_block hset (j := 0) rfl
      have e1 := cell_of_block hset (j := 1) rfl
      have e2 := cell_of_block hset (j := 2) rfl
      clear hblk hlst hres hbr hkp hl2 hB2 Hfin h1 h2
      have hr3 := Hid.mk (range3 hset)
      obtain ⟨A, hA⟩ : ∃ A, A = (snewest l r).1 := ⟨_, rfl⟩
      obtain ⟨B, hB⟩ : ∃ B, B = (snewest l r).2.1 := ⟨_, rfl⟩
      rw [← hA] at hc0 hset HH e0 e1 e2 hr3
      rw [← hB] at hc1 hset HH e0 e1 e2 hr3
      have HA := Hid.mk hA
      have HB := Hid.mk hB
      have HD := Hid.mk hD
      clear hA hB hD hset
      go_wp2
      exact bodyPost_ret (results_cell_mid (P := Try.prog) rfl _ _ w.heap.size _ _ rfl hr3.out Try.underlying129 rfl infoAnchor) rfl ⟨.slice a1 D c1, by rw [← HA.out, ← HB.out], HH.out⟩
end Go.Proofs.Ytkgnkdnipcacgaa
end

section
namespace Go.Proofs.Ytkgnkdnipcacgaa
open Go.RowKit

theorem results_tmp4 {P : Program} {fn : Func} {p q r s : Tmp} (h : fn.results = #[.tmp p, .tmp q, .tmp r, .tmp s]) (tmps : Array Value) (w : World) :
    (results fn tmps).run P w = .ok (.tuple #[tmps.getD p undef, tmps.getD q undef, tmps.getD r undef, tmps.getD s undef]) w := by
  simp [results, h]
theorem infoPairL {l r : List Int} (h : l.length = 512) (h2 : r.length = 512) : (Try.prog.info? 125).map (·.size) = some (bs (l ++ r)).length := by
  rw [sizePair, bs, List.length_map, List.length_append, h, h2]
theorem pair_srcs {w : World} {T : TypeId} {g : Nat} {l r : List Int} (h : Blk w T g (l ++ r)) (hl : l.length = 512) (hr : r.length = 512) : Src w (some ⟨g, 0, none⟩) 512 l ∧ Src w (some ⟨g, 512, none⟩) 512 r := by
  have hll : (l ++ r).length = 1024 := by simp; omega
  have h1 := h.src (o := 0) (n := 512) (by omega)
  have h2 := h.src (o := 512) (n := 512) (by omega)
  rw [List.drop_zero, List.take_left' hl] at h1
  rw [List.drop_left' hl, List.take_of_length_le (by omega)] at h2
  exact ⟨h1, h2⟩
theorem secOf_bytes {l : List Int} (h : Bytes l) : Bytes (secOf l) := by unfold secOf; split; exact h; exact Bytes.zeros 512

set_option maxRecDepth 20000 in
set_option maxHeartbeats 4000000 in
theorem pnewest_any (a : Option Addr) (n c : Nat) (l : List Int) (a2 : Option Addr) (m d : Nat) (r : List Int) (w : World) (hs : Src w a n l) (hs2 : Src w a2 m r) (hl : Bytes l) (hr : Bytes r) :
    Calls Try.prog 74 #[.slice a n c, .slice a2 m d] w fun e w' => ∃ v, e = .returned (.tuple #[.int .i64 (((snewest l r).1 : Nat) : Int), .int .i64 (((snewest l r).2.1 : Nat) : Int), v, .int .i64 (((snewest l r).2.2.2 : Nat) : Int)]) ∧ Lst w' w.heap.size v (snewest l r).2.2.1 ∧ Below w.heap.size w w' := by
  have hz := zeroPair
  have h1 := pairOf_any a n c l a2 m d r w hs hs2
  have hln := hs.1
  have hrn := hs2.1
  have hinfo := infoPairL (secOf_len l) (secOf_len r)
  have hone := bs_one (secOf l ++ secOf r)
  have hall := all_oneCell_toArray hone
  have hFl : (bs (secOf l ++ secOf r)).length = 1024 := by rw [bs, List.length_map, List.length_append, secOf_len, secOf_len]
  obtain ⟨F, hF⟩ : ∃ F, F = bs (secOf l ++ secOf r) := ⟨_, rfl⟩
  rw [← hF] at h1 hinfo hall hFl
  have HF := Hid.mk hF
  clear hone hF hs hs2
  go_enter Try.func74, Try.ntmps74
  go_wp2_with fail
  refine h1.mono ?_
  rintro e w1 ⟨rfl, hb1⟩
  have hw1 : (w1.alloc (.cells zpair 125)).heap[w1.heap.size]? = some (.cells zpair 125 (0, 0)) := heap_alloc_new _ _
  have hth := there_of hw1 zpair_size
  rw [← hFl] at hth
  have hB1 : Below w.heap.size w (w1.alloc (.cells zpair 125)) := hb1.alloc hb1.size _
  have hsz := hb1.size
  have hB2 := hB1.trans ((Keeps.setCells (F := fun j => j = w1.heap.size) rfl F 0 _).below (fun j hj => by omega) hB1.size)
  have hblk := blk_stored (l := secOf l ++ secOf r) hw1 (by rw [zpair_size, List.length_append, secOf_len, secOf_len])
  rw [← HF.out] at hblk
  obtain ⟨w2, hw2⟩ : ∃ w2, w2 = (w1.alloc (.cells zpair 125)).setCells w1.heap.size 0 F := ⟨_, rfl⟩
  rw [← hw2] at hB2 hblk
  have HB2 := Hid.mk hB2
  have Hblk := Hid.mk hblk
  have HW2 := Hid.mk hw2
  clear h1 hw1 hB1 hb1 hB2 hblk hw2
  by_cases hwh : n = 512 ∧ m = 512
  · obtain ⟨rfl, rfl⟩ := hwh
    have el := secOf_self hln
    have er := secOf_self hrn
    rw [el, er] at Hblk
    obtain ⟨s1, s2⟩ := pair_srcs Hblk.out hln hrn
    have k1 := newest_any w1.heap.size l r w2 s1 s2 hl hr
    have hse := snewest_eq hln hrn
    have hsm : (snewest l r).2.1 ≤ 9223372036854775807 := by
      have sl := sanchor_small l
      have sr := sanchor_small r
      rw [hse]; split
      · simp
      · split <;> simp only <;> omega
    have herr : ((snewest l r).2.1 = 0 ∧ (snewest l r).1 = 0 ∧ (snewest l r).2.2.1 = [] ∧ (snewest l r).2.2.2 = 30) ∨ (0 < (snewest l r).2.1 ∧ (snewest l r).2.2.2 = 0) := by
      rw [hse]
      by_cases q : (sanchor l).1 = 0 ∧ (sanchor r).1 = 0
      · rw [if_pos q]; exact .inl ⟨rfl, rfl, rfl, rfl⟩
      · rw [if_neg q]
        by_cases q2 : (sanchor l).1 < (sanchor r).1
        · rw [if_pos q2]; exact .inr ⟨by simp only; omega, rfl⟩
        · rw [if_neg q2]; exact .inr ⟨by simp only; omega, rfl⟩
    clear hse Hblk s1 s2 el er
    go_wp2_with (refine wpList_store_mid rfl 125 _ _ rfl w1.heap.size 0 F.toArray rfl rfl ?h1 ?h2 hall ?_)
    case h1 => simpa using hth
    case h2 => simpa using hinfo
    rw [← HW2.out]
    refine k1.mono ?_
    rintro e w3 ⟨v, rfl, hlst, hb3⟩
    obtain ⟨va, vc, hv, hq⟩ := hlst
    subst hv
    have hlst : LstIn w3 w1.heap.size _ _ := ⟨va, vc, rfl, hq⟩
    have hB3 := HB2.out.trans (hb3.mono HB2.out.size)
    have HL := Hid.mk (fun w' (h : Below w3.heap.size w3 w') => And.intro ((hlst.lst hsz).later h) (hB3.trans (h.mono hB3.size)))
    obtain ⟨A, hA⟩ : ∃ A, A = (snewest l r).1 := ⟨_, rfl⟩
    obtain ⟨B, hB⟩ : ∃ B, B = (snewest l r).2.1 := ⟨_, rfl⟩
    obtain ⟨D, hD⟩ : ∃ D, D = (snewest l r).2.2.1 := ⟨_, rfl⟩
    obtain ⟨E, hE⟩ : ∃ E, E = (snewest l r).2.2.2 := ⟨_, rfl⟩
    rw [← hA, ← hB, ← hD, ← hE] at herr
    rw [← hB] at hsm
    rw [← hD] at HL
    rw [← hA, ← hB, ← hD]
    have HE := Hid.mk (And.intro hA (And.intro hB (And.intro hD hE)))
    clear k1 hq hlst hb3 HW2 hth hinfo hall hB3 HB2 hA hB hD hE
    rcases herr with ⟨rfl, rfl, rfl, rfl⟩ | ⟨hB0, rfl⟩
    · go_wp2
      exact bodyPost_ret (results_tmp4 (P := Try.prog) rfl _ _) rfl ⟨.slice none 0 0, by rw [← HE.out.1, ← HE.out.2.1, ← HE.out.2.2.2]; rfl, by rw [← HE.out.2.2.1]; exact Lst.nil _ _, (HL.out _ ((Below.refl _ w3).alloc (Nat.le_refl _) _)).2⟩
    · have hB0' : ((B : Int) == 0) = false := by rw [beq_eq_false_iff_ne]; omega
      generalize hDL : D.length = DL at *
      have HDL := Hid.mk hDL
      clear hDL
      go_wp2
      go_quiet (fail)
      go_wp2
      exact bodyPost_ret (results_tmp4 (P := Try.prog) rfl _ _) rfl ⟨.slice va DL vc, by rw [← HE.out.1, ← HE.out.2.1, ← HE.out.2.2.2]; rfl, by rw [← HE.out.2.2.1]; exact (HL.out _ (below_drewN ((Below.refl _ w3).alloc (Nat.le_refl _) _) _)).1, (HL.out _ (below_drewN ((Below.refl _ w3).alloc (Nat.le_refl _) _) _)).2⟩
  · have e1 : snewest l r = (0, 0, [], 2) := by unfold snewest; rw [if_pos (by omega)]
    have hbb : (decide (n = 512) && decide (m = 512)) = false := by
      rw [← Bool.decide_and, decide_eq_false hwh]
    have He1 := Hid.mk e1
    rw [hbb]
    clear e1 hbb hwh
    go_wp2_with (refine wpList_store_mid rfl 125 _ _ rfl w1.heap.size 0 F.toArray rfl rfl ?h1 ?h2 hall ?_)
    case h1 => simpa using hth
    case h2 => simpa using hinfo
    rw [← HW2.out]
    exact bodyPost_ret (results_tmp4 (P := Try.prog) rfl _ _) rfl ⟨.slice none 0 0, by rw [He1.out]; rfl, by rw [He1.out]; exact Lst.nil _ _, HB2.out⟩
end Go.Proofs.Ytkgnkdnipcacgaa
end

section
namespace Go.Proofs.Ytkgnkdnipcacgaa
open Go.RowKit

theorem le_top {b : List Int} (hb : Bytes b) (h : 8 ≤ b.length) : le (b.take 8) < 9223372036854775808 ↔ b.getD 7 0 ≤ 127 := by
  have e := le_take_succ (l := b) (k := 7) (by omega)
  have hlt : le (b.take 7) < 2 ^ 56 := by
    have := le_lt (hb.take 7)
    have e2 : (b.take 7).length = 7 := by rw [List.length_take]; omega
    rwa [e2] at this
  have h7 := hb.getD 7
  rw [e]
  constructor <;> intro h <;> omega
theorem le_drop_step {B : List Int} (_hb : Bytes B) {j : Nat} (hj : j < B.length) : le (B.drop j) = (B.getD j 0).toNat + 256 * le (B.drop (j + 1)) := by
  rw [List.drop_eq_getElem_cons hj]
  simp [le, List.getD, hj]
theorem le_drop_le {B : List Int} (hb : Bytes B) : ∀ j, le (B.drop j) ≤ le B
  | 0 => Nat.le_refl _
  | j + 1 => by
    refine Nat.le_trans ?_ (le_drop_le hb j)
    by_cases hj : j < B.length
    · rw [le_drop_step hb hj]; omega
    · rw [List.drop_eq_nil_of_le (by omega), List.drop_eq_nil_of_le (by omega)]; exact Nat.le_refl _

end Go.Proofs.Ytkgnkdnipcacgaa
end

section
namespace Go.Proofs.Ytkgnkdnipcacgaa
open Go.RowKit

theorem snewest_len (l r : List Int) : (snewest l r).2.2.1.length ≤ 512 := by
  have h : ∀ s : List Int, s.length = 512 → (sanchor s).2.length ≤ 512 := by
    intro s hs
    unfold sanchor
    cases h : sopen s with
    | none => simp
    | some b =>
      have := sopen_len h hs
      simp only
      split
      · simp only [List.length_drop]; omega
      · simp
  unfold snewest
  split
  · simp
  · next hh =>
    split
    · simp
    · split
      · exact h r (by omega)
      · exact h l (by omega)

end Go.Proofs.Ytkgnkdnipcacgaa
end

section
namespace Go.Proofs.Ytkgnkdnipcacgaa
open Go.RowKit

theorem i64_and255 (n : Int) : ∃ y : Nat, bits .and .i64 n 255 = (y : Int) ∧ y < 256 := by
  have eb : (BitVec.ofInt 64 (255 : Int)).toNat = 255 := by decide
  have h : bits .and .i64 n 255 = IntKind.i64.wrap ((BitVec.ofInt 64 n &&& BitVec.ofInt 64 (255 : Int)).toNat : Int) := rfl
  rw [BitVec.toNat_and, eb] at h
  have hle : (BitVec.ofInt 64 n).toNat &&& 255 ≤ 255 := Nat.and_le_right
  generalize (BitVec.ofInt 64 n).toNat &&& 255 = z at *
  refine ⟨z, ?_, by omega⟩
  rw [h, IntKind.wrap_i64]
  omega

end Go.Proofs.Ytkgnkdnipcacgaa
end

section
namespace Go.Proofs.Ytkgnkdnipcacgaa
open Go.RowKit

theorem first_pair (t : Int) (ht : t ≤ 2) : snewest (sform t [7, 0, 0, 0, 0, 0, 0, 0]) (sform t [9, 0, 0, 0, 0, 0, 0, 0, 65]) = (1, 9, [65], 0) := by
  have e1 : [7, 0, 0, 0, 0, 0, 0, 0] = bytes8 7 ++ [] := by rw [bytes8_eq]; rfl
  have e2 : [9, 0, 0, 0, 0, 0, 0, 0, 65] = bytes8 9 ++ [65] := by rw [bytes8_eq]; rfl
  have l1 : (sform t [7, 0, 0, 0, 0, 0, 0, 0]).length = 512 := sform_len (by simp)
  have l2 : (sform t [9, 0, 0, 0, 0, 0, 0, 0, 65]).length = 512 := sform_len (by simp)
  have a1 : sanchor (sform t [7, 0, 0, 0, 0, 0, 0, 0]) = (7, []) := by rw [e1]; exact sanchor_form ht (by omega) (by simp)
  have a2 : sanchor (sform t [9, 0, 0, 0, 0, 0, 0, 0, 65]) = (9, [65]) := by rw [e2]; exact sanchor_form ht (by omega) (by simp)
  rw [snewest_eq l1 l2, a1, a2, if_neg (by simp), if_pos (by simp)]
theorem Blk.srcAll {w : World} {T : TypeId} {g : Nat} {l : List Int} (h : Blk w T g l) : Src w (some ⟨g, 0, none⟩) l.length l := by
  have := h.src (o := 0) (n := l.length) (by omega)
  simpa using this
theorem bytes_seven : Bytes [7, 0, 0, 0, 0, 0, 0, 0] := by intro x hx; simp at hx; omega
theorem bytes_nine : Bytes [9, 0, 0, 0, 0, 0, 0, 0, 65] := by intro x hx; simp at hx; omega

set_option maxRecDepth 20000 in
set_option maxHeartbeats 4000000 in
theorem first_any (w : World) : Calls Try.prog 43 #[] w fun e w' => e = .returned (.bool true) ∧ Below w.heap.size w w' := by
  have h1 := lsector_any none 0 0 [] w (by omega) ⟨rfl, fun _ => rfl, fun x hx => by cases hx⟩
  go_enter Try.func43, Try.ntmps43
  go_wp2_with fail
  refine h1.mono ?_
  rintro e w1 ⟨v1, rfl, ho1, hb1⟩
  obtain ⟨g1, c1, rfl, _, hr1⟩ := ho1.full (by rw [sec_len]; omega)
  have hs1 := hr1.src
  rw [sec_len] at hs1 ⊢
  have hblk : Blk (w1.alloc (.cells #[.int .u8 7, .int .u8 0, .int .u8 0, .int .u8 0, .int .u8 0, .int .u8 0, .int .u8 0, .int .u8 0] 5)) 5 w1.heap.size [7, 0, 0, 0, 0, 0, 0, 0] := heap_alloc_new _ _
  have hb2 : Below w1.heap.size w1 (w1.alloc (.cells #[.int .u8 7, .int .u8 0, .int .u8 0, .int .u8 0, .int .u8 0, .int .u8 0, .int .u8 0, .int .u8 0] 5)) := (Below.refl _ w1).alloc (Nat.le_refl _) _
  have h2 := seal_any (some ⟨g1, 0, none⟩) 512 c1 (sec []) (some ⟨w1.heap.size, 0, none⟩) 8 8 _ _ (hs1.later hb2) hblk.srcAll bytes_seven
  rw [sseal_ok (sec_len []) (by simp)] at h2
  dsimp only at h2
  have HB2 := Hid.mk (hb1.trans (hb2.mono hb1.size))
  have ht := turnOf_le ((sec []).getD 0 0) ((sec []).getD 511 0)
  have hfin := first_pair (turnOf ((sec []).getD 0 0) ((sec []).getD 511 0) : Nat) (by omega)
  have hfl1 : (sform (turnOf ((sec []).getD 0 0) ((sec []).getD 511 0) : Nat) [7, 0, 0, 0, 0, 0, 0, 0]).length = 512 := sform_len (by simp)
  have hfb1 : Bytes (sform (turnOf ((sec []).getD 0 0) ((sec []).getD 511 0) : Nat) [7, 0, 0, 0, 0, 0, 0, 0]) := sform_bytes bytes_seven (by simp) (by omega)
  have hfl2 : (sform (turnOf ((sec []).getD 0 0) ((sec []).getD 511 0) : Nat) [9, 0, 0, 0, 0, 0, 0, 0, 65]).length = 512 := sform_len (by simp)
  have hfb2 : Bytes (sform (turnOf ((sec []).getD 0 0) ((sec []).getD 511 0) : Nat) [9, 0, 0, 0, 0, 0, 0, 0, 65]) := sform_bytes bytes_nine (by simp) (by omega)
  have h4 : Hid (∀ (g c : Nat) (w' : World) (g2 : Nat), Src w' (some ⟨g, 0, none⟩) 512 (sec []) → Src w' (some ⟨g2, 0, none⟩) 9 [9, 0, 0, 0, 0, 0, 0, 0, 65] → Calls Try.prog 72 #[.slice (some ⟨g, 0, none⟩) 512 c, .slice (some ⟨g2, 0, none⟩) 9 9] w' fun e w'' => ∃ v, e = .returned (.tuple #[v, .int .i64 0]) ∧ Lst w'' w'.heap.size v (sform (turnOf ((sec []).getD 0 0) ((sec []).getD 511 0) : Nat) [9, 0, 0, 0, 0, 0, 0, 0, 65]) ∧ Below w'.heap.size w' w'') := by
    intro g c w' g2 p1 p2
    have := seal_any (some ⟨g, 0, none⟩) 512 c (sec []) (some ⟨g2, 0, none⟩) 9 9 _ w' p1 p2 bytes_nine
    rw [sseal_ok (sec_len []) (by simp)] at this
    exact this
  generalize sform (turnOf ((sec []).getD 0 0) ((sec []).getD 511 0) : Nat) [7, 0, 0, 0, 0, 0, 0, 0] = R1 at *
  generalize sform (turnOf ((sec []).getD 0 0) ((sec []).getD 511 0) : Nat) [9, 0, 0, 0, 0, 0, 0, 0, 65] = R2 at *
  clear h1 ho1 hb1 hr1 hs1 hblk hb2 ht
  go_wp2_with fail
  refine h2.mono ?_
  rintro e w2 ⟨v2, rfl, hl2, hb2⟩
  obtain ⟨p2, c2, rfl, hs2, _, _⟩ := hl2
  rw [hfl1] at hs2 ⊢
  have HB3 := Hid.mk (HB2.out.trans (hb2.mono HB2.out.size))
  have HR1 := Hid.mk hs2
  have h3 := lsector_any none 0 0 [] w2 (by omega) ⟨rfl, fun _ => rfl, fun x hx => by cases hx⟩
  clear h2 hb2 hs2 HB2
  go_wp2_with fail
  refine h3.mono ?_
  rintro e w3 ⟨v3, rfl, ho3, hb3⟩
  obtain ⟨g3, c3, rfl, _, hr3⟩ := ho3.full (by rw [sec_len]; omega)
  have hs3 := hr3.src
  rw [sec_len] at hs3 ⊢
  have hblk : Blk (w3.alloc (.cells #[.int .u8 9, .int .u8 0, .int .u8 0, .int .u8 0, .int .u8 0, .int .u8 0, .int .u8 0, .int .u8 0, .int .u8 65] 5)) 5 w3.heap.size [9, 0, 0, 0, 0, 0, 0, 0, 65] := heap_alloc_new _ _
  have hb4 : Below w3.heap.size w3 (w3.alloc (.cells #[.int .u8 9, .int .u8 0, .int .u8 0, .int .u8 0, .int .u8 0, .int .u8 0, .int .u8 0, .int .u8 0, .int .u8 65] 5)) := (Below.refl _ w3).alloc (Nat.le_refl _) _
  have h5 := h4.out g3 c3 _ w3.heap.size (hs3.later hb4) hblk.srcAll
  have hB4 := HB3.out.trans ((hb3.trans (hb4.mono hb3.size)).mono HB3.out.size)
  have HR1' := Hid.mk ((HR1.out.later hb3).later hb4)
  have HB4 := Hid.mk hB4
  clear h3 h4 ho3 hb3 hr3 hs3 hblk hb4 hB4 HR1 HB3
  go_wp2_with fail
  refine h5.mono ?_
  rintro e w5 ⟨v5, rfl, hl5, hb5⟩
  obtain ⟨p5, c5, rfl, hs5, _, _⟩ := hl5
  rw [hfl2] at hs5 ⊢
  have HB5 := Hid.mk (HB4.out.trans (hb5.mono HB4.out.size))
  have h6 := pnewest_any p2 512 c2 R1 p5 512 c5 R2 w5 (HR1'.out.later hb5) hs5 hfb1 hfb2
  rw [hfin] at h6
  dsimp only at h6
  clear h5 hb5 hs5 HB4 HR1' hfin
  go_wp2_with fail
  refine (lnum_any _ _).mono ?_
  rintro e w' ⟨rfl, hw⟩
  have hw' := hw.symm
  subst hw'
  clear hw
  go_wp2_with fail
  refine (lnum_any _ _).mono ?_
  rintro e w' ⟨rfl, hw⟩
  have hw' := hw.symm
  subst hw'
  clear hw
  go_wp2_with fail
  refine h6.mono ?_
  rintro e w6 ⟨v6, rfl, hl6, hb6⟩
  obtain ⟨p6, c6, rfl, hs6, _, _⟩ := hl6
  have HB6 := Hid.mk (HB5.out.trans (hb6.mono HB5.out.size))
  have HS6 := Hid.mk hs6
  clear h6 hb6 hs6 HB5
  go_wp2_with fail
  refine (lnum_any _ _).mono ?_
  rintro e w' ⟨rfl, hw⟩
  have hw' := hw.symm
  subst hw'
  clear hw
  have hb7 : Below w6.heap.size w6 (w6.alloc (.cells #[.int .u8 65] 5)) := (Below.refl _ w6).alloc (Nat.le_refl _) _
  have hblk7 : Blk (w6.alloc (.cells #[.int .u8 65] 5)) 5 w6.heap.size [65] := heap_alloc_new _ _
  have h7 := lsame_any p6 (some ⟨w6.heap.size, 0, none⟩) 1 1 c6 1 [65] [65] _ (by omega) (HS6.out.later hb7) hblk7.srcAll
  rw [decide_eq_true rfl] at h7
  have HB7 := Hid.mk (HB6.out.trans (hb7.mono HB6.out.size))
  clear hb7 hblk7 HS6 HB6
  go_wp2_with fail
  refine h7.mono ?_
  rintro e w8 ⟨rfl, hb8⟩
  have HB8 := Hid.mk (HB7.out.trans (hb8.mono HB7.out.size))
  clear h7 hb8
  go_wp2
  go_ret
  exact ⟨rfl, HB8.out⟩
end Go.Proofs.Ytkgnkdnipcacgaa
end

section
namespace Go.Proofs.Ytkgnkdnipcacgaa
open Go.RowKit

/-- make of bytes, with a capacity beyond the length. -/
theorem wpList_make_part (w : World) {ops : Array Oper} {rest : List Oper} {o : Oper} {a : Act} {Q : Exit → Act → World → Prop}
    (hg : o.guard = none) (l c : Operand) (hop : o.op = Op.makeSlice 22 l c) (C : Int) (m n : Nat) (hl : a.eval l = .int .i64 (m : Int)) (hc : a.eval c = .int .i64 C) (hC : C = (n : Int)) (hmn : m ≤ n) (hn : n ≤ 140737488355328)
    (hK : ∀ w', Blk w' 5 w.heap.size (zs n) → Below w.heap.size w w' → wpList Try.prog ops Q rest (a.put o.dst (.slice (some ⟨w.heap.size, 0, none⟩) m n)) w') :
    wpList Try.prog ops Q (o :: rest) a w := by
  refine wpList_plain hg fun K hK' => ?_
  obtain ⟨i, hi, hz0, hz1, hz2⟩ := info_parts infoU8
  subst hC
  have hr := run_make (P := Try.prog) w 22 5 i (.int .u8 0) Try.underlying22 hi hz0 .i64 .i64 (m : Int) (n : Int) (by omega) (by omega) (by rw [hz2]; omega) (by omega)
  simp only [Int.toNat_natCast, hz1, Nat.mul_one] at hr
  unfold Oper.wp
  simp [execOp, hop, hl, hc, hr, Result.andThen]
  refine hK' _ _ (hK _ ?_ ?_)
  · have h1 := heap_alloc_new w (.cells (madeCells (Value.int .u8 0).cells n) 5)
    have e : madeCells (Value.int .u8 0).cells n = (bs (zs n)).toArray := by
      apply Array.ext'
      have : (Value.int .u8 0).cells = #[Value.int .u8 0] := rfl
      rw [this, toList_madeCells_one]
      simp [bs, zs]
    rw [e] at h1
    unfold Blk
    rw [← h1]
    simp [e]
  · exact (Below.refl _ w).alloc (Nat.le_refl _) _
end Go.Proofs.Ytkgnkdnipcacgaa
end

section
namespace Go.Proofs.Ytkgnkdnipcacgaa
open Go.RowKit

theorem leb8 (n : Nat) : leb 8 n = bytes8 n := by
  rw [bytes8_eq]
  simp only [leb, Nat.div_div_eq_div_mul]
theorem own_blk {w : World} {B g n : Nat} {p q : List Int} (h : Blk w 5 g (p ++ q)) (hg : B ≤ g) (hn : n = (p ++ q).length) (hm : n ≤ maxLen) : Own w B (.slice (some ⟨g, 0, none⟩) p.length n) p := by
  subst hn
  refine ⟨by simp [bs], .inr ⟨g, (p ++ q).length, _, rfl, hg, h, by simp, hm, by simp [bs], ?_⟩⟩
  rw [bs_append]
  simp [bs]

theorem Own.capz {w : World} {B : Nat} {a : Option Addr} {n c : Nat} {l : List Int} (h : Own w B (.slice a n c) l) : a = none → c = 0 := by
  rintro rfl
  obtain ⟨_, ⟨e, _⟩ | ⟨g, c', cur, e, _⟩⟩ := h
  · cases e; rfl
  · cases e

set_option maxRecDepth 20000 in
set_option maxHeartbeats 4000000 in
theorem anchorBody_any (N : Nat) (a : Option Addr) (n c : Nat) (l : List Int) (w : World) (hN : N < 9223372036854775808) (hs : Src w a n l) (hn : n ≤ 496) (hca : a = none → c = 0) :
    Calls Try.prog 100 #[.int .i64 (N : Int), .slice a n c] w fun e w' => ∃ v, e = .returned v ∧ Own w' w.heap.size v (bytes8 N ++ l) ∧ Below w.heap.size w w' := by
  obtain ⟨i0, hi, hz0, hz1, hz2⟩ := info_parts infoU8
  have H := Hid.mk hs
  have hl := hs.1
  clear hs
  have hN' : (N : Int) < 9223372036854775808 := by omega
  go_enter Try.func100, Try.ntmps100
  go_wp2_with (at_make; refine wpList_make_part _ rfl _ _ rfl _ 8 (8 + n) rfl rfl ?c1 ?c2 ?c3 ?_)
  case c1 => omega
  case c2 => omega
  case c3 => omega
  intro w1 hblk hb1
  have hl1 := lay_any w.heap.size 0 8 (8 + n) N 5 (zs (8 + n)) w1 hblk (by omega) (by rw [zs_len]; omega)
  have e1 : put (zs (8 + n)) 0 (leb 8 N) = bytes8 N ++ zs n := by
    rw [leb8, put, zs_add, bytes8_len]
    simp only [List.take_zero, List.nil_append, Nat.zero_add]
    rw [List.drop_left' (zs_len 8)]
  rw [e1] at hl1
  have HB1 := Hid.mk hb1
  clear hblk hb1 e1
  go_wp2_with fail
  refine hl1.mono ?_
  rintro e w2 ⟨rfl, hblk2, hk2, hz2'⟩
  have hB2 : Below w.heap.size w w2 := HB1.out.trans (hk2.below (fun j hj => by omega) HB1.out.size)
  have hown : Own w2 w.heap.size (.slice (some ⟨w.heap.size, 0, none⟩) (bytes8 N).length (8 + n)) (bytes8 N) := own_blk hblk2 (Nat.le_refl _) (by rw [List.length_append, bytes8_len, zs_len]) (by unfold maxLen; omega)
  rw [bytes8_len] at hown
  have hrow : w2.ownsRow w.heap.size 5 1 (.slice (some ⟨w.heap.size, 0, none⟩) 8 (8 + n)) 8 (bs (bytes8 N)) := by
    have := hown
    unfold Own at this
    rwa [bytes8_len] at this
  have Hrow := Hid.mk hrow
  have Hown := Hid.mk hown
  have HB2 := Hid.mk hB2
  have hz := hB2.size
  clear hl1 hblk2 hk2 hz2' hB2 hown hrow HB1
  cases a with
  | none =>
    have hn0 : n = 0 := H.out.2.1 rfl
    subst hn0
    have hl0 : l = [] := List.eq_nil_of_length_eq_zero hl
    subst hl0
    have hc0 := hca rfl
    subst hc0
    go_wp2_with (at_builtin; refine wpList_append_own_none rfl _ _ 22 rfl w.heap.size 5 i0 1 Try.underlying22 hi _ 8 (bs (bytes8 N)) rfl Hrow.out rfl ?_)
    go_ret
    exact ⟨_, rfl, by rw [List.append_nil]; exact Hown.out, HB2.out⟩
  | some x =>
    have hcells := Hid.mk (fun j u (hj : (bs l)[j]? = some u) => show w2.cell? (x.add j) = some u by
      obtain ⟨hj1, rfl⟩ := bs_getElem hj
      exact cell_later HB2.out (H.out.2.2 _ rfl j (by omega)))
    have hll : (bs l).length = n := by rw [bs, List.length_map, hl]
    go_wp2_with (at_builtin; refine wpList_append_own _ rfl _ _ 22 rfl w.heap.size 5 i0 (.int .u8 0) 1 1 Try.underlying22 hi hz0 hz1 hz2 rfl (by decide) _ 8 (bs (bytes8 N)) rfl Hrow.out x n c (bs l) rfl ?n0 hcells.out ?n2 ?n3 ?n4 ?n5 ?_)
    case n0 => omega
    case n2 => exact bs_one _
    case n3 => unfold maxLen; omega
    case n4 => omega
    case n5 => exact hz
    intro v' w3 hown' hgrow' _
    rw [← bs_append] at hown'
    have HO := Hid.mk (own_of (m := bytes8 N ++ l) hown' (by rw [List.length_append, bytes8_len]; omega) rfl)
    have HB3 := Hid.mk (HB2.out.grown hgrow' hz (fun q e => (Hrow.out.lt q e).1))
    clear hown' hgrow'
    go_wp2
    go_ret
    exact ⟨_, rfl, HO.out, HB3.out⟩
end Go.Proofs.Ytkgnkdnipcacgaa
end
