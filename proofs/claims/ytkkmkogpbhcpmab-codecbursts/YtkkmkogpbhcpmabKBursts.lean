import Derived.Test.YtkkmkogpbhcpmabKBu2
namespace Go.Proofs.Ytkkmkogpbhcpmab
open Go.RowKit

/-- A node's bytes, right or all zeros. -/
def NS (l : List Int) : Prop := l.length = 128 ∧ Bytes l ∧ (NodeOk l ∨ Zeros l)
def ES (l : List Int) : Prop := l.length = 64 ∧ Bytes l ∧ (EntryOk l ∨ Zeros l)
def SS (l : List Int) : Prop := l.length = 512 ∧ Bytes l ∧ SumOk l
theorem ns_zero : NS zeros128 := ⟨zeros128_len, bytes_rep 128, .inr zeros128_zeros⟩
theorem es_zero : ES zeros64 := ⟨zeros64_len, bytes_rep 64, .inr (fun _ hx => (List.mem_replicate.1 hx).2)⟩
theorem ns_enc {y : NV} {b : List Int} (hf : NFits y.k y.l y.p y.s y.o y.d) (he : EncR y b 0) (hl : b.length = 128) (hb : Bytes b) : NS b := by
  refine ⟨hl, hb, ?_⟩
  by_cases hz : Zeros b
  · exact .inr hz
  · by_cases hk : NodeOk b
    · exact .inl hk
    · have := (dec_enc (E' := 6) hf he (.inr (.inr (.inr ⟨hl, hz, hk, rfl, rfl⟩)))).2.1
      omega
theorem es_enc {b : List Int} {n k : Int} {s : ByteArray} (he : entDec b = (n, k, s, 0)) (hl : b.length = 64) (hb : Bytes b) : ES b := by
  refine ⟨hl, hb, ?_⟩
  by_cases hz : Zeros b
  · exact .inr hz
  · by_cases hk : okB b = true
    · exact .inl ((okB_iff hb hl hz).1 hk)
    · rw [entDec_no hl hk] at he
      simp only [Prod.mk.injEq] at he
      exact absurd he.2.2.2 (by decide)
theorem ss_enc {b : List Int} {x y z : Int} (he : supDec b = (x, y, z, 0)) (hl : b.length = 512) (hb : Bytes b) : SS b := by
  refine ⟨hl, hb, ?_⟩
  unfold supDec at he
  rw [if_neg (fun h => h hl)] at he
  split at he
  · rename_i hk
    exact ((super_iff hb hl).2 ((refB_iff b).1 hk)).1
  · simp only [Prod.mk.injEq] at he
    exact absurd he.2.2.2 (by decide)
theorem xor_zero_eq {a b : Nat} (h : a ^^^ b = 0) : a = b := xor_none h
theorem node_told {l t : List Int} {at_ p : Nat} {x : NV} {E : Int} (hs : NS l) (ht : t.length = 128) (hbt : Bytes t) (ha : at_ ≤ 1024) (hp : p < 4294967296) (h0 : p ≠ 0) (hx : le t = le l ^^^ 2 ^ at_ * p) (hd : DecR t x E) : E = 6 := by
  obtain ⟨hl, hb, hk⟩ := hs
  have hpow : 0 < 2 ^ at_ := Nat.pow_pos (by omega)
  have hM : 2 ^ at_ * p ≠ 0 := Nat.mul_ne_zero (by omega) h0
  rcases hk with hk | hz
  · have hns : ¬ SumOk t := fun h => h0 (burst_told hb hbt (by omega) (by omega) (by omega) hp hx hk.1 h)
    have hnz : ¬ Zeros t := fun h => by
      rw [le_zeros h] at hx
      exact node_far hb hl hk hp (xor_zero_eq hx.symm)
    rcases hd with ⟨h, _⟩ | ⟨_, h, _⟩ | ⟨_, _, h, _⟩ | ⟨_, _, _, _, h⟩
    · exact absurd ht h
    · exact absurd h hnz
    · exact absurd h.1 hns
    · exact h
  · rw [le_zeros hz, Nat.zero_xor] at hx
    have hnz : ¬ Zeros t := fun h => hM (by rw [← hx]; exact le_zeros h)
    rcases hd with ⟨h, _⟩ | ⟨_, h, _⟩ | ⟨_, _, h, _⟩ | ⟨_, _, _, _, h⟩
    · exact absurd ht h
    · exact absurd h hnz
    · exact (node_far hbt ht h hp hx).elim
    · exact h
theorem ent_told {l t : List Int} {at_ p : Nat} (hs : ES l) (ht : t.length = 64) (hbt : Bytes t) (ha : at_ ≤ 512) (hp : p < 4294967296) (h0 : p ≠ 0) (hx : le t = le l ^^^ 2 ^ at_ * p) : (entDec t).2.2.2 = 6 := by
  obtain ⟨hl, hb, hk⟩ := hs
  have hpow : 0 < 2 ^ at_ := Nat.pow_pos (by omega)
  have hM : 2 ^ at_ * p ≠ 0 := Nat.mul_ne_zero (by omega) h0
  have hno : ¬ Zeros t ∧ ¬ EntryOk t := by
    rcases hk with hk | hz
    · refine ⟨fun h => ?_, fun h => ?_⟩
      · rw [le_zeros h] at hx
        exact ent_far hb hl hk hp (xor_zero_eq hx.symm)
      · exact h0 (burst_told hb hbt (by omega) (by omega) (by omega) hp hx hk.1 h.1)
    · rw [le_zeros hz, Nat.zero_xor] at hx
      exact ⟨fun h => hM (by rw [← hx]; exact le_zeros h), fun h => ent_far hbt ht h hp hx⟩
  rw [entDec_no ht (fun h => hno.2 ((okB_iff hbt ht hno.1).1 h))]
theorem sup_told {l t : List Int} {at_ p : Nat} (hs : SS l) (ht : t.length = 512) (hbt : Bytes t) (ha : at_ ≤ 4096) (hp : p < 4294967296) (h0 : p ≠ 0) (hx : le t = le l ^^^ 2 ^ at_ * p) : (supDec t).2.2.2 = 6 := by
  obtain ⟨hl, hb, hk⟩ := hs
  have hns : ¬ SumOk t := fun h => h0 (burst_told hb hbt (by omega) (by omega) (by omega) hp hx hk h)
  unfold supDec
  rw [if_neg (fun h => h ht), if_neg (fun h => hns ((super_iff hbt ht).2 ((refB_iff t).1 h)).1)]

/-- The three encoded lists lie there. -/
structure Three (w wr : World) (gb cb : Nat) (lb : List Int) (gc cc : Nat) (lc : List Int) (gd cd : Nat) (ld : List Int) : Prop where
  below : Below w.heap.size w wr
  b : Src wr (some ⟨gb, 0, none⟩) 128 lb
  c : Src wr (some ⟨gc, 0, none⟩) 64 lc
  d : Src wr (some ⟨gd, 0, none⟩) 512 ld
  nb : NS lb
  nc : ES lc
  nd : SS ld
theorem Three.far {w wr w2 : World} {gb cb gc cc gd cd : Nat} {lb lc ld : List Int} (h : Three w wr gb cb lb gc cc lc gd cd ld) (hb : Below wr.heap.size wr w2) : Three w w2 gb cb lb gc cc lc gd cd ld :=
  ⟨h.below.trans (hb.mono h.below.size), h.b.later hb, h.c.later hb, h.d.later hb, h.nb, h.nc, h.nd⟩
theorem Turn.src {w wr : World} {g n : Nat} {l t : List Int} {at_ k p : Nat} (h : Turn w wr g n l t at_ k p) : Src wr (some ⟨g, 0, none⟩) n t := by
  have := h.row.src
  rw [h.len] at this
  exact this
theorem boxed3 (w : World) (a b c : Obj) : (((w.alloc a).alloc b).alloc c).heap[w.heap.size]? = some a ∧ (((w.alloc a).alloc b).alloc c).heap[w.heap.size + 1]? = some b ∧ (((w.alloc a).alloc b).alloc c).heap[w.heap.size + 2]? = some c ∧ Below w.heap.size w (((w.alloc a).alloc b).alloc c) := by
  have hb := below_two w a b
  have hz : ((w.alloc a).alloc b).heap.size = w.heap.size + 2 := by simp
  have h3 : Below ((w.alloc a).alloc b).heap.size ((w.alloc a).alloc b) (((w.alloc a).alloc b).alloc c) := (Below.refl _ _).alloc (Nat.le_refl _) _
  have hn := heap_alloc_new ((w.alloc a).alloc b) c
  rw [hz] at hn
  exact ⟨(h3.block _ (by omega)).trans (heap_alloc2_old _ _ _), (h3.block _ (by omega)).trans (heap_alloc2_new _ _ _), hn, hb.trans (h3.mono (by omega))⟩

set_option maxRecDepth 20000 in
set_option maxHeartbeats 16000000 in
theorem codecBursts_any (K L P S Q : Int) (D : Nat → Int) (n k : Int) (s : ByteArray) (t : Int) (x y z : Int) (at_ pat : Int) (w : World) :
    Calls Try.prog 5 #[nd K L P S Q D, ent n k s t, agg3 x y z, .int .i64 at_, .int .i64 pat] w fun e w' => e = .returned (.bool true) ∧ Below w.heap.size w w' := by
  obtain ⟨i0, hi, hz0, hz1, hz2⟩ := info_parts infoU8
  obtain ⟨w0, hw0⟩ : ∃ w0, w0 = ((w.alloc (.cells (ndc K L P S Q D) 27)).alloc (.cells #[.int .i64 n, .int .i64 k, .string s, .int .i64 t] 29)).alloc (.cells #[.int .i64 x, .int .i64 y, .int .i64 z] 31) := ⟨_, rfl⟩
  obtain ⟨q0, q1, q2, hB0⟩ := boxed3 w (.cells (ndc K L P S Q D) 27) (.cells #[.int .i64 n, .int .i64 k, .string s, .int .i64 t] 29) (.cells #[.int .i64 x, .int .i64 y, .int .i64 z] 31)
  rw [← hw0] at q0 q1 q2 hB0
  have hra := range_of (cs := ndl K L P S Q D) q0
  rw [hw0] at hra
  have Hra := Hid.mk hra
  have HQ0 := Hid.mk (And.intro hB0 (And.intro q1 q2))
  have ht := tame_any ⟨K, L, P, S, Q, D⟩ w0
  clear hra q0 q1 q2 hB0
  go_enter Try.func5, Try.ntmps5
  go_wp2_with (refine wpList_load_mid rfl 27 _ rfl w.heap.size 0 rfl (ndl K L P S Q D) _ Hra.out Try.underlying27 rfl infoNode ?_)
  rw [← hw0]
  clear hw0 Hra
  refine ht.mono ?_
  rintro e w1 ⟨Y, rfl, hfit, hb1⟩
  have he := encnode_back Y w1 hfit
  have HQ1 : Hid (Below w.heap.size w w1 ∧ w1.heap[w.heap.size + 1]? = some (.cells #[.int .i64 n, .int .i64 k, .string s, .int .i64 t] 29 (0, 0)) ∧ w1.heap[w.heap.size + 2]? = some (.cells #[.int .i64 x, .int .i64 y, .int .i64 z] 31 (0, 0))) := ⟨HQ0.out.1.trans (hb1.mono HQ0.out.1.size), (hb1.block _ (Array.getElem?_eq_some_iff.1 HQ0.out.2.1).1).trans HQ0.out.2.1, (hb1.block _ (Array.getElem?_eq_some_iff.1 HQ0.out.2.2).1).trans HQ0.out.2.2⟩
  have HFit := Hid.mk hfit
  clear ht hb1 HQ0 hfit
  go_wp2_with fail
  refine he.mono ?_
  rintro e w2 ⟨gb, cb, lb, rfl, hen, hN⟩
  have HNS := Hid.mk (ns_enc HFit.out hen hN.1 hN.2.2.1)
  have hb2 := hN.2.2.2.2.2
  have HB := Hid.mk hN.2.1
  have HQ2 : Hid (Below w.heap.size w w2 ∧ w2.heap[w.heap.size + 1]? = some (.cells #[.int .i64 n, .int .i64 k, .string s, .int .i64 t] 29 (0, 0)) ∧ w2.heap[w.heap.size + 2]? = some (.cells #[.int .i64 x, .int .i64 y, .int .i64 z] 31 (0, 0))) := ⟨HQ1.out.1.trans (hb2.mono HQ1.out.1.size), (hb2.block _ (Array.getElem?_eq_some_iff.1 HQ1.out.2.1).1).trans HQ1.out.2.1, (hb2.block _ (Array.getElem?_eq_some_iff.1 HQ1.out.2.2).1).trans HQ1.out.2.2⟩
  have c0 := cell_of_block HQ2.out.2.1 (j := 0) (u := .int .i64 n) rfl
  have c1 := cell_of_block HQ2.out.2.1 (j := 1) (u := .int .i64 k) rfl
  have c2 := cell_of_block HQ2.out.2.1 (j := 2) (u := .string s) rfl
  have c3 := cell_of_block HQ2.out.2.1 (j := 3) (u := .int .i64 t) rfl
  have ht := tameEntry_any n k s t w2
  clear he hen hN hb2 HQ1 HFit
  go_wp2_with fail
  clear c0 c1 c2 c3
  refine ht.mono ?_
  rintro e w3 ⟨N', K', S', rfl, hefit, hb3⟩
  have he := encent_back N' K' S' t w3 hefit
  have HQ3 : Hid (Below w.heap.size w w3 ∧ w3.heap[w.heap.size + 2]? = some (.cells #[.int .i64 x, .int .i64 y, .int .i64 z] 31 (0, 0)) ∧ Src w3 (some ⟨gb, 0, none⟩) 128 lb) := ⟨HQ2.out.1.trans (hb3.mono HQ2.out.1.size), (hb3.block _ (Array.getElem?_eq_some_iff.1 HQ2.out.2.2).1).trans HQ2.out.2.2, HB.out.later hb3⟩
  clear ht hb3 HQ2 HB
  go_wp2_with fail
  refine he.mono ?_
  rintro e w4 ⟨gc, cc, lc, rfl, hdec, hN⟩
  have HES := Hid.mk (es_enc hdec hN.1 hN.2.2.1)
  have hb4 := hN.2.2.2.2.2
  have HQ4 : Hid (Below w.heap.size w w4 ∧ w4.heap[w.heap.size + 2]? = some (.cells #[.int .i64 x, .int .i64 y, .int .i64 z] 31 (0, 0)) ∧ Src w4 (some ⟨gb, 0, none⟩) 128 lb ∧ Src w4 (some ⟨gc, 0, none⟩) 64 lc) := ⟨HQ3.out.1.trans (hb4.mono HQ3.out.1.size), (hb4.block _ (Array.getElem?_eq_some_iff.1 HQ3.out.2.1).1).trans HQ3.out.2.1, HQ3.out.2.2.later hb4, hN.2.1⟩
  have c0 := cell_of_block HQ4.out.2.1 (j := 0) (u := .int .i64 x) rfl
  have c1 := cell_of_block HQ4.out.2.1 (j := 1) (u := .int .i64 y) rfl
  have c2 := cell_of_block HQ4.out.2.1 (j := 2) (u := .int .i64 z) rfl
  have ht := tameSuper_any x y z w4
  clear he hdec hN hb4 HQ3
  go_wp2_with fail
  clear c0 c1 c2
  refine ht.mono ?_
  rintro e w5 ⟨X', Y', Z', rfl, hgeo, hb5⟩
  have he := encsuper_back X' Y' Z' w5 hgeo
  have HQ5 : Hid (Below w.heap.size w w5 ∧ Src w5 (some ⟨gb, 0, none⟩) 128 lb ∧ Src w5 (some ⟨gc, 0, none⟩) 64 lc) := ⟨HQ4.out.1.trans (hb5.mono HQ4.out.1.size), HQ4.out.2.2.1.later hb5, HQ4.out.2.2.2.later hb5⟩
  clear ht hb5 HQ4
  go_wp2_with fail
  refine he.mono ?_
  rintro e w6 ⟨gd, cd, ld, rfl, hdec, hN⟩
  have hSS := ss_enc hdec hN.1 hN.2.2.1
  have hb6 := hN.2.2.2.2.2
  have HT : Hid (Three w w6 gb cb lb gc cc lc gd cd ld) := ⟨HQ5.out.1.trans (hb6.mono HQ5.out.1.size), HQ5.out.2.1.later hb6, HQ5.out.2.2.later hb6, hN.2.1, HNS.out, HES.out, hSS⟩
  clear he hdec hN hb6 HQ5 HNS HES hSS
  go_wp2
  go_loopw [11, 13, 17] (fun vb vc i wr => ∃ j : Nat, j ≤ 2 ∧ i = .int .i64 j ∧ ∃ gb cb lb gc cc lc, vb = .slice (some ⟨gb, 0, none⟩) 128 cb ∧ vc = .slice (some ⟨gc, 0, none⟩) 64 cc ∧ Three w wr gb cb lb gc cc lc gd cd ld) (fun _ _ i _ => 2 - (intOf i).toNat)
  case atStart => exact ⟨0, Nat.zero_le _, rfl, gb, cb, lb, gc, cc, lc, rfl, rfl, HT.out⟩
  case round =>
    clear HT
    obtain ⟨j, hj, rfl, gb, cb, lb, gc, cc, lc, rfl, rfl, hT⟩ := hrel
    have HT := Hid.mk hT
    clear hT
    by_cases hlt : j < 2
    · have hlt' : (j : Int) < 2 := by omega
      have bb1 := bring_any at_ 0 1023 wr (by omega) (by omega)
      go_wp2_with fail
      refine bb1.mono ?_
      rintro e wq1 ⟨⟨A1, rfl, A11, A21⟩, hw1⟩
      have hw1' := hw1.symm
      subst hw1'
      obtain ⟨AN1, rfl⟩ := Int.eq_ofNat_of_zero_le (show 0 ≤ A1 by omega)
      clear hw1 bb1
      have ht2 := turn_any (some ⟨gb, 0, none⟩) 128 cb lb AN1 pat wr (by omega) (by omega) HT.out.b HT.out.nb.2.1
      go_wp2_with fail
      refine ht2.mono ?_
      rintro e wt2 ⟨g2, t2, p2, rfl, hT2⟩
      generalize hB2 : decide (p2 ≠ 0) = B2
      have HBo2 := Hid.mk hB2
      clear hB2
      have HTu2 := Hid.mk hT2
      have HT2 := Hid.mk (HT.out.far (hT2.below))
      clear ht2 hT2
      clear HT
      have hd2 := decnode_any (some ⟨g2, 0, none⟩) 128 128 t2 wt2 HTu2.out.src HTu2.out.bytes (by omega) (Nat.le_refl _) (fun _ => by omega)
      go_wp2_with fail
      refine hd2.mono ?_
      rintro e wd2 ⟨x2, E2, hdr2, rfl, hbd2⟩
      have HTn2 := Hid.mk (HT2.out.far hbd2)
      have hE2 : p2 ≠ 0 → E2 = 6 := fun h0 => node_told HT2.out.nb HTu2.out.len HTu2.out.bytes (by omega) HTu2.out.lt h0 HTu2.out.word hdr2
      clear hd2 hdr2 hbd2 HT2 HTu2
      cases B2
      · clear hE2 HBo2
        have bb3 := bring_any at_ 0 511 wd2 (by omega) (by omega)
        go_wp2_with fail
        refine bb3.mono ?_
        rintro e wq3 ⟨⟨A3, rfl, A13, A23⟩, hw3⟩
        have hw3' := hw3.symm
        subst hw3'
        obtain ⟨AN3, rfl⟩ := Int.eq_ofNat_of_zero_le (show 0 ≤ A3 by omega)
        clear hw3 bb3
        have ht4 := turn_any (some ⟨gc, 0, none⟩) 64 cc lc AN3 pat wd2 (by omega) (by omega) HTn2.out.c HTn2.out.nc.2.1
        go_wp2_with fail
        refine ht4.mono ?_
        rintro e wt4 ⟨g4, t4, p4, rfl, hT4⟩
        generalize hB4 : decide (p4 ≠ 0) = B4
        have HBo4 := Hid.mk hB4
        clear hB4
        have HTu4 := Hid.mk hT4
        have HT4 := Hid.mk (HTn2.out.far (hT4.below))
        clear ht4 hT4
        clear HTn2
        have hd4 := decent_any (some ⟨g4, 0, none⟩) 64 64 t4 wt4 HTu4.out.src HTu4.out.bytes (by omega) (Nat.le_refl _) (fun _ => by omega)
        have hE4 : p4 ≠ 0 → (entDec t4).2.2.2 = 6 := fun h0 => ent_told HT4.out.nc HTu4.out.len HTu4.out.bytes (by omega) HTu4.out.lt h0 HTu4.out.word
        generalize entDec t4 = D4 at *
        obtain ⟨X4, Y4, Z4, E4⟩ := D4
        go_wp2_with fail
        refine hd4.mono ?_
        rintro e wd4 ⟨rfl, hbd4⟩
        have HTn4 := Hid.mk (HT4.out.far hbd4)
        clear hd4 hbd4 HT4 HTu4
        cases B4
        · clear hE4 HBo4
          go_wp2_with (at_make; refine wpList_make_full _ rfl _ _ 36 rfl wd4.heap.size 5 i0 (.int .u8 0) 1 Try.underlying36 hi hz0 hz1 _ _ _ _ 128 rfl rfl ?c1 ?c2 ?c3 ?c4 ?c5 ?_)
          case c1 => rfl
          case c2 => rfl
          case c3 => rw [hz2]; omega
          case c4 => unfold maxLen; omega
          case c5 => exact Nat.le_refl _
          intro wm5 hown hgrow
          have hrwm5 : RowAt wm5 5 wd4.heap.size 128 (bs zeros128) := made_row hown
          have hbwm5 : Below wd4.heap.size wd4 wm5 := (Below.refl _ wd4).grown hgrow (Nat.le_refl _) (by intro k hk; cases hk)
          have hswm5 := hrwm5.src
          rw [zeros128_len] at hswm5
          clear hown hgrow
          have HM5 := Hid.mk (And.intro (HTn4.out.far hbwm5) hswm5)
          clear HTn4 hbwm5 hswm5 hrwm5
          go_wp2_with (at_make; refine wpList_make_full _ rfl _ _ 36 rfl wm5.heap.size 5 i0 (.int .u8 0) 1 Try.underlying36 hi hz0 hz1 _ _ _ _ 64 rfl rfl ?c1 ?c2 ?c3 ?c4 ?c5 ?_)
          case c1 => rfl
          case c2 => rfl
          case c3 => rw [hz2]; omega
          case c4 => unfold maxLen; omega
          case c5 => exact Nat.le_refl _
          intro wm6 hown hgrow
          have hrwm6 : RowAt wm6 5 wm5.heap.size 64 (bs zeros64) := made_row hown
          have hbwm6 : Below wm5.heap.size wm5 wm6 := (Below.refl _ wm5).grown hgrow (Nat.le_refl _) (by intro k hk; cases hk)
          have hswm6 := hrwm6.src
          rw [zeros64_len] at hswm6
          clear hown hgrow
          have HF6 : Hid (Three w wm6 wd4.heap.size 128 zeros128 wm5.heap.size 64 zeros64 gd cd ld) := by
            have hF := HM5.out.1.far hbwm6
            exact ⟨hF.below, HM5.out.2.later hbwm6, hswm6, hF.d, ns_zero, es_zero, hF.nd⟩
          clear HM5 hbwm6 hswm6 hrwm6
          go_wp2
          go_roundw
          case rel => exact ⟨j + 1, by omega, by go_num, _, _, _, _, _, _, rfl, rfl, HF6.out⟩
          case measure => simp [intOf]; omega
        · obtain rfl : E4 = 6 := hE4 (of_decide_eq_true HBo4.out)
          clear hE4 HBo4
          go_wp2_with (at_make; refine wpList_make_full _ rfl _ _ 36 rfl wd4.heap.size 5 i0 (.int .u8 0) 1 Try.underlying36 hi hz0 hz1 _ _ _ _ 128 rfl rfl ?c1 ?c2 ?c3 ?c4 ?c5 ?_)
          case c1 => rfl
          case c2 => rfl
          case c3 => rw [hz2]; omega
          case c4 => unfold maxLen; omega
          case c5 => exact Nat.le_refl _
          intro wm7 hown hgrow
          have hrwm7 : RowAt wm7 5 wd4.heap.size 128 (bs zeros128) := made_row hown
          have hbwm7 : Below wd4.heap.size wd4 wm7 := (Below.refl _ wd4).grown hgrow (Nat.le_refl _) (by intro k hk; cases hk)
          have hswm7 := hrwm7.src
          rw [zeros128_len] at hswm7
          clear hown hgrow
          have HM7 := Hid.mk (And.intro (HTn4.out.far hbwm7) hswm7)
          clear HTn4 hbwm7 hswm7 hrwm7
          go_wp2_with (at_make; refine wpList_make_full _ rfl _ _ 36 rfl wm7.heap.size 5 i0 (.int .u8 0) 1 Try.underlying36 hi hz0 hz1 _ _ _ _ 64 rfl rfl ?c1 ?c2 ?c3 ?c4 ?c5 ?_)
          case c1 => rfl
          case c2 => rfl
          case c3 => rw [hz2]; omega
          case c4 => unfold maxLen; omega
          case c5 => exact Nat.le_refl _
          intro wm8 hown hgrow
          have hrwm8 : RowAt wm8 5 wm7.heap.size 64 (bs zeros64) := made_row hown
          have hbwm8 : Below wm7.heap.size wm7 wm8 := (Below.refl _ wm7).grown hgrow (Nat.le_refl _) (by intro k hk; cases hk)
          have hswm8 := hrwm8.src
          rw [zeros64_len] at hswm8
          clear hown hgrow
          have HF8 : Hid (Three w wm8 wd4.heap.size 128 zeros128 wm7.heap.size 64 zeros64 gd cd ld) := by
            have hF := HM7.out.1.far hbwm8
            exact ⟨hF.below, HM7.out.2.later hbwm8, hswm8, hF.d, ns_zero, es_zero, hF.nd⟩
          clear HM7 hbwm8 hswm8 hrwm8
          go_wp2
          go_roundw
          case rel => exact ⟨j + 1, by omega, by go_num, _, _, _, _, _, _, rfl, rfl, HF8.out⟩
          case measure => simp [intOf]; omega
      · obtain rfl := hE2 (of_decide_eq_true HBo2.out)
        clear hE2 HBo2
        have bb9 := bring_any at_ 0 511 wd2 (by omega) (by omega)
        go_wp2_with fail
        refine bb9.mono ?_
        rintro e wq9 ⟨⟨A9, rfl, A19, A29⟩, hw9⟩
        have hw9' := hw9.symm
        subst hw9'
        obtain ⟨AN9, rfl⟩ := Int.eq_ofNat_of_zero_le (show 0 ≤ A9 by omega)
        clear hw9 bb9
        have ht10 := turn_any (some ⟨gc, 0, none⟩) 64 cc lc AN9 pat wd2 (by omega) (by omega) HTn2.out.c HTn2.out.nc.2.1
        go_wp2_with fail
        refine ht10.mono ?_
        rintro e wt10 ⟨g10, t10, p10, rfl, hT10⟩
        generalize hB10 : decide (p10 ≠ 0) = B10
        have HBo10 := Hid.mk hB10
        clear hB10
        have HTu10 := Hid.mk hT10
        have HT10 := Hid.mk (HTn2.out.far (hT10.below))
        clear ht10 hT10
        clear HTn2
        have hd10 := decent_any (some ⟨g10, 0, none⟩) 64 64 t10 wt10 HTu10.out.src HTu10.out.bytes (by omega) (Nat.le_refl _) (fun _ => by omega)
        have hE10 : p10 ≠ 0 → (entDec t10).2.2.2 = 6 := fun h0 => ent_told HT10.out.nc HTu10.out.len HTu10.out.bytes (by omega) HTu10.out.lt h0 HTu10.out.word
        generalize entDec t10 = D10 at *
        obtain ⟨X10, Y10, Z10, E10⟩ := D10
        go_wp2_with fail
        refine hd10.mono ?_
        rintro e wd10 ⟨rfl, hbd10⟩
        have HTn10 := Hid.mk (HT10.out.far hbd10)
        clear hd10 hbd10 HT10 HTu10
        cases B10
        · clear hE10 HBo10
          go_wp2_with (at_make; refine wpList_make_full _ rfl _ _ 36 rfl wd10.heap.size 5 i0 (.int .u8 0) 1 Try.underlying36 hi hz0 hz1 _ _ _ _ 128 rfl rfl ?c1 ?c2 ?c3 ?c4 ?c5 ?_)
          case c1 => rfl
          case c2 => rfl
          case c3 => rw [hz2]; omega
          case c4 => unfold maxLen; omega
          case c5 => exact Nat.le_refl _
          intro wm11 hown hgrow
          have hrwm11 : RowAt wm11 5 wd10.heap.size 128 (bs zeros128) := made_row hown
          have hbwm11 : Below wd10.heap.size wd10 wm11 := (Below.refl _ wd10).grown hgrow (Nat.le_refl _) (by intro k hk; cases hk)
          have hswm11 := hrwm11.src
          rw [zeros128_len] at hswm11
          clear hown hgrow
          have HM11 := Hid.mk (And.intro (HTn10.out.far hbwm11) hswm11)
          clear HTn10 hbwm11 hswm11 hrwm11
          go_wp2_with (at_make; refine wpList_make_full _ rfl _ _ 36 rfl wm11.heap.size 5 i0 (.int .u8 0) 1 Try.underlying36 hi hz0 hz1 _ _ _ _ 64 rfl rfl ?c1 ?c2 ?c3 ?c4 ?c5 ?_)
          case c1 => rfl
          case c2 => rfl
          case c3 => rw [hz2]; omega
          case c4 => unfold maxLen; omega
          case c5 => exact Nat.le_refl _
          intro wm12 hown hgrow
          have hrwm12 : RowAt wm12 5 wm11.heap.size 64 (bs zeros64) := made_row hown
          have hbwm12 : Below wm11.heap.size wm11 wm12 := (Below.refl _ wm11).grown hgrow (Nat.le_refl _) (by intro k hk; cases hk)
          have hswm12 := hrwm12.src
          rw [zeros64_len] at hswm12
          clear hown hgrow
          have HF12 : Hid (Three w wm12 wd10.heap.size 128 zeros128 wm11.heap.size 64 zeros64 gd cd ld) := by
            have hF := HM11.out.1.far hbwm12
            exact ⟨hF.below, HM11.out.2.later hbwm12, hswm12, hF.d, ns_zero, es_zero, hF.nd⟩
          clear HM11 hbwm12 hswm12 hrwm12
          go_wp2
          go_roundw
          case rel => exact ⟨j + 1, by omega, by go_num, _, _, _, _, _, _, rfl, rfl, HF12.out⟩
          case measure => simp [intOf]; omega
        · obtain rfl : E10 = 6 := hE10 (of_decide_eq_true HBo10.out)
          clear hE10 HBo10
          go_wp2_with (at_make; refine wpList_make_full _ rfl _ _ 36 rfl wd10.heap.size 5 i0 (.int .u8 0) 1 Try.underlying36 hi hz0 hz1 _ _ _ _ 128 rfl rfl ?c1 ?c2 ?c3 ?c4 ?c5 ?_)
          case c1 => rfl
          case c2 => rfl
          case c3 => rw [hz2]; omega
          case c4 => unfold maxLen; omega
          case c5 => exact Nat.le_refl _
          intro wm13 hown hgrow
          have hrwm13 : RowAt wm13 5 wd10.heap.size 128 (bs zeros128) := made_row hown
          have hbwm13 : Below wd10.heap.size wd10 wm13 := (Below.refl _ wd10).grown hgrow (Nat.le_refl _) (by intro k hk; cases hk)
          have hswm13 := hrwm13.src
          rw [zeros128_len] at hswm13
          clear hown hgrow
          have HM13 := Hid.mk (And.intro (HTn10.out.far hbwm13) hswm13)
          clear HTn10 hbwm13 hswm13 hrwm13
          go_wp2_with (at_make; refine wpList_make_full _ rfl _ _ 36 rfl wm13.heap.size 5 i0 (.int .u8 0) 1 Try.underlying36 hi hz0 hz1 _ _ _ _ 64 rfl rfl ?c1 ?c2 ?c3 ?c4 ?c5 ?_)
          case c1 => rfl
          case c2 => rfl
          case c3 => rw [hz2]; omega
          case c4 => unfold maxLen; omega
          case c5 => exact Nat.le_refl _
          intro wm14 hown hgrow
          have hrwm14 : RowAt wm14 5 wm13.heap.size 64 (bs zeros64) := made_row hown
          have hbwm14 : Below wm13.heap.size wm13 wm14 := (Below.refl _ wm13).grown hgrow (Nat.le_refl _) (by intro k hk; cases hk)
          have hswm14 := hrwm14.src
          rw [zeros64_len] at hswm14
          clear hown hgrow
          have HF14 : Hid (Three w wm14 wd10.heap.size 128 zeros128 wm13.heap.size 64 zeros64 gd cd ld) := by
            have hF := HM13.out.1.far hbwm14
            exact ⟨hF.below, HM13.out.2.later hbwm14, hswm14, hF.d, ns_zero, es_zero, hF.nd⟩
          clear HM13 hbwm14 hswm14 hrwm14
          go_wp2
          go_roundw
          case rel => exact ⟨j + 1, by omega, by go_num, _, _, _, _, _, _, rfl, rfl, HF14.out⟩
          case measure => simp [intOf]; omega
    · have hlt' : ¬ (j : Int) < 2 := by omega
      have bb15 := bring_any at_ 0 4095 wr (by omega) (by omega)
      go_wp2_with fail
      refine bb15.mono ?_
      rintro e wq15 ⟨⟨A15, rfl, A115, A215⟩, hw15⟩
      have hw15' := hw15.symm
      subst hw15'
      obtain ⟨AN15, rfl⟩ := Int.eq_ofNat_of_zero_le (show 0 ≤ A15 by omega)
      clear hw15 bb15
      have ht16 := turn_any (some ⟨gd, 0, none⟩) 512 cd ld AN15 pat wr (by omega) (by omega) HT.out.d HT.out.nd.2.1
      go_wp2_with fail
      refine ht16.mono ?_
      rintro e wt16 ⟨g16, t16, p16, rfl, hT16⟩
      generalize hB16 : decide (p16 ≠ 0) = B16
      have HBo16 := Hid.mk hB16
      clear hB16
      have HTu16 := Hid.mk hT16
      have HT16 := Hid.mk (HT.out.far (hT16.below))
      clear ht16 hT16
      have hd16 := decsuper_any (some ⟨g16, 0, none⟩) 512 512 t16 wt16 HTu16.out.src HTu16.out.bytes (by omega) (Nat.le_refl _) (fun _ => by omega)
      have hE16 : p16 ≠ 0 → (supDec t16).2.2.2 = 6 := fun h0 => sup_told HT16.out.nd HTu16.out.len HTu16.out.bytes (by omega) HTu16.out.lt h0 HTu16.out.word
      generalize supDec t16 = D16 at *
      obtain ⟨X16, Y16, Z16, E16⟩ := D16
      go_wp2_with fail
      refine hd16.mono ?_
      rintro e wd16 ⟨rfl, hbd16⟩
      have HTn16 := Hid.mk (HT16.out.far hbd16).below
      clear hd16 hbd16 HT16 HTu16 HT
      cases B16
      · clear hE16 HBo16
        go_wp2
        go_ret
        exact ⟨rfl, HTn16.out⟩
      · obtain rfl : E16 = 6 := hE16 (of_decide_eq_true HBo16.out)
        clear hE16 HBo16
        go_wp2
        go_ret
        exact ⟨rfl, HTn16.out⟩
end Go.Proofs.Ytkkmkogpbhcpmab
