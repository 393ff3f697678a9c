import Derived.Test.YtodleeipefnadaaKX4
namespace Go.Proofs.Ytodleeipefnadaa
open Go.RowKit

theorem Own.full {w : World} {B : Nat} {v : Value} {l : List Int} (h : Own w B v l) (h0 : 0 < l.length) : ∃ g c, v = .slice (some ⟨g, 0, none⟩) l.length c ∧ B ≤ g ∧ RowAt w 5 g c (bs l) := h.row' h0
theorem ssplice_len (l r : List Int) (cut : Int) : (ssplice l r cut).1.length ≤ 512 := by
  unfold ssplice
  split
  · simp
  · split
    · simp
    · rw [smix_len (by omega) (by omega) (by omega)]; omega
theorem ssplice_full {l r : List Int} (hl : l.length = 512) (hr : r.length = 512) : ssplice l r 512 = (l, 0) := by
  unfold ssplice
  rw [if_neg (by omega), if_neg (by omega)]
  have e : smix l r (512 : Int).toNat = l := by
    show l.take 512 ++ r.drop 512 = l
    rw [List.take_of_length_le (by omega), List.drop_eq_nil_of_le (by omega), List.append_nil]
  rw [e]

set_option maxRecDepth 20000 in
set_option maxHeartbeats 8000000 in
theorem sealSplices_any (a : Option Addr) (n ca : Nat) (l : List Int) (a2 : Option Addr) (m cb : Nat) (r : List Int) (cut : Int) (w : World) (hs0 : Src w a n l) (hs1 : Src w a2 m r) (hn : n ≤ 140737488355328) (hm : m ≤ 140737488355328) :
    Calls Try.prog 8 #[.slice a n ca, .slice a2 m cb, .int .i64 cut] w fun e w' => e = .returned (.bool true) ∧ Below w.heap.size w w' := by
  have SA_0 := Hid.mk hs0
  have SB_0 := Hid.mk hs1
  have B_0 := Hid.mk (Below.refl w.heap.size w)
  have hln := hs0.1
  have hrn := hs1.1
  obtain ⟨A, hA⟩ : ∃ A, sec l = A := ⟨_, rfl⟩
  obtain ⟨B, hB⟩ : ∃ B, sec r = B := ⟨_, rfl⟩
  have hAl : A.length = 512 := by rw [← hA, sec_len]
  have hBl : B.length = 512 := by rw [← hB, sec_len]
  have HA := Hid.mk hA
  have HB := Hid.mk hB
  obtain ⟨X1, E1, hX1⟩ : ∃ X E, ssplice A B cut = (X, E) := ⟨_, _, rfl⟩
  have hL1 : X1.length ≤ 512 := by have := ssplice_len A B cut; rw [hX1] at this; exact this
  have HX1 := Hid.mk hX1
  obtain ⟨X2, E2, hX2⟩ : ∃ X E, ssplice l r cut = (X, E) := ⟨_, _, rfl⟩
  have hL2 : X2.length ≤ 512 := by have := ssplice_len l r cut; rw [hX2] at this; exact this
  have HX2 := Hid.mk hX2
  obtain ⟨X3, E3, hX3⟩ : ∃ X E, ssplice A r cut = (X, E) := ⟨_, _, rfl⟩
  have hL3 : X3.length ≤ 512 := by have := ssplice_len A r cut; rw [hX3] at this; exact this
  have HX3 := Hid.mk hX3
  have HX4 := Hid.mk (ssplice_full hAl hBl)
  clear hs0 hs1 hA hB hX1 hX2 hX3
  go_enter Try.func8, Try.ntmps8
  have t1 := lsector_any a n ca l w hn SA_0.out
  go_wp2_with fail
  refine t1.mono ?_
  rintro e w1 ⟨v1, rfl, ho1, hb1⟩
  obtain ⟨g1, c1, rfl, _, hr1⟩ := ho1.full (by rw [sec_len]; omega)
  have hs1 := hr1.src
  rw [sec_len] at hs1 ⊢
  rw [HA.out] at hs1
  have SA_1 := Hid.mk (SA_0.out.later hb1)
  have SB_1 := Hid.mk (SB_0.out.later hb1)
  have C_1 := Hid.mk (hs1)
  have B_1 := Hid.mk (B_0.out.trans (hb1.mono B_0.out.size))
  clear t1 hb1 B_0 SA_0 SB_0 ho1 hr1 hs1
  have t2 := lsector_any a2 m cb r w1 hm SB_1.out
  go_wp2_with fail
  refine t2.mono ?_
  rintro e w2 ⟨v2, rfl, ho2, hb2⟩
  obtain ⟨g2, c2, rfl, _, hr2⟩ := ho2.full (by rw [sec_len]; omega)
  have hs2 := hr2.src
  rw [sec_len] at hs2 ⊢
  rw [HB.out] at hs2
  have SA_2 := Hid.mk (SA_1.out.later hb2)
  have SB_2 := Hid.mk (SB_1.out.later hb2)
  have C_2 := Hid.mk (C_1.out.later hb2)
  have D_2 := Hid.mk (hs2)
  have B_2 := Hid.mk (B_1.out.trans (hb2.mono B_1.out.size))
  clear t2 hb2 B_1 SA_1 SB_1 C_1 ho2 hr2 hs2
  have t3 := splice_any (some ⟨g1, 0, none⟩) 512 c1 A (some ⟨g2, 0, none⟩) 512 c2 B cut w2 C_2.out D_2.out
  rw [HX1.out] at t3
  dsimp only at t3
  go_wp2_with fail
  refine t3.mono ?_
  rintro e w3 ⟨v3, rfl, ho3, hb3⟩
  obtain ⟨p3, c3, rfl, hs3, _, _⟩ := ho3
  have SA_3 := Hid.mk (SA_2.out.later hb3)
  have SB_3 := Hid.mk (SB_2.out.later hb3)
  have C_3 := Hid.mk (C_2.out.later hb3)
  have D_3 := Hid.mk (D_2.out.later hb3)
  have S_3 := Hid.mk (hs3)
  have B_3 := Hid.mk (B_2.out.trans (hb3.mono B_2.out.size))
  clear t3 hb3 B_2 SA_2 SB_2 C_2 D_2 hs3
  have t4 := lsector_any a n ca l w3 hn SA_3.out
  go_wp2_with fail
  refine t4.mono ?_
  rintro e w4 ⟨v4, rfl, ho4, hb4⟩
  obtain ⟨g4, c4, rfl, _, hr4⟩ := ho4.full (by rw [sec_len]; omega)
  have hs4 := hr4.src
  rw [sec_len] at hs4 ⊢
  rw [HA.out] at hs4
  have SA_4 := Hid.mk (SA_3.out.later hb4)
  have SB_4 := Hid.mk (SB_3.out.later hb4)
  have C_4 := Hid.mk (C_3.out.later hb4)
  have D_4 := Hid.mk (D_3.out.later hb4)
  have S_4 := Hid.mk (S_3.out.later hb4)
  have X_4 := Hid.mk (hs4)
  have B_4 := Hid.mk (B_3.out.trans (hb4.mono B_3.out.size))
  clear t4 hb4 B_3 SA_3 SB_3 C_3 D_3 S_3 ho4 hr4 hs4
  have t5 := lsector_any a2 m cb r w4 hm SB_4.out
  go_wp2_with fail
  refine t5.mono ?_
  rintro e w5 ⟨v5, rfl, ho5, hb5⟩
  obtain ⟨g5, c5, rfl, _, hr5⟩ := ho5.full (by rw [sec_len]; omega)
  have hs5 := hr5.src
  rw [sec_len] at hs5 ⊢
  rw [HB.out] at hs5
  have SA_5 := Hid.mk (SA_4.out.later hb5)
  have SB_5 := Hid.mk (SB_4.out.later hb5)
  have C_5 := Hid.mk (C_4.out.later hb5)
  have D_5 := Hid.mk (D_4.out.later hb5)
  have S_5 := Hid.mk (S_4.out.later hb5)
  have X_5 := Hid.mk (X_4.out.later hb5)
  have Y_5 := Hid.mk (hs5)
  have B_5 := Hid.mk (B_4.out.trans (hb5.mono B_4.out.size))
  clear t5 hb5 B_4 SA_4 SB_4 C_4 D_4 S_4 X_4 ho5 hr5 hs5
  have t6 := rsplice_any (some ⟨g4, 0, none⟩) 512 c4 A (some ⟨g5, 0, none⟩) 512 c5 B cut w5 X_5.out Y_5.out (by omega) (by omega)
  rw [HX1.out] at t6
  dsimp only at t6
  go_wp2_with fail
  refine t6.mono ?_
  rintro e w6 ⟨v6, rfl, ho6, hb6⟩
  obtain ⟨p6, c6, rfl, hs6, _, _⟩ := ho6.src
  have SA_6 := Hid.mk (SA_5.out.later hb6)
  have SB_6 := Hid.mk (SB_5.out.later hb6)
  have C_6 := Hid.mk (C_5.out.later hb6)
  have D_6 := Hid.mk (D_5.out.later hb6)
  have S_6 := Hid.mk (S_5.out.later hb6)
  have X_6 := Hid.mk (X_5.out.later hb6)
  have Y_6 := Hid.mk (Y_5.out.later hb6)
  have T_6 := Hid.mk (hs6)
  have B_6 := Hid.mk (B_5.out.trans (hb6.mono B_5.out.size))
  clear t6 hb6 B_5 SA_5 SB_5 C_5 D_5 S_5 X_5 Y_5 ho6 hs6
  clear X_6
  clear Y_6
  have t7 := lsame_any p3 p6 X1.length X1.length c3 c6 X1 X1 w6 (by omega) S_6.out T_6.out
  rw [decide_eq_true (Eq.refl X1)] at t7
  go_wp2_with fail
  refine t7.mono ?_
  rintro e w7 ⟨rfl, hb7⟩
  have SA_7 := Hid.mk (SA_6.out.later hb7)
  have SB_7 := Hid.mk (SB_6.out.later hb7)
  have C_7 := Hid.mk (C_6.out.later hb7)
  have D_7 := Hid.mk (D_6.out.later hb7)
  have S_7 := Hid.mk (S_6.out.later hb7)
  have T_7 := Hid.mk (T_6.out.later hb7)
  have B_7 := Hid.mk (B_6.out.trans (hb7.mono B_6.out.size))
  clear t7 hb7 B_6 SA_6 SB_6 C_6 D_6 S_6 T_6
  go_wp2_with fail
  refine (numX_any _ w7).mono ?_
  rintro e w' ⟨rfl, hw⟩
  have hw' := hw.symm
  subst hw'
  clear hw
  clear S_7
  clear T_7
  have t8 := lsector_any a n ca l w7 hn SA_7.out
  go_wp2_with fail
  refine t8.mono ?_
  rintro e w8 ⟨v8, rfl, ho8, hb8⟩
  obtain ⟨g8, c8, rfl, _, hr8⟩ := ho8.full (by rw [sec_len]; omega)
  have hs8 := hr8.src
  rw [sec_len] at hs8 ⊢
  rw [HA.out] at hs8
  have SA_8 := Hid.mk (SA_7.out.later hb8)
  have SB_8 := Hid.mk (SB_7.out.later hb8)
  have C_8 := Hid.mk (C_7.out.later hb8)
  have D_8 := Hid.mk (D_7.out.later hb8)
  have X_8 := Hid.mk (hs8)
  have B_8 := Hid.mk (B_7.out.trans (hb8.mono B_7.out.size))
  clear t8 hb8 B_7 SA_7 SB_7 C_7 D_7 ho8 hr8 hs8
  have t9 := lsame_any (some ⟨g1, 0, none⟩) (some ⟨g8, 0, none⟩) 512 512 c1 c8 A A w8 (by omega) C_8.out X_8.out
  rw [decide_eq_true (Eq.refl A)] at t9
  go_wp2_with fail
  refine t9.mono ?_
  rintro e w9 ⟨rfl, hb9⟩
  have SA_9 := Hid.mk (SA_8.out.later hb9)
  have SB_9 := Hid.mk (SB_8.out.later hb9)
  have C_9 := Hid.mk (C_8.out.later hb9)
  have D_9 := Hid.mk (D_8.out.later hb9)
  have X_9 := Hid.mk (X_8.out.later hb9)
  have B_9 := Hid.mk (B_8.out.trans (hb9.mono B_8.out.size))
  clear t9 hb9 B_8 SA_8 SB_8 C_8 D_8 X_8
  clear X_9
  have t10 := lsector_any a2 m cb r w9 hm SB_9.out
  go_wp2_with fail
  refine t10.mono ?_
  rintro e w10 ⟨v10, rfl, ho10, hb10⟩
  obtain ⟨g10, c10, rfl, _, hr10⟩ := ho10.full (by rw [sec_len]; omega)
  have hs10 := hr10.src
  rw [sec_len] at hs10 ⊢
  rw [HB.out] at hs10
  have SA_10 := Hid.mk (SA_9.out.later hb10)
  have SB_10 := Hid.mk (SB_9.out.later hb10)
  have C_10 := Hid.mk (C_9.out.later hb10)
  have D_10 := Hid.mk (D_9.out.later hb10)
  have X_10 := Hid.mk (hs10)
  have B_10 := Hid.mk (B_9.out.trans (hb10.mono B_9.out.size))
  clear t10 hb10 B_9 SA_9 SB_9 C_9 D_9 ho10 hr10 hs10
  have t11 := lsame_any (some ⟨g2, 0, none⟩) (some ⟨g10, 0, none⟩) 512 512 c2 c10 B B w10 (by omega) D_10.out X_10.out
  rw [decide_eq_true (Eq.refl B)] at t11
  go_wp2_with fail
  refine t11.mono ?_
  rintro e w11 ⟨rfl, hb11⟩
  have SA_11 := Hid.mk (SA_10.out.later hb11)
  have SB_11 := Hid.mk (SB_10.out.later hb11)
  have C_11 := Hid.mk (C_10.out.later hb11)
  have D_11 := Hid.mk (D_10.out.later hb11)
  have X_11 := Hid.mk (X_10.out.later hb11)
  have B_11 := Hid.mk (B_10.out.trans (hb11.mono B_10.out.size))
  clear t11 hb11 B_10 SA_10 SB_10 C_10 D_10 X_10
  clear X_11
  have t12 := ltwin_any a n ca l w11 hn SA_11.out
  go_wp2_with fail
  refine t12.mono ?_
  rintro e w12 ⟨v12, rfl, ho12, hb12⟩
  obtain ⟨p12, c12, rfl, hs12, _, _⟩ := ho12.src
  rw [hln] at hs12 ⊢
  have SA_12 := Hid.mk (SA_11.out.later hb12)
  have SB_12 := Hid.mk (SB_11.out.later hb12)
  have C_12 := Hid.mk (C_11.out.later hb12)
  have D_12 := Hid.mk (D_11.out.later hb12)
  have X_12 := Hid.mk (hs12)
  have B_12 := Hid.mk (B_11.out.trans (hb12.mono B_11.out.size))
  clear t12 hb12 B_11 SA_11 SB_11 C_11 D_11 ho12 hs12
  have t13 := ltwin_any a2 m cb r w12 hm SB_12.out
  go_wp2_with fail
  refine t13.mono ?_
  rintro e w13 ⟨v13, rfl, ho13, hb13⟩
  obtain ⟨p13, c13, rfl, hs13, _, _⟩ := ho13.src
  rw [hrn] at hs13 ⊢
  have SA_13 := Hid.mk (SA_12.out.later hb13)
  have SB_13 := Hid.mk (SB_12.out.later hb13)
  have C_13 := Hid.mk (C_12.out.later hb13)
  have D_13 := Hid.mk (D_12.out.later hb13)
  have X_13 := Hid.mk (X_12.out.later hb13)
  have Y_13 := Hid.mk (hs13)
  have B_13 := Hid.mk (B_12.out.trans (hb13.mono B_12.out.size))
  clear t13 hb13 B_12 SA_12 SB_12 C_12 D_12 X_12 ho13 hs13
  have t14 := splice_any p12 n c12 l p13 m c13 r cut w13 X_13.out Y_13.out
  rw [HX2.out] at t14
  dsimp only at t14
  go_wp2_with fail
  refine t14.mono ?_
  rintro e w14 ⟨v14, rfl, ho14, hb14⟩
  obtain ⟨p14, c14, rfl, hs14, _, _⟩ := ho14
  have SA_14 := Hid.mk (SA_13.out.later hb14)
  have SB_14 := Hid.mk (SB_13.out.later hb14)
  have C_14 := Hid.mk (C_13.out.later hb14)
  have D_14 := Hid.mk (D_13.out.later hb14)
  have X_14 := Hid.mk (X_13.out.later hb14)
  have Y_14 := Hid.mk (Y_13.out.later hb14)
  have S_14 := Hid.mk (hs14)
  have B_14 := Hid.mk (B_13.out.trans (hb14.mono B_13.out.size))
  clear t14 hb14 B_13 SA_13 SB_13 C_13 D_13 X_13 Y_13 hs14
  clear X_14
  clear Y_14
  have t15 := rsplice_any a n ca l a2 m cb r cut w14 SA_14.out SB_14.out hn hm
  rw [HX2.out] at t15
  dsimp only at t15
  go_wp2_with fail
  refine t15.mono ?_
  rintro e w15 ⟨v15, rfl, ho15, hb15⟩
  obtain ⟨p15, c15, rfl, hs15, _, _⟩ := ho15.src
  have SA_15 := Hid.mk (SA_14.out.later hb15)
  have SB_15 := Hid.mk (SB_14.out.later hb15)
  have C_15 := Hid.mk (C_14.out.later hb15)
  have D_15 := Hid.mk (D_14.out.later hb15)
  have S_15 := Hid.mk (S_14.out.later hb15)
  have T_15 := Hid.mk (hs15)
  have B_15 := Hid.mk (B_14.out.trans (hb15.mono B_14.out.size))
  clear t15 hb15 B_14 SA_14 SB_14 C_14 D_14 S_14 ho15 hs15
  have t16 := lsame_any p14 p15 X2.length X2.length c14 c15 X2 X2 w15 (by omega) S_15.out T_15.out
  rw [decide_eq_true (Eq.refl X2)] at t16
  go_wp2_with fail
  refine t16.mono ?_
  rintro e w16 ⟨rfl, hb16⟩
  have SA_16 := Hid.mk (SA_15.out.later hb16)
  have SB_16 := Hid.mk (SB_15.out.later hb16)
  have C_16 := Hid.mk (C_15.out.later hb16)
  have D_16 := Hid.mk (D_15.out.later hb16)
  have S_16 := Hid.mk (S_15.out.later hb16)
  have T_16 := Hid.mk (T_15.out.later hb16)
  have B_16 := Hid.mk (B_15.out.trans (hb16.mono B_15.out.size))
  clear t16 hb16 B_15 SA_15 SB_15 C_15 D_15 S_15 T_15
  go_wp2_with fail
  refine (numX_any _ w16).mono ?_
  rintro e w' ⟨rfl, hw⟩
  have hw' := hw.symm
  subst hw'
  clear hw
  clear S_16
  clear T_16
  have t17 := ltwin_any a2 m cb r w16 hm SB_16.out
  go_wp2_with fail
  refine t17.mono ?_
  rintro e w17 ⟨v17, rfl, ho17, hb17⟩
  obtain ⟨p17, c17, rfl, hs17, _, _⟩ := ho17.src
  rw [hrn] at hs17 ⊢
  have SA_17 := Hid.mk (SA_16.out.later hb17)
  have SB_17 := Hid.mk (SB_16.out.later hb17)
  have C_17 := Hid.mk (C_16.out.later hb17)
  have D_17 := Hid.mk (D_16.out.later hb17)
  have Y_17 := Hid.mk (hs17)
  have B_17 := Hid.mk (B_16.out.trans (hb17.mono B_16.out.size))
  clear t17 hb17 B_16 SA_16 SB_16 C_16 D_16 ho17 hs17
  have t18 := splice_any (some ⟨g1, 0, none⟩) 512 c1 A p17 m c17 r cut w17 C_17.out Y_17.out
  rw [HX3.out] at t18
  dsimp only at t18
  go_wp2_with fail
  refine t18.mono ?_
  rintro e w18 ⟨v18, rfl, ho18, hb18⟩
  obtain ⟨p18, c18, rfl, hs18, _, _⟩ := ho18
  have SA_18 := Hid.mk (SA_17.out.later hb18)
  have SB_18 := Hid.mk (SB_17.out.later hb18)
  have C_18 := Hid.mk (C_17.out.later hb18)
  have D_18 := Hid.mk (D_17.out.later hb18)
  have Y_18 := Hid.mk (Y_17.out.later hb18)
  have S_18 := Hid.mk (hs18)
  have B_18 := Hid.mk (B_17.out.trans (hb18.mono B_17.out.size))
  clear t18 hb18 B_17 SA_17 SB_17 C_17 D_17 Y_17 hs18
  clear Y_18
  have t19 := lsector_any a n ca l w18 hn SA_18.out
  go_wp2_with fail
  refine t19.mono ?_
  rintro e w19 ⟨v19, rfl, ho19, hb19⟩
  obtain ⟨g19, c19, rfl, _, hr19⟩ := ho19.full (by rw [sec_len]; omega)
  have hs19 := hr19.src
  rw [sec_len] at hs19 ⊢
  rw [HA.out] at hs19
  have SA_19 := Hid.mk (SA_18.out.later hb19)
  have SB_19 := Hid.mk (SB_18.out.later hb19)
  have C_19 := Hid.mk (C_18.out.later hb19)
  have D_19 := Hid.mk (D_18.out.later hb19)
  have S_19 := Hid.mk (S_18.out.later hb19)
  have X_19 := Hid.mk (hs19)
  have B_19 := Hid.mk (B_18.out.trans (hb19.mono B_18.out.size))
  clear t19 hb19 B_18 SA_18 SB_18 C_18 D_18 S_18 ho19 hr19 hs19
  have t20 := rsplice_any (some ⟨g19, 0, none⟩) 512 c19 A a2 m cb r cut w19 X_19.out SB_19.out (by omega) hm
  rw [HX3.out] at t20
  dsimp only at t20
  go_wp2_with fail
  refine t20.mono ?_
  rintro e w20 ⟨v20, rfl, ho20, hb20⟩
  obtain ⟨p20, c20, rfl, hs20, _, _⟩ := ho20.src
  have SA_20 := Hid.mk (SA_19.out.later hb20)
  have SB_20 := Hid.mk (SB_19.out.later hb20)
  have C_20 := Hid.mk (C_19.out.later hb20)
  have D_20 := Hid.mk (D_19.out.later hb20)
  have S_20 := Hid.mk (S_19.out.later hb20)
  have X_20 := Hid.mk (X_19.out.later hb20)
  have T_20 := Hid.mk (hs20)
  have B_20 := Hid.mk (B_19.out.trans (hb20.mono B_19.out.size))
  clear t20 hb20 B_19 SA_19 SB_19 C_19 D_19 S_19 X_19 ho20 hs20
  clear X_20
  have t21 := lsame_any p18 p20 X3.length X3.length c18 c20 X3 X3 w20 (by omega) S_20.out T_20.out
  rw [decide_eq_true (Eq.refl X3)] at t21
  go_wp2_with fail
  refine t21.mono ?_
  rintro e w21 ⟨rfl, hb21⟩
  have SA_21 := Hid.mk (SA_20.out.later hb21)
  have SB_21 := Hid.mk (SB_20.out.later hb21)
  have C_21 := Hid.mk (C_20.out.later hb21)
  have D_21 := Hid.mk (D_20.out.later hb21)
  have S_21 := Hid.mk (S_20.out.later hb21)
  have T_21 := Hid.mk (T_20.out.later hb21)
  have B_21 := Hid.mk (B_20.out.trans (hb21.mono B_20.out.size))
  clear t21 hb21 B_20 SA_20 SB_20 C_20 D_20 S_20 T_20
  go_wp2_with fail
  refine (numX_any _ w21).mono ?_
  rintro e w' ⟨rfl, hw⟩
  have hw' := hw.symm
  subst hw'
  clear hw
  clear S_21
  clear T_21
  have t22 := splice_any (some ⟨g1, 0, none⟩) 512 c1 A (some ⟨g2, 0, none⟩) 512 c2 B 512 w21 C_21.out D_21.out
  rw [HX4.out] at t22
  dsimp only at t22
  go_wp2_with fail
  refine t22.mono ?_
  rintro e w22 ⟨v22, rfl, ho22, hb22⟩
  obtain ⟨p22, c22, rfl, hs22, _, _⟩ := ho22
  have SA_22 := Hid.mk (SA_21.out.later hb22)
  have SB_22 := Hid.mk (SB_21.out.later hb22)
  have C_22 := Hid.mk (C_21.out.later hb22)
  have D_22 := Hid.mk (D_21.out.later hb22)
  have S_22 := Hid.mk (hs22)
  have B_22 := Hid.mk (B_21.out.trans (hb22.mono B_21.out.size))
  clear t22 hb22 B_21 SA_21 SB_21 C_21 D_21 hs22
  go_wp2_with fail
  refine (numX_any _ w22).mono ?_
  rintro e w' ⟨rfl, hw⟩
  have hw' := hw.symm
  subst hw'
  clear hw
  have t23 := lsector_any a n ca l w22 hn SA_22.out
  go_wp2_with fail
  refine t23.mono ?_
  rintro e w23 ⟨v23, rfl, ho23, hb23⟩
  obtain ⟨g23, c23, rfl, _, hr23⟩ := ho23.full (by rw [sec_len]; omega)
  have hs23 := hr23.src
  rw [sec_len] at hs23 ⊢
  rw [HA.out] at hs23
  have SA_23 := Hid.mk (SA_22.out.later hb23)
  have SB_23 := Hid.mk (SB_22.out.later hb23)
  have C_23 := Hid.mk (C_22.out.later hb23)
  have D_23 := Hid.mk (D_22.out.later hb23)
  have S_23 := Hid.mk (S_22.out.later hb23)
  have X_23 := Hid.mk (hs23)
  have B_23 := Hid.mk (B_22.out.trans (hb23.mono B_22.out.size))
  clear t23 hb23 B_22 SA_22 SB_22 C_22 D_22 S_22 ho23 hr23 hs23
  have S512 := S_23.out
  rw [hAl] at S512
  have S5_23 := Hid.mk S512
  clear S512
  have t24 := lsame_any p22 (some ⟨g23, 0, none⟩) 512 512 c22 c23 A A w23 (by omega) S5_23.out X_23.out
  rw [decide_eq_true (Eq.refl A)] at t24
  go_wp2_with fail
  refine t24.mono ?_
  rintro e w24 ⟨rfl, hb24⟩
  have SA_24 := Hid.mk (SA_23.out.later hb24)
  have SB_24 := Hid.mk (SB_23.out.later hb24)
  have C_24 := Hid.mk (C_23.out.later hb24)
  have D_24 := Hid.mk (D_23.out.later hb24)
  have S_24 := Hid.mk (S_23.out.later hb24)
  have X_24 := Hid.mk (X_23.out.later hb24)
  have S5_24 := Hid.mk (S5_23.out.later hb24)
  have B_24 := Hid.mk (B_23.out.trans (hb24.mono B_23.out.size))
  clear t24 hb24 B_23 SA_23 SB_23 C_23 D_23 S_23 X_23 S5_23
  go_wp2
  go_ret
  exact ⟨rfl, B_24.out⟩
end Go.Proofs.Ytodleeipefnadaa
