import Derived.Test.YtodleeipefnadabKS26
namespace Go.Proofs.Ytodleeipefnadab
open Go.RowKit

set_option maxRecDepth 20000 in
set_option maxHeartbeats 4000000 in
theorem sealRot_any (a : Option Addr) (n c : Nat) (old : List Int) (a2 : Option Addr) (m c2 : Nat) (body : List Int) (i1 i2 i3 : Int) (w : World) (hs : Src w a n old) (hs2 : Src w a2 m body) (hb : Bytes body) (hn : n ≤ 140737488355328) (hm : m ≤ 140737488355328) :
    Calls Try.prog 5 #[.slice a n c, .slice a2 m c2, .int .i64 i1, .int .i64 i2, .int .i64 i3] w fun e w' => e = .returned (.bool true) ∧ Below w.heap.size w w' := by
  have h1 := lsector_any a n c old w hn hs
  have H2 := Hid.mk hs2
  clear hs hs2
  go_enter Try.func5, Try.ntmps5
  go_wp2_with fail
  refine h1.mono ?_
  rintro e w1 ⟨v1, rfl, ho1, hb1⟩
  obtain ⟨g1, c1, rfl, _, hr1⟩ := ho1.full (by rw [sec_len]; omega)
  have hs1 := hr1.src
  rw [sec_len] at hs1 ⊢
  have h2 := upTo_any a2 m c2 504 body w1 (by omega) (H2.out.later hb1) hm
  have HB1 := Hid.mk hb1
  have HS1 := Hid.mk hs1
  clear h1 ho1 hb1 hs1 hr1
  go_wp2_with fail
  refine h2.mono ?_
  rintro e w2 ⟨v2, rfl, ho2, hb2⟩
  obtain ⟨p2, d2, rfl, hs2, _, _⟩ := ho2.src
  have hB2 := HB1.out.trans (hb2.mono HB1.out.size)
  have htl : (body.take 504).length ≤ 504 := by rw [List.length_take]; omega
  have h3 := whole_ok (some ⟨g1, 0, none⟩) c1 (sec old) p2 (body.take 504).length d2 (body.take 504) w2 (HS1.out.later hb2) hs2 (hb.take _) htl
  have hle := turnOf_le ((sec old).getD 0 0) ((sec old).getD 511 0)
  have hfl : (sform (turnOf ((sec old).getD 0 0) ((sec old).getD 511 0)) (body.take 504)).length = 512 := sform_len htl
  have hfb : Bytes (sform (turnOf ((sec old).getD 0 0) ((sec old).getD 511 0)) (body.take 504)) := sform_bytes (hb.take _) htl (by omega)
  have hop := sopen_form (turnOf ((sec old).getD 0 0) ((sec old).getD 511 0)) (body.take 504) htl (by omega)
  generalize sform (turnOf ((sec old).getD 0 0) ((sec old).getD 511 0)) (body.take 504) = R at *
  have HB2 := Hid.mk hB2
  clear h2 ho2 hb2 hs2 hB2 HB1 HS1 hle
  generalize (body.take 504).length = K at *
  go_wp2_with fail
  refine h3.mono ?_
  rintro e w3 ⟨g, rfl, hblk, hg, hb3⟩
  have HB3 := Hid.mk (HB2.out.trans (hb3.mono HB2.out.size))
  have HR3 := Hid.mk (hblk.src0 hfl)
  have h4 := turned_any g 0 512 R i1 w3 HR3.out hfb
  clear h3 hblk hg hb3 HB2
  go_wp2_with fail
  refine h4.mono ?_
  rintro e w4 ⟨p, hp, v4, rfl, ho4, hb4⟩
  have hl4 : (sflip R p).length = 512 := (sflip_len _ _).trans hfl
  have hby4 := sflip_bytes hfb p
  obtain ⟨g4, c4, rfl, _, hr4⟩ := ho4.full (by omega)
  have hs4 := hr4.src
  rw [hl4] at hs4 ⊢
  have h5 := turned_any g4 0 c4 (sflip R p) i2 w4 hs4 hby4
  have HB4 := Hid.mk (HB3.out.trans (hb4.mono HB3.out.size))
  have HR4 := Hid.mk (HR3.out.later hb4)
  have HA4 := Hid.mk hs4
  clear h4 ho4 hb4 hr4 hs4 HB3 HR3
  go_wp2_with fail
  refine h5.mono ?_
  rintro e w5 ⟨q, hq, v5, rfl, ho5, hb5⟩
  have hl5 : (sflip (sflip R p) q).length = 512 := (sflip_len _ _).trans hl4
  have hby5 := sflip_bytes hby4 q
  obtain ⟨g5, c5, rfl, _, hr5⟩ := ho5.full (by omega)
  have hs5 := hr5.src
  rw [hl5] at hs5 ⊢
  have h6 := turned_any g5 0 c5 (sflip (sflip R p) q) i3 w5 hs5 hby5
  have HB5 := Hid.mk (HB4.out.trans (hb5.mono HB4.out.size))
  have HR5 := Hid.mk (HR4.out.later hb5)
  have HA5 := Hid.mk (HA4.out.later hb5)
  have HC5 := Hid.mk hs5
  clear h5 ho5 hb5 hr5 hs5 HB4 HR4 HA4
  go_wp2_with fail
  refine h6.mono ?_
  rintro e w6 ⟨r, hr, v6, rfl, ho6, hb6⟩
  have hl6 : (sflip (sflip (sflip R p) q) r).length = 512 := (sflip_len _ _).trans hl5
  have hby6 := sflip_bytes hby5 r
  obtain ⟨g6, c6, rfl, _, hr6⟩ := ho6.full (by omega)
  have hs6 := hr6.src
  rw [hl6] at hs6 ⊢
  have HB6 := Hid.mk (HB5.out.trans (hb6.mono HB5.out.size))
  have HR6 := Hid.mk (HR5.out.later hb6)
  have HA6 := Hid.mk (HA5.out.later hb6)
  have HC6 := Hid.mk (HC5.out.later hb6)
  have HD6 := Hid.mk hs6
  clear h6 ho6 hb6 hr6 hs6 HB5 HR5 HA5 HC5
  have ea : (sopens (sflip R p)).2 = 30 := by rw [sopens_none hl4 (rot1 hop hfl hfb hp)]
  have ec : (sopens (sflip (sflip (sflip R p) q) r)).2 = 30 := by rw [sopens_none hl6 (rot3 hop hfl hfb hp hq hr)]
  have eb : (sopens (sflip (sflip R p) q)).2 = 30 ∨ ((sopens (sflip (sflip R p) q)).2 = 0 ∧ sflip (sflip R p) q = R) := by
    by_cases hpq : p = q
    · subst hpq
      have e := sflip_twice hfb p (by omega)
      rw [e, sopens_some hfl hop]
      exact .inr ⟨rfl, rfl⟩
    · rw [sopens_none hl5 (rot2 hop hfl hfb hp hq hpq)]
      exact .inl rfl
  generalize sflip (sflip (sflip R p) q) r = C at *
  generalize sflip (sflip R p) q = B at *
  generalize sflip R p = A at *
  clear hop hp hq hr
  have k1 := ltwin_any (some ⟨g4, 0, none⟩) 512 c4 A w6 (by omega) HA6.out
  go_wp2_with fail
  refine k1.mono ?_
  rintro e w7 ⟨v7, rfl, ho7, hb7⟩
  obtain ⟨p7, c7, rfl, hs7, _, _⟩ := ho7.src
  rw [hl4] at hs7 ⊢
  have k2 := sopen_any p7 512 c7 A w7 hs7 hby4
  rw [ea] at k2
  have HB7 := Hid.mk (HB6.out.trans (hb7.mono HB6.out.size))
  have HR7 := Hid.mk (HR6.out.later hb7)
  have HC7 := Hid.mk (HC6.out.later hb7)
  have HD7 := Hid.mk (HD6.out.later hb7)
  clear k1 ho7 hb7 hs7 HB6 HR6 HC6 HD6 HA6
  go_wp2_with fail
  refine k2.mono ?_
  rintro e w8 ⟨v8, rfl, _, hb8⟩
  have HB8 := Hid.mk (HB7.out.trans (hb8.mono HB7.out.size))
  have HR8 := Hid.mk (HR7.out.later hb8)
  have HC8 := Hid.mk (HC7.out.later hb8)
  have HD8 := Hid.mk (HD7.out.later hb8)
  have k3 := ltwin_any (some ⟨g5, 0, none⟩) 512 c5 B w8 (by omega) HC8.out
  clear k2 hb8 HB7 HR7 HC7 HD7
  go_wp2_with fail
  refine k3.mono ?_
  rintro e w9 ⟨v9, rfl, ho9, hb9⟩
  obtain ⟨p9, c9, rfl, hs9, _, _⟩ := ho9.src
  rw [hl5] at hs9 ⊢
  have k4 := sopen_any p9 512 c9 B w9 hs9 hby5
  have HB9 := Hid.mk (HB8.out.trans (hb9.mono HB8.out.size))
  have HR9 := Hid.mk (HR8.out.later hb9)
  have HC9 := Hid.mk (HC8.out.later hb9)
  have HD9 := Hid.mk (HD8.out.later hb9)
  clear k3 ho9 hb9 hs9 HB8 HR8 HC8 HD8
  generalize (sopens B).2 = eb' at *
  go_wp2_with fail
  refine k4.mono ?_
  rintro e w10 ⟨v10, rfl, _, hb10⟩
  have HB10 := Hid.mk (HB9.out.trans (hb10.mono HB9.out.size))
  have HR10 := Hid.mk (HR9.out.later hb10)
  have HC10 := Hid.mk (HC9.out.later hb10)
  have HD10 := Hid.mk (HD9.out.later hb10)
  have k5 := ltwin_any (some ⟨g6, 0, none⟩) 512 c6 C w10 (by omega) HD10.out
  clear k4 hb10 HB9 HR9 HC9 HD9
  go_wp2_with fail
  refine k5.mono ?_
  rintro e w11 ⟨v11, rfl, ho11, hb11⟩
  obtain ⟨p11, c11, rfl, hs11, _, _⟩ := ho11.src
  rw [hl6] at hs11 ⊢
  have k6 := sopen_any p11 512 c11 C w11 hs11 hby6
  rw [ec] at k6
  have HB11 := Hid.mk (HB10.out.trans (hb11.mono HB10.out.size))
  have HR11 := Hid.mk (HR10.out.later hb11)
  have HC11 := Hid.mk (HC10.out.later hb11)
  clear k5 ho11 hb11 hs11 HB10 HR10 HC10 HD10
  go_wp2_with fail
  refine k6.mono ?_
  rintro e w12 ⟨v12, rfl, _, hb12⟩
  have HB12 := Hid.mk (HB11.out.trans (hb12.mono HB11.out.size))
  have HR12 := Hid.mk (HR11.out.later hb12)
  have HC12 := Hid.mk (HC11.out.later hb12)
  clear k6 hb12 HB11 HR11 HC11
  go_wp2_with fail
  refine (lnum_any _ _).mono ?_
  rintro e w' ⟨rfl, hw⟩
  have hw' := hw.symm
  subst hw'
  clear hw
  rcases eb with rfl | ⟨rfl, hBR⟩
  · go_wp2_with fail
    refine (lnum_any _ _).mono ?_
    rintro e w' ⟨rfl, hw⟩
    have hw' := hw.symm
    subst hw'
    clear hw
    go_wp2_with fail
    refine (lnum_any _ _).mono ?_
    rintro e w' ⟨rfl, hw⟩
    have hw' := hw.symm
    subst hw'
    clear hw
    go_wp2
    go_ret
    exact ⟨rfl, HB12.out⟩
  · have k7 := lsame_any (some ⟨g5, 0, none⟩) (some ⟨g, 0, none⟩) 512 512 c5 512 B R w12 (by omega) HC12.out HR12.out
    rw [decide_eq_true hBR] at k7
    clear hBR
    go_wp2_with fail
    refine (lnum_any _ _).mono ?_
    rintro e w' ⟨rfl, hw⟩
    have hw' := hw.symm
    subst hw'
    clear hw
    go_wp2_with fail
    refine k7.mono ?_
    rintro e w13 ⟨rfl, hb13⟩
    have HB13 := Hid.mk (HB12.out.trans (hb13.mono HB12.out.size))
    clear k7 hb13
    go_wp2_with fail
    refine (lnum_any _ _).mono ?_
    rintro e w' ⟨rfl, hw⟩
    have hw' := hw.symm
    subst hw'
    clear hw
    go_wp2
    go_ret
    exact ⟨rfl, HB13.out⟩
end Go.Proofs.Ytodleeipefnadab
