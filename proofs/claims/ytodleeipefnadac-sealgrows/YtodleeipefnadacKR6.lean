import Derived.Test.YtodleeipefnadacKR3
namespace Go.Proofs.Ytodleeipefnadac
open Go.RowKit

set_option maxRecDepth 20000 in
set_option maxHeartbeats 8000000 in
theorem renews_c0 (bl ol cl : Nat) (l : List Int) (br or' cr : Nat) (r : List Int) (a3 : Option Addr) (e3 : Nat) (dt : List Int) (num : Int) (cut : Nat) (w : World) (hs : Src w (some ⟨bl, ol, none⟩) 512 l) (hs2 : Src w (some ⟨br, or', none⟩) 512 r) (hs3 : Src w a3 dt.length dt) (hl : Bytes l) (hr : Bytes r) (hdt : Bytes dt) (hq : dt.length ≤ 496) (hhi : num ≤ 9223372036854775807) (N : Nat) (hnum : num = (N : Int)) (hN1 : 1 ≤ N) (R : List Int) (t : Nat) (ht : t ≤ 2) (hR : R = sform t (bytes8 N ++ dt)) (hne : ((t : Nat) : Int) ≠ l.getD 0 0 ∧ ((t : Nat) : Int) ≠ l.getD 511 0) (hsr : srenew l r num dt = (0, R, 0)) (hE : (snewest l r).2.2.2 = 0) (hA : (snewest l r).1 = 1) (hgt : (snewest l r).2.1 < N) (hc : cut ≤ 512) :
    Calls Try.prog 16 #[.slice (some ⟨bl, ol, none⟩) 512 cl, .slice (some ⟨br, or', none⟩) 512 cr, .int .i64 num, .slice a3 dt.length e3, .int .i64 (cut : Int), .bool false] w (RenewsOk w l r 0 N dt R) := by
  have HL := Hid.mk (fun w' (hb : Below w.heap.size w w') => hs.later hb)
  have HR := Hid.mk (fun w' (hb : Below w.heap.size w w') => hs2.later hb)
  have HD := Hid.mk (fun w' (hb : Below w.heap.size w w') => hs3.later hb)
  have hll := hs.1
  have hrl := hs2.1
  have h1 := ask_any (some ⟨bl, ol, none⟩) 512 cl l (some ⟨br, or', none⟩) 512 cr r w hs hs2 hl hr (by omega) (by omega)
  obtain ⟨dl, hdl⟩ : ∃ dl, dl = dt.length := ⟨_, rfl⟩
  rw [← hdl] at hq HD ⊢
  have HDL := Hid.mk hdl
  clear hdl
  have Hsr := Hid.mk hsr
  have hqd : dt.length ≤ 496 := by rw [← HDL.out]; exact hq
  have hNm : N < 9223372036854775808 := by omega
  have hRl : R.length = 512 := by rw [hR]; exact sform_len (by rw [List.length_append, bytes8_len]; omega)
  have hRb : Bytes R := by rw [hR]; exact sform_bytes ((bytes8_bytes N).append hdt) (by rw [List.length_append, bytes8_len]; omega) (by omega)
  have hslot : 0 = if (snewest l r).2.2.2 = 0 ∧ (snewest l r).1 = 0 then 1 else 0 := by rw [hE, hA]; rfl
  have hpn := pair_new hs.1 hs2.1 hNm hN1 hqd hgt (t := (t : Int)) (by omega) 0 hslot
  rw [← hR] at hpn
  have htn := torn (o := l) hs.1 hne.1 hne.2 (body := bytes8 N ++ dt) (by rw [List.length_append, bytes8_len]; omega) hc
  rw [← hR] at htn
  have hMl : (smix l R cut).length = 512 := smix_len hs.1 hRl hc
  have hMb : Bytes (smix l R cut) := smix_bytes hl hRb cut
  have hM : snewest (sput l r 0 (smix l R cut)).1 (sput l r 0 (smix l R cut)).2 = (0, N, dt, 0) ∨ snewest (sput l r 0 (smix l R cut)).1 (sput l r 0 (smix l R cut)).2 = snewest l r := by
    rcases htn.1 with h | h | h
    · right; rw [h]; rfl
    · left; rw [h]; exact hpn
    · right; exact pair_old hs.1 hs2.1 hMl (sanchor_short (.inl h)) 0 hslot
  have hput : ∀ X : List Int, sput l r 0 X = (X, r) := fun _ => rfl
  rw [hput] at hpn hM
  dsimp only at hpn hM
  have hgt2 : (((snewest l r).2.1 : Nat) : Int) < num := by omega
  generalize hT : snewest l r = T at *
  obtain ⟨A, B, D, E⟩ := T
  dsimp only at h1 hE hA hgt hpn hM hgt2
  subst hE
  subst hA
  have h1n : 1 ≤ num := by omega
  have HN := Hid.mk hnum
  have HM := Hid.mk hM
  have Hpn := Hid.mk hpn
  obtain ⟨MX, hMX⟩ : ∃ MX, MX = smix l R cut := ⟨_, rfl⟩
  rw [← hMX] at hMl hMb HM
  have HMX := Hid.mk hMX
  have HT := Hid.mk hT
  have hDl : D.length ≤ 512 := by have := snewest_len l r; rw [HT.out] at this; exact this
  clear hnum hM hpn hslot htn hgt hN1 hR hne hsr hMX hput hT hNm ht hqd
  clear hs hs2 hs3
  go_enter Try.func16, Try.ntmps16
  go_wp2_with fail
  refine h1.mono ?_
  rintro e w1 ⟨wp, wc, rfl, hsw, hb1, _⟩
  obtain ⟨WD, hWD⟩ : ∃ WD, WD = D.length := ⟨_, rfl⟩
  rw [← hWD] at hsw hDl ⊢
  have HWD := Hid.mk hWD
  clear hWD
  rw [show (((1 : Nat)) : Int) = 1 by rfl, show (((0 : Nat)) : Int) = 0 by rfl]
  have hq1 : (w1.alloc (.cells #[.int .i64 1, .int .i64 (B : Int), .slice wp WD wc, .int .i64 0] 42)).heap[w1.heap.size]? = some (.cells #[.int .i64 1, .int .i64 (B : Int), .slice wp WD wc, .int .i64 0] 42 (0, 0)) := heap_alloc_new _ _
  have hb2 : Below w1.heap.size w1 (w1.alloc (.cells #[.int .i64 1, .int .i64 (B : Int), .slice wp WD wc, .int .i64 0] 42)) := (Below.refl _ w1).alloc (Nat.le_refl _) _
  have HB2 := Hid.mk (hb1.trans (hb2.mono hb1.size))
  have HSW2 := Hid.mk (hsw.later hb2)
  have HQ2 := Hid.mk hq1
  obtain ⟨w2, hw2⟩ : ∃ w2, w2 = w1.alloc (.cells #[.int .i64 1, .int .i64 (B : Int), .slice wp WD wc, .int .i64 0] 42) := ⟨_, rfl⟩
  rw [← hw2] at HB2 HSW2 HQ2
  have HW2 := Hid.mk hw2
  have t1 := ltwin_any (some ⟨bl, ol, none⟩) 512 cl l w2 (by omega) (HL.out w2 HB2.out)
  clear h1 hb1 hb2 hq1 hsw hw2
  go_wp2_with fail
  rw [← HW2.out]
  refine t1.mono ?_
  rintro e w3 ⟨v3, rfl, ho3, hb3⟩
  obtain ⟨p3, c3, rfl, hs3, _, _⟩ := ho3.src
  rw [hll] at hs3 ⊢
  have HZ3 := Hid.mk hb3
  have HS3 := Hid.mk hs3
  have t2 := ltwin_any (some ⟨br, or', none⟩) 512 cr r w3 (by omega) (HR.out w3 (HB2.out.trans (hb3.mono HB2.out.size)))
  clear t1 ho3 hb3 hs3 HW2
  go_wp2_with fail
  refine t2.mono ?_
  rintro e w4 ⟨v4, rfl, ho4, hb4⟩
  obtain ⟨p4, c4, rfl, hs4, _, _⟩ := ho4.src
  rw [hrl] at hs4 ⊢
  have HZ4 := Hid.mk (HZ3.out.trans (hb4.mono HZ3.out.size))
  have HS34 := Hid.mk (HS3.out.later hb4)
  have HS4 := Hid.mk hs4
  have t3 := ltwin_any a3 dl e3 dt w4 (by omega) (HD.out w4 (HB2.out.trans (HZ4.out.mono HB2.out.size)))
  clear t2 ho4 hb4 hs4 HZ3 HS3
  go_wp2_with fail
  refine t3.mono ?_
  rintro e w5 ⟨v5, rfl, ho5, hb5⟩
  obtain ⟨p5, c5, rfl, hs5, _, _⟩ := ho5.src
  have hcap := ho5.capz
  rw [← HDL.out] at hs5 ⊢
  have HZ5 := Hid.mk (HZ4.out.trans (hb5.mono HZ4.out.size))
  have t4 := renew_any p3 512 c3 l p4 512 c4 r p5 dl c5 dt num w5 (HS34.out.later hb5) (HS4.out.later hb5) hl hr hs5 hdt hcap hhi
  rw [Hsr.out] at t4
  dsimp only at t4
  clear t3 ho5 hb5 hs5 hcap HZ4 HS34 HS4
  go_wp2_with fail
  refine t4.mono ?_
  rintro e w6 ⟨v6, rfl, hl6, hb6⟩
  have HZ6 := Hid.mk (HZ5.out.trans (hb6.mono HZ5.out.size))
  have hq6 := (HZ6.out.block _ (Array.getElem?_eq_some_iff.1 HQ2.out).1).trans HQ2.out
  have x0 : w6.cell? ⟨w1.heap.size, 0, none⟩ = some (.int .i64 1) := cell_of_block hq6 (j := 0) rfl
  have x1 : w6.cell? ⟨w1.heap.size, 1, none⟩ = some (.int .i64 (B : Int)) := cell_of_block hq6 (j := 1) rfl
  have x3 : w6.cell? ⟨w1.heap.size, 3, none⟩ = some (.int .i64 0) := cell_of_block hq6 (j := 3) rfl
  obtain ⟨p6, c6, rfl, hs6, _, _⟩ := hl6
  rw [hRl] at hs6 ⊢
  obtain ⟨b6, o6, rfl⟩ := src_spot hs6 (by omega)
  have HS6 := Hid.mk (fun w' (hb : Below w6.heap.size w6 w') => hs6.later hb)
  clear t4 hb6 HZ5 hs6
  go_wp2_with fail
  refine (lnum_any _ _).mono ?_
  rintro e w' ⟨rfl, hw⟩
  have hw' := hw.symm
  subst hw'
  clear hw
  have hb7 : Below w6.heap.size w6 (w6.alloc (.cells #[.int .i64 0, .int .i64 num, .slice a3 dl e3, .int .i64 0] 42)) := (Below.refl _ w6).alloc (Nat.le_refl _) _
  have hq7 : (w6.alloc (.cells #[.int .i64 0, .int .i64 num, .slice a3 dl e3, .int .i64 0] 42)).heap[w6.heap.size]? = some (.cells #[.int .i64 0, .int .i64 num, .slice a3 dl e3, .int .i64 0] 42 (0, 0)) := heap_alloc_new _ _
  have HB6 := Hid.mk (HB2.out.trans (HZ6.out.mono HB2.out.size))
  have hz12 := (Array.getElem?_eq_some_iff.1 HQ2.out).1
  have hz26 := HZ6.out.size
  go_wp2_with fail
  obtain ⟨w7, hw7⟩ : ∃ w7, w7 = w6.alloc (.cells #[.int .i64 0, .int .i64 num, .slice a3 dl e3, .int .i64 0] 42) := ⟨_, rfl⟩
  rw [← hw7] at hb7 hq7 ⊢
  have HB7 := Hid.mk (HB6.out.trans (hb7.mono HB6.out.size))
  have HQ7 := Hid.mk hq7
  have HQW7 := Hid.mk ((hb7.block _ (Array.getElem?_eq_some_iff.1 hq6).1).trans hq6)
  have HSR7 := Hid.mk (fun w' (hb : Below w7.heap.size w7 w') => HS6.out w' (hb7.trans (hb.mono hb7.size)))
  have HSW7 := Hid.mk (fun w' (hb : Below w7.heap.size w7 w') => ((HSW2.out.later HZ6.out).later hb7).later hb)
  have hz67 : w6.heap.size < w7.heap.size := by rw [hw7]; simp
  clear hb7 hq7 hw7 HS6 HB6 HZ6 HB2 HSW2 HQ2 x0 x1 x3 hq6
  refine (lpair0 _ _ _ _).mono ?_
  rintro e w' ⟨rfl, hw⟩
  have hw' := hw.symm
  subst hw'
  clear hw
  have t5 := ask_any (some ⟨b6, o6, none⟩) 512 c6 R (some ⟨br, or', none⟩) 512 cr r w7 (HSR7.out w7 (Below.refl _ _)) (HR.out w7 HB7.out) hRb hr (by omega) (by omega)
  rw [Hpn.out] at t5
  dsimp only at t5
  rw [← HN.out, ← HDL.out] at t5
  go_wp2_with fail
  refine t5.mono ?_
  rintro e w8 ⟨p8, c8, rfl, hs8, hb8, _⟩
  rw [show ((((0 : Nat))) : Int) = 0 by rfl]
  have hb9 : Below w8.heap.size w8 (w8.alloc (.cells #[.int .i64 0, .int .i64 num, .slice p8 dl c8, .int .i64 0] 42)) := (Below.refl _ w8).alloc (Nat.le_refl _) _
  have hq9 : (w8.alloc (.cells #[.int .i64 0, .int .i64 num, .slice p8 dl c8, .int .i64 0] 42)).heap[w8.heap.size]? = some (.cells #[.int .i64 0, .int .i64 num, .slice p8 dl c8, .int .i64 0] 42 (0, 0)) := heap_alloc_new _ _
  have hZ9 := hb8.trans (hb9.mono hb8.size)
  have hn9 := (hZ9.block _ (Array.getElem?_eq_some_iff.1 HQ7.out).1).trans HQ7.out
  have hS9 := hs8.later hb9
  clear t5 hs8
  have t6 := alike_any 0 N 0 0 N 0 dt dt p8 c8 a3 e3 _ (by rw [← HDL.out]; exact hS9) (by rw [← HDL.out]; exact HD.out _ (HB7.out.trans (hZ9.mono HB7.out.size))) (by rw [← HDL.out]; omega)
  rw [decide_eq_true rfl, ← HN.out, ← HDL.out, show ((((0 : Nat))) : Int) = 0 by rfl] at t6
  have y0 := cell_of_block hn9 (j := 0) (u := .int .i64 0) rfl
  have y1 := cell_of_block hn9 (j := 1) (u := .int .i64 num) rfl
  have y2 := cell_of_block hn9 (j := 2) (u := .slice a3 dl e3) rfl
  have y3 := cell_of_block hn9 (j := 3) (u := .int .i64 0) rfl
  obtain ⟨w9, hw9⟩ : ∃ w9, w9 = w8.alloc (.cells #[.int .i64 0, .int .i64 num, .slice p8 dl c8, .int .i64 0] 42) := ⟨_, rfl⟩
  rw [← hw9] at hb9 hq9 hZ9 hn9 t6
  have HW9 := Hid.mk hw9
  have HZ9 := Hid.mk hZ9
  have HQ9 := Hid.mk hq9
  have hz8 : w7.heap.size ≤ w8.heap.size := hb8.size
  have hz89 : w8.heap.size < w9.heap.size := by rw [hw9]; simp
  clear hb8 hb9 hS9 hn9 hq9 hZ9 hw9
  go_wp2_with fail
  rw [← HW9.out]
  refine t6.mono ?_
  rintro e w10 ⟨rfl, hb10⟩
  have HZ10 := Hid.mk (HZ9.out.trans (hb10.mono HZ9.out.size))
  have HQ10 := Hid.mk ((hb10.block _ (Array.getElem?_eq_some_iff.1 HQ9.out).1).trans HQ9.out)
  have hz910 := hb10.size
  clear t6 hb10 HZ9 HQ9 y0 y1 y2 y3 HW9
  have t7 := lmix_any bl ol cl b6 o6 c6 cut l R w10 hc (HL.out w10 (HB7.out.trans (HZ10.out.mono HB7.out.size))) (HSR7.out w10 HZ10.out)
  go_wp2_with fail
  refine t7.mono ?_
  rintro e w11 ⟨v11, rfl, ho11, hb11⟩
  obtain ⟨g11, c11, rfl, hg11, hr11⟩ := ho11.full (by rw [smix_len hll hRl hc]; omega)
  have hs11 := hr11.src
  rw [smix_len hll hRl hc] at hs11 ⊢
  have HZ11 := Hid.mk (HZ10.out.trans (hb11.mono HZ10.out.size))
  have HQ11 := Hid.mk ((hb11.block _ (Array.getElem?_eq_some_iff.1 HQ10.out).1).trans HQ10.out)
  have hz1011 := hb11.size
  rw [← HMX.out] at hs11
  have HSM := Hid.mk (fun w' (hb : Below w11.heap.size w11 w') => hs11.later hb)
  have HG := Hid.mk hg11
  clear t7 ho11 hr11 hs11 hb11 hg11 HZ10 HQ10
  go_wp2_with fail
  refine (lpair0 _ _ _ _).mono ?_
  rintro e w' ⟨rfl, hw⟩
  have hw' := hw.symm
  subst hw'
  clear hw
  have t8 := ask_any (some ⟨g11, 0, none⟩) 512 c11 MX (some ⟨br, or', none⟩) 512 cr r w11 (HSM.out w11 (Below.refl _ _)) (HR.out w11 (HB7.out.trans (HZ11.out.mono HB7.out.size))) hMb hr (by omega) (by omega)
  have hFl := snewest_len MX r
  generalize hF : snewest MX r = F at *
  obtain ⟨FA, FB, FD, FE⟩ := F
  dsimp only at t8 hFl
  have HM2 := Hid.mk HM.out
  have HFF := Hid.mk hF
  clear HM hF
  go_wp2_with fail
  refine t8.mono ?_
  rintro e w13 ⟨p13, c13, rfl, hs13, hb13, hx13⟩
  have hq13 := (hb13.block _ (Array.getElem?_eq_some_iff.1 HQ11.out).1).trans HQ11.out
  have hZ13 := HZ11.out.trans (hb13.mono HZ11.out.size)
  have hn13 := (hZ13.block _ (Array.getElem?_eq_some_iff.1 HQ7.out).1).trans HQ7.out
  have hw13 := (hZ13.block _ (Array.getElem?_eq_some_iff.1 HQW7.out).1).trans HQW7.out
  have hz13 := hb13.size
  obtain ⟨fl, hfl⟩ : ∃ fl, fl = FD.length := ⟨_, rfl⟩
  rw [← hfl] at hs13 ⊢
  have hset := set4 (x := .int .i64 (FA : Int)) (y := .int .i64 (FB : Int)) (z := .slice p13 fl c13) (u := .int .i64 (FE : Int)) hq13
  have hkp := keeps4 w13 w8.heap.size (.int .i64 (FA : Int)) (.int .i64 (FB : Int)) (.slice p13 fl c13) (.int .i64 (FE : Int))
  have e0 := cell_of_block hq13 (j := 0) rfl
  have e1 := cell_of_block hq13 (j := 1) rfl
  have e2 := cell_of_block hq13 (j := 2) rfl
  have e3' := cell_of_block hq13 (j := 3) rfl
  have f0 := frozen_of_block hq13 0
  have f1 := frozen_of_block hq13 1
  have f2 := frozen_of_block hq13 2
  have f3 := frozen_of_block hq13 3
  have hs14 := hs13.ne hkp (fun x hx => by have := hx13 x hx; omega)
  have hM14 := (HSM.out w13 hb13).ne hkp (fun x hx => by cases hx; have := HG.out; simp only; omega)
  have HM14 := Hid.mk hM14
  have hZ14 := hZ13.trans (hkp.below (fun j hj => by omega) hZ13.size)
  have hn14 := (hkp.block _ (Array.getElem?_eq_some_iff.1 hn13).1 (by omega)).trans hn13
  have hw14 := (hkp.block _ (Array.getElem?_eq_some_iff.1 hw13).1 (by omega)).trans hw13
  have hB14 := HB7.out.trans (hZ14.mono HB7.out.size)
  have u0 := cell_of_block hset (j := 0) (u := .int .i64 (FA : Int)) rfl
  have u1 := cell_of_block hset (j := 1) (u := .int .i64 (FB : Int)) rfl
  have u2 := cell_of_block hset (j := 2) (u := .slice p13 fl c13) rfl
  have u3 := cell_of_block hset (j := 3) (u := .int .i64 (FE : Int)) rfl
  have y0 := cell_of_block hn14 (j := 0) (u := .int .i64 0) rfl
  have y1 := cell_of_block hn14 (j := 1) (u := .int .i64 num) rfl
  have y2 := cell_of_block hn14 (j := 2) (u := .slice a3 dl e3) rfl
  have y3 := cell_of_block hn14 (j := 3) (u := .int .i64 0) rfl
  have t9 := alike_any FA FB FE 0 N 0 FD dt p13 c13 a3 e3 _ (by rw [← hfl]; exact hs14) (by rw [← HDL.out]; exact HD.out _ hB14) (by omega)
  rw [← HN.out, ← HDL.out, ← hfl, show ((((0 : Nat))) : Int) = 0 by rfl] at t9
  have HFL := Hid.mk hfl
  have HS14 := Hid.mk hs14
  have HZ14 := Hid.mk hZ14
  have HB14 := Hid.mk hB14
  have HW14 := Hid.mk hw14
  have HSET := Hid.mk hset
  have hsz14 := hkp.size
  clear t8 hs13 hb13 hx13 hq13 hZ13 hn13 hw13 hset hkp hs14 hM14 hZ14 hn14 hw14 hB14 hfl HQ11 HZ11
  by_cases hnow : (FA, FB, FD, FE) = (0, N, dt, 0)
  · rw [decide_eq_true hnow] at t9
    have HR1 : Hid (snewest (sput l r 0 MX).1 (sput l r 0 MX).2 = (0, N, dt, 0) ∨ snewest (sput l r 0 MX).1 (sput l r 0 MX).2 = snewest l r) := .inl (HFF.out.trans hnow)
    clear hnow HM2
    go_wp2_with fail
    refine t9.mono ?_
    rintro e w15 ⟨rfl, hb15⟩
    have hZ15 := HZ14.out.trans (hb15.mono (Nat.le_trans HZ14.out.size (Nat.le_refl _)))
    have HH := Hid.mk (And.intro (HSR7.out _ hZ15) (HB7.out.trans (hZ15.mono HB7.out.size)))
    have HSM15 := Hid.mk (HM14.out.later hb15)
    go_wp2
    refine bodyPost_ret (results_tmp4 (P := Try.prog) rfl _ _) rfl ?_
    exact RenewsOk.mk' (by rfl) HH.out.1 HSM15.out hMb HR1.out HH.out.2
  · have hwas := HM2.out.resolve_left hnow
    rw [decide_eq_false hnow] at t9
    have HR1 : Hid (snewest (sput l r 0 MX).1 (sput l r 0 MX).2 = (0, N, dt, 0) ∨ snewest (sput l r 0 MX).1 (sput l r 0 MX).2 = snewest l r) := .inr (HFF.out.trans (hwas.trans HT.out.symm))
    clear hnow HM2
    go_wp2_with fail
    refine t9.mono ?_
    rintro e w15 ⟨rfl, hb15⟩
    have hZ15 := HZ14.out.trans (hb15.mono (Nat.le_trans HZ14.out.size (Nat.le_refl _)))
    have hset15 := (hb15.block _ (Array.getElem?_eq_some_iff.1 HSET.out).1).trans HSET.out
    have hw15 := (hb15.block _ (Array.getElem?_eq_some_iff.1 HW14.out).1).trans HW14.out
    have k0 := cell_of_block hset15 (j := 0) (u := .int .i64 (FA : Int)) rfl
    have k1 := cell_of_block hset15 (j := 1) (u := .int .i64 (FB : Int)) rfl
    have k2 := cell_of_block hset15 (j := 2) (u := .slice p13 fl c13) rfl
    have k3 := cell_of_block hset15 (j := 3) (u := .int .i64 (FE : Int)) rfl
    have z0 := cell_of_block hw15 (j := 0) (u := .int .i64 1) rfl
    have z1 := cell_of_block hw15 (j := 1) (u := .int .i64 (B : Int)) rfl
    have z2 := cell_of_block hw15 (j := 2) (u := .slice wp WD wc) rfl
    have z3 := cell_of_block hw15 (j := 3) (u := .int .i64 0) rfl
    have t10 := alike_any FA FB FE 1 B 0 FD D p13 c13 wp wc w15 (by rw [← HFL.out]; exact HS14.out.later hb15) (by rw [← HWD.out]; exact HSW7.out w15 hZ15) (by omega)
    rw [decide_eq_true hwas, ← HFL.out, ← HWD.out, show (((1 : Nat)) : Int) = 1 by rfl, show (((0 : Nat)) : Int) = 0 by rfl] at t10
    have HH := Hid.mk (And.intro (HSR7.out _ hZ15) (HB7.out.trans (hZ15.mono HB7.out.size)))
    have HSM15 := Hid.mk (HM14.out.later hb15)
    have HZ15 := Hid.mk hZ15
    clear t9 hb15 hZ15 hset15 hw15 hwas
    go_wp2_with fail
    refine t10.mono ?_
    rintro e w16 ⟨rfl, hb16⟩
    have HSM16 := Hid.mk (HSM15.out.later hb16)
    have hZ16 := HZ15.out.trans (hb16.mono HZ15.out.size)
    have HH16 := Hid.mk (And.intro (HSR7.out _ hZ16) (HB7.out.trans (hZ16.mono HB7.out.size)))
    clear t10 hb16 hZ16
    go_wp2
    refine bodyPost_ret (results_tmp4 (P := Try.prog) rfl _ _) rfl ?_
    exact RenewsOk.mk' (by rfl) HH16.out.1 HSM16.out hMb HR1.out HH16.out.2

set_option maxRecDepth 20000 in
set_option maxHeartbeats 8000000 in
theorem renews_c1 (bl ol cl : Nat) (l : List Int) (br or' cr : Nat) (r : List Int) (a3 : Option Addr) (e3 : Nat) (dt : List Int) (num : Int) (cut : Nat) (w : World) (hs : Src w (some ⟨bl, ol, none⟩) 512 l) (hs2 : Src w (some ⟨br, or', none⟩) 512 r) (hs3 : Src w a3 dt.length dt) (hl : Bytes l) (hr : Bytes r) (hdt : Bytes dt) (hq : dt.length ≤ 496) (hhi : num ≤ 9223372036854775807) (N : Nat) (hnum : num = (N : Int)) (hN1 : 1 ≤ N) (R : List Int) (t : Nat) (ht : t ≤ 2) (hR : R = sform t (bytes8 N ++ dt)) (hne : ((t : Nat) : Int) ≠ l.getD 0 0 ∧ ((t : Nat) : Int) ≠ l.getD 511 0) (hsr : srenew l r num dt = (0, R, 0)) (hE : (snewest l r).2.2.2 = 0) (hA : (snewest l r).1 = 1) (hgt : (snewest l r).2.1 < N) (hc : cut ≤ 512) :
    Calls Try.prog 16 #[.slice (some ⟨bl, ol, none⟩) 512 cl, .slice (some ⟨br, or', none⟩) 512 cr, .int .i64 num, .slice a3 dt.length e3, .int .i64 (cut : Int), .bool true] w (RenewsOk w l r 0 N dt R) := by
  have HL := Hid.mk (fun w' (hb : Below w.heap.size w w') => hs.later hb)
  have HR := Hid.mk (fun w' (hb : Below w.heap.size w w') => hs2.later hb)
  have HD := Hid.mk (fun w' (hb : Below w.heap.size w w') => hs3.later hb)
  have hll := hs.1
  have hrl := hs2.1
  have h1 := ask_any (some ⟨bl, ol, none⟩) 512 cl l (some ⟨br, or', none⟩) 512 cr r w hs hs2 hl hr (by omega) (by omega)
  obtain ⟨dl, hdl⟩ : ∃ dl, dl = dt.length := ⟨_, rfl⟩
  rw [← hdl] at hq HD ⊢
  have HDL := Hid.mk hdl
  clear hdl
  have Hsr := Hid.mk hsr
  have hqd : dt.length ≤ 496 := by rw [← HDL.out]; exact hq
  have hNm : N < 9223372036854775808 := by omega
  have hRl : R.length = 512 := by rw [hR]; exact sform_len (by rw [List.length_append, bytes8_len]; omega)
  have hRb : Bytes R := by rw [hR]; exact sform_bytes ((bytes8_bytes N).append hdt) (by rw [List.length_append, bytes8_len]; omega) (by omega)
  have hslot : 0 = if (snewest l r).2.2.2 = 0 ∧ (snewest l r).1 = 0 then 1 else 0 := by rw [hE, hA]; rfl
  have hpn := pair_new hs.1 hs2.1 hNm hN1 hqd hgt (t := (t : Int)) (by omega) 0 hslot
  rw [← hR] at hpn
  have htn := torn (o := l) hs.1 hne.1 hne.2 (body := bytes8 N ++ dt) (by rw [List.length_append, bytes8_len]; omega) hc
  rw [← hR] at htn
  have hMl : (smix R l cut).length = 512 := smix_len hRl hs.1 hc
  have hMb : Bytes (smix R l cut) := smix_bytes hRb hl cut
  have hM : snewest (sput l r 0 (smix R l cut)).1 (sput l r 0 (smix R l cut)).2 = (0, N, dt, 0) ∨ snewest (sput l r 0 (smix R l cut)).1 (sput l r 0 (smix R l cut)).2 = snewest l r := by
    rcases htn.2 with h | h | h
    · right; rw [h]; rfl
    · left; rw [h]; exact hpn
    · right; exact pair_old hs.1 hs2.1 hMl (sanchor_short (.inl h)) 0 hslot
  have hput : ∀ X : List Int, sput l r 0 X = (X, r) := fun _ => rfl
  rw [hput] at hpn hM
  dsimp only at hpn hM
  have hgt2 : (((snewest l r).2.1 : Nat) : Int) < num := by omega
  generalize hT : snewest l r = T at *
  obtain ⟨A, B, D, E⟩ := T
  dsimp only at h1 hE hA hgt hpn hM hgt2
  subst hE
  subst hA
  have h1n : 1 ≤ num := by omega
  have HN := Hid.mk hnum
  have HM := Hid.mk hM
  have Hpn := Hid.mk hpn
  obtain ⟨MX, hMX⟩ : ∃ MX, MX = smix R l cut := ⟨_, rfl⟩
  rw [← hMX] at hMl hMb HM
  have HMX := Hid.mk hMX
  have HT := Hid.mk hT
  have hDl : D.length ≤ 512 := by have := snewest_len l r; rw [HT.out] at this; exact this
  clear hnum hM hpn hslot htn hgt hN1 hR hne hsr hMX hput hT hNm ht hqd
  clear hs hs2 hs3
  go_enter Try.func16, Try.ntmps16
  go_wp2_with fail
  refine h1.mono ?_
  rintro e w1 ⟨wp, wc, rfl, hsw, hb1, _⟩
  obtain ⟨WD, hWD⟩ : ∃ WD, WD = D.length := ⟨_, rfl⟩
  rw [← hWD] at hsw hDl ⊢
  have HWD := Hid.mk hWD
  clear hWD
  rw [show (((1 : Nat)) : Int) = 1 by rfl, show (((0 : Nat)) : Int) = 0 by rfl]
  have hq1 : (w1.alloc (.cells #[.int .i64 1, .int .i64 (B : Int), .slice wp WD wc, .int .i64 0] 42)).heap[w1.heap.size]? = some (.cells #[.int .i64 1, .int .i64 (B : Int), .slice wp WD wc, .int .i64 0] 42 (0, 0)) := heap_alloc_new _ _
  have hb2 : Below w1.heap.size w1 (w1.alloc (.cells #[.int .i64 1, .int .i64 (B : Int), .slice wp WD wc, .int .i64 0] 42)) := (Below.refl _ w1).alloc (Nat.le_refl _) _
  have HB2 := Hid.mk (hb1.trans (hb2.mono hb1.size))
  have HSW2 := Hid.mk (hsw.later hb2)
  have HQ2 := Hid.mk hq1
  obtain ⟨w2, hw2⟩ : ∃ w2, w2 = w1.alloc (.cells #[.int .i64 1, .int .i64 (B : Int), .slice wp WD wc, .int .i64 0] 42) := ⟨_, rfl⟩
  rw [← hw2] at HB2 HSW2 HQ2
  have HW2 := Hid.mk hw2
  have t1 := ltwin_any (some ⟨bl, ol, none⟩) 512 cl l w2 (by omega) (HL.out w2 HB2.out)
  clear h1 hb1 hb2 hq1 hsw hw2
  go_wp2_with fail
  rw [← HW2.out]
  refine t1.mono ?_
  rintro e w3 ⟨v3, rfl, ho3, hb3⟩
  obtain ⟨p3, c3, rfl, hs3, _, _⟩ := ho3.src
  rw [hll] at hs3 ⊢
  have HZ3 := Hid.mk hb3
  have HS3 := Hid.mk hs3
  have t2 := ltwin_any (some ⟨br, or', none⟩) 512 cr r w3 (by omega) (HR.out w3 (HB2.out.trans (hb3.mono HB2.out.size)))
  clear t1 ho3 hb3 hs3 HW2
  go_wp2_with fail
  refine t2.mono ?_
  rintro e w4 ⟨v4, rfl, ho4, hb4⟩
  obtain ⟨p4, c4, rfl, hs4, _, _⟩ := ho4.src
  rw [hrl] at hs4 ⊢
  have HZ4 := Hid.mk (HZ3.out.trans (hb4.mono HZ3.out.size))
  have HS34 := Hid.mk (HS3.out.later hb4)
  have HS4 := Hid.mk hs4
  have t3 := ltwin_any a3 dl e3 dt w4 (by omega) (HD.out w4 (HB2.out.trans (HZ4.out.mono HB2.out.size)))
  clear t2 ho4 hb4 hs4 HZ3 HS3
  go_wp2_with fail
  refine t3.mono ?_
  rintro e w5 ⟨v5, rfl, ho5, hb5⟩
  obtain ⟨p5, c5, rfl, hs5, _, _⟩ := ho5.src
  have hcap := ho5.capz
  rw [← HDL.out] at hs5 ⊢
  have HZ5 := Hid.mk (HZ4.out.trans (hb5.mono HZ4.out.size))
  have t4 := renew_any p3 512 c3 l p4 512 c4 r p5 dl c5 dt num w5 (HS34.out.later hb5) (HS4.out.later hb5) hl hr hs5 hdt hcap hhi
  rw [Hsr.out] at t4
  dsimp only at t4
  clear t3 ho5 hb5 hs5 hcap HZ4 HS34 HS4
  go_wp2_with fail
  refine t4.mono ?_
  rintro e w6 ⟨v6, rfl, hl6, hb6⟩
  have HZ6 := Hid.mk (HZ5.out.trans (hb6.mono HZ5.out.size))
  have hq6 := (HZ6.out.block _ (Array.getElem?_eq_some_iff.1 HQ2.out).1).trans HQ2.out
  have x0 : w6.cell? ⟨w1.heap.size, 0, none⟩ = some (.int .i64 1) := cell_of_block hq6 (j := 0) rfl
  have x1 : w6.cell? ⟨w1.heap.size, 1, none⟩ = some (.int .i64 (B : Int)) := cell_of_block hq6 (j := 1) rfl
  have x3 : w6.cell? ⟨w1.heap.size, 3, none⟩ = some (.int .i64 0) := cell_of_block hq6 (j := 3) rfl
  obtain ⟨p6, c6, rfl, hs6, _, _⟩ := hl6
  rw [hRl] at hs6 ⊢
  obtain ⟨b6, o6, rfl⟩ := src_spot hs6 (by omega)
  have HS6 := Hid.mk (fun w' (hb : Below w6.heap.size w6 w') => hs6.later hb)
  clear t4 hb6 HZ5 hs6
  go_wp2_with fail
  refine (lnum_any _ _).mono ?_
  rintro e w' ⟨rfl, hw⟩
  have hw' := hw.symm
  subst hw'
  clear hw
  have hb7 : Below w6.heap.size w6 (w6.alloc (.cells #[.int .i64 0, .int .i64 num, .slice a3 dl e3, .int .i64 0] 42)) := (Below.refl _ w6).alloc (Nat.le_refl _) _
  have hq7 : (w6.alloc (.cells #[.int .i64 0, .int .i64 num, .slice a3 dl e3, .int .i64 0] 42)).heap[w6.heap.size]? = some (.cells #[.int .i64 0, .int .i64 num, .slice a3 dl e3, .int .i64 0] 42 (0, 0)) := heap_alloc_new _ _
  have HB6 := Hid.mk (HB2.out.trans (HZ6.out.mono HB2.out.size))
  have hz12 := (Array.getElem?_eq_some_iff.1 HQ2.out).1
  have hz26 := HZ6.out.size
  go_wp2_with fail
  obtain ⟨w7, hw7⟩ : ∃ w7, w7 = w6.alloc (.cells #[.int .i64 0, .int .i64 num, .slice a3 dl e3, .int .i64 0] 42) := ⟨_, rfl⟩
  rw [← hw7] at hb7 hq7 ⊢
  have HB7 := Hid.mk (HB6.out.trans (hb7.mono HB6.out.size))
  have HQ7 := Hid.mk hq7
  have HQW7 := Hid.mk ((hb7.block _ (Array.getElem?_eq_some_iff.1 hq6).1).trans hq6)
  have HSR7 := Hid.mk (fun w' (hb : Below w7.heap.size w7 w') => HS6.out w' (hb7.trans (hb.mono hb7.size)))
  have HSW7 := Hid.mk (fun w' (hb : Below w7.heap.size w7 w') => ((HSW2.out.later HZ6.out).later hb7).later hb)
  have hz67 : w6.heap.size < w7.heap.size := by rw [hw7]; simp
  clear hb7 hq7 hw7 HS6 HB6 HZ6 HB2 HSW2 HQ2 x0 x1 x3 hq6
  refine (lpair0 _ _ _ _).mono ?_
  rintro e w' ⟨rfl, hw⟩
  have hw' := hw.symm
  subst hw'
  clear hw
  have t5 := ask_any (some ⟨b6, o6, none⟩) 512 c6 R (some ⟨br, or', none⟩) 512 cr r w7 (HSR7.out w7 (Below.refl _ _)) (HR.out w7 HB7.out) hRb hr (by omega) (by omega)
  rw [Hpn.out] at t5
  dsimp only at t5
  rw [← HN.out, ← HDL.out] at t5
  go_wp2_with fail
  refine t5.mono ?_
  rintro e w8 ⟨p8, c8, rfl, hs8, hb8, _⟩
  rw [show ((((0 : Nat))) : Int) = 0 by rfl]
  have hb9 : Below w8.heap.size w8 (w8.alloc (.cells #[.int .i64 0, .int .i64 num, .slice p8 dl c8, .int .i64 0] 42)) := (Below.refl _ w8).alloc (Nat.le_refl _) _
  have hq9 : (w8.alloc (.cells #[.int .i64 0, .int .i64 num, .slice p8 dl c8, .int .i64 0] 42)).heap[w8.heap.size]? = some (.cells #[.int .i64 0, .int .i64 num, .slice p8 dl c8, .int .i64 0] 42 (0, 0)) := heap_alloc_new _ _
  have hZ9 := hb8.trans (hb9.mono hb8.size)
  have hn9 := (hZ9.block _ (Array.getElem?_eq_some_iff.1 HQ7.out).1).trans HQ7.out
  have hS9 := hs8.later hb9
  clear t5 hs8
  have t6 := alike_any 0 N 0 0 N 0 dt dt p8 c8 a3 e3 _ (by rw [← HDL.out]; exact hS9) (by rw [← HDL.out]; exact HD.out _ (HB7.out.trans (hZ9.mono HB7.out.size))) (by rw [← HDL.out]; omega)
  rw [decide_eq_true rfl, ← HN.out, ← HDL.out, show ((((0 : Nat))) : Int) = 0 by rfl] at t6
  have y0 := cell_of_block hn9 (j := 0) (u := .int .i64 0) rfl
  have y1 := cell_of_block hn9 (j := 1) (u := .int .i64 num) rfl
  have y2 := cell_of_block hn9 (j := 2) (u := .slice a3 dl e3) rfl
  have y3 := cell_of_block hn9 (j := 3) (u := .int .i64 0) rfl
  obtain ⟨w9, hw9⟩ : ∃ w9, w9 = w8.alloc (.cells #[.int .i64 0, .int .i64 num, .slice p8 dl c8, .int .i64 0] 42) := ⟨_, rfl⟩
  rw [← hw9] at hb9 hq9 hZ9 hn9 t6
  have HW9 := Hid.mk hw9
  have HZ9 := Hid.mk hZ9
  have HQ9 := Hid.mk hq9
  have hz8 : w7.heap.size ≤ w8.heap.size := hb8.size
  have hz89 : w8.heap.size < w9.heap.size := by rw [hw9]; simp
  clear hb8 hb9 hS9 hn9 hq9 hZ9 hw9
  go_wp2_with fail
  rw [← HW9.out]
  refine t6.mono ?_
  rintro e w10 ⟨rfl, hb10⟩
  have HZ10 := Hid.mk (HZ9.out.trans (hb10.mono HZ9.out.size))
  have HQ10 := Hid.mk ((hb10.block _ (Array.getElem?_eq_some_iff.1 HQ9.out).1).trans HQ9.out)
  have hz910 := hb10.size
  clear t6 hb10 HZ9 HQ9 y0 y1 y2 y3 HW9
  have t7 := lmix_any bl ol cl b6 o6 c6 cut l R w10 hc (HL.out w10 (HB7.out.trans (HZ10.out.mono HB7.out.size))) (HSR7.out w10 HZ10.out)
  go_wp2_with fail
  refine t7.mono ?_
  rintro e w11 ⟨v11, rfl, ho11, hb11⟩
  obtain ⟨g11, c11, rfl, hg11, hr11⟩ := ho11.full (by rw [smix_len hll hRl hc]; omega)
  have hs11 := hr11.src
  rw [smix_len hll hRl hc] at hs11 ⊢
  have HZ11 := Hid.mk (HZ10.out.trans (hb11.mono HZ10.out.size))
  have HQ11 := Hid.mk ((hb11.block _ (Array.getElem?_eq_some_iff.1 HQ10.out).1).trans HQ10.out)
  have hz1011 := hb11.size
  have t7b := lmix_any b6 o6 c6 bl ol cl cut R l w11 hc (HSR7.out w11 HZ11.out) (HL.out w11 (HB7.out.trans (HZ11.out.mono HB7.out.size)))
  clear t7 ho11 hr11 hs11 hb11 hg11 HZ10 HQ10
  go_wp2_with fail
  refine t7b.mono ?_
  rintro e w12 ⟨v12, rfl, ho12, hb12⟩
  obtain ⟨g12, c12, rfl, hg12, hr12⟩ := ho12.full (by rw [smix_len hRl hll hc]; omega)
  have hs12 := hr12.src
  rw [smix_len hRl hll hc] at hs12 ⊢
  rw [← HMX.out] at hs12
  have HZ11 := Hid.mk (HZ11.out.trans (hb12.mono HZ11.out.size))
  have HQ11 := Hid.mk ((hb12.block _ (Array.getElem?_eq_some_iff.1 HQ11.out).1).trans HQ11.out)
  have hz1112 := hb12.size
  have HSM := Hid.mk (fun w' (hb : Below w12.heap.size w12 w') => hs12.later hb)
  have HG := Hid.mk (show w10.heap.size ≤ g12 by omega)
  clear t7b ho12 hr12 hs12 hb12 hg12
  go_wp2_with fail
  refine (lpair0 _ _ _ _).mono ?_
  rintro e w' ⟨rfl, hw⟩
  have hw' := hw.symm
  subst hw'
  clear hw
  have t8 := ask_any (some ⟨g12, 0, none⟩) 512 c12 MX (some ⟨br, or', none⟩) 512 cr r w12 (HSM.out w12 (Below.refl _ _)) (HR.out w12 (HB7.out.trans (HZ11.out.mono HB7.out.size))) hMb hr (by omega) (by omega)
  have hFl := snewest_len MX r
  generalize hF : snewest MX r = F at *
  obtain ⟨FA, FB, FD, FE⟩ := F
  dsimp only at t8 hFl
  have HM2 := Hid.mk HM.out
  have HFF := Hid.mk hF
  clear HM hF
  go_wp2_with fail
  refine t8.mono ?_
  rintro e w13 ⟨p13, c13, rfl, hs13, hb13, hx13⟩
  have hq13 := (hb13.block _ (Array.getElem?_eq_some_iff.1 HQ11.out).1).trans HQ11.out
  have hZ13 := HZ11.out.trans (hb13.mono HZ11.out.size)
  have hn13 := (hZ13.block _ (Array.getElem?_eq_some_iff.1 HQ7.out).1).trans HQ7.out
  have hw13 := (hZ13.block _ (Array.getElem?_eq_some_iff.1 HQW7.out).1).trans HQW7.out
  have hz13 := hb13.size
  obtain ⟨fl, hfl⟩ : ∃ fl, fl = FD.length := ⟨_, rfl⟩
  rw [← hfl] at hs13 ⊢
  have hset := set4 (x := .int .i64 (FA : Int)) (y := .int .i64 (FB : Int)) (z := .slice p13 fl c13) (u := .int .i64 (FE : Int)) hq13
  have hkp := keeps4 w13 w8.heap.size (.int .i64 (FA : Int)) (.int .i64 (FB : Int)) (.slice p13 fl c13) (.int .i64 (FE : Int))
  have e0 := cell_of_block hq13 (j := 0) rfl
  have e1 := cell_of_block hq13 (j := 1) rfl
  have e2 := cell_of_block hq13 (j := 2) rfl
  have e3' := cell_of_block hq13 (j := 3) rfl
  have f0 := frozen_of_block hq13 0
  have f1 := frozen_of_block hq13 1
  have f2 := frozen_of_block hq13 2
  have f3 := frozen_of_block hq13 3
  have hs14 := hs13.ne hkp (fun x hx => by have := hx13 x hx; omega)
  have hM14 := (HSM.out w13 hb13).ne hkp (fun x hx => by cases hx; have := HG.out; simp only; omega)
  have HM14 := Hid.mk hM14
  have hZ14 := hZ13.trans (hkp.below (fun j hj => by omega) hZ13.size)
  have hn14 := (hkp.block _ (Array.getElem?_eq_some_iff.1 hn13).1 (by omega)).trans hn13
  have hw14 := (hkp.block _ (Array.getElem?_eq_some_iff.1 hw13).1 (by omega)).trans hw13
  have hB14 := HB7.out.trans (hZ14.mono HB7.out.size)
  have u0 := cell_of_block hset (j := 0) (u := .int .i64 (FA : Int)) rfl
  have u1 := cell_of_block hset (j := 1) (u := .int .i64 (FB : Int)) rfl
  have u2 := cell_of_block hset (j := 2) (u := .slice p13 fl c13) rfl
  have u3 := cell_of_block hset (j := 3) (u := .int .i64 (FE : Int)) rfl
  have y0 := cell_of_block hn14 (j := 0) (u := .int .i64 0) rfl
  have y1 := cell_of_block hn14 (j := 1) (u := .int .i64 num) rfl
  have y2 := cell_of_block hn14 (j := 2) (u := .slice a3 dl e3) rfl
  have y3 := cell_of_block hn14 (j := 3) (u := .int .i64 0) rfl
  have t9 := alike_any FA FB FE 0 N 0 FD dt p13 c13 a3 e3 _ (by rw [← hfl]; exact hs14) (by rw [← HDL.out]; exact HD.out _ hB14) (by omega)
  rw [← HN.out, ← HDL.out, ← hfl, show ((((0 : Nat))) : Int) = 0 by rfl] at t9
  have HFL := Hid.mk hfl
  have HS14 := Hid.mk hs14
  have HZ14 := Hid.mk hZ14
  have HB14 := Hid.mk hB14
  have HW14 := Hid.mk hw14
  have HSET := Hid.mk hset
  have hsz14 := hkp.size
  clear t8 hs13 hb13 hx13 hq13 hZ13 hn13 hw13 hset hkp hs14 hM14 hZ14 hn14 hw14 hB14 hfl HQ11 HZ11
  by_cases hnow : (FA, FB, FD, FE) = (0, N, dt, 0)
  · rw [decide_eq_true hnow] at t9
    have HR1 : Hid (snewest (sput l r 0 MX).1 (sput l r 0 MX).2 = (0, N, dt, 0) ∨ snewest (sput l r 0 MX).1 (sput l r 0 MX).2 = snewest l r) := .inl (HFF.out.trans hnow)
    clear hnow HM2
    go_wp2_with fail
    refine t9.mono ?_
    rintro e w15 ⟨rfl, hb15⟩
    have hZ15 := HZ14.out.trans (hb15.mono (Nat.le_trans HZ14.out.size (Nat.le_refl _)))
    have HH := Hid.mk (And.intro (HSR7.out _ hZ15) (HB7.out.trans (hZ15.mono HB7.out.size)))
    have HSM15 := Hid.mk (HM14.out.later hb15)
    go_wp2
    refine bodyPost_ret (results_tmp4 (P := Try.prog) rfl _ _) rfl ?_
    exact RenewsOk.mk' (by rfl) HH.out.1 HSM15.out hMb HR1.out HH.out.2
  · have hwas := HM2.out.resolve_left hnow
    rw [decide_eq_false hnow] at t9
    have HR1 : Hid (snewest (sput l r 0 MX).1 (sput l r 0 MX).2 = (0, N, dt, 0) ∨ snewest (sput l r 0 MX).1 (sput l r 0 MX).2 = snewest l r) := .inr (HFF.out.trans (hwas.trans HT.out.symm))
    clear hnow HM2
    go_wp2_with fail
    refine t9.mono ?_
    rintro e w15 ⟨rfl, hb15⟩
    have hZ15 := HZ14.out.trans (hb15.mono (Nat.le_trans HZ14.out.size (Nat.le_refl _)))
    have hset15 := (hb15.block _ (Array.getElem?_eq_some_iff.1 HSET.out).1).trans HSET.out
    have hw15 := (hb15.block _ (Array.getElem?_eq_some_iff.1 HW14.out).1).trans HW14.out
    have k0 := cell_of_block hset15 (j := 0) (u := .int .i64 (FA : Int)) rfl
    have k1 := cell_of_block hset15 (j := 1) (u := .int .i64 (FB : Int)) rfl
    have k2 := cell_of_block hset15 (j := 2) (u := .slice p13 fl c13) rfl
    have k3 := cell_of_block hset15 (j := 3) (u := .int .i64 (FE : Int)) rfl
    have z0 := cell_of_block hw15 (j := 0) (u := .int .i64 1) rfl
    have z1 := cell_of_block hw15 (j := 1) (u := .int .i64 (B : Int)) rfl
    have z2 := cell_of_block hw15 (j := 2) (u := .slice wp WD wc) rfl
    have z3 := cell_of_block hw15 (j := 3) (u := .int .i64 0) rfl
    have t10 := alike_any FA FB FE 1 B 0 FD D p13 c13 wp wc w15 (by rw [← HFL.out]; exact HS14.out.later hb15) (by rw [← HWD.out]; exact HSW7.out w15 hZ15) (by omega)
    rw [decide_eq_true hwas, ← HFL.out, ← HWD.out, show (((1 : Nat)) : Int) = 1 by rfl, show (((0 : Nat)) : Int) = 0 by rfl] at t10
    have HH := Hid.mk (And.intro (HSR7.out _ hZ15) (HB7.out.trans (hZ15.mono HB7.out.size)))
    have HSM15 := Hid.mk (HM14.out.later hb15)
    have HZ15 := Hid.mk hZ15
    clear t9 hb15 hZ15 hset15 hw15 hwas
    go_wp2_with fail
    refine t10.mono ?_
    rintro e w16 ⟨rfl, hb16⟩
    have HSM16 := Hid.mk (HSM15.out.later hb16)
    have hZ16 := HZ15.out.trans (hb16.mono HZ15.out.size)
    have HH16 := Hid.mk (And.intro (HSR7.out _ hZ16) (HB7.out.trans (hZ16.mono HB7.out.size)))
    clear t10 hb16 hZ16
    go_wp2
    refine bodyPost_ret (results_tmp4 (P := Try.prog) rfl _ _) rfl ?_
    exact RenewsOk.mk' (by rfl) HH16.out.1 HSM16.out hMb HR1.out HH16.out.2

end Go.Proofs.Ytodleeipefnadac
