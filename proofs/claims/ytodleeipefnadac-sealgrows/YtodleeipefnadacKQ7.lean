import Derived.Test.YtodleeipefnadacKQ6
import Derived.Test.YtodleeipefnadacKP9
namespace Go.Proofs.Ytodleeipefnadac
open Go.RowKit

set_option maxRecDepth 20000 in
set_option maxHeartbeats 4000000 in
theorem lrenewed_any (a : Option Addr) (n c : Nat) (l : List Int) (a2 : Option Addr) (m d : Nat) (r : List Int) (a3 : Option Addr) (q e3 : Nat) (dt : List Int) (num : Int) (w : World) (hs : Src w a n l) (hs2 : Src w a2 m r) (hs3 : Src w a3 q dt) (hl : Bytes l) (hr : Bytes r) (hdt : Bytes dt) (hn : n ≤ 140737488355328) (hm : m ≤ 140737488355328) (hq : q ≤ 140737488355328) (hhi : num ≤ 9223372036854775807) :
    Calls Try.prog 21 #[.slice a n c, .slice a2 m d, .int .i64 num, .slice a3 q e3] w fun e w' => e = .returned (.bool true) ∧ Below w.heap.size w w' := by
  have h1 := ltwin_any a n c l w hn hs
  have H1 := Hid.mk hs
  have H2 := Hid.mk hs2
  have H3 := Hid.mk hs3
  have hl1 := hs.1
  have hl2 := hs2.1
  have hl3 := hs3.1
  clear hs hs2 hs3
  go_enter Try.func21, Try.ntmps21
  go_wp2_with fail
  refine h1.mono ?_
  rintro e w1 ⟨v1, rfl, ho1, hb1⟩
  obtain ⟨p1, c1, rfl, hs1, _, _⟩ := ho1.src
  rw [hl1] at hs1 ⊢
  have h2 := ltwin_any a2 m d r w1 hm (H2.out.later hb1)
  have HB1 := Hid.mk hb1
  have HS1 := Hid.mk hs1
  clear h1 ho1 hb1 hs1
  go_wp2_with fail
  refine h2.mono ?_
  rintro e w2 ⟨v2, rfl, ho2, hb2⟩
  obtain ⟨p2, d2, rfl, hs2, _, _⟩ := ho2.src
  rw [hl2] at hs2 ⊢
  have hB2 := HB1.out.trans (hb2.mono HB1.out.size)
  have h2' := ltwin_any a3 q e3 dt w2 hq (H3.out.later hB2)
  have HB2 := Hid.mk hB2
  have HS12 := Hid.mk (HS1.out.later hb2)
  have HS2 := Hid.mk hs2
  clear h2 ho2 hb2 hs2 hB2 HB1 HS1
  go_wp2_with fail
  refine h2'.mono ?_
  rintro e w2' ⟨v2', rfl, ho2', hb2'⟩
  obtain ⟨p3, d3, rfl, hs3, _, _⟩ := ho2'.src
  have hcap := ho2'.capz
  rw [hl3] at hs3 ⊢
  have hB2' := HB2.out.trans (hb2'.mono HB2.out.size)
  have h3 := renew_any p1 n c1 l p2 m d2 r p3 q d3 dt num w2' (HS12.out.later hb2') (HS2.out.later hb2') hl hr hs3 hdt hcap hhi
  have HB2' := Hid.mk hB2'
  have HS12' := Hid.mk (HS12.out.later hb2')
  have HS2' := Hid.mk (HS2.out.later hb2')
  have HS3' := Hid.mk hs3
  have hlen := srenew_len l r num dt
  have h4 := Hid.mk (fun w3 (hB : Below w.heap.size w w3) => rrenew_any a n c l a2 m d r a3 q e3 dt num w3 (H1.out.later hB) (H2.out.later hB) hl hr (H3.out.later hB) hdt hhi)
  clear h2' ho2' hb2' hs3 hB2' HB2 HS12 HS2 hcap
  generalize srenew l r num dt = T at *
  obtain ⟨A, R, E⟩ := T
  dsimp only at *
  go_wp2_with fail
  refine h3.mono ?_
  rintro e w3 ⟨v3, rfl, hl3', hb3⟩
  obtain ⟨p4, c4, rfl, hs4, _, _⟩ := hl3'
  have hB3 := HB2'.out.trans (hb3.mono HB2'.out.size)
  have h4 := h4.out w3 hB3
  have HB3 := Hid.mk hB3
  have HS13 := Hid.mk (HS12'.out.later hb3)
  have HS23 := Hid.mk (HS2'.out.later hb3)
  have HS33 := Hid.mk (HS3'.out.later hb3)
  have HS4 := Hid.mk hs4
  clear h3 hb3 hs4 hB3 HB2' HS12' HS2' HS3'
  go_wp2_with fail
  refine h4.mono ?_
  rintro e w4 ⟨v4, rfl, ho4, hb4⟩
  obtain ⟨p5, c5, rfl, hs5, _, _⟩ := ho4.src
  have hB4 := HB3.out.trans (hb4.mono HB3.out.size)
  have h5 := lsame_any p4 p5 R.length R.length c4 c5 R R w4 (by omega) (HS4.out.later hb4) hs5
  have HB4 := Hid.mk hB4
  have HS14 := Hid.mk (HS13.out.later hb4)
  have HS24 := Hid.mk (HS23.out.later hb4)
  have HS34 := Hid.mk (HS33.out.later hb4)
  clear h4 hb4 hs5 hB4 HB3 HS13 HS23 HS33 ho4 HS4
  rw [decide_eq_true rfl] at h5
  generalize R.length = RL at *
  have sA : ((A : Int) == (A : Int)) = true := by simp
  go_wp2_with fail
  refine h5.mono ?_
  rintro e w5 ⟨rfl, hb5⟩
  have hB5 := HB4.out.trans (hb5.mono HB4.out.size)
  have h6 := lsame_any p1 a n n c1 c l l w5 hn (HS14.out.later hb5) (H1.out.later hB5)
  have HS25 := Hid.mk (HS24.out.later hb5)
  have HS35 := Hid.mk (HS34.out.later hb5)
  have HB5 := Hid.mk hB5
  rw [decide_eq_true rfl] at h6
  clear h5 hb5 hB5 HB4 HS14 HS24 HS34
  go_wp2_with fail
  refine (lnum_any _ _).mono ?_
  rintro e w' ⟨rfl, hw⟩
  have hw' := hw.symm
  subst hw'
  clear hw
  go_wp2_with fail
  refine h6.mono ?_
  rintro e w6 ⟨rfl, hb6⟩
  have hB6 := HB5.out.trans (hb6.mono HB5.out.size)
  have h7 := lsame_any p2 a2 m m d2 d r r w6 hm (HS25.out.later hb6) (H2.out.later hB6)
  have HS36 := Hid.mk (HS35.out.later hb6)
  have HB6 := Hid.mk hB6
  rw [decide_eq_true rfl] at h7
  clear h6 hb6 hB6 HB5 HS25 HS35
  go_wp2_with fail
  refine h7.mono ?_
  rintro e w7 ⟨rfl, hb7⟩
  have hB7 := HB6.out.trans (hb7.mono HB6.out.size)
  have h8 := lsame_any p3 a3 q q d3 e3 dt dt w7 hq (HS36.out.later hb7) (H3.out.later hB7)
  have HB7 := Hid.mk hB7
  rw [decide_eq_true rfl] at h8
  clear h7 hb7 hB7 HB6 HS36
  go_wp2_with fail
  refine h8.mono ?_
  rintro e w8 ⟨rfl, hb8⟩
  have HB8 := Hid.mk (HB7.out.trans (hb8.mono HB7.out.size))
  clear h8 hb8
  go_wp2
  go_ret
  exact ⟨rfl, HB8.out⟩

theorem snewest_small (l r : List Int) : (snewest l r).2.1 ≤ 9223372036854775807 := by
  have sl := sanchor_small l
  have sr := sanchor_small r
  unfold snewest
  split
  · simp
  · split
    · simp
    · split <;> simp only <;> omega

set_option maxRecDepth 20000 in
set_option maxHeartbeats 8000000 in
theorem sealRenews_any (k1 n1 o1 : Int) (a1 : Option Addr) (b1 c1 : Nat) (l1 : List Int) (k2 n2 o2 : Int) (a2 : Option Addr) (b2 c2 : Nat) (l2 : List Int) (num : Int) (a3 : Option Addr) (q e3 : Nat) (dt : List Int) (w : World) (hs1 : Src w a1 b1 l1) (hs2 : Src w a2 b2 l2) (hs3 : Src w a3 q dt) (hl1 : Bytes l1) (hl2 : Bytes l2) (hdt : Bytes dt) (hb1 : b1 ≤ 140737488351232) (hb2 : b2 ≤ 140737488351232) (hq : q ≤ 140737488355328)
    (h11 : -9223372036854775808 ≤ n1) (h12 : n1 ≤ 9223372036854775807) (h21 : -9223372036854775808 ≤ n2) (h22 : n2 ≤ 9223372036854775807) (hhi : num ≤ 9223372036854775807) :
    Calls Try.prog 6 #[.agg #[.int .i64 k1, .int .i64 n1, .int .i64 o1, .slice a1 b1 c1], .agg #[.int .i64 k2, .int .i64 n2, .int .i64 o2, .slice a2 b2 c2], .int .i64 num, .slice a3 q e3] w fun e w' => e = .returned (.bool true) ∧ Below w.heap.size w w' := by
  have m1 := Hid.mk (fun w' (hb : Below w.heap.size w w') => made_any k1 n1 o1 a1 b1 c1 l1 w' (hs1.later hb) hl1 hb1 h11 h12)
  have m2 := Hid.mk (fun w' (hb : Below w.heap.size w w') => made_any k2 n2 o2 a2 b2 c2 l2 w' (hs2.later hb) hl2 hb2 h21 h22)
  have H3 := Hid.mk hs3
  have hdl := hs3.1
  have hup := Hid.mk (fun w' (hb : Below w.heap.size w w') => upTo_any a3 q e3 496 dt w' (by omega) (hs3.later hb) hq)
  have htl : (dt.take 496).length ≤ 496 := by rw [List.length_take]; omega
  clear hs1 hs2 hs3
  go_enter Try.func6, Try.ntmps6
  go_wp2_with fail
  have hB0 : Below w.heap.size w ((w.alloc (.cells #[.int .i64 k1, .int .i64 n1, .int .i64 o1, .slice a1 b1 c1] 46)).alloc (.cells #[.int .i64 k2, .int .i64 n2, .int .i64 o2, .slice a2 b2 c2] 46)) := ((Below.refl _ w).alloc (Nat.le_refl _) _).alloc (by simp) _
  have hq0 : ((w.alloc (.cells #[.int .i64 k1, .int .i64 n1, .int .i64 o1, .slice a1 b1 c1] 46)).alloc (.cells #[.int .i64 k2, .int .i64 n2, .int .i64 o2, .slice a2 b2 c2] 46)).heap[w.heap.size + 1]? = some (.cells #[.int .i64 k2, .int .i64 n2, .int .i64 o2, .slice a2 b2 c2] 46 (0, 0)) := heap_alloc2_new _ _ _
  generalize (w.alloc (.cells #[.int .i64 k1, .int .i64 n1, .int .i64 o1, .slice a1 b1 c1] 46)).alloc (.cells #[.int .i64 k2, .int .i64 n2, .int .i64 o2, .slice a2 b2 c2] 46) = w0 at *
  refine (m1.out w0 hB0).mono ?_
  rintro e w1 ⟨v1, L, rfl, ho1, hL, hLl, hb1'⟩
  obtain ⟨p1, d1, rfl, hs1, _, _⟩ := ho1.src
  have hq1 := (hb1'.block _ (Array.getElem?_eq_some_iff.1 hq0).1).trans hq0
  have e0 : w1.cell? ⟨w.heap.size + 1, 0, none⟩ = some (.int .i64 k2) := cell_of_block hq1 (j := 0) rfl
  have e1 : w1.cell? ⟨w.heap.size + 1, 1, none⟩ = some (.int .i64 n2) := cell_of_block hq1 (j := 1) rfl
  have e2 : w1.cell? ⟨w.heap.size + 1, 2, none⟩ = some (.int .i64 o2) := cell_of_block hq1 (j := 2) rfl
  have e3' : w1.cell? ⟨w.heap.size + 1, 3, none⟩ = some (.slice a2 b2 c2) := cell_of_block hq1 (j := 3) rfl
  have hB1 := hB0.trans (hb1'.mono hB0.size)
  have t2 := m2.out w1 hB1
  have HB1 := Hid.mk hB1
  have HS1 := Hid.mk hs1
  clear m1 m2 ho1 hb1' hs1 hq0 hq1 hB0 hB1
  generalize hLN : L.length = LN at *
  go_wp2_with fail
  refine t2.mono ?_
  rintro e w2 ⟨v2, R, rfl, ho2, hR, hRl, hb2'⟩
  obtain ⟨p2, d2, rfl, hs2, _, _⟩ := ho2.src
  have HB2 := Hid.mk (HB1.out.trans (hb2'.mono HB1.out.size))
  generalize hRN : R.length = RN at *
  have HL := Hid.mk (fun w' (hb : Below w2.heap.size w2 w') => (HS1.out.later hb2').later hb)
  have HR := Hid.mk (fun w' (hb : Below w2.heap.size w2 w') => hs2.later hb)
  -- the calls of renewed, wherever they are met
  have rn : Hid (∀ (w' : World) (hb : Below w2.heap.size w2 w') (x : Int) (pa : Option Addr) (pn pc : Nat) (pl : List Int), x ≤ 9223372036854775807 → Src w' pa pn pl → Bytes pl → pn ≤ 140737488355328 → Calls Try.prog 21 #[.slice p1 LN d1, .slice p2 RN d2, .int .i64 x, .slice pa pn pc] w' fun e w'' => e = .returned (.bool true) ∧ Below w'.heap.size w' w'') :=
    fun w' hb x pa pn pc pl hx hsp hbp hnp => lrenewed_any p1 LN d1 L p2 RN d2 R pa pn pc pl x w' (HL.out w' hb) (HR.out w' hb) hsp hL hR hbp hLl hRl hnp hx
  have rn2 : Hid (∀ (w' : World) (hb : Below w2.heap.size w2 w') (x : Int) (pa : Option Addr) (pn pc : Nat) (pl : List Int), x ≤ 9223372036854775807 → Src w' pa pn pl → Bytes pl → pn ≤ 140737488355328 → Calls Try.prog 21 #[.slice p2 RN d2, .slice p1 LN d1, .int .i64 x, .slice pa pn pc] w' fun e w'' => e = .returned (.bool true) ∧ Below w'.heap.size w' w'') :=
    fun w' hb x pa pn pc pl hx hsp hbp hnp => lrenewed_any p2 RN d2 R p1 LN d1 L pa pn pc pl x w' (HR.out w' hb) (HL.out w' hb) hsp hR hL hbp hRl hLl hnp hx
  have nw := Hid.mk (fun w' (hb : Below w2.heap.size w2 w') => rnewest_any p1 LN d1 L p2 RN d2 R w' (HL.out w' hb) (HR.out w' hb) hL hR)
  have hsm := snewest_small L R
  clear t2 ho2 hb2' hs2 HB1 HS1 e0 e1 e2 e3' HL HR
  have t3 := rn.out w2 (Below.refl _ _) num a3 q e3 dt hhi (H3.out.later HB2.out) hdt hq
  go_wp2_with fail
  refine t3.mono ?_
  rintro e w3 ⟨rfl, hb3⟩
  have HZ3 := Hid.mk hb3
  have hB3 := HB2.out.trans (hb3.mono HB2.out.size)
  have t4 := hup.out w3 hB3
  clear t3 hb3 hB3
  go_wp2_with fail
  refine t4.mono ?_
  rintro e w4 ⟨v4, rfl, ho4, hb4⟩
  obtain ⟨p4, d4, rfl, hs4, _, _⟩ := ho4.src
  have HZ4 := Hid.mk (HZ3.out.trans (hb4.mono HZ3.out.size))
  have t5 := rn2.out w4 HZ4.out num p4 (dt.take 496).length d4 (dt.take 496) hhi hs4 (hdt.take _) (by omega)
  clear t4 ho4 hb4 hs4 HZ3 rn2
  generalize hTL : (dt.take 496).length = TL at *
  go_wp2_with fail
  refine t5.mono ?_
  rintro e w5 ⟨rfl, hb5⟩
  have HZ5 := Hid.mk (HZ4.out.trans (hb5.mono HZ4.out.size))
  have t6 := nw.out w5 HZ5.out
  clear t5 hb5 HZ4 nw
  generalize snewest L R = T at *
  obtain ⟨TA, TB, TD, TE⟩ := T
  dsimp only at t6 hsm
  go_wp2_with fail
  refine t6.mono ?_
  rintro e w6 ⟨v6, rfl, _, hb6⟩
  have HZ6 := Hid.mk (HZ5.out.trans (hb6.mono HZ5.out.size))
  have t7 := hup.out w6 (HB2.out.trans (HZ6.out.mono HB2.out.size))
  clear t6 hb6 HZ5
  go_wp2_with fail
  refine t7.mono ?_
  rintro e w7 ⟨v7, rfl, ho7, hb7⟩
  obtain ⟨p7, d7, rfl, hs7, _, _⟩ := ho7.src
  rw [hTL] at hs7 ⊢
  have HZ7 := Hid.mk (HZ6.out.trans (hb7.mono HZ6.out.size))
  have t8 := rn.out w7 HZ7.out (TB : Int) p7 TL d7 (dt.take 496) (by omega) hs7 (hdt.take _) (by omega)
  clear t7 ho7 hb7 hs7 HZ6
  go_wp2_with fail
  refine t8.mono ?_
  rintro e w8 ⟨rfl, hb8⟩
  have HZ8 := Hid.mk (HZ7.out.trans (hb8.mono HZ7.out.size))
  clear t8 hb8 HZ7
  have fin : Hid (∀ w9 : World, Below w2.heap.size w2 w9 → Calls Try.prog 9 #[.slice none 0 0] w9 fun e w' => ∃ g c, e = .returned (.slice (some ⟨g, 0, none⟩) 512 c) ∧ Src w' (some ⟨g, 0, none⟩) 512 (sec []) ∧ Below w9.heap.size w9 w') := fun w9 _ => by
    refine (lsector_any none 0 0 [] w9 (by omega) ⟨rfl, fun _ => rfl, fun x hx => by cases hx⟩).mono ?_
    rintro e w' ⟨v, rfl, ho, hb⟩
    obtain ⟨g, c, rfl, _, hr⟩ := ho.full (by rw [sec_len]; omega)
    have := hr.src
    rw [sec_len] at this ⊢
    exact ⟨g, c, rfl, this, hb⟩
  by_cases hmost : TB < 9223372036854775807
  · have hmost' : (TB : Int) < 9223372036854775807 := by omega
    have t9 := hup.out w8 (HB2.out.trans (HZ8.out.mono HB2.out.size))
    go_wp2_with fail
    refine t9.mono ?_
    rintro e w9 ⟨v9, rfl, ho9, hb9⟩
    obtain ⟨p9, d9, rfl, hs9, _, _⟩ := ho9.src
    rw [hTL] at hs9 ⊢
    have HZ9 := Hid.mk (HZ8.out.trans (hb9.mono HZ8.out.size))
    have t10 := rn.out w9 HZ9.out ((TB : Int) + 1) p9 TL d9 (dt.take 496) (by omega) hs9 (hdt.take _) (by omega)
    clear t9 ho9 hb9 hs9 HZ8
    go_wp2_with fail
    refine t10.mono ?_
    rintro e w10 ⟨rfl, hb10⟩
    have HZ10 := Hid.mk (HZ9.out.trans (hb10.mono HZ9.out.size))
    clear t10 hb10 HZ9
    have t11 := fin.out w10 HZ10.out
    go_wp2_with fail
    refine t11.mono ?_
    rintro e w11 ⟨g11, c11, rfl, hs11, hb11⟩
    have HZ11 := Hid.mk (HZ10.out.trans (hb11.mono HZ10.out.size))
    have HS11 := Hid.mk hs11
    have t12 := fin.out w11 HZ11.out
    clear t11 hb11 hs11 HZ10
    go_wp2_with fail
    refine t12.mono ?_
    rintro e w12 ⟨g12, c12, rfl, hs12, hb12⟩
    have hb13 : Below w12.heap.size w12 (w12.alloc (.cells #[.int .u8 120] 5)) := (Below.refl _ w12).alloc (Nat.le_refl _) _
    have hblk13 : Blk (w12.alloc (.cells #[.int .u8 120] 5)) 5 w12.heap.size [120] := heap_alloc_new _ _
    have t13 := lrenewed_any (some ⟨g11, 0, none⟩) 512 c11 (sec []) (some ⟨g12, 0, none⟩) 512 c12 (sec []) (some ⟨w12.heap.size, 0, none⟩) 1 1 [120] 5 _ ((HS11.out.later hb12).later hb13) (hs12.later hb13) hblk13.srcAll (sec_bytes Bytes.nil) (sec_bytes Bytes.nil) (by intro x hx; simp at hx; omega) (by omega) (by omega) (by omega) (by omega)
    have HZ13 := Hid.mk ((HZ11.out.trans (hb12.mono HZ11.out.size)).trans (hb13.mono (Nat.le_trans HZ11.out.size hb12.size)))
    clear t12 hb12 hs12 hb13 hblk13 HZ11 HS11 fin
    go_wp2_with fail
    refine t13.mono ?_
    rintro e w14 ⟨rfl, hb14⟩
    have HB14 := Hid.mk (HB2.out.trans ((HZ13.out.trans (hb14.mono HZ13.out.size)).mono HB2.out.size))
    clear t13 hb14
    go_wp2
    go_ret
    exact ⟨rfl, HB14.out⟩
  · obtain rfl : TB = 9223372036854775807 := by omega
    clear hsm hmost
    have HZ10 := HZ8
    clear HZ8
    have t11 := fin.out w8 HZ10.out
    go_wp2_with fail
    refine t11.mono ?_
    rintro e w11 ⟨g11, c11, rfl, hs11, hb11⟩
    have HZ11 := Hid.mk (HZ10.out.trans (hb11.mono HZ10.out.size))
    have HS11 := Hid.mk hs11
    have t12 := fin.out w11 HZ11.out
    clear t11 hb11 hs11 HZ10
    go_wp2_with fail
    refine t12.mono ?_
    rintro e w12 ⟨g12, c12, rfl, hs12, hb12⟩
    have hb13 : Below w12.heap.size w12 (w12.alloc (.cells #[.int .u8 120] 5)) := (Below.refl _ w12).alloc (Nat.le_refl _) _
    have hblk13 : Blk (w12.alloc (.cells #[.int .u8 120] 5)) 5 w12.heap.size [120] := heap_alloc_new _ _
    have t13 := lrenewed_any (some ⟨g11, 0, none⟩) 512 c11 (sec []) (some ⟨g12, 0, none⟩) 512 c12 (sec []) (some ⟨w12.heap.size, 0, none⟩) 1 1 [120] 5 _ ((HS11.out.later hb12).later hb13) (hs12.later hb13) hblk13.srcAll (sec_bytes Bytes.nil) (sec_bytes Bytes.nil) (by intro x hx; simp at hx; omega) (by omega) (by omega) (by omega) (by omega)
    have HZ13 := Hid.mk ((HZ11.out.trans (hb12.mono HZ11.out.size)).trans (hb13.mono (Nat.le_trans HZ11.out.size hb12.size)))
    clear t12 hb12 hs12 hb13 hblk13 HZ11 HS11 fin
    go_wp2_with fail
    refine t13.mono ?_
    rintro e w14 ⟨rfl, hb14⟩
    have HB14 := Hid.mk (HB2.out.trans ((HZ13.out.trans (hb14.mono HZ13.out.size)).mono HB2.out.size))
    clear t13 hb14
    go_wp2
    go_ret
    exact ⟨rfl, HB14.out⟩
end Go.Proofs.Ytodleeipefnadac
