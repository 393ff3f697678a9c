import Derived.Test.YtodleeipefnadacKR1
import Derived.Test.YtodleeipefnadacKS24
namespace Go.Proofs.Ytodleeipefnadac
open Go.RowKit

set_option maxRecDepth 20000 in
set_option maxHeartbeats 8000000 in
theorem renews_no1 (bl ol cl : Nat) (l : List Int) (br or' cr : Nat) (r : List Int) (a3 : Option Addr) (e3 : Nat) (dt : List Int) (num : Int) (cut : Nat) (back : Bool) (w : World) (hs : Src w (some ⟨bl, ol, none⟩) 512 l) (hs2 : Src w (some ⟨br, or', none⟩) 512 r) (hs3 : Src w a3 dt.length dt) (hl : Bytes l) (hr : Bytes r) (hdt : Bytes dt) (hq : dt.length ≤ 496) (hhi : num ≤ 9223372036854775807) (hsr : srenew l r num dt = (0, [], 1)) (h1n : num < 1) :
    Calls Try.prog 16 #[.slice (some ⟨bl, ol, none⟩) 512 cl, .slice (some ⟨br, or', none⟩) 512 cr, .int .i64 num, .slice a3 dt.length e3, .int .i64 (cut : Int), .bool back] w fun e w' => e = .returned (.tuple #[.bool true, .int .i64 0, .slice none 0 0, .slice none 0 0]) ∧ Below w.heap.size w w' := by
  have HL := Hid.mk (fun w' (hb : Below w.heap.size w w') => hs.later hb)
  have HR := Hid.mk (fun w' (hb : Below w.heap.size w w') => hs2.later hb)
  have HD := Hid.mk (fun w' (hb : Below w.heap.size w w') => hs3.later hb)
  have hll := hs.1
  have hrl := hs2.1
  have h1 := ask_any (some ⟨bl, ol, none⟩) 512 cl l (some ⟨br, or', none⟩) 512 cr r w hs hs2 hl hr (by omega) (by omega)
  obtain ⟨dl, hdl⟩ : ∃ dl, dl = dt.length := ⟨_, rfl⟩
  rw [← hdl] at hq HD ⊢
  have HDL := Hid.mk hdl
  clear hdl
  have Hsr := Hid.mk hsr
  generalize hT : snewest l r = T at *
  obtain ⟨A, B, D, E⟩ := T
  dsimp only at h1 
  clear hs hs2 hs3
  go_enter Try.func16, Try.ntmps16
  go_wp2_with fail
  refine h1.mono ?_
  rintro e w1 ⟨wp, wc, rfl, hsw, hb1, _⟩
  obtain ⟨WD, hWD⟩ : ∃ WD, WD = D.length := ⟨_, rfl⟩
  rw [← hWD] at hsw ⊢
  have HWD := Hid.mk hWD
  clear hWD
  have hq1 : (w1.alloc (.cells #[.int .i64 (A : Int), .int .i64 (B : Int), .slice wp WD wc, .int .i64 (E : Int)] 42)).heap[w1.heap.size]? = some (.cells #[.int .i64 (A : Int), .int .i64 (B : Int), .slice wp WD wc, .int .i64 (E : Int)] 42 (0, 0)) := heap_alloc_new _ _
  have hb2 : Below w1.heap.size w1 (w1.alloc (.cells #[.int .i64 (A : Int), .int .i64 (B : Int), .slice wp WD wc, .int .i64 (E : Int)] 42)) := (Below.refl _ w1).alloc (Nat.le_refl _) _
  have HB2 := Hid.mk (hb1.trans (hb2.mono hb1.size))
  have HSW2 := Hid.mk (hsw.later hb2)
  have HQ2 := Hid.mk hq1
  obtain ⟨w2, hw2⟩ : ∃ w2, w2 = w1.alloc (.cells #[.int .i64 (A : Int), .int .i64 (B : Int), .slice wp WD wc, .int .i64 (E : Int)] 42) := ⟨_, rfl⟩
  rw [← hw2] at HB2 HSW2 HQ2
  have HW2 := Hid.mk hw2
  have t1 := ltwin_any (some ⟨bl, ol, none⟩) 512 cl l w2 (by omega) (HL.out w2 HB2.out)
  clear h1 hb1 hb2 hq1 hsw hw2
  go_wp2_with fail
  rw [← HW2.out]
  refine t1.mono ?_
  rintro e w3 ⟨v3, rfl, ho3, hb3⟩
  obtain ⟨p3, c3, rfl, hs3, _, _⟩ := ho3.src
  rw [hll] at hs3 ⊢
  have HZ3 := Hid.mk hb3
  have HS3 := Hid.mk hs3
  have t2 := ltwin_any (some ⟨br, or', none⟩) 512 cr r w3 (by omega) (HR.out w3 (HB2.out.trans (hb3.mono HB2.out.size)))
  clear t1 ho3 hb3 hs3 HW2
  go_wp2_with fail
  refine t2.mono ?_
  rintro e w4 ⟨v4, rfl, ho4, hb4⟩
  obtain ⟨p4, c4, rfl, hs4, _, _⟩ := ho4.src
  rw [hrl] at hs4 ⊢
  have HZ4 := Hid.mk (HZ3.out.trans (hb4.mono HZ3.out.size))
  have HS34 := Hid.mk (HS3.out.later hb4)
  have HS4 := Hid.mk hs4
  have t3 := ltwin_any a3 dl e3 dt w4 (by omega) (HD.out w4 (HB2.out.trans (HZ4.out.mono HB2.out.size)))
  clear t2 ho4 hb4 hs4 HZ3 HS3
  go_wp2_with fail
  refine t3.mono ?_
  rintro e w5 ⟨v5, rfl, ho5, hb5⟩
  obtain ⟨p5, c5, rfl, hs5, _, _⟩ := ho5.src
  have hcap := ho5.capz
  rw [← HDL.out] at hs5 ⊢
  have HZ5 := Hid.mk (HZ4.out.trans (hb5.mono HZ4.out.size))
  have t4 := renew_any p3 512 c3 l p4 512 c4 r p5 dl c5 dt num w5 (HS34.out.later hb5) (HS4.out.later hb5) hl hr hs5 hdt hcap hhi
  rw [Hsr.out] at t4
  dsimp only at t4
  clear t3 ho5 hb5 hs5 hcap HZ4 HS34 HS4
  go_wp2_with fail
  refine t4.mono ?_
  rintro e w6 ⟨v6, rfl, hl6, hb6⟩
  have HZ6 := Hid.mk (HZ5.out.trans (hb6.mono HZ5.out.size))
  have hq6 := (HZ6.out.block _ (Array.getElem?_eq_some_iff.1 HQ2.out).1).trans HQ2.out
  have x0 : w6.cell? ⟨w1.heap.size, 0, none⟩ = some (.int .i64 (A : Int)) := cell_of_block hq6 (j := 0) rfl
  have x1 : w6.cell? ⟨w1.heap.size, 1, none⟩ = some (.int .i64 (B : Int)) := cell_of_block hq6 (j := 1) rfl
  have x3 : w6.cell? ⟨w1.heap.size, 3, none⟩ = some (.int .i64 (E : Int)) := cell_of_block hq6 (j := 3) rfl
  clear t4 hl6 hb6 hq6
  have g1 : ¬ 1 ≤ num := by omega
  go_wp2_with fail
  refine (lnum_any _ _).mono ?_
  rintro e w' ⟨rfl, hw⟩
  have hw' := hw.symm
  subst hw'
  clear hw
  go_wp2
  exact bodyPost_ret (results_tmp4 (P := Try.prog) rfl _ _) rfl ⟨rfl, HB2.out.trans (HZ6.out.mono HB2.out.size)⟩

set_option maxRecDepth 20000 in
set_option maxHeartbeats 8000000 in
theorem renews_no31 (bl ol cl : Nat) (l : List Int) (br or' cr : Nat) (r : List Int) (a3 : Option Addr) (e3 : Nat) (dt : List Int) (num : Int) (cut : Nat) (back : Bool) (w : World) (hs : Src w (some ⟨bl, ol, none⟩) 512 l) (hs2 : Src w (some ⟨br, or', none⟩) 512 r) (hs3 : Src w a3 dt.length dt) (hl : Bytes l) (hr : Bytes r) (hdt : Bytes dt) (hq : dt.length ≤ 496) (hhi : num ≤ 9223372036854775807) (hsr : srenew l r num dt = (0, [], 31)) (h1n : 1 ≤ num) (hE0 : (snewest l r).2.2.2 = 0) (hle : num ≤ (((snewest l r).2.1 : Nat) : Int)) :
    Calls Try.prog 16 #[.slice (some ⟨bl, ol, none⟩) 512 cl, .slice (some ⟨br, or', none⟩) 512 cr, .int .i64 num, .slice a3 dt.length e3, .int .i64 (cut : Int), .bool back] w fun e w' => e = .returned (.tuple #[.bool true, .int .i64 0, .slice none 0 0, .slice none 0 0]) ∧ Below w.heap.size w w' := by
  have HL := Hid.mk (fun w' (hb : Below w.heap.size w w') => hs.later hb)
  have HR := Hid.mk (fun w' (hb : Below w.heap.size w w') => hs2.later hb)
  have HD := Hid.mk (fun w' (hb : Below w.heap.size w w') => hs3.later hb)
  have hll := hs.1
  have hrl := hs2.1
  have h1 := ask_any (some ⟨bl, ol, none⟩) 512 cl l (some ⟨br, or', none⟩) 512 cr r w hs hs2 hl hr (by omega) (by omega)
  obtain ⟨dl, hdl⟩ : ∃ dl, dl = dt.length := ⟨_, rfl⟩
  rw [← hdl] at hq HD ⊢
  have HDL := Hid.mk hdl
  clear hdl
  have Hsr := Hid.mk hsr
  generalize hT : snewest l r = T at *
  obtain ⟨A, B, D, E⟩ := T
  dsimp only at h1 hE0 hle
  subst hE0
  have hle' : ¬ (B : Int) < num := by omega
  have HLE := Hid.mk hle'
  clear hle hle'
  clear hs hs2 hs3
  go_enter Try.func16, Try.ntmps16
  go_wp2_with fail
  refine h1.mono ?_
  rintro e w1 ⟨wp, wc, rfl, hsw, hb1, _⟩
  obtain ⟨WD, hWD⟩ : ∃ WD, WD = D.length := ⟨_, rfl⟩
  rw [← hWD] at hsw ⊢
  have HWD := Hid.mk hWD
  clear hWD
  rw [show (((0 : Nat)) : Int) = 0 by rfl]
  have hq1 : (w1.alloc (.cells #[.int .i64 (A : Int), .int .i64 (B : Int), .slice wp WD wc, .int .i64 0] 42)).heap[w1.heap.size]? = some (.cells #[.int .i64 (A : Int), .int .i64 (B : Int), .slice wp WD wc, .int .i64 0] 42 (0, 0)) := heap_alloc_new _ _
  have hb2 : Below w1.heap.size w1 (w1.alloc (.cells #[.int .i64 (A : Int), .int .i64 (B : Int), .slice wp WD wc, .int .i64 0] 42)) := (Below.refl _ w1).alloc (Nat.le_refl _) _
  have HB2 := Hid.mk (hb1.trans (hb2.mono hb1.size))
  have HSW2 := Hid.mk (hsw.later hb2)
  have HQ2 := Hid.mk hq1
  obtain ⟨w2, hw2⟩ : ∃ w2, w2 = w1.alloc (.cells #[.int .i64 (A : Int), .int .i64 (B : Int), .slice wp WD wc, .int .i64 0] 42) := ⟨_, rfl⟩
  rw [← hw2] at HB2 HSW2 HQ2
  have HW2 := Hid.mk hw2
  have t1 := ltwin_any (some ⟨bl, ol, none⟩) 512 cl l w2 (by omega) (HL.out w2 HB2.out)
  clear h1 hb1 hb2 hq1 hsw hw2
  go_wp2_with fail
  rw [← HW2.out]
  refine t1.mono ?_
  rintro e w3 ⟨v3, rfl, ho3, hb3⟩
  obtain ⟨p3, c3, rfl, hs3, _, _⟩ := ho3.src
  rw [hll] at hs3 ⊢
  have HZ3 := Hid.mk hb3
  have HS3 := Hid.mk hs3
  have t2 := ltwin_any (some ⟨br, or', none⟩) 512 cr r w3 (by omega) (HR.out w3 (HB2.out.trans (hb3.mono HB2.out.size)))
  clear t1 ho3 hb3 hs3 HW2
  go_wp2_with fail
  refine t2.mono ?_
  rintro e w4 ⟨v4, rfl, ho4, hb4⟩
  obtain ⟨p4, c4, rfl, hs4, _, _⟩ := ho4.src
  rw [hrl] at hs4 ⊢
  have HZ4 := Hid.mk (HZ3.out.trans (hb4.mono HZ3.out.size))
  have HS34 := Hid.mk (HS3.out.later hb4)
  have HS4 := Hid.mk hs4
  have t3 := ltwin_any a3 dl e3 dt w4 (by omega) (HD.out w4 (HB2.out.trans (HZ4.out.mono HB2.out.size)))
  clear t2 ho4 hb4 hs4 HZ3 HS3
  go_wp2_with fail
  refine t3.mono ?_
  rintro e w5 ⟨v5, rfl, ho5, hb5⟩
  obtain ⟨p5, c5, rfl, hs5, _, _⟩ := ho5.src
  have hcap := ho5.capz
  rw [← HDL.out] at hs5 ⊢
  have HZ5 := Hid.mk (HZ4.out.trans (hb5.mono HZ4.out.size))
  have t4 := renew_any p3 512 c3 l p4 512 c4 r p5 dl c5 dt num w5 (HS34.out.later hb5) (HS4.out.later hb5) hl hr hs5 hdt hcap hhi
  rw [Hsr.out] at t4
  dsimp only at t4
  clear t3 ho5 hb5 hs5 hcap HZ4 HS34 HS4
  go_wp2_with fail
  refine t4.mono ?_
  rintro e w6 ⟨v6, rfl, hl6, hb6⟩
  have HZ6 := Hid.mk (HZ5.out.trans (hb6.mono HZ5.out.size))
  have hq6 := (HZ6.out.block _ (Array.getElem?_eq_some_iff.1 HQ2.out).1).trans HQ2.out
  have x0 : w6.cell? ⟨w1.heap.size, 0, none⟩ = some (.int .i64 (A : Int)) := cell_of_block hq6 (j := 0) rfl
  have x1 : w6.cell? ⟨w1.heap.size, 1, none⟩ = some (.int .i64 (B : Int)) := cell_of_block hq6 (j := 1) rfl
  have x3 : w6.cell? ⟨w1.heap.size, 3, none⟩ = some (.int .i64 0) := cell_of_block hq6 (j := 3) rfl
  clear t4 hl6 hb6 hq6
  have hle' := HLE.out
  go_wp2_with fail
  refine (lnum_any _ _).mono ?_
  rintro e w' ⟨rfl, hw⟩
  have hw' := hw.symm
  subst hw'
  clear hw
  go_wp2
  exact bodyPost_ret (results_tmp4 (P := Try.prog) rfl _ _) rfl ⟨by show Ending.returned (.tuple #[.bool (!decide ((B : Int) < num)), .int .i64 0, .slice none 0 0, .slice none 0 0]) = _; rw [decide_eq_false (Int.not_lt.2 HLE.out)]; rfl, HB2.out.trans (HZ6.out.mono HB2.out.size)⟩

end Go.Proofs.Ytodleeipefnadac
