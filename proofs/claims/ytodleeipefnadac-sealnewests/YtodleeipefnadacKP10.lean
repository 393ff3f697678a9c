import Derived.Test.YtodleeipefnadacKP9
namespace Go.Proofs.Ytodleeipefnadac
open Go.RowKit

set_option maxRecDepth 20000 in
set_option maxHeartbeats 4000000 in
theorem sealNewests_any (k1 n1 o1 : Int) (a1 : Option Addr) (b1 c1 : Nat) (l1 : List Int) (k2 n2 o2 : Int) (a2 : Option Addr) (b2 c2 : Nat) (l2 : List Int) (w : World) (hs1 : Src w a1 b1 l1) (hs2 : Src w a2 b2 l2) (hl1 : Bytes l1) (hl2 : Bytes l2) (hb1 : b1 ≤ 140737488351232) (hb2 : b2 ≤ 140737488351232)
    (h11 : -9223372036854775808 ≤ n1) (h12 : n1 ≤ 9223372036854775807) (h21 : -9223372036854775808 ≤ n2) (h22 : n2 ≤ 9223372036854775807) :
    Calls Try.prog 5 #[.agg #[.int .i64 k1, .int .i64 n1, .int .i64 o1, .slice a1 b1 c1], .agg #[.int .i64 k2, .int .i64 n2, .int .i64 o2, .slice a2 b2 c2]] w fun e w' => e = .returned (.bool true) ∧ Below w.heap.size w w' := by
  have m1 := Hid.mk (fun w' (hb : Below w.heap.size w w') => made_any k1 n1 o1 a1 b1 c1 l1 w' (hs1.later hb) hl1 hb1 h11 h12)
  have m2 := Hid.mk (fun w' (hb : Below w.heap.size w w') => made_any k2 n2 o2 a2 b2 c2 l2 w' (hs2.later hb) hl2 hb2 h21 h22)
  clear hs1 hs2
  go_enter Try.func5, Try.ntmps5
  go_wp2_with fail
  have hB0 : Below w.heap.size w ((w.alloc (.cells #[.int .i64 k1, .int .i64 n1, .int .i64 o1, .slice a1 b1 c1] 46)).alloc (.cells #[.int .i64 k2, .int .i64 n2, .int .i64 o2, .slice a2 b2 c2] 46)) := ((Below.refl _ w).alloc (Nat.le_refl _) _).alloc (by simp) _
  have hq : ((w.alloc (.cells #[.int .i64 k1, .int .i64 n1, .int .i64 o1, .slice a1 b1 c1] 46)).alloc (.cells #[.int .i64 k2, .int .i64 n2, .int .i64 o2, .slice a2 b2 c2] 46)).heap[w.heap.size + 1]? = some (.cells #[.int .i64 k2, .int .i64 n2, .int .i64 o2, .slice a2 b2 c2] 46 (0, 0)) := heap_alloc2_new _ _ _
  generalize (w.alloc (.cells #[.int .i64 k1, .int .i64 n1, .int .i64 o1, .slice a1 b1 c1] 46)).alloc (.cells #[.int .i64 k2, .int .i64 n2, .int .i64 o2, .slice a2 b2 c2] 46) = w0 at *
  refine (m1.out w0 hB0).mono ?_
  rintro e w1 ⟨v1, L, rfl, ho1, hL, hLl, hb1'⟩
  obtain ⟨p1, d1, rfl, hs1, _, _⟩ := ho1.src
  have hq1 := (hb1'.block _ (Array.getElem?_eq_some_iff.1 hq).1).trans hq
  have e0 : w1.cell? ⟨w.heap.size + 1, 0, none⟩ = some (.int .i64 k2) := cell_of_block hq1 (j := 0) rfl
  have e1 : w1.cell? ⟨w.heap.size + 1, 1, none⟩ = some (.int .i64 n2) := cell_of_block hq1 (j := 1) rfl
  have e2 : w1.cell? ⟨w.heap.size + 1, 2, none⟩ = some (.int .i64 o2) := cell_of_block hq1 (j := 2) rfl
  have e3 : w1.cell? ⟨w.heap.size + 1, 3, none⟩ = some (.slice a2 b2 c2) := cell_of_block hq1 (j := 3) rfl
  have hB1 := hB0.trans (hb1'.mono hB0.size)
  have t2 := m2.out w1 hB1
  have HB1 := Hid.mk hB1
  have HS1 := Hid.mk hs1
  clear m1 m2 ho1 hb1' hs1 hq hq1 hB0 hB1
  generalize hLN : L.length = LN at *
  go_wp2_with fail
  refine t2.mono ?_
  rintro e w2 ⟨v2, R, rfl, ho2, hR, hRl, hb2'⟩
  obtain ⟨p2, d2, rfl, hs2, _, _⟩ := ho2.src
  have HB2 := Hid.mk (HB1.out.trans (hb2'.mono HB1.out.size))
  have HS1' := Hid.mk (HS1.out.later hb2')
  have HS2 := Hid.mk hs2
  generalize hRN : R.length = RN at *
  have t3 := lnewest_any p1 LN d1 L p2 RN d2 R w2 HS1'.out HS2.out hL hR hLl hRl
  clear t2 ho2 hb2' hs2 HB1 HS1 e0 e1 e2 e3
  go_wp2_with fail
  refine t3.mono ?_
  rintro e w3 ⟨rfl, hb3⟩
  have t4 := lnewest_any p2 RN d2 R p1 LN d1 L w3 (HS2.out.later hb3) (HS1'.out.later hb3) hR hL hRl hLl
  have HB3 := Hid.mk (HB2.out.trans (hb3.mono HB2.out.size))
  have HS3 := Hid.mk (HS1'.out.later hb3)
  clear t3 hb3 HB2 HS1' HS2
  go_wp2_with fail
  refine t4.mono ?_
  rintro e w4 ⟨rfl, hb4⟩
  have t5 := lnewest_any p1 LN d1 L p1 LN d1 L w4 (HS3.out.later hb4) (HS3.out.later hb4) hL hL hLl hLl
  have HB4 := Hid.mk (HB3.out.trans (hb4.mono HB3.out.size))
  clear t4 hb4 HB3 HS3
  go_wp2_with fail
  refine t5.mono ?_
  rintro e w5 ⟨rfl, hb5⟩
  have t6 := first_any w5
  have HB5 := Hid.mk (HB4.out.trans (hb5.mono HB4.out.size))
  clear t5 hb5 HB4
  go_wp2_with fail
  refine t6.mono ?_
  rintro e w6 ⟨rfl, hb6⟩
  have HB6 := Hid.mk (HB5.out.trans (hb6.mono HB5.out.size))
  clear t6 hb6
  go_wp2
  go_ret
  exact ⟨rfl, HB6.out⟩
end Go.Proofs.Ytodleeipefnadac
