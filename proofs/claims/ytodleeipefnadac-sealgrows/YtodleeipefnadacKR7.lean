import Derived.Test.YtodleeipefnadacKR4
import Derived.Test.YtodleeipefnadacKR5
import Derived.Test.YtodleeipefnadacKR6
namespace Go.Proofs.Ytodleeipefnadac
open Go.RowKit

/-- What renews tells. -/
def RenewsAny (w : World) (l r : List Int) (dt : List Int) (e : Ending) (w' : World) : Prop :=
  (e = .returned (.tuple #[.bool true, .int .i64 0, .slice none 0 0, .slice none 0 0]) ∧ Below w.heap.size w w') ∨
  ∃ slot N R, slot ≤ 1 ∧ (snewest l r).2.1 < N ∧ Bytes R ∧ R.length = 512 ∧ snewest (sput l r slot R).1 (sput l r slot R).2 = (slot, N, dt, 0) ∧ RenewsOk w l r slot N dt R e w'

theorem renews_any (bl ol cl : Nat) (l : List Int) (br or' cr : Nat) (r : List Int) (a3 : Option Addr) (e3 : Nat) (dt : List Int) (num : Int) (cut : Nat) (back : Bool) (w : World) (hs : Src w (some ⟨bl, ol, none⟩) 512 l) (hs2 : Src w (some ⟨br, or', none⟩) 512 r) (hs3 : Src w a3 dt.length dt) (hl : Bytes l) (hr : Bytes r) (hdt : Bytes dt) (hq : dt.length ≤ 496) (hhi : num ≤ 9223372036854775807) (hc : cut ≤ 512) :
    Calls Try.prog 16 #[.slice (some ⟨bl, ol, none⟩) 512 cl, .slice (some ⟨br, or', none⟩) 512 cr, .int .i64 num, .slice a3 dt.length e3, .int .i64 (cut : Int), .bool back] w (RenewsAny w l r dt) := by
  have hln := hs.1
  have hrn := hs2.1
  by_cases h1 : num < 1
  · have e1 : srenew l r num dt = (0, [], 1) := by unfold srenew; rw [if_neg (by omega), if_pos h1]
    refine (renews_no1 bl ol cl l br or' cr r a3 e3 dt num cut back w hs hs2 hs3 hl hr hdt hq hhi e1 h1).mono ?_
    rintro e w' h
    exact .inl h
  · have hno := snewest_none hln hrn
    by_cases h3 : num ≤ (((snewest l r).2.1 : Nat) : Int)
    · have e1 : srenew l r num dt = (0, [], 31) := by unfold srenew; rw [if_neg (by omega), if_neg h1, if_neg (by omega)]; simp only; rw [if_pos h3]
      refine (renews_no31 bl ol cl l br or' cr r a3 e3 dt num cut back w hs hs2 hs3 hl hr hdt hq hhi e1 (by omega) (by omega) h3).mono ?_
      rintro e w' h
      exact .inl h
    · obtain ⟨N, hN⟩ : ∃ N : Nat, num = (N : Int) := ⟨num.toNat, by omega⟩
      have hA := snewest_slot l r
      have hbl : (bytes8 N ++ dt).length ≤ 504 := by rw [List.length_append, bytes8_len]; omega
      have fin : ∀ (slot t : Nat) (X : List Int), slot ≤ 1 → t ≤ 2 → slot = (if (snewest l r).2.2.2 = 0 ∧ (snewest l r).1 = 0 then 1 else 0) → X = sform t (bytes8 N ++ dt) → ∀ e w', RenewsOk w l r slot N dt X e w' → RenewsAny w l r dt e w' := by
        intro slot t X hs1 ht hsl hX e w' hok
        refine .inr ⟨slot, N, X, hs1, by omega, ?_, ?_, ?_, hok⟩
        · rw [hX]; exact sform_bytes ((bytes8_bytes N).append hdt) hbl (by omega)
        · rw [hX]; exact sform_len hbl
        · rw [hX]; exact pair_new hln hrn (by omega) (by omega) hq (by omega) (by omega) slot hsl
      by_cases hs0 : (snewest l r).2.2.2 = 0 ∧ (snewest l r).1 = 0
      · have e1 : srenew l r num dt = (1, sform (turnOf (r.getD 0 0) (r.getD 511 0)) (bytes8 N ++ dt), 0) := by unfold srenew; rw [if_neg (by omega), if_neg h1, if_neg (by omega)]; simp only; rw [if_neg h3, if_pos hs0, hN, Int.toNat_natCast]
        have F := fin 1 (turnOf (r.getD 0 0) (r.getD 511 0)) _ (by omega) (turnOf_le _ _) (by rw [if_pos hs0]) rfl
        cases back
        · exact (renews_b0 bl ol cl l br or' cr r a3 e3 dt num cut w hs hs2 hs3 hl hr hdt hq hhi N hN (by omega) _ _ (turnOf_le _ _) rfl (turnOf_ne _ _) e1 hs0.1 hs0.2 (by omega) hc).mono F
        · exact (renews_b1 bl ol cl l br or' cr r a3 e3 dt num cut w hs hs2 hs3 hl hr hdt hq hhi N hN (by omega) _ _ (turnOf_le _ _) rfl (turnOf_ne _ _) e1 hs0.1 hs0.2 (by omega) hc).mono F
      · have e1 : srenew l r num dt = (0, sform (turnOf (l.getD 0 0) (l.getD 511 0)) (bytes8 N ++ dt), 0) := by unfold srenew; rw [if_neg (by omega), if_neg h1, if_neg (by omega)]; simp only; rw [if_neg h3, if_neg hs0, hN, Int.toNat_natCast]
        have F := fin 0 (turnOf (l.getD 0 0) (l.getD 511 0)) _ (by omega) (turnOf_le _ _) (by rw [if_neg hs0]) rfl
        by_cases hE : (snewest l r).2.2.2 = 0
        · cases back
          · exact (renews_c0 bl ol cl l br or' cr r a3 e3 dt num cut w hs hs2 hs3 hl hr hdt hq hhi N hN (by omega) _ _ (turnOf_le _ _) rfl (turnOf_ne _ _) e1 hE (by omega) (by omega) hc).mono F
          · exact (renews_c1 bl ol cl l br or' cr r a3 e3 dt num cut w hs hs2 hs3 hl hr hdt hq hhi N hN (by omega) _ _ (turnOf_le _ _) rfl (turnOf_ne _ _) e1 hE (by omega) (by omega) hc).mono F
        · cases back
          · exact (renews_a0 bl ol cl l br or' cr r a3 e3 dt num cut w hs hs2 hs3 hl hr hdt hq hhi N hN (by omega) _ _ (turnOf_le _ _) rfl (turnOf_ne _ _) e1 (by omega) (by omega) (by omega) hc).mono F
          · exact (renews_a1 bl ol cl l br or' cr r a3 e3 dt num cut w hs hs2 hs3 hl hr hdt hq hhi N hN (by omega) _ _ (turnOf_le _ _) rfl (turnOf_ne _ _) e1 (by omega) (by omega) (by omega) hc).mono F
theorem RenewsAny.ok {w w' : World} {l r dt : List Int} {e : Ending} (h : RenewsAny w l r dt e w') : ∃ x y z, e = .returned (.tuple #[.bool true, x, y, z]) ∧ Below w.heap.size w w' := by
  rcases h with ⟨rfl, hb⟩ | ⟨slot, N, R, _, _, _, _, _, p, c, g, cm, M, rfl, _, _, _, _, hb⟩
  · exact ⟨_, _, _, rfl, hb⟩
  · exact ⟨_, _, _, rfl, hb⟩

set_option maxRecDepth 20000 in
set_option maxHeartbeats 8000000 in
theorem sealPair_any (k1 n1 o1 : Int) (a1 : Option Addr) (b1 c1 : Nat) (l1 : List Int) (k2 n2 o2 : Int) (a2 : Option Addr) (b2 c2 : Nat) (l2 : List Int) (num : Int) (a3 : Option Addr) (q e3 : Nat) (dt : List Int) (cut : Int) (back : Bool) (w : World) (hs1 : Src w a1 b1 l1) (hs2 : Src w a2 b2 l2) (hs3 : Src w a3 q dt) (hl1 : Bytes l1) (hl2 : Bytes l2) (hdt : Bytes dt) (hb1 : b1 ≤ 140737488351232) (hb2 : b2 ≤ 140737488351232) (hq : q ≤ 140737488355328)
    (h11 : -9223372036854775808 ≤ n1) (h12 : n1 ≤ 9223372036854775807) (h21 : -9223372036854775808 ≤ n2) (h22 : n2 ≤ 9223372036854775807) (hhi : num ≤ 9223372036854775807) :
    Calls Try.prog 7 #[.agg #[.int .i64 k1, .int .i64 n1, .int .i64 o1, .slice a1 b1 c1], .agg #[.int .i64 k2, .int .i64 n2, .int .i64 o2, .slice a2 b2 c2], .int .i64 num, .slice a3 q e3, .int .i64 cut, .bool back] w fun e w' => e = .returned (.bool true) ∧ Below w.heap.size w w' := by
  have m1 := Hid.mk (fun w' (hb : Below w.heap.size w w') => made_any k1 n1 o1 a1 b1 c1 l1 w' (hs1.later hb) hl1 hb1 h11 h12)
  have m2 := Hid.mk (fun w' (hb : Below w.heap.size w w') => made_any k2 n2 o2 a2 b2 c2 l2 w' (hs2.later hb) hl2 hb2 h21 h22)
  have hup := Hid.mk (fun w' (hb : Below w.heap.size w w') => upTo_any a3 q e3 496 dt w' (by omega) (hs3.later hb) hq)
  have htl : (dt.take 496).length ≤ 496 := by rw [List.length_take]; omega
  have hA1 : Below w.heap.size w ((w.alloc (.cells #[.int .i64 k1, .int .i64 n1, .int .i64 o1, .slice a1 b1 c1] 46)).alloc (.cells #[.int .i64 k2, .int .i64 n2, .int .i64 o2, .slice a2 b2 c2] 46)) := ((Below.refl _ w).alloc (Nat.le_refl _) _).alloc (by simp) _
  have hq0 : ((w.alloc (.cells #[.int .i64 k1, .int .i64 n1, .int .i64 o1, .slice a1 b1 c1] 46)).alloc (.cells #[.int .i64 k2, .int .i64 n2, .int .i64 o2, .slice a2 b2 c2] 46)).heap[w.heap.size + 1]? = some (.cells #[.int .i64 k2, .int .i64 n2, .int .i64 o2, .slice a2 b2 c2] 46 (0, 0)) := heap_alloc2_new _ _ _
  have hp0 : ((w.alloc (.cells #[.int .i64 k1, .int .i64 n1, .int .i64 o1, .slice a1 b1 c1] 46)).alloc (.cells #[.int .i64 k2, .int .i64 n2, .int .i64 o2, .slice a2 b2 c2] 46)).heap[w.heap.size]? = some (.cells #[.int .i64 k1, .int .i64 n1, .int .i64 o1, .slice a1 b1 c1] 46 (0, 0)) := heap_alloc2_old _ _ _
  obtain ⟨w0, hw0⟩ : ∃ w0, w0 = (w.alloc (.cells #[.int .i64 k1, .int .i64 n1, .int .i64 o1, .slice a1 b1 c1] 46)).alloc (.cells #[.int .i64 k2, .int .i64 n2, .int .i64 o2, .slice a2 b2 c2] 46) := ⟨_, rfl⟩
  rw [← hw0] at hA1 hq0 hp0
  have HW0 := Hid.mk hw0
  have HA1 := Hid.mk hA1
  have HQ0 := Hid.mk (And.intro hq0 hp0)
  have t0 := first_any w0
  clear hs1 hs2 hs3 hA1 hq0 hp0 hw0
  go_enter Try.func7, Try.ntmps7
  go_wp2_with fail
  rw [← HW0.out]
  refine t0.mono ?_
  rintro e w1 ⟨rfl, hb1'⟩
  have hB1 := HA1.out.trans (hb1'.mono HA1.out.size)
  have hq1 := (hb1'.block _ (Array.getElem?_eq_some_iff.1 HQ0.out.1).1).trans HQ0.out.1
  have hp1 := (hb1'.block _ (Array.getElem?_eq_some_iff.1 HQ0.out.2).1).trans HQ0.out.2
  have e0 : w1.cell? ⟨w.heap.size, 0, none⟩ = some (.int .i64 k1) := cell_of_block hp1 (j := 0) rfl
  have e1 : w1.cell? ⟨w.heap.size, 1, none⟩ = some (.int .i64 n1) := cell_of_block hp1 (j := 1) rfl
  have e2 : w1.cell? ⟨w.heap.size, 2, none⟩ = some (.int .i64 o1) := cell_of_block hp1 (j := 2) rfl
  have e3' : w1.cell? ⟨w.heap.size, 3, none⟩ = some (.slice a1 b1 c1) := cell_of_block hp1 (j := 3) rfl
  have t1 := m1.out w1 hB1
  have HB1 := Hid.mk hB1
  have HQ1 := Hid.mk hq1
  clear t0 hb1' hB1 hq1 hp1 HA1 HQ0 HW0 m1
  go_wp2_with fail
  refine t1.mono ?_
  rintro e w2 ⟨v2, L0, rfl, ho2, hL0, hL0l, hb2'⟩
  obtain ⟨p2, d2, rfl, hs2, _, _⟩ := ho2.src
  have HB2 := Hid.mk (HB1.out.trans (hb2'.mono HB1.out.size))
  have HQ2 := Hid.mk ((hb2'.block _ (Array.getElem?_eq_some_iff.1 HQ1.out).1).trans HQ1.out)
  have t2 := lsector_any p2 L0.length d2 L0 w2 hL0l hs2
  clear t1 ho2 hb2' hs2 HB1 HQ1 e0 e1 e2 e3'
  generalize L0.length = LN at *
  go_wp2_with fail
  refine t2.mono ?_
  rintro e w3 ⟨v3, rfl, ho3, hb3⟩
  obtain ⟨gl, cl, rfl, _, hr3⟩ := ho3.full (by rw [sec_len]; omega)
  have hs3 := hr3.src
  rw [sec_len] at hs3 ⊢
  have HB3 := Hid.mk (HB2.out.trans (hb3.mono HB2.out.size))
  have hq3 := (hb3.block _ (Array.getElem?_eq_some_iff.1 HQ2.out).1).trans HQ2.out
  have HS3 := Hid.mk hs3
  have hLb := sec_bytes hL0
  have hLl := sec_len L0
  generalize sec L0 = L at *
  have e0 : w3.cell? ⟨w.heap.size + 1, 0, none⟩ = some (.int .i64 k2) := cell_of_block hq3 (j := 0) rfl
  have e1 : w3.cell? ⟨w.heap.size + 1, 1, none⟩ = some (.int .i64 n2) := cell_of_block hq3 (j := 1) rfl
  have e2 : w3.cell? ⟨w.heap.size + 1, 2, none⟩ = some (.int .i64 o2) := cell_of_block hq3 (j := 2) rfl
  have e3' : w3.cell? ⟨w.heap.size + 1, 3, none⟩ = some (.slice a2 b2 c2) := cell_of_block hq3 (j := 3) rfl
  have t3 := m2.out w3 HB3.out
  clear t2 ho3 hb3 hr3 hs3 HB2 HQ2 hq3 m2 hL0 hL0l
  go_wp2_with fail
  refine t3.mono ?_
  rintro e w4 ⟨v4, R0, rfl, ho4, hR0, hR0l, hb4⟩
  obtain ⟨p4, d4, rfl, hs4, _, _⟩ := ho4.src
  have HB4 := Hid.mk (HB3.out.trans (hb4.mono HB3.out.size))
  have HS4 := Hid.mk (HS3.out.later hb4)
  have t4 := lsector_any p4 R0.length d4 R0 w4 hR0l hs4
  clear t3 ho4 hb4 hs4 HB3 HS3 e0 e1 e2 e3'
  generalize R0.length = RN at *
  go_wp2_with fail
  refine t4.mono ?_
  rintro e w5 ⟨v5, rfl, ho5, hb5⟩
  obtain ⟨gr, cr, rfl, _, hr5⟩ := ho5.full (by rw [sec_len]; omega)
  have hs5 := hr5.src
  rw [sec_len] at hs5 ⊢
  have hRb := sec_bytes hR0
  generalize sec R0 = R at *
  have HB5 := Hid.mk (HB4.out.trans (hb5.mono HB4.out.size))
  have HL := Hid.mk (fun w' (hb : Below w5.heap.size w5 w') => (HS4.out.later hb5).later hb)
  have HR := Hid.mk (fun w' (hb : Below w5.heap.size w5 w') => hs5.later hb)
  have rn : Hid (∀ (w' : World) (_ : Below w5.heap.size w5 w') (x : Int) (pa : Option Addr) (pc ct : Nat), x ≤ 9223372036854775807 → Src w' pa (dt.take 496).length (dt.take 496) → ct ≤ 512 → Calls Try.prog 16 #[.slice (some ⟨gl, 0, none⟩) 512 cl, .slice (some ⟨gr, 0, none⟩) 512 cr, .int .i64 x, .slice pa (dt.take 496).length pc, .int .i64 (ct : Int), .bool back] w' fun e w'' => ∃ x y z, e = .returned (.tuple #[.bool true, x, y, z]) ∧ Below w'.heap.size w' w'') :=
    fun w' hb x pa pc ct hx hsp hct => (renews_any gl 0 cl L gr 0 cr R pa pc (dt.take 496) x ct back w' (HL.out w' hb) (HR.out w' hb) hsp hLb hRb (hdt.take _) htl hx hct).mono (fun _ _ h => h.ok)
  have t5 := hup.out w5 HB5.out
  clear t4 ho5 hb5 hr5 hs5 HB4 HS4 HL HR hR0 hR0l
  obtain ⟨TL, hTL⟩ : ∃ TL, TL = (dt.take 496).length := ⟨_, rfl⟩
  rw [← hTL] at rn htl
  have HTL := Hid.mk hTL
  clear hTL
  go_wp2_with fail
  refine t5.mono ?_
  rintro e w6 ⟨v6, rfl, ho6, hb6⟩
  obtain ⟨p6, d6, rfl, hs6, _, _⟩ := ho6.src
  rw [← HTL.out] at hs6 ⊢
  have HZ6 := Hid.mk hb6
  have HS6 := Hid.mk hs6
  clear t5 ho6 hb6 hs6
  go_wp2_with fail
  refine (cutOf_any cut w6).mono ?_
  rintro e w' ⟨ct, hct, rfl, hw⟩
  have hw' := hw.symm
  subst hw'
  clear hw
  have t6 := rn.out w6 HZ6.out num p6 d6 ct hhi HS6.out hct
  go_wp2_with fail
  refine t6.mono ?_
  rintro e w7 ⟨x, y, z, rfl, hb7⟩
  have HZ7 := Hid.mk (HZ6.out.trans (hb7.mono HZ6.out.size))
  have t7 := hup.out w7 (HB5.out.trans (HZ7.out.mono HB5.out.size))
  clear t6 hb7 HZ6 HS6
  go_wp2_with fail
  refine t7.mono ?_
  rintro e w8 ⟨v8, rfl, ho8, hb8⟩
  obtain ⟨p8, d8, rfl, hs8, _, _⟩ := ho8.src
  rw [← HTL.out] at hs8 ⊢
  have HZ8 := Hid.mk (HZ7.out.trans (hb8.mono HZ7.out.size))
  have HS8 := Hid.mk hs8
  clear t7 ho8 hb8 hs8 HZ7
  go_wp2_with fail
  refine (cutOf_any cut w8).mono ?_
  rintro e w' ⟨ct2, hct2, rfl, hw⟩
  have hw' := hw.symm
  subst hw'
  clear hw
  have t8 := rn.out w8 HZ8.out 1 p8 d8 ct2 (by omega) HS8.out hct2
  go_wp2_with fail
  refine t8.mono ?_
  rintro e w9 ⟨x2, y2, z2, rfl, hb9⟩
  have HB9 := Hid.mk (HB5.out.trans ((HZ8.out.trans (hb9.mono HZ8.out.size)).mono HB5.out.size))
  clear t8 hb9
  go_wp2
  go_ret
  exact ⟨rfl, HB9.out⟩
end Go.Proofs.Ytodleeipefnadac
