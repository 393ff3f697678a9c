import Derived.Test.YtodleeipefnadacKP6
import Derived.Test.YtodleeipefnadacKP5
namespace Go.Proofs.Ytodleeipefnadac
open Go.RowKit

set_option maxRecDepth 20000 in
set_option maxHeartbeats 4000000 in
theorem rnewest_no (a : Option Addr) (n c : Nat) (a2 : Option Addr) (m d : Nat) (w : World) (h : n ≠ 512 ∨ m ≠ 512) :
    Calls Try.prog 22 #[.slice a n c, .slice a2 m d] w fun e w' => e = .returned (.tuple #[.int .i64 0, .int .i64 0, .slice none 0 0, .int .i64 2]) ∧ w' = w := by
  by_cases hn : n = 512
  · subst hn
    have h2 : (((m : Int)) != 512) = true := by rw [bne_iff_ne]; omega
    go_enter Try.func22, Try.ntmps22
    go_wp2
    exact bodyPost_ret (results_tmp4 (P := Try.prog) rfl _ _) rfl ⟨rfl, rfl⟩
  · have h2 : (((n : Int)) != 512) = true := by rw [bne_iff_ne]; omega
    go_enter Try.func22, Try.ntmps22
    go_wp2
    exact bodyPost_ret (results_tmp4 (P := Try.prog) rfl _ _) rfl ⟨rfl, rfl⟩

set_option maxRecDepth 20000 in
set_option maxHeartbeats 4000000 in
theorem rnewest_ok (b o c : Nat) (l : List Int) (b2 o2 d : Nat) (r : List Int) (w : World) (hs : Src w (some ⟨b, o, none⟩) 512 l) (hs2 : Src w (some ⟨b2, o2, none⟩) 512 r) (hl : Bytes l) (hr : Bytes r) :
    Calls Try.prog 22 #[.slice (some ⟨b, o, none⟩) 512 c, .slice (some ⟨b2, o2, none⟩) 512 d] w fun e w' => ∃ v, e = .returned (.tuple #[.int .i64 (((snewest l r).1 : Nat) : Int), .int .i64 (((snewest l r).2.1 : Nat) : Int), v, .int .i64 (((snewest l r).2.2.2 : Nat) : Int)]) ∧ Own w' w.heap.size v (snewest l r).2.2.1 ∧ Below w.heap.size w w' := by
  have h1 := ranchor_any b o c l w hs hl
  have hse := snewest_eq hs.1 hs2.1
  have H2 := Hid.mk hs2
  clear hs hs2
  go_enter Try.func22, Try.ntmps22
  go_wp2_with fail
  refine h1.mono ?_
  rintro e w1 ⟨v1, rfl, ho1, hb1⟩
  have h2 := ranchor_any b2 o2 d r w1 (H2.out.later hb1) hr
  have HB1 := Hid.mk hb1
  have Ho1 := Hid.mk ho1
  clear h1 hb1 ho1
  obtain ⟨A, hA⟩ : ∃ A, A = sanchor l := ⟨_, rfl⟩
  obtain ⟨B, hB⟩ : ∃ B, B = sanchor r := ⟨_, rfl⟩
  rw [← hA] at hse Ho1 ⊢
  rw [← hB] at hse h2
  have Hse := Hid.mk hse
  clear hA hB hse
  go_wp2_with fail
  refine h2.mono ?_
  rintro e w2 ⟨v2, rfl, ho2, hb2⟩
  have HB2 := Hid.mk (HB1.out.trans (hb2.mono HB1.out.size))
  have Ho1' := Hid.mk (Own.later Ho1.out hb2)
  have Ho2 := Hid.mk (Own.down ho2 HB1.out.size)
  clear h2 hb2 ho2 HB1 Ho1
  by_cases q : A.1 = 0 ∧ B.1 = 0
  · have e1 : snewest l r = (0, 0, [], 30) := by rw [Hse.out, if_pos q]
    obtain ⟨q1, q2⟩ := q
    rw [q1, q2]
    have He := Hid.mk e1
    clear Hse q1 q2 e1
    go_wp2
    exact bodyPost_ret (results_tmp4 (P := Try.prog) rfl _ _) rfl ⟨.slice none 0 0, by rw [He.out]; rfl, by rw [He.out]; exact Own.nil _ _, HB2.out⟩
  · have e1 := Hse.out
    rw [if_neg q] at e1
    by_cases q2 : A.1 < B.1
    · rw [if_pos q2] at e1
      have He := Hid.mk e1
      have q2' : ((A.1 : Nat) : Int) < ((B.1 : Nat) : Int) := by omega
      have qb : ((((B.1 : Nat) : Int)) == 0) = false := by rw [beq_eq_false_iff_ne]; omega
      clear Hse e1 q q2
      by_cases qa0 : A.1 = 0
      · rw [qa0] at q2' ⊢
        generalize hB1 : B.1 = B1 at *
        have HB1 := Hid.mk hB1
        clear hB1 qa0
        go_wp2
        exact bodyPost_ret (results_tmp4 (P := Try.prog) rfl _ _) rfl ⟨v2, by rw [He.out]; rfl, by rw [He.out]; exact Ho2.out, HB2.out⟩
      · have qa : ((((A.1 : Nat) : Int)) == 0) = false := by rw [beq_eq_false_iff_ne]; omega
        generalize hB1 : B.1 = B1 at *
        generalize A.1 = A1 at *
        clear hB1 qa0
        go_wp2
        exact bodyPost_ret (results_tmp4 (P := Try.prog) rfl _ _) rfl ⟨v2, by rw [He.out]; rfl, by rw [He.out]; exact Ho2.out, HB2.out⟩
    · rw [if_neg q2] at e1
      have He := Hid.mk e1
      have q2' : ¬ ((A.1 : Nat) : Int) < ((B.1 : Nat) : Int) := by omega
      have qa : ((((A.1 : Nat) : Int)) == 0) = false := by rw [beq_eq_false_iff_ne]; omega
      clear Hse e1 q q2
      generalize hA1 : A.1 = A1 at *
      generalize B.1 = B1 at *
      clear hA1
      go_wp2
      exact bodyPost_ret (results_tmp4 (P := Try.prog) rfl _ _) rfl ⟨v1, by rw [He.out]; rfl, by rw [He.out]; exact Ho1'.out, HB2.out⟩

theorem rnewest_any (a : Option Addr) (n c : Nat) (l : List Int) (a2 : Option Addr) (m d : Nat) (r : List Int) (w : World) (hs : Src w a n l) (hs2 : Src w a2 m r) (hl : Bytes l) (hr : Bytes r) :
    Calls Try.prog 22 #[.slice a n c, .slice a2 m d] w fun e w' => ∃ v, e = .returned (.tuple #[.int .i64 (((snewest l r).1 : Nat) : Int), .int .i64 (((snewest l r).2.1 : Nat) : Int), v, .int .i64 (((snewest l r).2.2.2 : Nat) : Int)]) ∧ Own w' w.heap.size v (snewest l r).2.2.1 ∧ Below w.heap.size w w' := by
  by_cases h : n = 512 ∧ m = 512
  · obtain ⟨rfl, rfl⟩ := h
    obtain ⟨b, o, rfl⟩ := src_spot hs (by omega)
    obtain ⟨b2, o2, rfl⟩ := src_spot hs2 (by omega)
    exact rnewest_ok b o c l b2 o2 d r w hs hs2 hl hr
  · refine (rnewest_no a n c a2 m d w (by omega)).mono ?_
    rintro e w' ⟨rfl, rfl⟩
    have e1 : snewest l r = (0, 0, [], 2) := by unfold snewest; rw [if_pos (by have := hs.1; have := hs2.1; omega)]
    rw [e1]
    exact ⟨_, rfl, Own.nil _ _, Below.refl _ _⟩
theorem snewest_len (l r : List Int) : (snewest l r).2.2.1.length ≤ 512 := by
  have h : ∀ s : List Int, s.length = 512 → (sanchor s).2.length ≤ 512 := by
    intro s hs
    unfold sanchor
    cases h : sopen s with
    | none => simp
    | some b =>
      have := sopen_len h hs
      simp only
      split
      · simp only [List.length_drop]; omega
      · simp
  unfold snewest
  split
  · simp
  · next hh =>
    split
    · simp
    · split
      · exact h r (by omega)
      · exact h l (by omega)

set_option maxRecDepth 20000 in
set_option maxHeartbeats 4000000 in
theorem lnewest_any (a : Option Addr) (n c : Nat) (l : List Int) (a2 : Option Addr) (m d : Nat) (r : List Int) (w : World) (hs : Src w a n l) (hs2 : Src w a2 m r) (hl : Bytes l) (hr : Bytes r) (hn : n ≤ 140737488355328) (hm : m ≤ 140737488355328) :
    Calls Try.prog 20 #[.slice a n c, .slice a2 m d] w fun e w' => e = .returned (.bool true) ∧ Below w.heap.size w w' := by
  have h1 := ltwin_any a n c l w hn hs
  have H1 := Hid.mk hs
  have H2 := Hid.mk hs2
  have hl1 := hs.1
  have hl2 := hs2.1
  clear hs hs2
  go_enter Try.func20, Try.ntmps20
  go_wp2_with fail
  refine h1.mono ?_
  rintro e w1 ⟨v1, rfl, ho1, hb1⟩
  obtain ⟨p1, c1, rfl, hs1, _, _⟩ := ho1.src
  rw [hl1] at hs1 ⊢
  have h2 := ltwin_any a2 m d r w1 hm (H2.out.later hb1)
  have HB1 := Hid.mk hb1
  have HS1 := Hid.mk hs1
  clear h1 ho1 hb1 hs1
  go_wp2_with fail
  refine h2.mono ?_
  rintro e w2 ⟨v2, rfl, ho2, hb2⟩
  obtain ⟨p2, d2, rfl, hs2, _, _⟩ := ho2.src
  rw [hl2] at hs2 ⊢
  have hB2 := HB1.out.trans (hb2.mono HB1.out.size)
  have h3 := pnewest_any p1 n c1 l p2 m d2 r w2 (HS1.out.later hb2) hs2 hl hr
  have HB2 := Hid.mk hB2
  have HS12 := Hid.mk (HS1.out.later hb2)
  have HS2 := Hid.mk hs2
  have hlen := snewest_len l r
  have h4 := Hid.mk (fun w3 (hB : Below w.heap.size w w3) => rnewest_any a n c l a2 m d r w3 (H1.out.later hB) (H2.out.later hB) hl hr)
  clear h2 ho2 hb2 hs2 hB2 HB1 HS1
  generalize snewest l r = T at *
  obtain ⟨A, B, R, E⟩ := T
  dsimp only at *
  go_wp2_with fail
  refine h3.mono ?_
  rintro e w3 ⟨v3, rfl, hl3, hb3⟩
  obtain ⟨p3, c3, rfl, hs3, _, _⟩ := hl3
  have hB3 := HB2.out.trans (hb3.mono HB2.out.size)
  have h4 := h4.out w3 hB3
  have HB3 := Hid.mk hB3
  have HS13 := Hid.mk (HS12.out.later hb3)
  have HS23 := Hid.mk (HS2.out.later hb3)
  have HS3 := Hid.mk hs3
  clear h3 hb3 hs3 hB3 HB2 HS12 HS2
  go_wp2_with fail
  refine h4.mono ?_
  rintro e w4 ⟨v4, rfl, ho4, hb4⟩
  obtain ⟨p4, c4, rfl, hs4, _, _⟩ := ho4.src
  have hB4 := HB3.out.trans (hb4.mono HB3.out.size)
  have h5 := lsame_any p3 p4 R.length R.length c3 c4 R R w4 (by omega) (HS3.out.later hb4) hs4
  have HB4 := Hid.mk hB4
  have HS14 := Hid.mk (HS13.out.later hb4)
  have HS24 := Hid.mk (HS23.out.later hb4)
  clear h4 hb4 hs4 hB4 HB3 HS13 HS23 ho4 HS3
  rw [decide_eq_true rfl] at h5
  generalize R.length = RL at *
  have sA : ((A : Int) == (A : Int)) = true := by simp
  have sB : ((B : Int) == (B : Int)) = true := by simp
  go_wp2_with fail
  refine h5.mono ?_
  rintro e w5 ⟨rfl, hb5⟩
  have hB5 := HB4.out.trans (hb5.mono HB4.out.size)
  have h6 := lsame_any p1 a n n c1 c l l w5 hn (HS14.out.later hb5) (H1.out.later hB5)
  have HS25 := Hid.mk (HS24.out.later hb5)
  have HB5 := Hid.mk hB5
  rw [decide_eq_true rfl] at h6
  clear h5 hb5 hB5 HB4 HS14 HS24
  go_wp2_with fail
  refine (lnum_any _ _).mono ?_
  rintro e w' ⟨rfl, hw⟩
  have hw' := hw.symm
  subst hw'
  clear hw
  go_wp2_with fail
  refine h6.mono ?_
  rintro e w6 ⟨rfl, hb6⟩
  have hB6 := HB5.out.trans (hb6.mono HB5.out.size)
  have h7 := lsame_any p2 a2 m m d2 d r r w6 hm (HS25.out.later hb6) (H2.out.later hB6)
  have HB6 := Hid.mk hB6
  rw [decide_eq_true rfl] at h7
  clear h6 hb6 hB6 HB5 HS25
  go_wp2_with fail
  refine h7.mono ?_
  rintro e w7 ⟨rfl, hb7⟩
  have HB7 := Hid.mk (HB6.out.trans (hb7.mono HB6.out.size))
  clear h7 hb7
  go_wp2
  go_ret
  exact ⟨rfl, HB7.out⟩
end Go.Proofs.Ytodleeipefnadac
