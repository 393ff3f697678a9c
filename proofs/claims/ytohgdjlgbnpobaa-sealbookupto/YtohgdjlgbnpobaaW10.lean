import Derived.Test.YtohgdjlgbnpobaaW09
section
namespace Go.Proofs.Ytohgdjlgbnpobaa
open Go.RowKit

set_option maxRecDepth 20000 in
set_option maxHeartbeats 4000000 in
theorem rrenew_no (a : Option Addr) (n c : Nat) (l : List Int) (a2 : Option Addr) (m d : Nat) (r : List Int) (a3 : Option Addr) (q e3 : Nat) (num : Int) (w : World) (hs : Src w a n l) (hs2 : Src w a2 m r) (hl : Bytes l) (hr : Bytes r) (code : Int)
    (h : ((snewest l r).2.2.2 = 2 ∧ code = 2) ∨ ((snewest l r).2.2.2 ≠ 2 ∧ num < 1 ∧ code = 1) ∨ ((snewest l r).2.2.2 ≠ 2 ∧ ¬ num < 1 ∧ 496 < q ∧ code = 7) ∨ ((snewest l r).2.2.2 = 0 ∧ ¬ num < 1 ∧ ¬ 496 < q ∧ num ≤ (((snewest l r).2.1 : Nat) : Int) ∧ code = 31)) :
    Calls Try.prog 33 #[.slice a n c, .slice a2 m d, .int .i64 num, .slice a3 q e3] w fun e w' => e = .returned (.tuple #[.int .i64 0, .slice none 0 0, .int .i64 code]) ∧ Below w.heap.size w w' := by
  have h1 := rnewest_any a n c l a2 m d r w hs hs2 hl hr
  generalize snewest l r = T at *
  obtain ⟨A, B, D, E⟩ := T
  dsimp only at h1 h
  have Hh := Hid.mk h
  clear h hs hs2
  go_enter Try.func33, Try.ntmps33
  go_wp2_with fail
  refine h1.mono ?_
  rintro e w1 ⟨v, rfl, _, hb1⟩
  have HB1 := Hid.mk hb1
  have h := Hh.out
  clear h1 hb1 Hh
  rcases h with ⟨rfl, rfl⟩ | ⟨hE, hn, rfl⟩ | ⟨hE, hn, hq, rfl⟩ | ⟨rfl, hn, hq, hle, rfl⟩
  · go_wp2
    go_ret3
    exact ⟨rfl, HB1.out⟩
  · have hE' : ((E : Int) == 2) = false := by rw [beq_eq_false_iff_ne]; omega
    go_wp2
    go_ret3
    exact ⟨rfl, HB1.out⟩
  · have hE' : ((E : Int) == 2) = false := by rw [beq_eq_false_iff_ne]; omega
    have hq' : 496 < (q : Int) := by omega
    go_wp2
    go_ret3
    exact ⟨rfl, HB1.out⟩
  · have hq' : ¬ 496 < (q : Int) := by omega
    go_wp2
    go_ret3
    exact ⟨rfl, HB1.out⟩

set_option maxRecDepth 20000 in
set_option maxHeartbeats 8000000 in
theorem rrenew_ok0 (b1 o1 c : Nat) (l : List Int) (b2 o2 d : Nat) (r : List Int) (a3 : Option Addr) (q e3 : Nat) (dt : List Int) (N : Nat) (num : Int) (hnum : num = (N : Int)) (w : World) (hs : Src w (some ⟨b1, o1, none⟩) 512 l) (hs2 : Src w (some ⟨b2, o2, none⟩) 512 r) (hl : Bytes l) (hr : Bytes r)
    (hs3 : Src w a3 q dt) (hdt : Bytes dt) (hN1 : 1 ≤ N) (hNm : N < 9223372036854775808) (hq : q ≤ 496) (hst : (snewest l r).2.1 < N) (hc : ¬ ((snewest l r).2.2.2 = 0 ∧ (snewest l r).1 = 0)) :
    Calls Try.prog 33 #[.slice (some ⟨b1, o1, none⟩) 512 c, .slice (some ⟨b2, o2, none⟩) 512 d, .int .i64 num, .slice a3 q e3] w fun e w' => ∃ v, e = .returned (.tuple #[.int .i64 0, v, .int .i64 0]) ∧ Own w' w.heap.size v (sform (turnOf (l.getD 0 0) (l.getD 511 0)) (bytes8 N ++ dt)) ∧ Below w.heap.size w w' := by
  have h1 := rnewest_any (some ⟨b1, o1, none⟩) 512 c l (some ⟨b2, o2, none⟩) 512 d r w hs hs2 hl hr
  have hE2 : (snewest l r).2.2.2 ≠ 2 := by rcases snewest_none hs.1 hs2.1 with h | h <;> omega
  have HX := Hid.mk hs
  have hXl := hs.1
  have H3 := Hid.mk hs3
  have hdl := hs3.1
  generalize snewest l r = T at *
  obtain ⟨A, B, D, E⟩ := T
  dsimp only at h1 hst hc hE2
  have hE' : ((E : Int) == 2) = false := by rw [beq_eq_false_iff_ne]; omega
  have hq' : ¬ 496 < (q : Int) := by omega
  have hN1' : ¬ num < 1 := by omega
  have hst' : ¬ num ≤ (B : Int) := by omega
  have HN := Hid.mk hnum
  clear hnum
  have Hc := Hid.mk hc
  clear hs hs2 hs3 hc hst hE2
  go_enter Try.func33, Try.ntmps33
  go_wp2_with fail
  refine h1.mono ?_
  rintro e w1 ⟨v, rfl, _, hb1⟩
  have HB1 := Hid.mk hb1
  have hz1 := hb1.size
  clear h1 hb1
  by_cases hE0 : E = 0
  · subst hE0
    have hA0 : ((A : Int) == 0) = false := by rw [beq_eq_false_iff_ne]; have hA : A ≠ 0 := fun h => Hc.out ⟨rfl, h⟩; omega
    rw [show (((0 : Nat)) : Int) = 0 by rfl]
    go_wp2
    go_loopw [15, 16, 17] (fun v x i wr => ∃ k : Nat, k ≤ 8 ∧ i = .int .i64 k ∧ x = .int .i64 ((N / 256 ^ k : Nat) : Int) ∧ Own wr w1.heap.size v (leb k N) ∧ Below w1.heap.size w1 wr) (fun _ _ i _ => 8 - (intOf i).toNat)
    case atStart => exact ⟨0, Nat.zero_le _, rfl, by rw [HN.out]; simp, Own.nil _ _, Below.refl _ _⟩
    case round =>
      obtain ⟨k, hk, rfl, rfl, hown, hbr⟩ := hrel
      have Hown := Hid.mk hown
      have HB := Hid.mk hbr
      have hz := hbr.size
      clear hown hbr
      by_cases hlt : k < 8
      · have hlt' : (k : Int) < 8 := by omega
        have e1 : N / 256 ^ (k + 1) = N / 256 ^ k / 256 := by rw [Nat.div_div_eq_div_mul, Nat.pow_succ]
        have e2 := leb_snoc k N
        rw [show (2 : Nat) ^ (8 * k) = 256 ^ k by rw [Nat.pow_mul]] at e2
        have hQ : N / 256 ^ k < 9223372036854775808 := Nat.lt_of_le_of_lt (Nat.div_le_self _ _) hNm
        generalize N / 256 ^ k = Q at *
        have q1 : ((Q : Int)).tmod 256 = ((Q % 256 : Nat) : Int) := by rw [Int.tmod_eq_emod_of_nonneg (by omega)]; omega
        have q2 : ((Q : Int)).tdiv 256 = ((Q / 256 : Nat) : Int) := by rw [Int.tdiv_eq_ediv_of_nonneg (by omega)]; omega
        have He1 := Hid.mk e1
        have He2 := Hid.mk e2
        have hll : (leb k N).length = k := leb_len k N
        clear e1 e2
        go_wp2_with (at_builtin; refine wpList_app1 rfl _ _ rfl w1.heap.size u15 _ _ rfl rfl Hown.out ?b1 ?b2 ?_)
        case b1 => omega
        case b2 => exact hz
        intro v' w' ho hb'
        have HO : Hid (Own w' w1.heap.size v' (leb (k + 1) N)) := by rw [He2.out]; exact ho
        have HB' := Hid.mk (HB.out.trans (hb'.mono (Nat.le_refl _)))
        clear ho hb' Hown HB He2
        go_wp2
        go_roundw
        case rel => exact ⟨k + 1, by omega, by go_num, by rw [He1.out]; simp, HO.out, HB'.out⟩
        case measure => simp [intOf]; omega
      · have hlt' : ¬ (k : Int) < 8 := by omega
        obtain rfl : k = 8 := by omega
        rw [leb8] at Hown
        have Hown2 : Hid (Own wr w1.heap.size u15 (bytes8 N ++ dt.take 0)) := by show Own wr w1.heap.size u15 (bytes8 N ++ []); rw [List.append_nil]; exact Hown.out
        clear Hown
        go_wp2
        go_loopw [15, 18] (fun v i wx => ∃ k : Nat, k ≤ q ∧ i = .int .i64 k ∧ Own wx w1.heap.size v (bytes8 N ++ dt.take k) ∧ Below w1.heap.size w1 wx) (fun _ i _ => q - (intOf i).toNat)
        case atStart => exact ⟨0, Nat.zero_le _, rfl, Hown2.out, HB.out⟩
        case round =>
          clear Hown2 HB hz
          obtain ⟨k, hk, rfl, hown, hbr⟩ := hrel
          have Hown := Hid.mk hown
          have HB := Hid.mk hbr
          have hz := hbr.size
          clear hown hbr
          have hll : (bytes8 N ++ dt.take k).length = 8 + k := by rw [List.length_append, bytes8_len, List.length_take]; omega
          by_cases hlt : k < q
          · have hlt' : (k : Int) < (q : Int) := by omega
            obtain ⟨b3, o3, rfl⟩ := src_spot H3.out (by omega)
            have hcc := H3.out.2.2 _ rfl k hlt
            rw [addr_add] at hcc
            have hcc := cell_later (HB1.out.trans (HB.out.mono hz1)) hcc
            have HeN := Hid.mk (take_snoc dt k (by omega))
            generalize dt.getD k 0 = x at *
            go_wp2_with (at_builtin; refine wpList_app1 rfl _ _ rfl w1.heap.size u15 _ x rfl rfl Hown.out ?b1 ?b2 ?_)
            case b1 => omega
            case b2 => exact hz
            intro v' w' ho hb'
            have HO : Hid (Own w' w1.heap.size v' (bytes8 N ++ dt.take (k + 1))) := by rw [← HeN.out]; first | exact ho | (rw [← List.append_assoc]; exact ho)
            have HB' := Hid.mk (HB.out.trans (hb'.mono (Nat.le_refl _)))
            clear ho hb' Hown HB HeN
            go_wp2
            go_roundw
            case rel => exact ⟨k + 1, by omega, by go_num, HO.out, HB'.out⟩
            case measure => simp [intOf]; omega
          · have hlt' : ¬ (k : Int) < (q : Int) := by omega
            have e5 : dt.take k = dt := List.take_of_length_le (by omega)
            rw [e5] at Hown hll
            obtain ⟨vb, vc, rfl, hsb, _, _⟩ := Hown.out.src
            have hBr := HB1.out.trans (HB.out.mono hz1)
            have hdl2 : (bytes8 N ++ dt).length ≤ 504 := by omega
            have k2 := rseal_any (some ⟨b1, o1, none⟩) 512 c l vb (bytes8 N ++ dt).length vc (bytes8 N ++ dt) wr (HX.out.later hBr) hsb ((bytes8_bytes N).append hdt) hl
            rw [sseal_ok hXl hdl2] at k2
            dsimp only at k2
            have HBr := Hid.mk hBr
            clear e5 hsb hBr hll Hown HB
            generalize (bytes8 N ++ dt).length = BL at *
            go_wp2_with fail
            refine k2.mono ?_
            rintro e w5 ⟨v5, rfl, ho5, hb5⟩
            have HH := Hid.mk (And.intro (Own.down ho5 HBr.out.size) (HBr.out.trans (hb5.mono HBr.out.size)))
            clear k2 ho5 hb5
            go_wp2
            go_ret3
            exact ⟨v5, rfl, HH.out⟩
  · have hE0' : ((E : Int) == 0) = false := by rw [beq_eq_false_iff_ne]; omega
    go_wp2
    go_loopw [15, 16, 17] (fun v x i wr => ∃ k : Nat, k ≤ 8 ∧ i = .int .i64 k ∧ x = .int .i64 ((N / 256 ^ k : Nat) : Int) ∧ Own wr w1.heap.size v (leb k N) ∧ Below w1.heap.size w1 wr) (fun _ _ i _ => 8 - (intOf i).toNat)
    case atStart => exact ⟨0, Nat.zero_le _, rfl, by rw [HN.out]; simp, Own.nil _ _, Below.refl _ _⟩
    case round =>
      obtain ⟨k, hk, rfl, rfl, hown, hbr⟩ := hrel
      have Hown := Hid.mk hown
      have HB := Hid.mk hbr
      have hz := hbr.size
      clear hown hbr
      by_cases hlt : k < 8
      · have hlt' : (k : Int) < 8 := by omega
        have e1 : N / 256 ^ (k + 1) = N / 256 ^ k / 256 := by rw [Nat.div_div_eq_div_mul, Nat.pow_succ]
        have e2 := leb_snoc k N
        rw [show (2 : Nat) ^ (8 * k) = 256 ^ k by rw [Nat.pow_mul]] at e2
        have hQ : N / 256 ^ k < 9223372036854775808 := Nat.lt_of_le_of_lt (Nat.div_le_self _ _) hNm
        generalize N / 256 ^ k = Q at *
        have q1 : ((Q : Int)).tmod 256 = ((Q % 256 : Nat) : Int) := by rw [Int.tmod_eq_emod_of_nonneg (by omega)]; omega
        have q2 : ((Q : Int)).tdiv 256 = ((Q / 256 : Nat) : Int) := by rw [Int.tdiv_eq_ediv_of_nonneg (by omega)]; omega
        have He1 := Hid.mk e1
        have He2 := Hid.mk e2
        have hll : (leb k N).length = k := leb_len k N
        clear e1 e2
        go_wp2_with (at_builtin; refine wpList_app1 rfl _ _ rfl w1.heap.size u15 _ _ rfl rfl Hown.out ?b1 ?b2 ?_)
        case b1 => omega
        case b2 => exact hz
        intro v' w' ho hb'
        have HO : Hid (Own w' w1.heap.size v' (leb (k + 1) N)) := by rw [He2.out]; exact ho
        have HB' := Hid.mk (HB.out.trans (hb'.mono (Nat.le_refl _)))
        clear ho hb' Hown HB He2
        go_wp2
        go_roundw
        case rel => exact ⟨k + 1, by omega, by go_num, by rw [He1.out]; simp, HO.out, HB'.out⟩
        case measure => simp [intOf]; omega
      · have hlt' : ¬ (k : Int) < 8 := by omega
        obtain rfl : k = 8 := by omega
        rw [leb8] at Hown
        have Hown2 : Hid (Own wr w1.heap.size u15 (bytes8 N ++ dt.take 0)) := by show Own wr w1.heap.size u15 (bytes8 N ++ []); rw [List.append_nil]; exact Hown.out
        clear Hown
        go_wp2
        go_loopw [15, 18] (fun v i wx => ∃ k : Nat, k ≤ q ∧ i = .int .i64 k ∧ Own wx w1.heap.size v (bytes8 N ++ dt.take k) ∧ Below w1.heap.size w1 wx) (fun _ i _ => q - (intOf i).toNat)
        case atStart => exact ⟨0, Nat.zero_le _, rfl, Hown2.out, HB.out⟩
        case round =>
          clear Hown2 HB hz
          obtain ⟨k, hk, rfl, hown, hbr⟩ := hrel
          have Hown := Hid.mk hown
          have HB := Hid.mk hbr
          have hz := hbr.size
          clear hown hbr
          have hll : (bytes8 N ++ dt.take k).length = 8 + k := by rw [List.length_append, bytes8_len, List.length_take]; omega
          by_cases hlt : k < q
          · have hlt' : (k : Int) < (q : Int) := by omega
            obtain ⟨b3, o3, rfl⟩ := src_spot H3.out (by omega)
            have hcc := H3.out.2.2 _ rfl k hlt
            rw [addr_add] at hcc
            have hcc := cell_later (HB1.out.trans (HB.out.mono hz1)) hcc
            have HeN := Hid.mk (take_snoc dt k (by omega))
            generalize dt.getD k 0 = x at *
            go_wp2_with (at_builtin; refine wpList_app1 rfl _ _ rfl w1.heap.size u15 _ x rfl rfl Hown.out ?b1 ?b2 ?_)
            case b1 => omega
            case b2 => exact hz
            intro v' w' ho hb'
            have HO : Hid (Own w' w1.heap.size v' (bytes8 N ++ dt.take (k + 1))) := by rw [← HeN.out]; first | exact ho | (rw [← List.append_assoc]; exact ho)
            have HB' := Hid.mk (HB.out.trans (hb'.mono (Nat.le_refl _)))
            clear ho hb' Hown HB HeN
            go_wp2
            go_roundw
            case rel => exact ⟨k + 1, by omega, by go_num, HO.out, HB'.out⟩
            case measure => simp [intOf]; omega
          · have hlt' : ¬ (k : Int) < (q : Int) := by omega
            have e5 : dt.take k = dt := List.take_of_length_le (by omega)
            rw [e5] at Hown hll
            obtain ⟨vb, vc, rfl, hsb, _, _⟩ := Hown.out.src
            have hBr := HB1.out.trans (HB.out.mono hz1)
            have hdl2 : (bytes8 N ++ dt).length ≤ 504 := by omega
            have k2 := rseal_any (some ⟨b1, o1, none⟩) 512 c l vb (bytes8 N ++ dt).length vc (bytes8 N ++ dt) wr (HX.out.later hBr) hsb ((bytes8_bytes N).append hdt) hl
            rw [sseal_ok hXl hdl2] at k2
            dsimp only at k2
            have HBr := Hid.mk hBr
            clear e5 hsb hBr hll Hown HB
            generalize (bytes8 N ++ dt).length = BL at *
            go_wp2_with fail
            refine k2.mono ?_
            rintro e w5 ⟨v5, rfl, ho5, hb5⟩
            have HH := Hid.mk (And.intro (Own.down ho5 HBr.out.size) (HBr.out.trans (hb5.mono HBr.out.size)))
            clear k2 ho5 hb5
            go_wp2
            go_ret3
            exact ⟨v5, rfl, HH.out⟩

set_option maxRecDepth 20000 in
set_option maxHeartbeats 8000000 in
theorem rrenew_ok1 (b1 o1 c : Nat) (l : List Int) (b2 o2 d : Nat) (r : List Int) (a3 : Option Addr) (q e3 : Nat) (dt : List Int) (N : Nat) (num : Int) (hnum : num = (N : Int)) (w : World) (hs : Src w (some ⟨b1, o1, none⟩) 512 l) (hs2 : Src w (some ⟨b2, o2, none⟩) 512 r) (hl : Bytes l) (hr : Bytes r)
    (hs3 : Src w a3 q dt) (hdt : Bytes dt) (hN1 : 1 ≤ N) (hNm : N < 9223372036854775808) (hq : q ≤ 496) (hst : (snewest l r).2.1 < N) (hc : (snewest l r).2.2.2 = 0 ∧ (snewest l r).1 = 0) :
    Calls Try.prog 33 #[.slice (some ⟨b1, o1, none⟩) 512 c, .slice (some ⟨b2, o2, none⟩) 512 d, .int .i64 num, .slice a3 q e3] w fun e w' => ∃ v, e = .returned (.tuple #[.int .i64 1, v, .int .i64 0]) ∧ Own w' w.heap.size v (sform (turnOf (r.getD 0 0) (r.getD 511 0)) (bytes8 N ++ dt)) ∧ Below w.heap.size w w' := by
  have h1 := rnewest_any (some ⟨b1, o1, none⟩) 512 c l (some ⟨b2, o2, none⟩) 512 d r w hs hs2 hl hr
  have hE2 : (snewest l r).2.2.2 ≠ 2 := by rcases snewest_none hs.1 hs2.1 with h | h <;> omega
  have HX := Hid.mk hs2
  have hXl := hs2.1
  have H3 := Hid.mk hs3
  have hdl := hs3.1
  generalize snewest l r = T at *
  obtain ⟨A, B, D, E⟩ := T
  dsimp only at h1 hst hc hE2
  have hE' : ((E : Int) == 2) = false := by rw [beq_eq_false_iff_ne]; omega
  have hq' : ¬ 496 < (q : Int) := by omega
  have hN1' : ¬ num < 1 := by omega
  have hst' : ¬ num ≤ (B : Int) := by omega
  have HN := Hid.mk hnum
  clear hnum
  have Hc := Hid.mk hc
  clear hs hs2 hs3 hc hst hE2
  go_enter Try.func33, Try.ntmps33
  go_wp2_with fail
  refine h1.mono ?_
  rintro e w1 ⟨v, rfl, _, hb1⟩
  have HB1 := Hid.mk hb1
  have hz1 := hb1.size
  clear h1 hb1
  by_cases hE0 : E = 0
  · subst hE0
    have hA0 : A = 0 := Hc.out.2
    subst hA0
    rw [show (((0 : Nat)) : Int) = 0 by rfl]
    go_wp2
    go_loopw [15, 16, 17] (fun v x i wr => ∃ k : Nat, k ≤ 8 ∧ i = .int .i64 k ∧ x = .int .i64 ((N / 256 ^ k : Nat) : Int) ∧ Own wr w1.heap.size v (leb k N) ∧ Below w1.heap.size w1 wr) (fun _ _ i _ => 8 - (intOf i).toNat)
    case atStart => exact ⟨0, Nat.zero_le _, rfl, by rw [HN.out]; simp, Own.nil _ _, Below.refl _ _⟩
    case round =>
      obtain ⟨k, hk, rfl, rfl, hown, hbr⟩ := hrel
      have Hown := Hid.mk hown
      have HB := Hid.mk hbr
      have hz := hbr.size
      clear hown hbr
      by_cases hlt : k < 8
      · have hlt' : (k : Int) < 8 := by omega
        have e1 : N / 256 ^ (k + 1) = N / 256 ^ k / 256 := by rw [Nat.div_div_eq_div_mul, Nat.pow_succ]
        have e2 := leb_snoc k N
        rw [show (2 : Nat) ^ (8 * k) = 256 ^ k by rw [Nat.pow_mul]] at e2
        have hQ : N / 256 ^ k < 9223372036854775808 := Nat.lt_of_le_of_lt (Nat.div_le_self _ _) hNm
        generalize N / 256 ^ k = Q at *
        have q1 : ((Q : Int)).tmod 256 = ((Q % 256 : Nat) : Int) := by rw [Int.tmod_eq_emod_of_nonneg (by omega)]; omega
        have q2 : ((Q : Int)).tdiv 256 = ((Q / 256 : Nat) : Int) := by rw [Int.tdiv_eq_ediv_of_nonneg (by omega)]; omega
        have He1 := Hid.mk e1
        have He2 := Hid.mk e2
        have hll : (leb k N).length = k := leb_len k N
        clear e1 e2
        go_wp2_with (at_builtin; refine wpList_app1 rfl _ _ rfl w1.heap.size u15 _ _ rfl rfl Hown.out ?b1 ?b2 ?_)
        case b1 => omega
        case b2 => exact hz
        intro v' w' ho hb'
        have HO : Hid (Own w' w1.heap.size v' (leb (k + 1) N)) := by rw [He2.out]; exact ho
        have HB' := Hid.mk (HB.out.trans (hb'.mono (Nat.le_refl _)))
        clear ho hb' Hown HB He2
        go_wp2
        go_roundw
        case rel => exact ⟨k + 1, by omega, by go_num, by rw [He1.out]; simp, HO.out, HB'.out⟩
        case measure => simp [intOf]; omega
      · have hlt' : ¬ (k : Int) < 8 := by omega
        obtain rfl : k = 8 := by omega
        rw [leb8] at Hown
        have Hown2 : Hid (Own wr w1.heap.size u15 (bytes8 N ++ dt.take 0)) := by show Own wr w1.heap.size u15 (bytes8 N ++ []); rw [List.append_nil]; exact Hown.out
        clear Hown
        go_wp2
        go_loopw [15, 18] (fun v i wx => ∃ k : Nat, k ≤ q ∧ i = .int .i64 k ∧ Own wx w1.heap.size v (bytes8 N ++ dt.take k) ∧ Below w1.heap.size w1 wx) (fun _ i _ => q - (intOf i).toNat)
        case atStart => exact ⟨0, Nat.zero_le _, rfl, Hown2.out, HB.out⟩
        case round =>
          clear Hown2 HB hz
          obtain ⟨k, hk, rfl, hown, hbr⟩ := hrel
          have Hown := Hid.mk hown
          have HB := Hid.mk hbr
          have hz := hbr.size
          clear hown hbr
          have hll : (bytes8 N ++ dt.take k).length = 8 + k := by rw [List.length_append, bytes8_len, List.length_take]; omega
          by_cases hlt : k < q
          · have hlt' : (k : Int) < (q : Int) := by omega
            obtain ⟨b3, o3, rfl⟩ := src_spot H3.out (by omega)
            have hcc := H3.out.2.2 _ rfl k hlt
            rw [addr_add] at hcc
            have hcc := cell_later (HB1.out.trans (HB.out.mono hz1)) hcc
            have HeN := Hid.mk (take_snoc dt k (by omega))
            generalize dt.getD k 0 = x at *
            go_wp2_with (at_builtin; refine wpList_app1 rfl _ _ rfl w1.heap.size u15 _ x rfl rfl Hown.out ?b1 ?b2 ?_)
            case b1 => omega
            case b2 => exact hz
            intro v' w' ho hb'
            have HO : Hid (Own w' w1.heap.size v' (bytes8 N ++ dt.take (k + 1))) := by rw [← HeN.out]; first | exact ho | (rw [← List.append_assoc]; exact ho)
            have HB' := Hid.mk (HB.out.trans (hb'.mono (Nat.le_refl _)))
            clear ho hb' Hown HB HeN
            go_wp2
            go_roundw
            case rel => exact ⟨k + 1, by omega, by go_num, HO.out, HB'.out⟩
            case measure => simp [intOf]; omega
          · have hlt' : ¬ (k : Int) < (q : Int) := by omega
            have e5 : dt.take k = dt := List.take_of_length_le (by omega)
            rw [e5] at Hown hll
            obtain ⟨vb, vc, rfl, hsb, _, _⟩ := Hown.out.src
            have hBr := HB1.out.trans (HB.out.mono hz1)
            have hdl2 : (bytes8 N ++ dt).length ≤ 504 := by omega
            have k2 := rseal_any (some ⟨b2, o2, none⟩) 512 d r vb (bytes8 N ++ dt).length vc (bytes8 N ++ dt) wr (HX.out.later hBr) hsb ((bytes8_bytes N).append hdt) hr
            rw [sseal_ok hXl hdl2] at k2
            dsimp only at k2
            have HBr := Hid.mk hBr
            clear e5 hsb hBr hll Hown HB
            generalize (bytes8 N ++ dt).length = BL at *
            go_wp2_with fail
            refine k2.mono ?_
            rintro e w5 ⟨v5, rfl, ho5, hb5⟩
            have HH := Hid.mk (And.intro (Own.down ho5 HBr.out.size) (HBr.out.trans (hb5.mono HBr.out.size)))
            clear k2 ho5 hb5
            go_wp2
            go_ret3
            exact ⟨v5, rfl, HH.out⟩
  · exact absurd Hc.out.1 hE0

theorem rrenew_any (a : Option Addr) (n c : Nat) (l : List Int) (a2 : Option Addr) (m d : Nat) (r : List Int) (a3 : Option Addr) (q e3 : Nat) (dt : List Int) (num : Int) (w : World) (hs : Src w a n l) (hs2 : Src w a2 m r) (hl : Bytes l) (hr : Bytes r)
    (hs3 : Src w a3 q dt) (hdt : Bytes dt) (hhi : num ≤ 9223372036854775807) :
    Calls Try.prog 33 #[.slice a n c, .slice a2 m d, .int .i64 num, .slice a3 q e3] w fun e w' => ∃ v, e = .returned (.tuple #[.int .i64 (((srenew l r num dt).1 : Nat) : Int), v, .int .i64 (((srenew l r num dt).2.2 : Nat) : Int)]) ∧ Own w' w.heap.size v (srenew l r num dt).2.1 ∧ Below w.heap.size w w' := by
  have hln := hs.1
  have hrn := hs2.1
  have hdn := hs3.1
  by_cases hyes : n = 512 ∧ m = 512
  · have hno := snewest_none (l := l) (r := r) (by omega) (by omega)
    by_cases h1 : num < 1
    · refine (rrenew_no a n c l a2 m d r a3 q e3 num w hs hs2 hl hr 1 (.inr (.inl ⟨by omega, h1, rfl⟩))).mono ?_
      rintro e w' ⟨rfl, hb⟩
      have e1 : srenew l r num dt = (0, [], 1) := by unfold srenew; rw [if_neg (by omega), if_pos h1]
      rw [e1]; exact ⟨_, rfl, Own.nil _ _, hb⟩
    · by_cases h2 : 496 < q
      · refine (rrenew_no a n c l a2 m d r a3 q e3 num w hs hs2 hl hr 7 (.inr (.inr (.inl ⟨by omega, h1, h2, rfl⟩)))).mono ?_
        rintro e w' ⟨rfl, hb⟩
        have e1 : srenew l r num dt = (0, [], 7) := by unfold srenew; rw [if_neg (by omega), if_neg h1, if_pos (by omega)]
        rw [e1]; exact ⟨_, rfl, Own.nil _ _, hb⟩
      · by_cases h3 : num ≤ (((snewest l r).2.1 : Nat) : Int)
        · refine (rrenew_no a n c l a2 m d r a3 q e3 num w hs hs2 hl hr 31 (.inr (.inr (.inr ⟨by omega, h1, h2, h3, rfl⟩)))).mono ?_
          rintro e w' ⟨rfl, hb⟩
          have e1 : srenew l r num dt = (0, [], 31) := by unfold srenew; rw [if_neg (by omega), if_neg h1, if_neg (by omega)]; simp only; rw [if_pos h3]
          rw [e1]; exact ⟨_, rfl, Own.nil _ _, hb⟩
        · obtain ⟨N, hN⟩ : ∃ N : Nat, num = (N : Int) := ⟨num.toNat, by omega⟩
          obtain ⟨rfl, rfl⟩ := hyes
          obtain ⟨b1, o1, rfl⟩ := src_spot hs (by omega)
          obtain ⟨b2, o2, rfl⟩ := src_spot hs2 (by omega)
          by_cases hs0 : (snewest l r).2.2.2 = 0 ∧ (snewest l r).1 = 0
          · have e1 : srenew l r num dt = (1, sform (turnOf (r.getD 0 0) (r.getD 511 0)) (bytes8 N ++ dt), 0) := by unfold srenew; rw [if_neg (by omega), if_neg h1, if_neg (by omega)]; simp only; rw [if_neg h3, if_pos hs0, hN, Int.toNat_natCast]
            rw [e1]
            exact rrenew_ok1 b1 o1 c l b2 o2 d r a3 q e3 dt N num hN w hs hs2 hl hr hs3 hdt (by omega) (by omega) (by omega) (by omega) hs0
          · have e1 : srenew l r num dt = (0, sform (turnOf (l.getD 0 0) (l.getD 511 0)) (bytes8 N ++ dt), 0) := by unfold srenew; rw [if_neg (by omega), if_neg h1, if_neg (by omega)]; simp only; rw [if_neg h3, if_neg hs0, hN, Int.toNat_natCast]
            rw [e1]
            exact rrenew_ok0 b1 o1 c l b2 o2 d r a3 q e3 dt N num hN w hs hs2 hl hr hs3 hdt (by omega) (by omega) (by omega) (by omega) hs0
  · have e0 : snewest l r = (0, 0, [], 2) := by unfold snewest; rw [if_pos (by omega)]
    refine (rrenew_no a n c l a2 m d r a3 q e3 num w hs hs2 hl hr 2 (.inl ⟨by rw [e0], rfl⟩)).mono ?_
    rintro e w' ⟨rfl, hb⟩
    have e1 : srenew l r num dt = (0, [], 2) := by unfold srenew; rw [if_pos (by omega)]
    rw [e1]; exact ⟨_, rfl, Own.nil _ _, hb⟩
end Go.Proofs.Ytohgdjlgbnpobaa
end

section
namespace Go.Proofs.Ytohgdjlgbnpobaa
open Go.RowKit Go.Maps

/-- What a call of the kind K answers. -/
def splay (K N : Int) (a b : List Int) : List Int := if K = 1 then (sseal a b).1 else if K = 2 then (sopens a).1 else if K = 3 then (ssplice a b N).1 else if K = 4 then (snewest a b).2.2.1 else (srenew a b N (b.take 40)).2.1
/-- The program's answer, then the document's. -/
def Ans (w w' : World) (got want : Value) (l : List Int) : Prop := ∃ wm, Below w.heap.size w wm ∧ Lst wm w.heap.size got l ∧ Below wm.heap.size wm w' ∧ Own w' wm.heap.size want l
theorem Ans.form {w w' : World} {got want : Value} {l : List Int} (h : Ans w w' got want l) : ∃ a b d, got = .slice a l.length l.length ∧ want = .slice b l.length d := by
  obtain ⟨wm, _, ⟨a, c, rfl, _, rfl, _⟩, _, h4⟩ := h
  obtain ⟨b, d, rfl, _⟩ := h4.src
  exact ⟨a, b, d, rfl, rfl⟩
theorem Lst.down {w : World} {B B' : Nat} {v : Value} {l : List Int} (h : Lst w B v l) (hB : B' ≤ B) : Lst w B' v l := by
  obtain ⟨a, c, rfl, hs, hc, hx⟩ := h
  exact ⟨a, c, rfl, hs, hc, fun x e => ⟨Nat.le_trans hB (hx x e).1, (hx x e).2⟩⟩
theorem Ans.mk' {w w2 w3 w4 : World} {got want : Value} {l : List Int} (h2 : Below w.heap.size w w2) (h3 : Below w2.heap.size w2 w3) (hl : Lst w3 w2.heap.size got l) (h4 : Below w3.heap.size w3 w4) (ho : Own w4 w3.heap.size want l) : Ans w w4 got want l :=
  ⟨w3, h2.trans (h3.mono h2.size), hl.down h2.size, h4, ho⟩

set_option maxRecDepth 20000 in
set_option maxHeartbeats 16000000 in
/-- One call: the program's answer and the document's are alike. -/
theorem plays_any (K N Z : Int) (vA vB : Value) (a0 : Option Addr) (n c0 : Nat) (l : List Int) (b0 : Option Addr) (m c1 : Nat) (r : List Int) (w : World) (hs : Src w a0 n l) (hs2 : Src w b0 m r) (hl : Bytes l) (hr : Bytes r) (hn : n ≤ 1000000000) (hm : m ≤ 1000000000) (hhi : N ≤ 9223372036854775807) :
    Calls Try.prog 16 #[.agg #[.int .i64 K, .int .i64 N, .int .i64 Z, vA, vB], .slice a0 n c0, .slice b0 m c1] w fun e w' => ∃ got want, e = .returned (.tuple #[got, want, .bool true]) ∧ Ans w w' got want (splay K N l r) := by
  obtain ⟨w0, hw0⟩ : ∃ w0, w0 = w.alloc (.cells #[.int .i64 K, .int .i64 N, .int .i64 Z, vA, vB] 31) := ⟨_, rfl⟩
  have hb0 : Below w.heap.size w w0 := by rw [hw0]; exact (Below.refl _ w).alloc (Nat.le_refl _) _
  have kb : w0.heap[w.heap.size]? = some (.cells #[.int .i64 K, .int .i64 N, .int .i64 Z, vA, vB] 31 (0, 0)) := by rw [hw0]; exact heap_alloc_new _ _
  have ht := ltwin_any a0 n c0 l w0 (by omega) (hs.later hb0)
  have hln := hs.1
  have hrn := hs2.1
  have H := Hid.mk (And.intro hs (And.intro hs2 (And.intro hb0 (And.intro kb (And.intro hln hrn)))))
  clear hs hs2 hb0 kb hln hrn
  go_enter Try.func16, Try.ntmps16
  go_wp2_with fail
  rw [← hw0]
  clear hw0
  refine ht.mono ?_
  rintro e w1 ⟨vx, rfl, hx, hb1⟩
  obtain ⟨hs, hs2, hb0, kb, hln, hrn⟩ := H.out
  have hB1 : Below w.heap.size w w1 := hb0.trans (hb1.mono hb0.size)
  have ht2 := ltwin_any b0 m c1 r w1 (by omega) (hs2.later hB1)
  have H1 := Hid.mk (And.intro hB1 (And.intro hx ((hb1.block _ (Array.getElem?_eq_some_iff.1 kb).1).trans kb)))
  clear ht hx hb1 hs hs2 hb0 kb hln hrn hB1
  go_wp2_with fail
  refine ht2.mono ?_
  rintro e w2 ⟨vy, rfl, hy, hb2⟩
  obtain ⟨hB1, hx, kb⟩ := H1.out
  obtain ⟨hs, hs2, _, _, hln, hrn⟩ := H.out
  have hB2 : Below w.heap.size w w2 := hB1.trans (hb2.mono hB1.size)
  have kb2 := (hb2.block _ (Array.getElem?_eq_some_iff.1 kb).1).trans kb
  have hx2 := hx.later hb2
  obtain ⟨xa, xc, hvx, sx, _, _⟩ := hx2.src
  obtain ⟨ya, yc, hvy, sy, _, _⟩ := hy.src
  rw [hln] at hvx sx
  rw [hrn] at hvy sy
  subst hvx
  subst hvy
  have q0 : w2.cell? ⟨w.heap.size, 0, none⟩ = some (.int .i64 K) := cell_of_block kb2 rfl
  have HQ : Hid (∀ w', Below w2.heap.size w2 w' → w'.cell? ⟨w.heap.size, 1, none⟩ = some (.int .i64 N)) := fun w' hw => cell_later hw (cell_of_block kb2 rfl)
  have H2 := Hid.mk (And.intro (hs.later hB2) (And.intro (hs2.later hB2) (And.intro sx (And.intro sy hB2))))
  have HL := Hid.mk (And.intro hln hrn)
  clear ht2 hB1 hx kb hs hs2 hln hrn hB2 kb2 hx2 hy hb2 sx sy H H1
  by_cases hK1 : K = 1
  · have hK' : (K == 1) = true := by rw [hK1]; rfl

    have hsp : splay K N l r = (sseal l r).1 := by unfold splay; rw [if_pos hK1]
    obtain ⟨s1, s2, sx, sy, hB2⟩ := H2.out
    have hp := seal_any a0 n c0 l b0 m c1 r w2 s1 s2 hr
    have q1 := HQ.out w2 (Below.refl _ _)
    generalize hT : sseal l r = T at *
    clear s1 s2 sx sy hB2
    go_wp2_with fail
    refine hp.mono ?_
    rintro e w3 ⟨v, rfl, hv, hb3⟩
    obtain ⟨s1, s2, sx, sy, hB2⟩ := H2.out
    have hd := rseal_any xa n xc l ya m yc r w3 (sx.later hb3) (sy.later hb3) hr hl
    rw [hT] at hd
    have q2 := HQ.out w3 hb3
    have H3 := Hid.mk (And.intro hv (And.intro hb3 hB2))
    clear s1 s2 sx sy hB2 hp hv hb3 q1
    go_wp2_with fail
    refine hd.mono ?_
    rintro e w4 ⟨t, rfl, ho, hb4⟩
    obtain ⟨hv, hb3, hB2⟩ := H3.out
    have hA := Ans.mk' hB2 hb3 hv hb4 ho
    have HA := Hid.mk hA
    have hnu := lnum_any ((T.2 : Nat) : Int) w4
    clear hd ho hb4 hv hb3 hB2 hA
    go_wp2_with fail
    refine hnu.mono ?_
    rintro e w5 ⟨rfl, rfl⟩
    clear hnu
    have hself : ∀ z : Int, (z == z) = true := fun z => by simp
    go_wp2
    go_ret3
    exact ⟨_, _, rfl, by rw [hsp]; exact HA.out⟩
  · skip
    by_cases hK2 : K = 2
    · have hK' : (K == 2) = true := by rw [hK2]; rfl
      have hKn1 : (K == 1) = false := by rw [beq_eq_false_iff_ne]; exact hK1
      have hsp : splay K N l r = (sopens l).1 := by unfold splay; rw [if_neg hK1]; rw [if_pos hK2]
      obtain ⟨s1, s2, sx, sy, hB2⟩ := H2.out
      have hp := sopen_any a0 n c0 l w2 s1 hl
      have q1 := HQ.out w2 (Below.refl _ _)
      generalize hT : sopens l = T at *
      clear s1 s2 sx sy hB2
      go_wp2_with fail
      refine hp.mono ?_
      rintro e w3 ⟨v, rfl, hv, hb3⟩
      obtain ⟨s1, s2, sx, sy, hB2⟩ := H2.out
      have hd := ropen_any xa n xc l w3 (sx.later hb3) hl
      rw [hT] at hd
      have q2 := HQ.out w3 hb3
      have H3 := Hid.mk (And.intro hv (And.intro hb3 hB2))
      clear s1 s2 sx sy hB2 hp hv hb3 q1
      go_wp2_with fail
      refine hd.mono ?_
      rintro e w4 ⟨t, rfl, ho, hb4⟩
      obtain ⟨hv, hb3, hB2⟩ := H3.out
      have hA := Ans.mk' hB2 hb3 hv hb4 ho
      have HA := Hid.mk hA
      have hnu := lnum_any ((T.2 : Nat) : Int) w4
      clear hd ho hb4 hv hb3 hB2 hA
      go_wp2_with fail
      refine hnu.mono ?_
      rintro e w5 ⟨rfl, rfl⟩
      clear hnu
      have hself : ∀ z : Int, (z == z) = true := fun z => by simp
      go_wp2
      go_ret3
      exact ⟨_, _, rfl, by rw [hsp]; exact HA.out⟩
    · skip
      by_cases hK3 : K = 3
      · have hK' : (K == 3) = true := by rw [hK3]; rfl
        have hKn1 : (K == 1) = false := by rw [beq_eq_false_iff_ne]; exact hK1
        have hKn2 : (K == 2) = false := by rw [beq_eq_false_iff_ne]; exact hK2
        have hsp : splay K N l r = (ssplice l r N).1 := by unfold splay; rw [if_neg hK1]; rw [if_neg hK2]; rw [if_pos hK3]
        obtain ⟨s1, s2, sx, sy, hB2⟩ := H2.out
        have hp := splice_any a0 n c0 l b0 m c1 r N w2 s1 s2
        have q1 := HQ.out w2 (Below.refl _ _)
        generalize hT : ssplice l r N = T at *
        clear s1 s2 sx sy hB2
        go_wp2_with fail
        refine hp.mono ?_
        rintro e w3 ⟨v, rfl, hv, hb3⟩
        obtain ⟨s1, s2, sx, sy, hB2⟩ := H2.out
        have hd := rsplice_any xa n xc l ya m yc r N w3 (sx.later hb3) (sy.later hb3) (by omega) (by omega)
        rw [hT] at hd
        have q2 := HQ.out w3 hb3
        have H3 := Hid.mk (And.intro hv (And.intro hb3 hB2))
        clear s1 s2 sx sy hB2 hp hv hb3 q1
        go_wp2_with fail
        refine hd.mono ?_
        rintro e w4 ⟨t, rfl, ho, hb4⟩
        obtain ⟨hv, hb3, hB2⟩ := H3.out
        have hA := Ans.mk' hB2 hb3 hv hb4 ho
        have HA := Hid.mk hA
        have hnu := lnum_any ((T.2 : Nat) : Int) w4
        clear hd ho hb4 hv hb3 hB2 hA
        go_wp2_with fail
        refine hnu.mono ?_
        rintro e w5 ⟨rfl, rfl⟩
        clear hnu
        have hself : ∀ z : Int, (z == z) = true := fun z => by simp
        go_wp2
        go_ret3
        exact ⟨_, _, rfl, by rw [hsp]; exact HA.out⟩
      · skip
        by_cases hK4 : K = 4
        · have hK' : (K == 4) = true := by rw [hK4]; rfl
          have hKn1 : (K == 1) = false := by rw [beq_eq_false_iff_ne]; exact hK1
          have hKn2 : (K == 2) = false := by rw [beq_eq_false_iff_ne]; exact hK2
          have hKn3 : (K == 3) = false := by rw [beq_eq_false_iff_ne]; exact hK3
          have hsp : splay K N l r = (snewest l r).2.2.1 := by unfold splay; rw [if_neg hK1, if_neg hK2, if_neg hK3, if_pos hK4]
          obtain ⟨s1, s2, sx, sy, hB2⟩ := H2.out
          have hp := pnewest_any a0 n c0 l b0 m c1 r w2 s1 s2 hl hr
          generalize hT : snewest l r = T at *
          clear s1 s2 sx sy hB2
          go_wp2_with fail
          refine hp.mono ?_
          rintro e w3 ⟨v, rfl, hv, hb3⟩
          obtain ⟨s1, s2, sx, sy, hB2⟩ := H2.out
          have hd := rnewest_any xa n xc l ya m yc r w3 (sx.later hb3) (sy.later hb3) hl hr
          rw [hT] at hd
          have H3 := Hid.mk (And.intro hv (And.intro hb3 hB2))
          clear s1 s2 sx sy hB2 hp hv hb3
          go_wp2_with fail
          refine hd.mono ?_
          rintro e w4 ⟨t, rfl, ho, hb4⟩
          obtain ⟨hv, hb3, hB2⟩ := H3.out
          have hA := Ans.mk' hB2 hb3 hv hb4 ho
          have HA := Hid.mk hA
          have hnu := lnum_any ((T.2.2.2 : Nat) : Int) w4
          clear hd ho hb4 hv hb3 hB2 hA
          have hself : ∀ z : Int, (z == z) = true := fun z => by simp
          go_wp2_with fail
          refine hnu.mono ?_
          rintro e w5 ⟨rfl, rfl⟩
          clear hnu
          go_wp2
          go_ret3
          exact ⟨_, _, rfl, by rw [hsp]; exact HA.out⟩
        · have hKn1 : (K == 1) = false := by rw [beq_eq_false_iff_ne]; exact hK1
          have hKn2 : (K == 2) = false := by rw [beq_eq_false_iff_ne]; exact hK2
          have hKn3 : (K == 3) = false := by rw [beq_eq_false_iff_ne]; exact hK3
          have hKn4 : (K == 4) = false := by rw [beq_eq_false_iff_ne]; exact hK4
          have hsp : splay K N l r = (srenew l r N (r.take 40)).2.1 := by unfold splay; rw [if_neg hK1, if_neg hK2, if_neg hK3, if_neg hK4]
          have hdr : Below w2.heap.size w2 w2.drew := (Keeps.drew (fun _ => False) w2).below (fun _ h => h.elim) (Nat.le_refl _)
          obtain ⟨s1, s2, sx, sy, hB2⟩ := H2.out
          have hu := upTo_any b0 m c1 40 r w2.drew (by omega) (s2.later hdr) (by omega)
          have em : ((40 : Nat) : Int) = 40 := rfl
          rw [em] at hu
          have HDr := Hid.mk hdr
          clear s1 s2 sx sy hB2 hdr em
          go_wp2
          refine wp_region_held_drew (S := (fun w' => w'.cell? ⟨w.heap.size, 1, none⟩ = some (.int .i64 N))) (by kernel_rfl) (HQ.out _ HDr.out) (fun hHeld => ?_)
          refine wpAnyH_take (i := 0) (oi := { dst := some 140, op := Op.move (Operand.tmp 1), type := 25, pos := "book.go:129", after := #[], guard := none }) (v := .slice a0 n c0) rfl (by kernel_rfl) (by kernel_rfl) (by kernel_rfl) (fun _ _ _ h => h) (Or.inl ⟨by rfl, ?_⟩) (by assumption) ?_
          · intro w hSw
            (try dsimp only at hSw)
            go_simp
          try simp only [Act.put, List.setIfInBounds_toArray, List.set_cons_zero, List.set_cons_succ]
          refine wpAnyH_take (i := 1) (oi := { dst := some 141, op := Op.move (Operand.tmp 2), type := 25, pos := "book.go:129", after := #[], guard := none }) (v := .slice b0 m c1) rfl (by kernel_rfl) (by kernel_rfl) (by kernel_rfl) (fun _ _ _ h => h) (Or.inl ⟨by rfl, ?_⟩) (by assumption) ?_
          · intro w hSw
            (try dsimp only at hSw)
            go_simp
          try simp only [Act.put, List.setIfInBounds_toArray, List.set_cons_zero, List.set_cons_succ]
          refine wpAnyH_take (i := 2) (oi := { dst := some 142, op := Op.fieldAddr 31 (Operand.tmp 3) 1, type := 0, pos := "book.go:129", after := #[], guard := none }) (v := .pointer (some ⟨w.heap.size, 1, none⟩)) rfl (by kernel_rfl) (by kernel_rfl) (by kernel_rfl) (fun _ _ _ h => h) (Or.inl ⟨by rfl, ?_⟩) (by assumption) ?_
          · intro w hSw
            (try dsimp only at hSw)
            go_simp
          try simp only [Act.put, List.setIfInBounds_toArray, List.set_cons_zero, List.set_cons_succ]
          refine wpAnyH_take (i := 3) (oi := { dst := some 143, op := Op.load 3 (Operand.tmp 142), type := 3, pos := "book.go:129", after := #[{ on := 2, ground := Ground.data }], guard := none }) (v := .int .i64 N) rfl (by kernel_rfl) (by kernel_rfl) (by kernel_rfl) (fun _ _ _ h => h) (Or.inl ⟨by rfl, ?_⟩) (by assumption) ?_
          · intro w hSw
            (try dsimp only at hSw)
            go_simp
          try simp only [Act.put, List.setIfInBounds_toArray, List.set_cons_zero, List.set_cons_succ]
          refine wpAnyH_take (i := 4) (oi := { dst := some 144, op := Op.move (Operand.tmp 2), type := 25, pos := "book.go:129", after := #[], guard := none }) (v := .slice b0 m c1) rfl (by kernel_rfl) (by kernel_rfl) (by kernel_rfl) (fun _ _ _ h => h) (Or.inl ⟨by rfl, ?_⟩) (by assumption) ?_
          · intro w hSw
            (try dsimp only at hSw)
            go_simp
          try simp only [Act.put, List.setIfInBounds_toArray, List.set_cons_zero, List.set_cons_succ]
          refine wpAnyH_ready (rs := [5]) (by kernel_rfl) (by simp) ?_
          refine AllReadyH.cons (o := { dst := some 145, op := Op.call { callee := Callee.value (Operand.func 32), args := #[Operand.tmp 144, Operand.const (Value.int IntKind.i64 40)], argTypes := #[25, 3] }, type := 25, pos := "book.go:129", after := #[{ on := 4, ground := Ground.data }], guard := none }) rfl (fun K hK => ?_) AllReadyH.nil
          go_simp
          refine hu.mono ?_
          rintro e w3 ⟨uv, rfl, ho, hbu⟩
          have hb3 : Below w2.heap.size w2 w3 := HDr.out.trans (hbu.mono (Nat.le_refl _))
          obtain ⟨ua, uc, huv, su, _, hux⟩ := ho.src
          have huc : ua = none → uc = 0 := fun e => by
            subst e
            subst huv
            obtain ⟨_, ⟨h1, _⟩ | ⟨g1, c1, cur1, h1, _⟩⟩ := ho
            · injection h1
            · cases h1
          obtain ⟨qn, hqn⟩ : ∃ q, q = (r.take 40).length := ⟨_, rfl⟩
          rw [← hqn] at huv su
          subst huv
          obtain ⟨s1, s2, sx, sy, hB2⟩ := H2.out
          have hp := renew_any a0 n c0 l b0 m c1 r ua qn uc (r.take 40) N w3 (s1.later hb3) (s2.later hb3) hl hr su (hr.take _) huc hhi
          have q3 := HQ.out w3 hb3
          have HB3 := Hid.mk hb3
          generalize hT : srenew l r N (r.take 40) = T at *
          have HT := Hid.mk hT
          clear hT
          clear s1 s2 sx sy hB2 ho hbu hb3 su hux huc hu hqn
          refine hK.out _ _ ?_ (fun hHeld => ?_)
          · exact q3
          clear hK K
          try simp only [Act.put, List.setIfInBounds_toArray, List.set_cons_zero, List.set_cons_succ]
          refine wpAnyH_ready (rs := [6]) (by kernel_rfl) (by simp) ?_
          refine AllReadyH.cons (o := { dst := some 146, op := Op.call { callee := Callee.value (Operand.func 31), args := #[Operand.tmp 140, Operand.tmp 141, Operand.tmp 143, Operand.tmp 145], argTypes := #[25, 25, 3, 25] }, type := 67, pos := "book.go:129", after := #[{ on := 0, ground := Ground.data }, { on := 1, ground := Ground.data }, { on := 3, ground := Ground.data }, { on := 5, ground := Ground.data }, { on := 5, ground := Ground.chain }], guard := none }) rfl (fun K hK => ?_) AllReadyH.nil
          go_simp
          refine hp.mono ?_
          rintro e w4 ⟨v, rfl, hv, hb4⟩
          obtain ⟨va, vc, hvv, hvr⟩ := hv
          subst hvv
          have hv : Lst w4 w3.heap.size (.slice va T.2.1.length vc) T.2.1 := ⟨va, vc, rfl, hvr⟩
          have hb34 := HB3.out.trans (hb4.mono HB3.out.size)
          have q4 := HQ.out w4 hb34
          refine hK.out _ _ ?_ (fun hHeld => ?_)
          · exact q4
          clear hK K
          try simp only [Act.put, List.setIfInBounds_toArray, List.set_cons_zero, List.set_cons_succ]
          refine wpAnyH_take (i := 7) (oi := { dst := some 139, op := Op.move (Operand.tmp 146), type := 67, pos := "book.go:129", after := #[{ on := 6, ground := Ground.data }], guard := none }) (v := .tuple #[.int .i64 ((T.1 : Nat) : Int), .slice va T.2.1.length vc, .int .i64 ((T.2.2 : Nat) : Int)]) rfl (by kernel_rfl) (by kernel_rfl) (by kernel_rfl) (fun _ _ _ h => h) (Or.inl ⟨by rfl, ?_⟩) (by assumption) ?_
          · intro w hSw
            (try dsimp only at hSw)
            go_simp
          try simp only [Act.put, List.setIfInBounds_toArray, List.set_cons_zero, List.set_cons_succ]
          refine wpAnyH_take (i := 8) (oi := { dst := some 147, op := Op.extract (Operand.tmp 139) 0, type := 3, pos := "book.go:129", after := #[{ on := 7, ground := Ground.data }], guard := none }) (v := .int .i64 ((T.1 : Nat) : Int)) rfl (by kernel_rfl) (by kernel_rfl) (by kernel_rfl) (fun _ _ _ h => h) (Or.inl ⟨by rfl, ?_⟩) (by assumption) ?_
          · intro w hSw
            (try dsimp only at hSw)
            go_simp
          try simp only [Act.put, List.setIfInBounds_toArray, List.set_cons_zero, List.set_cons_succ]
          refine wpAnyH_take (i := 9) (oi := { dst := some 148, op := Op.extract (Operand.tmp 139) 1, type := 25, pos := "book.go:129", after := #[{ on := 7, ground := Ground.data }, { on := 11, ground := Ground.gcOnly Departure.lateStores }], guard := none }) (v := .slice va T.2.1.length vc) rfl (by kernel_rfl) (by kernel_rfl) (by kernel_rfl) (fun _ _ _ h => h) (Or.inl ⟨by rfl, ?_⟩) (by assumption) ?_
          · intro w hSw
            (try dsimp only at hSw)
            go_simp
          try simp only [Act.put, List.setIfInBounds_toArray, List.set_cons_zero, List.set_cons_succ]
          refine wpAnyH_take (i := 10) (oi := { dst := some 149, op := Op.extract (Operand.tmp 139) 2, type := 26, pos := "book.go:129", after := #[{ on := 7, ground := Ground.data }, { on := 12, ground := Ground.gcOnly Departure.lateStores }], guard := none }) (v := .int .i64 ((T.2.2 : Nat) : Int)) rfl (by kernel_rfl) (by kernel_rfl) (by kernel_rfl) (fun _ _ _ h => h) (Or.inl ⟨by rfl, ?_⟩) (by assumption) ?_
          · intro w hSw
            (try dsimp only at hSw)
            go_simp
          try simp only [Act.put, List.setIfInBounds_toArray, List.set_cons_zero, List.set_cons_succ]
          refine wpAnyH_take (i := 11) (oi := { dst := some 31, op := Op.assign (Operand.tmp 147), type := 3, pos := "book.go:129", after := #[{ on := 8, ground := Ground.data }, { on := 6, ground := Ground.chain }, { on := 0, ground := Ground.phase }, { on := 1, ground := Ground.phase }, { on := 2, ground := Ground.phase }, { on := 3, ground := Ground.phase }, { on := 4, ground := Ground.phase }, { on := 5, ground := Ground.phase }, { on := 6, ground := Ground.phase }, { on := 7, ground := Ground.phase }, { on := 8, ground := Ground.phase }, { on := 9, ground := Ground.textOnly Departure.lateStores }, { on := 10, ground := Ground.textOnly Departure.lateStores }], guard := none }) (v := .int .i64 ((T.1 : Nat) : Int)) rfl (by kernel_rfl) (by kernel_rfl) (by kernel_rfl) (fun _ _ _ h => h) (Or.inl ⟨by rfl, ?_⟩) (by assumption) ?_
          · intro w hSw
            (try dsimp only at hSw)
            go_simp
          try simp only [Act.put, List.setIfInBounds_toArray, List.set_cons_zero, List.set_cons_succ]
          refine wpAnyH_take (i := 12) (oi := { dst := some 32, op := Op.assign (Operand.tmp 148), type := 25, pos := "book.go:129", after := #[{ on := 9, ground := Ground.data }, { on := 11, ground := Ground.chain }, { on := 0, ground := Ground.phase }, { on := 1, ground := Ground.phase }, { on := 2, ground := Ground.phase }, { on := 3, ground := Ground.phase }, { on := 4, ground := Ground.phase }, { on := 5, ground := Ground.phase }, { on := 6, ground := Ground.phase }, { on := 7, ground := Ground.phase }, { on := 8, ground := Ground.phase }, { on := 9, ground := Ground.phase }, { on := 10, ground := Ground.textOnly Departure.lateStores }, { on := 11, ground := Ground.phase }], guard := none }) (v := .slice va T.2.1.length vc) rfl (by kernel_rfl) (by kernel_rfl) (by kernel_rfl) (fun _ _ _ h => h) (Or.inl ⟨by rfl, ?_⟩) (by assumption) ?_
          · intro w hSw
            (try dsimp only at hSw)
            go_simp
          try simp only [Act.put, List.setIfInBounds_toArray, List.set_cons_zero, List.set_cons_succ]
          refine wpAnyH_take (i := 13) (oi := { dst := some 33, op := Op.assign (Operand.tmp 149), type := 26, pos := "book.go:129", after := #[{ on := 10, ground := Ground.data }, { on := 12, ground := Ground.chain }, { on := 0, ground := Ground.phase }, { on := 1, ground := Ground.phase }, { on := 2, ground := Ground.phase }, { on := 3, ground := Ground.phase }, { on := 4, ground := Ground.phase }, { on := 5, ground := Ground.phase }, { on := 6, ground := Ground.phase }, { on := 7, ground := Ground.phase }, { on := 8, ground := Ground.phase }, { on := 9, ground := Ground.phase }, { on := 10, ground := Ground.phase }, { on := 11, ground := Ground.phase }, { on := 12, ground := Ground.phase }], guard := none }) (v := .int .i64 ((T.2.2 : Nat) : Int)) rfl (by kernel_rfl) (by kernel_rfl) (by kernel_rfl) (fun _ _ _ h => h) (Or.inl ⟨by rfl, ?_⟩) (by assumption) ?_
          · intro w hSw
            (try dsimp only at hSw)
            go_simp
          try simp only [Act.put, List.setIfInBounds_toArray, List.set_cons_zero, List.set_cons_succ]
          refine wpAnyH_done (by kernel_rfl) ?_ _
          have hdr2 : Below w4.heap.size w4 w4.drew := (Keeps.drew (fun _ => False) w4).below (fun _ h => h.elim) (Nat.le_refl _)
          obtain ⟨s1, s2, sx, sy, hB2⟩ := H2.out
          have hb2d := hb34.trans (hdr2.mono hb34.size)
          have hu := upTo_any ya m yc 40 r w4.drew (by omega) (sy.later hb2d) (by omega)
          have em : ((40 : Nat) : Int) = 40 := rfl
          rw [em] at hu
          have HV := Hid.mk (And.intro hv (And.intro hb4 hB2))
          have HDr2 := Hid.mk (And.intro hdr2 hb2d)
          have q5 := HQ.out w4.drew hb2d
          clear s1 s2 sx sy hB2 hdr2 em hv hvr hb4 hb34 hb2d hp hHeld q3 q4
          go_wp2
          refine wp_region_held_drew (S := (fun w' => w'.cell? ⟨w.heap.size, 1, none⟩ = some (.int .i64 N))) (by kernel_rfl) (q5) (fun hHeld => ?_)
          refine wpAnyH_take (i := 0) (oi := { dst := some 151, op := Op.move (Operand.tmp 9), type := 25, pos := "book.go:130", after := #[], guard := none }) (v := .slice xa n xc) rfl (by kernel_rfl) (by kernel_rfl) (by kernel_rfl) (fun _ _ _ h => h) (Or.inl ⟨by rfl, ?_⟩) (by assumption) ?_
          · intro w hSw
            (try dsimp only at hSw)
            go_simp
          try simp only [Act.put, List.setIfInBounds_toArray, List.set_cons_zero, List.set_cons_succ]
          refine wpAnyH_take (i := 1) (oi := { dst := some 152, op := Op.move (Operand.tmp 10), type := 25, pos := "book.go:130", after := #[], guard := none }) (v := .slice ya m yc) rfl (by kernel_rfl) (by kernel_rfl) (by kernel_rfl) (fun _ _ _ h => h) (Or.inl ⟨by rfl, ?_⟩) (by assumption) ?_
          · intro w hSw
            (try dsimp only at hSw)
            go_simp
          try simp only [Act.put, List.setIfInBounds_toArray, List.set_cons_zero, List.set_cons_succ]
          refine wpAnyH_take (i := 2) (oi := { dst := some 153, op := Op.fieldAddr 31 (Operand.tmp 3) 1, type := 0, pos := "book.go:130", after := #[], guard := none }) (v := .pointer (some ⟨w.heap.size, 1, none⟩)) rfl (by kernel_rfl) (by kernel_rfl) (by kernel_rfl) (fun _ _ _ h => h) (Or.inl ⟨by rfl, ?_⟩) (by assumption) ?_
          · intro w hSw
            (try dsimp only at hSw)
            go_simp
          try simp only [Act.put, List.setIfInBounds_toArray, List.set_cons_zero, List.set_cons_succ]
          refine wpAnyH_take (i := 3) (oi := { dst := some 154, op := Op.load 3 (Operand.tmp 153), type := 3, pos := "book.go:130", after := #[{ on := 2, ground := Ground.data }], guard := none }) (v := .int .i64 N) rfl (by kernel_rfl) (by kernel_rfl) (by kernel_rfl) (fun _ _ _ h => h) (Or.inl ⟨by rfl, ?_⟩) (by assumption) ?_
          · intro w hSw
            (try dsimp only at hSw)
            go_simp
          try simp only [Act.put, List.setIfInBounds_toArray, List.set_cons_zero, List.set_cons_succ]
          refine wpAnyH_take (i := 4) (oi := { dst := some 155, op := Op.move (Operand.tmp 10), type := 25, pos := "book.go:130", after := #[], guard := none }) (v := .slice ya m yc) rfl (by kernel_rfl) (by kernel_rfl) (by kernel_rfl) (fun _ _ _ h => h) (Or.inl ⟨by rfl, ?_⟩) (by assumption) ?_
          · intro w hSw
            (try dsimp only at hSw)
            go_simp
          try simp only [Act.put, List.setIfInBounds_toArray, List.set_cons_zero, List.set_cons_succ]
          refine wpAnyH_ready (rs := [5]) (by kernel_rfl) (by simp) ?_
          refine AllReadyH.cons (o := { dst := some 156, op := Op.call { callee := Callee.value (Operand.func 32), args := #[Operand.tmp 155, Operand.const (Value.int IntKind.i64 40)], argTypes := #[25, 3] }, type := 25, pos := "book.go:130", after := #[{ on := 4, ground := Ground.data }], guard := none }) rfl (fun K hK => ?_) AllReadyH.nil
          go_simp
          refine hu.mono ?_
          rintro e w5 ⟨uv, rfl, ho, hbu⟩
          have hb5 : Below w2.heap.size w2 w5 := HDr2.out.2.trans (hbu.mono HDr2.out.2.size)
          have hb45 : Below w4.heap.size w4 w5 := HDr2.out.1.trans (hbu.mono HDr2.out.1.size)
          obtain ⟨ub, ud, huv, su, _, _⟩ := ho.src
          obtain ⟨qm, hqm⟩ : ∃ q, q = (r.take 40).length := ⟨_, rfl⟩
          rw [← hqm] at huv su
          subst huv
          obtain ⟨s1, s2, sx, sy, hB2⟩ := H2.out
          have hp := rrenew_any xa n xc l ya m yc r ub qm ud (r.take 40) N w5 (sx.later hb5) (sy.later hb5) hl hr su (hr.take _) hhi
          rw [HT.out] at hp
          have q6 := HQ.out w5 hb5
          have HB5 := Hid.mk (And.intro hb5 hb45)
          clear s1 s2 sx sy hB2 ho hbu hb5 hb45 su hu hqm
          refine hK.out _ _ ?_ (fun hHeld => ?_)
          · exact q6
          clear hK K
          try simp only [Act.put, List.setIfInBounds_toArray, List.set_cons_zero, List.set_cons_succ]
          refine wpAnyH_ready (rs := [6]) (by kernel_rfl) (by simp) ?_
          refine AllReadyH.cons (o := { dst := some 157, op := Op.call { callee := Callee.value (Operand.func 33), args := #[Operand.tmp 151, Operand.tmp 152, Operand.tmp 154, Operand.tmp 156], argTypes := #[25, 25, 3, 25] }, type := 70, pos := "book.go:130", after := #[{ on := 0, ground := Ground.data }, { on := 1, ground := Ground.data }, { on := 3, ground := Ground.data }, { on := 5, ground := Ground.data }, { on := 5, ground := Ground.chain }], guard := none }) rfl (fun K hK => ?_) AllReadyH.nil
          go_simp
          refine hp.mono ?_
          rintro e w6 ⟨t, rfl, ho, hb6⟩
          obtain ⟨ta, tc, htv, _, _, _⟩ := ho.src
          subst htv
          have q7 := HQ.out w6 (HB5.out.1.trans (hb6.mono HB5.out.1.size))
          refine hK.out _ _ ?_ (fun hHeld => ?_)
          · exact q7
          clear hK K
          try simp only [Act.put, List.setIfInBounds_toArray, List.set_cons_zero, List.set_cons_succ]
          refine wpAnyH_take (i := 7) (oi := { dst := some 150, op := Op.move (Operand.tmp 157), type := 70, pos := "book.go:130", after := #[{ on := 6, ground := Ground.data }], guard := none }) (v := .tuple #[.int .i64 ((T.1 : Nat) : Int), .slice ta T.2.1.length tc, .int .i64 ((T.2.2 : Nat) : Int)]) rfl (by kernel_rfl) (by kernel_rfl) (by kernel_rfl) (fun _ _ _ h => h) (Or.inl ⟨by rfl, ?_⟩) (by assumption) ?_
          · intro w hSw
            (try dsimp only at hSw)
            go_simp
          try simp only [Act.put, List.setIfInBounds_toArray, List.set_cons_zero, List.set_cons_succ]
          refine wpAnyH_take (i := 8) (oi := { dst := some 158, op := Op.extract (Operand.tmp 150) 0, type := 3, pos := "book.go:130", after := #[{ on := 7, ground := Ground.data }], guard := none }) (v := .int .i64 ((T.1 : Nat) : Int)) rfl (by kernel_rfl) (by kernel_rfl) (by kernel_rfl) (fun _ _ _ h => h) (Or.inl ⟨by rfl, ?_⟩) (by assumption) ?_
          · intro w hSw
            (try dsimp only at hSw)
            go_simp
          try simp only [Act.put, List.setIfInBounds_toArray, List.set_cons_zero, List.set_cons_succ]
          refine wpAnyH_take (i := 9) (oi := { dst := some 159, op := Op.extract (Operand.tmp 150) 1, type := 25, pos := "book.go:130", after := #[{ on := 7, ground := Ground.data }, { on := 11, ground := Ground.gcOnly Departure.lateStores }], guard := none }) (v := .slice ta T.2.1.length tc) rfl (by kernel_rfl) (by kernel_rfl) (by kernel_rfl) (fun _ _ _ h => h) (Or.inl ⟨by rfl, ?_⟩) (by assumption) ?_
          · intro w hSw
            (try dsimp only at hSw)
            go_simp
          try simp only [Act.put, List.setIfInBounds_toArray, List.set_cons_zero, List.set_cons_succ]
          refine wpAnyH_take (i := 10) (oi := { dst := some 160, op := Op.extract (Operand.tmp 150) 2, type := 3, pos := "book.go:130", after := #[{ on := 7, ground := Ground.data }, { on := 12, ground := Ground.gcOnly Departure.lateStores }], guard := none }) (v := .int .i64 ((T.2.2 : Nat) : Int)) rfl (by kernel_rfl) (by kernel_rfl) (by kernel_rfl) (fun _ _ _ h => h) (Or.inl ⟨by rfl, ?_⟩) (by assumption) ?_
          · intro w hSw
            (try dsimp only at hSw)
            go_simp
          try simp only [Act.put, List.setIfInBounds_toArray, List.set_cons_zero, List.set_cons_succ]
          refine wpAnyH_take (i := 11) (oi := { dst := some 34, op := Op.assign (Operand.tmp 158), type := 3, pos := "book.go:130", after := #[{ on := 8, ground := Ground.data }, { on := 6, ground := Ground.chain }, { on := 0, ground := Ground.phase }, { on := 1, ground := Ground.phase }, { on := 2, ground := Ground.phase }, { on := 3, ground := Ground.phase }, { on := 4, ground := Ground.phase }, { on := 5, ground := Ground.phase }, { on := 6, ground := Ground.phase }, { on := 7, ground := Ground.phase }, { on := 8, ground := Ground.phase }, { on := 9, ground := Ground.textOnly Departure.lateStores }, { on := 10, ground := Ground.textOnly Departure.lateStores }], guard := none }) (v := .int .i64 ((T.1 : Nat) : Int)) rfl (by kernel_rfl) (by kernel_rfl) (by kernel_rfl) (fun _ _ _ h => h) (Or.inl ⟨by rfl, ?_⟩) (by assumption) ?_
          · intro w hSw
            (try dsimp only at hSw)
            go_simp
          try simp only [Act.put, List.setIfInBounds_toArray, List.set_cons_zero, List.set_cons_succ]
          refine wpAnyH_take (i := 12) (oi := { dst := some 35, op := Op.assign (Operand.tmp 159), type := 25, pos := "book.go:130", after := #[{ on := 9, ground := Ground.data }, { on := 11, ground := Ground.chain }, { on := 0, ground := Ground.phase }, { on := 1, ground := Ground.phase }, { on := 2, ground := Ground.phase }, { on := 3, ground := Ground.phase }, { on := 4, ground := Ground.phase }, { on := 5, ground := Ground.phase }, { on := 6, ground := Ground.phase }, { on := 7, ground := Ground.phase }, { on := 8, ground := Ground.phase }, { on := 9, ground := Ground.phase }, { on := 10, ground := Ground.textOnly Departure.lateStores }, { on := 11, ground := Ground.phase }], guard := none }) (v := .slice ta T.2.1.length tc) rfl (by kernel_rfl) (by kernel_rfl) (by kernel_rfl) (fun _ _ _ h => h) (Or.inl ⟨by rfl, ?_⟩) (by assumption) ?_
          · intro w hSw
            (try dsimp only at hSw)
            go_simp
          try simp only [Act.put, List.setIfInBounds_toArray, List.set_cons_zero, List.set_cons_succ]
          refine wpAnyH_take (i := 13) (oi := { dst := some 36, op := Op.assign (Operand.tmp 160), type := 3, pos := "book.go:130", after := #[{ on := 10, ground := Ground.data }, { on := 12, ground := Ground.chain }, { on := 0, ground := Ground.phase }, { on := 1, ground := Ground.phase }, { on := 2, ground := Ground.phase }, { on := 3, ground := Ground.phase }, { on := 4, ground := Ground.phase }, { on := 5, ground := Ground.phase }, { on := 6, ground := Ground.phase }, { on := 7, ground := Ground.phase }, { on := 8, ground := Ground.phase }, { on := 9, ground := Ground.phase }, { on := 10, ground := Ground.phase }, { on := 11, ground := Ground.phase }, { on := 12, ground := Ground.phase }], guard := none }) (v := .int .i64 ((T.2.2 : Nat) : Int)) rfl (by kernel_rfl) (by kernel_rfl) (by kernel_rfl) (fun _ _ _ h => h) (Or.inl ⟨by rfl, ?_⟩) (by assumption) ?_
          · intro w hSw
            (try dsimp only at hSw)
            go_simp
          try simp only [Act.put, List.setIfInBounds_toArray, List.set_cons_zero, List.set_cons_succ]
          refine wpAnyH_done (by kernel_rfl) ?_ _
          obtain ⟨hv, hb4, hB2⟩ := HV.out
          have hb46 := HB5.out.2.trans (hb6.mono HB5.out.2.size)
          have hA : Ans w w6 (.slice va T.2.1.length vc) (.slice ta T.2.1.length tc) T.2.1 := Ans.mk' (hB2.trans (HB3.out.mono hB2.size)) hb4 hv hb46 (ho.down HB5.out.2.size)
          have HA := Hid.mk hA
          have hnu := lnum_any ((T.2.2 : Nat) : Int) w6
          have hself : ∀ z : Int, (z == z) = true := fun z => by simp
          clear hv hb4 hB2 hb46 hA ho hb6 hp hHeld q5 q6 q7
          go_wp2_with fail
          refine hnu.mono ?_
          rintro e w7 ⟨rfl, rfl⟩
          clear hnu
          go_wp2
          go_ret3
          exact ⟨_, _, rfl, by rw [hsp]; exact HA.out⟩
end Go.Proofs.Ytohgdjlgbnpobaa
end
