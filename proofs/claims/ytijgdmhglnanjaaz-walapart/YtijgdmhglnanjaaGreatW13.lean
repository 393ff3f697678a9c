import Derived.Test.YtijgdmhglnanjaaGreatW12
section
namespace Go.Proofs.YtijgdmhglnanjaaGreat
open Go.RowKit

set_option maxRecDepth 20000 in
set_option maxHeartbeats 4000000 in
theorem rrenew_no (a : Option Addr) (n c : Nat) (l : List Int) (a2 : Option Addr) (m d : Nat) (r : List Int) (a3 : Option Addr) (q e3 : Nat) (num : Int) (w : World) (hs : Src w a n l) (hs2 : Src w a2 m r) (hl : Bytes l) (hr : Bytes r) (code : Int)
    (h : ((snewest l r).2.2.2 = 2 ∧ code = 2) ∨ ((snewest l r).2.2.2 ≠ 2 ∧ num < 1 ∧ code = 1) ∨ ((snewest l r).2.2.2 ≠ 2 ∧ ¬ num < 1 ∧ 496 < q ∧ code = 7) ∨ ((snewest l r).2.2.2 = 0 ∧ ¬ num < 1 ∧ ¬ 496 < q ∧ num ≤ (((snewest l r).2.1 : Nat) : Int) ∧ code = 31)) :
    Calls Tryz.prog 85 #[.slice a n c, .slice a2 m d, .int .i64 num, .slice a3 q e3] w fun e w' => e = .returned (.tuple #[.int .i64 0, .slice none 0 0, .int .i64 code]) ∧ Below w.heap.size w w' := by
  have h1 := rnewest_any a n c l a2 m d r w hs hs2 hl hr
  generalize snewest l r = T at *
  obtain ⟨A, B, D, E⟩ := T
  dsimp only at h1 h
  have Hh := Hid.mk h
  clear h hs hs2
  go_enter Tryz.func85, Tryz.ntmps85
  go_wp2_with fail
  refine h1.mono ?_
  rintro e w1 ⟨v, rfl, _, hb1⟩
  have HB1 := Hid.mk hb1
  have h := Hh.out
  clear h1 hb1 Hh
  rcases h with ⟨rfl, rfl⟩ | ⟨hE, hn, rfl⟩ | ⟨hE, hn, hq, rfl⟩ | ⟨rfl, hn, hq, hle, rfl⟩
  · go_wp2
    go_ret3
    exact ⟨rfl, HB1.out⟩
  · have hE' : ((E : Int) == 2) = false := by rw [beq_eq_false_iff_ne]; omega
    go_wp2
    go_ret3
    exact ⟨rfl, HB1.out⟩
  · have hE' : ((E : Int) == 2) = false := by rw [beq_eq_false_iff_ne]; omega
    have hq' : 496 < (q : Int) := by omega
    go_wp2
    go_ret3
    exact ⟨rfl, HB1.out⟩
  · have hq' : ¬ 496 < (q : Int) := by omega
    go_wp2
    go_ret3
    exact ⟨rfl, HB1.out⟩

set_option maxRecDepth 20000 in
set_option maxHeartbeats 8000000 in
theorem rrenew_ok0 (b1 o1 c : Nat) (l : List Int) (b2 o2 d : Nat) (r : List Int) (a3 : Option Addr) (q e3 : Nat) (dt : List Int) (N : Nat) (num : Int) (hnum : num = (N : Int)) (w : World) (hs : Src w (some ⟨b1, o1, none⟩) 512 l) (hs2 : Src w (some ⟨b2, o2, none⟩) 512 r) (hl : Bytes l) (hr : Bytes r)
    (hs3 : Src w a3 q dt) (hdt : Bytes dt) (hN1 : 1 ≤ N) (hNm : N < 9223372036854775808) (hq : q ≤ 496) (hst : (snewest l r).2.1 < N) (hc : ¬ ((snewest l r).2.2.2 = 0 ∧ (snewest l r).1 = 0)) :
    Calls Tryz.prog 85 #[.slice (some ⟨b1, o1, none⟩) 512 c, .slice (some ⟨b2, o2, none⟩) 512 d, .int .i64 num, .slice a3 q e3] w fun e w' => ∃ v, e = .returned (.tuple #[.int .i64 0, v, .int .i64 0]) ∧ Own w' w.heap.size v (sform (turnOf (l.getD 0 0) (l.getD 511 0)) (bytes8 N ++ dt)) ∧ Below w.heap.size w w' := by
  have h1 := rnewest_any (some ⟨b1, o1, none⟩) 512 c l (some ⟨b2, o2, none⟩) 512 d r w hs hs2 hl hr
  have hE2 : (snewest l r).2.2.2 ≠ 2 := by rcases snewest_none hs.1 hs2.1 with h | h <;> omega
  have HX := Hid.mk hs
  have hXl := hs.1
  have H3 := Hid.mk hs3
  have hdl := hs3.1
  generalize snewest l r = T at *
  obtain ⟨A, B, D, E⟩ := T
  dsimp only at h1 hst hc hE2
  have hE' : ((E : Int) == 2) = false := by rw [beq_eq_false_iff_ne]; omega
  have hq' : ¬ 496 < (q : Int) := by omega
  have hN1' : ¬ num < 1 := by omega
  have hst' : ¬ num ≤ (B : Int) := by omega
  have HN := Hid.mk hnum
  clear hnum
  have Hc := Hid.mk hc
  clear hs hs2 hs3 hc hst hE2
  go_enter Tryz.func85, Tryz.ntmps85
  go_wp2_with fail
  refine h1.mono ?_
  rintro e w1 ⟨v, rfl, _, hb1⟩
  have HB1 := Hid.mk hb1
  have hz1 := hb1.size
  clear h1 hb1
  by_cases hE0 : E = 0
  · subst hE0
    have hA0 : ((A : Int) == 0) = false := by rw [beq_eq_false_iff_ne]; have hA : A ≠ 0 := fun h => Hc.out ⟨rfl, h⟩; omega
    rw [show (((0 : Nat)) : Int) = 0 by rfl]
    go_wp2
    go_loopw [15, 16, 17] (fun v x i wr => ∃ k : Nat, k ≤ 8 ∧ i = .int .i64 k ∧ x = .int .i64 ((N / 256 ^ k : Nat) : Int) ∧ Own wr w1.heap.size v (leb k N) ∧ Below w1.heap.size w1 wr) (fun _ _ i _ => 8 - (intOf i).toNat)
    case atStart => exact ⟨0, Nat.zero_le _, rfl, by rw [HN.out]; simp, Own.nil _ _, Below.refl _ _⟩
    case round =>
      obtain ⟨k, hk, rfl, rfl, hown, hbr⟩ := hrel
      have Hown := Hid.mk hown
      have HB := Hid.mk hbr
      have hz := hbr.size
      clear hown hbr
      by_cases hlt : k < 8
      · have hlt' : (k : Int) < 8 := by omega
        have e1 : N / 256 ^ (k + 1) = N / 256 ^ k / 256 := by rw [Nat.div_div_eq_div_mul, Nat.pow_succ]
        have e2 := leb_snoc k N
        rw [show (2 : Nat) ^ (8 * k) = 256 ^ k by rw [Nat.pow_mul]] at e2
        have hQ : N / 256 ^ k < 9223372036854775808 := Nat.lt_of_le_of_lt (Nat.div_le_self _ _) hNm
        generalize N / 256 ^ k = Q at *
        have q1 : ((Q : Int)).tmod 256 = ((Q % 256 : Nat) : Int) := by rw [Int.tmod_eq_emod_of_nonneg (by omega)]; omega
        have q2 : ((Q : Int)).tdiv 256 = ((Q / 256 : Nat) : Int) := by rw [Int.tdiv_eq_ediv_of_nonneg (by omega)]; omega
        have He1 := Hid.mk e1
        have He2 := Hid.mk e2
        have hll : (leb k N).length = k := leb_len k N
        clear e1 e2
        go_wp2_with (at_builtin; refine wpList_app1 rfl _ _ rfl w1.heap.size u15 _ _ rfl rfl Hown.out ?b1 ?b2 ?_)
        case b1 => omega
        case b2 => exact hz
        intro v' w' ho hb'
        have HO : Hid (Own w' w1.heap.size v' (leb (k + 1) N)) := by rw [He2.out]; exact ho
        have HB' := Hid.mk (HB.out.trans (hb'.mono (Nat.le_refl _)))
        clear ho hb' Hown HB He2
        go_wp2
        go_roundw
        case rel => exact ⟨k + 1, by omega, by go_num, by rw [He1.out]; simp, HO.out, HB'.out⟩
        case measure => simp [intOf]; omega
      · have hlt' : ¬ (k : Int) < 8 := by omega
        obtain rfl : k = 8 := by omega
        rw [leb8] at Hown
        have Hown2 : Hid (Own wr w1.heap.size u15 (bytes8 N ++ dt.take 0)) := by show Own wr w1.heap.size u15 (bytes8 N ++ []); rw [List.append_nil]; exact Hown.out
        clear Hown
        go_wp2
        go_loopw [15, 18] (fun v i wx => ∃ k : Nat, k ≤ q ∧ i = .int .i64 k ∧ Own wx w1.heap.size v (bytes8 N ++ dt.take k) ∧ Below w1.heap.size w1 wx) (fun _ i _ => q - (intOf i).toNat)
        case atStart => exact ⟨0, Nat.zero_le _, rfl, Hown2.out, HB.out⟩
        case round =>
          clear Hown2 HB hz
          obtain ⟨k, hk, rfl, hown, hbr⟩ := hrel
          have Hown := Hid.mk hown
          have HB := Hid.mk hbr
          have hz := hbr.size
          clear hown hbr
          have hll : (bytes8 N ++ dt.take k).length = 8 + k := by rw [List.length_append, bytes8_len, List.length_take]; omega
          by_cases hlt : k < q
          · have hlt' : (k : Int) < (q : Int) := by omega
            obtain ⟨b3, o3, rfl⟩ := src_spot H3.out (by omega)
            have hcc := H3.out.2.2 _ rfl k hlt
            rw [addr_add] at hcc
            have hcc := cell_later (HB1.out.trans (HB.out.mono hz1)) hcc
            have HeN := Hid.mk (take_snoc dt k (by omega))
            generalize dt.getD k 0 = x at *
            go_wp2_with (at_builtin; refine wpList_app1 rfl _ _ rfl w1.heap.size u15 _ x rfl rfl Hown.out ?b1 ?b2 ?_)
            case b1 => omega
            case b2 => exact hz
            intro v' w' ho hb'
            have HO : Hid (Own w' w1.heap.size v' (bytes8 N ++ dt.take (k + 1))) := by rw [← HeN.out]; first | exact ho | (rw [← List.append_assoc]; exact ho)
            have HB' := Hid.mk (HB.out.trans (hb'.mono (Nat.le_refl _)))
            clear ho hb' Hown HB HeN
            go_wp2
            go_roundw
            case rel => exact ⟨k + 1, by omega, by go_num, HO.out, HB'.out⟩
            case measure => simp [intOf]; omega
          · have hlt' : ¬ (k : Int) < (q : Int) := by omega
            have e5 : dt.take k = dt := List.take_of_length_le (by omega)
            rw [e5] at Hown hll
            obtain ⟨vb, vc, rfl, hsb, _, _⟩ := Hown.out.src
            have hBr := HB1.out.trans (HB.out.mono hz1)
            have hdl2 : (bytes8 N ++ dt).length ≤ 504 := by omega
            have k2 := rseal_any (some ⟨b1, o1, none⟩) 512 c l vb (bytes8 N ++ dt).length vc (bytes8 N ++ dt) wr (HX.out.later hBr) hsb ((bytes8_bytes N).append hdt) hl
            rw [sseal_ok hXl hdl2] at k2
            dsimp only at k2
            have HBr := Hid.mk hBr
            clear e5 hsb hBr hll Hown HB
            generalize (bytes8 N ++ dt).length = BL at *
            go_wp2_with fail
            refine k2.mono ?_
            rintro e w5 ⟨v5, rfl, ho5, hb5⟩
            have HH := Hid.mk (And.intro (Own.down ho5 HBr.out.size) (HBr.out.trans (hb5.mono HBr.out.size)))
            clear k2 ho5 hb5
            go_wp2
            go_ret3
            exact ⟨v5, rfl, HH.out⟩
  · have hE0' : ((E : Int) == 0) = false := by rw [beq_eq_false_iff_ne]; omega
    go_wp2
    go_loopw [15, 16, 17] (fun v x i wr => ∃ k : Nat, k ≤ 8 ∧ i = .int .i64 k ∧ x = .int .i64 ((N / 256 ^ k : Nat) : Int) ∧ Own wr w1.heap.size v (leb k N) ∧ Below w1.heap.size w1 wr) (fun _ _ i _ => 8 - (intOf i).toNat)
    case atStart => exact ⟨0, Nat.zero_le _, rfl, by rw [HN.out]; simp, Own.nil _ _, Below.refl _ _⟩
    case round =>
      obtain ⟨k, hk, rfl, rfl, hown, hbr⟩ := hrel
      have Hown := Hid.mk hown
      have HB := Hid.mk hbr
      have hz := hbr.size
      clear hown hbr
      by_cases hlt : k < 8
      · have hlt' : (k : Int) < 8 := by omega
        have e1 : N / 256 ^ (k + 1) = N / 256 ^ k / 256 := by rw [Nat.div_div_eq_div_mul, Nat.pow_succ]
        have e2 := leb_snoc k N
        rw [show (2 : Nat) ^ (8 * k) = 256 ^ k by rw [Nat.pow_mul]] at e2
        have hQ : N / 256 ^ k < 9223372036854775808 := Nat.lt_of_le_of_lt (Nat.div_le_self _ _) hNm
        generalize N / 256 ^ k = Q at *
        have q1 : ((Q : Int)).tmod 256 = ((Q % 256 : Nat) : Int) := by rw [Int.tmod_eq_emod_of_nonneg (by omega)]; omega
        have q2 : ((Q : Int)).tdiv 256 = ((Q / 256 : Nat) : Int) := by rw [Int.tdiv_eq_ediv_of_nonneg (by omega)]; omega
        have He1 := Hid.mk e1
        have He2 := Hid.mk e2
        have hll : (leb k N).length = k := leb_len k N
        clear e1 e2
        go_wp2_with (at_builtin; refine wpList_app1 rfl _ _ rfl w1.heap.size u15 _ _ rfl rfl Hown.out ?b1 ?b2 ?_)
        case b1 => omega
        case b2 => exact hz
        intro v' w' ho hb'
        have HO : Hid (Own w' w1.heap.size v' (leb (k + 1) N)) := by rw [He2.out]; exact ho
        have HB' := Hid.mk (HB.out.trans (hb'.mono (Nat.le_refl _)))
        clear ho hb' Hown HB He2
        go_wp2
        go_roundw
        case rel => exact ⟨k + 1, by omega, by go_num, by rw [He1.out]; simp, HO.out, HB'.out⟩
        case measure => simp [intOf]; omega
      · have hlt' : ¬ (k : Int) < 8 := by omega
        obtain rfl : k = 8 := by omega
        rw [leb8] at Hown
        have Hown2 : Hid (Own wr w1.heap.size u15 (bytes8 N ++ dt.take 0)) := by show Own wr w1.heap.size u15 (bytes8 N ++ []); rw [List.append_nil]; exact Hown.out
        clear Hown
        go_wp2
        go_loopw [15, 18] (fun v i wx => ∃ k : Nat, k ≤ q ∧ i = .int .i64 k ∧ Own wx w1.heap.size v (bytes8 N ++ dt.take k) ∧ Below w1.heap.size w1 wx) (fun _ i _ => q - (intOf i).toNat)
        case atStart => exact ⟨0, Nat.zero_le _, rfl, Hown2.out, HB.out⟩
        case round =>
          clear Hown2 HB hz
          obtain ⟨k, hk, rfl, hown, hbr⟩ := hrel
          have Hown := Hid.mk hown
          have HB := Hid.mk hbr
          have hz := hbr.size
          clear hown hbr
          have hll : (bytes8 N ++ dt.take k).length = 8 + k := by rw [List.length_append, bytes8_len, List.length_take]; omega
          by_cases hlt : k < q
          · have hlt' : (k : Int) < (q : Int) := by omega
            obtain ⟨b3, o3, rfl⟩ := src_spot H3.out (by omega)
            have hcc := H3.out.2.2 _ rfl k hlt
            rw [addr_add] at hcc
            have hcc := cell_later (HB1.out.trans (HB.out.mono hz1)) hcc
            have HeN := Hid.mk (take_snoc dt k (by omega))
            generalize dt.getD k 0 = x at *
            go_wp2_with (at_builtin; refine wpList_app1 rfl _ _ rfl w1.heap.size u15 _ x rfl rfl Hown.out ?b1 ?b2 ?_)
            case b1 => omega
            case b2 => exact hz
            intro v' w' ho hb'
            have HO : Hid (Own w' w1.heap.size v' (bytes8 N ++ dt.take (k + 1))) := by rw [← HeN.out]; first | exact ho | (rw [← List.append_assoc]; exact ho)
            have HB' := Hid.mk (HB.out.trans (hb'.mono (Nat.le_refl _)))
            clear ho hb' Hown HB HeN
            go_wp2
            go_roundw
            case rel => exact ⟨k + 1, by omega, by go_num, HO.out, HB'.out⟩
            case measure => simp [intOf]; omega
          · have hlt' : ¬ (k : Int) < (q : Int) := by omega
            have e5 : dt.take k = dt := List.take_of_length_le (by omega)
            rw [e5] at Hown hll
            obtain ⟨vb, vc, rfl, hsb, _, _⟩ := Hown.out.src
            have hBr := HB1.out.trans (HB.out.mono hz1)
            have hdl2 : (bytes8 N ++ dt).length ≤ 504 := by omega
            have k2 := rseal_any (some ⟨b1, o1, none⟩) 512 c l vb (bytes8 N ++ dt).length vc (bytes8 N ++ dt) wr (HX.out.later hBr) hsb ((bytes8_bytes N).append hdt) hl
            rw [sseal_ok hXl hdl2] at k2
            dsimp only at k2
            have HBr := Hid.mk hBr
            clear e5 hsb hBr hll Hown HB
            generalize (bytes8 N ++ dt).length = BL at *
            go_wp2_with fail
            refine k2.mono ?_
            rintro e w5 ⟨v5, rfl, ho5, hb5⟩
            have HH := Hid.mk (And.intro (Own.down ho5 HBr.out.size) (HBr.out.trans (hb5.mono HBr.out.size)))
            clear k2 ho5 hb5
            go_wp2
            go_ret3
            exact ⟨v5, rfl, HH.out⟩

set_option maxRecDepth 20000 in
set_option maxHeartbeats 8000000 in
theorem rrenew_ok1 (b1 o1 c : Nat) (l : List Int) (b2 o2 d : Nat) (r : List Int) (a3 : Option Addr) (q e3 : Nat) (dt : List Int) (N : Nat) (num : Int) (hnum : num = (N : Int)) (w : World) (hs : Src w (some ⟨b1, o1, none⟩) 512 l) (hs2 : Src w (some ⟨b2, o2, none⟩) 512 r) (hl : Bytes l) (hr : Bytes r)
    (hs3 : Src w a3 q dt) (hdt : Bytes dt) (hN1 : 1 ≤ N) (hNm : N < 9223372036854775808) (hq : q ≤ 496) (hst : (snewest l r).2.1 < N) (hc : (snewest l r).2.2.2 = 0 ∧ (snewest l r).1 = 0) :
    Calls Tryz.prog 85 #[.slice (some ⟨b1, o1, none⟩) 512 c, .slice (some ⟨b2, o2, none⟩) 512 d, .int .i64 num, .slice a3 q e3] w fun e w' => ∃ v, e = .returned (.tuple #[.int .i64 1, v, .int .i64 0]) ∧ Own w' w.heap.size v (sform (turnOf (r.getD 0 0) (r.getD 511 0)) (bytes8 N ++ dt)) ∧ Below w.heap.size w w' := by
  have h1 := rnewest_any (some ⟨b1, o1, none⟩) 512 c l (some ⟨b2, o2, none⟩) 512 d r w hs hs2 hl hr
  have hE2 : (snewest l r).2.2.2 ≠ 2 := by rcases snewest_none hs.1 hs2.1 with h | h <;> omega
  have HX := Hid.mk hs2
  have hXl := hs2.1
  have H3 := Hid.mk hs3
  have hdl := hs3.1
  generalize snewest l r = T at *
  obtain ⟨A, B, D, E⟩ := T
  dsimp only at h1 hst hc hE2
  have hE' : ((E : Int) == 2) = false := by rw [beq_eq_false_iff_ne]; omega
  have hq' : ¬ 496 < (q : Int) := by omega
  have hN1' : ¬ num < 1 := by omega
  have hst' : ¬ num ≤ (B : Int) := by omega
  have HN := Hid.mk hnum
  clear hnum
  have Hc := Hid.mk hc
  clear hs hs2 hs3 hc hst hE2
  go_enter Tryz.func85, Tryz.ntmps85
  go_wp2_with fail
  refine h1.mono ?_
  rintro e w1 ⟨v, rfl, _, hb1⟩
  have HB1 := Hid.mk hb1
  have hz1 := hb1.size
  clear h1 hb1
  by_cases hE0 : E = 0
  · subst hE0
    have hA0 : A = 0 := Hc.out.2
    subst hA0
    rw [show (((0 : Nat)) : Int) = 0 by rfl]
    go_wp2
    go_loopw [15, 16, 17] (fun v x i wr => ∃ k : Nat, k ≤ 8 ∧ i = .int .i64 k ∧ x = .int .i64 ((N / 256 ^ k : Nat) : Int) ∧ Own wr w1.heap.size v (leb k N) ∧ Below w1.heap.size w1 wr) (fun _ _ i _ => 8 - (intOf i).toNat)
    case atStart => exact ⟨0, Nat.zero_le _, rfl, by rw [HN.out]; simp, Own.nil _ _, Below.refl _ _⟩
    case round =>
      obtain ⟨k, hk, rfl, rfl, hown, hbr⟩ := hrel
      have Hown := Hid.mk hown
      have HB := Hid.mk hbr
      have hz := hbr.size
      clear hown hbr
      by_cases hlt : k < 8
      · have hlt' : (k : Int) < 8 := by omega
        have e1 : N / 256 ^ (k + 1) = N / 256 ^ k / 256 := by rw [Nat.div_div_eq_div_mul, Nat.pow_succ]
        have e2 := leb_snoc k N
        rw [show (2 : Nat) ^ (8 * k) = 256 ^ k by rw [Nat.pow_mul]] at e2
        have hQ : N / 256 ^ k < 9223372036854775808 := Nat.lt_of_le_of_lt (Nat.div_le_self _ _) hNm
        generalize N / 256 ^ k = Q at *
        have q1 : ((Q : Int)).tmod 256 = ((Q % 256 : Nat) : Int) := by rw [Int.tmod_eq_emod_of_nonneg (by omega)]; omega
        have q2 : ((Q : Int)).tdiv 256 = ((Q / 256 : Nat) : Int) := by rw [Int.tdiv_eq_ediv_of_nonneg (by omega)]; omega
        have He1 := Hid.mk e1
        have He2 := Hid.mk e2
        have hll : (leb k N).length = k := leb_len k N
        clear e1 e2
        go_wp2_with (at_builtin; refine wpList_app1 rfl _ _ rfl w1.heap.size u15 _ _ rfl rfl Hown.out ?b1 ?b2 ?_)
        case b1 => omega
        case b2 => exact hz
        intro v' w' ho hb'
        have HO : Hid (Own w' w1.heap.size v' (leb (k + 1) N)) := by rw [He2.out]; exact ho
        have HB' := Hid.mk (HB.out.trans (hb'.mono (Nat.le_refl _)))
        clear ho hb' Hown HB He2
        go_wp2
        go_roundw
        case rel => exact ⟨k + 1, by omega, by go_num, by rw [He1.out]; simp, HO.out, HB'.out⟩
        case measure => simp [intOf]; omega
      · have hlt' : ¬ (k : Int) < 8 := by omega
        obtain rfl : k = 8 := by omega
        rw [leb8] at Hown
        have Hown2 : Hid (Own wr w1.heap.size u15 (bytes8 N ++ dt.take 0)) := by show Own wr w1.heap.size u15 (bytes8 N ++ []); rw [List.append_nil]; exact Hown.out
        clear Hown
        go_wp2
        go_loopw [15, 18] (fun v i wx => ∃ k : Nat, k ≤ q ∧ i = .int .i64 k ∧ Own wx w1.heap.size v (bytes8 N ++ dt.take k) ∧ Below w1.heap.size w1 wx) (fun _ i _ => q - (intOf i).toNat)
        case atStart => exact ⟨0, Nat.zero_le _, rfl, Hown2.out, HB.out⟩
        case round =>
          clear Hown2 HB hz
          obtain ⟨k, hk, rfl, hown, hbr⟩ := hrel
          have Hown := Hid.mk hown
          have HB := Hid.mk hbr
          have hz := hbr.size
          clear hown hbr
          have hll : (bytes8 N ++ dt.take k).length = 8 + k := by rw [List.length_append, bytes8_len, List.length_take]; omega
          by_cases hlt : k < q
          · have hlt' : (k : Int) < (q : Int) := by omega
            obtain ⟨b3, o3, rfl⟩ := src_spot H3.out (by omega)
            have hcc := H3.out.2.2 _ rfl k hlt
            rw [addr_add] at hcc
            have hcc := cell_later (HB1.out.trans (HB.out.mono hz1)) hcc
            have HeN := Hid.mk (take_snoc dt k (by omega))
            generalize dt.getD k 0 = x at *
            go_wp2_with (at_builtin; refine wpList_app1 rfl _ _ rfl w1.heap.size u15 _ x rfl rfl Hown.out ?b1 ?b2 ?_)
            case b1 => omega
            case b2 => exact hz
            intro v' w' ho hb'
            have HO : Hid (Own w' w1.heap.size v' (bytes8 N ++ dt.take (k + 1))) := by rw [← HeN.out]; first | exact ho | (rw [← List.append_assoc]; exact ho)
            have HB' := Hid.mk (HB.out.trans (hb'.mono (Nat.le_refl _)))
            clear ho hb' Hown HB HeN
            go_wp2
            go_roundw
            case rel => exact ⟨k + 1, by omega, by go_num, HO.out, HB'.out⟩
            case measure => simp [intOf]; omega
          · have hlt' : ¬ (k : Int) < (q : Int) := by omega
            have e5 : dt.take k = dt := List.take_of_length_le (by omega)
            rw [e5] at Hown hll
            obtain ⟨vb, vc, rfl, hsb, _, _⟩ := Hown.out.src
            have hBr := HB1.out.trans (HB.out.mono hz1)
            have hdl2 : (bytes8 N ++ dt).length ≤ 504 := by omega
            have k2 := rseal_any (some ⟨b2, o2, none⟩) 512 d r vb (bytes8 N ++ dt).length vc (bytes8 N ++ dt) wr (HX.out.later hBr) hsb ((bytes8_bytes N).append hdt) hr
            rw [sseal_ok hXl hdl2] at k2
            dsimp only at k2
            have HBr := Hid.mk hBr
            clear e5 hsb hBr hll Hown HB
            generalize (bytes8 N ++ dt).length = BL at *
            go_wp2_with fail
            refine k2.mono ?_
            rintro e w5 ⟨v5, rfl, ho5, hb5⟩
            have HH := Hid.mk (And.intro (Own.down ho5 HBr.out.size) (HBr.out.trans (hb5.mono HBr.out.size)))
            clear k2 ho5 hb5
            go_wp2
            go_ret3
            exact ⟨v5, rfl, HH.out⟩
  · exact absurd Hc.out.1 hE0

theorem rrenew_any (a : Option Addr) (n c : Nat) (l : List Int) (a2 : Option Addr) (m d : Nat) (r : List Int) (a3 : Option Addr) (q e3 : Nat) (dt : List Int) (num : Int) (w : World) (hs : Src w a n l) (hs2 : Src w a2 m r) (hl : Bytes l) (hr : Bytes r)
    (hs3 : Src w a3 q dt) (hdt : Bytes dt) (hhi : num ≤ 9223372036854775807) :
    Calls Tryz.prog 85 #[.slice a n c, .slice a2 m d, .int .i64 num, .slice a3 q e3] w fun e w' => ∃ v, e = .returned (.tuple #[.int .i64 (((srenew l r num dt).1 : Nat) : Int), v, .int .i64 (((srenew l r num dt).2.2 : Nat) : Int)]) ∧ Own w' w.heap.size v (srenew l r num dt).2.1 ∧ Below w.heap.size w w' := by
  have hln := hs.1
  have hrn := hs2.1
  have hdn := hs3.1
  by_cases hyes : n = 512 ∧ m = 512
  · have hno := snewest_none (l := l) (r := r) (by omega) (by omega)
    by_cases h1 : num < 1
    · refine (rrenew_no a n c l a2 m d r a3 q e3 num w hs hs2 hl hr 1 (.inr (.inl ⟨by omega, h1, rfl⟩))).mono ?_
      rintro e w' ⟨rfl, hb⟩
      have e1 : srenew l r num dt = (0, [], 1) := by unfold srenew; rw [if_neg (by omega), if_pos h1]
      rw [e1]; exact ⟨_, rfl, Own.nil _ _, hb⟩
    · by_cases h2 : 496 < q
      · refine (rrenew_no a n c l a2 m d r a3 q e3 num w hs hs2 hl hr 7 (.inr (.inr (.inl ⟨by omega, h1, h2, rfl⟩)))).mono ?_
        rintro e w' ⟨rfl, hb⟩
        have e1 : srenew l r num dt = (0, [], 7) := by unfold srenew; rw [if_neg (by omega), if_neg h1, if_pos (by omega)]
        rw [e1]; exact ⟨_, rfl, Own.nil _ _, hb⟩
      · by_cases h3 : num ≤ (((snewest l r).2.1 : Nat) : Int)
        · refine (rrenew_no a n c l a2 m d r a3 q e3 num w hs hs2 hl hr 31 (.inr (.inr (.inr ⟨by omega, h1, h2, h3, rfl⟩)))).mono ?_
          rintro e w' ⟨rfl, hb⟩
          have e1 : srenew l r num dt = (0, [], 31) := by unfold srenew; rw [if_neg (by omega), if_neg h1, if_neg (by omega)]; simp only; rw [if_pos h3]
          rw [e1]; exact ⟨_, rfl, Own.nil _ _, hb⟩
        · obtain ⟨N, hN⟩ : ∃ N : Nat, num = (N : Int) := ⟨num.toNat, by omega⟩
          obtain ⟨rfl, rfl⟩ := hyes
          obtain ⟨b1, o1, rfl⟩ := src_spot hs (by omega)
          obtain ⟨b2, o2, rfl⟩ := src_spot hs2 (by omega)
          by_cases hs0 : (snewest l r).2.2.2 = 0 ∧ (snewest l r).1 = 0
          · have e1 : srenew l r num dt = (1, sform (turnOf (r.getD 0 0) (r.getD 511 0)) (bytes8 N ++ dt), 0) := by unfold srenew; rw [if_neg (by omega), if_neg h1, if_neg (by omega)]; simp only; rw [if_neg h3, if_pos hs0, hN, Int.toNat_natCast]
            rw [e1]
            exact rrenew_ok1 b1 o1 c l b2 o2 d r a3 q e3 dt N num hN w hs hs2 hl hr hs3 hdt (by omega) (by omega) (by omega) (by omega) hs0
          · have e1 : srenew l r num dt = (0, sform (turnOf (l.getD 0 0) (l.getD 511 0)) (bytes8 N ++ dt), 0) := by unfold srenew; rw [if_neg (by omega), if_neg h1, if_neg (by omega)]; simp only; rw [if_neg h3, if_neg hs0, hN, Int.toNat_natCast]
            rw [e1]
            exact rrenew_ok0 b1 o1 c l b2 o2 d r a3 q e3 dt N num hN w hs hs2 hl hr hs3 hdt (by omega) (by omega) (by omega) (by omega) hs0
  · have e0 : snewest l r = (0, 0, [], 2) := by unfold snewest; rw [if_pos (by omega)]
    refine (rrenew_no a n c l a2 m d r a3 q e3 num w hs hs2 hl hr 2 (.inl ⟨by rw [e0], rfl⟩)).mono ?_
    rintro e w' ⟨rfl, hb⟩
    have e1 : srenew l r num dt = (0, [], 2) := by unfold srenew; rw [if_pos (by omega)]
    rw [e1]; exact ⟨_, rfl, Own.nil _ _, hb⟩
end Go.Proofs.YtijgdmhglnanjaaGreat
end

section
namespace Go.Proofs.YtijgdmhglnanjaaGreat
open Go.RowKit

theorem snewest_small (l r : List Int) : (snewest l r).2.1 ≤ 9223372036854775807 := by
  have sl := sanchor_small l
  have sr := sanchor_small r
  unfold snewest
  split
  · simp
  · split
    · simp
    · split <;> simp only <;> omega

end Go.Proofs.YtijgdmhglnanjaaGreat
end

section
namespace Go.Proofs.YtijgdmhglnanjaaGreat
open Go.RowKit

theorem rd_dead {S : DS} (s : Nat) (x : Int) (h : S.fuse = 0) : S.rd s x = (3, S, []) := if_pos h
theorem rd_in {S : DS} {s k : Nat} (h : S.fuse ≠ 0) (hk : k < s) : S.rd s (k : Int) = (0, S.read, S.now k) := by
  unfold DS.rd
  rw [if_neg h, if_neg (by omega)]
  simp

theorem Out.low {lo lo' : Nat} {w : World} {l : List Int} {v : Value} (h : Out lo w l v) (hl : lo' ≤ lo) : Out lo' w l v := by
  obtain ⟨a, c, rfl, h1, h2⟩ := h
  exact ⟨a, c, rfl, h1, fun x e => Nat.le_trans hl (h2 x e)⟩
theorem Keeps.boxed {w : World} (F : Nat → Prop) (o : Obj) : Keeps F w (w.alloc o) := Keeps.alloc F w o

set_option maxRecDepth 20000 in
set_option maxHeartbeats 4000000 in
theorem pair_dead {w : World} {F : Nat → Prop} {p s : Nat} {S : DS} (h : DiskAt w F p s S) (f n : Int) (hbig : S.puts.length + 1 ≤ 4000000000000) (hf : S.fuse = 0) :
    Calls Tryz.prog 82 #[areaV p f n] w fun e w' => e = .returned (.tuple #[.slice none 0 0, .slice none 0 0, .int .i64 3]) ∧ DiskAt w' F p s S ∧ Keeps F w w' := by
  have hB := Keeps.boxed (w := w) F (.cells #[.pointer (some ⟨p, 0, none⟩), .int .i64 f, .int .i64 n] 75)
  have h1 := read_all (h.boxed (.cells #[.pointer (some ⟨p, 0, none⟩), .int .i64 f, .int .i64 n] 75)) f hbig
  rw [rd_dead _ _ hf] at h1
  have HB := Hid.mk hB
  clear h hB hf
  go_enter Tryz.func82, Tryz.ntmps82
  go_wp2_with fail
  refine h1.mono ?_
  rintro e w1 ⟨v, rfl, _, hd, hk⟩
  have HD := Hid.mk hd
  have HK := Hid.mk (HB.out.trans hk (fun _ h => .inl h))
  clear hd hk h1
  go_wp2
  go_ret3
  exact ⟨rfl, HD.out, HK.out⟩

/-- The box of an area, where all but the disk stays. -/
theorem box_kept {w w1 : World} {F : Nat → Prop} {o : Obj} (hl : ∀ k, F k → k < w.heap.size) (hk : Keeps F (w.alloc o) w1) : w1.heap[w.heap.size]? = some o := by
  rw [hk.block w.heap.size (by simp) (fun h => by have := hl _ h; omega)]
  exact heap_alloc_new _ _

set_option maxRecDepth 20000 in
set_option maxHeartbeats 4000000 in
theorem pair_ok {w : World} {F : Nat → Prop} {p s : Nat} {S : DS} (h : DiskAt w F p s S) (f : Nat) (n : Int) (hbig : S.puts.length + 1 ≤ 4000000000000) (hf : S.fuse ≠ 0) (hs : f + 1 < s) :
    Calls Tryz.prog 82 #[areaV p f n] w fun e w' => ∃ v1 v2, e = .returned (.tuple #[v1, v2, .int .i64 0]) ∧ Out w.heap.size w' (S.now f) v1 ∧ Out w.heap.size w' (S.now (f + 1)) v2 ∧ DiskAt w' F p s S.read.read ∧ Keeps F w w' := by
  have hB := Keeps.boxed (w := w) F (.cells #[.pointer (some ⟨p, 0, none⟩), .int .i64 f, .int .i64 n] 75)
  have h1 := read_all (h.boxed (.cells #[.pointer (some ⟨p, 0, none⟩), .int .i64 f, .int .i64 n] 75)) f hbig
  rw [rd_in hf (by omega)] at h1
  have hs2 := h.ok.hi
  have HL := Hid.mk h.lt
  have HB := Hid.mk hB
  clear h hB
  go_enter Tryz.func82, Tryz.ntmps82
  go_wp2_with fail
  refine h1.mono ?_
  rintro e w1 ⟨v, rfl, ho, hd, hk⟩
  have hbox := box_kept HL.out hk
  have hc0 := cell_of_block hbox (j := 0) rfl
  have hc1 := cell_of_block hbox (j := 1) rfl
  have h2 := read_all hd ((f + 1 : Nat) : Int) (by simpa [DS.read] using hbig)
  rw [rd_in (S := S.read) hf hs] at h2
  have HK := Hid.mk (HB.out.trans hk (fun _ h => .inl h))
  have HO := Hid.mk ho
  clear hd hk h1 hbox ho
  go_wp2_with fail
  refine h2.mono ?_
  rintro e w2 ⟨v2, rfl, ho2, hd2, hk2⟩
  have HO1 := Hid.mk (HO.out.keeps hk2 (fun k hk => by have := HL.out k hk; simp; omega))
  have HO2 := Hid.mk ho2
  have HD := Hid.mk hd2
  have HK2 := Hid.mk (HK.out.trans hk2 (fun _ h => .inl h))
  clear h2 ho2 hd2 hk2
  go_wp2
  go_ret3
  exact ⟨_, _, rfl, HO1.out.low (by simp), HO2.out.low HK.out.size, HD.out, HK2.out⟩
end Go.Proofs.YtijgdmhglnanjaaGreat
end

section
namespace Go.Proofs.YtijgdmhglnanjaaGreat
open Go.RowKit

/-- What the newest anchor of a log tells: epoch, tail, error. -/
def lnewest (l r : List Int) : Nat × Nat × Nat :=
  if (snewest l r).2.2.2 ≠ 0 ∨ 0 < (snewest l r).2.2.1.length ∨ (snewest l r).2.1 / 4294967296 < 1 ∨ 1073741824 < (snewest l r).2.1 / 4294967296 ∨ 1073741824 < (snewest l r).2.1 % 4294967296 then (0, 0, 6)
  else ((snewest l r).2.1 / 4294967296, (snewest l r).2.1 % 4294967296, 0)

theorem i64_low32 (a : Nat) (ha : a < 9223372036854775808) : bits .and .i64 (a : Int) 4294967295 = ((a % 4294967296 : Nat) : Int) := by
  have ea : (BitVec.ofInt 64 (a : Int)).toNat = a := by rw [BitVec.ofInt_natCast, BitVec.toNat_ofNat]; exact Nat.mod_eq_of_lt (by omega)
  have eb : (BitVec.ofInt 64 (4294967295 : Int)).toNat = 2 ^ 32 - 1 := by decide
  show IntKind.i64.wrap ((BitVec.ofInt 64 (a : Int) &&& BitVec.ofInt 64 (4294967295 : Int)).toNat : Int) = _
  rw [BitVec.toNat_and, ea, eb, IntKind.wrap_i64, Nat.and_two_pow_sub_one_eq_mod]
  omega

set_option maxRecDepth 20000 in
set_option maxHeartbeats 4000000 in
theorem anewest_ok {w : World} {F : Nat → Prop} {p s : Nat} {S : DS} (h : DiskAt w F p s S) (f : Nat) (n : Int) (hbig : S.puts.length + 1 ≤ 4000000000000) (hf : S.fuse ≠ 0) (hs : f + 1 < s) (hb1 : Bytes (S.now f)) (hb2 : Bytes (S.now (f + 1))) :
    Calls Tryz.prog 112 #[areaV p f n] w fun e w' => e = .returned (.tuple #[.int .i64 ((lnewest (S.now f) (S.now (f + 1))).1 : Int), .int .i64 ((lnewest (S.now f) (S.now (f + 1))).2.1 : Int), .int .i64 ((lnewest (S.now f) (S.now (f + 1))).2.2 : Int)]) ∧ DiskAt w' F p s S.read.read ∧ Keeps F w w' := by
  have hB := Keeps.boxed (w := w) F (.cells #[.pointer (some ⟨p, 0, none⟩), .int .i64 f, .int .i64 n] 75)
  have h1 := pair_ok (h.boxed (.cells #[.pointer (some ⟨p, 0, none⟩), .int .i64 f, .int .i64 n] 75)) f n hbig hf hs
  have HL := Hid.mk h.lt
  have HB := Hid.mk hB
  have hN := snewest_small (l := S.now f) (r := S.now (f + 1))
  have hP := fun a1 n1 c1 a2 n2 c2 w1 hs1 hs2 => pnewest_any a1 n1 c1 (S.now f) a2 n2 c2 (S.now (f + 1)) w1 hs1 hs2 hb1 hb2
  unfold lnewest
  clear h hB hbig hf hs hb1 hb2
  generalize (snewest (S.now f) (S.now (f + 1))).2.1 = N at *
  generalize (snewest (S.now f) (S.now (f + 1))).2.2.2 = E at *
  generalize (snewest (S.now f) (S.now (f + 1))).2.2.1 = D at *
  generalize (snewest (S.now f) (S.now (f + 1))).1 = K at *
  have hsh : (N : Int) / 4294967296 = ((N / 4294967296 : Nat) : Int) := by omega
  have hand : bits .and .i64 (N : Int) 4294967295 = ((N % 4294967296 : Nat) : Int) := i64_low32 N (by omega)
  have hM : N % 4294967296 < 4294967296 := Nat.mod_lt _ (by omega)
  have hQ : N / 4294967296 < 2147483648 := by omega
  generalize N / 4294967296 = Q at *
  generalize N % 4294967296 = M at *
  by_cases k0 : E ≠ 0
  · rw [if_pos (by omega)]
    have d0 : ((E : Int) == 0) = false := by rw [beq_eq_false_iff_ne]; omega
    go_enter Tryz.func112, Tryz.ntmps112
    go_wp2_with fail
    refine h1.mono ?_
    rintro e w1 ⟨v1, v2, rfl, ho1, ho2, hd, hk⟩
    obtain ⟨a1, c1, rfl, hs1, _⟩ := ho1
    obtain ⟨a2, c2, rfl, hs2, _⟩ := ho2
    have h2 := hP a1 _ c1 a2 _ c2 w1 hs1 hs2
    have HD := Hid.mk hd
    have HK := Hid.mk (HB.out.trans hk (fun _ h => .inl h))
    clear h1 hs1 hs2 hd hk hP
    go_wp2_with fail
    refine h2.mono ?_
    rintro e w2 ⟨v, rfl, ⟨a3, c3, rfl, _, _, _⟩, hb⟩
    have HD2 := Hid.mk (HD.out.keep (Keeps.of_below (fun _ => False) hb) (fun _ _ h => h))
    have HK2 := Hid.mk (HK.out.trans (Keeps.of_below (fun _ => False) hb) (fun _ h => h.elim))
    clear h2 hb
    go_wp2
    go_ret3
    exact ⟨rfl, HD2.out, HK2.out⟩
  · obtain rfl : E = 0 := by omega
    by_cases k1 : 0 < D.length
    · rw [if_pos (by omega)]
      go_enter Tryz.func112, Tryz.ntmps112
      go_wp2_with fail
      refine h1.mono ?_
      rintro e w1 ⟨v1, v2, rfl, ho1, ho2, hd, hk⟩
      obtain ⟨a1, c1, rfl, hs1, _⟩ := ho1
      obtain ⟨a2, c2, rfl, hs2, _⟩ := ho2
      have h2 := hP a1 _ c1 a2 _ c2 w1 hs1 hs2
      have HD := Hid.mk hd
      have HK := Hid.mk (HB.out.trans hk (fun _ h => .inl h))
      clear h1 hs1 hs2 hd hk hP
      go_wp2_with fail
      refine h2.mono ?_
      rintro e w2 ⟨v, rfl, ⟨a3, c3, rfl, _, _, _⟩, hb⟩
      have HD2 := Hid.mk (HD.out.keep (Keeps.of_below (fun _ => False) hb) (fun _ _ h => h))
      have HK2 := Hid.mk (HK.out.trans (Keeps.of_below (fun _ => False) hb) (fun _ h => h.elim))
      clear h2 hb
      go_wp2
      go_ret3
      exact ⟨rfl, HD2.out, HK2.out⟩
    · obtain rfl : D = [] := List.length_eq_zero_iff.mp (by omega)
      by_cases k2 : Q < 1
      · rw [if_pos (by omega)]
        obtain rfl : Q = 0 := by omega
        go_enter Tryz.func112, Tryz.ntmps112
        go_wp2_with fail
        refine h1.mono ?_
        rintro e w1 ⟨v1, v2, rfl, ho1, ho2, hd, hk⟩
        obtain ⟨a1, c1, rfl, hs1, _⟩ := ho1
        obtain ⟨a2, c2, rfl, hs2, _⟩ := ho2
        have h2 := hP a1 _ c1 a2 _ c2 w1 hs1 hs2
        have HD := Hid.mk hd
        have HK := Hid.mk (HB.out.trans hk (fun _ h => .inl h))
        clear h1 hs1 hs2 hd hk hP
        go_wp2_with fail
        refine h2.mono ?_
        rintro e w2 ⟨v, rfl, ⟨a3, c3, rfl, _, _, _⟩, hb⟩
        have HD2 := Hid.mk (HD.out.keep (Keeps.of_below (fun _ => False) hb) (fun _ _ h => h))
        have HK2 := Hid.mk (HK.out.trans (Keeps.of_below (fun _ => False) hb) (fun _ h => h.elim))
        clear h2 hb
        go_wp2
        go_ret3
        exact ⟨rfl, HD2.out, HK2.out⟩
      · skip
        by_cases k3 : 1073741824 < Q
        · rw [if_pos (by omega)]
          go_enter Tryz.func112, Tryz.ntmps112
          go_wp2_with fail
          refine h1.mono ?_
          rintro e w1 ⟨v1, v2, rfl, ho1, ho2, hd, hk⟩
          obtain ⟨a1, c1, rfl, hs1, _⟩ := ho1
          obtain ⟨a2, c2, rfl, hs2, _⟩ := ho2
          have h2 := hP a1 _ c1 a2 _ c2 w1 hs1 hs2
          have HD := Hid.mk hd
          have HK := Hid.mk (HB.out.trans hk (fun _ h => .inl h))
          clear h1 hs1 hs2 hd hk hP
          go_wp2_with fail
          refine h2.mono ?_
          rintro e w2 ⟨v, rfl, ⟨a3, c3, rfl, _, _, _⟩, hb⟩
          have HD2 := Hid.mk (HD.out.keep (Keeps.of_below (fun _ => False) hb) (fun _ _ h => h))
          have HK2 := Hid.mk (HK.out.trans (Keeps.of_below (fun _ => False) hb) (fun _ h => h.elim))
          clear h2 hb
          go_wp2
          go_ret3
          exact ⟨rfl, HD2.out, HK2.out⟩
        · skip
          by_cases k4 : 1073741824 < M
          · rw [if_pos (by omega)]
            go_enter Tryz.func112, Tryz.ntmps112
            go_wp2_with fail
            refine h1.mono ?_
            rintro e w1 ⟨v1, v2, rfl, ho1, ho2, hd, hk⟩
            obtain ⟨a1, c1, rfl, hs1, _⟩ := ho1
            obtain ⟨a2, c2, rfl, hs2, _⟩ := ho2
            have h2 := hP a1 _ c1 a2 _ c2 w1 hs1 hs2
            have HD := Hid.mk hd
            have HK := Hid.mk (HB.out.trans hk (fun _ h => .inl h))
            clear h1 hs1 hs2 hd hk hP
            go_wp2_with fail
            refine h2.mono ?_
            rintro e w2 ⟨v, rfl, ⟨a3, c3, rfl, _, _, _⟩, hb⟩
            have HD2 := Hid.mk (HD.out.keep (Keeps.of_below (fun _ => False) hb) (fun _ _ h => h))
            have HK2 := Hid.mk (HK.out.trans (Keeps.of_below (fun _ => False) hb) (fun _ h => h.elim))
            clear h2 hb
            go_wp2
            go_ret3
            exact ⟨rfl, HD2.out, HK2.out⟩
          · skip
            rw [if_neg (by simp; omega)]
            go_enter Tryz.func112, Tryz.ntmps112
            go_wp2_with fail
            refine h1.mono ?_
            rintro e w1 ⟨v1, v2, rfl, ho1, ho2, hd, hk⟩
            obtain ⟨a1, c1, rfl, hs1, _⟩ := ho1
            obtain ⟨a2, c2, rfl, hs2, _⟩ := ho2
            have h2 := hP a1 _ c1 a2 _ c2 w1 hs1 hs2
            have HD := Hid.mk hd
            have HK := Hid.mk (HB.out.trans hk (fun _ h => .inl h))
            clear h1 hs1 hs2 hd hk hP
            go_wp2_with fail
            refine h2.mono ?_
            rintro e w2 ⟨v, rfl, ⟨a3, c3, rfl, _, _, _⟩, hb⟩
            have HD2 := Hid.mk (HD.out.keep (Keeps.of_below (fun _ => False) hb) (fun _ _ h => h))
            have HK2 := Hid.mk (HK.out.trans (Keeps.of_below (fun _ => False) hb) (fun _ h => h.elim))
            clear h2 hb
            go_wp2
            go_ret3
            exact ⟨rfl, HD2.out, HK2.out⟩
end Go.Proofs.YtijgdmhglnanjaaGreat
end
