import Derived.Test.YtodleeipefnadacKS12
namespace Go.Proofs.Ytodleeipefnadac
open Go.RowKit

theorem append_assoc3 (a b : List Int) (x : Int) : a ++ b ++ [x] = a ++ (b ++ [x]) := List.append_assoc _ _ _
theorem zs_snoc (k : Nat) : zs k ++ [0] = zs (k + 1) := by rw [zs_add]; rfl
theorem getD_app {a b : List Int} {i : Nat} (h : a.length ≤ i) : (a ++ b).getD i 0 = b.getD (i - a.length) 0 := by
  simp only [List.getD, List.getElem?_append_right h]

set_option maxRecDepth 20000 in
set_option maxHeartbeats 8000000 in
theorem rform_any (t : Nat) (a : Option Addr) (n c : Nat) (body : List Int) (w : World) (ht : t < 256) (hs : Src w a n body) (hn : n ≤ 504) (hb : Bytes body) :
    Calls Try.prog 51 #[.int .i64 (t : Int), .slice a n c] w fun e w' => ∃ v, e = .returned v ∧ Own w' w.heap.size v (sform t body) ∧ Below w.heap.size w w' := by
  have H := Hid.mk hs
  have hlb := hs.1
  have q1 : ((n : Int)).tmod 256 = ((n % 256 : Nat) : Int) := by rw [Int.tmod_eq_emod_of_nonneg (by omega)]; omega
  have q2 : ((n : Int)).tdiv 256 = ((n / 256 : Nat) : Int) := by rw [Int.tdiv_eq_ediv_of_nonneg (by omega)]; omega
  clear hs
  go_enter Try.func51, Try.ntmps51
  go_wp2_with (at_builtin; refine wpList_app1 rfl _ _ rfl w.heap.size _ [] _ rfl rfl (Own.nil w _) ?b1 ?b2 ?_)
  case b1 => simp
  case b2 => exact Nat.le_refl _
  intro v1 w1 ho1 hb1
  have hz1 := hb1.size
  have Ho1 := Hid.mk ho1
  have HB1 := Hid.mk hb1
  clear ho1 hb1
  go_wp2_with (at_builtin; refine wpList_app1 rfl _ _ rfl w.heap.size v1 _ _ rfl rfl Ho1.out ?b1 ?b2 ?_)
  case b1 => simp
  case b2 => exact hz1
  intro v2 w2 ho2 hb2
  have hB2 := HB1.out.trans (hb2.mono (Nat.le_refl _))
  have ho2' : Own w2 w.heap.size v2 ([((n % 256 : Nat) : Int), ((n / 256 : Nat) : Int)] ++ body.take 0) := ho2
  have Ho2 := Hid.mk ho2'
  have HB2 := Hid.mk hB2
  obtain ⟨hd, hhd⟩ : ∃ hd, hd = [((n % 256 : Nat) : Int), ((n / 256 : Nat) : Int)] := ⟨_, rfl⟩
  have hdl : hd.length = 2 := by rw [hhd]; rfl
  rw [← hhd] at Ho2
  have Hhd := Hid.mk hhd
  clear ho2 ho2' hb2 hB2 hhd Ho1 HB1 hz1 q1 q2
  go_wp2
  go_loopw [5, 6] (fun v i wr => ∃ k : Nat, k ≤ n ∧ i = .int .i64 k ∧ Own wr w.heap.size v (hd ++ body.take k) ∧ Below w.heap.size w wr) (fun _ i _ => n - (intOf i).toNat)
  case atStart => exact ⟨0, Nat.zero_le _, rfl, Ho2.out, HB2.out⟩
  case round =>
    clear Ho2 HB2
    obtain ⟨k, hk, rfl, hown, hbr⟩ := hrel
    have Hown := Hid.mk hown
    have HB := Hid.mk hbr
    have hz := hbr.size
    clear hown hbr
    by_cases hlt : k < n
    · have hlt' : (k : Int) < (n : Int) := by omega
      obtain ⟨x0, rfl⟩ : ∃ x, a = some x := by
        cases a with
        | none => have := H.out.2.1 rfl; omega
        | some x => exact ⟨x, rfl⟩
      obtain ⟨b, o, rfl, hcell⟩ := H.out.spot (by omega)
      have hc := cell_later HB.out (hcell k hlt)
      have eN := take_snoc body k (by omega)
      have HeN := Hid.mk eN
      clear hcell eN
      generalize body.getD k 0 = x at *
      go_wp2_with (at_builtin; refine wpList_app1 rfl _ _ rfl w.heap.size u5 _ x rfl rfl Hown.out ?b1 ?b2 ?_)
      case b1 => simp; omega
      case b2 => exact hz
      intro v' w' ho hb'
      have HO : Hid (Own w' w.heap.size v' (hd ++ body.take (k + 1))) := by rw [← HeN.out]; exact ho
      have HB' := Hid.mk (HB.out.trans (hb'.mono (Nat.le_refl _)))
      clear ho hb' Hown HB HeN
      go_wp2
      go_roundw
      case rel => exact ⟨k + 1, by omega, by go_num, HO.out, HB'.out⟩
      case measure => simp [intOf]; omega
    · have hlt' : ¬ (k : Int) < (n : Int) := by omega
      have e : body.take k = body := List.take_of_length_le (by omega)
      rw [e] at Hown
      clear e
      have Hown2 : Hid (Own wr w.heap.size u5 (hd ++ body ++ zs 0)) := by show Own wr w.heap.size u5 (hd ++ body ++ []); rw [List.append_nil]; exact Hown.out
      obtain ⟨T, hT⟩ : ∃ T, T = hd ++ body := ⟨_, rfl⟩
      have hTl : T.length = 2 + n := by rw [hT]; simp; omega
      rw [← hT] at Hown2
      have HT := Hid.mk hT
      clear hT Hown
      go_wp2
      go_loopw [5] (fun v wr => ∃ k : Nat, k ≤ 504 - n ∧ Own wr w.heap.size v (T ++ zs k) ∧ Below w.heap.size w wr) (fun v _ => 506 - lenV v)
      case atStart => exact ⟨0, Nat.zero_le _, Hown2.out, HB.out⟩
      case round =>
        clear Hown2 HB hz
        obtain ⟨j, hj, hown, hbr⟩ := hrel
        obtain ⟨at', ct', rfl, _, _, _⟩ := hown.src
        have hlen : (T ++ zs j).length = 2 + n + j := by rw [List.length_append, zs_len, hTl]
        rw [hlen] at hown
        have Hown := Hid.mk hown
        have HB := Hid.mk hbr
        have hz := hbr.size
        clear hown hbr
        rw [hlen]
        by_cases hlj : j < 504 - n
        · have hlj' : ((2 + n + j : Nat) : Int) < 506 := by omega
          obtain ⟨N, hN⟩ : ∃ N, N = 2 + n + j := ⟨_, rfl⟩
          rw [← hN] at hlj' hlen Hown ⊢
          have HN := Hid.mk hN
          clear hN
          go_wp2_with (at_builtin; refine wpList_app1 rfl _ _ rfl w.heap.size (.slice at' N ct') _ 0 rfl rfl Hown.out ?b1 ?b2 ?_)
          case b1 => omega
          case b2 => exact hz
          intro v' w' ho hb'
          have HO : Hid (Own w' w.heap.size v' (T ++ zs (j + 1))) := by rw [← zs_snoc, ← append_assoc3]; first | exact ho | (rw [List.append_assoc]; exact ho)
          have HB' := Hid.mk (HB.out.trans (hb'.mono (Nat.le_refl _)))
          clear ho hb' Hown HB
          go_wp2
          go_roundw
          case rel => exact ⟨j + 1, by omega, HO.out, HB'.out⟩
          case measure =>
            obtain ⟨a1, c1, rfl, _, _, _⟩ := HO.out.src
            have : (T ++ zs (j + 1)).length = 2 + n + (j + 1) := by rw [List.length_append, zs_len, hTl]
            have hN := HN.out
            simp only [lenV, this]
            omega
        · obtain rfl : j = 504 - n := by omega
          have e6 : 2 + n + (504 - n) = 506 := by omega
          rw [e6] at Hown hlen ⊢
          have eT : T ++ zs (504 - n) = stext body := by
            rw [HT.out, Hhd.out, ← hlb]
            simp [stext, zs]
          rw [eT] at Hown hlen
          have htb : Bytes (stext body) := stext_bytes hb (by omega)
          have hEl := sumOf_lt htb
          obtain ⟨E, hE⟩ : ∃ E, E = sumOf (stext body) := ⟨_, rfl⟩
          obtain ⟨X, hX⟩ : ∃ X, X = stext body := ⟨_, rfl⟩
          have hdrop : X.drop 2 = body ++ zs (504 - n) := by rw [hX, ← hlb]; simp [stext, zs]
          have hx0 : X.getD 0 0 = ((n % 256 : Nat) : Int) := by rw [hX, ← hlb]; rfl
          have hx1 : X.getD 1 0 = ((n / 256 : Nat) : Int) := by rw [hX, ← hlb]; rfl
          have hfin : sform t body = [(t : Int), X.getD 0 0, X.getD 1 0] ++ leb 4 E ++ X.drop 2 ++ [(t : Int)] := by
            rw [hdrop, hx0, hx1, hE, leb4, ← hlb]
            simp [sform, zs]
          rw [← hX] at Hown hlen htb
          rw [← hE] at hEl
          have Hfin := Hid.mk hfin
          have hsumE : E = sumOf X := by rw [hE, hX]
          clear hfin hdrop hx0 hx1 hE hX eT e6 HT Hhd
          have hown6 := Hown.out
          rw [← hlen] at hown6
          obtain ⟨g, ct, hge, hgB, hrow⟩ := Own.row' (l := X) hown6 (by omega)
          have hae : at' = some ⟨g, 0, none⟩ := by cases hge; rfl
          have hce : ct' = ct := by cases hge; rfl
          subst hae
          subst hce
          have hq := qsum_any (some ⟨g, 0, none⟩) 506 ct' X wr htb (by omega) (by have := hrow.src; rw [hlen] at this; exact this)
          rw [← hsumE] at hq
          have Hrow := Hid.mk hrow
          clear hown6 hge hrow Hown hsumE htb hlj
          go_wp2_with fail
          refine hq.mono ?_
          rintro e w3 ⟨rfl, hb3⟩
          have hrow3 := Hrow.out.agree (hb3.block g Hrow.out.lt)
          have hB3 : Below w.heap.size w w3 := HB.out.trans (hb3.mono HB.out.size)
          have hz3 := hB3.size
          have c0 := hrow3.get (i := 0) (by omega)
          have c1 := hrow3.get (i := 1) (by omega)
          have Hrow3 := Hid.mk hrow3
          have HB3 := Hid.mk hB3
          have hz' := hz
          clear hq hb3 hrow3 hB3 Hrow HB hz
          obtain ⟨x0, hx0⟩ : ∃ x0, x0 = X.getD 0 0 := ⟨_, rfl⟩
          obtain ⟨x1, hx1⟩ : ∃ x1, x1 = X.getD 1 0 := ⟨_, rfl⟩
          rw [← hx0] at c0
          rw [← hx1] at c1
          rw [← hx0, ← hx1] at Hfin
          clear hx0 hx1
          have hgl := Hrow3.out.lt
          have hz3r := Nat.le_refl w3.heap.size
          go_wp2_with (at_builtin; refine wpList_app1 rfl _ _ rfl w3.heap.size (.slice none 0 0) [] (t : Int) rfl rfl (Own.nil w3 _) ?b1 ?b2 ?_)
          case b1 => simp
          case b2 => exact hz3r
          intro v4 w4 ho4 hb4
          have Ho4 := Hid.mk ho4
          have HB4 := Hid.mk hb4
          have hz4 := hb4.size
          have d0 : w4.cell? ⟨g, 0, none⟩ = some (.int .u8 x0) := cell_later hb4 c0
          have d1 : w4.cell? ⟨g, 1, none⟩ = some (.int .u8 x1) := cell_later hb4 c1
          clear ho4 hb4 c0 c1
          go_wp2_with (at_builtin; refine wpList_app1 rfl _ _ rfl w3.heap.size v4 _ x0 rfl rfl Ho4.out ?b1 ?b2 ?_)
          case b1 => simp
          case b2 => exact hz4
          intro v5 w5 ho5 hb5
          have Ho5 := Hid.mk ho5
          have HB5 := Hid.mk (HB4.out.trans (hb5.mono (Nat.le_refl _)))
          have hz5 := HB5.out.size
          have d1' : w5.cell? ⟨g, 1, none⟩ = some (.int .u8 x1) := (World.cell?_of_block (hb5.block g hgl)).trans d1
          clear ho5 hb5 d0 d1 Ho4 HB4 hz4
          go_wp2_with (at_builtin; refine wpList_app1 rfl _ _ rfl w3.heap.size v5 _ x1 rfl rfl Ho5.out ?b1 ?b2 ?_)
          case b1 => simp
          case b2 => exact hz5
          intro v6 w6 ho6 hb6
          have Ho6 : Hid (Own w6 w3.heap.size v6 ([(t : Int), x0, x1] ++ leb 0 E)) := ho6
          have HB6 := Hid.mk (HB5.out.trans (hb6.mono (Nat.le_refl _)))
          clear ho6 hb6 d1' Ho5 HB5 hz5
          obtain ⟨P, hP⟩ : ∃ P, P = [(t : Int), x0, x1] := ⟨_, rfl⟩
          have hPl : P.length = 3 := by rw [hP]; rfl
          rw [← hP] at Ho6 Hfin
          clear hP
          go_wp2
          go_loopw [7, 8, 9] (fun s v i wx => ∃ m : Nat, m ≤ 4 ∧ i = .int .i64 m ∧ s = .int .i64 ((E / 256 ^ m : Nat) : Int) ∧ Own wx w3.heap.size v (P ++ leb m E) ∧ Below w3.heap.size w3 wx) (fun _ _ i _ => 4 - (intOf i).toNat)
          case atStart => exact ⟨0, Nat.zero_le _, rfl, by simp, Ho6.out, HB6.out⟩
          case round =>
            clear Ho6 HB6
            obtain ⟨m, hm, rfl, rfl, hown, hbx⟩ := hrel
            have Hown := Hid.mk hown
            have HB := Hid.mk hbx
            have hz := hbx.size
            clear hown hbx
            by_cases hlm : m < 4
            · have hlm' : (m : Int) < 4 := by omega
              have e1 : E / 256 ^ (m + 1) = E / 256 ^ m / 256 := by rw [Nat.div_div_eq_div_mul, Nat.pow_succ]
              have e2 := leb_snoc m E
              rw [show (2 : Nat) ^ (8 * m) = 256 ^ m by rw [Nat.pow_mul]] at e2
              have hQ : E / 256 ^ m < 4294967296 := Nat.lt_of_le_of_lt (Nat.div_le_self _ _) hEl
              generalize E / 256 ^ m = Q at *
              have q1 : ((Q : Int)).tmod 256 = ((Q % 256 : Nat) : Int) := by rw [Int.tmod_eq_emod_of_nonneg (by omega)]; omega
              have q2 : ((Q : Int)).tdiv 256 = ((Q / 256 : Nat) : Int) := by rw [Int.tdiv_eq_ediv_of_nonneg (by omega)]; omega
              have He1 := Hid.mk e1
              have He2 := Hid.mk e2
              have hll : (P ++ leb m E).length = 3 + m := by rw [List.length_append, hPl, leb_len]
              clear e1 e2
              go_wp2_with (at_builtin; refine wpList_app1 rfl _ _ rfl w3.heap.size u8 _ _ rfl rfl Hown.out ?b1 ?b2 ?_)
              case b1 => omega
              case b2 => exact hz
              intro v' w' ho hb'
              have HO : Hid (Own w' w3.heap.size v' (P ++ leb (m + 1) E)) := by rw [He2.out]; first | exact ho | (rw [← List.append_assoc]; exact ho)
              have HB' := Hid.mk (HB.out.trans (hb'.mono (Nat.le_refl _)))
              clear ho hb' Hown HB He2
              go_wp2
              go_roundw
              case rel => exact ⟨m + 1, by omega, by go_num, by rw [He1.out]; simp, HO.out, HB'.out⟩
              case measure => simp [intOf]; omega
            · have hlm' : ¬ (m : Int) < 4 := by omega
              obtain rfl : m = 4 := by omega
              obtain ⟨R, hR⟩ : ∃ R, R = P ++ leb 4 E := ⟨_, rfl⟩
              have hRl : R.length = 7 := by rw [hR, List.length_append, hPl, leb_len]
              rw [← hR] at Hown Hfin
              have Hown2 : Hid (Own wr w3.heap.size u8 (R ++ (X.drop 2).take 0)) := by show Own wr w3.heap.size u8 (R ++ []); rw [List.append_nil]; exact Hown.out
              clear hR Hown hm
              go_wp2
              go_loopw [8, 10] (fun v i wx => ∃ m : Nat, m ≤ 504 ∧ i = .int .i64 ((m + 2 : Nat) : Int) ∧ Own wx w3.heap.size v (R ++ (X.drop 2).take m) ∧ Below w3.heap.size w3 wx) (fun _ i _ => 506 - (intOf i).toNat)
              case atStart => exact ⟨0, Nat.zero_le _, rfl, Hown2.out, HB.out⟩
              case round =>
                clear Hown2 HB hz
                obtain ⟨m, hm, rfl, hown, hbx⟩ := hrel
                have Hown := Hid.mk hown
                have HB := Hid.mk hbx
                have hz := hbx.size
                clear hown hbx
                have hdl2 : (X.drop 2).length = 504 := by simp; omega
                have hll : (R ++ (X.drop 2).take m).length = 7 + m := by rw [List.length_append, hRl, List.length_take]; omega
                by_cases hlm : m < 504
                · have hlm' : ((m + 2 : Nat) : Int) < 506 := by omega
                  have hcx : wr.cell? ⟨g, m + 2, none⟩ = some (.int .u8 (X.getD (m + 2) 0)) := cell_later HB.out (Hrow3.out.get (i := m + 2) (by omega))
                  have eN := take_snoc (X.drop 2) m (by omega)
                  have eX : (X.drop 2).getD m 0 = X.getD (m + 2) 0 := by simp [List.getD, Nat.add_comm]
                  rw [eX] at eN
                  have HeN := Hid.mk eN
                  clear eN eX
                  generalize X.getD (m + 2) 0 = x at *
                  generalize hM : m + 2 = M at *
                  have HM := Hid.mk hM
                  clear hM
                  go_wp2_with (at_builtin; refine wpList_app1 rfl _ _ rfl w3.heap.size u8 _ x rfl rfl Hown.out ?b1 ?b2 ?_)
                  case b1 => omega
                  case b2 => exact hz
                  intro v' w' ho hb'
                  have HO : Hid (Own w' w3.heap.size v' (R ++ (X.drop 2).take (m + 1))) := by rw [← HeN.out]; first | exact ho | (rw [← List.append_assoc]; exact ho)
                  have HB' := Hid.mk (HB.out.trans (hb'.mono (Nat.le_refl _)))
                  clear ho hb' Hown HB HeN
                  go_wp2
                  go_roundw
                  case rel => exact ⟨m + 1, by omega, by have := HM.out; subst this; go_num, HO.out, HB'.out⟩
                  case measure => have := HM.out; simp [intOf]; omega
                · obtain rfl : m = 504 := by omega
                  have e5 : (X.drop 2).take 504 = X.drop 2 := List.take_of_length_le (by omega)
                  rw [e5] at Hown hll
                  obtain ⟨Y, hY⟩ : ∃ Y, Y = R ++ X.drop 2 := ⟨_, rfl⟩
                  rw [← hY] at Hown hll Hfin
                  clear hY e5
                  go_wp2_with (at_builtin; refine wpList_app1 rfl _ _ rfl w3.heap.size u8 _ (t : Int) rfl rfl Hown.out ?b1 ?b2 ?_)
                  case b1 => omega
                  case b2 => exact hz
                  intro v' w' ho hb'
                  have HO : Hid (Own w' w.heap.size v' (sform t body)) := by rw [Hfin.out]; exact Own.down ho hz3
                  have HB' : Hid (Below w.heap.size w w') := HB3.out.trans ((HB.out.trans (hb'.mono (Nat.le_refl _))).mono hz3)
                  clear ho hb' Hown HB
                  go_wp2
                  go_ret
                  exact ⟨_, rfl, HO.out, HB'.out⟩
end Go.Proofs.Ytodleeipefnadac
