import Derived.Test.YtodleeipefnadacKP7
namespace Go.Proofs.Ytodleeipefnadac
open Go.RowKit

theorem i64_and255 (n : Int) : ∃ y : Nat, bits .and .i64 n 255 = (y : Int) ∧ y < 256 := by
  have eb : (BitVec.ofInt 64 (255 : Int)).toNat = 255 := by decide
  have h : bits .and .i64 n 255 = IntKind.i64.wrap ((BitVec.ofInt 64 n &&& BitVec.ofInt 64 (255 : Int)).toNat : Int) := rfl
  rw [BitVec.toNat_and, eb] at h
  have hle : (BitVec.ofInt 64 n).toNat &&& 255 ≤ 255 := Nat.and_le_right
  generalize (BitVec.ofInt 64 n).toNat &&& 255 = z at *
  refine ⟨z, ?_, by omega⟩
  rw [h, IntKind.wrap_i64]
  omega

set_option maxRecDepth 20000 in
set_option maxHeartbeats 8000000 in
theorem made_any (kd nb ov : Int) (a : Option Addr) (bn bc : Nat) (l : List Int) (w : World) (hs : Src w a bn l) (hbb : Bytes l) (hn : bn ≤ 140737488351232) (hlo : -9223372036854775808 ≤ nb) (hhi : nb ≤ 9223372036854775807) :
    Calls Try.prog 19 #[.agg #[.int .i64 kd, .int .i64 nb, .int .i64 ov, .slice a bn bc]] w fun e w' => ∃ v s, e = .returned v ∧ Own w' w.heap.size v s ∧ Bytes s ∧ s.length ≤ 140737488355328 ∧ Below w.heap.size w w' := by
  obtain ⟨W1, hW1⟩ : ∃ W1, W1 = w.alloc (.cells #[.int .i64 kd, .int .i64 nb, .int .i64 ov, .slice a bn bc] 46) := ⟨_, rfl⟩
  have hB1 : Below w.heap.size w W1 := by rw [hW1]; exact (Below.refl _ w).alloc (Nat.le_refl _) _
  have hq : W1.heap[w.heap.size]? = some (.cells #[.int .i64 kd, .int .i64 nb, .int .i64 ov, .slice a bn bc] 46 (0, 0)) := by rw [hW1]; exact heap_alloc_new _ _
  have hsz : w.heap.size + 1 = W1.heap.size := by rw [hW1]; simp
  have c0 : W1.cell? ⟨w.heap.size, 0, none⟩ = some (.int .i64 kd) := cell_of_block hq (j := 0) rfl
  have c1 : W1.cell? ⟨w.heap.size, 1, none⟩ = some (.int .i64 nb) := cell_of_block hq (j := 1) rfl
  have c2 : W1.cell? ⟨w.heap.size, 2, none⟩ = some (.int .i64 ov) := cell_of_block hq (j := 2) rfl
  have c3 : W1.cell? ⟨w.heap.size, 3, none⟩ = some (.slice a bn bc) := cell_of_block hq (j := 3) rfl
  have H1 := Hid.mk (hs.later hB1)
  have HB1 := Hid.mk hB1
  have C2 := Hid.mk c2
  have C3 := Hid.mk c3
  have HW1 : Hid (w.heap.size ≤ W1.heap.size ∧ w.heap.size < W1.heap.size) := ⟨by omega, by omega⟩
  have HW := Hid.mk hW1
  have hl := hs.1
  clear hB1 hq hs hsz hW1
  by_cases k0 : kd = 0
  · subst k0
    have t1 := ltwin_any a bn bc l W1 (by omega) H1.out
    go_enter Try.func19, Try.ntmps19
    go_wp2_with fail
    rw [← HW.out]
    refine t1.mono ?_
    rintro e w1 ⟨v1, rfl, ho1, hb1⟩
    have HH := Hid.mk (And.intro (Own.down ho1 HW1.out.1) (HB1.out.trans (hb1.mono HW1.out.1)))
    clear t1 ho1 hb1
    go_wp2
    go_ret
    exact ⟨_, l, rfl, HH.out.1, hbb, by omega, HH.out.2⟩
  · have k0' : (kd == 0) = false := by rw [beq_eq_false_iff_ne]; exact k0
    by_cases k23 : kd = 2 ∨ kd = 3
    · rcases k23 with rfl | rfl
      · go_enter Try.func19, Try.ntmps19
        go_wp2
        rw [← HW.out]
        go_loopw [3, 6] (fun v i wr => ∃ k X, k ≤ bn ∧ i = .int .i64 ((k : Nat) : Int) ∧ Own wr W1.heap.size v X ∧ Bytes X ∧ X.length ≤ 8 + k ∧ Below W1.heap.size W1 wr) (fun _ i _ => bn - (intOf i).toNat)
        case atStart => exact ⟨0, _, Nat.zero_le _, rfl, Own.nil _ _, Bytes.nil, by simp, Below.refl _ _⟩
        case round =>
          clear c0 c1 c2 c3
          obtain ⟨k, X, hk, rfl, hown, hX, hXl, hbr⟩ := hrel
          have Hown := Hid.mk hown
          have HB := Hid.mk hbr
          have hz := hbr.size
          have c2 := cell_later hbr C2.out
          have c3 := cell_later hbr C3.out
          clear hown hbr
          by_cases hlt : k < bn
          · have hlt' : (k : Int) < (bn : Int) := by omega
            obtain ⟨b, o, rfl⟩ := src_spot H1.out (by omega)
            have hc := H1.out.2.2 _ rfl k hlt
            rw [addr_add] at hc
            have hc := cell_later HB.out hc
            have hx := hbb.getD k
            generalize l.getD k 0 = x at *
            go_wp2_with (at_builtin; refine wpList_app1 rfl _ _ rfl W1.heap.size u3 X x rfl rfl Hown.out ?b1 ?b2 ?_)
            case b1 => omega
            case b2 => exact hz
            intro v' w' ho hb'
            have HO := Hid.mk ho
            have HB' := Hid.mk (HB.out.trans (hb'.mono (Nat.le_refl _)))
            have HX : Hid (Bytes (X ++ [x])) := hX.append (.cons hx .nil)
            clear ho hb' Hown HB
            go_wp2
            go_roundw
            case rel => exact ⟨k + 1, X ++ [x], by omega, by go_num, HO.out, HX.out, by simp; omega, HB'.out⟩
            case measure => simp [intOf]; omega
          · have hlt' : ¬ (k : Int) < (bn : Int) := by omega
            have k1 := lsector_any none 0 0 [] wr (by omega) ⟨rfl, fun _ => rfl, fun x hx => by cases hx⟩
            go_wp2_with fail
            refine k1.mono ?_
            rintro e w2 ⟨v2, rfl, ho2, hb2⟩
            obtain ⟨g, vc, rfl, hg, hr⟩ := ho2.full (by rw [sec_len]; omega)
            rw [sec_len]
            have d2 := cell_later hb2 c2
            have hsl := sec_len []
            have q0 := hr.get (i := 0) (by omega)
            have f0 := hr.frozen 0
            have hr1 := hr.setByte 0 (ov % 256)
            have hsl1 : ((sec []).set 0 (ov % 256)).length = 512 := by simpa using hsl
            have q1 := hr1.get (i := 511) (by omega)
            have f1 := hr1.frozen 511
            have hr2 := hr1.setByte 511 (ov % 256)
            have hb0 := setByte_bytes (setByte_bytes (sec_bytes (l := []) Bytes.nil) 0 (ov % 256) (by omega)) 511 (ov % 256) (by omega)
            have hsl2 : (((sec []).set 0 (ov % 256)).set 511 (ov % 256)).length = 512 := by simpa using hsl
            have d2' : (w2.setCell ⟨g, 0, none⟩ (.int .u8 (ov % 256))).cell? ⟨w.heap.size, 2, none⟩ = some (.int .i64 ov) := by
              rw [World.cell?_of_block (w := w2)]
              · exact d2
              · exact Below.heap_setCell _ _ _ _ (by have := HW1.out; simp; omega)
            have hK : Below wr.heap.size wr ((w2.setCell ⟨g, 0, none⟩ (.int .u8 (ov % 256))).setCell ⟨g, 511, none⟩ (.int .u8 (ov % 256))) :=
              hb2.trans (((Keeps.setCell (F := fun j => j = g) (p := ⟨g, 0, none⟩) w2 rfl _).trans (Keeps.setCell (F := fun j => j = g) (p := ⟨g, 511, none⟩) _ rfl _) (fun _ h => .inl h)).below (fun j hj => by omega) hb2.size)
            obtain ⟨vb, vbc, rfl, hsv, _, _⟩ := (Own.later Hown.out hK).src
            have hsO := hr2.src
            rw [hsl2] at hsO
            obtain ⟨w3, hw3⟩ : ∃ w3, w3 = (w2.setCell ⟨g, 0, none⟩ (.int .u8 (ov % 256))).setCell ⟨g, 511, none⟩ (.int .u8 (ov % 256)) := ⟨_, rfl⟩
            rw [← hw3] at hsv hsO hK
            have k2 := upTo_any vb X.length vbc 504 X w3 (by omega) hsv (by omega)
            have HW3 := Hid.mk hw3
            have HB3 := Hid.mk (HB.out.trans (hK.mono hz))
            have HsO := Hid.mk hsO
            clear k1 ho2 hb2 hr hr1 hr2 hsv hsO hK hw3 Hown HB
            generalize hXL : X.length = XL at *
            generalize (sec []).getD 0 0 = y0 at *
            generalize ((sec []).set 0 (ov % 256)).getD 511 0 = y1 at *
            generalize hOV : ((sec []).set 0 (ov % 256)).set 511 (ov % 256) = OV at *
            clear hOV
            go_wp2_with fail
            rw [← HW3.out]
            refine k2.mono ?_
            rintro e w4 ⟨v4, rfl, ho4, hb4⟩
            obtain ⟨p4, c4, rfl, hs4, _, _⟩ := ho4.src
            have htl : (X.take 504).length ≤ 504 := by rw [List.length_take]; omega
            have k3 := rseal_any (some ⟨g, 0, none⟩) 512 vc OV p4 (X.take 504).length c4 (X.take 504) w4 (HsO.out.later hb4) hs4 (hX.take _) hb0
            rw [sseal_ok hsl2 htl] at k3
            dsimp only at k3
            have hfl : (sform (turnOf (OV.getD 0 0) (OV.getD 511 0)) (X.take 504)).length = 512 := sform_len htl
            have hle := turnOf_le (OV.getD 0 0) (OV.getD 511 0)
            have hfb : Bytes (sform (turnOf (OV.getD 0 0) (OV.getD 511 0)) (X.take 504)) := sform_bytes (hX.take _) htl (by omega)
            generalize sform (turnOf (OV.getD 0 0) (OV.getD 511 0)) (X.take 504) = R at *
            have HB4 := Hid.mk (HB3.out.trans (hb4.mono HB3.out.size))
            clear k2 ho4 hb4 hs4 HB3 HsO hle
            generalize (X.take 504).length = TL at *
            go_wp2_with fail
            refine k3.mono ?_
            rintro e w5 ⟨v5, rfl, ho5, hb5⟩
            have HB5 := Hid.mk (HB4.out.trans (hb5.mono HB4.out.size))
            have HO5 := Hid.mk (Own.down (Own.down ho5 HB4.out.size) HW1.out.1)
            clear k3 hb5 ho5
            go_wp2
            go_ret
            exact ⟨_, R, rfl, HO5.out, hfb, by omega, HB1.out.trans (HB5.out.mono HW1.out.1)⟩
      · go_enter Try.func19, Try.ntmps19
        go_wp2
        rw [← HW.out]
        go_loopw [3, 4, 5] (fun v x i wr => ∃ k X n', k ≤ 8 ∧ i = .int .i64 ((k : Nat) : Int) ∧ x = .int .i64 n' ∧ -9223372036854775808 ≤ n' ∧ n' ≤ 9223372036854775807 ∧ Own wr W1.heap.size v X ∧ Bytes X ∧ X.length = k ∧ Below W1.heap.size W1 wr) (fun _ _ i _ => 8 - (intOf i).toNat)
        case atStart => exact ⟨0, _, nb, Nat.zero_le _, rfl, rfl, hlo, hhi, Own.nil _ _, Bytes.nil, rfl, Below.refl _ _⟩
        case round =>
          clear c0 c1 c2 c3
          obtain ⟨k, X, n', hk, rfl, rfl, hl', hh', hown, hX, hXl, hbr⟩ := hrel
          have Hown := Hid.mk hown
          have HB := Hid.mk hbr
          have hz := hbr.size
          have c2 := cell_later hbr C2.out
          have c3 := cell_later hbr C3.out
          clear hown hbr
          by_cases hlt : k < 8
          · have hlt' : (k : Int) < 8 := by omega
            obtain ⟨y, hy, hy2⟩ := i64_and255 n'
            go_wp2_with (at_builtin; refine wpList_app1 rfl _ _ rfl W1.heap.size u3 X (y : Int) rfl rfl Hown.out ?b1 ?b2 ?_)
            case b1 => omega
            case b2 => exact hz
            intro v' w' ho hb'
            have HO := Hid.mk ho
            have HB' := Hid.mk (HB.out.trans (hb'.mono (Nat.le_refl _)))
            have HX : Hid (Bytes (X ++ [(y : Int)])) := hX.append (.cons (by omega) .nil)
            clear ho hb' Hown HB
            go_wp2
            go_roundw
            case rel => exact ⟨k + 1, X ++ [(y : Int)], n' / 256, by omega, by go_num, rfl, by omega, by omega, HO.out, HX.out, by simp; omega, HB'.out⟩
            case measure => simp [intOf]; omega
          · have hlt' : ¬ (k : Int) < 8 := by omega
            go_wp2
            go_loopw [3, 6] (fun v i wr => ∃ k X, k ≤ bn ∧ i = .int .i64 ((k : Nat) : Int) ∧ Own wr W1.heap.size v X ∧ Bytes X ∧ X.length ≤ 8 + k ∧ Below W1.heap.size W1 wr) (fun _ i _ => bn - (intOf i).toNat)
            case atStart => exact ⟨0, _, Nat.zero_le _, rfl, Hown.out, hX, by omega, HB.out⟩
            case round =>
              clear Hown HB hz c2 c3 hX hXl hlt hlt' hl' hh' hk
              obtain ⟨k, X, hk, rfl, hown, hX, hXl, hbr⟩ := hrel
              have Hown := Hid.mk hown
              have HB := Hid.mk hbr
              have hz := hbr.size
              have c2 := cell_later hbr C2.out
              have c3 := cell_later hbr C3.out
              clear hown hbr
              by_cases hlt : k < bn
              · have hlt' : (k : Int) < (bn : Int) := by omega
                obtain ⟨b, o, rfl⟩ := src_spot H1.out (by omega)
                have hc := H1.out.2.2 _ rfl k hlt
                rw [addr_add] at hc
                have hc := cell_later HB.out hc
                have hx := hbb.getD k
                generalize l.getD k 0 = x at *
                go_wp2_with (at_builtin; refine wpList_app1 rfl _ _ rfl W1.heap.size u3 X x rfl rfl Hown.out ?b1 ?b2 ?_)
                case b1 => omega
                case b2 => exact hz
                intro v' w' ho hb'
                have HO := Hid.mk ho
                have HB' := Hid.mk (HB.out.trans (hb'.mono (Nat.le_refl _)))
                have HX : Hid (Bytes (X ++ [x])) := hX.append (.cons hx .nil)
                clear ho hb' Hown HB
                go_wp2
                go_roundw
                case rel => exact ⟨k + 1, X ++ [x], by omega, by go_num, HO.out, HX.out, by simp; omega, HB'.out⟩
                case measure => simp [intOf]; omega
              · have hlt' : ¬ (k : Int) < (bn : Int) := by omega
                have k1 := lsector_any none 0 0 [] wr (by omega) ⟨rfl, fun _ => rfl, fun x hx => by cases hx⟩
                go_wp2_with fail
                refine k1.mono ?_
                rintro e w2 ⟨v2, rfl, ho2, hb2⟩
                obtain ⟨g, vc, rfl, hg, hr⟩ := ho2.full (by rw [sec_len]; omega)
                rw [sec_len]
                have d2 := cell_later hb2 c2
                have hsl := sec_len []
                have q0 := hr.get (i := 0) (by omega)
                have f0 := hr.frozen 0
                have hr1 := hr.setByte 0 (ov % 256)
                have hsl1 : ((sec []).set 0 (ov % 256)).length = 512 := by simpa using hsl
                have q1 := hr1.get (i := 511) (by omega)
                have f1 := hr1.frozen 511
                have hr2 := hr1.setByte 511 (ov % 256)
                have hb0 := setByte_bytes (setByte_bytes (sec_bytes (l := []) Bytes.nil) 0 (ov % 256) (by omega)) 511 (ov % 256) (by omega)
                have hsl2 : (((sec []).set 0 (ov % 256)).set 511 (ov % 256)).length = 512 := by simpa using hsl
                have d2' : (w2.setCell ⟨g, 0, none⟩ (.int .u8 (ov % 256))).cell? ⟨w.heap.size, 2, none⟩ = some (.int .i64 ov) := by
                  rw [World.cell?_of_block (w := w2)]
                  · exact d2
                  · exact Below.heap_setCell _ _ _ _ (by have := HW1.out; simp; omega)
                have hK : Below wr.heap.size wr ((w2.setCell ⟨g, 0, none⟩ (.int .u8 (ov % 256))).setCell ⟨g, 511, none⟩ (.int .u8 (ov % 256))) :=
                  hb2.trans (((Keeps.setCell (F := fun j => j = g) (p := ⟨g, 0, none⟩) w2 rfl _).trans (Keeps.setCell (F := fun j => j = g) (p := ⟨g, 511, none⟩) _ rfl _) (fun _ h => .inl h)).below (fun j hj => by omega) hb2.size)
                obtain ⟨vb, vbc, rfl, hsv, _, _⟩ := (Own.later Hown.out hK).src
                have hsO := hr2.src
                rw [hsl2] at hsO
                obtain ⟨w3, hw3⟩ : ∃ w3, w3 = (w2.setCell ⟨g, 0, none⟩ (.int .u8 (ov % 256))).setCell ⟨g, 511, none⟩ (.int .u8 (ov % 256)) := ⟨_, rfl⟩
                rw [← hw3] at hsv hsO hK
                have k2 := upTo_any vb X.length vbc 504 X w3 (by omega) hsv (by omega)
                have HW3 := Hid.mk hw3
                have HB3 := Hid.mk (HB.out.trans (hK.mono hz))
                have HsO := Hid.mk hsO
                clear k1 ho2 hb2 hr hr1 hr2 hsv hsO hK hw3 Hown HB
                generalize hXL : X.length = XL at *
                generalize (sec []).getD 0 0 = y0 at *
                generalize ((sec []).set 0 (ov % 256)).getD 511 0 = y1 at *
                generalize hOV : ((sec []).set 0 (ov % 256)).set 511 (ov % 256) = OV at *
                clear hOV
                go_wp2_with fail
                rw [← HW3.out]
                refine k2.mono ?_
                rintro e w4 ⟨v4, rfl, ho4, hb4⟩
                obtain ⟨p4, c4, rfl, hs4, _, _⟩ := ho4.src
                have htl : (X.take 504).length ≤ 504 := by rw [List.length_take]; omega
                have k3 := rseal_any (some ⟨g, 0, none⟩) 512 vc OV p4 (X.take 504).length c4 (X.take 504) w4 (HsO.out.later hb4) hs4 (hX.take _) hb0
                rw [sseal_ok hsl2 htl] at k3
                dsimp only at k3
                have hfl : (sform (turnOf (OV.getD 0 0) (OV.getD 511 0)) (X.take 504)).length = 512 := sform_len htl
                have hle := turnOf_le (OV.getD 0 0) (OV.getD 511 0)
                have hfb : Bytes (sform (turnOf (OV.getD 0 0) (OV.getD 511 0)) (X.take 504)) := sform_bytes (hX.take _) htl (by omega)
                generalize sform (turnOf (OV.getD 0 0) (OV.getD 511 0)) (X.take 504) = R at *
                have HB4 := Hid.mk (HB3.out.trans (hb4.mono HB3.out.size))
                clear k2 ho4 hb4 hs4 HB3 HsO hle
                generalize (X.take 504).length = TL at *
                go_wp2_with fail
                refine k3.mono ?_
                rintro e w5 ⟨v5, rfl, ho5, hb5⟩
                have HB5 := Hid.mk (HB4.out.trans (hb5.mono HB4.out.size))
                have HO5 := Hid.mk (Own.down (Own.down ho5 HB4.out.size) HW1.out.1)
                clear k3 hb5 ho5
                go_wp2
                go_ret
                exact ⟨_, R, rfl, HO5.out, hfb, by omega, HB1.out.trans (HB5.out.mono HW1.out.1)⟩
    · have k2' : (kd != 2) = true := by rw [bne_iff_ne]; omega
      have k3' : (kd != 3) = true := by rw [bne_iff_ne]; omega
      have t1 := lsector_any a bn bc l W1 (by omega) H1.out
      clear k0 k23
      go_enter Try.func19, Try.ntmps19
      go_wp2_with fail
      rw [← HW.out]
      refine t1.mono ?_
      rintro e w1 ⟨v1, rfl, ho1, hb1⟩
      have HH := Hid.mk (And.intro (Own.down ho1 HW1.out.1) (HB1.out.trans (hb1.mono HW1.out.1)))
      clear t1 ho1 hb1
      go_wp2
      go_ret
      exact ⟨_, sec l, rfl, HH.out.1, sec_bytes hbb, by rw [sec_len]; omega, HH.out.2⟩
end Go.Proofs.Ytodleeipefnadac
