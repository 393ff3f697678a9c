import Derived.Test.YtpihehpmejicaaaPA9
namespace Go.Proofs.Ytpihehpmejicaaa
open Go.RowKit Go.Maps

set_option maxRecDepth 20000 in
set_option maxHeartbeats 8000000 in
theorem tame_any (s : ByteArray) (w : World) :
    Calls Try.prog 9 #[.string s] w fun e w' => e = .returned (.string ⟨(tameL s.data.toList).toArray⟩) ∧ Below w.heap.size w w' := by
  have hl := len_size s
  have hcv := Lib.run_convert_string_bytes (P := Try.prog) w 9 40 5 s Try.underlying9 Try.underlying40 Try.underlying5
  have hge := grownCap_ge w s.size 0 5
  have HNew := Hid.mk (fun m hm => BAt.new w s m hm)
  generalize hC : grownCap w s.size 0 5 = C at *
  generalize hw3 : Lib.bytesWorld w 5 s = w3 at *
  clear hC hw3
  go_enter Try.func9, Try.ntmps9
  by_cases hgt : 54 < s.size
  · have hgt' : 54 < (s.size : Int) := by omega
    have hC54 : (54 : Int) ≤ (C : Int) := by omega
    have HN := Hid.mk (HNew.out 54 (by omega))
    clear HNew
    go_wp2
    clear hcv
    go_loopw [4] (fun i wr => ∃ j : Nat, j ≤ 54 ∧ i = .int .i64 j ∧ BAt w wr w.heap.size 54 (fxTo j (s.data.toList.take 54))) (fun i _ => 54 - (intOf i).toNat)
    case atStart => exact ⟨0, Nat.zero_le _, rfl, by rw [fxTo_zero]; exact HN.out⟩
    case round =>
      clear HN
      obtain ⟨j, hj, rfl, hN⟩ := hrel
      have hw64 : 54 ≤ 54 → wrap64 ((j : Int) + 1) = ((j + 1 : Nat) : Int) := fun _ => by
        rw [IntWalk.wrap64_in _ (by omega)]
        rfl
      replace hw64 := hw64 (by omega)
      by_cases hlt : j < 54
      · have hlt' : (j : Int) < (54 : Int) := by omega
        have hjl : j < (s.data.toList.take 54).length := by rw [List.length_take]; omega
        have cj := hN.cell j hlt
        have fj := hN.open_ j hlt
        rw [fxTo_at hjl] at cj
        have HNj := Hid.mk hN
        have Hset := Hid.mk (fun hf => fxTo_set (l := s.data.toList.take 54) (j := j) hjl hf)
        have Hstay := Hid.mk (fun hf => fxTo_stay (l := s.data.toList.take 54) (j := j) hjl hf)
        generalize (s.data.toList.take 54).getD j 0 = x at *
        clear hN hjl
        by_cases h47 : x = 47
        · have e47 : (((x.toNat : Nat) : Int) == 47) = true := by rw [h47]; rfl
          have HNn := Hid.mk (by rw [Hset.out (by simp [fx, h47])]; exact HNj.out.put j hlt : BAt w (wr.setCell ⟨w.heap.size, j, none⟩ (.int .u8 95)) w.heap.size 54 (fxTo (j + 1) (s.data.toList.take 54)))
          clear HNj Hset Hstay h47
          go_wp2
          go_roundw
          case rel => exact ⟨j + 1, by omega, (by first | go_num | rw [hw64]), HNn.out⟩
          case measure => first | exact meas (S := 54) (i := j) (k := j + 1) hlt (by omega) | (rw [hw64]; exact meas (S := 54) (i := j) (k := j + 1) hlt (by omega))
        · have e47 : (((x.toNat : Nat) : Int) == 47) = false := by
            rw [Bool.eq_false_iff, ne_eq, beq_iff_eq]
            intro h
            exact h47 (UInt8.toNat_inj.1 (by have e : (47 : UInt8).toNat = 47 := rfl; omega))
          by_cases h0 : x = 0
          · have e0 : (((x.toNat : Nat) : Int) == 0) = true := by rw [h0]; rfl
            have HNn := Hid.mk (by rw [Hset.out (by simp [fx, h0])]; exact HNj.out.put j hlt : BAt w (wr.setCell ⟨w.heap.size, j, none⟩ (.int .u8 95)) w.heap.size 54 (fxTo (j + 1) (s.data.toList.take 54)))
            clear HNj Hset Hstay h47 h0
            go_wp2
            go_roundw
            case rel => exact ⟨j + 1, by omega, (by first | go_num | rw [hw64]), HNn.out⟩
            case measure => first | exact meas (S := 54) (i := j) (k := j + 1) hlt (by omega) | (rw [hw64]; exact meas (S := 54) (i := j) (k := j + 1) hlt (by omega))
          · have e0 : (((x.toNat : Nat) : Int) == 0) = false := by
              rw [Bool.eq_false_iff, ne_eq, beq_iff_eq]
              intro h
              exact h0 (UInt8.toNat_inj.1 (by have e : (0 : UInt8).toNat = 0 := rfl; omega))
            have HNn := Hid.mk (by rw [Hstay.out (by simp [fx, h47, h0])]; exact HNj.out : BAt w wr w.heap.size 54 (fxTo (j + 1) (s.data.toList.take 54)))
            clear HNj Hset Hstay h47 h0
            go_wp2
            go_roundw
            case rel => exact ⟨j + 1, by omega, (by first | go_num | rw [hw64]), HNn.out⟩
            case measure => first | exact meas (S := 54) (i := j) (k := j + 1) hlt (by omega) | (rw [hw64]; exact meas (S := 54) (i := j) (k := j + 1) hlt (by omega))
      · have hlt' : ¬ (j : Int) < (54 : Int) := by omega
        clear hw64
        rw [fxTo_full (by rw [List.length_take]; omega)] at hN
        have htl : tameL s.data.toList = if ((s.data.toList.take 54).map fx) = [] ∨ ((s.data.toList.take 54).map fx) = [46] ∨ ((s.data.toList.take 54).map fx) = [46, 46] then [120] else (s.data.toList.take 54).map fx := by
          rfl
        generalize (s.data.toList.take 54).map fx = b at *
        have hlen := hN.len
        have hcv2 := run_convert_bytes_arg (P := Try.prog) wr 40 5 Try.underlying40 Try.underlying5 w.heap.size 0 54 C (ns b) (by rw [ns, List.length_map]; exact hlen) (fun i hi => by rw [Nat.zero_add, hN.cell i hi]; simp [ns, List.getD, hlen, hi]) 9 Try.underlying9
        rw [strOf_ns] at hcv2
        have hbel := hN.below
        have HT := Hid.mk (by rw [htl, if_neg (by rintro (h | h | h) <;> rw [h] at hlen <;> simp at hlen)] : tameL s.data.toList = b)
        have HB := Hid.mk hbel
        clear htl hN hbel
        go_wp2
        go_ret
        exact ⟨by rw [HT.out]; rfl, HB.out⟩
  · have hgt' : ¬ 54 < (s.size : Int) := by omega
    have HN := Hid.mk (HNew.out s.size (by omega))
    clear HNew
    go_wp2
    clear hcv
    go_loopw [4] (fun i wr => ∃ j : Nat, j ≤ s.size ∧ i = .int .i64 j ∧ BAt w wr w.heap.size s.size (fxTo j (s.data.toList.take s.size))) (fun i _ => s.size - (intOf i).toNat)
    case atStart => exact ⟨0, Nat.zero_le _, rfl, by rw [fxTo_zero]; exact HN.out⟩
    case round =>
      clear HN
      obtain ⟨j, hj, rfl, hN⟩ := hrel
      have hw64 : s.size ≤ 54 → wrap64 ((j : Int) + 1) = ((j + 1 : Nat) : Int) := fun _ => by
        rw [IntWalk.wrap64_in _ (by omega)]
        rfl
      replace hw64 := hw64 (by omega)
      by_cases hlt : j < s.size
      · have hlt' : (j : Int) < (s.size : Int) := by omega
        have hjl : j < (s.data.toList.take s.size).length := by rw [List.length_take]; omega
        have cj := hN.cell j hlt
        have fj := hN.open_ j hlt
        rw [fxTo_at hjl] at cj
        have HNj := Hid.mk hN
        have Hset := Hid.mk (fun hf => fxTo_set (l := s.data.toList.take s.size) (j := j) hjl hf)
        have Hstay := Hid.mk (fun hf => fxTo_stay (l := s.data.toList.take s.size) (j := j) hjl hf)
        generalize (s.data.toList.take s.size).getD j 0 = x at *
        clear hN hjl
        by_cases h47 : x = 47
        · have e47 : (((x.toNat : Nat) : Int) == 47) = true := by rw [h47]; rfl
          have HNn := Hid.mk (by rw [Hset.out (by simp [fx, h47])]; exact HNj.out.put j hlt : BAt w (wr.setCell ⟨w.heap.size, j, none⟩ (.int .u8 95)) w.heap.size s.size (fxTo (j + 1) (s.data.toList.take s.size)))
          clear HNj Hset Hstay h47
          go_wp2
          go_roundw
          case rel => exact ⟨j + 1, by omega, (by first | go_num | rw [hw64]), HNn.out⟩
          case measure => first | exact meas (S := s.size) (i := j) (k := j + 1) hlt (by omega) | (rw [hw64]; exact meas (S := s.size) (i := j) (k := j + 1) hlt (by omega))
        · have e47 : (((x.toNat : Nat) : Int) == 47) = false := by
            rw [Bool.eq_false_iff, ne_eq, beq_iff_eq]
            intro h
            exact h47 (UInt8.toNat_inj.1 (by have e : (47 : UInt8).toNat = 47 := rfl; omega))
          by_cases h0 : x = 0
          · have e0 : (((x.toNat : Nat) : Int) == 0) = true := by rw [h0]; rfl
            have HNn := Hid.mk (by rw [Hset.out (by simp [fx, h0])]; exact HNj.out.put j hlt : BAt w (wr.setCell ⟨w.heap.size, j, none⟩ (.int .u8 95)) w.heap.size s.size (fxTo (j + 1) (s.data.toList.take s.size)))
            clear HNj Hset Hstay h47 h0
            go_wp2
            go_roundw
            case rel => exact ⟨j + 1, by omega, (by first | go_num | rw [hw64]), HNn.out⟩
            case measure => first | exact meas (S := s.size) (i := j) (k := j + 1) hlt (by omega) | (rw [hw64]; exact meas (S := s.size) (i := j) (k := j + 1) hlt (by omega))
          · have e0 : (((x.toNat : Nat) : Int) == 0) = false := by
              rw [Bool.eq_false_iff, ne_eq, beq_iff_eq]
              intro h
              exact h0 (UInt8.toNat_inj.1 (by have e : (0 : UInt8).toNat = 0 := rfl; omega))
            have HNn := Hid.mk (by rw [Hstay.out (by simp [fx, h47, h0])]; exact HNj.out : BAt w wr w.heap.size s.size (fxTo (j + 1) (s.data.toList.take s.size)))
            clear HNj Hset Hstay h47 h0
            go_wp2
            go_roundw
            case rel => exact ⟨j + 1, by omega, (by first | go_num | rw [hw64]), HNn.out⟩
            case measure => first | exact meas (S := s.size) (i := j) (k := j + 1) hlt (by omega) | (rw [hw64]; exact meas (S := s.size) (i := j) (k := j + 1) hlt (by omega))
      · have hlt' : ¬ (j : Int) < (s.size : Int) := by omega
        clear hw64
        rw [fxTo_full (by rw [List.length_take]; omega)] at hN
        have htl : tameL s.data.toList = if ((s.data.toList.take s.size).map fx) = [] ∨ ((s.data.toList.take s.size).map fx) = [46] ∨ ((s.data.toList.take s.size).map fx) = [46, 46] then [120] else (s.data.toList.take s.size).map fx := by
          unfold tameL
          rw [show s.data.toList.take 54 = s.data.toList.take s.size by rw [List.take_of_length_le (by omega), List.take_of_length_le (by omega)]]
        generalize (s.data.toList.take s.size).map fx = b at *
        have hlen := hN.len
        have hcv2 := run_convert_bytes_arg (P := Try.prog) wr 40 5 Try.underlying40 Try.underlying5 w.heap.size 0 s.size C (ns b) (by rw [ns, List.length_map]; exact hlen) (fun i hi => by rw [Nat.zero_add, hN.cell i hi]; simp [ns, List.getD, hlen, hi]) 9 Try.underlying9
        rw [strOf_ns] at hcv2
        have hbel := hN.below
        by_cases m0 : s.size = 0
        · have d0 : (((s.size : Nat) : Int) == 0) = true := by rw [m0]; rfl
          have HT := Hid.mk (by rw [htl, if_pos (by exact .inl (List.eq_nil_of_length_eq_zero (hlen.trans m0)))] : tameL s.data.toList = [120])
          have HB := Hid.mk hbel
          clear htl hN hbel hcv2
          go_wp2
          go_ret
          exact ⟨by rw [HT.out]; rfl, HB.out⟩
        · have d0 : (((s.size : Nat) : Int) == 0) = false := by
            rw [Bool.eq_false_iff, ne_eq, beq_iff_eq]
            omega
          have c0 := hN.cell 0 (by omega)
          by_cases m1 : s.size = 1
          · have d1 : (((s.size : Nat) : Int) == 1) = true := by rw [m1]; rfl
            have d2 : (((s.size : Nat) : Int) == 2) = false := by rw [m1]; rfl
            obtain ⟨x, hbx⟩ : ∃ x, b = [x] := List.length_eq_one_iff.1 (hlen.trans m1)
            replace c0 : wr.cell? ⟨w.heap.size, 0, none⟩ = some (.int .u8 (x.toNat : Nat)) := by rw [hbx] at c0; exact c0
            have HX := Hid.mk hbx
            clear hbx
            have hpos : (0 : Int) < (s.size : Int) := by omega
            by_cases hx : x = 46
            · have ex : (((x.toNat : Nat) : Int) == 46) = true := by rw [hx]; rfl
              have HT := Hid.mk (by rw [htl, if_pos (by exact .inr (.inl (by rw [HX.out, hx])))] : tameL s.data.toList = [120])
              have HB := Hid.mk hbel
              clear htl hN hbel hcv2
              go_wp2
              go_ret
              exact ⟨by rw [HT.out]; rfl, HB.out⟩
            · have ex : (((x.toNat : Nat) : Int) == 46) = false := by
                rw [Bool.eq_false_iff, ne_eq, beq_iff_eq]
                intro h
                exact hx (UInt8.toNat_inj.1 (by have e : (46 : UInt8).toNat = 46 := rfl; omega))
              have HT := Hid.mk (by rw [htl, if_neg (by rw [HX.out]; rintro (h | h | h) <;> simp at h; exact hx h)] : tameL s.data.toList = b)
              clear m1
              have HB := Hid.mk hbel
              clear htl hN hbel
              go_wp2
              go_ret
              exact ⟨by rw [HT.out]; rfl, HB.out⟩
          · have d1 : (((s.size : Nat) : Int) == 1) = false := by
              rw [Bool.eq_false_iff, ne_eq, beq_iff_eq]
              omega
            by_cases m2 : s.size = 2
            · have d2 : (((s.size : Nat) : Int) == 2) = true := by rw [m2]; rfl
              have c1 := hN.cell 1 (by omega)
              obtain ⟨x, y, hbx⟩ : ∃ x y, b = [x, y] := by
                match b, hlen.trans m2 with
                | [x, y], _ => exact ⟨x, y, rfl⟩
              replace c0 : wr.cell? ⟨w.heap.size, 0, none⟩ = some (.int .u8 (x.toNat : Nat)) := by rw [hbx] at c0; exact c0
              replace c1 : wr.cell? ⟨w.heap.size, 1, none⟩ = some (.int .u8 (y.toNat : Nat)) := by rw [hbx] at c1; exact c1
              have HX := Hid.mk hbx
              clear hbx
              have hpos : (0 : Int) < (s.size : Int) := by omega
              have hpos1 : (1 : Int) < (s.size : Int) := by omega
              by_cases hx : x = 46
              · have ex : (((x.toNat : Nat) : Int) == 46) = true := by rw [hx]; rfl
                by_cases hy : y = 46
                · have ey : (((y.toNat : Nat) : Int) == 46) = true := by rw [hy]; rfl
                  have HT := Hid.mk (by rw [htl, if_pos (by exact .inr (.inr (by rw [HX.out, hx, hy])))] : tameL s.data.toList = [120])
                  have HB := Hid.mk hbel
                  clear htl hN hbel hcv2
                  go_wp2
                  go_ret
                  exact ⟨by rw [HT.out]; rfl, HB.out⟩
                · have ey : (((y.toNat : Nat) : Int) == 46) = false := by
                    rw [Bool.eq_false_iff, ne_eq, beq_iff_eq]
                    intro h
                    exact hy (UInt8.toNat_inj.1 (by have e : (46 : UInt8).toNat = 46 := rfl; omega))
                  have HT := Hid.mk (by rw [htl, if_neg (by rw [HX.out]; rintro (h | h | h) <;> simp at h; exact hy h.2)] : tameL s.data.toList = b)
                  clear m2
                  have HB := Hid.mk hbel
                  clear htl hN hbel
                  go_wp2
                  go_ret
                  exact ⟨by rw [HT.out]; rfl, HB.out⟩
              · have ex : (((x.toNat : Nat) : Int) == 46) = false := by
                  rw [Bool.eq_false_iff, ne_eq, beq_iff_eq]
                  intro h
                  exact hx (UInt8.toNat_inj.1 (by have e : (46 : UInt8).toNat = 46 := rfl; omega))
                have HT := Hid.mk (by rw [htl, if_neg (by rw [HX.out]; rintro (h | h | h) <;> simp at h; exact hx h.1)] : tameL s.data.toList = b)
                clear m2
                have HB := Hid.mk hbel
                clear htl hN hbel
                go_wp2
                go_ret
                exact ⟨by rw [HT.out]; rfl, HB.out⟩
            · have d2 : (((s.size : Nat) : Int) == 2) = false := by
                rw [Bool.eq_false_iff, ne_eq, beq_iff_eq]
                omega
              clear c0
              have HT := Hid.mk (by rw [htl, if_neg (by rintro (h | h | h) <;> rw [h] at hlen <;> simp at hlen <;> omega)] : tameL s.data.toList = b)
              have HB := Hid.mk hbel
              clear htl hN hbel
              go_wp2
              go_ret
              exact ⟨by rw [HT.out]; rfl, HB.out⟩
end Go.Proofs.Ytpihehpmejicaaa
