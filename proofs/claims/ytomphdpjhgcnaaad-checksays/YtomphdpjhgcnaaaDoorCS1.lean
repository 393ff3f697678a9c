import Derived.Test.YtomphdpjhgcnaaaDoorSH1
import Derived.Lib.ItoaLen
namespace Go.Proofs.YtomphdpjhgcnaaaDoor
open Go.RowKit Go.Maps

/-- The digits still to be written, none for zero. -/
def preD (m : Nat) : List UInt8 := if m = 0 then [] else Lib.decDigits m
theorem preD_step {m : Nat} (h : 0 < m) : preD m = preD (m / 10) ++ [UInt8.ofNat (48 + m % 10)] := by
  unfold preD
  rw [if_neg (by omega)]
  by_cases h10 : m < 10
  · rw [if_pos (by omega), Lib.decDigits, dif_pos h10, Nat.mod_eq_of_lt h10]
    rfl
  · rw [if_neg (by omega), Lib.decDigits, dif_neg h10]
theorem digit_num (k : Nat) (h : k < 10) : ((UInt8.ofNat (48 + k)).toNat : Int) = ((48 + k : Nat) : Int) := by
  simp
  omega
theorem cat_list (a b : ByteArray) : (a ++ b).data.toList = a.data.toList ++ b.data.toList := by simp
theorem cat_size (a b : ByteArray) : (a ++ b).size = a.size + b.size := by
  rw [← len_size, cat_list, List.length_append, len_size, len_size]
theorem one_num (c : UInt8) : strOfNums [(c.toNat : Int)] = ⟨#[c]⟩ := by
  simp [strOfNums]

set_option maxRecDepth 20000 in
set_option maxHeartbeats 4000000 in
theorem decimal_any (n : Int) (h0 : -9223372036854775808 ≤ n) (h1 : n ≤ 9223372036854775807) (w : World) :
    Calls Tryd.prog 7 #[.int .i64 n] w fun e w' => e = .returned (.string ⟨(Lib.itoa n).toArray⟩) ∧ Below w.heap.size w w' := by
  by_cases hz : n = 0
  · subst hz
    have e0 : Lib.itoa 0 = [48] := by
      unfold Lib.itoa
      rw [if_neg (by omega)]
      show Lib.decDigits 0 = _
      rw [Lib.decDigits, dif_pos (by omega)]
      rfl
    rw [e0]
    go_enter Tryd.func7, Tryd.ntmps7
    go_wp2
    go_ret
    exact ⟨rfl, Below.refl _ _⟩
  · have hz' : (n == 0) = false := by rw [beq_eq_false_iff_ne]; exact hz
    obtain ⟨N, hN⟩ : ∃ N : Nat, N = n.natAbs := ⟨_, rfl⟩
    have hN1 : 0 < N := by omega
    have hNle : N ≤ 9223372036854775808 := by omega
    have hlenN : (preD N).length ≤ 20 := by
      unfold preD
      rw [if_neg (by omega), Lib.decDigits_length]
      exact Lib.nDigits_le20 N (by omega)
    have hans : ∀ S : ByteArray, S.data.toList = preD N → (⟨(Lib.itoa n).toArray⟩ : ByteArray) = if n < 0 then (⟨#[45]⟩ : ByteArray) ++ S else S := by
      intro S hS
      have e1 : preD N = Lib.decDigits N := by unfold preD; rw [if_neg (by omega)]
      split
      · rename_i hneg
        have : n = -(N : Int) := by omega
        apply ByteArray.ext
        apply Array.ext'
        rw [cat_list, hS, e1, this, Lib.itoa_neg N (by omega)]
        rfl
      · have : n = (N : Int) := by omega
        apply ByteArray.ext
        apply Array.ext'
        rw [hS, e1, this, Lib.itoa_nonneg N]
    have HA := Hid.mk (And.intro hans (And.intro hlenN hNle))
    clear hans hlenN hNle
    by_cases hneg : n < 0
    · have Hneg := Hid.mk hneg
      go_enter Tryd.func7, Tryd.ntmps7
      go_wp2
      go_loopw [0, 3] (fun xv sv wr => ∃ (m : Nat) (S : ByteArray), xv = .int .i64 (-(m : Int)) ∧ sv = .string S ∧ m ≤ N ∧ preD N = preD m ++ S.data.toList ∧ Below w.heap.size w wr) (fun xv _ _ => (intOf xv).natAbs)
      case atStart => exact ⟨N, ⟨#[]⟩, by rw [show n = -(N : Int) by omega], rfl, Nat.le_refl _, by simp, Below.refl _ _⟩
      case round =>
        obtain ⟨m, S, rfl, rfl, hm, hpre, hb⟩ := hrel
        have hle := HA.out.2.1
        have hle2 := HA.out.2.2
        by_cases hm0 : m = 0
        · subst hm0
          have hS : S.data.toList = preD N := by rw [hpre]; simp [preD]
          have hA := HA.out.1 S hS
          rw [if_pos Hneg.out] at hA
          have hlS : S.size ≤ 20 := by rw [← len_size, hS]; exact hle
          have k1 : (9223372036854775807 < 1 + S.size) = False := eq_false (by omega)
          have HB := Hid.mk (And.intro hA hb)
          clear hb hA hpre hS hm HA hle hle2
          go_wp2
          go_ret
          exact ⟨by rw [HB.out.1]; rfl, HB.out.2⟩
        · have hstep := preD_step (show 0 < m by omega)
          have hlS : S.size ≤ 20 := by
            have h3 := congrArg List.length hpre
            rw [List.length_append, len_size] at h3
            omega
          have c1 : ((-(m : Int)) == 0) = false := by rw [beq_eq_false_iff_ne]; omega
          have t1 : (-(m : Int)).tmod 10 = -((m % 10 : Nat) : Int) := by rw [Int.neg_tmod]; rfl
          have t2 : (-(m : Int)).tdiv 10 = -((m / 10 : Nat) : Int) := by rw [Int.neg_tdiv]; rfl
          have hd : m % 10 < 10 := Nat.mod_lt _ (by decide)
          have u1 : IntKind.u8.wrap ((48 : Int) + ((m % 10 : Nat) : Int)) = ((UInt8.ofNat (48 + m % 10)).toNat : Int) := by
            rw [digit_num _ hd, IntKind.wrap_u8]
            omega
          have hcv := conv_new wr [((UInt8.ofNat (48 + m % 10)).toNat : Int)] 1 rfl
          rw [one_num] at hcv
          simp only [List.map_cons, List.map_nil] at hcv
          have hsz1 : (⟨#[UInt8.ofNat (48 + m % 10)]⟩ : ByteArray).size = 1 := rfl
          have hl1 : (⟨#[UInt8.ofNat (48 + m % 10)]⟩ : ByteArray).data.toList = [UInt8.ofNat (48 + m % 10)] := rfl
          have hzz := hb.size
          have hnext : preD N = preD (m / 10) ++ ((⟨#[UInt8.ofNat (48 + m % 10)]⟩ : ByteArray) ++ S).data.toList := by
            rw [hpre, hstep, cat_list, hl1, List.append_assoc]
          have HB := Hid.mk (And.intro hnext (hb.alloc hzz (.cells #[.int .u8 ((UInt8.ofNat (48 + m % 10)).toNat : Int)] 5)))
          have hmq : m / 10 < m := by omega
          clear hnext hb hl1 hstep hpre HA hle
          generalize (⟨#[UInt8.ofNat (48 + m % 10)]⟩ : ByteArray) = C at *
          have k1 : (9223372036854775807 < C.size + S.size) = False := eq_false (by omega)
          generalize ((UInt8.ofNat (48 + m % 10)).toNat : Int) = X at *
          generalize m / 10 = Q at *
          generalize m % 10 = D at *
          rcases Nat.eq_zero_or_pos D with hD | hD
          · have d1 : ¬ (-(D : Int)) < 0 := by omega
            have u2 : IntKind.u8.wrap ((48 : Int) + -(D : Int)) = X := by rw [← u1]; congr 1; omega
            clear u1 hD
            go_wp2
            go_roundw
            case rel => exact ⟨Q, _, rfl, rfl, by omega, HB.out.1, HB.out.2⟩
            case measure => simp [intOf]; omega
          · have d1 : (-(D : Int)) < 0 := by omega
            go_wp2
            go_roundw
            case rel => exact ⟨Q, _, rfl, rfl, by omega, HB.out.1, HB.out.2⟩
            case measure => simp [intOf]; omega
    · have Hneg := Hid.mk hneg
      go_enter Tryd.func7, Tryd.ntmps7
      go_wp2
      go_loopw [0, 3] (fun xv sv wr => ∃ (m : Nat) (S : ByteArray), xv = .int .i64 (m : Int) ∧ sv = .string S ∧ m ≤ N ∧ preD N = preD m ++ S.data.toList ∧ Below w.heap.size w wr) (fun xv _ _ => (intOf xv).natAbs)
      case atStart => exact ⟨N, ⟨#[]⟩, by rw [show n = (N : Int) by omega], rfl, Nat.le_refl _, by simp, Below.refl _ _⟩
      case round =>
        obtain ⟨m, S, rfl, rfl, hm, hpre, hb⟩ := hrel
        have hle := HA.out.2.1
        have hle2 := HA.out.2.2
        by_cases hm0 : m = 0
        · subst hm0
          have hS : S.data.toList = preD N := by rw [hpre]; simp [preD]
          have hA := HA.out.1 S hS
          rw [if_neg (by have := Hneg.out; omega)] at hA
          have HB := Hid.mk (And.intro hA hb)
          clear hb hA hpre hS hm HA hle hle2
          go_wp2
          go_ret
          exact ⟨by rw [HB.out.1]; rfl, HB.out.2⟩
        · have hstep := preD_step (show 0 < m by omega)
          have hlS : S.size ≤ 20 := by
            have h3 := congrArg List.length hpre
            rw [List.length_append, len_size] at h3
            omega
          have c1 : ((m : Int) == 0) = false := by rw [beq_eq_false_iff_ne]; omega
          have t1 : (m : Int).tmod 10 = ((m % 10 : Nat) : Int) := rfl
          have t2 : (m : Int).tdiv 10 = ((m / 10 : Nat) : Int) := rfl
          have hd : m % 10 < 10 := Nat.mod_lt _ (by decide)
          have u1 : IntKind.u8.wrap ((48 : Int) + ((m % 10 : Nat) : Int)) = ((UInt8.ofNat (48 + m % 10)).toNat : Int) := by
            rw [digit_num _ hd, IntKind.wrap_u8]
            omega
          have hcv := conv_new wr [((UInt8.ofNat (48 + m % 10)).toNat : Int)] 1 rfl
          rw [one_num] at hcv
          simp only [List.map_cons, List.map_nil] at hcv
          have hsz1 : (⟨#[UInt8.ofNat (48 + m % 10)]⟩ : ByteArray).size = 1 := rfl
          have hl1 : (⟨#[UInt8.ofNat (48 + m % 10)]⟩ : ByteArray).data.toList = [UInt8.ofNat (48 + m % 10)] := rfl
          have hzz := hb.size
          have hnext : preD N = preD (m / 10) ++ ((⟨#[UInt8.ofNat (48 + m % 10)]⟩ : ByteArray) ++ S).data.toList := by
            rw [hpre, hstep, cat_list, hl1, List.append_assoc]
          have HB := Hid.mk (And.intro hnext (hb.alloc hzz (.cells #[.int .u8 ((UInt8.ofNat (48 + m % 10)).toNat : Int)] 5)))
          have hmq : m / 10 < m := by omega
          clear hnext hb hl1 hstep hpre HA hle
          generalize (⟨#[UInt8.ofNat (48 + m % 10)]⟩ : ByteArray) = C at *
          have k1 : (9223372036854775807 < C.size + S.size) = False := eq_false (by omega)
          generalize ((UInt8.ofNat (48 + m % 10)).toNat : Int) = X at *
          generalize m / 10 = Q at *
          generalize m % 10 = D at *
          have d1 : ¬ (D : Int) < 0 := by omega
          go_wp2
          go_roundw
          case rel => exact ⟨Q, _, rfl, rfl, by omega, HB.out.1, HB.out.2⟩
          case measure => simp [intOf]; omega
end Go.Proofs.YtomphdpjhgcnaaaDoor
