import Derived.Test.YtkkmkogpbhcpmaaKBase
namespace Go.Proofs.Ytkkmkogpbhcpmaa
open Go.RowKit

theorem i64_xor_nat (a b : Nat) (ha : a < 4294967296) (hb : b < 4294967296) : bits .xor .i64 (a : Int) (b : Int) = ((a ^^^ b : Nat) : Int) := by
  have hx : a ^^^ b < 2 ^ 32 := Nat.xor_lt_two_pow (by omega) (by omega)
  have ea : (BitVec.ofInt 64 (a : Int)).toNat = a := by rw [BitVec.ofInt_natCast, BitVec.toNat_ofNat]; exact Nat.mod_eq_of_lt (by omega)
  have eb : (BitVec.ofInt 64 (b : Int)).toNat = b := by rw [BitVec.ofInt_natCast, BitVec.toNat_ofNat]; exact Nat.mod_eq_of_lt (by omega)
  show IntKind.i64.wrap ((BitVec.ofInt 64 (a : Int) ^^^ BitVec.ofInt 64 (b : Int)).toNat : Int) = _
  rw [BitVec.toNat_xor, ea, eb, IntKind.wrap_i64]
  omega

set_option maxHeartbeats 2000000 in
theorem rsum_low (b o n c : Nat) (l : List Int) (w : World) (hb : Bytes l) (hl : l.length = n) (hn : n ≤ 140737488355328) (hs : ∀ i, i < n → w.cell? ⟨b, o + i, none⟩ = some (.int .u8 (l.getD i 0))) :
    Calls Try.prog 93 #[.slice (some ⟨b, o, none⟩) n c] w fun e w' => e = .returned (.int .i64 ((sumOf l : Nat) : Int)) ∧ Below w.heap.size w w' := by
  have Hs := Hid.mk hs
  clear hs
  unfold sumOf
  go_enter Try.func93, Try.ntmps93
  go_wp2
  go_loopw [3, 4] (fun r i wr => ∃ k : Nat, k ≤ n ∧ i = .int .i64 k ∧ wr = w ∧ r = .int .i64 ((crc 4294967295 (l.take k) : Nat) : Int)) (fun _ i _ => n - (intOf i).toNat)
  case atStart => exact ⟨0, Nat.zero_le _, rfl, rfl, by simp [crc_nil]⟩
  case round =>
    obtain ⟨k, hk, rfl, rfl, rfl⟩ := hrel
    by_cases hlt : k < n
    · have hlt' : (k : Int) < (n : Int) := by omega
      have hc := Hs.out k hlt
      have hkl : k < l.length := by omega
      obtain ⟨x, hx, hx1⟩ : ∃ x : Nat, l.getD k 0 = (x : Int) ∧ x < 256 := by
        have := hb l[k] (List.getElem_mem hkl)
        refine ⟨(l.getD k 0).toNat, ?_, ?_⟩ <;> simp [List.getD, hkl] <;> omega
      have htk : Bytes (l.take k) := fun y hy => hb y (List.mem_of_mem_take hy)
      have hr : crc 4294967295 (l.take k) < 4294967296 := crc_lt (by omega) htk
      have hsn : crc 4294967295 (l.take (k + 1)) = cbs 8 (crc 4294967295 (l.take k) ^^^ x) := by
        rw [List.take_succ_eq_append_getElem hkl, crc_snoc _ _ htk]
        congr 2
        have : l.getD k 0 = l[k] := by simp [List.getD, hkl]
        rw [← this, hx]; simp
      have Hsn := Hid.mk hsn
      rw [hx] at hc
      generalize hR : crc 4294967295 (l.take k) = R at *
      have hq : R ^^^ x < 4294967296 := by
        have : R ^^^ x < 2 ^ 32 := Nat.xor_lt_two_pow (by omega) (by omega)
        omega
      have e1 : bits .xor .i64 (R : Int) (x : Int) = ((R ^^^ x : Nat) : Int) := i64_xor_nat _ _ hr (by omega)
      clear hsn hR htk hr hx
      go_wp2
      go_loopw [3, 5] (fun r i wx => ∃ m : Nat, m ≤ 8 ∧ i = .int .i64 m ∧ wx = wr ∧ r = .int .i64 ((cbs m (R ^^^ x) : Nat) : Int)) (fun _ i _ => 8 - (intOf i).toNat)
      case atStart => exact ⟨0, Nat.zero_le _, rfl, rfl, rfl⟩
      case round =>
        obtain ⟨m, hm, rfl, rfl, rfl⟩ := hrel
        have hr : cbs m (R ^^^ x) < 4294967296 := cbs_lt m hq
        by_cases hlm : m < 8
        · have hlm' : (m : Int) < 8 := by omega
          have hb3 : cb (cbs m (R ^^^ x)) = cbs (m + 1) (R ^^^ x) := by rw [cbs_add]; rfl
          generalize cbs m (R ^^^ x) = S at *
          have Hb3 := Hid.mk hb3
          clear hb3
          have q1 : (S : Int).tmod 2 = ((S % 2 : Nat) : Int) := by rw [Int.tmod_eq_emod_of_nonneg (by omega)]; omega
          have q2 : (S : Int).tdiv 2 = ((S / 2 : Nat) : Int) := by rw [Int.tdiv_eq_ediv_of_nonneg (by omega)]; omega
          rcases Nat.mod_two_eq_zero_or_one S with hS | hS
          · have q3 : (((S % 2 : Nat) : Int) == 1) = false := by rw [hS]; rfl
            have Hcb : Hid (cb S = S / 2) := by show cb S = S / 2; simp [cb, hS]
            clear hS
            go_wp2
            go_roundw
            case rel => exact ⟨m + 1, by omega, by go_num, trivial, by rw [← Hb3.out, Hcb.out]; first | (rw [Int.natCast_ediv]; rfl) | rw [q4.out]⟩
            case measure => simp [intOf]; omega
          · have q3 : (((S % 2 : Nat) : Int) == 1) = true := by rw [hS]; rfl
            have q4 : Hid (bits .xor .i64 ((S : Int) / 2) 2197175160 = ((S / 2 ^^^ 2197175160 : Nat) : Int)) := i64_xor_nat (S / 2) 2197175160 (by omega) (by omega)
            have Hcb : Hid (cb S = S / 2 ^^^ 2197175160) := by show cb S = S / 2 ^^^ 2197175160; simp [cb, hS]
            clear hS
            go_wp2
            go_roundw
            case rel => exact ⟨m + 1, by omega, by go_num, trivial, by rw [← Hb3.out, Hcb.out]; first | (rw [Int.natCast_ediv]; rfl) | rw [q4.out]⟩
            case measure => simp [intOf]; omega
        · have hlm' : ¬ (m : Int) < 8 := by omega
          have hm8 : m = 8 := by omega
          subst hm8
          go_wp2
          go_roundw
          case rel => exact ⟨k + 1, by omega, by go_num, trivial, by rw [Hsn.out]⟩
          case measure => simp [intOf]; omega
    · have hlt' : ¬ (k : Int) < (n : Int) := by omega
      have hkn : l.take k = l := List.take_of_length_le (by omega)
      have hr : crc 4294967295 l < 4294967296 := crc_lt (by omega) hb
      have e1 : bits .xor .i64 ((crc 4294967295 l : Nat) : Int) 4294967295 = ((crc 4294967295 l ^^^ 4294967295 : Nat) : Int) := i64_xor_nat (crc 4294967295 l) 4294967295 hr (by omega)
      rw [hkn] at *
      have HB := Hid.mk (Below.refl wr.heap.size wr)
      go_wp2
      go_ret
      exact ⟨rfl, HB.out⟩

set_option maxHeartbeats 1000000 in
theorem rsum_none (a : Option Addr) (c : Nat) (w : World) :
    Calls Try.prog 93 #[.slice a 0 c] w fun e w' => e = .returned (.int .i64 ((sumOf [] : Nat) : Int)) ∧ Below w.heap.size w w' := by
  have e1 : bits .xor .i64 4294967295 4294967295 = 0 := by decide
  have e2 : sumOf [] = 0 := by decide
  rw [e2]
  have HB := Hid.mk (Below.refl w.heap.size w)
  go_enter Try.func93, Try.ntmps93
  go_wp2
  refine wp_loop_rounds 1 ?_; rw [rounds_succ]; go_wp2
  go_ret
  exact ⟨rfl, HB.out⟩

theorem rsum_any (a : Option Addr) (n c : Nat) (l : List Int) (w : World) (hb : Bytes l) (hn : n ≤ 140737488355328) (hs : Src w a n l) :
    Calls Try.prog 93 #[.slice a n c] w fun e w' => e = .returned (.int .i64 ((sumOf l : Nat) : Int)) ∧ Below w.heap.size w w' := by
  by_cases h0 : n = 0
  · subst h0
    have : l = [] := List.eq_nil_of_length_eq_zero hs.1
    subst this
    exact rsum_none a c w
  · cases a with
    | none => exact absurd (hs.2.1 rfl) h0
    | some x =>
      obtain ⟨b, o, rfl, k⟩ := hs.spot (by omega)
      exact rsum_low b o n c l w hb hs.1 hn k
end Go.Proofs.Ytkkmkogpbhcpmaa
