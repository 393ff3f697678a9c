import Derived.Test.YtalokopnagpgcaaDoorSI3
import Derived.Laws.Runes
namespace Go.Proofs.YtalokopnagpgcaaDoor
open Go.RowKit Go.Maps

theorem indexByte_nil (c : Int) (w : World) :
    Calls Tryd.prog 40 #[.string ⟨#[]⟩, .int .u8 c] w fun e w' => e = .returned (.int .i64 (-1)) ∧ w' = w := by
  have h := ix_run ⟨#[]⟩ c w
  rw [show Lib.indexByte (⟨#[]⟩ : ByteArray).data.toList c.toNat.toUInt8 = -1 from rfl] at h
  go_enter Tryd.func40, Tryd.ntmps40
  go_wp2
  go_ret
  exact ⟨rfl, rfl⟩
theorem validRune_any (r : Int) (w : World) (h0 : 128 ≤ r) (h1 : r < 1114112) :
    Calls Tryd.prog 41 #[.int .i32 r] w fun e w' => e = .returned (.bool (Utf8.valid r)) ∧ w' = w := by
  have l0 : (0 : Int) ≤ r := by omega
  go_enter Tryd.func41, Tryd.ntmps41
  by_cases h2 : r < 55296
  · go_wp2
    go_ret
    exact ⟨by simp [Utf8.valid]; omega, rfl⟩
  · by_cases h3 : (57343 : Int) < r
    · have h4 : r ≤ 1114111 := by omega
      go_wp2
      go_ret
      exact ⟨by simp [Utf8.valid]; omega, rfl⟩
    · go_wp2
      go_ret
      exact ⟨by simp [Utf8.valid]; omega, rfl⟩
set_option maxRecDepth 20000 in
set_option maxHeartbeats 4000000 in
theorem indexRune_other (B2 : ByteArray) (hB : B2.size = 2) (gB : ∀ h', ((B2[1]'h').toNat : Int) = 9) (xB : B2.extract 2 B2.size = ⟨#[]⟩) (r : Int) (w : World) (h0 : 128 ≤ r) (h1 : r < 1114112) (hE : ¬ r = 65533) :
    Calls Tryd.prog 37 #[.string B2, .int .i32 r] w fun e w' => e = .returned (.int .i64 (-1)) ∧ Below w.heap.size w w' := by
  have l0 : (0 : Int) ≤ r := by omega
  have l1 : ¬ (r < 128) := by omega
  have e0 : (r == 65533) = false := by simpa using hE
  have hv := validRune_any r w h0 h1
  cases hvr : Utf8.valid r with
  | false =>
    rw [hvr] at hv
    go_enter Tryd.func37, Tryd.ntmps37
    go_wp2_with fail
    refine hv.mono ?_
    rintro e w1 ⟨rfl, hw⟩
    subst hw
    go_wp2
    go_ret
    exact ⟨rfl, Below.refl _ _⟩
  | true =>
    rw [hvr] at hv
    obtain ⟨s2, s4, sl⟩ := encode_facts r hvr h0
    obtain ⟨S, hS⟩ : ∃ S, Utf8.encode r = S := ⟨_, rfl⟩
    rw [hS] at s2 s4 sl
    by_cases hs2 : S.size = 2
    · obtain ⟨x, hx128, gS⟩ : ∃ x : Nat, 128 ≤ x ∧ ∀ h', ((S[1]'h').toNat : Int) = (x : Int) := by
        refine ⟨(S[1]'(by omega)).toNat, ?_, fun _ => rfl⟩
        have h3 := sl (by omega)
        have h4 : ∀ k (hk : k < S.size), k = 1 → (S[k]'hk).toNat = (S[1]'(by omega)).toNat := fun k hk e => by subst e; rfl
        rw [h4 _ _ (by omega)] at h3
        exact h3
      have bL : (2 : Int) ≤ (B2.size : Int) := by omega
      have bL1 : (1 : Int) < (B2.size : Int) := by omega
      have sL1 : (1 : Int) < (S.size : Int) := by omega
      have hw : wrap64 ((S.size : Int) - 1) = 1 := by rw [hs2]; simp [wrap64]
      have h19 : ((9 : Int) == (x : Int)) = false := by rw [beq_eq_false_iff_ne]; omega
      have h19' : ((9 : Int) != (x : Int)) = true := by simp; omega
      clear hs2 s2 s4 sl hB
      go_enter Tryd.func37, Tryd.ntmps37
      go_wp2_with fail
      refine hv.mono ?_
      rintro e w1 ⟨rfl, hw1⟩
      subst hw1
      go_wp2
      go_step3
      go_wp2
      go_loopw [9, 10] (fun iv fv wr => iv = .int .i64 1 ∧ fv = .int .i64 0 ∧ wr = w1) (fun _ _ _ => 0)
      case atStart => exact ⟨by first | rfl | rw [hw], rfl, rfl⟩
      case round =>
        obtain ⟨rfl, rfl, hwr⟩ := hrel
        subst hwr
        go_wp2
        go_step3
        go_wp2
        go_region
        go_wp2
        have w2 : IntKind.i64.wrap 2 = 2 := by simp [IntKind.wrap, IntKind.bits, IntKind.signed]
        go_region_held3 (fun _ => True) (trivial) ((go_at_call 40; refine (indexByte_nil _ _).mono ?_; rintro e w4 ⟨rfl, rfl⟩))
        all_goals
          go_wp2
          rw [Exit.noGoto_ret]
          simp (config := { zetaDelta := true }) only [Exit.inBlock, Exit.then, Exit.noGoto]
          go_ret
          exact ⟨rfl, below_drew (below_drew (Below.refl _ _))⟩
    · have hw : wrap64 ((S.size : Int) - 1) = ((S.size - 1 : Nat) : Int) := by
        simp [wrap64]
        omega
      have hge : ¬ (((S.size - 1 : Nat) : Int) < (B2.size : Int)) := by omega
      generalize S.size - 1 = last at *
      clear s2 s4 sl hs2 hB
      go_enter Tryd.func37, Tryd.ntmps37
      go_wp2_with fail
      refine hv.mono ?_
      rintro e w1 ⟨rfl, hw1⟩
      subst hw1
      go_wp2
      go_step3
      go_wp2
      go_loopw [9] (fun iv wr => iv = .int .i64 (last : Int) ∧ wr = w1) (fun _ _ => 0)
      case atStart => exact ⟨by rw [hw], rfl⟩
      case round =>
        obtain ⟨rfl, hwr⟩ := hrel
        subst hwr
        go_wp2
        rw [Exit.noGoto_ret]
        go_ret
        exact ⟨rfl, Below.refl _ _⟩
end Go.Proofs.YtalokopnagpgcaaDoor
