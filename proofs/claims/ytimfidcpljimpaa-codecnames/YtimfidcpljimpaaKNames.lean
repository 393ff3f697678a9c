import Derived.Test.YtimfidcpljimpaaKRName
import Derived.Test.YtimfidcpljimpaaKOpenT
namespace Go.Proofs.Ytimfidcpljimpaa
open Go.RowKit

set_option maxHeartbeats 2000000 in
theorem codecNames_any (a : Option Addr) (n c : Nat) (w : World) (hs : Texts w w.heap.size a n) (hn : 16 * n ≤ 140737488355328) :
    Calls Try.prog 6 #[.slice a n c] w fun e w' => e = .returned (.bool true) ∧ Below w.heap.size w w' := by
  have h1 : ∀ w, Calls Try.prog 17 #[.string ⟨#[97]⟩] w fun e w' => e = .returned (.int .i64 0) ∧ w' = w := fun w => name_any ⟨#[97]⟩ w
  have h2 : ∀ w, Calls Try.prog 17 #[.string ⟨#[]⟩] w fun e w' => e = .returned (.int .i64 21) ∧ w' = w := fun w => name_any ⟨#[]⟩ w
  have Hs := Hid.mk hs
  clear hs
  go_enter Try.func6, Try.ntmps6
  go_wp2_with fail
  refine (h1 _).mono ?_
  rintro e w1 ⟨rfl, hw⟩
  have hw' := hw.symm
  subst hw'
  go_wp2_with fail
  refine (h2 _).mono ?_
  rintro e w1 ⟨rfl, hw⟩
  have hw' := hw.symm
  subst hw'
  clear h1 h2
  go_wp2
  go_loopw [3] (fun i wr => ∃ k : Nat, k ≤ n ∧ i = .int .i64 k ∧ Below w.heap.size w wr) (fun i _ => n - (intOf i).toNat)
  case atStart => exact ⟨0, Nat.zero_le _, rfl, Below.refl _ _⟩
  case round =>
    obtain ⟨k, hk, rfl, hbr⟩ := hrel
    by_cases hlt : k < n
    · have hlt' : (k : Int) < (n : Int) := by omega
      obtain ⟨x, rfl⟩ : ∃ x, a = some x := by
        cases a with
        | none => have := Hs.out.1 rfl; omega
        | some x => exact ⟨x, rfl⟩
      obtain ⟨b, o, rfl, hbB, s, q0, _⟩ := (Hs.out.far hbr).2 x rfl k hlt
      have hself : (nameErr s.data.toList != nameErr s.data.toList) = false := by simp
      have hp := name_any s
      have hr := rname_any s
      generalize nameErr s.data.toList = E at hself hp hr
      have HB := Hid.mk hbr
      clear hbr
      go_wp2_with fail
      go_quiet (first | (go_at_call 17; refine Calls.quiet_of_same (hp _)) | (go_at_call 18; refine Calls.quiet_of_same (hr _)))
      go_wp2
      go_roundw
      case rel => exact ⟨k + 1, by omega, by go_num, below_drewN HB.out _⟩
      case measure => simp [intOf]; omega
    · have hlt' : ¬ (k : Int) < (n : Int) := by omega
      go_wp2
      go_ret
      exact ⟨rfl, hbr⟩
end Go.Proofs.Ytimfidcpljimpaa
