import Derived.Test.YtkkmkogpbhcpmabKErr4
namespace Go.Proofs.Ytkkmkogpbhcpmab
open Go.RowKit

theorem top_errors (w : World) : Calls Try.prog 39 #[] w fun r w' => r = .returned (.bool true) ∧ w' = w := by
  go_enter Try.func39, Try.ntmps39
  go_wp2
  go_ret
  exact ⟨rfl, rfl⟩
theorem top_numbers (w : World) : Calls Try.prog 40 #[] w fun r w' => r = .returned (.bool true) ∧ w' = w := by
  go_enter Try.func40, Try.ntmps40
  go_wp2
  go_ret
  exact ⟨rfl, rfl⟩
theorem top_kinds (w : World) : Calls Try.prog 41 #[] w fun r w' => r = .returned (.bool true) ∧ w' = w := by
  go_enter Try.func41, Try.ntmps41
  go_wp2
  go_ret
  exact ⟨rfl, rfl⟩
theorem top_faults (w : World) : Calls Try.prog 42 #[] w fun r w' => r = .returned (.bool true) ∧ w' = w := by
  go_enter Try.func42, Try.ntmps42
  go_wp2
  go_ret
  exact ⟨rfl, rfl⟩
theorem top_losses (w : World) : Calls Try.prog 43 #[] w fun r w' => r = .returned (.bool true) ∧ w' = w := by
  go_enter Try.func43, Try.ntmps43
  go_wp2
  go_ret
  exact ⟨rfl, rfl⟩

set_option maxRecDepth 20000 in
set_option maxHeartbeats 4000000 in
theorem topNames_any (w : World) : Calls Try.prog 8 #[] w fun r w' => r = .returned (.bool true) ∧ Below w.heap.size w w' := by
  have h1 := Hid.mk top_errors
  have h2 := Hid.mk top_numbers
  have h3 := Hid.mk top_kinds
  have h4 := Hid.mk top_faults
  have h5 := Hid.mk top_losses
  have h6 := Hid.mk words_any
  go_enter Try.func8, Try.ntmps8
  go_wp2_with fail
  refine (h1.out _).mono ?_
  rintro e w1 ⟨rfl, rfl⟩
  go_wp2_with fail
  refine (h2.out _).mono ?_
  rintro e w1 ⟨rfl, rfl⟩
  go_wp2_with fail
  refine (h3.out _).mono ?_
  rintro e w1 ⟨rfl, rfl⟩
  go_wp2_with fail
  refine (h4.out _).mono ?_
  rintro e w1 ⟨rfl, rfl⟩
  go_wp2_with fail
  refine (h5.out _).mono ?_
  rintro e w1 ⟨rfl, rfl⟩
  go_wp2_with fail
  refine (h6.out _).mono ?_
  rintro e w2 ⟨rfl, hb⟩
  have HB := Hid.mk hb
  clear hb
  go_wp2
  go_ret
  exact ⟨rfl, HB.out⟩
end Go.Proofs.Ytkkmkogpbhcpmab
