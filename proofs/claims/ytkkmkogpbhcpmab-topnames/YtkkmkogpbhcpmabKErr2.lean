import Derived.Test.YtkkmkogpbhcpmabKErr1
namespace Go.Proofs.Ytkkmkogpbhcpmab
open Go.RowKit

set_option maxRecDepth 40000 in
set_option maxHeartbeats 16000000 in
theorem err_walk (e : Int) (w : World) :
    Calls Try.prog 79 #[.int .i64 e] w fun r w' => (∃ s, r = .returned (.string s) ∧ ((∃ k, k < 52 ∧ errNo k = e ∧ s = errWd k) ∨ ((∀ k, k < 52 → errNo k ≠ e) ∧ s = ⟨#[101, 114, 114, 111, 114]⟩))) ∧ Below w.heap.size w w' := by
  have HI := Hid.mk err_idx
  have HB0 := Hid.mk (Below.refl w.heap.size w)
  go_enter Try.func79, Try.ntmps79
  go_wp2
  change Code.wp _ _ _ { tmps := List.toArray (_ :: _ :: _ :: _ :: _ :: _ :: _ :: _ :: _ :: _ :: _ :: _ :: _ :: _ :: _ :: _ :: _ :: _ :: _ :: _ :: _ :: _ :: _ :: _ :: _ :: _ :: _ :: _ :: _ :: _ :: _ :: _ :: _ :: _ :: _ :: _ :: _ :: _ :: _ :: _ :: _ :: _ :: _ :: _ :: _ :: _ :: _ :: _ :: _ :: _ :: _ :: _ :: _ :: _ :: _ :: _ :: _ :: Value.agg errA :: _ :: _ :: _ :: _ :: _ :: _ :: _ :: _ :: _ :: _ :: []), defers := [] } w
  generalize Value.agg errA = T at *
  go_loopw [58] (fun i wr => ∃ k : Nat, k ≤ 52 ∧ i = .int .i64 k ∧ Below w.heap.size w wr ∧ ∀ j, j < k → errNo j ≠ e) (fun i _ => 52 - (intOf i).toNat)
  case atStart => exact ⟨0, Nat.zero_le _, rfl, HB0.out, fun j hj => by omega⟩
  case round =>
    clear HB0
    obtain ⟨k, hk, rfl, hB, hall⟩ := hrel
    have HA := Hid.mk hall
    by_cases hlt : k < 52
    · have hlt' : (k : Int) < 52 := by omega
      have hix := HI.out k hlt wr
      have HB := Hid.mk (fun ob => hB.alloc hB.size ob)
      clear hall hB HI
      by_cases hN : errNo k = e
      · have HF : Hid (∃ j, j < 52 ∧ errNo j = e ∧ errWd k = errWd j) := ⟨k, hlt, hN, rfl⟩
        have he : (errNo k == e) = true := by rw [beq_iff_eq]; exact hN
        clear HA hN
        generalize errNo k = N at *
        generalize errWd k = S at *
        go_wp2
        go_ret
        exact ⟨⟨S, rfl, .inl HF.out⟩, HB.out _⟩
      · have HF : Hid (∀ j, j < k + 1 → errNo j ≠ e) := fun j hj => by
          by_cases h : j = k
          · rw [h]; exact hN
          · exact HA.out j (by omega)
        have he : (errNo k == e) = false := by rw [Bool.eq_false_iff, ne_eq, beq_iff_eq]; exact hN
        clear HA hN
        generalize errNo k = N at *
        generalize errWd k = S at *
        go_wp2
        go_roundw
        case rel => exact ⟨k + 1, by omega, by go_num, HB.out _, HF.out⟩
        case measure => simp [intOf]; omega
    · have hlt' : ¬ (k : Int) < 52 := by omega
      have HB := Hid.mk hB
      clear hB hall HI
      go_wp2
      go_ret
      exact ⟨⟨_, rfl, .inr ⟨fun j hj => HA.out j (by omega), rfl⟩⟩, HB.out⟩
end Go.Proofs.Ytkkmkogpbhcpmab
