import Derived.Test.YtalokopnagpgcaaDoorSJ3
namespace Go.Proofs.YtalokopnagpgcaaDoor
open Go.RowKit Go.Maps

def hexI (n : Nat) : Int := match hexN n with
  | none => -1
  | some d => (d : Int)
set_option maxRecDepth 20000 in
theorem hexN_eq : ∀ n : Nat, n < 256 → hexN n = if 48 ≤ n ∧ n ≤ 57 then some (n - 48) else if 97 ≤ n ∧ n ≤ 102 then some (n - 87) else if 65 ≤ n ∧ n ≤ 70 then some (n - 55) else none := by decide
set_option maxRecDepth 20000 in
set_option maxHeartbeats 4000000 in
theorem rhex_any (n : Nat) (hn : n < 256) (w : World) :
    Calls Tryd.prog 25 #[.int .u8 n] w fun e w' => e = .returned (.int .i64 (hexI n)) ∧ w' = w := by
  have he := hexN_eq n hn
  by_cases h1 : 48 ≤ n ∧ n ≤ 57
  · rw [if_pos h1] at he
    have hI : hexI n = ((n - 48 : Nat) : Int) := by unfold hexI; rw [he]
    rw [hI]
    have a1 : (48 : Int) ≤ (n : Int) := by omega
    have a2 : (n : Int) ≤ 57 := by omega
    have a3 : IntKind.u8.wrap ((n : Int) - 48) = ((n - 48 : Nat) : Int) := by rw [IntKind.wrap_u8]; omega
    have a4 : IntKind.i64.wrap ((n - 48 : Nat) : Int) = ((n - 48 : Nat) : Int) := by rw [IntKind.wrap_i64]; omega
    clear he hI h1
    generalize n - 48 = d at *
    go_enter Tryd.func25, Tryd.ntmps25
    go_wp2
    go_ret
    exact ⟨rfl, rfl⟩
  · rw [if_neg h1] at he
    have b0 : (n : Int) < 48 ∨ ((48 : Int) ≤ (n : Int) ∧ 57 < (n : Int)) := by omega
    by_cases h2 : 97 ≤ n ∧ n ≤ 102
    · rw [if_pos h2] at he
      have hI : hexI n = ((n - 87 : Nat) : Int) := by unfold hexI; rw [he]
      rw [hI]
      have a0 : (48 : Int) ≤ (n : Int) := by omega
      have a0' : ¬ ((n : Int) ≤ 57) := by omega
      have a1 : (97 : Int) ≤ (n : Int) := by omega
      have a2 : (n : Int) ≤ 102 := by omega
      have a3 : IntKind.u8.wrap ((n : Int) - 97) = ((n - 97 : Nat) : Int) := by rw [IntKind.wrap_u8]; omega
      have a4 : IntKind.i64.wrap ((n - 97 : Nat) : Int) = ((n - 97 : Nat) : Int) := by rw [IntKind.wrap_i64]; omega
      have a5 : wrap64 (((n - 97 : Nat) : Int) + 10) = ((n - 87 : Nat) : Int) := by simp [wrap64]; omega
      clear he hI h1 b0 h2
      generalize n - 87 = d at *
      generalize n - 97 = d0 at *
      go_enter Tryd.func25, Tryd.ntmps25
      go_wp2
      go_ret
      exact ⟨by first | rfl | rw [a5], rfl⟩
    · rw [if_neg h2] at he
      by_cases h3 : 65 ≤ n ∧ n ≤ 70
      · rw [if_pos h3] at he
        have hI : hexI n = ((n - 55 : Nat) : Int) := by unfold hexI; rw [he]
        rw [hI]
        have a0 : (48 : Int) ≤ (n : Int) := by omega
        have a0' : ¬ ((n : Int) ≤ 57) := by omega
        have a0'' : ¬ ((97 : Int) ≤ (n : Int)) := by omega
        have a1 : (65 : Int) ≤ (n : Int) := by omega
        have a2 : (n : Int) ≤ 70 := by omega
        have a3 : IntKind.u8.wrap ((n : Int) - 65) = ((n - 65 : Nat) : Int) := by rw [IntKind.wrap_u8]; omega
        have a4 : IntKind.i64.wrap ((n - 65 : Nat) : Int) = ((n - 65 : Nat) : Int) := by rw [IntKind.wrap_i64]; omega
        have a5 : wrap64 (((n - 65 : Nat) : Int) + 10) = ((n - 55 : Nat) : Int) := by simp [wrap64]; omega
        clear he hI h1 b0 h2 h3
        generalize n - 55 = d at *
        generalize n - 65 = d0 at *
        go_enter Tryd.func25, Tryd.ntmps25
        go_wp2
        go_ret
        exact ⟨by first | rfl | rw [a5], rfl⟩
      · rw [if_neg h3] at he
        have hI : hexI n = -1 := by unfold hexI; rw [he]
        rw [hI]
        have hc : ((n : Int) < 48) ∨ ((48 : Int) ≤ (n : Int) ∧ ¬ ((n : Int) ≤ 57) ∧ ¬ ((65 : Int) ≤ (n : Int))) ∨ (¬ ((n : Int) ≤ 70) ∧ (48 : Int) ≤ (n : Int) ∧ ¬ ((n : Int) ≤ 57) ∧ (65 : Int) ≤ (n : Int) ∧ ¬ ((97 : Int) ≤ (n : Int))) ∨ (¬ ((n : Int) ≤ 102) ∧ (97 : Int) ≤ (n : Int) ∧ ¬ ((n : Int) ≤ 70)) := by omega
        clear he hI h1 b0 h2 h3
        rcases hc with c1 | ⟨c1, c2, c3⟩ | ⟨c1, c2, c3, c4, c5⟩ | ⟨c1, c2, c3⟩
        · have x1 : ¬ ((48 : Int) ≤ (n : Int)) := by omega
          have x2 : ¬ ((97 : Int) ≤ (n : Int)) := by omega
          have x3 : ¬ ((65 : Int) ≤ (n : Int)) := by omega
          go_enter Tryd.func25, Tryd.ntmps25
          go_wp2
          go_ret
          exact ⟨rfl, rfl⟩
        · have x2 : ¬ ((97 : Int) ≤ (n : Int)) := by omega
          go_enter Tryd.func25, Tryd.ntmps25
          go_wp2
          go_ret
          exact ⟨rfl, rfl⟩
        · go_enter Tryd.func25, Tryd.ntmps25
          go_wp2
          go_ret
          exact ⟨rfl, rfl⟩
        · have x1 : (48 : Int) ≤ (n : Int) := by omega
          have x2 : ¬ ((n : Int) ≤ 57) := by omega
          have x3 : (65 : Int) ≤ (n : Int) := by omega
          go_enter Tryd.func25, Tryd.ntmps25
          go_wp2
          go_ret
          exact ⟨rfl, rfl⟩
end Go.Proofs.YtalokopnagpgcaaDoor
