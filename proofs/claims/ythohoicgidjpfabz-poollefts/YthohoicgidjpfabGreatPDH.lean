import Derived.Test.YthohoicgidjpfabGreatPDE
namespace Go.Proofs.YthohoicgidjpfabGreat
open Go.RowKit

/-- What lowest answers. -/
def lowA : Option Nat → Int
  | none => -1
  | some i => (i : Int)
section
variable {w : World} {g c : Nat} {l : List Bool}
set_option maxRecDepth 20000 in
set_option maxHeartbeats 4000000 in
theorem lowest_any (h : RowAt w 4 g c (bls l)) (hl : l.length = 4096) (lo n : Nat) (hn : lo + n ≤ 4096) :
    Calls Tryz.prog 109 #[slB g c, .int .i64 (lo : Int), .int .i64 ((lo + n : Nat) : Int)] w fun e w' => e = .returned (.int .i64 (lowA (lowBit (bmOf l) lo n))) ∧ w' = w := by
  obtain ⟨R, hR⟩ : ∃ R, R = lowBit (bmOf l) lo n := ⟨_, rfl⟩
  rw [← hR]
  have H := Hid.mk (And.intro h hR)
  obtain ⟨hi, hhi⟩ : ∃ hi, hi = lo + n := ⟨_, rfl⟩
  rw [← hhi]
  clear h hR
  go_enter Tryz.func109, Tryz.ntmps109
  go_wp2
  go_loopw [7] (fun iv wr => ∃ j : Nat, j ≤ n ∧ iv = .int .i64 ((lo + j : Nat) : Int) ∧ (∀ i, lo ≤ i → i < lo + j → bitOf (bmOf l) i = true) ∧ wr = w) (fun iv _ => hi - (intOf iv).toNat)
  case atStart => exact ⟨0, Nat.zero_le _, rfl, fun i h1 h2 => by omega, rfl⟩
  case round =>
    obtain ⟨j, hj, rfl, hall, hwr⟩ := hrel
    subst hwr
    obtain ⟨m, hm⟩ : ∃ m, m = lo + j := ⟨_, rfl⟩
    rw [← hm] at hall ⊢
    by_cases hlt : m < hi
    · have hlt' : (m : Int) < (hi : Int) := by omega
      have hm0 : (0 : Int) ≤ (m : Int) := by omega
      have hm4 : (m : Int) < 4096 := by omega
      have cm := H.out.1.truth (i := m) (by omega)
      have hbm := bm_bit l (i := m) (by omega)
      have hsk := lowBit_skip (l := bmOf l) (k := j) (n := n - j) (a := lo) (fun i h1 h2 => hall i h1 (by omega))
      cases hx : l.getD m false
      · rw [hx] at cm hbm
        have HR : Hid (R = some m) := by
          show R = some m
          rw [H.out.2, show n = j + (n - j) by omega, hsk, ← hm, show n - j = (n - j - 1) + 1 by omega]
          unfold lowBit
          rw [if_pos hbm]
        clear hx hbm hsk hall hm hhi
        go_wp2
        go_ret
        rw [HR.out]
        exact ⟨rfl, rfl⟩
      · rw [hx] at cm hbm
        have HA : Hid (∀ i, lo ≤ i → i < lo + (j + 1) → bitOf (bmOf l) i = true) := fun i h1 h2 => by
          by_cases e : i = m
          · rw [e]; exact hbm
          · exact hall i h1 (by omega)
        have HM := Hid.mk (And.intro hm hhi)
        clear hx hbm hsk hall hm hhi
        go_wp2
        go_roundw
        case rel => exact ⟨j + 1, by have := HM.out; omega, by rw [show lo + (j + 1) = m + 1 by have := HM.out; omega]; go_num, HA.out, trivial⟩
        case measure => simp [intOf]; omega
    · have hlt' : ¬ (m : Int) < (hi : Int) := by omega
      have hjn : j = n := by omega
      have HR : Hid (R = none) := by
        show R = none
        rw [H.out.2]
        cases e : lowBit (bmOf l) lo n with
        | none => rfl
        | some b =>
          obtain ⟨q1, q2, q3, _⟩ := lowBit_some e
          rw [hall b q1 (by omega)] at q3
          cases q3
      clear hall hm hhi
      go_wp2
      go_ret
      rw [HR.out]
      exact ⟨rfl, rfl⟩
end
end Go.Proofs.YthohoicgidjpfabGreat
