import Derived.Test.YthohoicgidjpfabGreatPDE
namespace Go.Proofs.YthohoicgidjpfabGreat
open Go.RowKit

/-- How many of n truths from i on are not. -/
def clrN (l : List Bool) (i : Nat) : Nat → Nat
  | 0 => 0
  | n + 1 => clrN l i n + (if l.getD (i + n) false = false then 1 else 0)
theorem clrN_le (l : List Bool) (i : Nat) : ∀ n, clrN l i n ≤ n
  | 0 => Nat.le_refl _
  | n + 1 => by
    have := clrN_le l i n
    unfold clrN
    split <;> omega
section
variable {w : World} {g c : Nat} {l : List Bool}
set_option maxRecDepth 20000 in
set_option maxHeartbeats 4000000 in
theorem clearIn_any (h : RowAt w 4 g c (bls l)) (hl : l.length = 4096) (lo n : Nat) (hn : lo + n ≤ 4096) :
    Calls Tryz.prog 116 #[slB g c, .int .i64 (lo : Int), .int .i64 ((lo + n : Nat) : Int)] w fun e w' => e = .returned (.int .i64 (clrN l lo n : Int)) ∧ w' = w := by
  have H := Hid.mk h
  obtain ⟨hi, hhi⟩ : ∃ hi, hi = lo + n := ⟨_, rfl⟩
  rw [← hhi]
  have HH := Hid.mk hhi
  have hi4 : hi ≤ 4096 := by omega
  clear h hhi hn
  go_enter Tryz.func116, Tryz.ntmps116
  go_wp2
  go_loopw [7, 8] (fun nv iv wr => ∃ j : Nat, j ≤ n ∧ iv = .int .i64 ((lo + j : Nat) : Int) ∧ nv = .int .i64 (clrN l lo j : Int) ∧ wr = w) (fun _ iv _ => hi - (intOf iv).toNat)
  case atStart => exact ⟨0, Nat.zero_le _, rfl, rfl, rfl⟩
  case round =>
    obtain ⟨j, hj, rfl, rfl, hwr⟩ := hrel
    subst hwr
    obtain ⟨m, hm⟩ : ∃ m, m = lo + j := ⟨_, rfl⟩
    rw [← hm]
    have HM := Hid.mk hm
    have hmj : j ≤ m := by omega
    clear hm
    have hle := clrN_le l lo j
    by_cases hlt : m < hi
    · have hlt' : (m : Int) < (hi : Int) := by omega
      have hm0 : (0 : Int) ≤ (m : Int) := by omega
      have hm4 : (m : Int) < 4096 := by omega
      have cm := H.out.truth (i := m) (by omega)
      have hst : clrN l lo (j + 1) = clrN l lo j + (if l.getD m false = false then 1 else 0) := by show _ + (if l.getD (lo + j) false = false then 1 else 0) = _; rw [← HM.out]
      obtain ⟨y, hy⟩ : ∃ y, y = clrN l lo j := ⟨_, rfl⟩
      rw [← hy] at hst hle ⊢
      clear hy
      cases hx : l.getD m false
      · rw [hx] at cm hst
        have HS : Hid (clrN l lo (j + 1) = y + 1) := hst
        clear hx hst
        go_wp2
        go_roundw
        case rel => exact ⟨j + 1, by have := HM.out; have := HH.out; omega, by rw [show lo + (j + 1) = m + 1 by have := HM.out; omega]; go_num, by rw [HS.out]; go_num, trivial⟩
        case measure => simp [intOf]; omega
      · rw [hx] at cm hst
        have HS : Hid (clrN l lo (j + 1) = y) := hst
        clear hx hst
        go_wp2
        go_roundw
        case rel => exact ⟨j + 1, by have := HM.out; have := HH.out; omega, by rw [show lo + (j + 1) = m + 1 by have := HM.out; omega]; go_num, by rw [HS.out], trivial⟩
        case measure => simp [intOf]; omega
    · have hlt' : ¬ (m : Int) < (hi : Int) := by omega
      have HJ : Hid (j = n) := by show j = n; have := HM.out; have := HH.out; omega
      go_wp2
      go_ret
      rw [HJ.out]
      exact ⟨rfl, rfl⟩
end
end Go.Proofs.YthohoicgidjpfabGreat
