import Derived.Test.YtodleeipefnadacKS13
namespace Go.Proofs.Ytodleeipefnadac
open Go.RowKit

theorem turn_least {a b : Int} : ∀ k : Nat, k < turnOf a b → (k : Int) = a ∨ (k : Int) = b := by
  intro k hk
  unfold turnOf at hk
  split at hk
  · omega
  · split at hk
    · next h1 h2 => omega
    · next h1 h2 => omega

set_option maxRecDepth 20000 in
set_option maxHeartbeats 4000000 in
theorem rseal_no1 (a : Option Addr) (n c : Nat) (a2 : Option Addr) (m c2 : Nat) (w : World) (hn : n ≠ 512) :
    Calls Try.prog 36 #[.slice a n c, .slice a2 m c2] w fun e w' => e = .returned (.tuple #[.slice none 0 0, .int .i64 2]) ∧ w' = w := by
  have h1 : (((n : Int)) != 512) = true := by rw [bne_iff_ne]; omega
  go_enter Try.func36, Try.ntmps36
  go_wp2
  go_ret2
  exact ⟨rfl, rfl⟩
set_option maxRecDepth 20000 in
set_option maxHeartbeats 4000000 in
theorem rseal_no2 (a : Option Addr) (c : Nat) (a2 : Option Addr) (m c2 : Nat) (w : World) (hm : 504 < m) :
    Calls Try.prog 36 #[.slice a 512 c, .slice a2 m c2] w fun e w' => e = .returned (.tuple #[.slice none 0 0, .int .i64 7]) ∧ w' = w := by
  have hm' : 504 < (m : Int) := by omega
  go_enter Try.func36, Try.ntmps36
  go_wp2
  go_ret2
  exact ⟨rfl, rfl⟩
set_option maxRecDepth 20000 in
set_option maxHeartbeats 4000000 in
theorem rseal_ok (b o c : Nat) (old : List Int) (a2 : Option Addr) (m c2 : Nat) (body : List Int) (w : World) (hs : Src w (some ⟨b, o, none⟩) 512 old) (hs2 : Src w a2 m body) (hm : m ≤ 504) (hb : Bytes body) (hbo : Bytes old) :
    Calls Try.prog 36 #[.slice (some ⟨b, o, none⟩) 512 c, .slice a2 m c2] w fun e w' => ∃ v, e = .returned (.tuple #[v, .int .i64 0]) ∧ Own w' w.heap.size v (sform (turnOf (old.getD 0 0) (old.getD 511 0)) body) ∧ Below w.heap.size w w' := by
  have hm' : ¬ 504 < (m : Int) := by omega
  have c0 := hs.2.2 _ rfl 0 (by omega)
  have c1 := hs.2.2 _ rfl 511 (by omega)
  rw [addr_add] at c0 c1
  rw [Nat.add_zero] at c0
  have hle := turnOf_le (old.getD 0 0) (old.getD 511 0)
  have Hm := Hid.mk (turn_least (a := old.getD 0 0) (b := old.getD 511 0))
  have Hn := Hid.mk (turnOf_ne (old.getD 0 0) (old.getD 511 0))
  have hf := Hid.mk (fun t (ht : t < 256) => rform_any t a2 m c2 body w ht hs2 hm hb)
  obtain ⟨x0, x1⟩ := hbo.getD 0
  obtain ⟨y0, y1⟩ := hbo.getD 511
  generalize old.getD 0 0 = x at *
  generalize old.getD 511 0 = y at *
  generalize turnOf x y = t at *
  clear hs hs2
  go_enter Try.func36, Try.ntmps36
  go_wp2
  go_loopw [6] (fun i wr => ∃ k : Nat, k ≤ t ∧ i = .int .i64 k ∧ wr = w) (fun i _ => t - (intOf i).toNat)
  case atStart => exact ⟨0, Nat.zero_le _, rfl, rfl⟩
  case round =>
    obtain ⟨k, hk, rfl, rfl⟩ := hrel
    by_cases hlt : k < t
    · by_cases h1 : (k : Int) = x
      · have q1 : (x == (k : Int)) = true := by rw [beq_iff_eq]; exact h1.symm
        clear h1
        go_wp2
        go_roundw
        case rel => exact ⟨k + 1, by omega, by go_num, trivial⟩
        case measure => simp [intOf]; omega
      · have h2 : (k : Int) = y := (Hm.out k hlt).resolve_left h1
        have q1 : (x == (k : Int)) = false := by rw [beq_eq_false_iff_ne]; exact fun h => h1 h.symm
        have q2 : (y == (k : Int)) = true := by rw [beq_iff_eq]; exact h2.symm
        clear h1 h2
        go_wp2
        go_roundw
        case rel => exact ⟨k + 1, by omega, by go_num, trivial⟩
        case measure => simp [intOf]; omega
    · obtain rfl : k = t := by omega
      have q1 : (x == (k : Int)) = false := by rw [beq_eq_false_iff_ne]; exact fun h => Hn.out.1 h.symm
      have q2 : (y == (k : Int)) = false := by rw [beq_eq_false_iff_ne]; exact fun h => Hn.out.2 h.symm
      go_wp2_with fail
      refine (hf.out k (by omega)).mono ?_
      rintro e w1 ⟨v, rfl, ho, hb1⟩
      have HH := Hid.mk (And.intro ho hb1)
      clear hf ho hb1
      go_wp2
      go_ret2
      exact ⟨v, rfl, HH.out⟩
end Go.Proofs.Ytodleeipefnadac
