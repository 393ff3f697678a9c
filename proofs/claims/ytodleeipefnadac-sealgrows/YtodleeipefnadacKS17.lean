import Derived.Test.YtodleeipefnadacKS15
namespace Go.Proofs.Ytodleeipefnadac
open Go.RowKit

set_option maxRecDepth 20000 in
set_option maxHeartbeats 2000000 in
theorem rsame_ne (a b : Option Addr) (n m c d : Nat) (w : World) (h : n ≠ m) :
    Calls Try.prog 62 #[.slice a n c, .slice b m d] w fun e w' => e = .returned (.bool false) ∧ w' = w := by
  have h' : (((n : Int)) != (m : Int)) = true := by rw [bne_iff_ne]; omega
  go_enter Try.func62, Try.ntmps62
  go_wp2
  go_ret
  exact ⟨rfl, rfl⟩
set_option maxRecDepth 20000 in
set_option maxHeartbeats 2000000 in
theorem rsame_low (b o b' o' : Nat) (n c d : Nat) (l l' : List Int) (w : World) (hn : n ≤ 140737488355328) (hl : l.length = n) (hl' : l'.length = n) (h1 : ∀ i, i < n → w.cell? ⟨b, o + i, none⟩ = some (.int .u8 (l.getD i 0))) (h2 : ∀ i, i < n → w.cell? ⟨b', o' + i, none⟩ = some (.int .u8 (l'.getD i 0))) :
    Calls Try.prog 62 #[.slice (some ⟨b, o, none⟩) n c, .slice (some ⟨b', o', none⟩) n d] w fun e w' => e = .returned (.bool (decide (l = l'))) ∧ Below w.heap.size w w' := by
  have h' : (((n : Int)) != (n : Int)) = false := by simp
  have H1 := Hid.mk h1
  have H2 := Hid.mk h2
  clear h1 h2
  go_enter Try.func62, Try.ntmps62
  go_wp2
  go_loopw [5] (fun i wr => ∃ k : Nat, k ≤ n ∧ i = .int .i64 k ∧ l.take k = l'.take k ∧ Below w.heap.size w wr) (fun i _ => n - (intOf i).toNat)
  case atStart => exact ⟨0, Nat.zero_le _, rfl, by simp, Below.refl _ _⟩
  case round =>
    obtain ⟨k, hk, rfl, htk, hb⟩ := hrel
    have Htk := Hid.mk htk
    clear htk
    by_cases hlt : k < n
    · have c1 := cell_later hb (H1.out k hlt)
      have c2 := cell_later hb (H2.out k hlt)
      have hlt' : (k : Int) < (n : Int) := by omega
      by_cases hx : l.getD k 0 = l'.getD k 0
      · have Hnx := Hid.mk (take_eq_next Htk.out (by omega) (by omega) hx)
        have hb2 := Hid.mk (fun j => below_drewN hb j)
        rw [hx] at c1
        generalize l'.getD k 0 = x at *
        clear hx
        go_wp2
        go_quiet (fail)
        go_wp2
        go_roundw
        case rel => exact ⟨k + 1, by omega, by go_num, Hnx.out, below_drewN hb _⟩
        case measure => simp [intOf]; omega
      · have hne : l ≠ l' := ne_of_getD hx
        have hd : Hid (decide (l = l') = false) := by show decide (l = l') = false; simp [hne]
        have hxx : ((l.getD k 0) != (l'.getD k 0)) = true := by rw [bne_iff_ne]; exact hx
        generalize l'.getD k 0 = x at *
        generalize l.getD k 0 = y at *
        clear hx hne
        go_wp2
        go_quiet (fail)
        go_wp2
        go_ret
        exact ⟨by rw [hd.out]; rfl, below_drewN hb _⟩
    · have hlt' : ¬ (k : Int) < (n : Int) := by omega
      have hd : Hid (decide (l = l') = true) := by
        have := Htk.out
        rw [List.take_of_length_le (by omega), List.take_of_length_le (by omega)] at this
        show decide (l = l') = true
        simp [this]
      go_wp2
      go_ret
      exact ⟨by rw [hd.out]; rfl, hb⟩
set_option maxRecDepth 20000 in
set_option maxHeartbeats 1000000 in
theorem rsame_zero (a b : Option Addr) (c d : Nat) (w : World) :
    Calls Try.prog 62 #[.slice a 0 c, .slice b 0 d] w fun e w' => e = .returned (.bool true) ∧ w' = w := by
  go_enter Try.func62, Try.ntmps62
  go_wp2
  refine wp_loop_rounds 1 ?_; rw [rounds_succ]; go_wp2
  go_ret
  exact ⟨rfl, rfl⟩
theorem rsame_any (a b : Option Addr) (n m c d : Nat) (l l' : List Int) (w : World) (hn : n ≤ 140737488355328) (h1 : Src w a n l) (h2 : Src w b m l') :
    Calls Try.prog 62 #[.slice a n c, .slice b m d] w fun e w' => e = .returned (.bool (decide (l = l'))) ∧ Below w.heap.size w w' := by
  by_cases hnm : n = m
  · subst hnm
    by_cases h0 : n = 0
    · subst h0
      have e1 := List.eq_nil_of_length_eq_zero h1.1
      have e2 := List.eq_nil_of_length_eq_zero h2.1
      subst e1 e2
      exact (rsame_zero a b c d w).mono (by rintro e w' ⟨rfl, rfl⟩; exact ⟨rfl, Below.refl _ _⟩)
    · cases a with
      | none => exact absurd (h1.2.1 rfl) h0
      | some x =>
        cases b with
        | none => exact absurd (h2.2.1 rfl) h0
        | some y =>
          obtain ⟨b1, o1, rfl, k1⟩ := h1.spot (by omega)
          obtain ⟨b2, o2, rfl, k2⟩ := h2.spot (by omega)
          exact rsame_low b1 o1 b2 o2 n c d l l' w hn h1.1 h2.1 k1 k2
  · have hd : decide (l = l') = false := by
      have : l ≠ l' := fun e => hnm (by rw [← h1.1, ← h2.1, e])
      simp [this]
    rw [hd]
    exact (rsame_ne a b n m c d w hnm).mono (by rintro e w' ⟨rfl, rfl⟩; exact ⟨rfl, Below.refl _ _⟩)

end Go.Proofs.Ytodleeipefnadac
