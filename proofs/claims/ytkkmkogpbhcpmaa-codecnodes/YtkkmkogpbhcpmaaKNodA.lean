import Derived.Test.YtkkmkogpbhcpmaaKEnc
import Derived.Laws.StructEq
namespace Go.Proofs.Ytkkmkogpbhcpmaa
open Go.RowKit

/-- A node's cells: five numbers and twelve pointers. -/
abbrev ndc (k l p s o : Int) (d : Nat → Int) : Array Value := #[.int .i64 k, .int .i64 l, .int .i64 p, .int .i64 s, .int .i64 o, .int .i64 (d 0), .int .i64 (d 1), .int .i64 (d 2), .int .i64 (d 3), .int .i64 (d 4), .int .i64 (d 5), .int .i64 (d 6), .int .i64 (d 7), .int .i64 (d 8), .int .i64 (d 9), .int .i64 (d 10), .int .i64 (d 11)]
abbrev nd (k l p s o : Int) (d : Nat → Int) : Value := .agg (ndc k l p s o d)
/-- The ten pointers. -/
abbrev ten (d : Nat → Int) : Array Value := #[.int .i64 (d 0), .int .i64 (d 1), .int .i64 (d 2), .int .i64 (d 3), .int .i64 (d 4), .int .i64 (d 5), .int .i64 (d 6), .int .i64 (d 7), .int .i64 (d 8), .int .i64 (d 9)]
theorem ten_at (d : Nat → Int) (k : Nat) (h : k < 10) (w : World) : (Instr.index 74 (.agg (ten d)) (.int .i64 (k : Int))).run Try.prog w = .ok (.int .i64 (d k)) w := by
  match k, h with
  | 0, _ => simp [Instr.index, go_sem]
  | 1, _ => simp [Instr.index, go_sem]
  | 2, _ => simp [Instr.index, go_sem]
  | 3, _ => simp [Instr.index, go_sem]
  | 4, _ => simp [Instr.index, go_sem]
  | 5, _ => simp [Instr.index, go_sem]
  | 6, _ => simp [Instr.index, go_sem]
  | 7, _ => simp [Instr.index, go_sem]
  | 8, _ => simp [Instr.index, go_sem]
  | 9, _ => simp [Instr.index, go_sem]
/-- A call answers whether P. -/
def Says (P : Prop) (e : Ending) : Prop := ∃ b, e = .returned (.bool b) ∧ (b = true ↔ P)
theorem Says.yes {P : Prop} (h : P) : Says P (.returned (.bool true)) := ⟨true, rfl, ⟨fun _ => h, fun _ => rfl⟩⟩
theorem Says.no {P : Prop} (h : ¬ P) : Says P (.returned (.bool false)) := ⟨false, rfl, ⟨fun h => (by cases h), fun h' => absurd h' h⟩⟩
/-- A pointer fits. -/
def pfB (x : Int) : Bool := decide (0 ≤ x ∧ x ≤ 2047)
def PF (x : Int) : Prop := pfB x = true
theorem pf_iff (x : Int) : PF x ↔ 0 ≤ x ∧ x ≤ 2047 := by unfold PF pfB; exact decide_eq_true_iff
theorem pf_t {x : Int} (h : PF x) : pfB x = true := h
theorem pf_f {x : Int} (h : ¬ PF x) : pfB x = false := Bool.eq_false_iff.2 h

set_option maxRecDepth 20000 in
set_option maxHeartbeats 2000000 in
theorem pone (x : Int) (w : World) : Calls Try.prog 124 #[.int .i64 x] w fun e w' => e = .returned (.bool (pfB x)) ∧ w' = w := by
  by_cases h : 0 ≤ x
  · by_cases h' : x ≤ 2047
    · rw [pf_t ((pf_iff x).2 ⟨h, h'⟩)]
      go_enter Try.func124, Try.ntmps124
      go_wp2_with (go_at_call 114; go_in)
      go_ret
      exact ⟨rfl, rfl⟩
    · rw [pf_f (fun hh => h' ((pf_iff x).1 hh).2)]
      go_enter Try.func124, Try.ntmps124
      go_wp2_with (go_at_call 114; go_in)
      go_ret
      exact ⟨rfl, rfl⟩
  · rw [pf_f (fun hh => h ((pf_iff x).1 hh).1)]
    go_enter Try.func124, Try.ntmps124
    go_wp2_with (go_at_call 114; go_in)
    go_ret
    exact ⟨rfl, rfl⟩

set_option maxRecDepth 20000 in
set_option maxHeartbeats 2000000 in
theorem pfit_any (k l p s o : Int) (d : Nat → Int) (w : World) :
    Calls Try.prog 116 #[nd k l p s o d] w fun e w' => Says (∀ i, i < 12 → PF (d i)) e ∧ Below w.heap.size w w' := by
  have hp := fun x wx => pone x wx
  obtain ⟨w1, hw1⟩ : ∃ w1, w1 = w.alloc (.cells (ndc k l p s o d) 76) := ⟨_, rfl⟩
  have hB1 : Below w.heap.size w w1 := by rw [hw1]; exact (Below.refl _ w).alloc (Nat.le_refl _) _
  have hq1 : w1.heap[w.heap.size]? = some (.cells (ndc k l p s o d) 76 (0, 0)) := by rw [hw1]; exact heap_alloc_new _ _
  have cx := cell_of_block hq1 (j := 15) rfl
  have cy := cell_of_block hq1 (j := 16) rfl
  have HB := Hid.mk hB1
  clear hB1 hq1
  go_enter Try.func116, Try.ntmps116
  go_wp2
  rw [← hw1]
  clear hw1
  go_loopw [7] (fun i wr => ∃ k : Nat, k ≤ 10 ∧ i = .int .i64 k ∧ wr = w1 ∧ ∀ j, j < k → PF (d j)) (fun i _ => 10 - (intOf i).toNat)
  case atStart => exact ⟨0, Nat.zero_le _, rfl, rfl, fun j hj => by omega⟩
  case round =>
    obtain ⟨k, hk, rfl, hwr, hj⟩ := hrel
    subst hwr
    have HJ := Hid.mk hj
    clear hj
    by_cases hlt : k < 10
    · have hlt' : (k : Int) < 10 := by omega
      have hix := ten_at d k hlt wr
      have hpk := hp (d k) wr
      clear hp
      by_cases hf : PF (d k)
      · have HF := Hid.mk hf
        rw [pf_t hf] at hpk
        clear hf
        go_wp2_with fail
        refine hpk.mono ?_
        rintro e w' ⟨rfl, rfl⟩
        go_wp2
        go_roundw
        case rel =>
          refine ⟨k + 1, by omega, by go_num, trivial, fun j hj => ?_⟩
          by_cases e : j = k
          · rw [e]; exact HF.out
          · exact HJ.out j (by omega)
        case measure => simp [intOf]; omega
      · have HF : Hid (¬ ∀ i, i < 12 → PF (d i)) := fun h => hf (h k (by omega))
        rw [pf_f hf] at hpk
        clear hf
        go_wp2_with fail
        refine hpk.mono ?_
        rintro e w' ⟨rfl, rfl⟩
        go_wp2
        go_ret
        exact ⟨Says.no HF.out, HB.out⟩
    · have hlt' : ¬ (k : Int) < 10 := by omega
      have h10 := hp (d 10) wr
      have h11 := hp (d 11) wr
      have HX : Hid (∀ i, i < 12 → i ≠ 10 → i ≠ 11 → PF (d i)) := fun i hi h1 h2 => HJ.out i (by omega)
      clear hp HJ
      by_cases hf : PF (d 10)
      · rw [pf_t hf] at h10
        by_cases hg : PF (d 11)
        · rw [pf_t hg] at h11
          have HF : Hid (∀ i, i < 12 → PF (d i)) := fun i hi => by
            by_cases e : i = 10
            · rw [e]; exact hf
            · by_cases e' : i = 11
              · rw [e']; exact hg
              · exact HX.out i hi e e'
          clear hf hg
          go_wp2_with (first | (refine h10.mono ?_; rintro e w' ⟨rfl, rfl⟩) | (refine h11.mono ?_; rintro e w' ⟨rfl, rfl⟩))
          go_ret
          exact ⟨Says.yes HF.out, HB.out⟩
        · rw [pf_f hg] at h11
          have HF : Hid (¬ ∀ i, i < 12 → PF (d i)) := fun h => hg (h 11 (by omega))
          clear hf hg
          go_wp2_with (first | (refine h10.mono ?_; rintro e w' ⟨rfl, rfl⟩) | (refine h11.mono ?_; rintro e w' ⟨rfl, rfl⟩))
          go_ret
          exact ⟨Says.no HF.out, HB.out⟩
      · rw [pf_f hf] at h10
        have HF : Hid (¬ ∀ i, i < 12 → PF (d i)) := fun h => hf (h 10 (by omega))
        clear hf
        go_wp2_with (first | (refine h10.mono ?_; rintro e w' ⟨rfl, rfl⟩) | (refine h11.mono ?_; rintro e w' ⟨rfl, rfl⟩))
        go_ret
        exact ⟨Says.no HF.out, HB.out⟩
end Go.Proofs.Ytkkmkogpbhcpmaa
