import Derived.Test.YtkdjjnkhbmmfeaaFE7
namespace Go.Proofs.Ytkdjjnkhbmmfeaa
open Go.RowKit Go.Maps

/-- A new slice of Booleans. -/
theorem make_bools (W : World) (n : Nat) (hn : n ≤ 1000000) : ∃ w1, (Instr.makeSlice 54 (.int .i64 ((n : Int) + 1)) (.int .i64 ((n : Int) + 1))).run Try.prog W = .ok (.slice (some ⟨W.heap.size, 0, none⟩) (n + 1) (n + 1)) w1 ∧ BL w1 W.heap.size (List.replicate (n + 1) false) ∧ Below W.heap.size W w1 := by
  obtain ⟨i0, hi, hz0, hz1, hz2⟩ := info_parts infoBool
  obtain ⟨w1, hmk, hown, hgrow⟩ := run_makeSlice_full (P := Try.prog) W W.heap.size 54 4 i0 (.bool false) 1 Try.underlying54 hi hz0 hz1 .i64 .i64 (n + 1) (by omega) (by rw [hz2]; omega) (by unfold maxLen; omega) (Nat.le_refl _)
  have hcast : ((n + 1 : Nat) : Int) = (n : Int) + 1 := by omega
  rw [hcast] at hmk
  refine ⟨w1, hmk, ?_, (Below.refl _ W).grown hgrow (Nat.le_refl _) (by intro k hk; cases hk)⟩
  obtain ⟨_, ⟨e, _⟩ | ⟨g, cap, cur, e, _, hb, _, _, hcs, htk⟩⟩ := hown
  · cases e
  · cases e
    unfold BL
    rw [hb]
    have e1 : cur.toList = (List.replicate (n + 1) false).map Value.bool := by
      rw [List.take_of_length_le (by simp [hcs])] at htk
      rw [htk, Nat.mul_one]
      show (madeCells #[Value.bool false] (n + 1)).toList = _
      rw [toList_madeCells_one]
      simp
    rw [← e1]
/-- What the round before has laid for a place. -/
def Qd (p : Pc) (A : Nat → Bool) (u : List Int) : Nat → Bool
  | 0 => false
  | k + 1 => (A k || (p.many && stepD p A u k)) && takesP p (u.getD k 0)
theorem step_Q (p : Pc) (A : Nat → Bool) (u : List Int) (k : Nat) : stepD p A u k = ((p.many && A k) || Qd p A u k) := by
  cases k with
  | zero => simp [stepD, Qd]
  | succ k => rfl
/-- The next table while it is laid, ahead of place k and behind its first test. -/
def rowD (p : Pc) (A : Nat → Bool) (u : List Int) (n k : Nat) : List Bool := (List.range (n + 1)).map (fun j => if j < k then stepD p A u j else if j = k then Qd p A u k else false)
def rowE (p : Pc) (A : Nat → Bool) (u : List Int) (n k : Nat) : List Bool := (List.range (n + 1)).map (fun j => if j ≤ k then stepD p A u j else false)
def rowT (A : Nat → Bool) (n : Nat) : List Bool := (List.range (n + 1)).map A
theorem rowT_len (A : Nat → Bool) (n : Nat) : (rowT A n).length = n + 1 := by simp [rowT]
theorem rowT_at (A : Nat → Bool) (n : Nat) {k : Nat} (hk : k ≤ n) : (rowT A n).getD k false = A k := by
  simp [rowT, List.getD, show k < n + 1 by omega]
theorem rowE_len (p : Pc) (A : Nat → Bool) (u : List Int) (n k : Nat) : (rowE p A u n k).length = n + 1 := by simp [rowE]
theorem rowE_at (p : Pc) (A : Nat → Bool) (u : List Int) {n k : Nat} (hk : k ≤ n) : (rowE p A u n k).getD k false = stepD p A u k := by
  simp [rowE, List.getD, show k < n + 1 by omega]
theorem rowD_len (p : Pc) (A : Nat → Bool) (u : List Int) (n k : Nat) : (rowD p A u n k).length = n + 1 := by simp [rowD]
theorem rowD_zero (p : Pc) (A : Nat → Bool) (u : List Int) (n : Nat) : rowD p A u n 0 = List.replicate (n + 1) false := by
  refine List.ext_getElem (by simp [rowD]) (fun j h1 h2 => ?_)
  simp only [rowD, List.getElem_map, List.getElem_range, List.getElem_replicate, Nat.not_lt_zero, if_false]
  split <;> rfl
theorem rowE_yes (p : Pc) (A : Nat → Bool) (u : List Int) {n k : Nat} (h : (A k && p.many) = true) : (rowD p A u n k).set k true = rowE p A u n k := by
  have hs : stepD p A u k = true := by rw [step_Q, Bool.and_comm, h]; rfl
  refine List.ext_getElem (by simp [rowD, rowE]) (fun j h1 h2 => ?_)
  rw [List.getElem_set]
  simp only [rowD, rowE, List.getElem_map, List.getElem_range]
  by_cases e : k = j
  · subst e; rw [if_pos rfl, if_pos (Nat.le_refl _), hs]
  · rw [if_neg e]
    by_cases e2 : j < k
    · rw [if_pos e2, if_pos (by omega)]
    · rw [if_neg e2, if_neg (by omega), if_neg (by omega)]
theorem rowE_no (p : Pc) (A : Nat → Bool) (u : List Int) {n k : Nat} (h : (A k && p.many) = false) : rowD p A u n k = rowE p A u n k := by
  have hs : stepD p A u k = Qd p A u k := by rw [step_Q, Bool.and_comm, h]; rfl
  refine List.ext_getElem (by simp [rowD, rowE]) (fun j h1 h2 => ?_)
  simp only [rowD, rowE, List.getElem_map, List.getElem_range]
  by_cases e : j = k
  · subst e; rw [if_neg (Nat.lt_irrefl _), if_pos rfl, if_pos (Nat.le_refl _), hs]
  · by_cases e2 : j < k
    · rw [if_pos e2, if_pos (by omega)]
    · rw [if_neg e2, if_neg e, if_neg (by omega)]
theorem rowD_yes (p : Pc) (A : Nat → Bool) (u : List Int) {n k : Nat} (h : Qd p A u (k + 1) = true) : (rowE p A u n k).set (k + 1) true = rowD p A u n (k + 1) := by
  refine List.ext_getElem (by simp [rowD, rowE]) (fun j h1 h2 => ?_)
  rw [List.getElem_set]
  simp only [rowD, rowE, List.getElem_map, List.getElem_range]
  by_cases e : k + 1 = j
  · subst e; rw [if_pos rfl, if_neg (Nat.lt_irrefl _), if_pos rfl, h]
  · rw [if_neg e]
    by_cases e2 : j ≤ k
    · rw [if_pos e2, if_pos (by omega)]
    · rw [if_neg e2, if_neg (by omega), if_neg (by omega)]
theorem rowD_no (p : Pc) (A : Nat → Bool) (u : List Int) {n k : Nat} (h : Qd p A u (k + 1) = false ∨ n ≤ k) : rowE p A u n k = rowD p A u n (k + 1) := by
  refine List.ext_getElem (by simp [rowD, rowE]) (fun j h1 h2 => ?_)
  have hj : j < n + 1 := by simpa [rowE] using h1
  simp only [rowD, rowE, List.getElem_map, List.getElem_range]
  by_cases e : j = k + 1
  · subst e
    rw [if_neg (by omega), if_neg (Nat.lt_irrefl _), if_pos rfl]
    rcases h with h | h
    · rw [h]
    · omega
  · by_cases e2 : j ≤ k
    · rw [if_pos e2, if_pos (by omega)]
    · rw [if_neg e2, if_neg (by omega), if_neg e]
theorem rowD_end (p : Pc) (A : Nat → Bool) (u : List Int) (n : Nat) : rowD p A u n (n + 1) = rowT (stepD p A u) n := by
  refine List.ext_getElem (by simp [rowD, rowT]) (fun j h1 h2 => ?_)
  have hj : j < n + 1 := by simpa [rowD] using h1
  simp only [rowD, rowT, List.getElem_map, List.getElem_range]
  rw [if_pos hj]
theorem tab_start (u : List Int) (n : Nat) : (List.replicate (n + 1) false).set 0 true = rowT (tabR u []) n := by
  refine List.ext_getElem (by simp [rowT]) (fun j h1 h2 => ?_)
  rw [List.getElem_set]
  simp only [rowT, List.getElem_map, List.getElem_range, List.getElem_replicate, tabR]
  by_cases e : 0 = j
  · subst e; rfl
  · rw [if_neg e]
    exact (decide_eq_false (by omega)).symm
theorem tab_next (u : List Int) (ps : List Pc) {i : Nat} (hi : i < ps.length) : stepD ps[i] (tabR u (ps.take i).reverse) u = tabR u (ps.take (i + 1)).reverse := by
  rw [take_rev ps hi]
  rfl
end Go.Proofs.Ytkdjjnkhbmmfeaa
