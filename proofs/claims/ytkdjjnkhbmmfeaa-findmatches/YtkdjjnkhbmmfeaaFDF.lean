import Derived.Test.YtkdjjnkhbmmfeaaFDE
namespace Go.Proofs.Ytkdjjnkhbmmfeaa
open Go.RowKit Go.Maps

theorem getD_set {R : List Bool} {i j : Nat} {x : Bool} : (R.set i x).getD j false = if i = j ∧ j < R.length then x else R.getD j false := by
  by_cases e : i = j
  · subst e
    by_cases h : i < R.length
    · simp [List.getD, h]
    · simp [List.getD, h]
  · simp [List.getD, List.getElem?_set_ne e, e]
theorem pass_high (ps : List Pc) (R : List Bool) : ∀ (k j : Nat), k < j → (passTo ps R k).getD j false = R.getD j false
  | 0, _, _ => rfl
  | k + 1, j, h => by
    have ih := pass_high ps R k j (by omega)
    unfold passTo
    split
    · rw [getD_set, if_neg (by omega)]; exact ih
    · exact ih
theorem pass_low (ps : List Pc) (R : List Bool) (j : Nat) : ∀ (k : Nat), j ≤ k → (passTo ps R k).getD j false = (passTo ps R j).getD j false
  | 0, h => by
    obtain rfl : j = 0 := by omega
    rfl
  | k + 1, h => by
    by_cases e : j = k + 1
    · subst e; rfl
    · have ih := pass_low ps R j k (by omega)
      rw [← ih]
      show (if (manyAt ps k && (passTo ps R k).getD k false) = true then (passTo ps R k).set (k + 1) true else passTo ps R k).getD j false = _
      split
      · rw [getD_set, if_neg (by omega)]
      · rfl
theorem pass_zero (ps : List Pc) (R : List Bool) (n : Nat) : (passTo ps R n).getD 0 false = R.getD 0 false := pass_low ps R 0 n (by omega)
theorem pass_succ (ps : List Pc) (R : List Bool) {n j : Nat} (hj : j + 1 ≤ n) (hR : j + 1 < R.length) : (passTo ps R n).getD (j + 1) false = (R.getD (j + 1) false || (manyAt ps j && (passTo ps R n).getD j false)) := by
  rw [pass_low ps R (j + 1) n hj, pass_low ps R j n (by omega)]
  have hh := pass_high ps R j (j + 1) (by omega)
  show (if (manyAt ps j && (passTo ps R j).getD j false) = true then (passTo ps R j).set (j + 1) true else passTo ps R j).getD (j + 1) false = _
  cases hc : (manyAt ps j && (passTo ps R j).getD j false) with
  | true => rw [if_pos rfl, getD_set, if_pos ⟨rfl, by rw [passTo_len]; exact hR⟩]; simp
  | false => rw [if_neg (by decide), hh]; simp
theorem take_zero (ps : List Pc) (R : List Bool) (b : Int) : (takeL ps R b).getD 0 false = false := by
  unfold takeL
  rw [getD_set]
  split
  · rfl
  · next h =>
    have : ¬ 0 < (takeTo ps R b 0).length := fun h' => h ⟨rfl, h'⟩
    simp [List.getD, this]
theorem take_succ (ps : List Pc) (R : List Bool) (b : Int) {j : Nat} (hj : j + 1 < R.length) : (takeL ps R b).getD (j + 1) false = newAt ps R b j := by
  unfold takeL
  rw [getD_set, if_neg (by omega)]
  simp [takeTo, List.getD, hj]
/-- Which texts are of a row of pieces (both from behind). -/
def FR : List Pc → List Int → Prop
  | [], u => u = []
  | p :: ps, u => if p.many = true then ∃ v r, u = v ++ r ∧ (∀ x ∈ v, takesP p x = true) ∧ FR ps r else ∃ b r, u = b :: r ∧ takesP p b = true ∧ FR ps r
theorem FR_eq (p : Pc) (ps : List Pc) (u : List Int) : FR (p :: ps) u = if p.many = true then ∃ v r, u = v ++ r ∧ (∀ x ∈ v, takesP p x = true) ∧ FR ps r else ∃ b r, u = b :: r ∧ takesP p b = true ∧ FR ps r := rfl
theorem FR_nil (p : Pc) (ps : List Pc) : FR (p :: ps) [] ↔ p.many = true ∧ FR ps [] := by
  rw [FR_eq]
  by_cases h : p.many = true
  · rw [if_pos h]
    constructor
    · rintro ⟨v, r, e, _, h3⟩
      have : v = [] ∧ r = [] := by simpa using e.symm
      rw [this.2] at h3
      exact ⟨h, h3⟩
    · rintro ⟨_, h3⟩
      exact ⟨[], [], rfl, by simp, h3⟩
  · rw [if_neg h]
    constructor
    · rintro ⟨b, r, e, _⟩; cases e
    · rintro ⟨h', _⟩; exact absurd h' h
theorem FR_cons (p : Pc) (ps : List Pc) (b : Int) (u : List Int) : FR (p :: ps) (b :: u) ↔ (p.many = true ∧ FR ps (b :: u)) ∨ (takesP p b = true ∧ (if p.many = true then FR (p :: ps) u else FR ps u)) := by
  by_cases h : p.many = true
  · rw [if_pos h, FR_eq p ps (b :: u), FR_eq p ps u, if_pos h, if_pos h]
    constructor
    · rintro ⟨v, r, e, h2, h3⟩
      cases v with
      | nil => exact .inl ⟨h, by rw [show b :: u = r from e]; exact h3⟩
      | cons c v =>
        cases e
        exact .inr ⟨h2 _ List.mem_cons_self, v, r, rfl, fun x hx => h2 x (List.mem_cons_of_mem _ hx), h3⟩
    · rintro (⟨_, h3⟩ | ⟨h2, v, r, rfl, h3, h4⟩)
      · exact ⟨[], b :: u, rfl, by simp, h3⟩
      · refine ⟨b :: v, r, rfl, fun x hx => ?_, h4⟩
        rcases List.mem_cons.1 hx with rfl | hx
        · exact h2
        · exact h3 x hx
  · rw [if_neg h]
    rw [FR_eq, if_neg h]
    constructor
    · rintro ⟨c, r, e, h2, h3⟩
      cases e
      exact .inr ⟨h2, h3⟩
    · rintro (⟨h', _⟩ | ⟨h2, h3⟩)
      · exact absurd h' h
      · exact ⟨b, u, rfl, h2, h3⟩
theorem take_rev (ps : List Pc) {i : Nat} (hi : i < ps.length) : (ps.take (i + 1)).reverse = ps[i] :: (ps.take i).reverse := by
  rw [← List.take_append_getElem hi, List.reverse_append]
  rfl
theorem many_at (ps : List Pc) {i : Nat} (hi : i < ps.length) : manyAt ps i = ps[i].many := by simp [manyAt, hi]
theorem run_iff (ps : List Pc) : ∀ (u : List Int) (i : Nat), i ≤ ps.length → ((runP ps u.reverse).getD i false = true ↔ FR (ps.take i).reverse u)
  | [], i, hi => by
    induction i with
    | zero =>
      show (passTo ps _ _).getD 0 false = true ↔ _
      rw [pass_zero]
      simp [FR]
    | succ i ih =>
      have ih := ih (by omega)
      show (passTo ps _ _).getD (i + 1) false = true ↔ _
      rw [pass_succ ps _ (by omega) (by simp; omega), take_rev ps (by omega), FR_nil, ← ih, many_at ps (by omega)]
      have e0 : ((List.replicate (ps.length + 1) false).set 0 true).getD (i + 1) false = false := by
        rw [getD_set, if_neg (by omega)]
        simp [List.getD, List.getElem?_replicate]
        split <;> rfl
      rw [e0]
      show (false || (_ && (runP ps ([] : List Int)).getD i false)) = true ↔ _
      simp
  | b :: u, i, hi => by
    have IH := run_iff ps u
    have hrl := runP_len ps u.reverse
    rw [List.reverse_cons, runP_snoc]
    induction i with
    | zero =>
      rw [pass_zero, take_zero]
      simp [FR]
    | succ i ih =>
      have ih : ((passTo ps (takeL ps (runP ps u.reverse) b) ps.length).getD i false = true ↔ FR (ps.take i).reverse (b :: u)) := ih (by omega)
      rw [pass_succ ps _ (by omega) (by rw [takeL_len]; omega), take_succ ps _ _ (by omega), take_rev ps (by omega), FR_cons, ← ih, many_at ps (by omega)]
      have e1 : newAt ps (runP ps u.reverse) b i = ((runP ps u.reverse).getD (if ps[i].many = true then i + 1 else i) false && takesP ps[i] b) := by simp [newAt, many_at ps (show i < ps.length by omega), show i < ps.length by omega]
      rw [e1, ← take_rev ps (by omega)]
      have j1 := IH i (by omega)
      have j2 := IH (i + 1) (by omega)
      by_cases hm : ps[i].many = true
      · rw [if_pos hm, if_pos hm, ← j2, hm]
        simp only [Bool.or_eq_true, Bool.and_eq_true, true_and]
        constructor
        · rintro (⟨h1, h2⟩ | h1)
          · exact .inr ⟨h2, h1⟩
          · exact .inl h1
        · rintro (h1 | ⟨h2, h1⟩)
          · exact .inr h1
          · exact .inl ⟨h1, h2⟩
      · rw [if_neg hm, if_neg hm, ← j1]
        simp only [Bool.or_eq_true, Bool.and_eq_true]
        constructor
        · rintro (⟨h1, h2⟩ | ⟨h1, _⟩)
          · exact .inr ⟨h2, h1⟩
          · exact absurd h1 hm
        · rintro (⟨h1, _⟩ | ⟨h2, h1⟩)
          · exact absurd h1 hm
          · exact .inl ⟨h1, h2⟩
theorem fits_iff (ps : List Pc) (u : List Int) : fitsP ps u = true ↔ FR ps.reverse u.reverse := by
  have := run_iff ps u.reverse ps.length (Nat.le_refl _)
  rw [List.reverse_reverse, List.take_length] at this
  exact this
theorem only_takes (c x : Int) : takesP (onlyP c) x = true ↔ x = c := by
  simp [takesP, onlyP, memHas]
  omega
theorem FR_only (qs : List Pc) : ∀ (l u : List Int), FR (l.map onlyP ++ qs) u ↔ ∃ r, u = l ++ r ∧ FR qs r
  | [], u => by simp
  | c :: l, u => by
    show FR (onlyP c :: (l.map onlyP ++ qs)) u ↔ _
    rw [FR_eq, if_neg (by simp [onlyP])]
    constructor
    · rintro ⟨b, r, rfl, h2, h3⟩
      rw [only_takes] at h2
      subst h2
      obtain ⟨r', rfl, h4⟩ := (FR_only qs l r).1 h3
      exact ⟨r', rfl, h4⟩
    · rintro ⟨r, rfl, h4⟩
      exact ⟨c, l ++ r, rfl, (only_takes c c).2 rfl, (FR_only qs l _).2 ⟨r, rfl, h4⟩⟩
/-- Just this text. -/
theorem fits_just (a u : List Int) : fitsP (a.map onlyP) u = decide (u = a) := by
  rw [Bool.eq_iff_iff, fits_iff, decide_eq_true_iff, ← List.map_reverse]
  have h := FR_only [] a.reverse u.reverse
  rw [List.append_nil] at h
  rw [h]
  constructor
  · rintro ⟨r, e, h2⟩
    have : r = [] := h2
    subst this
    rw [List.append_nil] at e
    exact List.reverse_inj.1 e
  · rintro rfl
    exact ⟨[], by simp, rfl⟩
/-- One piece between two texts. -/
theorem fits_mid (a b m : List Int) (p : Pc) : fitsP (a.map onlyP ++ p :: b.map onlyP) (a ++ (m ++ b)) = true ↔ if p.many = true then ∀ x ∈ m, takesP p x = true else ∃ x, m = [x] ∧ takesP p x = true := by
  rw [fits_iff]
  have e1 : (a.map onlyP ++ p :: b.map onlyP).reverse = b.reverse.map onlyP ++ (p :: a.reverse.map onlyP) := by simp
  have e2 : (a ++ (m ++ b)).reverse = b.reverse ++ (m.reverse ++ a.reverse) := by simp
  rw [e1, e2, FR_only]
  have hA : ∀ u, FR (a.reverse.map onlyP) u ↔ u = a.reverse := fun u => by
    have h := FR_only [] a.reverse u
    rw [List.append_nil] at h
    rw [h]
    constructor
    · rintro ⟨r, rfl, h2⟩
      have : r = [] := h2
      simp [this]
    · rintro rfl; exact ⟨[], by simp, rfl⟩
  have e3 : (∃ r, b.reverse ++ (m.reverse ++ a.reverse) = b.reverse ++ r ∧ FR (p :: a.reverse.map onlyP) r) ↔ FR (p :: a.reverse.map onlyP) (m.reverse ++ a.reverse) := by
    constructor
    · rintro ⟨r, e, h⟩
      rw [List.append_cancel_left e]
      exact h
    · intro h; exact ⟨_, rfl, h⟩
  rw [e3, FR_eq]
  by_cases hm : p.many = true
  · rw [if_pos hm, if_pos hm]
    constructor
    · rintro ⟨v, r, e, h2, h3⟩
      rw [hA] at h3
      subst h3
      have := List.append_cancel_right e
      intro x hx
      exact h2 x (by rw [← this]; simpa using hx)
    · intro h
      exact ⟨m.reverse, a.reverse, rfl, fun x hx => h x (by simpa using hx), (hA _).2 rfl⟩
  · rw [if_neg hm, if_neg hm]
    constructor
    · rintro ⟨x, r, e, h2, h3⟩
      rw [hA] at h3
      subst h3
      have : m.reverse = [x] := List.append_cancel_right (show m.reverse ++ a.reverse = [x] ++ a.reverse from e)
      exact ⟨x, by simpa using congrArg List.reverse this, h2⟩
    · rintro ⟨x, rfl, h⟩
      exact ⟨x, a.reverse, rfl, h, (hA _).2 rfl⟩
end Go.Proofs.Ytkdjjnkhbmmfeaa
