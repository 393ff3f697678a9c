import Derived.Test.YtkdjjnkhbmmfeaaFE6
namespace Go.Proofs.Ytkdjjnkhbmmfeaa
open Go.RowKit Go.Maps

/-- The document's table of a row of pieces (the last first): whether the first k bytes of a text are of them. -/
def stepD (p : Pc) (A : Nat → Bool) (u : List Int) : Nat → Bool
  | 0 => p.many && A 0
  | k + 1 => (p.many && A (k + 1)) || ((A k || (p.many && stepD p A u k)) && takesP p (u.getD k 0))
def tabR (u : List Int) : List Pc → Nat → Bool
  | [] => fun k => decide (k = 0)
  | p :: ps => stepD p (tabR u ps) u
theorem take_snoc_rev (u : List Int) {k : Nat} (hk : k < u.length) : (u.take (k + 1)).reverse = u.getD k 0 :: (u.take k).reverse := by
  rw [← List.take_append_getElem hk, List.reverse_append]
  simp [List.getD, hk]
theorem FR_weak {p : Pc} {ps : List Pc} {u : List Int} (hm : p.many = true) (h : FR ps u) : FR (p :: ps) u := by
  rw [FR_eq, if_pos hm]
  exact ⟨[], u, rfl, by simp, h⟩
theorem tab_iff (u : List Int) : ∀ (ps : List Pc) (k : Nat), k ≤ u.length → (tabR u ps k = true ↔ FR ps (u.take k).reverse)
  | [], k, hk => by
    show decide (k = 0) = true ↔ (u.take k).reverse = []
    rw [decide_eq_true_iff, List.reverse_eq_nil_iff]
    constructor
    · rintro rfl; simp
    · intro h
      have := congrArg List.length h
      rw [List.length_take, List.length_nil] at this
      omega
  | p :: ps, 0, _ => by
    have ih := tab_iff u ps 0 (by omega)
    show (p.many && tabR u ps 0) = true ↔ _
    rw [Bool.and_eq_true, ih, List.take_zero, List.reverse_nil, FR_nil]
  | p :: ps, k + 1, hk => by
    have i1 := tab_iff u ps (k + 1) hk
    have i0 := tab_iff u ps k (by omega)
    have s0 := tab_iff u (p :: ps) k (by omega)
    show ((p.many && tabR u ps (k + 1)) || ((tabR u ps k || (p.many && tabR u (p :: ps) k)) && takesP p (u.getD k 0))) = true ↔ _
    rw [take_snoc_rev u (by omega)] at i1 ⊢
    rw [FR_cons]
    simp only [Bool.or_eq_true, Bool.and_eq_true]
    rw [i1, i0, s0]
    by_cases hm : p.many = true
    · rw [if_pos hm]
      constructor
      · rintro (h | ⟨h | h, h2⟩)
        · exact .inl h
        · exact .inr ⟨h2, FR_weak hm h⟩
        · exact .inr ⟨h2, h.2⟩
      · rintro (h | ⟨h1, h2⟩)
        · exact .inl h
        · exact .inr ⟨.inr ⟨hm, h2⟩, h1⟩
    · rw [if_neg hm]
      constructor
      · rintro (h | ⟨h | h, h2⟩)
        · exact absurd h.1 hm
        · exact .inr ⟨h2, h⟩
        · exact absurd h.1 hm
      · rintro (h | ⟨h1, h2⟩)
        · exact absurd h.1 hm
        · exact .inr ⟨.inl h2, h1⟩
/-- The document's answer is the program's. -/
theorem tab_fits (ps : List Pc) (u : List Int) : tabR u ps.reverse u.length = fitsP ps u := by
  rw [Bool.eq_iff_iff, tab_iff u ps.reverse u.length (Nat.le_refl _), List.take_length, fits_iff]
set_option maxRecDepth 20000 in
set_option maxHeartbeats 16000000 in
theorem ptakes_any (k b : Int) (f : Int → Bool) (x : Nat) (w : World) (hx : x < 256) : Calls Try.prog 25 #[.agg (pd k b f).toArray, .int .u8 (x : Int)] w fun e w' => e = .returned (.bool (takeD k b f (x : Int))) ∧ Below w.heap.size w w' := by
  have hP := PB.new w k b f
  obtain ⟨F, hF⟩ : ∃ F, F = (pd k b f).toArray := ⟨_, rfl⟩
  rw [← hF] at hP ⊢
  obtain ⟨W0, hW0⟩ : ∃ W0, W0 = w.alloc (.cells F 74) := ⟨_, rfl⟩
  have hb0 : Below w.heap.size w W0 := by rw [hW0]; exact (Below.refl _ _).alloc (Nat.le_refl _) _
  rw [← hW0] at hP
  have c0 := hP.kind
  have c1 := hP.byte
  have c2 := hP.bit hx
  rw [Nat.add_comm x 2] at c2
  have HB := Hid.mk hb0
  have hD : takeD k b f (x : Int) = if k = 1 then decide ((x : Int) = b) else if k = 2 ∨ k = 3 then decide ((x : Int) ≠ 47) else if k = 4 then true else f (x : Int) := rfl
  generalize takeD k b f (x : Int) = X at *
  have HD := Hid.mk hD
  have hx' : (x : Int) < 256 := by omega
  clear hD hb0 hP hF
  subst hW0
  by_cases e1 : k = 1
  · have q1 : (k == 1) = true := by simp [e1]
    have HF : Hid (X = decide ((x : Int) = b)) := Hid.mk (by rw [HD.out, if_pos e1])
    clear HD e1
    go_enter Try.func25, Try.ntmps25
    go_wp2
    go_ret
    exact ⟨by rw [HF.out]; first | rfl | (simp; done) | (simp; rfl), HB.out⟩
  · have q1 : (k == 1) = false := by simp [e1]
    by_cases e2 : k = 2
    · have q2 : (k == 2) = true := by simp [e2]
      have HF : Hid (X = decide ((x : Int) ≠ 47)) := Hid.mk (by rw [HD.out, if_neg e1, if_pos (.inl e2)])
      clear HD e1 e2
      go_enter Try.func25, Try.ntmps25
      go_wp2
      go_ret
      exact ⟨by rw [HF.out]; first | rfl | (simp; done) | (simp; rfl), HB.out⟩
    · have q2 : (k == 2) = false := by simp [e2]
      by_cases e3 : k = 3
      · have q3 : (k == 3) = true := by simp [e3]
        have HF : Hid (X = decide ((x : Int) ≠ 47)) := Hid.mk (by rw [HD.out, if_neg e1, if_pos (.inr e3)])
        clear HD e1 e2 e3
        go_enter Try.func25, Try.ntmps25
        go_wp2
        go_ret
        exact ⟨by rw [HF.out]; first | rfl | (simp; done) | (simp; rfl), HB.out⟩
      · have q3 : (k == 3) = false := by simp [e3]
        by_cases e4 : k = 4
        · have q4 : (k == 4) = true := by simp [e4]
          have HF : Hid (X = true) := Hid.mk (by rw [HD.out, if_neg e1, if_neg (by omega), if_pos e4])
          clear HD e1 e2 e3 e4
          go_enter Try.func25, Try.ntmps25
          go_wp2
          go_ret
          exact ⟨by rw [HF.out]; first | rfl | (simp; done) | (simp; rfl), HB.out⟩
        · have q4 : (k == 4) = false := by simp [e4]
          have HF : Hid (X = f (x : Int)) := Hid.mk (by rw [HD.out, if_neg e1, if_neg (by omega), if_neg e4])
          clear HD e1 e2 e3 e4
          go_enter Try.func25, Try.ntmps25
          go_wp2
          go_ret
          exact ⟨by rw [HF.out]; first | rfl | (simp; done) | (simp; rfl), HB.out⟩
end Go.Proofs.Ytkdjjnkhbmmfeaa
