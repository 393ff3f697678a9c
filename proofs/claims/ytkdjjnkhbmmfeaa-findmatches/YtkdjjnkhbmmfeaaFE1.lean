import Derived.Test.YtkdjjnkhbmmfeaaFE0
namespace Go.Proofs.Ytkdjjnkhbmmfeaa
open Go.RowKit Go.Maps

theorem ub_bytes (l : List UInt8) : ∀ x ∈ ub l, 0 ≤ x ∧ x < 256 := by
  intro x hx
  obtain ⟨b, _, rfl⟩ := List.mem_map.1 hx
  have := b.toNat_lt
  omega
/-- What stands at a place of a text, and how long it is. -/
theorem txt_at {s : ByteArray} {i : Nat} {b : Int} {l : List Int} (h : (ub s.data.toList).drop i = b :: l) : i < s.size ∧ (∀ h', ((s[i]'h').toNat : Int) = b) ∧ 0 ≤ b ∧ b < 256 ∧ (ub s.data.toList).drop (i + 1) = l := by
  have hl := len_size s
  have hul := ub_len s.data.toList
  have hlt : i < (ub s.data.toList).length := by
    rcases Nat.lt_or_ge i (ub s.data.toList).length with h' | h'
    · exact h'
    · rw [List.drop_eq_nil_of_le h'] at h; cases h
  have hi : i < s.size := by omega
  rw [List.drop_eq_getElem_cons hlt] at h
  obtain ⟨e1, e2⟩ := List.cons.inj h
  refine ⟨hi, fun h' => ?_, ?_, ?_, e2⟩
  · rw [getS s i hi h', ← e1]
    simp [List.getD, hlt]
  · rw [← e1]
    have := ub_bytes s.data.toList _ (List.getElem_mem hlt)
    omega
  · rw [← e1]
    have := ub_bytes s.data.toList _ (List.getElem_mem hlt)
    omega
theorem txt_end {s : ByteArray} {i : Nat} (h : (ub s.data.toList).drop i = []) : s.size ≤ i := by
  have hl := len_size s
  have hul := ub_len s.data.toList
  have := List.drop_eq_nil_iff.1 h
  omega
theorem txt_len (s : ByteArray) (i : Nat) : ((ub s.data.toList).drop i).length = s.size - i := by
  rw [List.length_drop, ub_len, len_size]
set_option maxRecDepth 20000 in
set_option maxHeartbeats 4000000 in
theorem unit_any (s : ByteArray) (i : Nat) (w : World) (hs : s.size ≤ 1000) (hi : i ≤ s.size) : Calls Try.prog 34 #[.string s, .int .i64 (i : Int)] w fun e w' => e = .returned (.tuple #[.int .u8 (unitD ((ub s.data.toList).drop i)).1, .int .i64 ((unitD ((ub s.data.toList).drop i)).2 : Int)]) ∧ w' = w := by
  have hlen := txt_len s i
  have hat := fun b l => txt_at (s := s) (i := i) (b := b) (l := l)
  have hat2 := fun b l => txt_at (s := s) (i := i + 1) (b := b) (l := l)
  have hend := txt_end (s := s) (i := i)
  have hend2 := txt_end (s := s) (i := i + 1)
  match hr : (ub s.data.toList).drop i with
  | [] =>
    have h1 := hend hr
    have hge : ¬ (i : Int) < (s.size : Int) := by omega
    have hge' : (s.size : Int) ≤ (i : Int) := by omega
    have HR := Hid.mk hr
    clear hr hat hat2 hend hend2 hlen h1
    go_enter Try.func34, Try.ntmps34
    go_wp2
    go_ret2
    exact ⟨rfl, rfl⟩
  | b :: l =>
    obtain ⟨h1, h2, h3, h4, h5⟩ := hat b l hr
    have hlt : (i : Int) < (s.size : Int) := by omega
    have hge' : ¬ (s.size : Int) ≤ (i : Int) := by omega
    rw [hr] at hlen
    simp only [List.length_cons] at hlen
    have HD : ∀ (y : Int) (n : Nat), unitD (b :: l) = (y, n) → Hid (((.int .u8 (unitD (b :: l)).1 : Value) = .int .u8 y) ∧ ((.int .i64 ((unitD (b :: l)).2 : Int) : Value) = .int .i64 (n : Int))) := fun y n h => Hid.mk (by rw [h]; exact ⟨rfl, rfl⟩)
    by_cases e1 : b = 93
    · have q1 : (b == 93) = true := by simp [e1]
      have HF := HD 0 0 (by simp [unitD, unitP, e1])
      clear HD e1 hr hat hat2 hend hend2 hlen h1 h3 h4 h5
      go_enter Try.func34, Try.ntmps34
      go_wp2
      go_ret2
      exact ⟨by rw [HF.out.1, HF.out.2]; rfl, rfl⟩
    · have q1 : (b == 93) = false := by simp [e1]
      by_cases e2 : b = 45
      · have q2 : (b == 45) = true := by simp [e2]
        have HF := HD 0 0 (by simp [unitD, unitP, e2])
        clear HD e1 e2 hr hat hat2 hend hend2 hlen h1 h3 h4 h5
        go_enter Try.func34, Try.ntmps34
        go_wp2
        go_ret2
        exact ⟨by rw [HF.out.1, HF.out.2]; rfl, rfl⟩
      · have q2 : (b == 45) = false := by simp [e2]
        by_cases e3 : b = 92
        · have q3 : (b == 92) = true := by simp [e3]
          have q4 : (b != 92) = false := by simp [e3]
          match l with
          | [] =>
            have hge2 : (s.size : Int) ≤ (i : Int) + 1 := by simp only [List.length_nil] at hlen; omega
            have HF := HD 0 0 (by simp [unitD, unitP, e3])
            clear HD e1 e2 e3 hr hat hat2 hend hend2 hlen h1 h3 h4 h5
            go_enter Try.func34, Try.ntmps34
            go_wp2
            go_ret2
            exact ⟨by rw [HF.out.1, HF.out.2]; rfl, rfl⟩
          | c :: m =>
            obtain ⟨g1, g2, g3, g4, g5⟩ := hat2 c m h5
            have hlt2 : ¬ (s.size : Int) ≤ (i : Int) + 1 := by omega
            have hlt3 : (i : Int) + 1 < (s.size : Int) := by omega
            have HF := HD c 2 (by simp [unitD, unitP, e3]; omega)
            clear HD e1 e2 e3 hr hat hat2 hend hend2 hlen h3 h4 h5 g3 g4 g5
            go_enter Try.func34, Try.ntmps34
            go_wp2
            go_ret2
            exact ⟨by rw [HF.out.1, HF.out.2]; rfl, rfl⟩
        · have q3 : (b == 92) = false := by simp [e3]
          have q4 : (b != 92) = true := by simp [e3]
          have HF := HD b 1 (by simp [unitD, unitP, e1, e2, e3])
          clear HD e1 e2 e3 hr hat hat2 hend hend2 hlen h3 h4 h5
          go_enter Try.func34, Try.ntmps34
          go_wp2
          go_ret2
          exact ⟨by rw [HF.out.1, HF.out.2]; rfl, rfl⟩
end Go.Proofs.Ytkdjjnkhbmmfeaa
