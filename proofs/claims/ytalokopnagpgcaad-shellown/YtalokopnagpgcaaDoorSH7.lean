import Derived.Test.YtalokopnagpgcaaDoorSH6
namespace Go.Proofs.YtalokopnagpgcaaDoor
open Go.RowKit Go.Maps

theorem plainB_not {c : UInt8} (h : c = 92) : plainB c = false := by
  subst h
  rfl
set_option maxRecDepth 20000 in
set_option maxHeartbeats 4000000 in
theorem firstByte_ok (s : ByteArray) (d : UInt8) (r : List UInt8) (h : oneB s.data.toList = some (d, r)) (w : World) :
    Calls Tryd.prog 36 #[.string s] w fun e w' => e = .returned (.tuple #[.int .u8 d.toNat, .string ⟨r.toArray⟩, .bool true]) ∧ Below w.heap.size w w' := by
  match hl : s.data.toList, h with
  | c :: t, h =>
    have hsz : s.size = t.length + 1 := by rw [← len_size, hl]; simp
    have g0 := get_at (s := s) (i := 0) (c := c) (by rw [hl]; rfl)
    have e1 := ext_to s 1
    rw [hl] at e1
    simp only [List.drop_succ_cons, List.drop_zero] at e1
    have l0 : (0 : Int) < (s.size : Int) := by omega
    have l1 : (1 : Int) ≤ (s.size : Int) := by omega
    have hpl := isPlain_any (c.toNat : Int)
    have hc8 := c.toNat_lt
    have hcv : IntKind.i32.wrap (c.toNat : Int) = (c.toNat : Int) := by rw [IntKind.wrap_i32]; omega
    by_cases hp : plainB c = true
    · simp only [oneB, hp, if_true, Option.some.injEq, Prod.mk.injEq] at h
      obtain ⟨rfl, rfl⟩ := h
      rw [show plainR (c.toNat : Int) = true from hp] at hpl
      clear hsz hl
      go_enter Tryd.func36, Tryd.ntmps36
      go_wp2_with fail
      refine (hpl _).mono ?_
      rintro e w1 ⟨rfl, hw⟩
      subst hw
      go_wp2
      go_region
      go_wp2
      go_ret3
      exact ⟨rfl, below_drew (Below.refl _ _)⟩
    · have h92 : c = 92 := by
        by_cases h' : c = 92
        · exact h'
        · simp [oneB, hp, h'] at h
      subst h92
      have hpl' : ∀ w, Calls Tryd.prog 33 #[.int .i32 92] w fun e w' => e = .returned (.bool false) ∧ w' = w := hpl
      have g0' : ∀ h', ((s[0]'h').toNat : Int) = 92 := g0
      have hcv' : IntKind.i32.wrap 92 = 92 := rfl
      clear hpl g0 hcv
      match t, hl, h with
      | d0 :: r', hl, h =>
        have g1 := get_at (s := s) (i := 1) (c := d0) (by rw [hl]; rfl)
        have e2 := ext_to s 2
        rw [hl] at e2
        simp only [List.drop_succ_cons, List.drop_zero] at e2
        have l2 : ¬ ((s.size : Int) < 2) := by simp only [List.length_cons] at hsz; omega
        have l3 : (2 : Int) ≤ (s.size : Int) := by omega
        have l4 : (1 : Int) < (s.size : Int) := by omega
        have h' : oneB (92 :: d0 :: r') = some (d, r) := h
        simp only [oneB, hp] at h'
        rcases (show d0 = 92 ∨ d0 = 34 ∨ d0 = 110 ∨ d0 = 116 ∨ d0 = 120 ∨ (d0 ≠ 92 ∧ d0 ≠ 34 ∧ d0 ≠ 110 ∧ d0 ≠ 116 ∧ d0 ≠ 120) by by_cases h1 : d0 = 92 <;> by_cases h2 : d0 = 34 <;> by_cases h3 : d0 = 110 <;> by_cases h4 : d0 = 116 <;> by_cases h5 : d0 = 120 <;> simp [*]) with rfl | rfl | rfl | rfl | rfl | ⟨n1, n2, n3, n4, n5⟩
        · simp at h'
          obtain ⟨rfl, rfl⟩ := h'
          have g1' : ∀ h', ((s[1]'h').toNat : Int) = 92 := g1
          clear g1 hsz hl h hp hc8
          go_enter Tryd.func36, Tryd.ntmps36
          go_wp2_with fail
          refine (hpl' _).mono ?_
          rintro e w1 ⟨rfl, hw⟩
          subst hw
          go_wp2
          go_ret3
          exact ⟨rfl, Below.refl _ _⟩
        · simp at h'
          obtain ⟨rfl, rfl⟩ := h'
          have g1' : ∀ h', ((s[1]'h').toNat : Int) = 34 := g1
          clear g1 hsz hl h hp hc8
          go_enter Tryd.func36, Tryd.ntmps36
          go_wp2_with fail
          refine (hpl' _).mono ?_
          rintro e w1 ⟨rfl, hw⟩
          subst hw
          go_wp2
          go_ret3
          exact ⟨rfl, Below.refl _ _⟩
        · simp at h'
          obtain ⟨rfl, rfl⟩ := h'
          have g1' : ∀ h', ((s[1]'h').toNat : Int) = 110 := g1
          clear g1 hsz hl h hp hc8
          go_enter Tryd.func36, Tryd.ntmps36
          go_wp2_with fail
          refine (hpl' _).mono ?_
          rintro e w1 ⟨rfl, hw⟩
          subst hw
          go_wp2
          go_ret3
          exact ⟨rfl, Below.refl _ _⟩
        · simp at h'
          obtain ⟨rfl, rfl⟩ := h'
          have g1' : ∀ h', ((s[1]'h').toNat : Int) = 116 := g1
          clear g1 hsz hl h hp hc8
          go_enter Tryd.func36, Tryd.ntmps36
          go_wp2_with fail
          refine (hpl' _).mono ?_
          rintro e w1 ⟨rfl, hw⟩
          subst hw
          go_wp2
          go_ret3
          exact ⟨rfl, Below.refl _ _⟩
        · simp at h'
          have g1' : ∀ h', ((s[1]'h').toNat : Int) = 120 := g1
          have hh := hexa_ok ⟨r'.toArray⟩ d r (by simpa using h')
          clear g1 hsz hl h hp hc8 h'
          go_enter Tryd.func36, Tryd.ntmps36
          go_wp2_with fail
          refine (hpl' _).mono ?_
          rintro e w1 ⟨rfl, hw⟩
          subst hw
          go_wp2_with fail
          refine (hh _).mono ?_
          rintro e w2 ⟨rfl, hb2⟩
          have HB := Hid.mk hb2
          clear hb2 hh
          go_wp2
          go_ret3
          exact ⟨rfl, HB.out⟩
        · simp [n1, n2, n3, n4, n5] at h'
end Go.Proofs.YtalokopnagpgcaaDoor
