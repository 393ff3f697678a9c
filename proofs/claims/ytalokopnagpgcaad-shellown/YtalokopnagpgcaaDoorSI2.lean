import Derived.Test.YtalokopnagpgcaaDoorSI1
namespace Go.Proofs.YtalokopnagpgcaaDoor
open Go.RowKit Go.Maps

set_option maxRecDepth 20000 in
set_option maxHeartbeats 4000000 in
theorem firstByte_no (s : ByteArray) (h0 : s.data.toList ≠ []) (h : oneB s.data.toList = none) (w : World) (he : EV w) :
    Calls Tryd.prog 36 #[.string s] w fun e w' => ∃ x r, e = .returned (.tuple #[.int .u8 x, .string r, .bool false]) ∧ Below w.heap.size w w' := by
  match hl : s.data.toList, h0, h with
  | c :: t, _, h =>
    have hsz : s.size = t.length + 1 := by rw [← len_size, hl]; simp
    have g0 := get_at (s := s) (i := 0) (c := c) (by rw [hl]; rfl)
    have l0 : (0 : Int) < (s.size : Int) := by omega
    have l1 : (1 : Int) ≤ (s.size : Int) := by omega
    have hpl := isPlain_any (c.toNat : Int)
    have hc8 := c.toNat_lt
    have hcv : IntKind.i32.wrap (c.toNat : Int) = (c.toNat : Int) := by rw [IntKind.wrap_i32]; omega
    have h' : oneB (c :: t) = none := h
    have hp : plainB c = false := by
      cases hp : plainB c with
      | false => rfl
      | true => simp [oneB, hp] at h'
    rw [show plainR (c.toNat : Int) = false from hp] at hpl
    clear h hsz
    by_cases h92 : c = 92
    · subst h92
      have hpl' : ∀ w, Calls Tryd.prog 33 #[.int .i32 92] w fun e w' => e = .returned (.bool false) ∧ w' = w := hpl
      have g0' : ∀ h', ((s[0]'h').toNat : Int) = 92 := g0
      have hcv' : IntKind.i32.wrap 92 = 92 := rfl
      clear hpl g0 hcv
      match t, hl, h' with
      | [], hl, h' =>
        have l2 : (s.size : Int) < 2 := by have hq := len_size s; rw [hl] at hq; simp only [List.length_cons, List.length_nil] at hq; omega
        clear hl hp hc8 h'
        go_enter Tryd.func36, Tryd.ntmps36
        go_wp2_with fail
        refine (hpl' _).mono ?_
        rintro e w1 ⟨rfl, hw⟩
        subst hw
        go_wp2
        go_ret3
        exact ⟨_, _, rfl, Below.refl _ _⟩
      | d0 :: r', hl, h' =>
        have g1 := get_at (s := s) (i := 1) (c := d0) (by rw [hl]; rfl)
        have e2 := ext_to s 2
        rw [hl] at e2
        simp only [List.drop_succ_cons, List.drop_zero] at e2
        have l2 : ¬ ((s.size : Int) < 2) := by have hq := len_size s; rw [hl] at hq; simp only [List.length_cons] at hq; omega
        have l3 : (2 : Int) ≤ (s.size : Int) := by omega
        have l4 : (1 : Int) < (s.size : Int) := by omega
        by_cases h120 : d0 = 120
        · subst h120
          have g1' : ∀ h', ((s[1]'h').toNat : Int) = 120 := g1
          have hr : hexR r' = none := h'
          have hh := hexa_no ⟨r'.toArray⟩ hr
          clear g1 hl hp hc8 h' hr
          go_enter Tryd.func36, Tryd.ntmps36
          go_wp2_with fail
          refine (hpl' _).mono ?_
          rintro e w1 ⟨rfl, hw⟩
          subst hw
          go_wp2_with fail
          refine (hh _ he).mono ?_
          rintro e w2 ⟨r9, rfl, hb2⟩
          have HB := Hid.mk hb2
          clear hb2 hh
          go_wp2
          go_ret3
          exact ⟨_, _, rfl, HB.out⟩
        · have n92 : d0 ≠ 92 := fun e => by subst e; simp [oneB, hp] at h'
          have n34 : d0 ≠ 34 := fun e => by subst e; simp [oneB, hp] at h'
          have n110 : d0 ≠ 110 := fun e => by subst e; simp [oneB, hp] at h'
          have n116 : d0 ≠ 116 := fun e => by subst e; simp [oneB, hp] at h'
          have q1 : ((d0.toNat : Int) == 92) = false := ne_lit (k := 92) n92
          have q2 : ((d0.toNat : Int) == 34) = false := ne_lit (k := 34) n34
          have q3 : ((d0.toNat : Int) == 110) = false := ne_lit (k := 110) n110
          have q4 : ((d0.toNat : Int) == 116) = false := ne_lit (k := 116) n116
          have q5 : ((d0.toNat : Int) == 120) = false := ne_lit (k := 120) h120
          clear hl hp hc8 h' n92 n34 n110 n116 h120
          go_enter Tryd.func36, Tryd.ntmps36
          go_wp2_with fail
          refine (hpl' _).mono ?_
          rintro e w1 ⟨rfl, hw⟩
          subst hw
          go_wp2
          go_ret3
          exact ⟨_, _, rfl, Below.refl _ _⟩
    · have q1 : ((c.toNat : Int) == 92) = false := ne_lit (k := 92) h92
      have q2 : ((c.toNat : Int) != 92) = true := by simpa [bne] using q1
      clear hl hp hc8 h' h92
      go_enter Tryd.func36, Tryd.ntmps36
      go_wp2_with fail
      refine (hpl _).mono ?_
      rintro e w1 ⟨rfl, hw⟩
      subst hw
      go_wp2
      go_ret3
      exact ⟨_, _, rfl, Below.refl _ _⟩
end Go.Proofs.YtalokopnagpgcaaDoor
