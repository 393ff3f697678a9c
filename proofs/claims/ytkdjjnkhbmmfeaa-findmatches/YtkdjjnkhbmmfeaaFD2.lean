import Derived.Test.YtkdjjnkhbmmfeaaFD1
namespace Go.Proofs.Ytkdjjnkhbmmfeaa
open Go.RowKit Go.Maps

/-- Is just this left first, and what is left behind it. -/
def tookP : List Int → Int → Bool × List Int
  | [], _ => (false, [])
  | b :: l, x => if b = x then (true, l) else (false, b :: l)
/-- A unit of a set. -/
def unitP : List Int → Option (Int × List Int)
  | [] => none
  | b :: l => if b = 92 then (match l with | [] => none | c :: m => some (c, m)) else if b = 93 ∨ b = 45 then none else some (b, l)
/-- A member of a set. -/
def memP (l : List Int) : Option ((Int × Int) × List Int) :=
  match unitP l with
  | none => none
  | some (a, m) => if (tookP m 45).1 = true then (match unitP (tookP m 45).2 with | none => none | some (b, n) => if a > b then none else some ((a, b), n)) else some ((a, a), (tookP m 45).2)
section
variable {w w' : World} {r g : Nat} {b : Int} {l m : List Int} {G : Nat → Prop}
set_option maxRecDepth 20000 in
set_option maxHeartbeats 4000000 in
theorem took_any (h : RD w r g l) (x : Int) : Calls Try.prog 32 #[.pointer (some ⟨r, 0, none⟩), .int .u8 x] w fun e w' => e = .returned (.bool (tookP l x).1) ∧ RD w' r g (tookP l x).2 ∧ Keeps (fun k => k = r) w w' := by
  match l, h with
  | [], h =>
    have ke := ended_yes h
    have HH : Hid (RD w r g []) := h
    clear h
    go_enter Try.func32, Try.ntmps32
    go_wp2_with fail
    refine ke.mono ?_
    rintro e w1 ⟨rfl, hw1⟩
    have hw1' := hw1.symm
    subst hw1'
    clear ke hw1
    go_wp2
    go_ret
    exact ⟨rfl, HH.out, Keeps.refl _ _⟩
  | b :: l, h =>
    have ke := ended_no h
    have kn := next_ok h
    have HH : Hid (RD w r g (b :: l)) := h
    obtain ⟨a, c, h1, h2, h3, h4, h5⟩ := h
    have c0 : w.cell? ⟨r, 0, none⟩ = some (.slice a (l.length + 1) c) := cell_of_block h1 (j := 0) rfl
    obtain ⟨y, rfl⟩ : ∃ y, a = some y := by
      cases a with
      | none => have := h2.2.1 rfl; simp at this
      | some y => exact ⟨y, rfl⟩
    obtain ⟨b', o, rfl, hat⟩ := h2.spot (by simp)
    have a0 : w.cell? ⟨b', o, none⟩ = some (.int .u8 b) := by
      have := hat 0 (by simp)
      simpa using this
    have hl0 : (0 : Int) < ((l.length + 1 : Nat) : Int) := by omega
    clear h1 h2 hat h3 h4 h5
    by_cases hbx : b = x
    · have hne : (b != x) = false := by simp [hbx]
      have ht : tookP (b :: l) x = (true, l) := by simp [tookP, hbx]
      rw [ht]
      clear hbx ht
      go_enter Try.func32, Try.ntmps32
      go_wp2_with fail
      refine ke.mono ?_
      rintro e w1 ⟨rfl, hw1⟩
      have hw1' := hw1.symm
      subst hw1'
      clear ke hw1
      go_wp2_with fail
      refine kn.mono ?_
      rintro e w2 ⟨rfl, hr, hk⟩
      have HR := Hid.mk (And.intro hr hk)
      clear kn hr hk c0 a0
      go_wp2
      go_ret
      exact ⟨rfl, HR.out.1, HR.out.2⟩
    · have hne : (b != x) = true := by simp [hbx]
      have ht : tookP (b :: l) x = (false, b :: l) := by simp [tookP, hbx]
      rw [ht]
      clear hbx ht
      go_enter Try.func32, Try.ntmps32
      go_wp2_with fail
      refine ke.mono ?_
      rintro e w1 ⟨rfl, hw1⟩
      have hw1' := hw1.symm
      subst hw1'
      clear ke hw1
      go_wp2
      go_ret
      exact ⟨rfl, HH.out, Keeps.refl _ _⟩
set_option maxRecDepth 20000 in
set_option maxHeartbeats 4000000 in
theorem unit_no (h : RD w r g l) (hu : unitP l = none) : Calls Try.prog 35 #[.pointer (some ⟨r, 0, none⟩)] w fun e w' => e = .panicked (gave 190) ∧ Keeps (fun k => k = r) w w' := by
  match l, h with
  | [], h =>
    have kn := next_no h
    clear h
    go_enter Try.func35, Try.ntmps35
    go_wp2_with fail
    refine kn.mono ?_
    rintro e w1 ⟨rfl, hk⟩
    exact ⟨rfl, rfl, hk⟩
  | b :: l, h =>
    have kn := next_ok h
    clear h
    by_cases hb : b = 92
    · subst hb
      match l, hu, kn with
      | [], hu, kn =>
        go_enter Try.func35, Try.ntmps35
        go_wp2_with fail
        refine kn.mono ?_
        rintro e w1 ⟨rfl, hr, hk⟩
        have k2 := next_no hr
        have HK := Hid.mk hk
        clear kn hr hk
        go_wp2_with fail
        refine k2.mono ?_
        rintro e w2 ⟨rfl, hk⟩
        exact ⟨rfl, rfl, HK.out.trans hk (fun k e => .inl e)⟩
      | c :: m, hu, kn => simp [unitP] at hu
    · have hb' : (b == 92) = false := by simp [hb]
      have hor : b = 93 ∨ b = 45 := by
        simp only [unitP, if_neg hb] at hu
        by_cases e : b = 93 ∨ b = 45
        · exact e
        · rw [if_neg e] at hu
          cases hu
      clear hu hb
      rcases hor with rfl | rfl
      all_goals
        go_enter Try.func35, Try.ntmps35
        go_wp2_with fail
        refine kn.mono ?_
        rintro e w1 ⟨rfl, hr, hk⟩
        have HK := Hid.mk hk
        clear kn hr hk
        go_wp2_with fail
        refine (haltIf_t _ 190).mono ?_
        rintro e w2 ⟨rfl, hw2⟩
        have hw2' := hw2.symm
        subst hw2'
        exact ⟨rfl, rfl, HK.out⟩
set_option maxRecDepth 20000 in
set_option maxHeartbeats 4000000 in
theorem unit_ok (h : RD w r g l) (hu : unitP l = some (b, m)) : Calls Try.prog 35 #[.pointer (some ⟨r, 0, none⟩)] w fun e w' => e = .returned (.int .u8 b) ∧ RD w' r g m ∧ Keeps (fun k => k = r) w w' := by
  match l, h with
  | [], h => cases hu
  | c :: l, h =>
    have kn := next_ok h
    clear h
    by_cases hb : c = 92
    · subst hb
      match l, hu, kn with
      | [], hu, kn => simp [unitP] at hu
      | d :: n, hu, kn =>
        simp only [unitP, if_true, Option.some.injEq, Prod.mk.injEq] at hu
        obtain ⟨rfl, rfl⟩ := hu
        go_enter Try.func35, Try.ntmps35
        go_wp2_with fail
        refine kn.mono ?_
        rintro e w1 ⟨rfl, hr, hk⟩
        have k2 := next_ok hr
        have HK := Hid.mk hk
        clear kn hr hk
        go_wp2_with fail
        refine k2.mono ?_
        rintro e w2 ⟨rfl, hr, hk⟩
        have HR := Hid.mk (And.intro hr (HK.out.trans hk (fun k e => .inl e)))
        clear k2 hr hk HK
        go_wp2
        go_ret
        exact ⟨rfl, HR.out.1, HR.out.2⟩
    · have hb' : (c == 92) = false := by simp [hb]
      simp only [unitP, if_neg hb] at hu
      by_cases e : c = 93 ∨ c = 45
      · rw [if_pos e] at hu
        cases hu
      · rw [if_neg e] at hu
        cases hu
        have e1 : (b == 93) = false := by simp; exact fun h => e (.inl h)
        have e2 : (b == 45) = false := by simp; exact fun h => e (.inr h)
        clear e hb
        go_enter Try.func35, Try.ntmps35
        go_wp2_with fail
        refine kn.mono ?_
        rintro e w1 ⟨rfl, hr, hk⟩
        have HR := Hid.mk (And.intro hr hk)
        clear kn hr hk
        go_wp2_with fail
        refine (haltIf_f _ 190).mono ?_
        rintro e w2 ⟨rfl, hw2⟩
        have hw2' := hw2.symm
        subst hw2'
        clear hw2
        go_wp2
        go_ret
        exact ⟨rfl, HR.out.1, HR.out.2⟩
end
end Go.Proofs.Ytkdjjnkhbmmfeaa
