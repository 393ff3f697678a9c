import Derived.Test.YtkdjjnkhbmmfeaaFE9
namespace Go.Proofs.Ytkdjjnkhbmmfeaa
open Go.RowKit Go.Maps

/-- The document's Match is the program's. -/
theorem form_any (s : ByteArray) (w : World) : Calls Try.prog 17 #[.string s] w fun e w' => (if 255 < s.size then Hid (e = .returned (.tuple #[.slice none 0 0, .int .i64 7])) else Hid (PiecesO w w' e (patP (ub s.data.toList)))) ∧ Below w.heap.size w w' := by
  by_cases h : 255 < s.size
  · have h' : 255 < (s.size : Int) := by omega
    simp only [if_pos h]
    clear h
    go_enter Try.func17, Try.ntmps17
    go_wp2
    go_ret2
    exact ⟨Hid.mk rfl, Below.refl _ _⟩
  · have h' : ¬ 255 < (s.size : Int) := by omega
    simp only [if_neg h]
    have kp := pieces_any s w (by omega)
    clear h
    cases hp : patP (ub s.data.toList) with
    | none =>
      rw [hp] at kp
      clear hp
      go_enter Try.func17, Try.ntmps17
      go_wp2_with fail
      refine kp.mono ?_
      rintro e w2 ⟨rfl, hb⟩
      have HB := Hid.mk hb
      clear kp hb
      go_wp2
      go_ret2
      exact ⟨Hid.mk rfl, HB.out⟩
    | some ps =>
      rw [hp] at kp
      clear hp
      go_enter Try.func17, Try.ntmps17
      go_wp2_with fail
      refine kp.mono ?_
      rintro e w2 ⟨⟨v, rfl, hv⟩, hb⟩
      obtain ⟨a, n, c, rfl⟩ := hv.form
      have HB := Hid.mk (And.intro hv hb)
      clear kp hv hb
      go_wp2
      go_ret2
      exact ⟨Hid.mk ⟨_, rfl, HB.out.1⟩, HB.out.2⟩
set_option maxRecDepth 20000 in
set_option maxHeartbeats 8000000 in
theorem rmatch_any (p t : ByteArray) (w : World) : Calls Try.prog 10 #[.string p, .string t] w fun e w' => e = .returned (.tuple #[.bool (matchP p t).1, .int .i64 (matchP p t).2]) ∧ Below w.heap.size w w' := by
  have kf := form_any p w
  by_cases h : 255 < p.size
  · simp only [if_pos h] at kf
    have HM : Hid (matchP p t = (false, 7)) := Hid.mk (by unfold matchP; rw [if_pos h])
    clear h
    go_enter Try.func10, Try.ntmps10
    go_wp2_with fail
    refine kf.mono ?_
    rintro e w2 ⟨he, hb⟩
    have he' := he.out
    subst he'
    have HB := Hid.mk hb
    clear kf he hb
    go_wp2
    go_ret2
    exact ⟨by rw [HM.out]; rfl, HB.out⟩
  · simp only [if_neg h] at kf
    cases hp : patP (ub p.data.toList) with
    | none =>
      rw [hp] at kf
      have HM : Hid (matchP p t = (false, 190)) := Hid.mk (by unfold matchP; rw [if_neg h, hp])
      clear h hp
      go_enter Try.func10, Try.ntmps10
      go_wp2_with fail
      refine kf.mono ?_
      rintro e w2 ⟨he, hb⟩
      have he' : e = .returned (.tuple #[.slice none 0 0, .int .i64 190]) := he.out
      subst he'
      have HB := Hid.mk hb
      clear kf he hb
      go_wp2
      go_ret2
      exact ⟨by rw [HM.out]; rfl, HB.out⟩
    | some ps =>
      rw [hp] at kf
      have hpl : ps.length ≤ 1000 := by
        have h1 := (pieces_many _ _ _ (show piecesP (ub p.data.toList).length (ub p.data.toList) = some ps from hp)).1
        rw [ub_len, len_size] at h1
        omega
      by_cases ht : 1023 < t.size
      · have HM : Hid (matchP p t = (false, 7)) := Hid.mk (by unfold matchP; rw [if_neg h, hp]; dsimp only; rw [if_pos ht])
        have ht' : 1023 < (t.size : Int) := by omega
        clear h hp ht
        go_enter Try.func10, Try.ntmps10
        go_wp2_with fail
        refine kf.mono ?_
        rintro e w2 ⟨he, hb⟩
        obtain ⟨v, he', hv⟩ := he.out
        subst he'
        obtain ⟨a, n, c, rfl⟩ := hv.form
        have HB := Hid.mk hb
        clear kf he hb hv
        go_wp2
        go_ret2
        exact ⟨by rw [HM.out]; rfl, HB.out⟩
      · have HM : Hid (matchP p t = (fitsP ps (ub t.data.toList), 0)) := Hid.mk (by unfold matchP; rw [if_neg h, hp]; dsimp only; rw [if_neg ht])
        have ht' : ¬ 1023 < (t.size : Int) := by omega
        clear h hp
        go_enter Try.func10, Try.ntmps10
        go_wp2_with fail
        refine kf.mono ?_
        rintro e w2 ⟨he, hb⟩
        obtain ⟨v, he', hv⟩ := he.out
        subst he'
        obtain ⟨a, n, c, rfl⟩ := hv.form
        have ko := of_any t w2 hv (by omega) hpl
        have HB := Hid.mk hb
        clear kf he hb hv ht
        go_wp2_with fail
        refine ko.mono ?_
        rintro e w3 ⟨rfl, hb3⟩
        have HB3 := Hid.mk (HB.out.trans (hb3.mono HB.out.size))
        clear ko hb3
        generalize fitsP ps (ub t.data.toList) = X at *
        go_wp2
        go_ret2
        exact ⟨by rw [HM.out]; rfl, HB3.out⟩
end Go.Proofs.Ytkdjjnkhbmmfeaa
