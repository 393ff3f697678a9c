import Derived.Test.YtpihehpmejicaaaPA4
namespace Go.Proofs.Ytpihehpmejicaaa
open Go.RowKit Go.Maps

/-- How long a text is. -/
def strLen : Value → Nat
  | .string s => s.size
  | _ => 0

set_option maxHeartbeats 4000000 in
theorem wrong_any (s : ByteArray) (w : World) (hs : s.size ≤ 99999999) :
    Calls Try.prog 14 #[.string s] w fun e w' => e = .returned (.int .i64 (errOf (ptsOf s.data.toList))) ∧ Below w.heap.size w w' := by
  generalize hE : errOf (ptsOf s.data.toList) = E
  have Hs := Hid.mk (And.intro hs hE)
  clear hs hE
  go_enter Try.func14, Try.ntmps14
  go_wp2
  go_loopw [0] (fun tv wr => ∃ t : ByteArray, tv = .string t ∧ t.size ≤ s.size ∧ errOf (ptsOf t.data.toList) = E ∧ Below w.heap.size w wr) (fun tv _ => strLen tv)
  case atStart => exact ⟨s, rfl, Nat.le_refl _, Hs.out.2, Below.refl _ _⟩
  case round =>
    obtain ⟨t, rfl, hts, hE, hb⟩ := hrel
    have hc := cut_any t wr (Nat.le_trans hts Hs.out.1)
    have HH := Hid.mk (And.intro hE hb)
    clear hE hb
    go_wp2_with fail
    refine hc.mono ?_
    rintro e w1 ⟨p, r, rfl, hcut, hb1⟩
    have HB := Hid.mk (HH.out.2.trans (hb1.mono HH.out.2.size))
    clear hc hb1
    rcases hcut with ⟨rfl, h0⟩ | ⟨hk, hp, hr⟩
    · have hE0 : E = 0 := by rw [← HH.out.1, h0]; rfl
      subst hE0
      go_wp2
      go_ret
      exact ⟨rfl, HB.out⟩
    · have e0 : (p = []) = False := eq_false (fun e => by subst e; simp [keepP] at hk)
      have e1 : p.isEmpty = false := by
        cases p with
        | nil => simp at e0
        | cons => rfl
      have hn : ∀ w, Calls Try.prog 19 #[.string ⟨p.toArray⟩] w fun e w' => e = .returned (.int .i64 (nameErr p)) ∧ w' = w := fun w => rname_any ⟨p.toArray⟩ w
      have HE := Hid.mk (by rw [← HH.out.1, hp] : E = errOf (p :: ptsOf r))
      have hr' : r.length < t.size := by rw [← len_size t]; exact hr
      have HR := Hid.mk hr'
      clear hk hp hr hr'
      by_cases h2 : p = [46, 46]
      · subst h2
        go_wp2_with fail
        refine (hn _).mono ?_
        rintro e w2 ⟨rfl, hw⟩
        have hw' := hw.symm
        subst hw'
        go_wp2
        go_roundw
        case rel => exact ⟨⟨r.toArray⟩, rfl, by have h1 := HR.out; show r.toArray.size ≤ _; simp; omega, by rw [HE.out]; simp [errOf, rightErr], HB.out⟩
        case measure => exact (by have h1 := HR.out; show r.toArray.size < t.size; simpa using h1)
      · have e2 : (p == [46, 46]) = false := by simpa using h2
        have e3 : (p = [46, 46]) = False := eq_false h2
        have hre : rightErr p = nameErr p := by simp [rightErr, h2]
        by_cases h3 : nameErr p = 0
        · rw [h3] at hn hre
          have HE2 := Hid.mk (by rw [HE.out]; simp [errOf, hre] : E = errOf (ptsOf r))
          clear hre h2 h3
          go_wp2_with fail
          refine (hn _).mono ?_
          rintro e w2 ⟨rfl, hw⟩
          have hw' := hw.symm
          subst hw'
          go_wp2
          go_roundw
          case rel => exact ⟨⟨r.toArray⟩, rfl, by have h1 := HR.out; show r.toArray.size ≤ _; simp; omega, HE2.out.symm, HB.out⟩
          case measure => exact (by have h1 := HR.out; show r.toArray.size < t.size; simpa using h1)
        · have HE2 := Hid.mk (by rw [HE.out]; simp [errOf, hre, h3] : E = nameErr p)
          have e4 : (nameErr p == 0) = false := by simpa using h3
          clear hre h2
          generalize nameErr p = Q at *
          go_wp2_with fail
          refine (hn _).mono ?_
          rintro e w2 ⟨rfl, hw⟩
          have hw' := hw.symm
          subst hw'
          go_wp2
          go_ret
          exact ⟨by rw [HE2.out]; rfl, HB.out⟩
end Go.Proofs.Ytpihehpmejicaaa
