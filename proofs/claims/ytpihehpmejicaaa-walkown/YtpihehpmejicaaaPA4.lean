import Derived.Test.YtpihehpmejicaaaPA3
import Derived.Test.YtpihehpmejicaaaKRName
namespace Go.Proofs.Ytpihehpmejicaaa
open Go.RowKit Go.Maps

set_option maxHeartbeats 2000000 in
theorem split_any (s : ByteArray) (w : World) :
    Calls Try.prog 6 #[.string s] w fun e w' => ∃ v, e = .returned (.tuple #[v, .int .i64 (splitErr s.data.toList)]) ∧ Told w.heap.size w' v (splitAns s.data.toList) ∧ Below w.heap.size w w' := by
  have hr := rooted_any s
  have hl := len_size s
  by_cases h1 : 1023 < (s.size : Int)
  · have he : splitErr s.data.toList = 7 := by unfold splitErr; rw [if_pos (by omega)]
    have HE := Hid.mk he
    clear he
    go_enter Try.func6, Try.ntmps6
    go_wp2
    go_ret2
    refine ⟨_, by rw [HE.out]; rfl, ?_, Below.refl _ _⟩
    unfold splitAns
    rw [HE.out, if_neg (by decide)]
    exact told_nil _ _
  · by_cases h2 : s.data.toList.head? = some 47
    · have he : splitErr s.data.toList = errOf (ptsOf s.data.toList) := by
        unfold splitErr
        rw [if_neg (by omega), if_neg (by simpa using h2)]
      have ha : splitAns s.data.toList = partsAns s.data.toList := by
        unfold splitAns partsAns
        rw [he]
      have hp := parts_any s
      rw [he, ha]
      have hr' : ∀ w, Calls Try.prog 12 #[.string s] w fun e w' => e = .returned (.bool true) ∧ w' = w := fun w => by have := hr w; rw [h2] at this; exact this
      have hp' := hp w (by omega)
      generalize errOf (ptsOf s.data.toList) = E at *
      generalize partsAns s.data.toList = A at *
      clear hp hr he ha h2
      go_enter Try.func6, Try.ntmps6
      go_wp2_with fail
      refine (hr' _).mono ?_
      rintro e w1 ⟨rfl, hw⟩
      have hw' := hw.symm
      subst hw'
      go_wp2_with fail
      refine hp'.mono ?_
      rintro e w2 ⟨v, rfl, ht, hb⟩
      go_wp2
      go_ret2
      exact ⟨_, rfl, ht, hb⟩
    · have he : splitErr s.data.toList = 110 := by
        unfold splitErr
        rw [if_neg (by omega), if_pos (by simpa using h2)]
      have hr' : ∀ w, Calls Try.prog 12 #[.string s] w fun e w' => e = .returned (.bool false) ∧ w' = w := fun w => by
        have := hr w
        rw [show (s.data.toList.head? == some 47) = false by simpa using h2] at this
        exact this
      have HE := Hid.mk he
      clear hr he h2
      go_enter Try.func6, Try.ntmps6
      go_wp2_with fail
      refine (hr' _).mono ?_
      rintro e w1 ⟨rfl, hw⟩
      have hw' := hw.symm
      subst hw'
      go_wp2
      go_ret2
      refine ⟨_, by rw [HE.out]; rfl, ?_, Below.refl _ _⟩
      unfold splitAns
      rw [HE.out, if_neg (by decide)]
      exact told_nil _ _

/-- The document's Cut. -/
def CutTo (l p r : List UInt8) : Prop := (p = [] ∧ ptsOf l = []) ∨ (keepP p = true ∧ ptsOf l = p :: ptsOf r ∧ r.length < l.length)

theorem ptsOf_slash (r : List UInt8) : ptsOf (47 :: r) = ptsOf r := by
  have := ptsOf_cut (p := []) r (by simp)
  simpa [keepP] using this

theorem meas {S i k : Nat} (h : i < S) (hk : i < k) : S - k < S - i := by omega
theorem cut_pure (s : ByteArray) {i j : Nat} (hij : i ≤ j) (hjs : j ≤ s.size) (hno : ∀ q, i ≤ q → q < j → (s.get! q).toNat ≠ 47) (hst : j < s.size → (s.get! j).toNat = 47) :
    ptsOf (s.data.toList.drop i) = (if keepP ((s.data.toList.drop i).take (j - i)) then [(s.data.toList.drop i).take (j - i)] else []) ++ ptsOf (s.data.toList.drop j) ∧ ptsOf (s.data.toList.drop j) = ptsOf (s.data.toList.drop (j + 1)) := by
  have hl := len_size s
  by_cases h : j < s.size
  · obtain ⟨h1, h2⟩ := at_slash s hij h hno (hst h)
    have h3 : s.data.toList.drop j = 47 :: s.data.toList.drop (j + 1) := by
      rw [List.drop_eq_getElem_cons (by omega)]
      congr 1
      have := getb s h
      rw [List.getElem?_eq_getElem (by omega)] at this
      rw [Option.some.inj this]
      exact UInt8.toNat_inj.1 (hst h)
    have h4 : ptsOf (s.data.toList.drop j) = ptsOf (s.data.toList.drop (j + 1)) := by rw [h3, ptsOf_slash]
    refine ⟨?_, h4⟩
    rw [h4]
    conv => lhs; rw [h1]
    exact ptsOf_cut _ h2
  · have h3 : s.data.toList.drop j = [] := List.drop_eq_nil_of_le (by omega)
    have h4 : s.data.toList.drop (j + 1) = [] := List.drop_eq_nil_of_le (by omega)
    rw [h3, h4]
    refine ⟨?_, rfl⟩
    have h5 : (s.data.toList.drop i).take (j - i) = s.data.toList.drop i := List.take_of_length_le (by simp only [List.length_drop]; omega)
    rw [h5]
    have h6 : 47 ∉ s.data.toList.drop i := by
      intro hm
      obtain ⟨q, hq, e⟩ := List.mem_iff_getElem.1 hm
      simp only [List.length_drop] at hq
      rw [List.getElem_drop] at e
      have h7 := getb s (i := i + q) (by omega)
      rw [List.getElem?_eq_getElem (by omega)] at h7
      refine hno (i + q) (by omega) (by omega) ?_
      rw [← Option.some.inj h7, e]
      rfl
    rw [ptsOf_none h6]
    simp [ptsOf, segs, keepP]
theorem ext_is (s : ByteArray) (a b : Nat) : s.extract a b = ⟨((s.data.toList.drop a).take (b - a)).toArray⟩ := by
  rw [← ext_list]

set_option maxHeartbeats 4000000 in
theorem cut_any (s : ByteArray) (w : World) (hs : s.size ≤ 99999999) :
    Calls Try.prog 15 #[.string s] w fun e w' => ∃ p r : List UInt8, e = .returned (.tuple #[.string ⟨p.toArray⟩, .string ⟨r.toArray⟩]) ∧ CutTo s.data.toList p r ∧ Below w.heap.size w w' := by
  have Hs := Hid.mk hs
  clear hs
  go_enter Try.func15, Try.ntmps15
  go_wp2
  go_loopw [4] (fun iv wr => ∃ i : Nat, iv = .int .i64 i ∧ i ≤ s.size + 1 ∧ ptsOf s.data.toList = ptsOf (s.data.toList.drop i) ∧ Below w.heap.size w wr) (fun iv _ => s.size + 1 - (intOf iv).toNat)
  case atStart => exact ⟨0, rfl, by omega, rfl, Below.refl _ _⟩
  case round =>
    obtain ⟨i, rfl, hi, hpt, hb⟩ := hrel
    have HH := Hid.mk (And.intro hpt hb)
    clear hpt hb
    by_cases hlt : i < s.size
    · have hlt' : (i : Int) < (s.size : Int) := by omega
      obtain ⟨W, hW⟩ : ∃ W, W = wr := ⟨_, rfl⟩
      subst hW
      go_wp2
      go_loopw [5] (fun jv wx => ∃ j : Nat, jv = .int .i64 j ∧ i ≤ j ∧ j ≤ s.size ∧ (∀ q, i ≤ q → q < j → (s.get! q).toNat ≠ 47) ∧ wx = W) (fun jv _ => s.size - (intOf jv).toNat)
      case atStart => exact ⟨i, rfl, by omega, by omega, (fun q h1 h2 => by omega), rfl⟩
      case round =>
        obtain ⟨j, rfl, hij, hjs, hno, rfl⟩ := hrel
        have HN := Hid.mk hno
        clear hno
        by_cases hj : j < s.size
        · have hj' : (j : Int) < (s.size : Int) := by omega
          have hget := byte_at s hj
          by_cases h47 : (s[j].toNat) = 47
          · have b1 : (((s[j].toNat : Nat) : Int) == 47) = true := by rw [h47]; rfl
            have h47' : (s.get! j).toNat = 47 := by rw [hget]; exact h47
            clear hget h47
            have hcp := cut_pure s hij hjs HN.out (fun _ => h47')
            have hext := ext_is s i j
            have hkp : keepP ((s.data.toList.drop i).take (j - i)) = true → i < j := fun h => by
              rcases Nat.lt_or_ge i j with h0 | h0
              · exact h0
              · rw [Nat.sub_eq_zero_of_le h0] at h
                simp [keepP] at h
            have hrest : s.extract j s.size = ⟨(s.data.toList.drop j).toArray⟩ := by
              rw [ext_is, List.take_of_length_le (by simp only [List.length_drop, len_size]; omega)]
            generalize (s.data.toList.drop i).take (j - i) = p at *
            by_cases hk : keepP p = true
            · have e0 : (p = []) = False := eq_false (fun e => by subst e; simp [keepP] at hk)
              have e1 : p.isEmpty = false := by
                cases p with
                | nil => simp at e0
                | cons => rfl
              have e2 : (p == [46]) = false := by
                simp only [keepP, Bool.and_eq_true, Bool.not_eq_true'] at hk
                exact hk.2
              have e3 : (p = [46]) = False := eq_false (by simpa using e2)
              have HC := Hid.mk (And.intro hcp (And.intro hk (hkp hk)))
              clear hcp hk hkp
              have hjs' : (j : Int) ≤ (s.size : Int) := by omega
              go_wp2_with fail
              go_quiet (fail)
              go_wp2
              go_ret2
              refine ⟨p, s.data.toList.drop j, rfl, .inr ⟨HC.out.2.1, ?_, ?_⟩, ?_⟩
              · rw [HH.out.1, HC.out.1.1, if_pos HC.out.2.1]
                rfl
              · have := HC.out.2.2
                simp only [List.length_drop, len_size]
                omega
              · exact below_drewN HH.out.2 _
            · have hp2 : p = [] ∨ p = [46] := by
                simp only [keepP, Bool.and_eq_true, Bool.not_eq_true', beq_eq_false_iff_ne, ne_eq, not_and, Classical.not_not] at hk
                by_cases h0 : p = []
                · exact .inl h0
                · exact .inr (hk h0)
              have hq : ptsOf s.data.toList = ptsOf (s.data.toList.drop (j + 1)) := by
                rw [HH.out.1, hcp.1, if_neg hk, ← hcp.2]
                rfl
              have HQ := Hid.mk hq
              clear hq hcp hk hkp hrest
              have hw64 : wrap64 ((j : Int) + 1) = ((j + 1 : Nat) : Int) := by
                have := Hs.out
                simp [wrap64]
                omega
              rcases hp2 with rfl | rfl
              all_goals
                go_wp2
                go_roundw
                case rel => exact ⟨j + 1, (by first | go_num | rw [hw64]), by omega, HQ.out, HH.out.2⟩
                case measure => rw [hw64]; exact meas (S := s.size + 1) (i := i) (k := j + 1) (by omega) (by omega)
          · have b1 : (((s[j].toNat : Nat) : Int) == 47) = false := by
              rw [Bool.eq_false_iff, ne_eq, beq_iff_eq]
              omega
            have H47 := Hid.mk (by rw [hget]; exact h47 : (s.get! j).toNat ≠ 47)
            clear hget h47
            have hw64 : wrap64 ((j : Int) + 1) = ((j + 1 : Nat) : Int) := by
              have := Hs.out
              simp [wrap64]
              omega
            go_wp2
            go_roundw
            case rel =>
              refine ⟨j + 1, (by first | go_num | rw [hw64]), by omega, by omega, (fun q h1 h2 => ?_), trivial⟩
              by_cases hqj : q = j
              · subst hqj; exact H47.out
              · exact HN.out q h1 (by omega)
            case measure => rw [hw64]; exact meas (S := s.size) (i := j) (k := j + 1) hj (by omega)
        · have hj' : ¬ (j : Int) < (s.size : Int) := by omega
          have hcp := cut_pure s hij hjs HN.out (fun h => absurd h hj)
          have hext := ext_is s i j
          have hkp : keepP ((s.data.toList.drop i).take (j - i)) = true → i < j := fun h => by
            rcases Nat.lt_or_ge i j with h0 | h0
            · exact h0
            · rw [Nat.sub_eq_zero_of_le h0] at h
              simp [keepP] at h
          have hrest : s.extract j s.size = ⟨(s.data.toList.drop j).toArray⟩ := by
            rw [ext_is, List.take_of_length_le (by simp only [List.length_drop, len_size]; omega)]
          generalize (s.data.toList.drop i).take (j - i) = p at *
          by_cases hk : keepP p = true
          · have e0 : (p = []) = False := eq_false (fun e => by subst e; simp [keepP] at hk)
            have e1 : p.isEmpty = false := by
              cases p with
              | nil => simp at e0
              | cons => rfl
            have e2 : (p == [46]) = false := by
              simp only [keepP, Bool.and_eq_true, Bool.not_eq_true'] at hk
              exact hk.2
            have e3 : (p = [46]) = False := eq_false (by simpa using e2)
            have HC := Hid.mk (And.intro hcp (And.intro hk (hkp hk)))
            clear hcp hk hkp
            have hjs' : (j : Int) ≤ (s.size : Int) := by omega
            go_wp2_with fail
            go_quiet (fail)
            go_wp2
            go_ret2
            refine ⟨p, s.data.toList.drop j, rfl, .inr ⟨HC.out.2.1, ?_, ?_⟩, ?_⟩
            · rw [HH.out.1, HC.out.1.1, if_pos HC.out.2.1]
              rfl
            · have := HC.out.2.2
              simp only [List.length_drop, len_size]
              omega
            · exact below_drewN HH.out.2 _
          · have hp2 : p = [] ∨ p = [46] := by
              simp only [keepP, Bool.and_eq_true, Bool.not_eq_true', beq_eq_false_iff_ne, ne_eq, not_and, Classical.not_not] at hk
              by_cases h0 : p = []
              · exact .inl h0
              · exact .inr (hk h0)
            have hq : ptsOf s.data.toList = ptsOf (s.data.toList.drop (j + 1)) := by
              rw [HH.out.1, hcp.1, if_neg hk, ← hcp.2]
              rfl
            have HQ := Hid.mk hq
            clear hq hcp hk hkp hrest
            have hw64 : wrap64 ((j : Int) + 1) = ((j + 1 : Nat) : Int) := by
              have := Hs.out
              simp [wrap64]
              omega
            rcases hp2 with rfl | rfl
            all_goals
              go_wp2
              go_roundw
              case rel => exact ⟨j + 1, (by first | go_num | rw [hw64]), by omega, HQ.out, HH.out.2⟩
              case measure => rw [hw64]; exact meas (S := s.size + 1) (i := i) (k := j + 1) (by omega) (by omega)
    · have hlt' : ¬ (i : Int) < (s.size : Int) := by omega
      go_wp2
      go_ret2
      refine ⟨[], [], rfl, .inl ⟨rfl, ?_⟩, HH.out.2⟩
      rw [HH.out.1, List.drop_eq_nil_of_le (by rw [len_size]; omega)]
      rfl
end Go.Proofs.Ytpihehpmejicaaa
