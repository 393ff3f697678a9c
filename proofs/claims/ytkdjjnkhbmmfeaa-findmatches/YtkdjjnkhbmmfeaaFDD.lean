import Derived.Test.YtkdjjnkhbmmfeaaFDC
namespace Go.Proofs.Ytkdjjnkhbmmfeaa
open Go.RowKit Go.Maps

/-- What the law's matches answers. -/
def mres (p t : ByteArray) (want : Bool) : Bool := if 255 < p.size ∨ 1023 < t.size then !(matchP p t).1 && (matchP p t).2 == 7 else (matchP p t).2 == 0 && (matchP p t).1 == want
set_option maxRecDepth 20000 in
set_option maxHeartbeats 4000000 in
theorem matches_any (p t : ByteArray) (want : Bool) (w : World) : Calls Try.prog 6 #[.string p, .string t, .bool want] w fun e w' => e = .returned (.bool (mres p t want)) ∧ Below w.heap.size w w' := by
  have km := match_any p t w
  have hm : mres p t want = if 255 < p.size ∨ 1023 < t.size then !(matchP p t).1 && (matchP p t).2 == 7 else (matchP p t).2 == 0 && (matchP p t).1 == want := rfl
  generalize mres p t want = X at *
  obtain ⟨⟨y, x⟩, hyx⟩ : ∃ q, q = matchP p t := ⟨_, rfl⟩
  rw [← hyx] at km hm
  clear hyx
  dsimp only at km hm
  have HM := Hid.mk hm
  clear hm
  by_cases hp : 255 < p.size
  · have hp' : 255 < (p.size : Int) := by omega
    have HX : Hid (X = (!y && x == 7)) := Hid.mk (by rw [HM.out, if_pos (.inl hp)])
    clear HM hp
    cases y with
    | true =>
      go_enter Try.func6, Try.ntmps6
      go_wp2_with fail
      refine km.mono ?_
      rintro e w1 ⟨rfl, hb⟩
      have HB := Hid.mk hb
      clear km hb
      go_wp2
      go_ret
      exact ⟨by rw [HX.out]; rfl, HB.out⟩
    | false =>
      go_enter Try.func6, Try.ntmps6
      go_wp2_with fail
      refine km.mono ?_
      rintro e w1 ⟨rfl, hb⟩
      have HB := Hid.mk hb
      clear km hb
      go_wp2
      go_ret
      exact ⟨by rw [HX.out]; rfl, HB.out⟩
  · have hp' : ¬ 255 < (p.size : Int) := by omega
    by_cases ht : 1023 < t.size
    · have ht' : 1023 < (t.size : Int) := by omega
      have HX : Hid (X = (!y && x == 7)) := Hid.mk (by rw [HM.out, if_pos (.inr ht)])
      clear HM hp ht
      cases y with
      | true =>
        go_enter Try.func6, Try.ntmps6
        go_wp2_with fail
        refine km.mono ?_
        rintro e w1 ⟨rfl, hb⟩
        have HB := Hid.mk hb
        clear km hb
        go_wp2
        go_ret
        exact ⟨by rw [HX.out]; rfl, HB.out⟩
      | false =>
        go_enter Try.func6, Try.ntmps6
        go_wp2_with fail
        refine km.mono ?_
        rintro e w1 ⟨rfl, hb⟩
        have HB := Hid.mk hb
        clear km hb
        go_wp2
        go_ret
        exact ⟨by rw [HX.out]; rfl, HB.out⟩
    · have ht' : ¬ 1023 < (t.size : Int) := by omega
      have HX : Hid (X = (x == 0 && y == want)) := Hid.mk (by rw [HM.out, if_neg (fun h => h.elim hp ht)])
      clear HM hp ht
      cases hx0 : (x == 0) with
      | true =>
        go_enter Try.func6, Try.ntmps6
        go_wp2_with fail
        refine km.mono ?_
        rintro e w1 ⟨rfl, hb⟩
        have HB := Hid.mk hb
        clear km hb
        go_wp2
        go_ret
        exact ⟨by rw [HX.out, hx0]; rfl, HB.out⟩
      | false =>
        go_enter Try.func6, Try.ntmps6
        go_wp2_with fail
        refine km.mono ?_
        rintro e w1 ⟨rfl, hb⟩
        have HB := Hid.mk hb
        clear km hb
        go_wp2
        go_ret
        exact ⟨by rw [HX.out, hx0]; rfl, HB.out⟩
theorem getS (s : ByteArray) (i : Nat) (hi : i < s.size) : ∀ h', ((s[i]'h').toNat : Int) = (ub s.data.toList).getD i 0 := fun h' => by
  have hl := len_size s
  have hi2 : i < s.data.toList.length := by omega
  simp [ub, List.getD, List.getElem?_map, List.getElem?_eq_getElem hi2]
  rfl
set_option maxRecDepth 20000 in
set_option maxHeartbeats 4000000 in
theorem clear1_any (s : ByteArray) (w : World) (hs : s.size ≤ 1000000000000) : Calls Try.prog 8 #[.string s] w fun e w' => e = .returned (.bool (decide (∀ x ∈ ub s.data.toList, x ≠ 47))) ∧ w' = w := by
  have hl := len_size s
  have hul := ub_len s.data.toList
  have HG := Hid.mk (getS s)
  obtain ⟨u, hu⟩ : ∃ u, u = ub s.data.toList := ⟨_, rfl⟩
  rw [← hu] at HG hul
  have HU := Hid.mk hu
  clear hu
  go_enter Try.func8, Try.ntmps8
  go_wp2
  go_loopw [3] (fun iv wr => ∃ i : Nat, iv = .int .i64 i ∧ i ≤ s.size ∧ wr = w ∧ ∀ x ∈ u.take i, x ≠ 47) (fun iv _ => s.size - (intOf iv).toNat)
  case atStart => exact ⟨0, rfl, Nat.zero_le _, rfl, by simp⟩
  case round =>
    obtain ⟨i, rfl, hi, hww, hall⟩ := hrel
    subst hww
    by_cases hlt : i < s.size
    · have hlt' : (i : Int) < (s.size : Int) := by omega
      have hg := HG.out i hlt
      have hmem : u.getD i 0 ∈ u := by
        have hi2 : i < u.length := by omega
        simp [List.getD, hi2]
      have hsn := take_snoc u i (by omega)
      obtain ⟨x, hx⟩ : ∃ x, x = u.getD i 0 := ⟨_, rfl⟩
      rw [← hx] at hg hmem hsn
      have HS := Hid.mk (And.intro hmem (And.intro hsn hall))
      clear hmem hsn hall hx
      by_cases h47 : x = 47
      · have h47' : (x == 47) = true := by simp [h47]
        have HF : Hid (decide (∀ x ∈ ub s.data.toList, x ≠ 47) = false) := Hid.mk (decide_eq_false (fun h => h x (HU.out ▸ HS.out.1) h47))
        clear h47
        go_wp2
        go_ret
        exact ⟨by rw [HF.out]; rfl, rfl⟩
      · have h47' : (x == 47) = false := by simp [h47]
        have HF : Hid (∀ y ∈ u.take (i + 1), y ≠ 47) := Hid.mk (by
          rw [← HS.out.2.1]
          intro y hy
          rcases List.mem_append.1 hy with hy | hy
          · exact HS.out.2.2 y hy
          · rw [List.mem_singleton] at hy; subst hy; exact h47)
        clear h47 HS
        go_wp2
        go_roundw
        case rel => exact ⟨i + 1, by go_num, by omega, trivial, HF.out⟩
        case measure => simp [intOf]; omega
    · obtain rfl : i = s.size := by omega
      have hge : ¬ (s.size : Int) < (s.size : Int) := by omega
      rw [List.take_of_length_le (by omega)] at hall
      have HF : Hid (decide (∀ x ∈ ub s.data.toList, x ≠ 47) = true) := Hid.mk (decide_eq_true (HU.out ▸ hall))
      clear hall
      go_wp2
      go_ret
      exact ⟨by rw [HF.out]; rfl, rfl⟩
end Go.Proofs.Ytkdjjnkhbmmfeaa
