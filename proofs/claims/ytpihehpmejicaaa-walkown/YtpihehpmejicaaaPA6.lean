import Derived.Test.YtpihehpmejicaaaPA5
namespace Go.Proofs.Ytpihehpmejicaaa
open Go.RowKit Go.Maps

theorem Told.far {B : Nat} {w w' : World} {v : Value} {l : List (List UInt8)} (h : Told B w v l) {C : Nat} (hb : Below C w w') (hC : ∀ g, v.ownBlock = some g → g < C) : Told B w' v l :=
  rowAgree h (fun g hg => hb.block g (hC g hg))
theorem Told.later {B : Nat} {w w' : World} {v : Value} {l : List (List UInt8)} (h : Told B w v l) (hb : Below w.heap.size w w') : Told B w' v l :=
  rowAgree h (fun g hg => hb.block g (rowLt h hg))
theorem Told.base {B B' : Nat} {w : World} {v : Value} {l : List (List UInt8)} (h : Told B w v l) (hB : B' ≤ B) : Told B' w v l := by
  obtain ⟨hl, h | ⟨g, cap, cur, rfl, hg, hbk, h1⟩⟩ := h
  · exact ⟨hl, .inl h⟩
  · exact ⟨hl, .inr ⟨g, cap, cur, rfl, by omega, hbk, h1⟩⟩
theorem Told.app {B : Nat} {W : World} {v : Value} {l : List (List UInt8)} (h : Told B W v l) (p : List UInt8) (hk : l.length ≤ 100000000) (hB : B ≤ W.heap.size) :
    ∃ v' w', (Builtin.append_ #[22, 22] 22 #[v, .slice (some ⟨W.heap.size, 0, none⟩) 1 1]).run Try.prog (W.alloc (.cells #[.string ⟨p.toArray⟩] 9)) = .ok v' w' ∧ Told B w' v' (l ++ [p]) ∧ Below B W w' := by
  obtain ⟨g, cap, w', h1, h2, h3, _⟩ := app_str h (.string ⟨p.toArray⟩) rfl hk hB
  refine ⟨_, w', h1, ?_, ((Below.refl B W).alloc hB _).trans ((Below.refl _ _).grown h3 (by simp; omega) (fun k e => rowLow h e))⟩
  unfold Told
  rw [List.length_append, strs, List.map_append]
  exact h2
theorem Told.shape {B : Nat} {w : World} {v : Value} {l : List (List UInt8)} (h : Told B w v l) : (v = .slice none 0 0 ∧ l = []) ∨ ∃ g c, v = .slice (some ⟨g, 0, none⟩) l.length c ∧ B ≤ g ∧ g < w.heap.size ∧ ∀ i (hi : i < l.length), w.cell? ⟨g, i, none⟩ = some (.string ⟨l[i].toArray⟩) := by
  have h' := h
  have hlt := fun g hg => rowLt (g := g) h hg
  obtain ⟨hl, ⟨rfl, h0⟩ | ⟨g, cap, cur, rfl, hg, hbk, h1⟩⟩ := h
  · exact .inl ⟨rfl, List.eq_nil_of_length_eq_zero h0⟩
  · refine .inr ⟨g, cap, rfl, hg, hlt g rfl, fun i hi => ?_⟩
    have := h'.cells (g := g) rfl i (.string ⟨l[i].toArray⟩) (by simp [strs, List.getElem?_eq_getElem hi])
    rwa [addr_add, Nat.zero_add] at this

set_option maxHeartbeats 4000000 in
theorem rsplit_any (s : ByteArray) (w : World) :
    Calls Try.prog 8 #[.string s] w fun e w' => ∃ v, e = .returned (.tuple #[v, .int .i64 (splitErr s.data.toList)]) ∧ Told w.heap.size w' v (splitAns s.data.toList) ∧ Below w.heap.size w w' := by
  have hl := len_size s
  by_cases h1 : 1023 < (s.size : Int)
  · have he : splitErr s.data.toList = 7 := by unfold splitErr; rw [if_pos (by omega)]
    have HE := Hid.mk he
    clear he
    go_enter Try.func8, Try.ntmps8
    go_wp2
    go_ret2
    refine ⟨_, by rw [HE.out]; rfl, ?_, Below.refl _ _⟩
    unfold splitAns
    rw [HE.out, if_neg (by decide)]
    exact told_nil _ _
  · by_cases h0 : s.size = 0
    · have hnil : s.data.toList = [] := List.eq_nil_of_length_eq_zero (by omega)
      have hnil' : s.toList = [] := by rw [ByteArray.toList_eq]; exact hnil
      have he : splitErr s.data.toList = 110 := by
        unfold splitErr
        rw [if_neg (by omega), if_pos (by rw [hnil]; simp)]
      have HE := Hid.mk he
      clear he hnil
      go_enter Try.func8, Try.ntmps8
      go_wp2
      go_ret2
      refine ⟨_, by rw [HE.out]; rfl, ?_, Below.refl _ _⟩
      unfold splitAns
      rw [HE.out, if_neg (by decide)]
      exact told_nil _ _
    · have hpos : 0 < s.size := by omega
      have hpos' : (0 : Int) < (s.size : Int) := by omega
      have e1 : s.toList.isEmpty = false := by
        rw [ByteArray.toList_eq]
        cases hs : s.data.toList with
        | nil => rw [hs] at hl; simp at hl; omega
        | cons => rfl
      have e0 : (s.toList = []) = False := eq_false (fun e => by rw [e] at e1; simp at e1)
      have hhead : s.data.toList.head? = some s[0] := by
        have := getb s hpos
        rw [byte_at s hpos] at this
        rw [List.head?_eq_getElem?, this]
      by_cases h47 : s[0].toNat = 47
      · have b1 : (((s[0].toNat : Nat) : Int) == 47) = true := by rw [h47]; rfl
        have e47 : s[0] = 47 := UInt8.toNat_inj.1 h47
        have he : splitErr s.data.toList = errOf (ptsOf s.data.toList) := by
          unfold splitErr
          rw [if_neg (by omega), if_neg (by rw [hhead, e47]; simp)]
        have hw := wrong_any s w (by omega)
        by_cases hz : errOf (ptsOf s.data.toList) = 0
        · have HE := Hid.mk (And.intro (he.trans hz) (by unfold splitAns; rw [if_pos (he.trans hz)] : splitAns s.data.toList = ptsOf s.data.toList))
          rw [hz] at hw
          clear he hz hhead e47
          go_enter Try.func8, Try.ntmps8
          go_wp2_with fail
          refine hw.mono ?_
          rintro e w1 ⟨rfl, hb1⟩
          have HB := Hid.mk hb1
          have Hs := Hid.mk (by omega : s.size ≤ 1023)
          clear hb1 hw b1 h47 e0 e1 hpos hpos' h0 hl h1
          go_wp2
          go_loopw [0, 5] (fun tv lv wr => ∃ (t : ByteArray) (acc : List (List UInt8)), tv = .string t ∧ t.size ≤ s.size ∧ ptsOf s.data.toList = acc ++ ptsOf t.data.toList ∧ Told w.heap.size wr lv acc ∧ Below w.heap.size w wr) (fun tv _ _ => strLen tv)
          case atStart => exact ⟨s, [], rfl, Nat.le_refl _, rfl, told_nil _ _, HB.out⟩
          case round =>
            obtain ⟨t, acc, rfl, hts, hpt, htold, hb⟩ := hrel
            have hc := cut_any t wr (by have := Hs.out; omega)
            have HH := Hid.mk (And.intro hpt (And.intro htold hb))
            clear hpt htold hb
            go_wp2_with fail
            refine hc.mono ?_
            rintro e w2 ⟨p, r, rfl, hcut, hb2⟩
            have HB2 := Hid.mk (And.intro (HH.out.2.2.trans (hb2.mono HH.out.2.2.size)) (HH.out.2.1.later hb2))
            clear hc hb2
            rcases hcut with ⟨rfl, h0⟩ | ⟨hk, hp, hr⟩
            · have HA := Hid.mk (by rw [HH.out.1, h0, List.append_nil] : ptsOf s.data.toList = acc)
              clear h0
              go_wp2
              go_ret2
              refine ⟨_, by rw [HE.out.1]; rfl, ?_, HB2.out.1⟩
              rw [HE.out.2, HA.out]
              exact HB2.out.2
            · have e0 : (p = []) = False := eq_false (fun e => by subst e; simp [keepP] at hk)
              have e1 : p.isEmpty = false := by
                cases p with
                | nil => simp at e0
                | cons => rfl
              have HP := Hid.mk (by rw [HH.out.1, hp]; simp : ptsOf s.data.toList = (acc ++ [p]) ++ ptsOf r)
              have hlen : acc.length ≤ 100000000 := by
                have h1 := ptsOf_len s.data.toList
                rw [HH.out.1, List.length_append, len_size] at h1
                have := Hs.out
                omega
              obtain ⟨v', w3, hap1, hap2, hap3⟩ := HB2.out.2.app p hlen HB2.out.1.size
              have HA := Hid.mk (And.intro hap2 hap3)
              have hr' : r.length < t.size := by rw [← len_size t]; exact hr
              have HR := Hid.mk hr'
              clear hk hp hr hap2 hap3 hlen hr'
              go_wp2_with (at_builtin; refine Lib.wpList_append_run _ rfl _ _ _ _ rfl _ _ rfl rfl _ _ hap1 ?_)
              go_roundw
              case rel => exact ⟨⟨r.toArray⟩, acc ++ [p], rfl, by have h1 := HR.out; show r.toArray.size ≤ _; simp; omega, HP.out, HA.out.1, HB2.out.1.trans HA.out.2⟩
              case measure => exact (by have h1 := HR.out; show r.toArray.size < t.size; simpa using h1)
        · have HE := Hid.mk (And.intro he (by unfold splitAns; rw [if_neg (by rw [he]; exact hz)] : splitAns s.data.toList = []))
          have e4 : (errOf (ptsOf s.data.toList) == 0) = false := by simpa using hz
          clear he hhead e47
          generalize errOf (ptsOf s.data.toList) = E at *
          go_enter Try.func8, Try.ntmps8
          go_wp2_with fail
          refine hw.mono ?_
          rintro e w1 ⟨rfl, hb1⟩
          go_wp2
          go_ret2
          refine ⟨_, by rw [HE.out.1]; rfl, ?_, hb1⟩
          rw [HE.out.2]
          exact told_nil _ _
      · have b1 : (((s[0].toNat : Nat) : Int) == 47) = false := by
          rw [Bool.eq_false_iff, ne_eq, beq_iff_eq]
          omega
        have he : splitErr s.data.toList = 110 := by
          unfold splitErr
          rw [if_neg (by omega), if_pos (by rw [hhead]; intro h; apply h47; rw [Option.some.inj h]; rfl)]
        have HE := Hid.mk he
        clear he hhead
        go_enter Try.func8, Try.ntmps8
        go_wp2
        go_ret2
        refine ⟨_, by rw [HE.out]; rfl, ?_, Below.refl _ _⟩
        unfold splitAns
        rw [HE.out, if_neg (by decide)]
        exact told_nil _ _
end Go.Proofs.Ytpihehpmejicaaa
