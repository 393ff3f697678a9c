import Derived.Test.YtpihehpmejicaaaPA2
namespace Go.Proofs.Ytpihehpmejicaaa
open Go.RowKit Go.Maps

theorem getb (s : ByteArray) {i : Nat} (h : i < s.size) : s.data.toList[i]? = some (s.get! i) := by
  rw [byte_at s h]
  have h' : i < s.data.toList.length := by rw [len_size]; exact h
  rw [List.getElem?_eq_getElem h']
  simp [ByteArray.getElem_eq_getElem_data]
/-- What stands from f to a slash. -/
theorem at_slash (T : ByteArray) {f pos : Nat} (hf : f ≤ pos) (hp : pos < T.size) (hno : ∀ j, f ≤ j → j < pos → (T.get! j).toNat ≠ 47) (h47 : (T.get! pos).toNat = 47) :
    T.data.toList.drop f = (T.data.toList.drop f).take (pos - f) ++ 47 :: T.data.toList.drop (pos + 1) ∧ 47 ∉ (T.data.toList.drop f).take (pos - f) := by
  have hl := len_size T
  have e47 : T.get! pos = 47 := UInt8.toNat_inj.1 h47
  constructor
  · have h1 : (T.data.toList.drop f).drop (pos - f) = 47 :: T.data.toList.drop (pos + 1) := by
      rw [List.drop_drop, Nat.add_sub_cancel' hf, List.drop_eq_getElem_cons (by omega)]
      congr 1
      have := getb T hp
      rw [List.getElem?_eq_getElem (by omega)] at this
      rw [Option.some.inj this, e47]
    rw [← h1, List.take_append_drop]
  · intro hm
    obtain ⟨j, hj, e⟩ := List.mem_iff_getElem.1 hm
    simp only [List.length_take, List.length_drop] at hj
    rw [List.getElem_take, List.getElem_drop] at e
    have h2 := getb T (i := f + j) (by omega)
    rw [List.getElem?_eq_getElem (by omega)] at h2
    refine hno (f + j) (by omega) (by omega) ?_
    rw [← Option.some.inj h2, e]
    rfl
theorem at_end (T : ByteArray) {f pos : Nat} (hp : ¬ pos < T.size) (hno : ∀ j, f ≤ j → j < pos → (T.get! j).toNat ≠ 47) (hlast : 0 < T.size → (T.get! (T.size - 1)).toNat = 47) : T.data.toList.drop f = [] := by
  have hl := len_size T
  by_cases h : f < T.size
  · exact absurd (hlast (by omega)) (hno _ (by omega) (by omega))
  · exact List.drop_eq_nil_of_le (by omega)

/-- A list of texts that a call has made: new memory alone. -/
def Told (B : Nat) (w : World) (v : Value) (l : List (List UInt8)) : Prop := w.ownsRow B 9 1 v l.length (strs l)

theorem told_nil (B : Nat) (w : World) : Told B w (.slice none 0 0) [] := ⟨rfl, .inl ⟨rfl, rfl⟩⟩

/-- What parts answers. -/
def partsAns (l : List UInt8) : List (List UInt8) := if errOf (ptsOf l) = 0 then ptsOf l else []

set_option maxHeartbeats 2000000 in
theorem parts_any (s : ByteArray) (w : World) (hs : s.size ≤ 99999999) :
    Calls Try.prog 13 #[.string s] w fun e w' => ∃ v, e = .returned (.tuple #[v, .int .i64 (errOf (ptsOf s.data.toList))]) ∧ Told w.heap.size w' v (partsAns s.data.toList) ∧ Below w.heap.size w w' := by
  obtain ⟨T, hT⟩ : ∃ T, T = s ++ (⟨#[47]⟩ : ByteArray) := ⟨_, rfl⟩
  have hTl : T.data.toList = s.data.toList ++ [47] := by rw [hT]; simp
  have hTs : T.size = s.size + 1 := by rw [← len_size T, hTl]; simp
  have hlast : (T.get! s.size).toNat = 47 := by
    have h1 := getb T (i := s.size) (by omega)
    rw [hTl, List.getElem?_append_right (by simp)] at h1
    simp at h1
    rw [← h1]
    rfl
  have hright := right_any
  have HT := Hid.mk (And.intro hTl (And.intro hTs hlast))
  clear hTl hTs hlast
  have HT0 := Hid.mk hT.symm
  clear hT
  have hcat : (9223372036854775807 < s.size + 1) = False := eq_false (by omega)
  have Hs := Hid.mk hs
  clear hs
  go_enter Try.func13, Try.ntmps13
  go_wp2
  rw [HT0.out]
  go_loopw [4, 5] (fun lv fv wr => ∃ (pos f : Nat) (acc : List (List UInt8)), fv = .int .i64 f ∧ wr.heap[w.heap.size]? = some (.stringIter T pos) ∧ f ≤ pos ∧ pos ≤ T.size ∧ (∀ j, f ≤ j → j < pos → (T.get! j).toNat ≠ 47) ∧ Told w.heap.size wr lv acc ∧ Below w.heap.size w wr ∧ ptsOf s.data.toList = acc ++ ptsOf (T.data.toList.drop f) ∧ errOf acc = 0) (fun _ _ wr => T.size - wr.iterPos w.heap.size)
  case atStart =>
    refine ⟨0, 0, [], rfl, heap_alloc_new w _, Nat.le_refl _, Nat.zero_le _, (fun j _ h => by omega), told_nil _ _, (Below.refl _ _).alloc (Nat.le_refl _) _, ?_, rfl⟩
    rw [List.drop_zero, HT.out.1, ptsOf_end]
    rfl
  case round =>
    obtain ⟨pos, f, acc, rfl, hit, hfp, hpT, hno, htold, hbel, hpts, herr⟩ := hrel
    have HH := Hid.mk (And.intro hfp (And.intro hpT (And.intro hno (And.intro htold (And.intro hbel (And.intro hpts herr))))))
    clear hfp hpT hno htold hbel hpts herr
    by_cases hp : pos < T.size
    · have hnx : ∀ ty, (Instr.next (.pointer (some ⟨w.heap.size, 0, none⟩)) true ty).run Try.prog wr = _ := fun ty => Lib.run_next_any_at wr w.heap.size T pos ty hit hp
      have hi0 : wr.iterPos w.heap.size = pos := iterPos_of hit
      by_cases h47 : (T.get! pos).toNat = 47
      · rw [slash_letter T pos hp h47] at hnx
        have hi1 := Lib.iterAt_heap wr w.heap.size T pos (pos + 1) hit
        have hb1 : Below w.heap.size w (wr.iterAt w.heap.size T (pos + 1)) := Lib.below_iterAt HH.out.2.2.2.2.1 (Nat.le_refl _) T (pos + 1)
        have htl1 : Told w.heap.size (wr.iterAt w.heap.size T (pos + 1)) u4 acc := rowAgree HH.out.2.2.2.1 (fun g hg => Lib.iterAt_other wr _ g T _ (fun e => by
          obtain ⟨cur, hc⟩ := rowBlock HH.out.2.2.2.1 hg
          rw [e, hit] at hc
          cases hc))
        obtain ⟨hcut, hnot⟩ := at_slash T HH.out.1 hp HH.out.2.2.1 h47
        have hps : pos ≤ s.size := by have := HT.out.2.1; omega
        have hfs : f ≤ pos := HH.out.1
        have hseg : (s.extract f pos).data.toList = (T.data.toList.drop f).take (pos - f) := by
          have hl := len_size s
          rw [ext_list, HT.out.1, List.drop_append_of_le_length (by omega), List.take_append_of_le_length (by simp only [List.length_drop]; omega)]
        generalize hseg' : (T.data.toList.drop f).take (pos - f) = p at *
        have hptsn : ptsOf s.data.toList = acc ++ ((if keepP p then [p] else []) ++ ptsOf (T.data.toList.drop (pos + 1))) := by
          rw [HH.out.2.2.2.2.2.1, hcut, ptsOf_cut _ hnot]
        have herr : errOf acc = 0 := HH.out.2.2.2.2.2.2
        have hlen : acc.length ≤ 100000000 := by
          have h1 := ptsOf_len s.data.toList
          rw [hptsn, List.length_append, len_size] at h1
          have := Hs.out
          omega
        have HI := Hid.mk (And.intro hi1 (And.intro hb1 (And.intro htl1 (And.intro hptsn (And.intro herr hlen)))))
        have HC := Hid.mk hcut
        clear hi1 hb1 htl1 hptsn herr hlen hcut hnot HH hseg'
        generalize wr.iterAt w.heap.size T (pos + 1) = wi at *
        have hsx : s.extract f pos = ⟨p.toArray⟩ := by rw [← hseg]
        have hw64 : wrap64 ((pos : Int) + 1) = ((pos + 1 : Nat) : Int) := by
          have := Hs.out
          simp [wrap64]
          omega
        clear hseg
        by_cases hk : keepP p = true
        · have e0 : (p = []) = False := eq_false (fun e => by subst e; simp [keepP] at hk)
          have e1 : p.isEmpty = false := by
            cases p with
            | nil => simp at e0
            | cons => rfl
          have e2 : (p == [46]) = false := by
            simp only [keepP, Bool.and_eq_true, Bool.not_eq_true'] at hk
            exact hk.2
          have hr0 : ∀ w, Calls Try.prog 18 #[.string ⟨p.toArray⟩] w fun e w' => e = .returned (.int .i64 (rightErr p)) ∧ w' = w := fun w => hright ⟨p.toArray⟩ w
          have hptsk : ptsOf s.data.toList = acc ++ (p :: ptsOf (T.data.toList.drop (pos + 1))) := by
            rw [HI.out.2.2.2.1, if_pos hk]
            rfl
          have HK := Hid.mk hptsk
          clear hk hptsk
          by_cases hre : rightErr p = 0
          · rw [hre] at hr0
            obtain ⟨g, cap, w', hap1, hap2, hap3, hap4⟩ := app_str HI.out.2.2.1 (.string ⟨p.toArray⟩) rfl HI.out.2.2.2.2.2 HI.out.2.1.size
            have HA := Hid.mk (And.intro hap2 (And.intro hap3 hap4))
            clear hap2 hap3 hap4
            go_wp2_with fail
            refine (hr0 _).mono ?_
            rintro e w1 ⟨rfl, hw⟩
            have hw' := hw.symm
            subst hw'
            go_wp2_with (at_builtin; refine Lib.wpList_append_run _ rfl _ _ _ _ rfl _ _ rfl rfl _ _ hap1 ?_)
            have hit' : w'.heap[w.heap.size]? = some (.stringIter T (pos + 1)) := by
              have hlt := (Array.getElem?_eq_some_iff.1 HI.out.1).1
              rw [HA.out.2.1.block _ (by simp; omega) (fun e => by
                obtain ⟨cur, hc⟩ := rowBlock HI.out.2.2.1 e.symm
                rw [HI.out.1] at hc
                cases hc)]
              exact (Below.heap_alloc _ _ _ hlt).trans HI.out.1
            have hip : w'.iterPos w.heap.size = pos + 1 := iterPos_of hit'
            have hbw : Below w.heap.size w w' := (HI.out.2.1.alloc HI.out.2.1.size _).trans ((Below.refl _ _).grown HA.out.2.1 (by have := HI.out.2.1.size; simp; omega) (fun k e => rowLow HI.out.2.2.1 e))
            go_roundw
            case rel =>
              refine ⟨pos + 1, pos + 1, acc ++ [p], (by first | go_num | rw [hw64]), hit', Nat.le_refl _, by omega, (fun j h1 h2 => by omega), ?_, hbw, ?_, ?_⟩
              · have := HA.out.1
                unfold Told
                rw [List.length_append, strs, List.map_append]
                exact this
              · rw [HK.out]
                simp
              · rw [errOf_app HI.out.2.2.2.2.1]
                exact errOf_one hre
            case measure =>
              rw [hip, hi0]
              omega
          · have HR := Hid.mk hre
            have hre' : (rightErr p == 0) = false := by simpa using hre
            have hne : (errOf (ptsOf s.data.toList)) = rightErr p := by
              rw [HK.out, errOf_app HI.out.2.2.2.2.1]
              simp [errOf, hre]
            have HN := Hid.mk hne
            clear hre hne
            generalize rightErr p = RE at *
            go_wp2_with fail
            refine (hr0 _).mono ?_
            rintro e w1 ⟨rfl, hw⟩
            have hw' := hw.symm
            subst hw'
            go_wp2
            go_ret2
            refine ⟨_, by rw [HN.out]; rfl, ?_, HI.out.2.1⟩
            unfold partsAns
            rw [HN.out, if_neg HR.out]
            exact told_nil _ _
        · have hptsk : ptsOf s.data.toList = acc ++ ptsOf (T.data.toList.drop (pos + 1)) := by
            rw [HI.out.2.2.2.1, if_neg hk]
            rfl
          have HK := Hid.mk hptsk
          clear hptsk
          have hp2 : p = [] ∨ p = [46] := by
            simp only [keepP, Bool.and_eq_true, Bool.not_eq_true', beq_eq_false_iff_ne, ne_eq, not_and, Classical.not_not] at hk
            by_cases h0 : p = []
            · exact .inl h0
            · exact .inr (hk h0)
          rcases hp2 with rfl | rfl
          all_goals
            have hip : wi.iterPos w.heap.size = pos + 1 := iterPos_of HI.out.1
            go_wp2
            go_roundw
            case rel => exact ⟨pos + 1, pos + 1, acc, (by first | go_num | rw [hw64]), HI.out.1, Nat.le_refl _, by omega, (fun j h1 h2 => by omega), HI.out.2.2.1, HI.out.2.1, HK.out, HI.out.2.2.2.2.1⟩
            case measure =>
              rw [hip, hi0]
              omega
      · obtain ⟨hl1, hl2, hl3, hl4⟩ := letter T pos hp h47
        have hi1 := Lib.iterAt_heap wr w.heap.size T pos (pos + (Utf8.decode T pos).2) hit
        generalize Utf8.decode T pos = D at *
        obtain ⟨r, d⟩ := D
        simp only at hl1 hl2 hl3 hl4 hi1
        have hl1' : ((r : Int) == 47) = false := by
          rw [Bool.eq_false_iff, ne_eq, beq_iff_eq]
          omega
        have HI := Hid.mk (And.intro hl1 (And.intro hl2 (And.intro hl3 hl4)))
        clear hl1 hl2 hl3 hl4
        have hip : (wr.iterAt w.heap.size T (pos + d)).iterPos w.heap.size = pos + d := iterPos_of hi1
        have HJ := Hid.mk hi1
        clear hi1
        go_wp2
        go_roundw
        case rel =>
          refine ⟨pos + d, f, acc, rfl, HJ.out, by have := HH.out.1; omega, HI.out.2.2.1, (fun j h1 h2 => ?_), rowAgree HH.out.2.2.2.1 (fun g hg => Lib.iterAt_other wr _ g T _ (fun e => ?_)), Lib.below_iterAt HH.out.2.2.2.2.1 (Nat.le_refl _) T _, HH.out.2.2.2.2.2.1, HH.out.2.2.2.2.2.2⟩
          · by_cases hj : j < pos
            · exact HH.out.2.2.1 j h1 hj
            · exact HI.out.2.2.2 j (by omega) h2
          · obtain ⟨cur, hc⟩ := rowBlock HH.out.2.2.2.1 hg
            rw [e, hit] at hc
            cases hc
        case measure =>
          have := HI.out.2.1
          rw [hip, hi0]
          omega
    · have hnx : ∀ ty, (Instr.next (.pointer (some ⟨w.heap.size, 0, none⟩)) true ty).run Try.prog wr = _ := fun ty => Lib.run_next_end_at wr w.heap.size T pos ty hit hp
      have hend := at_end T (f := f) hp HH.out.2.2.1 (fun _ => by rw [HT.out.2.1]; exact HT.out.2.2)
      have hq : ptsOf s.data.toList = acc := by rw [HH.out.2.2.2.2.2.1, hend]; simp [ptsOf, segs, keepP]
      have herr := HH.out.2.2.2.2.2.2
      have HQ := Hid.mk (And.intro hq herr)
      clear hend hq herr
      go_wp2
      go_ret2
      refine ⟨_, by rw [HQ.out.1, HQ.out.2]; rfl, ?_, HH.out.2.2.2.2.1⟩
      unfold partsAns
      rw [HQ.out.1, HQ.out.2, if_pos rfl]
      exact HH.out.2.2.2.1
end Go.Proofs.Ytpihehpmejicaaa
