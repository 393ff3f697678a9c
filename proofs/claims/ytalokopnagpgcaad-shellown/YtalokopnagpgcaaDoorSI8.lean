import Derived.Test.YtalokopnagpgcaaDoorSI7
namespace Go.Proofs.YtalokopnagpgcaaDoor
open Go.RowKit Go.Maps

/-- What Words answers. -/
def ansO (o : Option (List (List UInt8))) : List (List UInt8) × Int := match o with
  | none => ([], 160)
  | some ws => (ws, 0)
def ansW (l : List UInt8) : List (List UInt8) × Int := if 65536 < l.length then ([], 7) else ansO (wds l)
theorem map_app (o : Option (List (List UInt8))) (a : List (List UInt8)) (m : List UInt8) : (o.map (fun ws => m :: ws)).map (fun ws => a ++ ws) = o.map (fun ws => (a ++ [m]) ++ ws) := by
  cases o <;> simp
set_option maxRecDepth 20000 in
set_option maxHeartbeats 4000000 in
theorem words_any (s : ByteArray) (w : World) (he : EV w) :
    Calls Tryd.prog 8 #[.string s] w fun e w' => ∃ v, e = .returned (.tuple #[v, .int .i64 (ansW s.data.toList).2]) ∧ Told w.heap.size w' v (ansW s.data.toList).1 ∧ Below w.heap.size w w' := by
  by_cases hs : s.size ≤ 65536
  · have hub := unblanked_any
    have hu0 := unblanked_any s w
    have hf := first_any
    have hgt : ¬ ((65536 : Int) < (s.size : Int)) := by omega
    have hans : ansW s.data.toList = ansO (wds s.data.toList) := by
      unfold ansW
      rw [len_size, if_neg (by omega)]
    rw [hans]
    clear hans
    have Hs := Hid.mk (And.intro hs he)
    clear hs he
    go_enter Tryd.func8, Tryd.ntmps8
    go_wp2_with fail
    refine hu0.mono ?_
    rintro e w1 ⟨rfl, hb1⟩
    have HB1 := Hid.mk hb1
    clear hb1 hu0
    go_wp2_with fail
    go_loopw [4, 5] (fun v tv wr => ∃ (l : List UInt8) (ws1 : List (List UInt8)), tv = .string ⟨(unb l).toArray⟩ ∧ Told w.heap.size wr v ws1 ∧ wds s.data.toList = (wds l).map (fun ws => ws1 ++ ws) ∧ ws1.length + l.length ≤ s.size ∧ Below w.heap.size w wr) (fun _ tv _ => strLen tv)
    case atStart => exact ⟨s.data.toList, [], rfl, told_nil _ _, by simp, by rw [len_size]; simp, HB1.out⟩
    case round =>
      obtain ⟨l, ws1, rfl, htold, hwd, hlen, hbr⟩ := hrel
      have hz := hbr.size
      have HT := Hid.mk htold
      have HB := Hid.mk hbr
      have HV := Hid.mk (Hs.out.2.later hbr)
      clear htold hbr
      match hu : unb l with
      | [] =>
        have hfin : wds s.data.toList = some ws1 := by rw [hwd, wds_end hu]; simp
        have HF := Hid.mk hfin
        clear hfin hwd
        go_wp2
        go_ret2
        exact ⟨_, by rw [HF.out]; rfl, by rw [HF.out]; exact HT.out, HB.out⟩
      | c :: t =>
        have g0 : ∀ h', (((⟨(c :: t).toArray⟩ : ByteArray)[0]'h').toNat : Int) = (c.toNat : Int) := fun _ => rfl
        by_cases h35 : c = 35
        · subst h35
          have hfin : wds s.data.toList = some ws1 := by rw [hwd, wds_note hu]; simp
          have HF := Hid.mk hfin
          have g0' : ∀ h', (((⟨(35 :: t).toArray⟩ : ByteArray)[0]'h').toNat : Int) = 35 := fun _ => rfl
          clear hfin hwd g0
          go_wp2
          go_ret2
          exact ⟨_, by rw [HF.out]; rfl, by rw [HF.out]; exact HT.out, HB.out⟩
        · have e35 : ((c.toNat : Int) == 35) = false := ne_lit (k := 35) h35
          have e35' : ((c.toNat : Int) != 35) = true := by simpa [bne] using e35
          have hlu := unb_le l
          rw [hu] at hlu
          have hlc : (c :: t).length ≤ s.size := by omega
          have hf1 := hf ⟨(c :: t).toArray⟩ (by simp) (by show (c :: t).toArray.size ≤ _; rw [List.size_toArray]; have := Hs.out.1; omega) wr HV.out
          rw [show (⟨(c :: t).toArray⟩ : ByteArray).data.toList = c :: t from rfl] at hf1
          cases hfr : frst (c :: t) with
          | none =>
            rw [hfr] at hf1
            have hfin : wds s.data.toList = none := by rw [hwd, wds_no hu h35 hfr]; rfl
            have HF := Hid.mk hfin
            clear hfin hwd hub hf hlu hlc hlen
            go_wp2_with fail
            refine hf1.mono ?_
            rintro e w2 ⟨⟨a, b, rfl⟩, hb2⟩
            have HB2 := Hid.mk (HB.out.trans (hb2.mono hz))
            clear hb2 hf1
            go_wp2
            go_ret2
            exact ⟨_, by rw [HF.out]; rfl, by rw [HF.out]; exact told_nil _ _, HB2.out⟩
          | some mr =>
            obtain ⟨m, r⟩ := mr
            rw [hfr] at hf1
            have hstep := wds_step hu h35 hfr
            have hrl := frst_lt (unb_head hu) hfr
            have hu1 := hub ⟨r.toArray⟩
            have hn : wds s.data.toList = (wds r).map (fun ws => (ws1 ++ [m]) ++ ws) := by rw [hwd, hstep, map_app]
            have HM := Hid.mk (And.intro hn (And.intro (show (ws1 ++ [m]).length + r.length ≤ s.size by simp only [List.length_append, List.length_cons, List.length_nil] at hrl hlu ⊢; omega) hrl))
            have hwl : ws1.length ≤ 100000000 := by have := Hs.out.1; omega
            clear hn hwd hstep hrl hub hf hlu hlc hlen
            go_wp2_with fail
            refine hf1.mono ?_
            rintro e w2 ⟨rfl, hb2⟩
            have HT2 : Hid (Told w.heap.size w2 u4 ws1) := Hid.mk (rowAgree HT.out (fun g hg => hb2.block g (rowLt HT.out hg)))
            have HB2 := Hid.mk (HB.out.trans (hb2.mono hz))
            have hz2 := hb2.size
            clear hb2 HT HB hf1
            obtain ⟨g, cap, w3, hap1, hap2, hap3, hap4⟩ := app_str HT2.out (.string ⟨m.toArray⟩) rfl hwl (by omega)
            have HA := Hid.mk (And.intro hap2 (And.intro hap3 hap4))
            clear hap2 hap3 hap4
            go_wp2_with (at_builtin; refine Lib.wpList_append_run _ rfl _ _ _ _ rfl _ _ rfl rfl _ _ hap1 ?_)
            have HB3 : Hid (Below w.heap.size w w3) := Hid.mk ((HB2.out.alloc (by omega) _).trans ((Below.refl _ _).grown HA.out.2.1 (by simp; omega) (fun k e => rowLow HT2.out e)))
            have hz3 : w.heap.size ≤ w3.heap.size := HB3.out.size
            go_wp2_with fail
            refine (hu1 _).mono ?_
            rintro e w4 ⟨rfl, hb4⟩
            have HB4 := Hid.mk (HB3.out.trans (hb4.mono hz3))
            have HT4 : Hid (Told w.heap.size w4 (.slice (some ⟨g, 0, none⟩) (ws1.length + 1) cap) (ws1 ++ [m])) := Hid.mk (by
              have h1 := HA.out.1
              unfold Told
              rw [List.length_append, strs, List.map_append]
              exact rowAgree h1 (fun g' hg => hb4.block g' (rowLt h1 hg)))
            clear hb4 hu1
            go_wp2
            go_roundw
            case rel => exact ⟨r, ws1 ++ [m], rfl, HT4.out, HM.out.1, HM.out.2.1, HB4.out⟩
            case measure =>
              have h1 := HM.out.2.2
              have h2 := unb_le r
              simp [strLen, ByteArray.size] at h1 ⊢
              omega
  · have hgt : (65536 : Int) < (s.size : Int) := by omega
    have hans : ansW s.data.toList = ([], 7) := by
      unfold ansW
      rw [len_size, if_pos (by omega)]
    rw [hans]
    go_enter Tryd.func8, Tryd.ntmps8
    go_wp2
    go_ret2
    exact ⟨_, rfl, told_nil _ _, Below.refl _ _⟩
end Go.Proofs.YtalokopnagpgcaaDoor
