import Derived.Test.YtalokopnagpgcaaDoorSHA
namespace Go.Proofs.YtalokopnagpgcaaDoor
open Go.RowKit Go.Maps

theorem told_len {l : List UInt8} {ws : List (List UInt8)} (h : WdsQ l ws) : ws.length ≤ l.length := by
  induction h with
  | done _ => simp
  | note _ => simp
  | @step l _ _ _ _ h1 h2 _ ih =>
    have a := qtd_lt h2
    have b := congrArg List.length h1
    have c := unb_le l
    simp only [List.length_cons] at b ⊢
    omega
set_option maxRecDepth 20000 in
set_option maxHeartbeats 4000000 in
theorem words_q (s : ByteArray) (ws : List (List UInt8)) (hs : s.size ≤ 65536) (h : WdsQ s.data.toList ws) (w : World) :
    Calls Tryd.prog 8 #[.string s] w fun e w' => ∃ v, e = .returned (.tuple #[v, .int .i64 0]) ∧ Told w.heap.size w' v ws ∧ Below w.heap.size w w' := by
  have hub := unblanked_any
  have hu0 := unblanked_any s w
  have hfq := first_q
  have hgt : ¬ ((65536 : Int) < (s.size : Int)) := by omega
  have Hs := Hid.mk (And.intro hs h)
  clear hs h
  go_enter Tryd.func8, Tryd.ntmps8
  go_wp2_with fail
  refine hu0.mono ?_
  rintro e w1 ⟨rfl, hb1⟩
  have HB1 := Hid.mk hb1
  clear hb1 hu0
  go_wp2_with fail
  go_loopw [4, 5] (fun v tv wr => ∃ (l : List UInt8) (ws1 ws2 : List (List UInt8)), tv = .string ⟨(unb l).toArray⟩ ∧ Told w.heap.size wr v ws1 ∧ WdsQ l ws2 ∧ ws = ws1 ++ ws2 ∧ l.length ≤ s.size ∧ Below w.heap.size w wr) (fun _ tv _ => strLen tv)
  case atStart => exact ⟨s.data.toList, [], ws, rfl, told_nil _ _, Hs.out.2, rfl, by rw [len_size]; exact Nat.le_refl _, HB1.out⟩
  case round =>
    obtain ⟨l, ws1, ws2, rfl, htold, hwd, hws, hlen, hbr⟩ := hrel
    have hz := hbr.size
    have HT := Hid.mk htold
    have HB := Hid.mk hbr
    clear htold hbr
    cases hwd with
    | done hu =>
      rw [List.append_nil] at hws
      subst hws
      rw [hu]
      go_wp2
      go_ret2
      exact ⟨_, rfl, HT.out, HB.out⟩
    | note hu =>
      rename_i t
      rw [List.append_nil] at hws
      subst hws
      rw [hu]
      have g0 : ∀ h', (((⟨(35 :: t).toArray⟩ : ByteArray)[0]'h').toNat : Int) = 35 := fun _ => rfl
      go_wp2
      go_ret2
      exact ⟨_, rfl, HT.out, HB.out⟩
    | step hu hq hr =>
      rename_i t m r ws'
      rw [hu]
      have g0 : ∀ h', (((⟨(34 :: t).toArray⟩ : ByteArray)[0]'h').toNat : Int) = 34 := fun _ => rfl
      have hlu := unb_le l
      have hqlt := qtd_lt hq
      have hul := congrArg List.length hu
      simp only [List.length_cons] at hul
      have hs' := Hs.out.1
      have hf1 := hfq ⟨(34 :: t).toArray⟩ t m r (by show (34 :: t).toArray.size ≤ _; rw [List.size_toArray, List.length_cons]; omega) rfl hq
      have hu1 := hub ⟨r.toArray⟩
      have hwl : ws1.length ≤ 100000000 := by
        have h1 := told_len Hs.out.2
        rw [hws, List.length_append, len_size] at h1
        omega
      have HM := Hid.mk (And.intro hws (And.intro hr (And.intro hwl (show r.length ≤ s.size ∧ r.length < t.length + 1 by omega))))
      clear hws hr hlen hlu hqlt hul hs' hwl hub hfq hq hu
      go_wp2_with fail
      refine (hf1 _).mono ?_
      rintro e w2 ⟨rfl, hb2⟩
      have HT2 : Hid (Told w.heap.size w2 u4 ws1) := Hid.mk (rowAgree HT.out (fun g hg => hb2.block g (rowLt HT.out hg)))
      have HB2 := Hid.mk (HB.out.trans (hb2.mono hz))
      have hz2 := hb2.size
      clear hb2 HT HB hf1
      obtain ⟨g, cap, w3, hap1, hap2, hap3, hap4⟩ := app_str HT2.out (.string ⟨m.toArray⟩) rfl HM.out.2.2.1 (by omega)
      have HA := Hid.mk (And.intro hap2 (And.intro hap3 hap4))
      clear hap2 hap3 hap4
      go_wp2_with (at_builtin; refine Lib.wpList_append_run _ rfl _ _ _ _ rfl _ _ rfl rfl _ _ hap1 ?_)
      have HB3 : Hid (Below w.heap.size w w3) := Hid.mk ((HB2.out.alloc (by omega) _).trans ((Below.refl _ _).grown HA.out.2.1 (by simp; omega) (fun k e => rowLow HT2.out e)))
      have hz3 : w.heap.size ≤ w3.heap.size := HB3.out.size
      go_wp2_with fail
      refine (hu1 _).mono ?_
      rintro e w4 ⟨rfl, hb4⟩
      have HB4 := Hid.mk (HB3.out.trans (hb4.mono hz3))
      have HT4 : Hid (Told w.heap.size w4 (.slice (some ⟨g, 0, none⟩) (ws1.length + 1) cap) (ws1 ++ [m])) := Hid.mk (by
        have h1 := HA.out.1
        unfold Told
        rw [List.length_append, strs, List.map_append]
        exact rowAgree h1 (fun g' hg => hb4.block g' (rowLt h1 hg)))
      clear hb4 hu1
      go_wp2
      go_roundw
      case rel =>
        refine ⟨r, ws1 ++ [m], ws', rfl, HT4.out, HM.out.2.1, ?_, HM.out.2.2.2.1, HB4.out⟩
        rw [HM.out.1]
        simp
      case measure =>
        have h1 := HM.out.2.2.2.2
        have h2 := unb_le r
        simp [strLen, ByteArray.size]
        omega
end Go.Proofs.YtalokopnagpgcaaDoor
