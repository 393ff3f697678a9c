import Derived.Test.YtkdjjnkhbmmfeaaFE3
import Derived.Deep.CutBlock
import Derived.Deep.DeepCutAuto
namespace Go.Proofs.Ytkdjjnkhbmmfeaa
open Go.RowKit Go.Maps

set_option maxRecDepth 20000 in
set_option maxHeartbeats 16000000 in
theorem sets_any (s : ByteArray) (i : Nat) (w : World) (hs : s.size ≤ 1000) (hi : i + 1 ≤ s.size) : Calls Try.prog 31 #[.string s, .int .i64 (i : Int)] w fun e w' => SetsO s.size e (setP ((ub s.data.toList).drop (i + 1))) ∧ Below w.heap.size w w' := by
  have hz := zeroPd
  obtain ⟨hP0, hP1, hBw, hth⟩ := sets_world w
  obtain ⟨F, hF⟩ : ∃ F, F = pd 5 0 noB := ⟨_, rfl⟩
  have hFe : Hid (F.toArray = (pd 5 0 noB).toArray) := Hid.mk (by rw [hF])
  have hFs : F.toArray.size = 258 := by rw [hF]; simp [pd_len]
  have hFi : (Try.prog.info? 74).map (·.size) = some F.toArray.size := by rw [sizePd, hFs]
  have hF1 : F.toArray.all (·.oneCell') = true := all_oneCell_toArray (by rw [hF]; exact pd_one 5 0 noB)
  rw [← hF] at hP0 hP1 hBw
  obtain ⟨W, hW⟩ : ∃ W, W = ((w.alloc (.cells zpd 74)).alloc (.cells zpd 74)).setCells (w.heap.size + 1) 0 F := ⟨_, rfl⟩
  rw [← hW] at hP0 hP1 hBw
  have HM := Hid.mk (And.intro hP0 (And.intro hP1 hBw))
  have HW := Hid.mk hW
  have HT := Hid.mk hth
  clear hP0 hP1 hBw hW hth hF
  go_enter Try.func31, Try.ntmps31
  go_upto_region 3 with (first | refine wpList_build_pd1 rfl _ rfl 5 rfl F.toArray hFe.out ?_ | refine wpList_store_mid rfl 74 _ _ rfl (w.heap.size + 1) 0 F.toArray rfl rfl (by rw [hFs]; exact HT.out) hFi hF1 ?_)
  rw [← HW.out]
  clear hz hFe hFs hFi hF1 HT
  have hlen := txt_len s (i + 1)
  obtain ⟨r0, hr0⟩ : ∃ r, r = (ub s.data.toList).drop (i + 1) := ⟨_, rfl⟩
  rw [← hr0] at hlen
  obtain ⟨o, ho⟩ : ∃ o, o = (tookP r0 33).1 := ⟨_, rfl⟩
  have HR0 := Hid.mk hr0
  have HO := Hid.mk ho
  have HI := Hid.mk hi
  have HL := Hid.mk hlen
  clear hr0 ho hlen
  go_cut [7] (fun v wx => v = .bool o ∧ wx = W)
  case first =>
    have hr := HR0.out.symm
    match r0, HO, HL, hr with
    | [], HO, HL, hr =>
      have hge : ¬ (i : Int) + 1 < (s.size : Int) := by have := HL.out; simp only [List.length_nil] at this; omega
      have hoe : Hid (o = false) := Hid.mk (by rw [HO.out]; rfl)
      clear hr HI
      go_wp2
      go_meet
      exact ⟨by rw [hoe.out], rfl⟩
    | b :: l, HO, HL, hr =>
      obtain ⟨h1, h2, h3, h4, h5⟩ := txt_at hr
      have hlt : (i : Int) + 1 < (s.size : Int) := by omega
      by_cases e : b = 33
      · have q1 : (b == 33) = true := by simp [e]
        have hoe : Hid (o = true) := Hid.mk (by rw [HO.out, e]; simp [tookP])
        clear hr HI h1 h3 h4 h5 e
        go_wp2
        go_meet
        exact ⟨by rw [hoe.out], rfl⟩
      · have q1 : (b == 33) = false := by simp [e]
        have hoe : Hid (o = false) := Hid.mk (by rw [HO.out]; simp [tookP, e])
        clear hr HI h1 h3 h4 h5 e
        go_wp2
        go_meet
        exact ⟨by rw [hoe.out], rfl⟩
  case rest =>
    obtain ⟨rfl, hwc⟩ := hcut
    subst hwc
    obtain ⟨r1, hr1⟩ : ∃ r, r = (tookP r0 33).2 := ⟨_, rfl⟩
    obtain ⟨a1, ha1⟩ : ∃ a, a = s.size - r1.length := ⟨_, rfl⟩
    have HR1 := Hid.mk hr1
    have HA1 := Hid.mk ha1
    clear hr1 ha1
    go_upto_if 29 with fail
    go_cut [1] (fun v wy => v = .int .i64 (a1 : Int) ∧ wy = wc)
    case first =>
      cases o with
      | true =>
        have hA : Hid ((i : Int) + 1 + 1 = (a1 : Int)) := Hid.mk (by
          have h1 := took_true HO.out.symm
          rw [← HR1.out] at h1
          have h2 := HL.out
          rw [h1] at h2
          simp only [List.length_cons] at h2
          have := HA1.out
          have := HI.out
          omega)
        go_wp2
        go_meet
        exact ⟨by rw [← hA.out], rfl⟩
      | false =>
        have hA : Hid ((i : Int) + 1 = (a1 : Int)) := Hid.mk (by
          have h1 := took_false HO.out.symm
          rw [← HR1.out] at h1
          have h2 := HL.out
          rw [← h1] at h2
          have := HA1.out
          have := HI.out
          omega)
        go_wp2
        go_meet
        exact ⟨by rw [← hA.out], rfl⟩
    case rest =>
      obtain ⟨rfl, hwc⟩ := hcut
      have hwc' := hwc.symm
      subst hwc'
      have HLn : Hid ((ub s.data.toList).length = s.size) := Hid.mk (by rw [ub_len, len_size])
      have HI0 : Hid (SetsI s w wc r1 r1 [] noB a1) := Hid.mk (by
        obtain ⟨m1, m2, m3⟩ := HM.out
        have hsf : r1 <:+ ub s.data.toList := by
          rw [HR1.out]
          have h0 : r0 <:+ ub s.data.toList := by rw [HR0.out]; exact List.drop_suffix _ _
          cases hoo : (tookP r0 33).1 with
          | true =>
            have h1 := took_true hoo
            exact List.IsSuffix.trans ⟨[33], h1.symm⟩ h0
          | false => rw [took_false hoo]; exact h0
        exact ⟨by have := hsf.length_le; have := HLn.out; have := HA1.out; omega, Nat.zero_le _, m1, m2, m3, hsf, fun z => rfl, rfl⟩)
      have HNo : Hid (finD [] r1 = none → ∀ f, SetsO s.size (.returned (.tuple #[.agg (pd 5 0 f).toArray, .int .i64 0])) (setP (List.drop (i + 1) (ub s.data.toList)))) := Hid.mk (fun h f => by
        rw [← HR0.out, fin_set, ← HR1.out, h]
        exact ⟨f, rfl⟩)
      clear HM HL HI HW
      go_upto_block 0 with fail
      go_cut [1, 8] (fun v1 v8 wy => ∃ r ms f a, v1 = .int .i64 ((a : Nat) : Int) ∧ v8 = .int .i64 (ms.length : Int) ∧ SetsI s w wy r1 r ms f a ∧ (r = [] ∨ ∃ l, r = 93 :: l))
      case first =>
        go_wp2_with fail
        go_loopw [1, 8] (fun v1 v8 wr => ∃ r ms f a, v1 = .int .i64 ((a : Nat) : Int) ∧ v8 = .int .i64 (ms.length : Int) ∧ SetsI s w wr r1 r ms f a) (fun v1 _ _ => s.size - (intOf v1).toNat)
        case atStart => exact ⟨r1, [], noB, a1, rfl, rfl, HI0.out⟩
        case round =>
          obtain ⟨r, ms, f, a, rfl, rfl, hI⟩ := hrel
          have hpos := hI.pos
          have hdr := hI.drop
          clear HI0
          match r, hI, hpos, hdr with
          | [], hI, hpos, hdr =>
            have hge : ¬ (a : Int) < (s.size : Int) := by simp only [List.length_nil] at hpos; omega
            have HE := Hid.mk hI
            clear hI hpos hdr
            go_wp2
            go_meet
            exact ⟨[], ms, f, a, rfl, rfl, HE.out, .inl rfl⟩
          | b :: l, hI, hpos, hdr =>
            obtain ⟨h1, h2, h3, h4, h5⟩ := txt_at hdr
            have hlt : (a : Int) < (s.size : Int) := by omega
            by_cases e93 : b = 93
            · have q1 : (b == 93) = true := by simp [e93]
              have q2 : (b != 93) = false := by simp [e93]
              have HE := Hid.mk (And.intro hI e93)
              clear hI hpos hdr h1 h3 h4 h5 e93
              go_wp2
              go_meet
              exact ⟨b :: l, ms, f, a, rfl, rfl, HE.out.1, .inr ⟨l, by rw [HE.out.2]⟩⟩
            · have q1 : (b == 93) = false := by simp [e93]
              have q2 : (b != 93) = true := by simp [e93]
              have ku := unit_any s a wr (by omega) (by omega)
              rw [hdr] at ku
              obtain ⟨G, hG, g1, g2, g3, g4, g5, g6, g7⟩ := ret_facts hI.res hI.var hI.bel
              have HG := Hid.mk (And.intro hG (And.intro g1 (And.intro g2 (And.intro g3 (And.intro g4 (And.intro g5 (And.intro g6 g7)))))))
              have HII := Hid.mk hI
              have HB := Hid.mk (And.intro h3 (And.intro h4 h5))
              clear hG g1 g2 g3 g4 g5 g6 g7 hI h1 h3 h4 h5
              cases hu : unitP (b :: l) with
              | none =>
                have e : unitD (b :: l) = (0, 0) := by simp [unitD, hu]
                rw [e] at ku
                have HF : Hid (finD [] r1 = none) := Hid.mk (by rw [← HII.out.fin]; exact fin_bad e93 (mem_none hu))
                clear e hu e93 hpos hdr HB
                go_wp2_with fail
                refine ku.mono ?_
                rintro e w1 ⟨rfl, hw1⟩
                subst hw1
                clear ku
                go_wp2_with (first | refine wpList_load_mid rfl 74 _ rfl (w.heap.size + 1) 0 rfl G _ HG.out.2.1 Try.underlying74 rfl HG.out.2.2.1 ?_ | refine wpList_store_mid rfl 74 _ _ rfl w.heap.size 0 G.toArray rfl rfl HG.out.2.2.2.1 HG.out.2.2.2.2.1 HG.out.2.2.2.2.2.1 ?_)
                exact bodyPost_ret (results_cell_tmp (P := Try.prog) rfl _ _ w.heap.size G _ (.int .i64 0) rfl rfl HG.out.2.2.2.2.2.2.1 Try.underlying74 rfl HG.out.2.2.1) rfl ⟨by rw [HG.out.1]; exact HNo.out HF.out f, HG.out.2.2.2.2.2.2.2⟩
              | some q =>
                obtain ⟨x, m⟩ := q
                obtain ⟨hxin, hmsuf⟩ := unit_in hu
                have hxb : 0 ≤ x ∧ x < 256 := ub_bytes _ x (HII.out.suf.subset hxin)
                have hml := unit_len hu
                obtain ⟨n, hn⟩ : ∃ n, n = (b :: l).length - m.length := ⟨_, rfl⟩
                have e : unitD (b :: l) = (x, n) := by simp [unitD, hu, hn]
                rw [e] at ku
                have hn0 : ((n : Int) == 0) = false := by simp; omega
                have hap : a + n + m.length = s.size := by omega
                have hms : m <:+ ub s.data.toList := hmsuf.trans HII.out.suf
                have hdm := pos_drop hms hap
                have HU := Hid.mk (And.intro hu (And.intro hms e93))
                have HP := Hid.mk (And.intro hpos (And.intro hap (And.intro hml hn)))
                clear e hn hu e93 hpos hdr HB hxin hmsuf hml hms
                go_wp2_with fail
                refine ku.mono ?_
                rintro e w1 ⟨rfl, hw1⟩
                subst hw1
                clear ku
                go_upto_region 13 with fail
                go_cut [64] (fun v wx => v = .bool (tookP m 45).1 ∧ wx = w1)
                case first =>
                  have hlen := HP.out.2.1
                  match m, hdm, hlen with
                  | [], hdm, hlen =>
                    have hge : ¬ (a : Int) + (n : Int) < (s.size : Int) := by simp only [List.length_nil] at hlen; omega
                    clear hdm hlen
                    go_wp2
                    go_meet
                    exact ⟨rfl, rfl⟩
                  | c :: m', hdm, hlen =>
                    obtain ⟨h1, h2, h3, h4, h5⟩ := txt_at hdm
                    have hlt : (a : Int) + (n : Int) < (s.size : Int) := by omega
                    by_cases e45 : c = 45
                    · have q5 : (c == 45) = true := by simp [e45]
                      have HE : Hid ((tookP (c :: m') 45).1 = true) := Hid.mk (by simp [tookP, e45])
                      clear hdm hlen h1 h3 h4 h5 e45
                      go_wp2
                      go_meet
                      exact ⟨by rw [HE.out], rfl⟩
                    · have q5 : (c == 45) = false := by simp [e45]
                      have HE : Hid ((tookP (c :: m') 45).1 = false) := Hid.mk (by simp [tookP, e45])
                      clear hdm hlen h1 h3 h4 h5 e45
                      go_wp2
                      go_meet
                      exact ⟨by rw [HE.out], rfl⟩
                case rest =>
                  obtain ⟨rfl, hwc⟩ := hcut
                  have hwc' := hwc.symm
                  subst hwc'
                  clear hwc
                  obtain ⟨d, hd⟩ : ∃ d, d = (tookP m 45).1 := ⟨_, rfl⟩
                  rw [← hd]
                  have HDD := Hid.mk hd
                  clear hd
                  go_upto_if 64 with fail
                  go_cut [1, 11] (fun v1 v11 wx => ∃ (y : Int) (m2 : List Int) (a2 : Nat), v1 = .int .i64 (a2 : Int) ∧ v11 = .int .u8 y ∧ wx = w1 ∧ memP (b :: l) = some ((x, y), m2) ∧ m2 <:+ ub s.data.toList ∧ a2 + m2.length = s.size ∧ x ≤ y ∧ y < 256 ∧ a < a2)
                  case first =>
                    cases d with
                    | false =>
                      have HF : Hid (memP (b :: l) = some ((x, x), m)) := Hid.mk (mem_single HU.out.1 HDD.out.symm)
                      have HQ := Hid.mk hxb
                      clear hxb hdm hap hn0
                      go_wp2
                      go_meet
                      exact ⟨x, m, a + n, by go_num, rfl, rfl, HF.out, HU.out.2.1, HP.out.2.1, Int.le_refl _, HQ.out.2, by have := HP.out; omega⟩
                    | true =>
                      have hm45 := took_true HDD.out.symm
                      obtain ⟨m', hm'⟩ : ∃ m', m' = (tookP m 45).2 := ⟨_, rfl⟩
                      rw [← hm'] at hm45
                      subst hm45
                      clear hm' HDD
                      obtain ⟨h1, h2, h3, h4, h5⟩ := txt_at hdm
                      have k2 := unit_any s (a + n + 1) w1 (by omega) (by omega)
                      rw [h5] at k2
                      have ecast : (((a + n + 1 : Nat)) : Int) = (a : Int) + (n : Int) + 1 := by omega
                      rw [ecast] at k2
                      have hpl : a + n + 1 + m'.length = s.size := by have := HP.out.2.1; simp only [List.length_cons] at this; omega
                      have hms' : m' <:+ ub s.data.toList := List.IsSuffix.trans ⟨[45], rfl⟩ HU.out.2.1
                      have hbd : (a : Int) + (n : Int) + 1 ≤ 1000 := by omega
                      clear ecast h1 h2 h3 h4 h5 hdm
                      cases hu2 : unitP m' with
                      | none =>
                        have e : unitD m' = (0, 0) := by simp [unitD, hu2]
                        rw [e] at k2
                        replace k2 : Calls Try.prog 34 #[.string s, .int .i64 ((a : Int) + (n : Int) + 1)] w1 fun e w' => e = .returned (.tuple #[.int .u8 0, .int .i64 0]) ∧ w' = w1 := k2
                        have HF : Hid (finD [] r1 = none) := Hid.mk (by rw [← HII.out.fin]; exact fin_bad HU.out.2.2 (mem_span_no HU.out.1 hu2))
                        clear e hu2 hpl hms' hxb hap hn0 HP HU
                        go_wp2_with fail
                        refine k2.mono ?_
                        rintro e w2 ⟨rfl, hw2⟩
                        subst hw2
                        clear k2
                        go_wp2_with (first | refine wpList_load_mid rfl 74 _ rfl (w.heap.size + 1) 0 rfl G _ HG.out.2.1 Try.underlying74 rfl HG.out.2.2.1 ?_ | refine wpList_store_mid rfl 74 _ _ rfl w.heap.size 0 G.toArray rfl rfl HG.out.2.2.2.1 HG.out.2.2.2.2.1 HG.out.2.2.2.2.2.1 ?_)
                        exact bodyPost_ret (results_cell_tmp (P := Try.prog) rfl _ _ w.heap.size G _ (.int .i64 0) rfl rfl HG.out.2.2.2.2.2.2.1 Try.underlying74 rfl HG.out.2.2.1) rfl ⟨by rw [HG.out.1]; exact HNo.out HF.out f, HG.out.2.2.2.2.2.2.2⟩
                      | some q2 =>
                        obtain ⟨y, m2⟩ := q2
                        obtain ⟨hyin, hm2suf⟩ := unit_in hu2
                        have hyb : 0 ≤ y ∧ y < 256 := ub_bytes _ y (hms'.subset hyin)
                        have hml2 := unit_len hu2
                        obtain ⟨n2, hn2⟩ : ∃ n2, n2 = m'.length - m2.length := ⟨_, rfl⟩
                        have e : unitD m' = (y, n2) := by simp [unitD, hu2, hn2]
                        rw [e] at k2
                        have hn20 : ((n2 : Int) == 0) = false := by simp; omega
                        have hap2 : a + n + 1 + n2 + m2.length = s.size := by omega
                        have HS2 : Hid (m2 <:+ ub s.data.toList) := Hid.mk (hm2suf.trans hms')
                        by_cases hlt : y < x
                        · have HF : Hid (finD [] r1 = none) := Hid.mk (by rw [← HII.out.fin]; exact fin_bad HU.out.2.2 (mem_span_bad HU.out.1 hu2 hlt))
                          clear e hu2 hpl hms' hxb hap HP HU hyin hm2suf hyb hml2 hn2 hap2 HS2 hn0
                          go_wp2_with fail
                          refine k2.mono ?_
                          rintro e w2 ⟨rfl, hw2⟩
                          subst hw2
                          clear k2
                          go_wp2_with (first | refine wpList_load_mid rfl 74 _ rfl (w.heap.size + 1) 0 rfl G _ HG.out.2.1 Try.underlying74 rfl HG.out.2.2.1 ?_ | refine wpList_store_mid rfl 74 _ _ rfl w.heap.size 0 G.toArray rfl rfl HG.out.2.2.2.1 HG.out.2.2.2.2.1 HG.out.2.2.2.2.2.1 ?_)
                          exact bodyPost_ret (results_cell_tmp (P := Try.prog) rfl _ _ w.heap.size G _ (.int .i64 0) rfl rfl HG.out.2.2.2.2.2.2.1 Try.underlying74 rfl HG.out.2.2.1) rfl ⟨by rw [HG.out.1]; exact HNo.out HF.out f, HG.out.2.2.2.2.2.2.2⟩
                        · have HF : Hid (memP (b :: l) = some ((x, y), m2)) := Hid.mk (mem_span HU.out.1 hu2 hlt)
                          have HQ := Hid.mk (And.intro hap2 (And.intro hyb (Int.not_lt.1 hlt)))
                          have hbd2 : (a : Int) + (n : Int) + 1 + (n2 : Int) ≤ 1000 := by omega
                          clear e hu2 hpl hms' hxb hap HU hyin hm2suf hyb hml2 hn2 hap2 hn0
                          go_wp2_with fail
                          refine k2.mono ?_
                          rintro e w2 ⟨rfl, hw2⟩
                          subst hw2
                          clear k2
                          go_wp2
                          go_meet
                          exact ⟨y, m2, a + n + 1 + n2, by go_num, rfl, rfl, HF.out, HS2.out, HQ.out.1, HQ.out.2.2, HQ.out.2.1.2, by omega⟩
                  case rest =>
                    obtain ⟨y, m2, a2, rfl, rfl, hwc, hmem, hsuf2, hpos2, hxy, hy, haa⟩ := hcut
                    have hwc' := hwc.symm
                    subst hwc'
                    clear hwc
                    obtain ⟨xn, hxn⟩ : ∃ k : Nat, x = (k : Int) := ⟨x.toNat, by omega⟩
                    obtain ⟨yn, hyn⟩ : ∃ k : Nat, y = (k : Int) := ⟨y.toNat, by omega⟩
                    subst hxn hyn
                    have HZ := Hid.mk (And.intro hmem (And.intro hsuf2 (And.intro hpos2 haa)))
                    have hxy' : xn ≤ yn := by omega
                    have hy' : yn < 256 := by omega
                    clear hmem hsuf2 hpos2 haa hdm hap hn0 hxb HDD hxy hy
                    have HC0 : Hid (SetC w w1 f xn xn) := Hid.mk ⟨HII.out.res, by
                      have h := HII.out.var
                      unfold PB at h ⊢
                      rw [h, pd_congr (g := fun z => f z || (decide ((xn : Int) ≤ z) && decide (z < (xn : Int))))]
                      intro z _ _
                      have : (decide ((xn : Int) ≤ z) && decide (z < (xn : Int))) = false := by
                        simp only [Bool.and_eq_false_iff, decide_eq_false_iff_not]
                        omega
                      rw [this, Bool.or_false], HII.out.bel⟩
                    go_wp2_with fail
                    go_loopw [14] (fun v14 wr => ∃ j : Nat, v14 = .int .i64 (j : Int) ∧ xn ≤ j ∧ j ≤ yn + 1 ∧ Hid (SetC w wr f xn j)) (fun v14 _ => yn + 1 - (intOf v14).toNat)
                    case atStart => exact ⟨xn, rfl, Nat.le_refl _, by omega, HC0⟩
                    case round =>
                      obtain ⟨j, rfl, hj1, hj2, HC⟩ := hrel
                      clear HC0
                      by_cases hlt : j ≤ yn
                      · have hlt' : (j : Int) ≤ (yn : Int) := by omega
                        have hj256 : (j : Int) < 256 := by omega
                        have hce := HC.out.cell (show j < 256 by omega)
                        have hfz := HC.out.var.frozen (2 + j)
                        have HN := Hid.mk (HC.out.set hj1)
                        go_wp2
                        go_roundw
                        case rel => exact ⟨j + 1, by go_num, by omega, by omega, HN⟩
                        case measure => simp [intOf]; omega
                      · obtain rfl : j = yn + 1 := by omega
                        have hge : ¬ ((yn + 1 : Nat) : Int) ≤ (yn : Int) := by omega
                        have HN : Hid (SetsI s w wr r1 m2 (ms ++ [((xn : Int), (yn : Int))]) (fun z => f z || (decide ((xn : Int) ≤ z) && decide (z < ((yn + 1 : Nat) : Int)))) a2) := Hid.mk (HII.out.step HU.out.2.2 HZ.out.1 HZ.out.2.1 HZ.out.2.2.1 HZ.out.2.2.2 HC.out)
                        have hcnt : (ms.length : Int) ≤ 1000 := by have := HII.out.cnt; have := HZ.out.2.2.1; have := HZ.out.2.2.2; omega
                        have hza := HZ.out.2.2
                        clear HC HII hj1 hj2 hlt
                        go_wp2
                        go_roundw
                        case rel => exact ⟨m2, ms ++ [((xn : Int), (yn : Int))], _, a2, rfl, by rw [List.length_append, List.length_singleton]; go_num, HN.out⟩
                        case measure => simp [intOf]; omega
      case rest =>
        obtain ⟨r, ms, f, a, rfl, rfl, hI, hr⟩ := hcut
        have hpos := hI.pos
        have hcnt := hI.cnt
        have HII := Hid.mk hI
        clear hI HI0
        rcases hr with rfl | ⟨l, rfl⟩
        · have HF : Hid (finD [] r1 = none) := Hid.mk (by rw [← HII.out.fin]; exact fin_end ms)
          have hge : (s.size : Int) ≤ (a : Int) := by simp only [List.length_nil] at hpos; omega
          obtain ⟨G, hG, g1, g2, g3, g4, g5, g6, g7⟩ := ret_facts HII.out.res HII.out.var HII.out.bel
          have HG := Hid.mk (And.intro hG (And.intro g1 (And.intro g2 (And.intro g3 (And.intro g4 (And.intro g5 (And.intro g6 g7)))))))
          clear hG g1 g2 g3 g4 g5 g6 g7
          clear hpos hcnt
          cases ms with
          | nil =>
            have z0 : (((([] : List (Int × Int)).length : Nat) : Int) == 0) = true := rfl
            go_wp2_with (first | refine wpList_load_mid rfl 74 _ rfl (w.heap.size + 1) 0 rfl G _ HG.out.2.1 Try.underlying74 rfl HG.out.2.2.1 ?_ | refine wpList_store_mid rfl 74 _ _ rfl w.heap.size 0 G.toArray rfl rfl HG.out.2.2.2.1 HG.out.2.2.2.2.1 HG.out.2.2.2.2.2.1 ?_)
            exact bodyPost_ret (results_cell_tmp (P := Try.prog) rfl _ _ w.heap.size G _ (.int .i64 0) rfl rfl HG.out.2.2.2.2.2.2.1 Try.underlying74 rfl HG.out.2.2.1) rfl ⟨by rw [HG.out.1]; exact HNo.out HF.out f, HG.out.2.2.2.2.2.2.2⟩
          | cons q ms =>
            have z0 : ((((q :: ms).length : Nat) : Int) == 0) = false := by simp only [List.length_cons, beq_eq_false_iff_ne, ne_eq]; omega
            generalize (q :: ms).length = k at *
            go_wp2_with (first | refine wpList_load_mid rfl 74 _ rfl (w.heap.size + 1) 0 rfl G _ HG.out.2.1 Try.underlying74 rfl HG.out.2.2.1 ?_ | refine wpList_store_mid rfl 74 _ _ rfl w.heap.size 0 G.toArray rfl rfl HG.out.2.2.2.1 HG.out.2.2.2.2.1 HG.out.2.2.2.2.2.1 ?_)
            exact bodyPost_ret (results_cell_tmp (P := Try.prog) rfl _ _ w.heap.size G _ (.int .i64 0) rfl rfl HG.out.2.2.2.2.2.2.1 Try.underlying74 rfl HG.out.2.2.1) rfl ⟨by rw [HG.out.1]; exact HNo.out HF.out f, HG.out.2.2.2.2.2.2.2⟩
        · cases ms with
          | nil =>
            have HF : Hid (finD [] r1 = none) := Hid.mk (by rw [← HII.out.fin]; exact fin_none l)
            have z0 : (((([] : List (Int × Int)).length : Nat) : Int) == 0) = true := rfl
            obtain ⟨G, hG, g1, g2, g3, g4, g5, g6, g7⟩ := ret_facts HII.out.res HII.out.var HII.out.bel
            have HG := Hid.mk (And.intro hG (And.intro g1 (And.intro g2 (And.intro g3 (And.intro g4 (And.intro g5 (And.intro g6 g7)))))))
            clear hG g1 g2 g3 g4 g5 g6 g7
            clear hpos hcnt
            go_wp2_with (first | refine wpList_load_mid rfl 74 _ rfl (w.heap.size + 1) 0 rfl G _ HG.out.2.1 Try.underlying74 rfl HG.out.2.2.1 ?_ | refine wpList_store_mid rfl 74 _ _ rfl w.heap.size 0 G.toArray rfl rfl HG.out.2.2.2.1 HG.out.2.2.2.2.1 HG.out.2.2.2.2.2.1 ?_)
            exact bodyPost_ret (results_cell_tmp (P := Try.prog) rfl _ _ w.heap.size G _ (.int .i64 0) rfl rfl HG.out.2.2.2.2.2.2.1 Try.underlying74 rfl HG.out.2.2.1) rfl ⟨by rw [HG.out.1]; exact HNo.out HF.out f, HG.out.2.2.2.2.2.2.2⟩
          | cons q ms =>
            have HF : Hid (finD [] r1 = some (q :: ms, l)) := Hid.mk (by rw [← HII.out.fin]; exact fin_shut (by simp) l)
            have z0 : ((((q :: ms).length : Nat) : Int) == 0) = false := by simp only [List.length_cons, beq_eq_false_iff_ne, ne_eq]; omega
            obtain ⟨k, hk⟩ : ∃ k, k = (q :: ms).length := ⟨_, rfl⟩
            rw [← hk] at z0 ⊢
            have hlt : ¬ (s.size : Int) ≤ (a : Int) := by simp only [List.length_cons] at hpos; omega
            have hb1 : (a : Int) + 1 ≤ 1001 := by omega
            have HP := Hid.mk hpos
            clear hk hpos hcnt
            go_upto_if 107 with fail
            go_cut [] (fun wx => Hid (∃ g, PB wx w.heap.size 0 0 noB ∧ PB wx (w.heap.size + 1) 5 0 g ∧ Below w.heap.size w wx ∧ ∀ z, g z = if o = true then !f z else f z))
            case first =>
              clear HF HNo HP HO HR1 HR0 HLn HA1
              cases o with
              | false =>
                go_wp2
                go_meet
                exact Hid.mk ⟨f, HII.out.res, HII.out.var, HII.out.bel, fun z => rfl⟩
              | true =>
                have HN0 := Hid.mk (SetN.start HII.out.res HII.out.var HII.out.bel)
                go_wp2_with fail
                go_loopw [15] (fun v15 wr => ∃ j : Nat, v15 = .int .i64 (j : Int) ∧ j ≤ 256 ∧ Hid (SetN w wr f j)) (fun v15 _ => 256 - (intOf v15).toNat)
                case atStart => exact ⟨0, rfl, by omega, HN0⟩
                case round =>
                  obtain ⟨j, rfl, hj, HN⟩ := hrel
                  clear HN0
                  by_cases hlt : j < 256
                  · have hj256 : (j : Int) < 256 := by omega
                    have hce := HN.out.cell hlt
                    have hfz := HN.out.var.frozen (2 + j)
                    have HM := Hid.mk HN.out.set
                    go_wp2
                    go_roundw
                    case rel => exact ⟨j + 1, by go_num, by omega, HM⟩
                    case measure => simp [intOf]; omega
                  · obtain rfl : j = 256 := by omega
                    have HM := Hid.mk HN.out
                    clear HN
                    go_wp2
                    go_meet
                    exact Hid.mk ⟨_, HM.out.res, HM.out.done, HM.out.bel, fun z => rfl⟩
            case rest =>
              obtain ⟨g, e0, e1, e2, hg⟩ := hcut.out
              obtain ⟨c0, c1, c2⟩ := no_slash e0 e1 e2
              have hce := e1.bit (show 47 < 256 by omega)
              have hfz := e1.frozen 49
              obtain ⟨W, hW⟩ : ∃ W, W = wc.setCell ⟨w.heap.size + 1, 49, none⟩ (.bool false) := ⟨_, rfl⟩
              rw [← hW] at c0 c1 c2
              have HW := Hid.mk hW
              obtain ⟨G, hG, g1, g2, g3, g4, g5, g6, g7⟩ := ret_facts c0 c1 c2
              have HG := Hid.mk (And.intro hG (And.intro g1 (And.intro g2 (And.intro g3 (And.intro g4 (And.intro g5 (And.intro g6 g7)))))))
              have HV : Hid (SetsO s.size (.returned (.tuple #[.agg G.toArray, .int .i64 ((a : Int) + 1)])) (setP (List.drop (i + 1) (ub s.data.toList)))) := Hid.mk (by
                rw [← HR0.out, fin_set, ← HR1.out, HF.out, hG]
                refine ⟨fun z => if z = 47 then false else g z, ?_, ?_⟩
                · have := HP.out
                  simp only [List.length_cons] at this
                  rw [show ((a : Int) + 1) = ((s.size - l.length : Nat) : Int) by omega]
                · rw [← HO.out]
                  refine PR.set 0 _ (q :: ms) o (fun z _ _ => ?_)
                  rw [hg z, HII.out.fit z])
              clear hW e0 e1 e2 hg c0 c1 c2 hG g1 g2 g3 g4 g5 g6 g7 hcut
              go_upto_region 32 with fail
              rw [← HW.out]
              go_wp2_with (first | refine wpList_load_mid rfl 74 _ rfl (w.heap.size + 1) 0 rfl G _ HG.out.2.1 Try.underlying74 rfl HG.out.2.2.1 ?_ | refine wpList_store_mid rfl 74 _ _ rfl w.heap.size 0 G.toArray rfl rfl HG.out.2.2.2.1 HG.out.2.2.2.2.1 HG.out.2.2.2.2.2.1 ?_)
              exact bodyPost_ret (results_cell_tmp (P := Try.prog) rfl _ _ w.heap.size G _ (.int .i64 ((a : Int) + 1)) rfl rfl HG.out.2.2.2.2.2.2.1 Try.underlying74 rfl HG.out.2.2.1) rfl ⟨HV.out, HG.out.2.2.2.2.2.2.2⟩
end Go.Proofs.Ytkdjjnkhbmmfeaa
