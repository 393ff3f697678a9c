import Derived.Test.YthdgndbmecnimaaW26
namespace Go.Proofs.Ythdgndbmecnimaa
open Go.RowKit Go.Maps

set_option maxRecDepth 20000 in
set_option maxHeartbeats 16000000 in
theorem walBook_any (n0 : Int) (a : Option Addr) (m c : Nat) (w : World) (hs : RecIn w w.heap.size a m) (hm : m ≤ 1048576) :
    Calls Try.prog 3 #[.int .i64 n0, .slice a m c] w (WOut w) := by
  by_cases hn1 : n0 < 18
  · have HT : Hid (Below w.heap.size w w) := Below.refl _ _
    go_enter Try.func3, Try.ntmps3
    go_wp2
    go_ret
    exact ⟨rfl, HT.out⟩
  by_cases hn2 : 256 < n0
  · have HT : Hid (Below w.heap.size w w) := Below.refl _ _
    go_enter Try.func3, Try.ntmps3
    go_wp2
    go_ret
    exact ⟨rfl, HT.out⟩
  obtain ⟨n, rfl⟩ : ∃ n : Nat, n0 = (n : Int) := ⟨n0.toNat, by omega⟩
  have h18 : 18 ≤ n := by omega
  have h256 : n ≤ 256 := by omega
  have hfr := freshK_any h18 h256 w
  have HS := Hid.mk hs
  clear hs
  go_enter Try.func3, Try.ntmps3
  go_wp2_with fail
  refine hfr.mono ?_
  rintro e w1 ⟨F, p, l, S, L, rfl, hl, ht, hh, hsn, hzz⟩
  have hA := fresh_alive hl ht hh hsn hzz
  obtain ⟨lab, hP⟩ := fresh_pb hl hA
  have H0 := Hid.mk hP
  clear hfr hl ht hh hsn hzz hA hP
  go_upto_block 0 with fail
  go_cut [7] (fun kv wx => ∃ (lab : Nat → Nat) (S : DS) (L : LG) (ds : List (List Int)), PB w wx lab p l n S L ds ds kv)
  case first =>
    as_aux_lemma =>
      go_wp2_with fail
      go_loopg [7, 8] m (fun gk kv iv wr => ∃ (i : Nat) (lab : Nat → Nat) (S : DS) (L : LG) (ds : List (List Int)), i + gk = m ∧ iv = .int .i64 (i : Int) ∧ PB w wr lab p l n S L ds ds kv)
      case atStart => exact ⟨0, lab, S, L, [], by omega, rfl, H0.out⟩
      case round =>
        clear H0
        obtain ⟨i, lab, S, L, ds, him, rfl, hP⟩ := hrel
        obtain ⟨ka, kc, hkv⟩ := hP.k.form
        subst hkv
        by_cases hlt : i < m
        · have hlt' : (i : Int) < (m : Int) := by omega
          have hi0 : (0 : Int) ≤ (i : Int) := by omega
          cases a with
          | none => have := HS.out.1 rfl; omega
          | some x =>
          obtain ⟨b, o, rfl, hb0, ra, rn, rc, r, cr, sr, br, blk, rn1, rnc⟩ := HS.out.2 x rfl i hlt
          obtain rfl : r.length = rn := sr.1
          have HRc : Hid (∀ w', Below w.heap.size w w' → w'.cell? ⟨b, o + i, none⟩ = some (.slice ra r.length rc) ∧ Src w' ra r.length r) := fun w' hb => ⟨(World.cell?_of_block (w := w) (a := ⟨b, _, none⟩) (hb.block b hb0)).trans cr, sr.far hb blk⟩
          have HBl := Hid.mk blk
          have hbw := hP.below
          obtain ⟨c1, s1⟩ := HRc.out wr hbw
          have hh := hand_any ra r.length rc r wr (by omega) s1
          have HP := Hid.mk hP
          clear hP cr sr blk s1 hbw
          obtain ⟨R, hR⟩ : ∃ R, R = r.length := ⟨_, rfl⟩
          go_wp2_with fail
          refine hh.mono ?_
          rintro e w1 ⟨rfl, hF1, hb1⟩
          obtain ⟨lab1, hP1, hg1⟩ := HP.out.temp hb1 hF1
          have ha := hP1.append (x := r.length) (k := r.length + 3) (d := r) (by have := hF1.src r.length (by simp); rwa [List.take_left' rfl] at this) hg1 hF1.lt br (by omega) (by omega)
          have HF1 := Hid.mk hF1
          clear hh hb1 hF1 HP hP1 hg1 c1
          go_wp2_with fail
          refine ha.mono ?_
          rintro e w2 ⟨lab2, E, S2, L2, rfl, hE, hblk, hl2, hbw2, _⟩
          obtain ⟨c2, s2⟩ := HRc.out w2 hbw2
          have hk := back_any wr.heap.size ra r.length rc r w2 (by omega) rfl (HF1.out.agree hblk) s2
          have HE := Hid.mk (And.intro hE hl2)
          clear ha hE hblk hl2 hbw2 s2 HF1
          go_wp2_with fail
          refine hk.mono ?_
          rintro e w3 ⟨rfl, hk3⟩
          have HE3 : Hid ((E = 0 ∧ PB w w3 lab2 p l n S2 L2 (ds ++ [r]) ds (.slice ka ds.length kc)) ∨ (E ≠ 0 ∧ PB w w3 lab2 p l n S2 L2 ds ds (.slice ka ds.length kc))) := HE.out.1.imp (fun h => ⟨h.1, h.2.over hk3 HE.out.2⟩) (fun h => ⟨h.1, h.2.over hk3 HE.out.2⟩)
          clear hk hk3 HE c2
          go_upto_if 79 with fail
          go_cut [7] (fun kv wx => ∃ (lab : Nat → Nat) (S : DS) (L : LG) (ds : List (List Int)), PB w wx lab p l n S L ds ds kv)
          case first =>
            rcases HE3.out with ⟨rfl, h1⟩ | ⟨hE0, h1⟩
            · obtain ⟨c3, s3⟩ := HRc.out w3 h1.below
              obtain ⟨g', cap', w4, hrun, lab4, h4, _⟩ := h1.push (src_arg h1 s3 HBl.out) rc
              have HX := Hid.mk hrun
              have H4 := Hid.mk h4
              clear h1 s3 hrun h4 HE3
              go_wp2_with (at_builtin; refine Lib.wpList_append_run _ rfl _ _ _ _ rfl _ _ rfl rfl _ _ HX.out ?_)
              go_meet
              case rel => exact ⟨_, _, _, _, H4.out⟩
            · have H4 := Hid.mk h1
              clear h1 HE3
              go_wp2
              go_meet
              case rel => exact ⟨_, _, _, _, H4.out⟩
          case rest =>
          obtain ⟨lab5, S5, L5, ds5, hP5⟩ := hcut
          obtain ⟨ka5, kc5, hkv⟩ := hP5.k.form
          subst hkv
          clear HE3
          by_cases hpar : i % 2 = 0
          · have hpar' : (i : Int) % 2 = 0 := by omega
            have hpar2 : Int.tmod (i : Int) 2 = 0 := by rw [Int.tmod_eq_emod_of_nonneg (by omega)]; omega
            obtain ⟨c1, s1⟩ := HRc.out wc hP5.below
            have hx := exact_any ra r.length rc r wc (by omega) s1
            have HP5 := Hid.mk hP5
            clear hP5 s1
            go_wp2_with fail
            refine hx.mono ?_
            rintro e w6 ⟨rfl, hF6, hb6⟩
            obtain ⟨lab6, hP6, hg6⟩ := HP5.out.temp hb6 hF6
            have ha := hP6.append (x := r.length) (k := r.length) (d := r) (by have := hF6.src r.length (Nat.le_refl _); rwa [List.take_of_length_le (Nat.le_refl _)] at this) hg6 hF6.lt br (Nat.le_refl _) (by omega)
            have HF6 := Hid.mk hF6
            clear hx hb6 hF6 HP5 hP6 hg6 c1
            go_wp2_with fail
            refine ha.mono ?_
            rintro e w7 ⟨lab7, E7, S7, L7, rfl, hE7, hblk7, hl7, hbw7, _⟩
            obtain ⟨c7, s7⟩ := HRc.out w7 hbw7
            have hF7 := HF6.out.agree hblk7
            have hsm := same_any (some ⟨wc.heap.size, 0, none⟩) ra r.length r.length rc r w7 (by omega) (by have := hF7.src r.length (Nat.le_refl _); rwa [List.take_of_length_le (Nat.le_refl _)] at this) s7
            have HE7 := Hid.mk (And.intro hE7 (And.intro hl7 hF7))
            clear ha hE7 hblk7 hl7 hbw7 s7 HF6 hF7
            go_wp2_with fail
            refine hsm.mono ?_
            rintro e w8 ⟨rfl, hb8⟩
            have HE8 : Hid (((E7 = 0 ∧ PB w w8 lab7 p l n S7 L7 (ds5 ++ [r]) ds5 (.slice ka5 ds5.length kc5)) ∨ (E7 ≠ 0 ∧ PB w w8 lab7 p l n S7 L7 ds5 ds5 (.slice ka5 ds5.length kc5))) ∧ lab7 wc.heap.size = 4 ∧ Full w8 wc.heap.size r) := ⟨HE7.out.1.imp (fun h => ⟨h.1, h.2.later hb8⟩) (fun h => ⟨h.1, h.2.later hb8⟩), HE7.out.2.1, HE7.out.2.2.later hb8⟩
            clear hsm hb8 HE7 c7
            obtain ⟨gx, hgx⟩ : ∃ gx, gx = wc.heap.size := ⟨_, rfl⟩
            rw [← hgx] at HE8 ⊢
            clear hgx
            go_upto_if 106 with fail
            go_cut [7] (fun kv wx => ∃ (lab : Nat → Nat) (S : DS) (L : LG) (ds : List (List Int)), PB w wx lab p l n S L ds ds kv ∧ lab gx = 4 ∧ Full wx gx r)
            case first =>
              obtain ⟨hE, hl8, hF8⟩ := HE8.out
              rcases hE with ⟨rfl, h1⟩ | ⟨hE0, h1⟩
              · obtain ⟨c3, s3⟩ := HRc.out w8 h1.below
                obtain ⟨g', cap', w9, hrun, lab9, h9, G9⟩ := h1.push (src_arg h1 s3 HBl.out) rc
                have HX := Hid.mk hrun
                have H9 : Hid (PB w w9 lab9 p l n S7 L7 (ds5 ++ [r]) (ds5 ++ [r]) (.slice (some ⟨g', 0, none⟩) (ds5.length + 1) cap') ∧ lab9 gx = 4 ∧ Full w9 gx r) := ⟨h9, G9.tag hF8.lt hl8, hF8.agree (G9.block hF8.lt hl8 (by omega))⟩
                clear h1 s3 hrun h9 G9 HE8 hl8 hF8
                go_wp2_with (at_builtin; refine Lib.wpList_append_run _ rfl _ _ _ _ rfl _ _ rfl rfl _ _ HX.out ?_)
                go_meet
                case rel => exact ⟨_, _, _, _, H9.out⟩
              · have H9 : Hid (PB w w8 lab7 p l n S7 L7 ds5 ds5 (.slice ka5 ds5.length kc5) ∧ lab7 gx = 4 ∧ Full w8 gx r) := ⟨h1, hl8, hF8⟩
                clear h1 HE8 hl8 hF8
                go_wp2
                go_meet
                case rel => exact ⟨_, _, _, _, H9.out⟩
            case rest =>
            obtain ⟨labA, SA, LA, dsA, hPA, hlA, hFA⟩ := hcut
            obtain ⟨kaA, kcA, hkv⟩ := hPA.k.form
            subst hkv
            clear HE8
            have ht := turned_any gx r.length r _ (by omega) rfl hFA
            have HPA := Hid.mk (And.intro hPA (And.intro hlA hFA.lt))
            clear hPA hlA hFA
            go_wp2_with fail
            refine ht.mono ?_
            rintro e wB ⟨vB, rfl, hrB, hFB, hkB⟩
            obtain ⟨hPA, hlA, hgA⟩ := HPA.out
            have hPB := hPA.over hkB hlA
            obtain ⟨dT, hdT⟩ : ∃ dT, dT = r.map turn5 := ⟨_, rfl⟩
            have hlT : dT.length = r.length := by rw [hdT, List.length_map]
            have hbT : Bytes dT := by rw [hdT]; exact bytes_turn r
            rw [← hdT] at hrB hFB
            obtain ⟨oa, oc, rfl, hso, hoc⟩ := OR.src (w := wB) (lab := labA) (y := 0) (l := dT) (n := r.length) ⟨row_zero hrB, fun g hg => hPA.g.lz g (rowLow hrB hg)⟩
            have hgB : gx < wB.heap.size := Nat.lt_of_lt_of_le hgA hkB.size
            have ha := hPB.append (x := r.length) (k := r.length) (d := dT) (by have := hFB.src r.length (by omega); rwa [List.take_of_length_le (by omega)] at this) hlA hgB hbT (Nat.le_refl _) (by omega)
            have HB := Hid.mk (And.intro hso (And.intro hFB hdT))
            clear ht hrB hkB hPA hPB hso hFB HPA hgA hlA hdT hoc
            go_wp2_with fail
            refine ha.mono ?_
            rintro e wC ⟨labC, EC, SC, LC, rfl, hEC, hblkC, hlC, _, hslC⟩
            obtain ⟨hso, hFB, hdT⟩ := HB.out
            have hFC := hFB.agree hblkC
            have hsC := hslC _ _ _ hso
            have hsm := same_any (some ⟨gx, 0, none⟩) oa r.length r.length oc dT wC (by omega) (by have := hFC.src r.length (by omega); rwa [List.take_of_length_le (by omega)] at this) hsC.1
            have HEC := Hid.mk (And.intro hEC (And.intro hlC (And.intro hFC hsC)))
            clear ha hEC hblkC hlC hslC hso hFB hdT hFC hsC HB
            go_wp2_with fail
            refine hsm.mono ?_
            rintro e wD ⟨rfl, hbD⟩
            have HED : Hid (((EC = 0 ∧ PB w wD labC p l n SC LC (dsA ++ [dT]) dsA (.slice kaA dsA.length kcA)) ∨ (EC ≠ 0 ∧ PB w wD labC p l n SC LC dsA dsA (.slice kaA dsA.length kcA))) ∧ labC gx = 4 ∧ Full wD gx dT ∧ SL wD labC 0 oa dT.length dT) := by
              obtain ⟨h1, h2, h3, h4⟩ := HEC.out
              refine ⟨h1.imp (fun h => ⟨h.1, h.2.later hbD⟩) (fun h => ⟨h.1, h.2.later hbD⟩), h2, h3.later hbD, ?_⟩
              rw [hlT]
              have hz : LZ labC wC := by rcases h1 with h1 | h1 <;> exact h1.2.g.lz
              exact h4.gro (Gro.below hz hbD (fun _ => False)) (fun h => h)
            clear hsm hbD HEC
            go_upto_if 124 with fail
            go_cut [7] (fun kv wx => ∃ (lab : Nat → Nat) (S : DS) (L : LG) (ds : List (List Int)), PB w wx lab p l n S L ds ds kv ∧ lab gx = 4 ∧ Full wx gx dT)
            case first =>
              obtain ⟨hE, hl8, hF8, hs8⟩ := HED.out
              rcases hE with ⟨rfl, h1⟩ | ⟨hE0, h1⟩
              · obtain ⟨g', cap', w9, hrun, lab9, h9, G9⟩ := h1.push hs8 oc
                rw [hlT] at hrun
                have HX := Hid.mk hrun
                have H9 : Hid (PB w w9 lab9 p l n SC LC (dsA ++ [dT]) (dsA ++ [dT]) (.slice (some ⟨g', 0, none⟩) (dsA.length + 1) cap') ∧ lab9 gx = 4 ∧ Full w9 gx dT) := ⟨h9, G9.tag hF8.lt hl8, hF8.agree (G9.block hF8.lt hl8 (by omega))⟩
                clear h1 hrun h9 G9 HED hl8 hF8 hs8
                go_wp2_with (at_builtin; refine Lib.wpList_append_run _ rfl _ _ _ _ rfl _ _ rfl rfl _ _ HX.out ?_)
                go_meet
                case rel => exact ⟨_, _, _, _, H9.out⟩
              · have H9 : Hid (PB w wD labC p l n SC LC dsA dsA (.slice kaA dsA.length kcA) ∧ labC gx = 4 ∧ Full wD gx dT) := ⟨h1, hl8, hF8⟩
                clear h1 HED hl8 hF8 hs8
                go_wp2
                go_meet
                case rel => exact ⟨_, _, _, _, H9.out⟩
            case rest =>
            obtain ⟨labE, SE, LE, dsE, hPE, hlE, hFE⟩ := hcut
            obtain ⟨kaE, kcE, hkv⟩ := hPE.k.form
            subst hkv
            clear HED
            have ht := turned_any gx r.length dT _ (by omega) hlT hFE
            have HPE := Hid.mk (And.intro hPE hlE)
            clear hPE hlE hFE
            go_wp2_with fail
            refine ht.mono ?_
            rintro e wF ⟨vF, rfl, hrF, _, hkF⟩
            have HR := Hid.mk (HPE.out.1.over hkF HPE.out.2)
            obtain ⟨fa, fc, rfl⟩ : ∃ fa fc, vF = .slice fa r.length fc := OR.form (w := wF) (lab := fun _ => 0) (y := 0) (e := 5) (xs := bs (dT.map turn5)) ⟨row_zero hrF, fun _ _ => rfl⟩
            clear ht hrF hkF HPE
            go_wp2
            go_roundg (gk - 1)
            case measure => omega
            case rel => exact ⟨i + 1, _, _, _, _, by omega, by go_num, HR.out⟩
          · have hpar' : ¬ (i : Int) % 2 = 0 := by omega
            have hpar2 : ¬ Int.tmod (i : Int) 2 = 0 := by rw [Int.tmod_eq_emod_of_nonneg (by omega)]; omega
            have HR := Hid.mk hP5
            clear hP5
            go_wp2
            go_roundg (gk - 1)
            case measure => omega
            case rel => exact ⟨i + 1, _, _, _, _, by omega, by go_num, HR.out⟩
        · obtain rfl : i = m := by omega
          have hge : ¬ (i : Int) < (i : Int) := by omega
          have HR := Hid.mk hP
          clear hP
          go_wp2
          go_meet
          case rel => exact ⟨_, _, _, _, HR.out⟩
  case rest =>
  obtain ⟨lab, S, L, ds, hP⟩ := hcut
  obtain ⟨ka, kc, hkv⟩ := hP.k.form
  subst hkv
  have hds : ∀ d ∈ ds, d.length ≤ 8364 := fun d hd => (hP.a.la.sz d hd).2
  have hK := hP.a.few
  have hsy := hP.d.sync hP.g.lz hP.a hP.f
  have HP := Hid.mk hP
  have HD := Hid.mk hds
  clear hP hds H0 HS
  go_wp2_with fail
  refine hsy.mono ?_
  rintro e w2 ⟨S2, rfl, G2, hd2, hf2, hF2⟩
  obtain ⟨lab3, G3, hk3⟩ := kept_new G2.lz
  have hFD : FD w2 lab 1 p n 0 ds := ⟨S2, hd2, hF2, hf2⟩
  obtain ⟨W3, hW3⟩ : ∃ W3, W3 = w2.alloc (.cells #[.slice none 0 0, .slice none 0 0] 35) := ⟨_, rfl⟩
  rw [← hW3] at G3 hk3
  have hC3 : PCs w W3 lab3 n p ds (.slice ka ds.length kc) 0 w2.heap.size [] (.slice none 0 0) [] := ⟨hFD.gro G3 (by omega) (by omega), (HP.out.k.gro G2 (by omega) (fun _ _ => by omega)).gro G3 (by omega) (fun _ _ => by omega), ⟨_, _, hk3⟩, (fun d hd => by cases hd), LV.nil _ _ _ _, (fun d hd => by cases hd), (HP.out.g.join G2 (Z := fun y => y ≠ 0) (fun _ h => h) (fun y hy => by omega)).join G3 (Z := fun y => y ≠ 0) (fun _ h => h) (fun y hy => by omega)⟩
  have hfr := freshK_any h18 h256 W3
  have HC := Hid.mk hC3
  obtain ⟨pk, hpk⟩ : ∃ pk, pk = w2.heap.size := ⟨_, rfl⟩
  rw [hW3] at hfr
  have HW := Hid.mk hW3
  clear hsy HP G2 hd2 hf2 hF2 G3 hk3 hFD hC3 hW3
  go_wp2_with fail
  refine hfr.mono ?_
  rintro e w4 ⟨F4, q, lq, S4, L4, rfl, hl4, ht4, hh4, hsn4, hzz4⟩
  have hA4 := fresh_alive hl4 ht4 hh4 hsn4 hzz4
  rw [← HW.out] at hl4
  obtain ⟨lab4, G4, hq4⟩ := fresh_fd hl4 (fresh_flat hl4 ht4 hh4 hA4) HC.out.g.lz
  have hC4 := HC.out.gro G4 (by omega) (by omega) (by omega) (by omega) (fun y y1 y2 => by omega) (fun i hi => by cases hi) (fun i hi => by cases hi)
  rw [← hpk] at hC4 ⊢
  have H4 := Hid.mk (And.intro hC4 hq4)
  clear hfr hl4 ht4 hh4 hsn4 hzz4 hA4 G4 hq4 hC4 HC HW hpk
  go_upto_block 2 with fail
  go_cut [16] (fun lv wx => ∃ (lab : Nat → Nat) (ins : List (List Int)) (rows : List (List SV)), PCs w wx lab n p ds (.slice ka ds.length kc) 3 pk ins lv rows ∧ rows.length = 3 ∧ ins.length ≤ 1000)
  case first =>
    as_aux_lemma =>
      go_wp2_with fail
      go_loopg [16, 19] 3 (fun gk lv iv wr => ∃ (t : Nat) (lab : Nat → Nat) (ins : List (List Int)) (rows : List (List SV)), t + gk = 3 ∧ iv = .int .i64 (t : Int) ∧ PCs w wr lab n p ds (.slice ka ds.length kc) t pk ins lv rows ∧ FD wr lab 3 q n t [] ∧ rows.length = t ∧ ins.length = t * ds.length)
      case atStart => exact ⟨0, lab4, [], [], by omega, rfl, H4.out.1, H4.out.2, rfl, by simp⟩
      case round =>
        clear H4
        obtain ⟨t, lab, ins, rows, htg, rfl, hC, hQ, hrl, hil⟩ := hrel
        obtain ⟨la, lc, hlv⟩ := hC.l.form
        rw [hrl] at hlv
        subst hlv
        by_cases hlt : t < 3
        · have hlt' : (t : Int) < 3 := by omega
          have ht0 : (0 : Int) ≤ (t : Int) := by omega
          have ho := hC.open hQ (by omega) h18 h256 hrl hlt
          obtain ⟨K, hKd⟩ : ∃ K, K = ds.length := ⟨_, rfl⟩
          clear hC hQ
          go_wp2_with fail
          refine ho.mono ?_
          rintro e w5 ⟨l5, v5, lab5, svs, rfl, hT5⟩
          have ho2 := hT5.open (by omega) h18 h256 hrl hlt
          obtain ⟨ta, tc, hv5, _⟩ := hT5.t.lls
          subst hv5
          clear ho hT5
          go_wp2_with fail
          refine ho2.mono ?_
          rintro e w6 ⟨l6, a6, c6, lab6, rfl, hT6⟩
          obtain ⟨ta', tc', ev, hl1⟩ := hT6.t.lls
          obtain ⟨ka', kc', ek, hl2⟩ := hT6.c.k.lls
          cases ev
          cases ek
          have hal := alikeG (c := tc) (c' := kc) hl1 hl2 (by omega) (fun i hi => by have := HD.out _ (List.getElem_mem hi); omega)
          have HT := Hid.mk hT6
          clear ho2 hT6 hl1 hl2
          go_wp2_with fail
          refine hal.mono ?_
          rintro e w7 ⟨rfl, hb7⟩
          have hT7 := HT.out.later hb7
          obtain ⟨g8, cap8, w8, hrun, lab8, hT8⟩ := hT7.push hrl hlt
          have HX := Hid.mk hrun
          have H8 : Hid (PTs w w8 lab8 n p q ds (.slice ka ds.length kc) (t + 1) (t + 1) pk ins (.slice (some ⟨g8, 0, none⟩) (t + 1) cap8) (rows ++ [svs]) t ins.length (.slice ta ds.length tc) svs) := hT8
          have HL := Hid.mk (And.intro hrl hil)
          clear hal hb7 HT hT7 hrun hT8 hrl hil
          go_wp2_with (at_builtin; refine Lib.wpList_append_run _ rfl _ _ _ _ rfl _ _ rfl rfl _ _ HX.out ?_)
          clear HX
          rename World => wo
          go_loopg [26] ds.length (fun gk iv wr => ∃ (i : Nat) (lab : Nat → Nat) (ins' : List (List Int)), i + gk = ds.length ∧ iv = .int .i64 (i : Int) ∧ PTs w wr lab n p q ds (.slice ka ds.length kc) (t + 1) (t + 1) pk ins' (.slice (some ⟨g8, 0, none⟩) (t + 1) cap8) (rows ++ [svs]) t ins.length (.slice ta ds.length tc) svs ∧ ins'.length = ins.length + i)
          case atStart => exact ⟨0, lab8, ins, by omega, rfl, H8.out, rfl⟩
          case round =>
            clear H8
            obtain ⟨i, lab, ins', hig, rfl, hT, hil'⟩ := hrel
            by_cases hlt2 : i < ds.length
            · have hlt2' : (i : Int) < (ds.length : Int) := by omega
              have hi0 : (0 : Int) ≤ (i : Int) := by omega
              obtain ⟨s, hs⟩ : ∃ s, svs[i]? = some s := ⟨_, List.getElem?_eq_getElem (by have := hT.t.n; omega)⟩
              obtain ⟨gt, gtc, et, hrt, _, _⟩ := hT.t.r.row (by omega)
              have et1 : ta = some ⟨gt, 0, none⟩ := by injection et
              subst et1
              have c1 : wr.cell? ⟨gt, i, none⟩ = some s.v := hrt.cell (by simp [vls, hs])
              have hbase : ins.length ≤ 768 := by
                rw [HL.out.2]
                have : t * ds.length ≤ 2 * 256 := Nat.mul_le_mul (by omega) hK
                omega
              have had := hT.add HD.out hlt2 hil' (by omega) (by rw [List.length_append, HL.out.1]; rfl) hlt hs
              obtain ⟨sa, sn, sc⟩ := s
              unfold SV.v at c1 had
              simp only at c1 had
              clear hT hs hrt et
              go_wp2_with fail
              refine had.mono ?_
              rintro e w9 ⟨rfl, lab9, hT9⟩
              have HR := Hid.mk hT9
              clear had hT9 c1
              go_wp2
              go_roundg (gk - 1)
              case measure => omega
              case rel => exact ⟨i + 1, lab9, _, by omega, by go_num, HR.out, by rw [List.length_append, hil']; rfl⟩
            · obtain rfl : i = ds.length := by omega
              have hge : ¬ (ds.length : Int) < (ds.length : Int) := by omega
              have HR : Hid (PCs w wr lab n p ds (.slice ka ds.length kc) (t + 1) pk ins' (.slice (some ⟨g8, 0, none⟩) (t + 1) cap8) (rows ++ [svs]) ∧ FD wr lab 3 q n (t + 1) [] ∧ (rows ++ [svs]).length = t + 1 ∧ ins'.length = (t + 1) * ds.length) := ⟨hT.c, hT.o, by rw [List.length_append, HL.out.1]; rfl, by rw [hil', HL.out.2, Nat.add_mul, Nat.one_mul]⟩
              clear hT hil'
              go_wp2
              go_roundg (3 - (t + 1))
              case measure => omega
              case rel => exact ⟨t + 1, lab, ins', rows ++ [svs], by omega, by go_num, HR.out⟩
        · obtain rfl : t = 3 := by omega
          have HR : Hid (PCs w wr lab n p ds (.slice ka ds.length kc) 3 pk ins (.slice la 3 lc) rows ∧ rows.length = 3 ∧ ins.length ≤ 1000) := ⟨hC, hrl, by omega⟩
          clear hC hQ
          go_wp2
          go_meet
          case rel => exact ⟨lab, ins, rows, HR.out⟩
  case rest =>
  obtain ⟨lab, ins, rows, hC, hrl, hil⟩ := hcut
  obtain ⟨la, lc, hlv⟩ := hC.l.form
  rw [hrl] at hlv
  subst hlv
  obtain ⟨lab1, G1, hb1⟩ := book_new hC.g.lz
  have hC1 := hC.gro G1 (by omega) (by omega) (by omega) (by omega) (fun y y1 y2 => by omega) (fun i _ => yK_26 i 17 (by omega)) (fun i _ => by show ¬ 26 + i = 17; omega)
  have H1 : Hid (PDs w _ lab1 n p ds (.slice ka ds.length kc) 3 pk ins (.slice la 3 lc) rows wc.heap.size [] 0 (.slice none 0 0) [] (.slice none 0 0) []) := ⟨hC1, hrl, ⟨_, _, _, _, _, _, hb1⟩, (fun q hq => by cases hq), OR.nil _ _ _ _, (fun t s ht => absurd ht (Nat.not_lt_zero _)), OR.nil _ _ _ _, fun t s ht => absurd ht (Nat.not_lt_zero _)⟩
  obtain ⟨pb, hpb⟩ : ∃ pb, pb = wc.heap.size := ⟨_, rfl⟩
  clear hC G1 hb1 hC1 H4
  go_upto_block 6 with fail
  rw [← hpb] at H1 ⊢
  clear hpb
  go_cut [28] (fun _ wx => ∃ (lab : Nat → Nat) (j : Nat) (nm : List (Nat × Int)) (ov : Value) (os : List SV) (mv : Value) (ms : List SV), PDs w wx lab n p ds (.slice ka ds.length kc) j pk ins (.slice la 3 lc) rows pb nm 3 ov os mv ms ∧ nm.length ≤ 1000)
  case first =>
    as_aux_lemma =>
      go_wp2_with fail
      go_loopg [28, 29, 30] 3 (fun gk ov mv iv wr => ∃ (t : Nat) (lab : Nat → Nat) (nm : List (Nat × Int)) (os ms : List SV), t + gk = 3 ∧ iv = .int .i64 (t : Int) ∧ PDs w wr lab n p ds (.slice ka ds.length kc) (3 + t) pk ins (.slice la 3 lc) rows pb nm t ov os mv ms ∧ os.length = t ∧ ms.length = t ∧ nm.length = t * ds.length)
      case atStart => exact ⟨0, lab1, [], [], [], by omega, rfl, H1.out, rfl, rfl, by simp⟩
      case round =>
        clear H1
        obtain ⟨t, lab, nm, os, ms, htg, rfl, hD, hos, hms, hnm⟩ := hrel
        obtain ⟨oa, oc, hov⟩ := hD.o.form
        rw [hos] at hov
        subst hov
        obtain ⟨ma, mc, hmv⟩ := hD.m.form
        rw [hms] at hmv
        subst hmv
        have hnm2 : nm.length ≤ 768 := by
          rw [hnm]
          have : t * ds.length ≤ 3 * 256 := Nat.mul_le_mul (by omega) hK
          omega
        by_cases hlt : t < 3
        · have hlt' : (t : Int) < 3 := by omega
          have ht0 : (0 : Int) ≤ (t : Int) := by omega
          have ho := hD.open (by omega) h18 h256 hlt
          have HL := Hid.mk (And.intro hos (And.intro hms hnm))
          clear hD hos hms hnm
          go_wp2_with fail
          refine ho.mono ?_
          rintro e w5 ⟨l5, v5, lab5, svs, rfl, hE5⟩
          obtain ⟨ta, tc, hv5, hl1⟩ := hE5.t.lls
          subst hv5
          obtain ⟨ka', kc', ek, hl2⟩ := hE5.d.c.k.lls
          cases ek
          have hal := alikeG (c := tc) (c' := kc) hl1 hl2 (by omega) (fun i hi => by have := HD.out _ (List.getElem_mem hi); omega)
          have HE := Hid.mk hE5
          clear ho hE5 hl1 hl2
          go_wp2_with fail
          refine hal.mono ?_
          rintro e w6 ⟨rfl, hb6⟩
          have hE6 := HE.out.later hb6
          have hwh := hE6.d.whole (by omega)
          have HE6 := Hid.mk hE6
          clear hal hb6 hE6 HE
          go_wp2_with fail
          refine hwh.mono ?_
          rintro e w7 ⟨rfl, hb7⟩
          have HE7 := Hid.mk (HE6.out.later hb7)
          clear hwh hb7 HE6
          go_upto_block 8 with fail
          go_cut [34] (fun _ wx => Below w7.heap.size w7 wx)
          case first =>
            go_wp2_with fail
            go_loopg [34] t (fun gk iv wr => ∃ i : Nat, i + gk = t ∧ iv = .int .i64 (i : Int) ∧ Below w7.heap.size w7 wr)
            case atStart => exact ⟨0, by omega, rfl, Below.refl _ _⟩
            case round =>
              obtain ⟨i, hig, rfl, hb⟩ := hrel
              have HB := Hid.mk hb
              by_cases hlt2 : i < t
              · have hlt2' : (i : Int) < (t : Int) := by omega
                have hi0 : (0 : Int) ≤ (i : Int) := by omega
                obtain ⟨bo, bm, sa, sc, qa, qc, rfl, rfl, c1, c2, k1, k2⟩ := HE7.out.d.at HL.out.1 HL.out.2.1 hlt2 (Nat.le_refl _) hb
                have hmk := marked_any sa ds.length sc i wr (by omega) (by omega) k1
                have hne : ((ds.length : Int) != (ds.length : Int)) = false := by simp
                have HK := Hid.mk (And.intro c2 k2)
                clear hb k1 k2 c2
                go_wp2_with fail
                refine hmk.mono ?_
                rintro e w8 ⟨rfl, hb8⟩
                have hgs := grownSo_any qa ds.length qc i w8 (by omega) (by omega) (HK.out.2.later hb8)
                have c2 := cell_later hb8 HK.out.1
                have HB8 : Hid (Below w7.heap.size w7 w8) := HB.out.trans (hb8.mono HB.out.size)
                clear hmk hb8 HK c1 HB
                go_wp2_with fail
                refine hgs.mono ?_
                rintro e w9 ⟨rfl, hb9⟩
                have HB9 : Hid (Below w7.heap.size w7 w9) := HB8.out.trans (hb9.mono HB8.out.size)
                clear hgs hb9 HB8 c2 hne
                go_wp2
                go_roundg (gk - 1)
                case measure => omega
                case rel => exact ⟨i + 1, by omega, by go_num, HB9.out⟩
              · obtain rfl : i = t := by omega
                have hge : ¬ (i : Int) < (i : Int) := by omega
                clear hb
                go_wp2
                go_meet
                case rel => exact HB.out
          case rest =>
          have HE8 := Hid.mk ((HE7.out.later hcut).start rfl)
          clear hcut HE7
          go_upto_block 10 with fail
          go_cut [35] (fun _ wx => ∃ (lab : Nat → Nat) (nm' : List (Nat × Int)) (svs' : List SV), PNs w wx lab n p ds (.slice ka ds.length kc) (3 + t + 1) pk ins (.slice la 3 lc) rows pb nm' t (.slice oa t oc) os (.slice ma t mc) ms nm.length ds.length (.slice ta ds.length tc) svs')
          case first =>
            go_wp2_with fail
            go_loopg [35] ds.length (fun gk iv wr => ∃ (i : Nat) (lab : Nat → Nat) (nm' : List (Nat × Int)) (svs' : List SV), i + gk = ds.length ∧ iv = .int .i64 (i : Int) ∧ PNs w wr lab n p ds (.slice ka ds.length kc) (3 + t + 1) pk ins (.slice la 3 lc) rows pb nm' t (.slice oa t oc) os (.slice ma t mc) ms nm.length i (.slice ta ds.length tc) svs')
            case atStart => exact ⟨0, lab5, nm, svs, by omega, rfl, HE8.out⟩
            case round =>
              clear HE8
              obtain ⟨i, lab, nm', svs', hig, rfl, hN⟩ := hrel
              by_cases hlt2 : i < ds.length
              · have hlt2' : (i : Int) < (ds.length : Int) := by omega
                have hi0 : (0 : Int) ≤ (i : Int) := by omega
                obtain ⟨s, hs⟩ : ∃ s, svs'[i]? = some s := ⟨_, List.getElem?_eq_getElem (by have := hN.n; omega)⟩
                obtain ⟨gt, gtc, et, hrt, _, _⟩ := hN.t.row (by omega)
                have et1 : ta = some ⟨gt, 0, none⟩ := by injection et
                subst et1
                have c1 : wr.cell? ⟨gt, i, none⟩ = some s.v := hrt.cell (by unfold vls; rw [List.getElem?_map, hs]; rfl)
                have hno := hN.note HD.out hlt2 hlt (by have := hN.nn; omega) hs
                have hnl := hN.n
                obtain ⟨sa, sn, sc⟩ := s
                unfold SV.v at c1 hno
                simp only at c1 hno
                clear hN hs hrt et
                go_wp2_with fail
                refine hno.mono ?_
                rintro e w9 ⟨rfl, lab9, nm9, hP9, hn9, ht9, hlo9, hhi9⟩
                obtain ⟨g, c, ev, ⟨⟨ya, yn, yc⟩, c2⟩, c3, hc, hN9⟩ := hP9.mark hn9 ht9 hnl hlo9 hhi9 hlt2 hlt
                obtain ⟨rfl, rfl⟩ : gt = g ∧ tc = c := by
                  injection ev with q1 q2 q3
                  injection q1 with q4
                  injection q4 with q5
                  exact ⟨q5, q3⟩
                have HR := Hid.mk hN9
                have u1 := u8w (k := t) (by omega)
                unfold SV.v at c2
                simp only at c2
                clear hno hP9 hn9 ht9 hlo9 hhi9 hN9 c1 ev
                go_wp2
                go_roundg (gk - 1)
                case measure => omega
                case rel => exact ⟨i + 1, lab9, nm9, _, by omega, by go_num, HR.out⟩
              · obtain rfl : i = ds.length := by omega
                have hge : ¬ (ds.length : Int) < (ds.length : Int) := by omega
                have HR := Hid.mk hN
                clear hN
                go_wp2
                go_meet
                case rel => exact ⟨lab, nm', svs', HR.out⟩
          case rest =>
          obtain ⟨labA, nmA, svsA, hNA⟩ := hcut
          have hnA := hNA.nn
          obtain ⟨gO, cO, wO, hrunO, labO', hPO⟩ := hNA.push hlt HL.out.1
          have HX := Hid.mk hrunO
          have HO := Hid.mk hPO
          clear hNA HE8 hrunO hPO
          go_upto_block 12 with (at_builtin; refine Lib.wpList_append_run _ rfl _ _ _ _ rfl _ _ rfl rfl _ _ HX.out ?_)
          clear HX
          go_cut [37] (fun gv wx => ∃ (lab : Nat → Nat) (fv : Value), PFs w wx lab n p ds (.slice ka ds.length kc) (3 + t + 1) pk ins (.slice la 3 lc) rows pb nmA t (.slice (some ⟨gO, 0, none⟩) (t + 1) cO) (os ++ [⟨ta, ds.length, tc⟩]) (.slice ma t mc) ms (.slice ta ds.length tc) svsA 96 fv gv)
          case first =>
            go_wp2_with fail
            go_loopg [36, 37] 96 (fun gk fv gv wr => ∃ (T : Nat) (lab : Nat → Nat), T + gk = 96 ∧ PFs w wr lab n p ds (.slice ka ds.length kc) (3 + t + 1) pk ins (.slice la 3 lc) rows pb nmA t (.slice (some ⟨gO, 0, none⟩) (t + 1) cO) (os ++ [⟨ta, ds.length, tc⟩]) (.slice ma t mc) ms (.slice ta ds.length tc) svsA T fv gv)
            case atStart => exact ⟨0, labO', by omega, HO.out⟩
            case round =>
              clear HO
              obtain ⟨T, lab, hTg, hF⟩ := hrel
              obtain ⟨fa, fc, hfv⟩ : ∃ a c, _ = Value.slice a T c := by obtain ⟨fs, _, h1, _⟩ := hF.f; exact h1.form
              subst hfv
              obtain ⟨ga, gc, hgv⟩ : ∃ a c, _ = Value.slice a T c := by obtain ⟨gs, _, h1, _⟩ := hF.g; exact h1.form
              subst hgv
              by_cases hlt2 : T < 96
              · have hlt2' : (T : Int) < 96 := by omega
                obtain ⟨gf, cf, wf, r1, g2, c2, wg, r2, g3, c3, wh, r3, labh, hF'⟩ := hF.step hlt hlt2 hK rfl
                obtain ⟨M, hM⟩ : ∃ M, M = 200 + t := ⟨_, rfl⟩
                have u1 : IntKind.u8.wrap (200 + (t : Int)) = (M : Int) := by rw [show (200 : Int) + (t : Int) = (M : Int) by omega]; exact u8w (by omega)
                have u2 := u8w (k := M) (by omega)
                have u3 : wrap64 (200 + (t : Int)) = (M : Int) := by unfold wrap64; omega
                rw [← hM] at r1
                have HX1 := Hid.mk r1
                have HX2 := Hid.mk r2
                have HX3 := Hid.mk r3
                have HR := Hid.mk hF'
                clear hF r1 r2 r3 hF' hM
                go_upto_region 75 with (at_builtin; refine Lib.wpList_append_run _ rfl _ _ _ _ rfl _ _ rfl rfl _ _ HX1.out ?_)
                clear HX1 u1 u2 u3
                go_wp2_with (at_builtin; first | refine Lib.wpList_append_run _ rfl _ _ 22 _ rfl _ _ rfl rfl _ _ HX2.out ?_ | refine Lib.wpList_append_run _ rfl _ _ 36 _ rfl _ _ rfl rfl _ _ HX3.out ?_)
                go_roundg (gk - 1)
                case measure => omega
                case rel => exact ⟨T + 1, labh, by omega, HR.out⟩
              · obtain rfl : T = 96 := by omega
                have HR := Hid.mk hF
                clear hF
                go_wp2
                go_meet
                case rel => exact ⟨lab, _, HR.out⟩
          case rest =>
          obtain ⟨labB, fvB, hFB⟩ := hcut
          obtain ⟨gaB, gcB, hgv⟩ : ∃ a c, _ = Value.slice a 96 c := by obtain ⟨gs, _, h1, _⟩ := hFB.g; exact h1.form
          subst hgv
          obtain ⟨gM, cM, wM, hrunM, labM, hPM⟩ := hFB.finish hlt HL.out.1 HL.out.2.1
          have HX := Hid.mk hrunM
          have HM := Hid.mk hPM
          clear hFB HO hrunM hPM
          go_upto_block 14 with (at_builtin; refine Lib.wpList_append_run _ rfl _ _ _ _ rfl _ _ rfl rfl _ _ HX.out ?_)
          clear HX
          go_cut [38] (fun _ wx => Below wM.heap.size wM wx)
          case first =>
            go_wp2_with fail
            go_loopg [38] (t + 1) (fun gk iv wr => ∃ i : Nat, i + gk = t + 1 ∧ iv = .int .i64 (i : Int) ∧ Below wM.heap.size wM wr)
            case atStart => exact ⟨0, by omega, rfl, Below.refl _ _⟩
            case round =>
              obtain ⟨i, hig, rfl, hb⟩ := hrel
              have HB := Hid.mk hb
              by_cases hlt2 : i ≤ t
              · have hlt2' : (i : Int) ≤ (t : Int) := by omega
                have hi0 : (0 : Int) ≤ (i : Int) := by omega
                have hi1 : (i : Int) < ((t + 1 : Nat) : Int) := by omega
                obtain ⟨bo, bm, sa, sc, qa, qc, e1, e2, c1, c2, k1, k2⟩ := HM.out.at (by rw [List.length_append, HL.out.1]; rfl) (by rw [List.length_append, HL.out.2.1]; rfl) (t := i) (by omega) (Nat.le_refl _) hb
                obtain ⟨rfl, rfl⟩ : gO = bo ∧ gM = bm := by
                  injection e1 with q1
                  injection q1 with q2
                  injection e2 with q3
                  injection q3 with q4
                  exact ⟨q2, q4⟩
                have hmk := marked_any sa ds.length sc i wr (by omega) (by omega) k1
                have HK := Hid.mk (And.intro c2 k2)
                clear hb k1 k2 c2 e1 e2
                go_wp2_with fail
                refine hmk.mono ?_
                rintro e w8 ⟨rfl, hb8⟩
                have hgs := grownSo_any qa ds.length qc i w8 (by omega) (by omega) (HK.out.2.later hb8)
                have c2 := cell_later hb8 HK.out.1
                have HB8 : Hid (Below wM.heap.size wM w8) := HB.out.trans (hb8.mono HB.out.size)
                clear hmk hb8 HK c1 HB
                go_wp2_with fail
                refine hgs.mono ?_
                rintro e w9 ⟨rfl, hb9⟩
                have HB9 : Hid (Below wM.heap.size wM w9) := HB8.out.trans (hb9.mono HB8.out.size)
                clear hgs hb9 HB8 c2
                go_wp2
                go_roundg (gk - 1)
                case measure => omega
                case rel => exact ⟨i + 1, by omega, by go_num, HB9.out⟩
              · have hge : ¬ (i : Int) ≤ (t : Int) := by omega
                clear hb
                go_wp2
                go_meet
                case rel => exact HB.out
          case rest =>
          have hPZ := HM.out.later hcut
          have hwh := hPZ.whole (by have := HL.out.2.2; omega)
          have HZ := Hid.mk hPZ
          clear hcut HM hPZ
          go_wp2_with fail
          refine hwh.mono ?_
          rintro e wZ ⟨rfl, hbZ⟩
          have hPY := HZ.out.later hbZ
          have hOL := (hPY.oe t ⟨ta, ds.length, tc⟩ (by omega) (by rw [List.getElem?_append_right (by have := HL.out.1; omega), HL.out.1, Nat.sub_self]; rfl)).2
          have hmk := marked_any ta ds.length tc t wZ (by omega) (by omega) hOL.mkr
          have HY := Hid.mk hPY
          clear hwh hbZ HZ hPY hOL
          go_wp2_with fail
          refine hmk.mono ?_
          rintro e wY ⟨rfl, hbY⟩
          have HR : Hid (PDs w wY labM n p ds (.slice ka ds.length kc) (3 + (t + 1)) pk ins (.slice la 3 lc) rows pb nmA (t + 1) (.slice (some ⟨gO, 0, none⟩) (t + 1) cO) (os ++ [⟨ta, ds.length, tc⟩]) (.slice (some ⟨gM, 0, none⟩) (t + 1) cM) (ms ++ [⟨gaB, 96, gcB⟩]) ∧ (os ++ [SV.mk ta ds.length tc]).length = t + 1 ∧ (ms ++ [SV.mk gaB 96 gcB]).length = t + 1 ∧ nmA.length = (t + 1) * ds.length) := ⟨HY.out.later hbY, by rw [List.length_append, HL.out.1]; rfl, by rw [List.length_append, HL.out.2.1]; rfl, by rw [hnA, HL.out.2.2, Nat.add_mul, Nat.one_mul]⟩
          clear hmk hbY HY
          go_wp2
          go_roundg (3 - (t + 1))
          case measure => omega
          case rel => exact ⟨t + 1, labM, nmA, _, _, by omega, by go_num, HR.out⟩
        · obtain rfl : t = 3 := by omega
          have HR := Hid.mk (And.intro hD hnm2)
          clear hD
          go_wp2
          go_meet
          case rel => exact ⟨lab, _, nm, _, os, _, ms, HR.out.1, by omega⟩
  case rest =>
  obtain ⟨lab, jE, nm, ov, os, mv, ms, hD, hnm⟩ := hcut
  obtain ⟨vL, vW, hq⟩ := hD.c.i
  have hgr := grown_any hq hD.c.g.lz (fun d hd => by have := hD.c.ib d hd; omega) (by omega)
  have HD2 := Hid.mk hD
  clear H1 hD hq
  go_wp2_with fail
  refine hgr.mono ?_
  rintro e w5 ⟨rfl, lab5, G5⟩
  have nK : ∀ y, isK y → (20 ≤ y ∧ y ≤ 25) ∨ (40 ≤ y ∧ y % 2 = 1) := fun y h => h
  have hl5 := HD2.out.c.l.gro G5 (fun h => by have := nK _ h; omega) (fun i hi h => by have := nK _ h; have := HD2.out.rn; have e : yA i = 26 + i := rfl; omega)
  have hap := apart_any hl5 G5.lz HD2.out.rn HD2.out.c.r hK
  have HG5 := Hid.mk G5
  clear hgr hl5 G5
  go_wp2_with fail
  refine hap.mono ?_
  rintro e w6 ⟨rfl, lab6, G6⟩
  obtain ⟨v0, v1, v2, v3, v4, v5, hb⟩ := HD2.out.b
  have nA : ∀ y, isA y → y = 8 ∨ (26 ≤ y ∧ y ≤ 28) := fun y h => h
  have hb6 := (hb.gro HG5.out (fun y hy h => by have := nK _ h; omega) (fun i _ h => by have := nK _ h; have e : yB i = 40 + 2 * i := rfl; omega)).gro G6 (fun y hy h => by have := nA _ h; omega) (fun i _ h => by have := nA _ h; have e : yB i = 40 + 2 * i := rfl; omega)
  have hwh := whole_any hb6 G6.lz (fun q hq => by have := HD2.out.bn q hq; omega) (by omega)
  have HF : Hid (Below w.heap.size w w6) := ((HD2.out.c.g.join HG5.out (Z := fun y => y ≠ 0) (fun _ h => h) (fun y h e => by have := nK _ h; omega)).join G6 (Z := fun y => y ≠ 0) (fun _ h => h) (fun y h e => by have := nA _ h; omega)).belowB (Nat.le_refl _) (fun k hk => absurd rfl hk) (fun h => h rfl)
  clear hap hb hb6 G6 HG5 HD2 nA nK
  go_wp2_with fail
  refine hwh.mono ?_
  rintro e w7 ⟨rfl, hb7⟩
  have HF7 : Hid (Below w.heap.size w w7) := HF.out.trans (hb7.mono HF.out.size)
  clear hwh hb7 HF
  go_wp2
  go_ret
  exact ⟨rfl, HF7.out⟩
end Go.Proofs.Ythdgndbmecnimaa
