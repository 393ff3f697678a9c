import Derived.Test.YtohgdjlgbnpobaaW11
section
namespace Go.Proofs.Ytohgdjlgbnpobaa
open Go.RowKit Go.Maps

theorem first_seal : (sseal (sec []) [97]).2 = 0 ∧ (sseal (sec []) [97]).1.length = 512 := by
  have h : sseal (sec []) [97] = (sform (turnOf ((sec []).getD 0 0) ((sec []).getD 511 0)) [97], 0) := by
    unfold sseal
    rw [if_neg (fun h => h (sec_len [])), if_neg (by simp)]
  rw [h]
  exact ⟨rfl, sform_len (by simp)⟩

set_option maxRecDepth 20000 in
set_option maxHeartbeats 64000000 in
theorem sealBook_any (a : Option Addr) (n c : Nat) (w : World) (hs : CallsIn w w.heap.size a n) (hn : n ≤ 1048576) :
    Calls Try.prog 3 #[.slice a n c] w fun e w' => e = .returned (.bool true) ∧ Below w.heap.size w w' := by
  have Hs := Hid.mk hs
  clear hs
  have h1 := lsector_any none 0 0 [] w (by omega) ⟨rfl, fun _ => rfl, fun x hx => by cases hx⟩
  go_enter Try.func3, Try.ntmps3
  go_wp2_with fail
  refine h1.mono ?_
  rintro e w1 ⟨sv, rfl, hO, hb1⟩
  obtain ⟨sa, sc, hsv, ss, hu1, hu2⟩ := hO.src
  clear hu1 hu2
  have e512 := sec_len []
  rw [e512] at hsv ss
  subst hsv
  have hbx := below_box w1 (.cells #[.int .u8 97] 5)
  have hbx97 : Src (w1.alloc (.cells #[.int .u8 97] 5)) (some ⟨w1.heap.size, 0, none⟩) 1 [97] := ⟨rfl, fun h => (by cases h), fun x hx i hi => by
    cases hx
    obtain rfl : i = 0 := by omega
    rw [addr_add]
    exact cell_of_block (heap_alloc_new w1 (.cells #[.int .u8 97] 5)) rfl⟩
  have h2 := seal_any sa 512 sc (sec []) (some ⟨w1.heap.size, 0, none⟩) 1 1 [97] _ (ss.later hbx) hbx97 (.cons (by omega) .nil)
  rw [first_seal.1] at h2
  have HB1 := Hid.mk (hb1.trans (hbx.mono hb1.size))
  clear hO hb1 ss e512 hbx hbx97 h1
  go_wp2_with fail
  refine h2.mono ?_
  rintro e w2 ⟨gv, rfl, hL, hb2⟩
  obtain ⟨ga, gc, hgv, hrest⟩ := hL
  clear hrest
  rw [first_seal.2] at hgv
  subst hgv
  have HB2 := Hid.mk (HB1.out.trans (hb2.mono HB1.out.size))
  clear h2 hb2 HB1
  go_wp2
  refine wp_loop_ghost_k (fun gk fr wr => fr.defers = [] ∧ fr.tmps.size = 305 ∧ fr.tmps.getD 0 undef = .slice a n c ∧ ∃ (k : Nat) (L : Nat → Nat) (ls ps ms : List (List Int)), gk = n - k ∧ k ≤ n ∧ fr.tmps.getD 8 undef = .int .i64 (k : Int) ∧ ls.length = 4 * k ∧ ps.length = k ∧ ms.length = 3 * k ∧ (∀ d ∈ ls, d.length ≤ 3000) ∧ (∀ d ∈ ps, d.length ≤ 512 ∧ Bytes d) ∧ (∀ d ∈ ms, d.length ≤ 512) ∧ Lv w wr L (fr.tmps.getD 3 undef) (fr.tmps.getD 4 undef) (fr.tmps.getD 5 undef) ls ps ms) n ?atStart ?round
  case atStart => exact ⟨rfl, rfl, rfl, 0, fun _ => 0, [], [], [], rfl, Nat.zero_le _, rfl, rfl, rfl, rfl, (fun d hd => by cases hd), (fun d hd => by cases hd), (fun d hd => by cases hd), BK.nil _ _ _ _, LX.nil _ _ _ _, AL.nil _ _, Gro.below (fun _ _ => rfl) HB2.out _⟩
  case round =>
    clear HB2
    rintro gk ⟨tm, df⟩ wr ⟨hdf, hsz, h0, k, L, ls, ps, ms, rfl, hk, h8, hl1, hl2, hl3, hz1, hz2, hz3, hV⟩ J Kk hJ hKk
    have HJ := Hid.mk hJ
    clear hJ
    have hdf' : df = [] := hdf
    subst hdf'
    obtain ⟨s, hsj, rfl⟩ := arr305 tm hsz
    clear hsj
    have h0' : s 0 = .slice a n c := h0
    have h8' : s 8 = .int .i64 (k : Int) := h8
    have hV' : Lv w wr L (s 3) (s 4) (s 5) ls ps ms := hV
    clear h0 h8 hV hsz hdf
    obtain ⟨ba, bc, e3⟩ := hV'.bk.form
    obtain ⟨pa, pc, e4⟩ := hV'.pl.form
    obtain ⟨aa, ac, e5⟩ := hV'.al.bk.form
    rw [hl1] at e3
    rw [hl2] at e4
    rw [hl3] at e5
    rw [h0', h8', e3, e4, e5]
    rw [e3, e4, e5] at hV'
    have hV := hV'
    have HLen : Hid (ls.length = 4 * k ∧ ps.length = k ∧ ms.length = 3 * k) := ⟨hl1, hl2, hl3⟩
    have HSm := Hid.mk (And.intro hz1 (And.intro hz2 hz3))
    clear hl1 hl2 hl3 hz1 hz2 hz3 hV' h0' h8' e3 e4 e5
    by_cases hlt : k < n
    · obtain ⟨x, rfl⟩ : ∃ x, a = some x := by
        cases a with
        | none => have := Hs.out.1 rfl; omega
        | some x => exact ⟨x, rfl⟩
      obtain ⟨b, o, rfl, hbB, K, N, Z, qa, qn, qc, la, ra, rn, rc, lb, c0, c1, c2, c3, c4, hA, hBb, hNm, hZm⟩ := (Hs.out.far hV.below).2 x rfl k hlt
      have hlt' : (k : Int) < (n : Int) := by omega
      have hk0 : (0 : Int) ≤ (k : Int) := by omega
      obtain ⟨wa, hwa⟩ : ∃ wa, wa = wr.alloc (.cells #[.int .i64 K, .int .i64 N, .int .i64 Z, .slice qa qn qc, .slice ra rn rc] 31) := ⟨_, rfl⟩
      have hba : Below wr.heap.size wr wa := by rw [hwa]; exact below_box _ _
      have kc : wa.heap[wr.heap.size]? = some (.cells #[.int .i64 K, .int .i64 N, .int .i64 Z, .slice qa qn qc, .slice ra rn rc] 31 (0, 0)) := by rw [hwa]; exact heap_alloc_new _ _
      obtain ⟨p, hp⟩ : ∃ p, p = wr.heap.size := ⟨_, rfl⟩
      have kp : L p = 0 := hV.gr.lz _ (by omega)
      have hA' := hA.far (B := w.heap.size) (hba.mono hV.below.size)
      have hB' := hBb.far (B := w.heap.size) (hba.mono hV.below.size)
      have d2 : wa.cell? ⟨wr.heap.size, 2, none⟩ = some (.int .i64 Z) := cell_of_block kc rfl
      have d3 : wa.cell? ⟨wr.heap.size, 3, none⟩ = some (.slice qa qn qc) := cell_of_block kc rfl
      rw [hwa] at d2 d3
      have H0 := Hid.mk (And.intro (hV.later hba) (And.intro (show wa.heap[p]? = _ from hp ▸ kc) (And.intro kp (And.intro hA' hB'))))
      have HP := Hid.mk hp
      clear hV hA hBb hba kc kp hA' hB'
      go_upto_region 12 with fail
      rw [← hwa]
      rw [← hwa] at d2 d3
      clear hwa
      go_cut [68] (fun s68 wx => s68 = .bool (decide (0 < Z ∧ Z ≤ (k : Int))) ∧ wx = wa)
      case first =>
        by_cases hz0 : 0 < Z
        · go_wp2
          go_meet
          case rel => exact ⟨by simp [hz0], rfl⟩
        · go_wp2
          go_meet
          case rel => exact ⟨by simp; omega, rfl⟩
      case rest =>
      obtain ⟨hsl, hwc⟩ := hcut
      subst hsl
      have hwc' := hwc.symm
      subst hwc'
      clear hwc
      go_upto_if 68 with fail
      go_cut [10] (fun s10 wx => wx = wa ∧ ∃ fa fn fc fl, s10 = .slice fa fn fc ∧ Src wa fa fn fl ∧ Bytes fl ∧ fn ≤ 1048576)
      case first =>
        by_cases hz0 : 0 < Z ∧ Z ≤ (k : Int)
        · have hdz : decide (0 < Z ∧ Z ≤ (k : Int)) = true := decide_eq_true hz0
          obtain ⟨j, hj⟩ : ∃ j : Nat, (k : Int) - Z = (j : Int) := ⟨((k : Int) - Z).toNat, by omega⟩
          have hjk : j < k := by omega
          have hjp : j < ps.length := by have := HLen.out.2.1; omega
          have hj0 : (0 : Int) ≤ (j : Int) := by omega
          obtain ⟨hVa, _⟩ := H0.out
          obtain ⟨g5, cap5, a5, c5, e5, f5, s5⟩ := hVa.pl.at hjp
          have hpd := HSm.out.2.1 _ (List.getElem_mem hjp)
          have ex : pa = some ⟨g5, 0, none⟩ := by injection e5
          subst ex
          generalize ps[j] = fl at *
          obtain ⟨fn, hfn⟩ : ∃ fn, fn = fl.length := ⟨_, rfl⟩
          rw [← hfn] at f5 s5
          have HF := Hid.mk (And.intro s5.1 (And.intro hpd.2 (show fn ≤ 1048576 by have := hpd.1; omega)))
          clear hVa e5 s5 hpd hjp hfn
          rw [hdz]
          go_wp2
          go_meet
          case rel => exact ⟨rfl, a5, fn, c5, fl, rfl, HF.out⟩
        · have hdz : decide (0 < Z ∧ Z ≤ (k : Int)) = false := decide_eq_false hz0
          rw [hdz]
          go_wp2
          go_meet
          case rel => exact ⟨rfl, qa, qn, qc, la, rfl, H0.out.2.2.2.1.1, H0.out.2.2.2.1.2.1, H0.out.2.2.2.1.2.2.1⟩
      case rest =>
      obtain ⟨hwc, fa, fn, fc, fl, hsl, hfs, hfb, hfn⟩ := hcut
      subst hsl
      have hwc' := hwc.symm
      subst hwc'
      clear hwc d2 d3
      rw [← hp]
      clear hp
      obtain ⟨hV, kc, kp, hA', hB'⟩ := H0.out
      have hr1 := roomy_any fa fn fc ((16 * (k : Int) + 9) % 256) (by omega) ((k : Int) % 2 == 1) fl wa (by omega) hfs
      clear hV kc kp hA' hB' hfs
      go_wp2_with fail
      refine hr1.mono ?_
      rintro e w3 ⟨gA, cA, eA, rfl, hRo⟩
      obtain ⟨hV, kc, kp, hA', hB'⟩ := H0.out
      obtain ⟨L3, G3, ra3⟩ := hRo.own hV.gr.lz 33
      have plt := (Array.getElem?_eq_some_iff.1 kc).1
      have hB3 := hB'.far (B := w.heap.size) (hRo.2.2.1.mono hV.below.size)
      have kc3 := (hRo.2.2.1.block p plt).trans kc
      have hfl : fl.length = fn := hRo.2.2.2.2.1
      obtain ⟨mA, hmA⟩ : ∃ m, m = fn + eA.length := ⟨_, rfl⟩
      rw [← hmA] at ra3 ⊢
      have HA := Hid.mk (And.intro hmA (And.intro hRo.2.2.2.1 (And.intro hfl (And.intro hRo.2.2.2.2.2 hfb))))
      have mA5 : mA ≤ 1048590 := by have := hRo.2.2.2.1; omega
      have H3 := Hid.mk (And.intro (hV.gro G3 (fun e => by (try simp only [yK, yB] at e); omega) (fun y h1 h2 e => by (try simp only [yK, yB] at e); omega) (fun i hi e => by have hL := HLen.out; (try simp only [yB] at e); omega) (fun i hi e => by have hL := HLen.out; (try simp only [yK] at e); omega)) (And.intro kc3 (And.intro (G3.tag plt kp) (And.intro ra3 hB3))))
      have d4 : w3.cell? ⟨p, 4, none⟩ = some (.slice ra rn rc) := cell_of_block kc3 rfl
      have hrn := hB3.2.2.1
      have hr2 := roomy_any ra rn rc ((16 * (k : Int) + 9) % 256) (by omega) ((k : Int) % 2 == 1) lb w3 (by omega) hB3.1
      clear hV kc kp hA' hB' hRo G3 ra3 plt hB3 kc3 hfl hmA hr1 hfb H0
      go_wp2_with fail
      refine hr2.mono ?_
      rintro e w4 ⟨gB, cB, eB, rfl, hRo⟩
      obtain ⟨hV, kc, kp, ra3, hB3⟩ := H3.out
      obtain ⟨L4, G4, rb4⟩ := hRo.own hV.gr.lz 34
      have plt := (Array.getElem?_eq_some_iff.1 kc).1
      have kc4 := (hRo.2.2.1.block p plt).trans kc
      have hlb : lb.length = rn := hRo.2.2.2.2.1
      obtain ⟨mB, hmB⟩ : ∃ m, m = rn + eB.length := ⟨_, rfl⟩
      rw [← hmB] at rb4 ⊢
      have HB := Hid.mk (And.intro hmB (And.intro hRo.2.2.2.1 (And.intro hlb (And.intro hRo.2.2.2.2.2 hB3.2.1))))
      have mB5 : mB ≤ 1048590 := by have := hRo.2.2.2.1; omega
      have it4 : It w4 L4 p K N Z (.slice qa qn qc) (.slice ra rn rc) gA cA fl eA gB cB lb eB := ⟨kc4, G4.tag plt kp, by rw [HA.out.2.2.1, ← HA.out.1]; exact ra3.gro G4 (fun e => by (try simp only [yK, yB] at e); omega), by rw [hlb, ← hmB]; exact rb4⟩
      have H4 := Hid.mk (And.intro (hV.gro G4 (fun e => by (try simp only [yK, yB] at e); omega) (fun y h1 h2 e => by (try simp only [yK, yB] at e); omega) (fun i hi e => by have hL := HLen.out; (try simp only [yB] at e); omega) (fun i hi e => by have hL := HLen.out; (try simp only [yK] at e); omega)) it4)
      have htA := ltwin_any (some ⟨gA, 0, none⟩) mA cA (fl ++ eA) w4 (by omega) (by
        obtain ⟨a8, c8, e8, s8, _⟩ := it4.ra.src
        rw [HA.out.2.2.1, ← HA.out.1] at e8 s8
        have q8 : a8 = some ⟨gA, 0, none⟩ := by injection e8 with q1; exact q1.symm
        subst q8
        exact s8.1)
      clear hV kc kp ra3 hB3 hRo G4 rb4 plt kc4 hlb hmB hr2 it4 H3 d4
      go_wp2_with fail
      refine htA.mono ?_
      rintro e w5 ⟨tv, rfl, hO, hbl⟩
      obtain ⟨hV, hI⟩ := H4.out
      obtain ⟨tA, tcA, htv, hsl, hu0⟩ := hO.sl0 hV.gr.lz (Nat.le_refl _)
      clear hu0
      have hdl : (fl ++ eA).length = mA := by have h1 := HA.out.1; have h2 := HA.out.2.2.1; rw [List.length_append]; omega
      rw [hdl] at htv hsl
      subst htv
      have GB := Gro.below hV.gr.lz hbl (fun _ => False)
      have Hw5 := Hid.mk (And.intro (hV.gro GB (fun h => h) (fun _ _ _ h => h) (fun _ _ h => h) (fun _ _ h => h)) (And.intro (hI.gro GB (fun h => h) (fun h => h) (fun h => h)) hsl))
      clear hV hI H4 hO hbl GB hsl hdl htA
      as_aux_lemma =>
        have htB := ltwin_any (some ⟨gB, 0, none⟩) mB cB (lb ++ eB) w5 (by omega) (by
          obtain ⟨hV, hI, sA⟩ := Hw5.out
          obtain ⟨a8, c8, e8, s8, _⟩ := hI.rb.src
          rw [HB.out.2.2.1, ← HB.out.1] at e8 s8
          have q8 : a8 = some ⟨gB, 0, none⟩ := by injection e8 with q1; exact q1.symm
          subst q8
          exact s8.1)
        go_wp2_with fail
        refine htB.mono ?_
        rintro e w6 ⟨tv, rfl, hO, hbl⟩
        obtain ⟨hV, hI, sA⟩ := Hw5.out
        obtain ⟨tB, tcB, htv, hsl, hu0⟩ := hO.sl0 hV.gr.lz (Nat.le_refl _)
        clear hu0
        have hdl : (lb ++ eB).length = mB := by have h1 := HB.out.1; have h2 := HB.out.2.2.1; rw [List.length_append]; omega
        rw [hdl] at htv hsl
        subst htv
        have GB := Gro.below hV.gr.lz hbl (fun _ => False)
        have Hw6 := Hid.mk (And.intro (hV.gro GB (fun h => h) (fun _ _ _ h => h) (fun _ _ h => h) (fun _ _ h => h)) (And.intro (hI.gro GB (fun h => h) (fun h => h) (fun h => h)) (And.intro (sA.gro GB (fun h => h)) hsl)))
        clear hV hI sA Hw5 hO hbl GB hsl hdl htB
        as_aux_lemma =>
          obtain ⟨hV, hI, sA, sB⟩ := Hw6.out
          have d0 : w6.cell? ⟨p, 0, none⟩ = some (.int .i64 K) := cell_of_block hI.kc rfl
          have d1 : w6.cell? ⟨p, 1, none⟩ = some (.int .i64 N) := cell_of_block hI.kc rfl
          have d2 : w6.cell? ⟨p, 2, none⟩ = some (.int .i64 Z) := cell_of_block hI.kc rfl
          have d3 : w6.cell? ⟨p, 3, none⟩ = some (.slice qa qn qc) := cell_of_block hI.kc rfl
          have d4 : w6.cell? ⟨p, 4, none⟩ = some (.slice ra rn rc) := cell_of_block hI.kc rfl
          have pA := hI.ra.pre (l := fl) (ex := eA) HA.out.2.2.1
          have pB := hI.rb.pre (l := lb) (ex := eB) HB.out.2.2.1
          have han := answered_any K N Z (.slice qa qn qc) (.slice ra rn rc) (some ⟨gA, 0, none⟩) fn cA fl (some ⟨gB, 0, none⟩) rn cB lb w6 pA.1.1 pB.1.1 HA.out.2.2.2.2 HB.out.2.2.2.2 (by omega) (by omega) hNm
          have hpl := splay_len K N fl lb HA.out.2.2.2.2 HB.out.2.2.2.2
          obtain ⟨P1, hP1⟩ : ∃ P, P = splay K N fl lb := ⟨_, rfl⟩
          rw [← hP1] at han hpl
          have HP1 := Hid.mk (And.intro hP1 hpl.2)
          have n15 : P1.length ≤ 512 := hpl.1
          clear hP1
          clear hV hI sA sB pA pB hpl
          go_wp2_with fail
          refine han.mono ?_
          rintro e w7 ⟨got, want, rfl, hAn⟩
          obtain ⟨hV, hI, sA, sB⟩ := Hw6.out
          obtain ⟨L1, G, T1, b1, e1, hwant, S1⟩ := hAn.own hV.gr.lz (yK (3 * k))
          subst hwant
          obtain ⟨g1, hgot, hu0⟩ := T1.sl
          clear hu0
          subst hgot
          have Hw7 := Hid.mk (And.intro (hV.gro G (fun e => by (try simp only [yK] at e); omega) (fun y h1 h2 e => by (try simp only [yK] at e); omega) (fun i hi e => by have hL := HLen.out; (try simp only [yK, yB] at e); omega) (fun i hi e => by have hL := HLen.out; (try simp only [yK] at e); omega)) (And.intro (hI.gro G (fun e => by (try simp only [yK] at e); omega) (fun e => by (try simp only [yK] at e); omega) (fun e => by (try simp only [yK] at e); omega)) (And.intro (sA.gro G (fun e => by (try simp only [yK] at e); omega)) (And.intro (sB.gro G (fun e => by (try simp only [yK] at e); omega)) (And.intro T1 S1)))))
          clear hV hI sA sB Hw6 hAn G T1 S1 han d0 d1 d2 d3 d4
          as_aux_lemma =>
            obtain ⟨hV, hI, sA, sB, T1, S1⟩ := Hw7.out
            have d0 : w7.cell? ⟨p, 0, none⟩ = some (.int .i64 K) := cell_of_block hI.kc rfl
            have d1 : w7.cell? ⟨p, 1, none⟩ = some (.int .i64 N) := cell_of_block hI.kc rfl
            have d2 : w7.cell? ⟨p, 2, none⟩ = some (.int .i64 Z) := cell_of_block hI.kc rfl
            have d3 : w7.cell? ⟨p, 3, none⟩ = some (.slice qa qn qc) := cell_of_block hI.kc rfl
            have d4 : w7.cell? ⟨p, 4, none⟩ = some (.slice ra rn rc) := cell_of_block hI.kc rfl
            have pA := hI.ra.pre (l := fl) (ex := eA) HA.out.2.2.1
            have pB := hI.rb.pre (l := lb) (ex := eB) HB.out.2.2.1
            have han := answered_any K N Z (.slice qa qn qc) (.slice ra rn rc) (some ⟨gA, 0, none⟩) fn cA fl (some ⟨gB, 0, none⟩) rn cB lb w7 pA.1.1 pB.1.1 HA.out.2.2.2.2 HB.out.2.2.2.2 (by omega) (by omega) hNm
            have hpl := splay_len K N fl lb HA.out.2.2.2.2 HB.out.2.2.2.2
            rw [← HP1.out.1] at han
            clear hV hI sA sB T1 S1 pA pB hpl
            go_wp2_with fail
            refine han.mono ?_
            rintro e w8 ⟨got, want, rfl, hAn⟩
            obtain ⟨hV, hI, sA, sB, T1, S1⟩ := Hw7.out
            obtain ⟨L2, G, T2, b2, e2, hwant, S2⟩ := hAn.own hV.gr.lz (yB (4 * k))
            subst hwant
            obtain ⟨g2, hgot, hu0⟩ := T2.sl
            clear hu0
            subst hgot
            have Hw8 := Hid.mk (And.intro (hV.gro G (fun e => by (try simp only [yB] at e); omega) (fun y h1 h2 e => by (try simp only [yB] at e); omega) (fun i hi e => by have hL := HLen.out; (try simp only [yB] at e); omega) (fun i hi e => by have hL := HLen.out; (try simp only [yK, yB] at e); omega)) (And.intro (hI.gro G (fun e => by (try simp only [yB] at e); omega) (fun e => by (try simp only [yB] at e); omega) (fun e => by (try simp only [yB] at e); omega)) (And.intro (sA.gro G (fun e => by (try simp only [yB] at e); omega)) (And.intro (sB.gro G (fun e => by (try simp only [yB] at e); omega)) (And.intro (T1.gro G (fun e => by (try simp only [yK, yB] at e); omega)) (And.intro (S1.gro G (fun e => by (try simp only [yB] at e); omega)) (And.intro T2 S2)))))))
            clear hV hI sA sB T1 S1 Hw7 hAn G T2 S2 han d0 d1 d2 d3 d4
            as_aux_lemma =>
              obtain ⟨hV, hI, sA, sB, T1, S1, T2, S2⟩ := Hw8.out
              have hsm := lsame_yes g2 b1 P1.length P1.length e1 P1 w8 (by omega) (by
                obtain ⟨a8, e8, s8⟩ := T2.sl
                have q8 : g2 = a8 := by injection e8
                subst q8
                exact s8.1) S1.1
              clear hV hI sA sB T1 S1 T2 S2
              go_wp2_with fail
              refine hsm.mono ?_
              rintro e w9 ⟨rfl, hbl⟩
              obtain ⟨hV, hI, sA, sB, T1, S1, T2, S2⟩ := Hw8.out
              have GB := Gro.below hV.gr.lz hbl (fun _ => False)
              have Hw9 := Hid.mk (And.intro (hV.gro GB (fun h => h) (fun _ _ _ h => h) (fun _ _ h => h) (fun _ _ h => h)) (And.intro (hI.gro GB (fun h => h) (fun h => h) (fun h => h)) (And.intro (sA.gro GB (fun h => h)) (And.intro (sB.gro GB (fun h => h)) (And.intro (T1.gro GB (fun h => h)) (And.intro (S1.gro GB (fun h => h)) (And.intro (T2.gro GB (fun h => h)) (S2.gro GB (fun h => h)))))))))
              clear hV hI sA sB T1 S1 T2 S2 hbl GB hsm Hw8
              as_aux_lemma =>
                obtain ⟨hV, hI, sA, sB, T1, S1, T2, S2⟩ := Hw9.out
                have hsm := lsame_yes (some ⟨gA, 0, none⟩) tA mA cA tcA (fl ++ eA) w9 (by omega) (by
                  obtain ⟨a8, c8, e8, s8, _⟩ := hI.ra.src
                  rw [HA.out.2.2.1, ← HA.out.1] at e8 s8
                  have q8 : a8 = some ⟨gA, 0, none⟩ := by injection e8 with q1; exact q1.symm
                  subst q8
                  exact s8.1) sA.1
                clear hV hI sA sB T1 S1 T2 S2
                go_wp2_with fail
                refine hsm.mono ?_
                rintro e w10 ⟨rfl, hbl⟩
                obtain ⟨hV, hI, sA, sB, T1, S1, T2, S2⟩ := Hw9.out
                have GB := Gro.below hV.gr.lz hbl (fun _ => False)
                have Hw10 := Hid.mk (And.intro (hV.gro GB (fun h => h) (fun _ _ _ h => h) (fun _ _ h => h) (fun _ _ h => h)) (And.intro (hI.gro GB (fun h => h) (fun h => h) (fun h => h)) (And.intro (sA.gro GB (fun h => h)) (And.intro (sB.gro GB (fun h => h)) (And.intro (T1.gro GB (fun h => h)) (And.intro (S1.gro GB (fun h => h)) (And.intro (T2.gro GB (fun h => h)) (S2.gro GB (fun h => h)))))))))
                clear hV hI sA sB T1 S1 T2 S2 hbl GB hsm Hw9
                as_aux_lemma =>
                  obtain ⟨hV, hI, sA, sB, T1, S1, T2, S2⟩ := Hw10.out
                  have hsm := lsame_yes (some ⟨gB, 0, none⟩) tB mB cB tcB (lb ++ eB) w10 (by omega) (by
                    obtain ⟨a8, c8, e8, s8, _⟩ := hI.rb.src
                    rw [HB.out.2.2.1, ← HB.out.1] at e8 s8
                    have q8 : a8 = some ⟨gB, 0, none⟩ := by injection e8 with q1; exact q1.symm
                    subst q8
                    exact s8.1) sB.1
                  clear hV hI sA sB T1 S1 T2 S2
                  go_wp2_with fail
                  refine hsm.mono ?_
                  rintro e w11 ⟨rfl, hbl⟩
                  obtain ⟨hV, hI, sA, sB, T1, S1, T2, S2⟩ := Hw10.out
                  have GB := Gro.below hV.gr.lz hbl (fun _ => False)
                  have Hw11 := Hid.mk (And.intro (hV.gro GB (fun h => h) (fun _ _ _ h => h) (fun _ _ h => h) (fun _ _ h => h)) (And.intro (hI.gro GB (fun h => h) (fun h => h) (fun h => h)) (And.intro (sA.gro GB (fun h => h)) (And.intro (sB.gro GB (fun h => h)) (And.intro (T1.gro GB (fun h => h)) (And.intro (S1.gro GB (fun h => h)) (And.intro (T2.gro GB (fun h => h)) (S2.gro GB (fun h => h)))))))))
                  clear hV hI sA sB T1 S1 T2 S2 hbl GB hsm Hw10
                  as_aux_lemma =>
                    obtain ⟨hV, hI, sA, sB, T1, S1, T2, S2⟩ := Hw11.out
                    have Hw11d := Hid.mk (And.intro hV (And.intro hI (And.intro T1 (And.intro S1 T2))))
                    clear hV hI sA sB T1 S1 T2 S2 Hw11
                    go_upto_if 148 with fail
                    go_cut [23] (fun _ wx => ∃ d', d'.length = fn ∧ Bytes d' ∧ OR wx L2 33 5 (.slice (some ⟨gA, 0, none⟩) (fn + eA.length) cA) (fn + eA.length) (bs (d' ++ eA)) ∧ Gro L2 L2 w11 wx (fun z => z = 33))
                    case first =>
                      obtain ⟨hV, hI, T1, S1, T2⟩ := Hw11d.out
                      have hr := hI.ra
                      have hlz := hV.gr.lz
                      have d1 : w11.cell? ⟨p, 1, none⟩ = some (.int .i64 N) := cell_of_block hI.kc rfl
                      have hdl := HA.out.2.2.1
                      have hby := HA.out.2.2.2.2
                      rw [hdl] at hr
                      clear hV hI T1 S1 T2
                      by_cases hpos : 0 < fn
                      · have hpos' : (0 : Int) < (fn : Int) := by omega
                        have hne : ¬ (fn : Int) = 0 := by omega
                        obtain ⟨M, hM, hMl⟩ := i64_and31 N
                        obtain ⟨r, hr0⟩ : ∃ r, r = M % fn := ⟨_, rfl⟩
                        have hrl : r < fn := by rw [hr0]; exact Nat.mod_lt _ hpos
                        have hr' : (M : Int) % (fn : Int) = (r : Int) := by subst hr0; simp
                        have hM0 : (0 : Int) ≤ (M : Int) := by omega
                        obtain ⟨j, hj⟩ : ∃ j : Nat, (fn : Int) - 1 - (r : Int) = (j : Int) := ⟨fn - 1 - r, by omega⟩
                        have hjn : j < fn := by omega
                        obtain ⟨q1, q2, G, O⟩ := hr.putPre hlz (i := j) (by omega) (by omega) (bits .xor .u8 (fl.getD j 0) 1)
                        have HR : Hid (∃ d', d'.length = fn ∧ Bytes d' ∧ OR (w11.setCell ⟨gA, j, none⟩ (.int .u8 (bits .xor .u8 (fl.getD j 0) 1))) L2 33 5 (.slice (some ⟨gA, 0, none⟩) (fn + eA.length) cA) (fn + eA.length) (bs (d' ++ eA)) ∧ Gro L2 L2 w11 (w11.setCell ⟨gA, j, none⟩ (.int .u8 (bits .xor .u8 (fl.getD j 0) 1))) (fun z => z = 33)) := ⟨_, by rw [List.length_set]; exact hdl, setByte_bytes hby _ _ (u8_xor_byte _ _), O, G⟩
                        have hj0 : (0 : Int) ≤ (j : Int) := by omega
                        clear hr hlz hdl hby hr0 G O
                        generalize fl.getD j 0 = x0 at *
                        go_wp2
                        go_meet
                        case rel => exact HR.out
                      · have hpos' : ¬ (0 : Int) < (fn : Int) := by omega
                        have HR := Hid.mk (And.intro hdl (And.intro hby (And.intro hr (Gro.refl hlz (fun z => z = 33)))))
                        clear hr hlz hdl hby
                        go_wp2
                        go_meet
                        case rel => exact ⟨_, HR.out⟩
                    case rest =>
                    obtain ⟨fl2, hnl, hnb, hno, G⟩ := hcut
                    obtain ⟨hV, hI, T1, S1, T2⟩ := Hw11d.out
                    have Hfl2 := Hid.mk (And.intro hnl hnb)
                    have Hw12 := Hid.mk (And.intro (hV.gro G (fun e => by (try simp only [yK, yB] at e); omega) (fun y h1 h2 e => by (try simp only [yK, yB] at e); omega) (fun i hi e => by have hL := HLen.out; (try simp only [yB] at e); omega) (fun i hi e => by have hL := HLen.out; (try simp only [yK] at e); omega)) (And.intro (show It wc L2 p K N Z (.slice qa qn qc) (.slice ra rn rc) gA cA fl2 eA gB cB lb eB from ⟨(G.block (Array.getElem?_eq_some_iff.1 hI.kc).1 hI.kp (fun e => by (try simp only [yK, yB] at e); omega)).trans hI.kc, hI.kp, by rw [hnl]; exact hno, hI.rb.gro G (fun e => by (try simp only [yK, yB] at e); omega)⟩) (And.intro (T1.gro G (fun e => by (try simp only [yK] at e); omega)) (And.intro (S1.gro G (fun e => by (try simp only [yK, yB] at e); omega)) (T2.gro G (fun e => by (try simp only [yB] at e); omega))))))
                    clear hV hI T1 S1 T2 hnl hnb hno G Hw11d
                    have hwc : ∃ z, z = wc := ⟨_, rfl⟩
                    obtain ⟨w12, hz'⟩ := hwc
                    subst hz'
                    as_aux_lemma =>
                      obtain ⟨hV, hI, T1, S1, T2⟩ := Hw12.out
                      have d0 : w12.cell? ⟨p, 0, none⟩ = some (.int .i64 K) := cell_of_block hI.kc rfl
                      have d1 : w12.cell? ⟨p, 1, none⟩ = some (.int .i64 N) := cell_of_block hI.kc rfl
                      have d2 : w12.cell? ⟨p, 2, none⟩ = some (.int .i64 Z) := cell_of_block hI.kc rfl
                      have d3 : w12.cell? ⟨p, 3, none⟩ = some (.slice qa qn qc) := cell_of_block hI.kc rfl
                      have d4 : w12.cell? ⟨p, 4, none⟩ = some (.slice ra rn rc) := cell_of_block hI.kc rfl
                      have pA := hI.ra.pre (l := fl2) (ex := eA) Hfl2.out.1
                      have pB := hI.rb.pre (l := lb) (ex := eB) HB.out.2.2.1
                      have han := answered_any K N Z (.slice qa qn qc) (.slice ra rn rc) (some ⟨gA, 0, none⟩) fn cA fl2 (some ⟨gB, 0, none⟩) rn cB lb w12 pA.1.1 pB.1.1 Hfl2.out.2 HB.out.2.2.2.2 (by omega) (by omega) hNm
                      have hpl := splay_len K N fl2 lb Hfl2.out.2 HB.out.2.2.2.2
                      obtain ⟨P3, hP3⟩ : ∃ P, P = splay K N fl2 lb := ⟨_, rfl⟩
                      rw [← hP3] at han hpl
                      have HP3 := Hid.mk (And.intro hP3 hpl.2)
                      have n35 : P3.length ≤ 512 := hpl.1
                      clear hP3
                      clear hV hI T1 S1 T2 pA pB hpl
                      go_wp2_with fail
                      refine han.mono ?_
                      rintro e w13 ⟨got, want, rfl, hAn⟩
                      obtain ⟨hV, hI, T1, S1, T2⟩ := Hw12.out
                      obtain ⟨L3, G, T3, b3, e3, hwant, S3⟩ := hAn.own hV.gr.lz (yK (3 * k + 1))
                      subst hwant
                      obtain ⟨g3, hgot, hu0⟩ := T3.sl
                      clear hu0
                      subst hgot
                      have Hw13 := Hid.mk (And.intro (hV.gro G (fun e => by (try simp only [yK] at e); omega) (fun y h1 h2 e => by (try simp only [yK] at e); omega) (fun i hi e => by have hL := HLen.out; (try simp only [yK, yB] at e); omega) (fun i hi e => by have hL := HLen.out; (try simp only [yK] at e); omega)) (And.intro (hI.gro G (fun e => by (try simp only [yK] at e); omega) (fun e => by (try simp only [yK] at e); omega) (fun e => by (try simp only [yK] at e); omega)) (And.intro (T1.gro G (fun e => by (try simp only [yK] at e); omega)) (And.intro (S1.gro G (fun e => by (try simp only [yK] at e); omega)) (And.intro (T2.gro G (fun e => by (try simp only [yK, yB] at e); omega)) (And.intro T3 S3))))))
                      clear hV hI T1 S1 T2 Hw12 hAn G T3 S3 han d0 d1 d2 d3 d4
                      as_aux_lemma =>
                        obtain ⟨hV, hI, T1, S1, T2, T3, S3⟩ := Hw13.out
                        have Hw13d := Hid.mk (And.intro hV (And.intro hI (And.intro T1 (And.intro S1 (And.intro T2 (And.intro T3 S3))))))
                        clear hV hI T1 S1 T2 T3 S3 Hw13
                        go_upto_if 177 with fail
                        go_cut [] (fun wx => ∃ d', d'.length = rn ∧ Bytes d' ∧ OR wx L3 34 5 (.slice (some ⟨gB, 0, none⟩) (rn + eB.length) cB) (rn + eB.length) (bs (d' ++ eB)) ∧ Gro L3 L3 w13 wx (fun z => z = 34))
                        case first =>
                          obtain ⟨hV, hI, T1, S1, T2, T3, S3⟩ := Hw13d.out
                          have hr := hI.rb
                          have hlz := hV.gr.lz
                          have d1 : w13.cell? ⟨p, 1, none⟩ = some (.int .i64 N) := cell_of_block hI.kc rfl
                          have hdl := HB.out.2.2.1
                          have hby := HB.out.2.2.2.2
                          rw [hdl] at hr
                          clear hV hI T1 S1 T2 T3 S3
                          by_cases hpos : 0 < rn
                          · have hpos' : (0 : Int) < (rn : Int) := by omega
                            have hne : ¬ (rn : Int) = 0 := by omega
                            obtain ⟨M, hM, hMl⟩ := i64_and31 N
                            obtain ⟨r, hr0⟩ : ∃ r, r = M % rn := ⟨_, rfl⟩
                            have hrl : r < rn := by rw [hr0]; exact Nat.mod_lt _ hpos
                            have hr' : (M : Int) % (rn : Int) = (r : Int) := by subst hr0; simp
                            have hM0 : (0 : Int) ≤ (M : Int) := by omega
                            obtain ⟨j, hj⟩ : ∃ j, j = r := ⟨_, rfl⟩
                            subst hj
                            have hjn : j < rn := hrl
                            obtain ⟨q1, q2, G, O⟩ := hr.putPre hlz (i := j) (by omega) (by omega) (bits .xor .u8 (lb.getD j 0) 2)
                            have HR : Hid (∃ d', d'.length = rn ∧ Bytes d' ∧ OR (w13.setCell ⟨gB, j, none⟩ (.int .u8 (bits .xor .u8 (lb.getD j 0) 2))) L3 34 5 (.slice (some ⟨gB, 0, none⟩) (rn + eB.length) cB) (rn + eB.length) (bs (d' ++ eB)) ∧ Gro L3 L3 w13 (w13.setCell ⟨gB, j, none⟩ (.int .u8 (bits .xor .u8 (lb.getD j 0) 2))) (fun z => z = 34)) := ⟨_, by rw [List.length_set]; exact hdl, setByte_bytes hby _ _ (u8_xor_byte _ _), O, G⟩
                            have hj0 : (0 : Int) ≤ (j : Int) := by omega
                            clear hr hlz hdl hby hr0 G O
                            generalize lb.getD j 0 = x0 at *
                            go_wp2
                            go_meet
                            case rel => exact HR.out
                          · have hpos' : ¬ (0 : Int) < (rn : Int) := by omega
                            have HR := Hid.mk (And.intro hdl (And.intro hby (And.intro hr (Gro.refl hlz (fun z => z = 34)))))
                            clear hr hlz hdl hby
                            go_wp2
                            go_meet
                            case rel => exact ⟨_, HR.out⟩
                        case rest =>
                        obtain ⟨lb2, hnl, hnb, hno, G⟩ := hcut
                        obtain ⟨hV, hI, T1, S1, T2, T3, S3⟩ := Hw13d.out
                        have Hlb2 := Hid.mk (And.intro hnl hnb)
                        have Hw14 := Hid.mk (And.intro (hV.gro G (fun e => by (try simp only [yK, yB] at e); omega) (fun y h1 h2 e => by (try simp only [yK, yB] at e); omega) (fun i hi e => by have hL := HLen.out; (try simp only [yB] at e); omega) (fun i hi e => by have hL := HLen.out; (try simp only [yK] at e); omega)) (And.intro (show It wc L3 p K N Z (.slice qa qn qc) (.slice ra rn rc) gA cA fl2 eA gB cB lb2 eB from ⟨(G.block (Array.getElem?_eq_some_iff.1 hI.kc).1 hI.kp (fun e => by (try simp only [yK, yB] at e); omega)).trans hI.kc, hI.kp, hI.ra.gro G (fun e => by (try simp only [yK, yB] at e); omega), by rw [hnl]; exact hno⟩) (And.intro (T1.gro G (fun e => by (try simp only [yK] at e); omega)) (And.intro (S1.gro G (fun e => by (try simp only [yK, yB] at e); omega)) (And.intro (T2.gro G (fun e => by (try simp only [yB] at e); omega)) (And.intro (T3.gro G (fun e => by (try simp only [yK] at e); omega)) (S3.gro G (fun e => by (try simp only [yK, yB] at e); omega))))))))
                        clear hV hI T1 S1 T2 T3 S3 hnl hnb hno G Hw13d
                        have hwc : ∃ z, z = wc := ⟨_, rfl⟩
                        obtain ⟨w14, hz'⟩ := hwc
                        subst hz'
                        as_aux_lemma =>
                          obtain ⟨hV, hI, T1, S1, T2, T3, S3⟩ := Hw14.out
                          have d0 : w14.cell? ⟨p, 0, none⟩ = some (.int .i64 K) := cell_of_block hI.kc rfl
                          have d1 : w14.cell? ⟨p, 1, none⟩ = some (.int .i64 N) := cell_of_block hI.kc rfl
                          have d2 : w14.cell? ⟨p, 2, none⟩ = some (.int .i64 Z) := cell_of_block hI.kc rfl
                          have d3 : w14.cell? ⟨p, 3, none⟩ = some (.slice qa qn qc) := cell_of_block hI.kc rfl
                          have d4 : w14.cell? ⟨p, 4, none⟩ = some (.slice ra rn rc) := cell_of_block hI.kc rfl
                          have pA := hI.ra.pre (l := fl2) (ex := eA) Hfl2.out.1
                          have pB := hI.rb.pre (l := lb2) (ex := eB) Hlb2.out.1
                          have han := answered_any K N Z (.slice qa qn qc) (.slice ra rn rc) (some ⟨gA, 0, none⟩) fn cA fl2 (some ⟨gB, 0, none⟩) rn cB lb2 w14 pA.1.1 pB.1.1 Hfl2.out.2 Hlb2.out.2 (by omega) (by omega) hNm
                          have hpl := splay_len K N fl2 lb2 Hfl2.out.2 Hlb2.out.2
                          obtain ⟨P4, hP4⟩ : ∃ P, P = splay K N fl2 lb2 := ⟨_, rfl⟩
                          rw [← hP4] at han hpl
                          have HP4 := Hid.mk (And.intro hP4 hpl.2)
                          have n45 : P4.length ≤ 512 := hpl.1
                          clear hP4
                          clear hV hI T1 S1 T2 T3 S3 pA pB hpl
                          go_wp2_with fail
                          refine han.mono ?_
                          rintro e w15 ⟨got, want, rfl, hAn⟩
                          obtain ⟨hV, hI, T1, S1, T2, T3, S3⟩ := Hw14.out
                          obtain ⟨L4, G, T4, b4, e4, hwant, S4⟩ := hAn.own hV.gr.lz (yK (3 * k + 2))
                          subst hwant
                          obtain ⟨g4, hgot, hu0⟩ := T4.sl
                          clear hu0
                          subst hgot
                          have Hw15 := Hid.mk (And.intro (hV.gro G (fun e => by (try simp only [yK] at e); omega) (fun y h1 h2 e => by (try simp only [yK] at e); omega) (fun i hi e => by have hL := HLen.out; (try simp only [yK, yB] at e); omega) (fun i hi e => by have hL := HLen.out; (try simp only [yK] at e); omega)) (And.intro (hI.gro G (fun e => by (try simp only [yK] at e); omega) (fun e => by (try simp only [yK] at e); omega) (fun e => by (try simp only [yK] at e); omega)) (And.intro (T1.gro G (fun e => by (try simp only [yK] at e); omega)) (And.intro (S1.gro G (fun e => by (try simp only [yK] at e); omega)) (And.intro (T2.gro G (fun e => by (try simp only [yK, yB] at e); omega)) (And.intro (T3.gro G (fun e => by (try simp only [yK] at e); omega)) (And.intro (S3.gro G (fun e => by (try simp only [yK] at e); omega)) (And.intro T4 S4))))))))
                          clear hV hI T1 S1 T2 T3 S3 Hw14 hAn G T4 S4 han d0 d1 d2 d3 d4
                          as_aux_lemma =>
                            obtain ⟨hV, hI, T1, S1, T2, T3, S3, T4, S4⟩ := Hw15.out
                            have rA := hI.ra
                            have rB := hI.rb
                            rw [Hfl2.out.1, ← HA.out.1] at rA
                            rw [Hlb2.out.1, ← HB.out.1] at rB
                            have hlen0 : (fl2 ++ eA).length = mA := by rw [List.length_append, Hfl2.out.1]; exact HA.out.1.symm
                            have hlen0' : (lb2 ++ eB).length = mB := by rw [List.length_append, Hlb2.out.1]; exact HB.out.1.symm
                            have HO := Hid.mk (And.intro rA (And.intro hlen0 hlen0'))
                            have HW := Hid.mk (And.intro hV (And.intro T1 (And.intro S1 (And.intro T2 (And.intro T3 (And.intro S3 (And.intro T4 (And.intro S4 rB))))))))
                            have hlz := hV.gr.lz
                            clear hV hI T1 S1 T2 T3 S3 T4 S4 rA rB hlen0 hlen0' Hw15
                            go_wp2
                            go_loopw [30] (fun i wx => ∃ (t : Nat) (dd : List Int), t ≤ mA ∧ i = .int .i64 (t : Int) ∧ dd.length = mA ∧ OR wx L4 33 5 (.slice (some ⟨gA, 0, none⟩) mA cA) mA (bs dd) ∧ Gro L4 L4 w15 wx (fun z => z = 33)) (fun i _ => mA - (intOf i).toNat)
                            case atStart => exact ⟨0, fl2 ++ eA, Nat.zero_le _, rfl, HO.out.2.1, HO.out.1, Gro.refl hlz _⟩
                            case round =>
                              obtain ⟨t, dd, ht, rfl, hdd, hOr, hGr⟩ := hrel
                              by_cases hltt : t < mA
                              · obtain ⟨g9, c9, e9, q1, q2, _, G9, O9⟩ := hOr.put hGr.lz hltt ((16 * (k : Int) + 10) % 256)
                                have eg : g9 = gA := by injection e9 with z1; injection z1 with z2; injection z2 with z3; exact z3.symm
                                subst eg
                                have HR := Hid.mk (And.intro (show (dd.set t ((16 * (k : Int) + 10) % 256)).length = mA by rw [List.length_set]; exact hdd) (And.intro O9 (hGr.trans G9)))
                                have hltt' : (t : Int) < (mA : Int) := by omega
                                have htt0 : (0 : Int) ≤ (t : Int) := by omega
                                clear hOr hGr e9 G9 O9 hdd
                                generalize dd.getD t 0 = x0 at *
                                go_wp2
                                go_roundw
                                case rel => exact ⟨t + 1, _, by omega, by go_num, HR.out⟩
                                case measure => simp [intOf]; omega
                              · have hltt' : ¬ (t : Int) < (mA : Int) := by omega
                                have hwx : ∃ z, z = wr := ⟨_, rfl⟩
                                obtain ⟨w16, hz'⟩ := hwx
                                subst hz'
                                obtain ⟨hV, T1, S1, T2, T3, S3, T4, S4, rB⟩ := HW.out
                                have Hw16 := Hid.mk (And.intro (hV.gro hGr (fun e => by (try simp only [yK, yB] at e); omega) (fun y h1 h2 e => by (try simp only [yK, yB] at e); omega) (fun i hi e => by have hL := HLen.out; (try simp only [yB] at e); omega) (fun i hi e => by have hL := HLen.out; (try simp only [yK] at e); omega)) (And.intro (T1.gro hGr (fun e => by (try simp only [yK] at e); omega)) (And.intro (S1.gro hGr (fun e => by (try simp only [yK, yB] at e); omega)) (And.intro (T2.gro hGr (fun e => by (try simp only [yB] at e); omega)) (And.intro (T3.gro hGr (fun e => by (try simp only [yK] at e); omega)) (And.intro (S3.gro hGr (fun e => by (try simp only [yK, yB] at e); omega)) (And.intro (T4.gro hGr (fun e => by (try simp only [yK] at e); omega)) (And.intro (S4.gro hGr (fun e => by (try simp only [yK, yB] at e); omega)) (rB.gro hGr (fun e => by (try simp only [yK, yB] at e); omega))))))))))
                                clear hV T1 S1 T2 T3 S3 T4 S4 rB hOr hGr hdd hlz HW
                                as_aux_lemma =>
                                  obtain ⟨hV, T1, S1, T2, T3, S3, T4, S4, rB⟩ := Hw16.out
                                  have hlz := hV.gr.lz
                                  have HO2 := Hid.mk rB
                                  have HW2 := Hid.mk (And.intro hV (And.intro T1 (And.intro S1 (And.intro T2 (And.intro T3 (And.intro S3 (And.intro T4 S4)))))))
                                  clear hV T1 S1 T2 T3 S3 T4 S4 rB Hw16
                                  go_wp2
                                  go_loopw [31] (fun i wx => ∃ (t : Nat) (dd : List Int), t ≤ mB ∧ i = .int .i64 (t : Int) ∧ dd.length = mB ∧ OR wx L4 34 5 (.slice (some ⟨gB, 0, none⟩) mB cB) mB (bs dd) ∧ Gro L4 L4 w16 wx (fun z => z = 34)) (fun i _ => mB - (intOf i).toNat)
                                  case atStart => exact ⟨0, lb2 ++ eB, Nat.zero_le _, rfl, HO.out.2.2, HO2.out, Gro.refl hlz _⟩
                                  case round =>
                                    obtain ⟨t, dd, ht, rfl, hdd, hOr, hGr⟩ := hrel
                                    by_cases hltt : t < mB
                                    · obtain ⟨g9, c9, e9, q1, q2, _, G9, O9⟩ := hOr.put hGr.lz hltt ((16 * (k : Int) + 11) % 256)
                                      have eg : g9 = gB := by injection e9 with z1; injection z1 with z2; injection z2 with z3; exact z3.symm
                                      subst eg
                                      have HR := Hid.mk (And.intro (show (dd.set t ((16 * (k : Int) + 11) % 256)).length = mB by rw [List.length_set]; exact hdd) (And.intro O9 (hGr.trans G9)))
                                      have hltt' : (t : Int) < (mB : Int) := by omega
                                      have htt0 : (0 : Int) ≤ (t : Int) := by omega
                                      clear hOr hGr e9 G9 O9 hdd
                                      generalize dd.getD t 0 = x0 at *
                                      go_wp2
                                      go_roundw
                                      case rel => exact ⟨t + 1, _, by omega, by go_num, HR.out⟩
                                      case measure => simp [intOf]; omega
                                    · have hltt' : ¬ (t : Int) < (mB : Int) := by omega
                                      have hwx : ∃ z, z = wr := ⟨_, rfl⟩
                                      obtain ⟨w17, hz'⟩ := hwx
                                      subst hz'
                                      obtain ⟨hV, T1, S1, T2, T3, S3, T4, S4⟩ := HW2.out
                                      have Hw17 := Hid.mk (And.intro (hV.gro hGr (fun e => by (try simp only [yK, yB] at e); omega) (fun y h1 h2 e => by (try simp only [yK, yB] at e); omega) (fun i hi e => by have hL := HLen.out; (try simp only [yB] at e); omega) (fun i hi e => by have hL := HLen.out; (try simp only [yK] at e); omega)) (And.intro (T1.gro hGr (fun e => by (try simp only [yK] at e); omega)) (And.intro (S1.gro hGr (fun e => by (try simp only [yK, yB] at e); omega)) (And.intro (T2.gro hGr (fun e => by (try simp only [yB] at e); omega)) (And.intro (T3.gro hGr (fun e => by (try simp only [yK] at e); omega)) (And.intro (S3.gro hGr (fun e => by (try simp only [yK, yB] at e); omega)) (And.intro (T4.gro hGr (fun e => by (try simp only [yK] at e); omega)) (S4.gro hGr (fun e => by (try simp only [yK, yB] at e); omega)))))))))
                                      clear hV T1 S1 T2 T3 S3 T4 S4 hOr hGr hdd hlz HW2
                                      as_aux_lemma =>
                                        obtain ⟨hV, T1, S1, T2, T3, S3, T4, S4⟩ := Hw17.out
                                        have hsm := lsame_yes g1 b1 P1.length P1.length e1 P1 w17 (by omega) (by
                                          obtain ⟨a8, e8, s8⟩ := T1.sl
                                          have q8 : g1 = a8 := by injection e8
                                          subst q8
                                          exact s8.1) S1.1
                                        clear hV T1 S1 T2 T3 S3 T4 S4
                                        go_wp2_with fail
                                        refine hsm.mono ?_
                                        rintro e w18 ⟨rfl, hbl⟩
                                        obtain ⟨hV, T1, S1, T2, T3, S3, T4, S4⟩ := Hw17.out
                                        have GB := Gro.below hV.gr.lz hbl (fun _ => False)
                                        have Hw18 := Hid.mk (And.intro (hV.gro GB (fun h => h) (fun _ _ _ h => h) (fun _ _ h => h) (fun _ _ h => h)) (And.intro (T1.gro GB (fun h => h)) (And.intro (S1.gro GB (fun h => h)) (And.intro (T2.gro GB (fun h => h)) (And.intro (T3.gro GB (fun h => h)) (And.intro (S3.gro GB (fun h => h)) (And.intro (T4.gro GB (fun h => h)) (S4.gro GB (fun h => h)))))))))
                                        clear hV T1 S1 T2 T3 S3 T4 S4 hbl GB hsm Hw17
                                        as_aux_lemma =>
                                          obtain ⟨hV, T1, S1, T2, T3, S3, T4, S4⟩ := Hw18.out
                                          have hsm := lsame_yes g3 b3 P3.length P3.length e3 P3 w18 (by omega) (by
                                            obtain ⟨a8, e8, s8⟩ := T3.sl
                                            have q8 : g3 = a8 := by injection e8
                                            subst q8
                                            exact s8.1) S3.1
                                          clear hV T1 S1 T2 T3 S3 T4 S4
                                          go_wp2_with fail
                                          refine hsm.mono ?_
                                          rintro e w19 ⟨rfl, hbl⟩
                                          obtain ⟨hV, T1, S1, T2, T3, S3, T4, S4⟩ := Hw18.out
                                          have GB := Gro.below hV.gr.lz hbl (fun _ => False)
                                          have Hw19 := Hid.mk (And.intro (hV.gro GB (fun h => h) (fun _ _ _ h => h) (fun _ _ h => h) (fun _ _ h => h)) (And.intro (T1.gro GB (fun h => h)) (And.intro (S1.gro GB (fun h => h)) (And.intro (T2.gro GB (fun h => h)) (And.intro (T3.gro GB (fun h => h)) (And.intro (S3.gro GB (fun h => h)) (And.intro (T4.gro GB (fun h => h)) (S4.gro GB (fun h => h)))))))))
                                          clear hV T1 S1 T2 T3 S3 T4 S4 hbl GB hsm Hw18
                                          as_aux_lemma =>
                                            obtain ⟨hV, T1, S1, T2, T3, S3, T4, S4⟩ := Hw19.out
                                            have hsm := lsame_yes g4 b4 P4.length P4.length e4 P4 w19 (by omega) (by
                                              obtain ⟨a8, e8, s8⟩ := T4.sl
                                              have q8 : g4 = a8 := by injection e8
                                              subst q8
                                              exact s8.1) S4.1
                                            clear hV T1 S1 T2 T3 S3 T4 S4
                                            go_wp2_with fail
                                            refine hsm.mono ?_
                                            rintro e w20 ⟨rfl, hbl⟩
                                            obtain ⟨hV, T1, S1, T2, T3, S3, T4, S4⟩ := Hw19.out
                                            have GB := Gro.below hV.gr.lz hbl (fun _ => False)
                                            have Hw20 := Hid.mk (And.intro (hV.gro GB (fun h => h) (fun _ _ _ h => h) (fun _ _ h => h) (fun _ _ h => h)) (And.intro (T1.gro GB (fun h => h)) (And.intro (S1.gro GB (fun h => h)) (And.intro (T2.gro GB (fun h => h)) (And.intro (T3.gro GB (fun h => h)) (And.intro (S3.gro GB (fun h => h)) (And.intro (T4.gro GB (fun h => h)) (S4.gro GB (fun h => h)))))))))
                                            clear hV T1 S1 T2 T3 S3 T4 S4 hbl GB hsm Hw19
                                            as_aux_lemma =>
                                              obtain ⟨hV, T1, S1, T2, T3, S3, T4, S4⟩ := Hw20.out
                                              have hsm := still_any hV.bk hV.gr.lz (fun d hd => by have := HSm.out.1 d hd; omega) (by have := HLen.out; omega)
                                              clear hV T1 S1 T2 T3 S3 T4 S4
                                              go_wp2_with fail
                                              refine hsm.mono ?_
                                              rintro e w21 ⟨rfl, hbl⟩
                                              obtain ⟨hV, T1, S1, T2, T3, S3, T4, S4⟩ := Hw20.out
                                              have GB := Gro.below hV.gr.lz hbl (fun _ => False)
                                              have Hw21 := Hid.mk (And.intro (hV.gro GB (fun h => h) (fun _ _ _ h => h) (fun _ _ h => h) (fun _ _ h => h)) (And.intro (T1.gro GB (fun h => h)) (And.intro (S1.gro GB (fun h => h)) (And.intro (T2.gro GB (fun h => h)) (And.intro (T3.gro GB (fun h => h)) (And.intro (S3.gro GB (fun h => h)) (And.intro (T4.gro GB (fun h => h)) (S4.gro GB (fun h => h)))))))))
                                              clear hV T1 S1 T2 T3 S3 T4 S4 hbl GB hsm Hw20
                                              as_aux_lemma =>
                                                obtain ⟨hV, T1, S1, T2, T3, S3, T4, S4⟩ := Hw21.out
                                                have hsm := still_any hV.al.bk hV.gr.lz (fun d hd => by have := HSm.out.2.2 d hd; omega) (by have := HLen.out; omega)
                                                clear hV T1 S1 T2 T3 S3 T4 S4
                                                go_wp2_with fail
                                                refine hsm.mono ?_
                                                rintro e w22 ⟨rfl, hbl⟩
                                                obtain ⟨hV, T1, S1, T2, T3, S3, T4, S4⟩ := Hw21.out
                                                have GB := Gro.below hV.gr.lz hbl (fun _ => False)
                                                have Hw22 := Hid.mk (And.intro (hV.gro GB (fun h => h) (fun _ _ _ h => h) (fun _ _ h => h) (fun _ _ h => h)) (And.intro (T1.gro GB (fun h => h)) (And.intro (S1.gro GB (fun h => h)) (And.intro (T2.gro GB (fun h => h)) (And.intro (T3.gro GB (fun h => h)) (And.intro (S3.gro GB (fun h => h)) (And.intro (T4.gro GB (fun h => h)) (S4.gro GB (fun h => h)))))))))
                                                clear hV T1 S1 T2 T3 S3 T4 S4 hbl GB hsm Hw21
                                                as_aux_lemma =>
                                                  obtain ⟨hV, T1, S1, T2, T3, S3, T4, S4⟩ := Hw22.out
                                                  obtain ⟨g5, c5, w23, r5, L5, G5, X5⟩ := hV.pl.push hV.gr.lz (fun i e => by omega) (by have := HLen.out; rw [List.length_nil]; omega) (.slice b1 P1.length e1) rfl
                                                  simp only [List.length_nil, Nat.add_zero, List.nil_append] at r5 X5
                                                  rw [HLen.out.2.1] at r5 X5
                                                  have hV5 : Lv w w23 L5 (.slice ba (4 * k) bc) (.slice (some ⟨g5, 0, none⟩) (k + 1) c5) (.slice aa (3 * k) ac) ls (ps ++ [P1]) ms := ⟨hV.bk.gro G5 (fun e => by (try simp only [yK, yB] at e); omega) (fun i hi e => by (try simp only [yB] at e); omega) (fun e => by (try simp only [yK, yB] at e); omega), LX.close X5 (S1.gro G5 (fun e => by (try simp only [yK, yB] at e); omega)), hV.al.gro G5 (fun e => by (try simp only [yK, yB] at e); omega) (fun i hi e => by (try simp only [yK] at e); omega) (fun e => by (try simp only [yK, yB] at e); omega), hV.gr.join G5 (fun _ h => h) (fun y e => by omega)⟩
                                                  have HA5 := Hid.mk r5
                                                  have H23 := Hid.mk (And.intro hV5 (And.intro (T1.gro G5 (fun e => by (try simp only [yK] at e); omega)) (And.intro (S1.gro G5 (fun e => by (try simp only [yK, yB] at e); omega)) (And.intro (T2.gro G5 (fun e => by (try simp only [yB] at e); omega)) (And.intro (T3.gro G5 (fun e => by (try simp only [yK] at e); omega)) (And.intro (S3.gro G5 (fun e => by (try simp only [yK, yB] at e); omega)) (And.intro (T4.gro G5 (fun e => by (try simp only [yK] at e); omega)) (S4.gro G5 (fun e => by (try simp only [yK, yB] at e); omega)))))))))
                                                  clear hV T1 S1 T2 T3 S3 T4 S4 r5 G5 X5 hV5 Hw22
                                                  go_upto_region 42 with (at_builtin; refine swList_append_run rfl _ _ 24 rfl (.slice pa k pc) (.slice (some ⟨w22.heap.size, 0, none⟩) 1 1) _ rfl rfl HA5.out ?_)
                                                  clear HA5
                                                  as_aux_lemma =>
                                                    obtain ⟨hV, T1, S1, T2, T3, S3, T4, S4⟩ := H23.out
                                                    obtain ⟨g6, c6, w24, r6, L6, G6, X6⟩ := hV.al.push3 (b1 := b1) (d1 := e1) (b2 := b3) (d2 := e3) (b3 := b4) (d3 := e4) hV.gr.lz (by rw [HLen.out.2.2]; exact T1) S1 (by rw [HLen.out.2.2]; exact T3) S3 (by rw [HLen.out.2.2]; exact T4) S4 (by have := HLen.out; omega)
                                                    rw [HLen.out.2.2] at r6 X6
                                                    have hV6 : Lv w w24 L6 (.slice ba (4 * k) bc) (.slice (some ⟨g5, 0, none⟩) (k + 1) c5) (.slice (some ⟨g6, 0, none⟩) (3 * k + 3) c6) ls (ps ++ [P1]) (ms ++ [P1, P3, P4]) := ⟨hV.bk.gro G6 (fun e => by (try simp only [yK, yB] at e); omega) (fun i hi e => by (try simp only [yB] at e); omega) (fun e => by (try simp only [yK, yB] at e); omega), hV.pl.gro G6 (fun e => by (try simp only [yK, yB] at e); omega) (fun _ _ => (fun e => by (try simp only [yK, yB] at e); omega)), X6, hV.gr.join G6 (fun _ h => h) (fun y e => by omega)⟩
                                                    have T26 := T2.gro G6 (fun e => by (try simp only [yB] at e); omega)
                                                    have HA6 := Hid.mk r6
                                                    have H24 := Hid.mk (And.intro hV6 T26)
                                                    have hkp := kept_any hV6.bk (u := .slice g2 P1.length P1.length) (d := P1) (by rw [HLen.out.1]; exact T26) hV6.gr.lz (4 * k + 3) (by omega) (by omega) (by have := HLen.out; omega)
                                                    have em : ((4 * k + 3 : Nat) : Int) = 4 * (k : Int) + 3 := by omega
                                                    rw [em] at hkp
                                                    clear hV T1 S1 T2 T3 S3 T4 S4 r6 G6 X6 hV6 T26 em H23
                                                    obtain ⟨i0, hi, hz0, hz1, hz2⟩ := info_parts infoH
                                                    go_upto_region 43 with (first | refine wpList_build3 rfl 23 39 _ _ _ rfl (.slice g1 P1.length P1.length) (.slice b1 P1.length e1) (.slice g3 P3.length P3.length) (.slice b3 P3.length e3) (.slice g4 P4.length P4.length) (.slice b4 P4.length e4) rfl rfl rfl Try.underlying23 hi hz0 hz1 ?_ | (at_builtin; refine swList_append_run rfl _ _ 23 rfl (.slice aa (3 * k) ac) (.slice (some ⟨w23.heap.size, 0, none⟩) 3 3) _ rfl rfl HA6.out ?_))
                                                    clear HA6 hi hz0 hz1 hz2
                                                    as_aux_lemma =>
                                                      go_wp2_with fail
                                                      refine hkp.mono ?_
                                                      rintro e w25 ⟨vb', L7, rfl, G7, B7⟩
                                                      obtain ⟨hV6, _⟩ := H24.out
                                                      obtain ⟨b7, c7, hvb⟩ := B7.form
                                                      have hll : (ls ++ keptL (4 * k + 3) P1.length).length = 4 * k + 4 := by rw [List.length_append, keptL_len, HLen.out.1]
                                                      rw [hll] at hvb
                                                      subst hvb
                                                      have hV7 : Lv w w25 L7 (.slice b7 (4 * k + 4) c7) (.slice (some ⟨g5, 0, none⟩) (k + 1) c5) (.slice (some ⟨g6, 0, none⟩) (3 * k + 3) c6) (ls ++ keptL (4 * k + 3) P1.length) (ps ++ [P1]) (ms ++ [P1, P3, P4]) := ⟨B7, hV6.pl.gro G7 (kX_not (by omega) (by omega)) (fun _ _ => kX_not (by omega) (by omega)), hV6.al.gro G7 (kX_not (by omega) (by omega)) (fun i _ => kX_yK _ i) (kX_not (by omega) (by omega)), hV6.gr.join G7 (fun _ h => h) (fun y hy e => kX_not (by omega) (by omega) (e ▸ hy))⟩
                                                      have H25 := Hid.mk hV7
                                                      have HSm2 : Hid ((∀ d ∈ ls ++ keptL (4 * k + 3) P1.length, d.length ≤ 3000) ∧ (∀ d ∈ ps ++ [P1], d.length ≤ 512 ∧ Bytes d) ∧ (∀ d ∈ ms ++ [P1, P3, P4], d.length ≤ 512)) := by
                                                        refine ⟨fun d hd => ?_, fun d hd => ?_, fun d hd => ?_⟩
                                                        · rcases List.mem_append.1 hd with h | h
                                                          · exact HSm.out.1 d h
                                                          · exact keptL_small (by omega) d h
                                                        · rcases List.mem_append.1 hd with h | h
                                                          · exact HSm.out.2.1 d h
                                                          · rw [List.mem_singleton.1 h]
                                                            exact ⟨n15, HP1.out.2⟩
                                                        · rcases List.mem_append.1 hd with h | h
                                                          · exact HSm.out.2.2 d h
                                                          · simp only [List.mem_cons, List.mem_nil_iff, or_false] at h
                                                            rcases h with rfl | rfl | rfl
                                                            · exact n15
                                                            · exact n35
                                                            · exact n45
                                                      have hs1 := still_any hV7.bk hV7.gr.lz (fun d hd => by have := HSm2.out.1 d hd; omega) (by rw [hll]; omega)
                                                      clear hV6 G7 B7 hV7 hkp H24
                                                      go_wp2_with fail
                                                      refine hs1.mono ?_
                                                      rintro e w26 ⟨rfl, hbl⟩
                                                      have hV8 := H25.out.later hbl
                                                      have hml : (ms ++ [P1, P3, P4]).length = 3 * k + 3 := by rw [List.length_append, HLen.out.2.2]; rfl
                                                      have hs2 := still_any hV8.al.bk hV8.gr.lz (fun d hd => by have := HSm2.out.2.2 d hd; omega) (by rw [hml]; omega)
                                                      have H26 := Hid.mk hV8
                                                      clear hV8 hbl hs1 H25
                                                      go_wp2_with fail
                                                      refine hs2.mono ?_
                                                      rintro e w27 ⟨rfl, hbl⟩
                                                      have H27 := Hid.mk (H26.out.later hbl)
                                                      have HLL : Hid ((ls ++ keptL (4 * k + 3) P1.length).length = 4 * (k + 1) ∧ (ps ++ [P1]).length = k + 1 ∧ (ms ++ [P1, P3, P4]).length = 3 * (k + 1)) := ⟨by rw [hll]; omega, by rw [List.length_append, HLen.out.2.1]; rfl, by rw [hml]; omega⟩
                                                      clear hbl hs2 H26 hll hml
                                                      go_wp2
                                                      refine Handed.intro (n - (k + 1)) (by omega) (HJ.out _ _ _ ⟨rfl, rfl, rfl, k + 1, L7, _, _, _, rfl, by omega, ?_, HLL.out.1, HLL.out.2.1, HLL.out.2.2, HSm2.out.1, HSm2.out.2.1, HSm2.out.2.2, H27.out⟩)
                                                      show Value.int .i64 _ = _
                                                      go_num
    · have hkn : n = k := by omega
      subst hkn
      have hlt' : ¬ (n : Int) < (n : Int) := by omega
      have H1 := Hid.mk hV
      clear hV HJ hKk hlt hk
      go_wp2
      go_loopw [32, 33] (fun lu i wx => ∃ (t : Nat) (Lx : Nat → Nat), t ≤ 3 * n ∧ i = .int .i64 (t : Int) ∧ LT wx Lx 37 lu t (fun j => ms.getD j []) ∧ Lv w wx Lx (.slice ba (4 * n) bc) (.slice pa n pc) (.slice aa (3 * n) ac) ls ps ms) (fun _ i _ => 3 * n - (intOf i).toNat)
      case atStart => exact ⟨0, L, Nat.zero_le _, rfl, LT.nil _ _ _ _, H1.out⟩
      case round =>
        clear H1
        obtain ⟨t, Lx, ht, rfl, hT, hV⟩ := hrel
        obtain ⟨ua, uc, rfl⟩ := hT.form
        by_cases hltt : t < 3 * n
        · have htm : t < ms.length := by have := HLen.out; omega
          obtain ⟨g9, c9, u9, e9, f9, T9⟩ := hV.al.at htm
          have ex : aa = some ⟨g9, 0, none⟩ := by injection e9
          subst ex
          have hgd : ms.getD t [] = ms[t] := by simp [List.getD, htm]
          obtain ⟨x9, hu9, _⟩ := T9.sl
          subst hu9
          obtain ⟨g8, c8, w8, r8, L8, G8, X8⟩ := hT.push hV.gr.lz (by omega) (u := .slice x9 (ms[t]).length (ms[t]).length) (by rw [hgd]; exact T9)
          have HR := Hid.mk (And.intro X8 (hV.gro G8 (fun e => by (try simp only [yK, yB] at e); omega) (fun y h1 h2 e => by (try simp only [yK, yB] at e); omega) (fun i hi e => by have hL := HLen.out; (try simp only [yB] at e); omega) (fun i hi e => by have hL := HLen.out; (try simp only [yK] at e); omega)))
          have HA8 := Hid.mk r8
          have hltt' : (t : Int) < 3 * (n : Int) := by omega
          have htt0 : (0 : Int) ≤ (t : Int) := by omega
          clear hT hV e9 T9 hgd r8 G8 X8
          generalize (ms[t]).length = x8 at *
          go_wp2_with (at_builtin; refine swList_append_run rfl _ _ 24 rfl (.slice ua t uc) (.slice (some ⟨wr.heap.size, 0, none⟩) 1 1) _ rfl rfl HA8.out ?_)
          go_roundw
          case rel => exact ⟨t + 1, L8, by omega, by go_num, HR.out⟩
          case measure => simp [intOf]; omega
        · obtain rfl : t = 3 * n := by omega
          have hltt' : ¬ ((3 * n : Nat) : Int) < 3 * (n : Int) := by omega
          have hga := grownAll_any hT hV.gr.lz (fun i => by
            by_cases e : i < ms.length
            · have := HSm.out.2.2 _ (List.getElem_mem e)
              simp [List.getD, e]
              omega
            · simp [List.getD, Nat.le_of_not_lt e]) (by omega)
          have H2 := Hid.mk hV
          clear hT hV
          go_wp2_with fail
          refine hga.mono ?_
          rintro e w9 ⟨rfl, L9, G9⟩
          have hV := H2.out
          have B9 := hV.bk.gro G9 (gX_not (by omega)) (fun i _ => gX_yB i) (gX_not (by omega))
          have Q9 := hV.gr.join G9 (Z := fun y => y ≠ 0) (fun _ h => h) (fun y hy e => gX_not (by omega) (e ▸ hy))
          have hst := still_any B9 Q9.lz (fun d hd => by have := HSm.out.1 d hd; omega) (by have := HLen.out; omega)
          have HB9 : Hid (Below w.heap.size w w9) := Q9.belowB (Nat.le_refl _) (fun _ hk => absurd rfl hk) (fun h => h rfl)
          clear hV B9 Q9 G9 hga H2
          go_wp2_with fail
          refine hst.mono ?_
          rintro e w10 ⟨rfl, hbl⟩
          have HF := Hid.mk (HB9.out.trans (hbl.mono HB9.out.size))
          clear hst hbl HB9
          go_wp2
          go_ret
          exact ⟨rfl, HF.out⟩
end Go.Proofs.Ytohgdjlgbnpobaa
end
