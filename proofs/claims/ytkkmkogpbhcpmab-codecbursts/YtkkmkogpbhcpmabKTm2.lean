import Derived.Test.YtkkmkogpbhcpmabKTm1
namespace Go.Proofs.Ytkkmkogpbhcpmab
open Go.RowKit

/-- A node is made to fit: its box, and the answer's. -/
structure TAt (w wr : World) (cs : Array Value) : Prop where
  below : Below w.heap.size w wr
  par : wr.heap[w.heap.size]? = some (.cells cs 27 (0, 0))
  res : wr.heap[w.heap.size + 1]? = some (.cells (ndc 0 0 0 0 0 (fun _ => 0)) 27 (0, 0))
theorem TAt.put {w wr : World} {cs : Array Value} (h : TAt w wr cs) (i : Nat) (v : Value) : TAt w (wr.setCell ⟨w.heap.size, i, none⟩ v) (cs.setIfInBounds i v) :=
  ⟨below_put h.below (Nat.le_refl _) h.below.size v, heap_setCell_same _ _ _ _ _ _ h.par, (Below.heap_setCell _ _ _ _ (by simp)).trans h.res⟩
def upd (d : Nat → Int) (j : Nat) (v : Int) : Nat → Int := fun i => if i = j then v else d i
theorem ndc_at (k l p s o : Int) (d : Nat → Int) (j : Nat) (hj : j < 12) : (ndc k l p s o d)[5 + j]? = some (.int .i64 (d j)) := by
  match j, hj with
  | 0, _ => rfl
  | 1, _ => rfl
  | 2, _ => rfl
  | 3, _ => rfl
  | 4, _ => rfl
  | 5, _ => rfl
  | 6, _ => rfl
  | 7, _ => rfl
  | 8, _ => rfl
  | 9, _ => rfl
  | 10, _ => rfl
  | 11, _ => rfl
theorem ndc_upd (k l p s o : Int) (d : Nat → Int) (j : Nat) (hj : j < 12) (v : Int) : (ndc k l p s o d).setIfInBounds (5 + j) (.int .i64 v) = ndc k l p s o (upd d j v) := by
  match j, hj with
  | 0, _ => simp [upd]
  | 1, _ => simp [upd]
  | 2, _ => simp [upd]
  | 3, _ => simp [upd]
  | 4, _ => simp [upd]
  | 5, _ => simp [upd]
  | 6, _ => simp [upd]
  | 7, _ => simp [upd]
  | 8, _ => simp [upd]
  | 9, _ => simp [upd]
  | 10, _ => simp [upd]
  | 11, _ => simp [upd]
theorem upd_same (d : Nat → Int) (j : Nat) (v : Int) : upd d j v j = v := by simp [upd]
theorem upd_ne (d : Nat → Int) {j i : Nat} (v : Int) (h : i ≠ j) : upd d j v i = d i := by simp [upd, h]

set_option maxRecDepth 20000 in
set_option maxHeartbeats 8000000 in
theorem tame_any (x : NV) (w : World) :
    Calls Try.prog 9 #[x.v] w fun e w' => ∃ y : NV, e = .returned y.v ∧ NFits y.k y.l y.p y.s y.o y.d ∧ Below w.heap.size w w' := by
  obtain ⟨k, l, p, s, o, d⟩ := x
  obtain ⟨w0, hw0⟩ : ∃ w0, w0 = (w.alloc (.cells (ndc k l p s o d) 27)).alloc (.cells (ndc 0 0 0 0 0 (fun _ => 0)) 27) := ⟨_, rfl⟩
  have T0 : TAt w w0 (ndc k l p s o d) := by rw [hw0]; exact ⟨below_two w _ _, heap_alloc2_old _ _ _, heap_alloc2_new _ _ _⟩
  have b0 := bring_any k 1 3 w0 (by omega) (by omega)
  have HT0 := Hid.mk T0
  clear T0
  go_enter Try.func9, Try.ntmps9
  go_wp2_with fail
  rw [← hw0]
  clear hw0
  refine b0.mono ?_
  rintro e wx ⟨⟨K, rfl, K1, K2⟩, hw⟩
  have hw' := hw.symm
  subst hw'
  clear hw b0
  have c1 := cell_of_block HT0.out.par (j := 0) rfl
  have f1 := frozen_of_block HT0.out.par 0
  have n1 := cell_of_block HT0.out.par (j := 1) (u := .int .i64 l) rfl
  obtain ⟨w1, hw1⟩ : ∃ w1, w1 = w0.setCell ⟨w.heap.size, 0, none⟩ (.int .i64 K) := ⟨_, rfl⟩
  have HT1 : Hid (TAt w w1 (ndc K l p s o d)) := by
    show TAt w w1 (ndc K l p s o d)
    rw [hw1]
    exact HT0.out.put 0 (.int .i64 K)
  have b1 := bring_any l 0 64 w1 (by omega) (by omega)
  clear HT0
  go_wp2_with fail
  rw [← hw1]
  clear hw1 c1 f1 n1
  refine b1.mono ?_
  rintro e wx ⟨⟨L, rfl, L1, L2⟩, hw⟩
  have hw' := hw.symm
  subst hw'
  clear hw b1
  have c2 := cell_of_block HT1.out.par (j := 1) rfl
  have f2 := frozen_of_block HT1.out.par 1
  have n2 := cell_of_block HT1.out.par (j := 2) (u := .int .i64 p) rfl
  obtain ⟨w2, hw2⟩ : ∃ w2, w2 = w1.setCell ⟨w.heap.size, 1, none⟩ (.int .i64 L) := ⟨_, rfl⟩
  have HT2 : Hid (TAt w w2 (ndc K L p s o d)) := by
    show TAt w w2 (ndc K L p s o d)
    rw [hw2]
    exact HT1.out.put 1 (.int .i64 L)
  have b2 := bring_any p 1 1024 w2 (by omega) (by omega)
  clear HT1
  go_wp2_with fail
  rw [← hw2]
  clear hw2 c2 f2 n2
  refine b2.mono ?_
  rintro e wx ⟨⟨P, rfl, P1, P2⟩, hw⟩
  have hw' := hw.symm
  subst hw'
  clear hw b2
  have c3 := cell_of_block HT2.out.par (j := 2) rfl
  have f3 := frozen_of_block HT2.out.par 2
  have n3 := cell_of_block HT2.out.par (j := 0) (u := .int .i64 K) rfl
  obtain ⟨w3, hw3⟩ : ∃ w3, w3 = w2.setCell ⟨w.heap.size, 2, none⟩ (.int .i64 P) := ⟨_, rfl⟩
  have HT3 : Hid (TAt w w3 (ndc K L P s o d)) := by
    show TAt w w3 (ndc K L P s o d)
    rw [hw3]
    exact HT2.out.put 2 (.int .i64 P)
  by_cases hk2 : K = 2
  · have hkb : (K != 2) = false := by rw [hk2]; rfl
    have HK2 := Hid.mk hk2
    clear hk2
    have m3 := cell_of_block HT3.out.par (j := 3) (u := .int .i64 s) rfl
    rw [hw3] at m3
    have b3 := bring_any s 0 8459264 w3 (by omega) (by omega)
    clear HT2
    go_wp2_with fail
    rw [← hw3]
    clear hw3 c3 f3 n3 m3 hkb
    refine b3.mono ?_
    rintro e wx ⟨⟨S, rfl, S1, S2⟩, hw⟩
    have hw' := hw.symm
    subst hw'
    clear hw b3
    have c4 := cell_of_block HT3.out.par (j := 3) rfl
    have f4 := frozen_of_block HT3.out.par 3
    have n4 := cell_of_block HT3.out.par (j := 4) (u := .int .i64 o) rfl
    obtain ⟨w4, hw4⟩ : ∃ w4, w4 = w3.setCell ⟨w.heap.size, 3, none⟩ (.int .i64 S) := ⟨_, rfl⟩
    have HT4 : Hid (TAt w w4 (ndc K L P S o d)) := by
      show TAt w w4 (ndc K L P S o d)
      rw [hw4]
      exact HT3.out.put 3 (.int .i64 S)
    have b4 := bring_any o 0 2048 w4 (by omega) (by omega)
    clear HT3
    go_wp2_with fail
    rw [← hw4]
    clear hw4 c4 f4 n4
    refine b4.mono ?_
    rintro e wx ⟨⟨O, rfl, O1, O2⟩, hw⟩
    have hw' := hw.symm
    subst hw'
    clear hw b4
    have c5 := cell_of_block HT4.out.par (j := 4) rfl
    have f5 := frozen_of_block HT4.out.par 4
    have HT5 : Hid (TAt w (w4.setCell ⟨w.heap.size, 4, none⟩ (.int .i64 O)) (ndc K L P S O d)) := HT4.out.put 4 (.int .i64 O)
    clear HT4
    go_wp2_with fail
    clear c5 f5
    go_loopw [3] (fun i wr => ∃ j : Nat, j ≤ 10 ∧ i = .int .i64 j ∧ ∃ d' : Nat → Int, TAt w wr (ndc K L P S O d') ∧ ∀ q, q < j → PF (d' q)) (fun i _ => 10 - (intOf i).toNat)
    case atStart => exact ⟨0, Nat.zero_le _, rfl, d, HT5.out, fun q hq => by omega⟩
    case round =>
      clear HT5
      obtain ⟨j, hj, rfl, d', hT, hall⟩ := hrel
      by_cases hlt : j < 10
      · have hlt' : (j : Int) < 10 := by omega
        have cj := cell_of_block hT.par (ndc_at K L P S O d' j (by omega))
        have fj := frozen_of_block hT.par (5 + j)
        have bj := bring_any (d' j) 0 2047 wr (by omega) (by omega)
        have HTj := Hid.mk hT
        have HAj := Hid.mk hall
        clear hT hall
        go_wp2_with fail
        refine bj.mono ?_
        rintro e wx ⟨⟨v, rfl, v1, v2⟩, hw⟩
        have hw' := hw.symm
        subst hw'
        clear hw bj
        have HTn : Hid (TAt w (wr.setCell ⟨w.heap.size, 5 + j, none⟩ (.int .i64 v)) (ndc K L P S O (upd d' j v))) := by
          show TAt w (wr.setCell ⟨w.heap.size, 5 + j, none⟩ (.int .i64 v)) (ndc K L P S O (upd d' j v))
          rw [← ndc_upd K L P S O d' j (by omega) v]
          exact HTj.out.put (5 + j) (.int .i64 v)
        have HAn : Hid (∀ q, q < j + 1 → PF (upd d' j v q)) := fun q hq => by
          by_cases e : q = j
          · rw [e, upd_same, pf_iff]; omega
          · rw [upd_ne d' v e]; exact HAj.out q (by omega)
        clear HTj HAj
        go_wp2
        go_roundw
        case rel => exact ⟨j + 1, by omega, by go_num, _, HTn.out, HAn.out⟩
        case measure => simp [intOf]; omega
      · have hlt' : ¬ (j : Int) < 10 := by omega
        have hj10 : j = 10 := by omega
        subst hj10
        have HT5 := Hid.mk hT
        have HA := Hid.mk hall
        have n10 := cell_of_block hT.par (j := 15) (u := .int .i64 (d' 10)) rfl
        have b5 := bring_any (d' 10) 0 2047 wr (by omega) (by omega)
        clear hT hall
        go_wp2_with fail
        clear n10
        refine b5.mono ?_
        rintro e wx ⟨⟨v, rfl, v1, v2⟩, hw⟩
        have hw' := hw.symm
        subst hw'
        clear hw b5
        have c6 := cell_of_block HT5.out.par (j := 15) rfl
        have f6 := frozen_of_block HT5.out.par 15
        have n6 := cell_of_block HT5.out.par (j := 16) (u := .int .i64 (d' 11)) rfl
        obtain ⟨w6, hw6⟩ : ∃ w6, w6 = wr.setCell ⟨w.heap.size, 15, none⟩ (.int .i64 v) := ⟨_, rfl⟩
        have HT6 : Hid (TAt w w6 (ndc K L P S O (upd d' 10 v))) := by
          show TAt w w6 (ndc K L P S O (upd d' 10 v))
          rw [hw6, ← ndc_upd K L P S O d' 10 (by omega) v]
          exact HT5.out.put 15 (.int .i64 v)
        have b6 := bring_any (d' 11) 0 2047 w6 (by omega) (by omega)
        clear HT5
        go_wp2_with fail
        rw [← hw6]
        clear hw6 c6 f6 n6
        refine b6.mono ?_
        rintro e wx ⟨⟨u, rfl, u1, u2⟩, hw⟩
        have hw' := hw.symm
        subst hw'
        clear hw b6
        have c7 := cell_of_block HT6.out.par (j := 16) rfl
        have f7 := frozen_of_block HT6.out.par 16
        obtain ⟨D, hD⟩ : ∃ D, D = upd (upd d' 10 v) 11 u := ⟨_, rfl⟩
        obtain ⟨w7, hw7⟩ : ∃ w7, w7 = w6.setCell ⟨w.heap.size, 16, none⟩ (.int .i64 u) := ⟨_, rfl⟩
        have HT7 : Hid (TAt w w7 (ndc K L P S O D)) := by
          show TAt w w7 (ndc K L P S O D)
          rw [hw7, hD, ← ndc_upd K L P S O (upd d' 10 v) 11 (by omega) u]
          exact HT6.out.put 16 (.int .i64 u)
        have HFit : Hid (NFits K L P S O D) := by
          refine ⟨⟨K1, K2⟩, ⟨L1, L2⟩, .inl ⟨HK2.out, P1, P2⟩, ⟨S1, S2⟩, ⟨O1, O2⟩, fun q hq => ?_⟩
          rw [hD]
          by_cases e : q = 11
          · rw [e, upd_same, pf_iff]; exact ⟨u1, by omega⟩
          · rw [upd_ne _ u e]
            by_cases e' : q = 10
            · rw [e', upd_same, pf_iff]; exact ⟨v1, by omega⟩
            · rw [upd_ne _ v e']; exact HA.out q (by omega)
        obtain ⟨F, hF⟩ : ∃ F, F = ndl K L P S O D := ⟨_, rfl⟩
        have hlen : F.length = 17 := by rw [hF]; rfl
        have hth : w7.there (w.heap.size + 1) 0 F.length := by rw [hlen]; exact there_node HT7.out.res rfl
        have hone : F.toArray.all (·.oneCell') = true := by rw [hF]; exact all_oneCell_toArray (nl_one _ _ _ _ _ _)
        have hinf : (Try.prog.info? 27).map (·.size) = some F.length := by rw [hlen]; exact infoNode
        have hra : w7.rangeAt w.heap.size 0 F := by rw [hF]; exact range_of HT7.out.par
        have hrs := Hid.mk (World.rangeAt_setCells_same w7 (w.heap.size + 1) 0 F hth)
        have HBe : Hid (Below w.heap.size w (w7.setCells (w.heap.size + 1) 0 F)) := HT7.out.below.trans ((Keeps.setCells (F := fun j => j = w.heap.size + 1) rfl F 0 w7).below (fun j hj => by omega) HT7.out.below.size)
        have HV : Hid (nd K L P S O D = .agg F.toArray) := by show nd K L P S O D = .agg F.toArray; rw [hF]
        rw [hw7] at hra hth
        have Hra := Hid.mk hra
        clear hF hlen hD HT7 HT6 hra HA
        go_wp2_with (first | refine wpList_load_mid rfl 27 _ rfl w.heap.size 0 rfl F _ Hra.out Try.underlying27 rfl hinf ?_ | refine wpList_store_mid rfl 27 _ _ rfl (w.heap.size + 1) 0 F.toArray rfl rfl ?h1 ?h2 hone ?_)
        case h1 => simpa using hth
        case h2 => simpa using hinf
        rw [← hw7]
        exact bodyPost_ret (results_cell_mid (P := Try.prog) rfl _ _ (w.heap.size + 1) F _ rfl hrs.out Try.underlying27 rfl hinf) rfl ⟨⟨K, L, P, S, O, D⟩, by rw [← HV.out], HFit.out, HBe.out⟩
  · have hkb : (K != 2) = true := by rw [bne_iff_ne]; exact hk2
    have HK2 := Hid.mk hk2
    clear hk2
    have m3 := cell_of_block HT3.out.par (j := 3) (u := .int .i64 s) rfl
    rw [hw3] at m3
    obtain ⟨w8, hw8⟩ : ∃ w8, w8 = w3.setCell ⟨w.heap.size, 2, none⟩ (.int .i64 0) := ⟨_, rfl⟩
    have HT8 : Hid (TAt w w8 (ndc K L 0 s o d)) := by
      show TAt w w8 (ndc K L 0 s o d)
      rw [hw8]
      exact HT3.out.put 2 (.int .i64 0)
    have b8 := bring_any s 0 8459264 w8 (by omega) (by omega)
    rw [hw3] at hw8
    clear HT2 HT3 hw3
    go_wp2_with fail
    rw [← hw8]
    clear hw8 c3 f3 n3 m3 hkb
    refine b8.mono ?_
    rintro e wx ⟨⟨S, rfl, S1, S2⟩, hw⟩
    have hw' := hw.symm
    subst hw'
    clear hw b8
    have c9 := cell_of_block HT8.out.par (j := 3) rfl
    have f9 := frozen_of_block HT8.out.par 3
    have n9 := cell_of_block HT8.out.par (j := 4) (u := .int .i64 o) rfl
    obtain ⟨w9, hw9⟩ : ∃ w9, w9 = w8.setCell ⟨w.heap.size, 3, none⟩ (.int .i64 S) := ⟨_, rfl⟩
    have HT9 : Hid (TAt w w9 (ndc K L 0 S o d)) := by
      show TAt w w9 (ndc K L 0 S o d)
      rw [hw9]
      exact HT8.out.put 3 (.int .i64 S)
    have b9 := bring_any o 0 2048 w9 (by omega) (by omega)
    clear HT8
    go_wp2_with fail
    rw [← hw9]
    clear hw9 c9 f9 n9
    refine b9.mono ?_
    rintro e wx ⟨⟨O, rfl, O1, O2⟩, hw⟩
    have hw' := hw.symm
    subst hw'
    clear hw b9
    have c10 := cell_of_block HT9.out.par (j := 4) rfl
    have f10 := frozen_of_block HT9.out.par 4
    have HT10 : Hid (TAt w (w9.setCell ⟨w.heap.size, 4, none⟩ (.int .i64 O)) (ndc K L 0 S O d)) := HT9.out.put 4 (.int .i64 O)
    clear HT9
    go_wp2_with fail
    clear c10 f10
    go_loopw [3] (fun i wr => ∃ j : Nat, j ≤ 10 ∧ i = .int .i64 j ∧ ∃ d' : Nat → Int, TAt w wr (ndc K L 0 S O d') ∧ ∀ q, q < j → PF (d' q)) (fun i _ => 10 - (intOf i).toNat)
    case atStart => exact ⟨0, Nat.zero_le _, rfl, d, HT10.out, fun q hq => by omega⟩
    case round =>
      clear HT10
      obtain ⟨j, hj, rfl, d', hT, hall⟩ := hrel
      by_cases hlt : j < 10
      · have hlt' : (j : Int) < 10 := by omega
        have cj := cell_of_block hT.par (ndc_at K L 0 S O d' j (by omega))
        have fj := frozen_of_block hT.par (5 + j)
        have bj := bring_any (d' j) 0 2047 wr (by omega) (by omega)
        have HTj := Hid.mk hT
        have HAj := Hid.mk hall
        clear hT hall
        go_wp2_with fail
        refine bj.mono ?_
        rintro e wx ⟨⟨v, rfl, v1, v2⟩, hw⟩
        have hw' := hw.symm
        subst hw'
        clear hw bj
        have HTn : Hid (TAt w (wr.setCell ⟨w.heap.size, 5 + j, none⟩ (.int .i64 v)) (ndc K L 0 S O (upd d' j v))) := by
          show TAt w (wr.setCell ⟨w.heap.size, 5 + j, none⟩ (.int .i64 v)) (ndc K L 0 S O (upd d' j v))
          rw [← ndc_upd K L 0 S O d' j (by omega) v]
          exact HTj.out.put (5 + j) (.int .i64 v)
        have HAn : Hid (∀ q, q < j + 1 → PF (upd d' j v q)) := fun q hq => by
          by_cases e : q = j
          · rw [e, upd_same, pf_iff]; omega
          · rw [upd_ne d' v e]; exact HAj.out q (by omega)
        clear HTj HAj
        go_wp2
        go_roundw
        case rel => exact ⟨j + 1, by omega, by go_num, _, HTn.out, HAn.out⟩
        case measure => simp [intOf]; omega
      · have hlt' : ¬ (j : Int) < 10 := by omega
        have hj10 : j = 10 := by omega
        subst hj10
        have HT10 := Hid.mk hT
        have HA := Hid.mk hall
        have n10 := cell_of_block hT.par (j := 15) (u := .int .i64 (d' 10)) rfl
        have b10 := bring_any (d' 10) 0 2047 wr (by omega) (by omega)
        clear hT hall
        go_wp2_with fail
        clear n10
        refine b10.mono ?_
        rintro e wx ⟨⟨v, rfl, v1, v2⟩, hw⟩
        have hw' := hw.symm
        subst hw'
        clear hw b10
        have c11 := cell_of_block HT10.out.par (j := 15) rfl
        have f11 := frozen_of_block HT10.out.par 15
        have n11 := cell_of_block HT10.out.par (j := 16) (u := .int .i64 (d' 11)) rfl
        obtain ⟨w11, hw11⟩ : ∃ w11, w11 = wr.setCell ⟨w.heap.size, 15, none⟩ (.int .i64 v) := ⟨_, rfl⟩
        have HT11 : Hid (TAt w w11 (ndc K L 0 S O (upd d' 10 v))) := by
          show TAt w w11 (ndc K L 0 S O (upd d' 10 v))
          rw [hw11, ← ndc_upd K L 0 S O d' 10 (by omega) v]
          exact HT10.out.put 15 (.int .i64 v)
        have b11 := bring_any (d' 11) 0 2047 w11 (by omega) (by omega)
        clear HT10
        go_wp2_with fail
        rw [← hw11]
        clear hw11 c11 f11 n11
        refine b11.mono ?_
        rintro e wx ⟨⟨u, rfl, u1, u2⟩, hw⟩
        have hw' := hw.symm
        subst hw'
        clear hw b11
        have c12 := cell_of_block HT11.out.par (j := 16) rfl
        have f12 := frozen_of_block HT11.out.par 16
        obtain ⟨D, hD⟩ : ∃ D, D = upd (upd d' 10 v) 11 u := ⟨_, rfl⟩
        obtain ⟨w12, hw12⟩ : ∃ w12, w12 = w11.setCell ⟨w.heap.size, 16, none⟩ (.int .i64 u) := ⟨_, rfl⟩
        have HT12 : Hid (TAt w w12 (ndc K L 0 S O D)) := by
          show TAt w w12 (ndc K L 0 S O D)
          rw [hw12, hD, ← ndc_upd K L 0 S O (upd d' 10 v) 11 (by omega) u]
          exact HT11.out.put 16 (.int .i64 u)
        have HFit : Hid (NFits K L 0 S O D) := by
          refine ⟨⟨K1, K2⟩, ⟨L1, L2⟩, .inr ⟨HK2.out, rfl⟩, ⟨S1, S2⟩, ⟨O1, O2⟩, fun q hq => ?_⟩
          rw [hD]
          by_cases e : q = 11
          · rw [e, upd_same, pf_iff]; exact ⟨u1, by omega⟩
          · rw [upd_ne _ u e]
            by_cases e' : q = 10
            · rw [e', upd_same, pf_iff]; exact ⟨v1, by omega⟩
            · rw [upd_ne _ v e']; exact HA.out q (by omega)
        obtain ⟨F, hF⟩ : ∃ F, F = ndl K L 0 S O D := ⟨_, rfl⟩
        have hlen : F.length = 17 := by rw [hF]; rfl
        have hth : w12.there (w.heap.size + 1) 0 F.length := by rw [hlen]; exact there_node HT12.out.res rfl
        have hone : F.toArray.all (·.oneCell') = true := by rw [hF]; exact all_oneCell_toArray (nl_one _ _ _ _ _ _)
        have hinf : (Try.prog.info? 27).map (·.size) = some F.length := by rw [hlen]; exact infoNode
        have hra : w12.rangeAt w.heap.size 0 F := by rw [hF]; exact range_of HT12.out.par
        have hrs := Hid.mk (World.rangeAt_setCells_same w12 (w.heap.size + 1) 0 F hth)
        have HBe : Hid (Below w.heap.size w (w12.setCells (w.heap.size + 1) 0 F)) := HT12.out.below.trans ((Keeps.setCells (F := fun j => j = w.heap.size + 1) rfl F 0 w12).below (fun j hj => by omega) HT12.out.below.size)
        have HV : Hid (nd K L 0 S O D = .agg F.toArray) := by show nd K L 0 S O D = .agg F.toArray; rw [hF]
        rw [hw12] at hra hth
        have Hra := Hid.mk hra
        clear hF hlen hD HT12 HT11 hra HA
        go_wp2_with (first | refine wpList_load_mid rfl 27 _ rfl w.heap.size 0 rfl F _ Hra.out Try.underlying27 rfl hinf ?_ | refine wpList_store_mid rfl 27 _ _ rfl (w.heap.size + 1) 0 F.toArray rfl rfl ?h1 ?h2 hone ?_)
        case h1 => simpa using hth
        case h2 => simpa using hinf
        rw [← hw12]
        exact bodyPost_ret (results_cell_mid (P := Try.prog) rfl _ _ (w.heap.size + 1) F _ rfl hrs.out Try.underlying27 rfl hinf) rfl ⟨⟨K, L, 0, S, O, D⟩, by rw [← HV.out], HFit.out, HBe.out⟩
end Go.Proofs.Ytkkmkogpbhcpmab
