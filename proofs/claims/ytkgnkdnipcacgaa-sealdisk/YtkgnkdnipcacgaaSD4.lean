import Derived.Test.YtkgnkdnipcacgaaSD3
namespace Go.Proofs.Ytkgnkdnipcacgaa
open Go.RowKit

section
variable {w0 w w' w1 w2 : World} {F F' : Nat → Prop} {kb p n m : Nat} {S S' : DS} {su ma su' ma' : NwT} {op op' : Bool} {sp mp sp' mp' : Option Addr} {sc mc sc' mc' : Nat}

/-- What a step leaves. -/
def BeatOut (w0 w : World) (F : Nat → Prop) (kb p n : Nat) (e : Ending) (w' : World) : Prop :=
  e = .returned (.bool true) ∧ Keeps (fun k => F k ∨ k = kb) w w' ∧ ∃ F S su ma op sp mp sc mc, BenchAt w0 w' F kb p S su ma op n sp mp sc mc ∧ Knows S su ma op
theorem Knows.numOf (h : Knows S su ma op) (hok : S.Ok 5) : (su.2.2.2 = 0 ∧ 0 < su.2.1) ∨ (su.2.2.2 = 30 ∧ su.2.1 = 0 ∧ su.1 = 0) := by
  rw [h.isSu]
  exact snewest_none (dsec_len hok.len (by omega)) (dsec_len hok.len (by omega))
theorem Knows.small (h : Knows S su ma op) : su.2.2.1.length ≤ 512 ∧ ma.2.2.1.length ≤ 512 := by
  rw [h.isSu, h.isMa]
  exact ⟨snewest_len _ _, snewest_len _ _⟩

set_option maxRecDepth 20000 in
set_option maxHeartbeats 4000000 in
theorem brenew_a0 (h : BenchAt w0 w F kb p S su ma false n sp mp sc mc) (kn : Knows S su ma false) (hn : n + 5 ≤ 4000000000000) (da : Option Addr) (dc : Nat) (dt : List Int) (hs : Src w da dt.length dt) (hdl : dt.length ≤ 496) (hdb : Bytes dt) (hda : ∀ x, da = some x → 0 < dt.length → ¬ F x.block ∧ x.block ≠ kb) (num : Int) (hnum : num ≤ 9223372036854775807) (h1 : num < 1) :
    Calls Try.prog 76 #[.pointer (some ⟨kb, 0, none⟩), .int .i64 num, .slice da dt.length dc] w (BeatOut w0 w F kb p (n + 1)) := by
  have hdl2 : dt.length ≤ 140737488355328 := by omega
  have c9 := cell_of_block h.bl (j := 9) rfl
  have HB := Hid.mk h
  have HS := Hid.mk hs
  have HDA := Hid.mk hda
  have hlk := look_any h kn.isMa hn
  obtain ⟨A, B, D, E⟩ := ma
  clear h hs hda
  go_enter Try.func76, Try.ntmps76
  go_wp2_with fail
  have HKF := Hid.mk (Keeps.refl (fun k => F k ∨ k = kb) w)
  refine hlk.mono ?_
  rintro e w2 ⟨pa, pc, gl, cl, gr, cr, S2, rfl, hpa, hpx, hgl, hgr, hsi, hB2, hk2⟩
  have hsd := HS.out.stays hk2 (fun x e hx hf => (HDA.out x e hx).1 hf)
  have hw3 := below_box w2 (.cells #[.int .i64 (A : Int), .int .i64 (B : Int), .slice pa D.length pc, .int .i64 (E : Int)] 75)
  have htw := ltwin_any da dt.length dc dt _ hdl2 (hsd.later hw3)
  have HB2 := Hid.mk hB2
  have HKG := Hid.mk (HKF.out.trans hk2 (fun j h => .inl (.inl h)))
  have HSD := Hid.mk hsd
  have HG := Hid.mk (And.intro hgl hgr)
  have HW3 := Hid.mk hw3
  have HSI := Hid.mk hsi
  clear hlk hpa hpx hgl hgr hsi hB2 hk2 hsd hw3
  go_wp2_with fail
  refine htw.mono ?_
  rintro e w3 ⟨v3, rfl, ho3, hb3⟩
  have hcap := fun a c (e : v3 = .slice a dt.length c) => (show Own w3 _ (.slice a dt.length c) dt from e ▸ ho3).capz
  obtain ⟨p3, c3, rfl, hs3, _, _⟩ := ho3.src
  replace hcap := hcap p3 c3 rfl
  have hb23 := HW3.out.trans (hb3.mono HW3.out.size)
  have hB3 := HB2.out.later hb23
  have hok3 := hB3.dk.ok
  have hkn3 := kn.same HSI.out.1 HSI.out.2.1 HSI.out.2.2
  have hpu3 := hB3.pu
  have hfu3 : S2.fuse ≠ 0 := by rw [hkn3.fu]; decide
  have n1 : S.now 1 = S2.now 1 := (now_of HSI.out.1 HSI.out.2.1 1).symm
  have n3 : S.now 3 = S2.now 3 := (now_of HSI.out.1 HSI.out.2.1 3).symm
  have hre := renew_any gl 512 cl (S.now 1) gr 512 cr (S.now 3) p3 dt.length c3 dt num w3 (HG.out.1.later hb23) (HG.out.2.later hb23) (by rw [n1]; exact hkn3.byt.now 1) (by rw [n3]; exact hkn3.byt.now 3) hs3 hdb hcap hnum
  rw [n1, n3] at hre
  have l1 := now_len hok3 1 (by omega)
  have l3 := now_len hok3 3 (by omega)
  have hss := hkn3.shutSame
  have hno : (su.2.2.2 = 0 ∧ 0 < su.2.1) ∨ (su.2.2.2 = 30 ∧ su.2.1 = 0 ∧ su.1 = 0) := hkn3.numOf hok3
  have hma3 := hkn3.isMa
  have HSD3 := Hid.mk (HSD.out.later hb23)
  have HKH := Hid.mk (HKG.out.trans (Keeps.of_below (fun _ => False) hb23) (fun j h => h.elim))
  clear htw ho3 hs3 hcap
  have e1 : srenew (S2.now 1) (S2.now 3) num dt = (0, [], 1) := by unfold srenew; rw [if_neg (by omega), if_pos h1]
  rw [e1] at hre
  have HKN := Hid.mk hkn3
  have HB3 := Hid.mk hB3
  have c2 := cell_of_block hB3.bl (j := 2) rfl
  have c4 := cell_of_block hB3.bl (j := 4) rfl
  clear hB3 hkn3 hok3 n1 n3 HSI HB2 HSD HG HW3 HSD3 hb3 hb23 hss hma3 l1 l3
  go_wp2_with fail
  refine hre.mono ?_
  rintro e w4 ⟨v4, rfl, hl4, hb4⟩
  have hB4 := HB3.out.later hb4
  have c2 := cell_of_block hB4.bl (j := 2) rfl
  have c4 := cell_of_block hB4.bl (j := 4) rfl
  have HB4 := Hid.mk hB4
  have HKI := Hid.mk (HKH.out.trans (Keeps.of_below (fun _ => False) hb4) (fun j h => h.elim))
  clear hre hl4 hb4 hB4 HB3
  (try dsimp only at *)
  go_wp2_with fail
  refine (lnum_any _ _).mono ?_
  rintro e w' ⟨rfl, hw⟩
  have hw' := hw.symm
  subst hw'
  clear hw
  go_wp2
  go_ret
  exact ⟨rfl, HKI.out, _, _, _, _, _, _, _, _, _, HB4.out.up (Nat.le_succ n), HKN.out⟩

set_option maxRecDepth 20000 in
set_option maxHeartbeats 4000000 in
theorem brenew_b0 (h : BenchAt w0 w F kb p S su ma false n sp mp sc mc) (kn : Knows S su ma false) (hn : n + 5 ≤ 4000000000000) (da : Option Addr) (dc : Nat) (dt : List Int) (hs : Src w da dt.length dt) (hdl : dt.length ≤ 496) (hdb : Bytes dt) (hda : ∀ x, da = some x → 0 < dt.length → ¬ F x.block ∧ x.block ≠ kb) (num : Int) (hnum : num ≤ 9223372036854775807) (h1 : 1 ≤ num) (h2 : num ≤ (su.2.1 : Int)) :
    Calls Try.prog 76 #[.pointer (some ⟨kb, 0, none⟩), .int .i64 num, .slice da dt.length dc] w (BeatOut w0 w F kb p (n + 1)) := by
  have hdl2 : dt.length ≤ 140737488355328 := by omega
  have c9 := cell_of_block h.bl (j := 9) rfl
  have HB := Hid.mk h
  have HS := Hid.mk hs
  have HDA := Hid.mk hda
  have hlk := look_any h kn.isMa hn
  obtain ⟨A, B, D, E⟩ := ma
  clear h hs hda
  go_enter Try.func76, Try.ntmps76
  go_wp2_with fail
  have HKF := Hid.mk (Keeps.refl (fun k => F k ∨ k = kb) w)
  refine hlk.mono ?_
  rintro e w2 ⟨pa, pc, gl, cl, gr, cr, S2, rfl, hpa, hpx, hgl, hgr, hsi, hB2, hk2⟩
  have hsd := HS.out.stays hk2 (fun x e hx hf => (HDA.out x e hx).1 hf)
  have hw3 := below_box w2 (.cells #[.int .i64 (A : Int), .int .i64 (B : Int), .slice pa D.length pc, .int .i64 (E : Int)] 75)
  have htw := ltwin_any da dt.length dc dt _ hdl2 (hsd.later hw3)
  have HB2 := Hid.mk hB2
  have HKG := Hid.mk (HKF.out.trans hk2 (fun j h => .inl (.inl h)))
  have HSD := Hid.mk hsd
  have HG := Hid.mk (And.intro hgl hgr)
  have HW3 := Hid.mk hw3
  have HSI := Hid.mk hsi
  clear hlk hpa hpx hgl hgr hsi hB2 hk2 hsd hw3
  go_wp2_with fail
  refine htw.mono ?_
  rintro e w3 ⟨v3, rfl, ho3, hb3⟩
  have hcap := fun a c (e : v3 = .slice a dt.length c) => (show Own w3 _ (.slice a dt.length c) dt from e ▸ ho3).capz
  obtain ⟨p3, c3, rfl, hs3, _, _⟩ := ho3.src
  replace hcap := hcap p3 c3 rfl
  have hb23 := HW3.out.trans (hb3.mono HW3.out.size)
  have hB3 := HB2.out.later hb23
  have hok3 := hB3.dk.ok
  have hkn3 := kn.same HSI.out.1 HSI.out.2.1 HSI.out.2.2
  have hpu3 := hB3.pu
  have hfu3 : S2.fuse ≠ 0 := by rw [hkn3.fu]; decide
  have n1 : S.now 1 = S2.now 1 := (now_of HSI.out.1 HSI.out.2.1 1).symm
  have n3 : S.now 3 = S2.now 3 := (now_of HSI.out.1 HSI.out.2.1 3).symm
  have hre := renew_any gl 512 cl (S.now 1) gr 512 cr (S.now 3) p3 dt.length c3 dt num w3 (HG.out.1.later hb23) (HG.out.2.later hb23) (by rw [n1]; exact hkn3.byt.now 1) (by rw [n3]; exact hkn3.byt.now 3) hs3 hdb hcap hnum
  rw [n1, n3] at hre
  have l1 := now_len hok3 1 (by omega)
  have l3 := now_len hok3 3 (by omega)
  have hss := hkn3.shutSame
  have hno : (su.2.2.2 = 0 ∧ 0 < su.2.1) ∨ (su.2.2.2 = 30 ∧ su.2.1 = 0 ∧ su.1 = 0) := hkn3.numOf hok3
  have hma3 := hkn3.isMa
  have HSD3 := Hid.mk (HSD.out.later hb23)
  have HKH := Hid.mk (HKG.out.trans (Keeps.of_below (fun _ => False) hb23) (fun j h => h.elim))
  clear htw ho3 hs3 hcap
  have e1 : srenew (S2.now 1) (S2.now 3) num dt = (0, [], 31) := by
    unfold srenew
    rw [if_neg (by omega), if_neg (by omega), if_neg (by omega)]
    simp only
    rw [if_pos (by rw [← hma3, ← hss]; exact h2)]
  rw [e1] at hre
  have HKN := Hid.mk hkn3
  have HB3 := Hid.mk hB3
  have c2 := cell_of_block hB3.bl (j := 2) rfl
  have c4 := cell_of_block hB3.bl (j := 4) rfl
  clear hB3 hkn3 hok3 n1 n3 HSI HB2 HSD HG HW3 HSD3 hb3 hb23 hss hma3 l1 l3
  go_wp2_with fail
  refine hre.mono ?_
  rintro e w4 ⟨v4, rfl, hl4, hb4⟩
  have hB4 := HB3.out.later hb4
  have c2 := cell_of_block hB4.bl (j := 2) rfl
  have c4 := cell_of_block hB4.bl (j := 4) rfl
  have HB4 := Hid.mk hB4
  have HKI := Hid.mk (HKH.out.trans (Keeps.of_below (fun _ => False) hb4) (fun j h => h.elim))
  clear hre hl4 hb4 hB4 HB3
  (try dsimp only at *)
  have z1 : su.2.2.2 = 0 := by rcases hno with h | h <;> omega
  (try dsimp only at *)
  go_wp2_with fail
  refine (lnum_any _ _).mono ?_
  rintro e w' ⟨rfl, hw⟩
  have hw' := hw.symm
  subst hw'
  clear hw
  go_wp2
  go_ret
  exact ⟨rfl, HKI.out, _, _, _, _, _, _, _, _, _, HB4.out.up (Nat.le_succ n), HKN.out⟩

set_option maxRecDepth 20000 in
set_option maxHeartbeats 4000000 in
theorem brenew_c0 (h : BenchAt w0 w F kb p S su ma false n sp mp sc mc) (kn : Knows S su ma false) (hn : n + 5 ≤ 4000000000000) (da : Option Addr) (dc : Nat) (dt : List Int) (hs : Src w da dt.length dt) (hdl : dt.length ≤ 496) (hdb : Bytes dt) (hda : ∀ x, da = some x → 0 < dt.length → ¬ F x.block ∧ x.block ≠ kb) (num : Int) (hnum : num ≤ 9223372036854775807) (h1 : 1 ≤ num) (h2 : (su.2.1 : Int) < num) :
    Calls Try.prog 76 #[.pointer (some ⟨kb, 0, none⟩), .int .i64 num, .slice da dt.length dc] w (BeatOut w0 w F kb p (n + 1)) := by
  have hdl2 : dt.length ≤ 140737488355328 := by omega
  have c9 := cell_of_block h.bl (j := 9) rfl
  have HB := Hid.mk h
  have HS := Hid.mk hs
  have HDA := Hid.mk hda
  have hlk := look_any h kn.isMa hn
  obtain ⟨A, B, D, E⟩ := ma
  clear h hs hda
  go_enter Try.func76, Try.ntmps76
  go_wp2_with fail
  have HKF := Hid.mk (Keeps.refl (fun k => F k ∨ k = kb) w)
  refine hlk.mono ?_
  rintro e w2 ⟨pa, pc, gl, cl, gr, cr, S2, rfl, hpa, hpx, hgl, hgr, hsi, hB2, hk2⟩
  have hsd := HS.out.stays hk2 (fun x e hx hf => (HDA.out x e hx).1 hf)
  have hw3 := below_box w2 (.cells #[.int .i64 (A : Int), .int .i64 (B : Int), .slice pa D.length pc, .int .i64 (E : Int)] 75)
  have htw := ltwin_any da dt.length dc dt _ hdl2 (hsd.later hw3)
  have HB2 := Hid.mk hB2
  have HKG := Hid.mk (HKF.out.trans hk2 (fun j h => .inl (.inl h)))
  have HSD := Hid.mk hsd
  have HG := Hid.mk (And.intro hgl hgr)
  have HW3 := Hid.mk hw3
  have HSI := Hid.mk hsi
  clear hlk hpa hpx hgl hgr hsi hB2 hk2 hsd hw3
  go_wp2_with fail
  refine htw.mono ?_
  rintro e w3 ⟨v3, rfl, ho3, hb3⟩
  have hcap := fun a c (e : v3 = .slice a dt.length c) => (show Own w3 _ (.slice a dt.length c) dt from e ▸ ho3).capz
  obtain ⟨p3, c3, rfl, hs3, _, _⟩ := ho3.src
  replace hcap := hcap p3 c3 rfl
  have hb23 := HW3.out.trans (hb3.mono HW3.out.size)
  have hB3 := HB2.out.later hb23
  have hok3 := hB3.dk.ok
  have hkn3 := kn.same HSI.out.1 HSI.out.2.1 HSI.out.2.2
  have hpu3 := hB3.pu
  have hfu3 : S2.fuse ≠ 0 := by rw [hkn3.fu]; decide
  have n1 : S.now 1 = S2.now 1 := (now_of HSI.out.1 HSI.out.2.1 1).symm
  have n3 : S.now 3 = S2.now 3 := (now_of HSI.out.1 HSI.out.2.1 3).symm
  have hre := renew_any gl 512 cl (S.now 1) gr 512 cr (S.now 3) p3 dt.length c3 dt num w3 (HG.out.1.later hb23) (HG.out.2.later hb23) (by rw [n1]; exact hkn3.byt.now 1) (by rw [n3]; exact hkn3.byt.now 3) hs3 hdb hcap hnum
  rw [n1, n3] at hre
  have l1 := now_len hok3 1 (by omega)
  have l3 := now_len hok3 3 (by omega)
  have hss := hkn3.shutSame
  have hno : (su.2.2.2 = 0 ∧ 0 < su.2.1) ∨ (su.2.2.2 = 30 ∧ su.2.1 = 0 ∧ su.1 = 0) := hkn3.numOf hok3
  have hma3 := hkn3.isMa
  have HSD3 := Hid.mk (HSD.out.later hb23)
  have HKH := Hid.mk (HKG.out.trans (Keeps.of_below (fun _ => False) hb23) (fun j h => h.elim))
  clear htw ho3 hs3 hcap
  obtain ⟨N, hN⟩ : ∃ N : Nat, num = (N : Int) := ⟨num.toNat, by omega⟩
  have h2N : su.2.1 < N := by omega
  obtain ⟨slot, X, s1, e1, hX, hkn⟩ := hkn3.renew hok3 (N := N) (by omega) (by omega) h2N hdl hdb
  rw [hN, e1] at hre
  have HKn := Hid.mk hkn
  have HB3 := Hid.mk hB3
  have HB23 := Hid.mk hb23
  clear hB3 hkn3 hok3 n1 n3 HSI HB2 HSD HG HW3 hb3 hb23 hss hma3 l1 l3 hkn hno e1
  rw [hN]
  clear hN h1 h2
  go_wp2_with fail
  refine hre.mono ?_
  rintro e w4 ⟨v4, rfl, hl4, hb4⟩
  obtain ⟨a4, c4, rfl, hs4, _, hx4⟩ := hl4
  have hs4' := hs4
  simp only [hX] at hs4' ⊢
  have hB4 := HB3.out.later hb4
  have c0 := cell_of_block hB4.bl (j := 0) rfl
  have hwr := write_all hB4.dk ((1 + 2 * slot : Nat) : Int) a4 512 c4 X hs4' (by omega)
  rw [wr_in hfu3 (by omega)] at hwr
  have eS : (S2.put (1 + 2 * slot) X).wrote.spend = (S2.wr 5 ((1 + 2 * slot : Nat) : Int) 512 X).2 := by rw [wr_in hfu3 (by omega)]
  rw [eS] at hwr
  have x1 : IntKind.i64.wrap (2 * (slot : Int)) = 2 * (slot : Int) := by rw [IntKind.wrap_i64]; all_goals omega
  have x2 : IntKind.i64.wrap (1 + 2 * (slot : Int)) = ((1 + 2 * slot : Nat) : Int) := by rw [IntKind.wrap_i64]; all_goals omega
  have x3 : wrap64 (2 * (slot : Int)) = 2 * (slot : Int) := by unfold wrap64; omega
  have x4 : wrap64 (1 + 2 * (slot : Int)) = ((1 + 2 * slot : Nat) : Int) := by unfold wrap64; omega
  have hsd4 := HSD3.out.later hb4
  have HB4 := Hid.mk hB4
  have HKI := Hid.mk (HKH.out.trans (Keeps.of_below (fun _ => False) hb4) (fun j h => h.elim))
  have HSD4 := Hid.mk hsd4
  clear hre hb4 hB4 HB3 hs4 hs4' hx4 hsd4 eS HSD3 HB23
  go_wp2_with fail
  refine (lnum_any _ _).mono ?_
  rintro e w' ⟨rfl, hw⟩
  have hw' := hw.symm
  subst hw'
  clear hw
  go_wp2_with fail
  refine hwr.mono ?_
  rintro e w5 ⟨rfl, hd5, hk5⟩
  have hb5 := (hk5.block kb HB4.out.kbl HB4.out.nf).trans HB4.out.bl
  have hpu5 : (S2.wr 5 ((1 + 2 * slot : Nat) : Int) 512 X).2.puts.length ≤ n + 1 := by have := wr_puts S2 5 ((1 + 2 * slot : Nat) : Int) 512 X; omega
  have hfin := fun w6 hk6 bl => HB4.out.put (w2 := w6) (su' := su) (ma' := (slot, N, dt, 0)) (op' := true) (sp' := sp) (mp' := da) (sc' := sc) (mc' := dc) (m := n + 1) hd5 (fun k hf => hf.elim .inl (fun h => .inr h.1)) hk5 hk6 bl ⟨HKn.out.fu, HKn.out.byt⟩ hpu5 (HB4.out.ss.stays hk5 (fun x e hx => (HB4.out.sa x e hx).1)) (HSD4.out.stays hk5 (fun x e hx => (HDA.out x e hx).1)) (fun x e hx => ⟨fun hf => hf.elim (HB4.out.sa x e hx).1 (fun h => by have := HB4.out.ss.old x e hx; omega), (HB4.out.sa x e hx).2⟩) (fun x e hx => ⟨fun hf => hf.elim (HDA.out x e hx).1 (fun h => by have := HSD4.out.old x e hx; omega), (HDA.out x e hx).2⟩)
  have k5 := cell_of_block hb5 (j := 5) rfl
  have f5 := frozen_of_block hb5 5
  have k6 := cell_of_block hb5 (j := 6) rfl
  have f6 := frozen_of_block hb5 6
  have k7 := cell_of_block hb5 (j := 7) rfl
  have f7 := frozen_of_block hb5 7
  have k8 := cell_of_block hb5 (j := 8) rfl
  have f8 := frozen_of_block hb5 8
  have k9 := cell_of_block hb5 (j := 9) rfl
  have f9 := frozen_of_block hb5 9
  have hset := setMaybe (x := .int .i64 (slot : Int)) (y := .int .i64 (N : Int)) (z := .slice da dt.length dc) (u := .int .i64 0) (v := .bool true) hb5
  have HKJ := Hid.mk ((HKI.out.trans hk5 (fun j h => .inl (.inl h))).trans (keepsFive w5 kb 5 6 7 8 9 (.int .i64 (slot : Int)) (.int .i64 (N : Int)) (.slice da dt.length dc) (.int .i64 0) (.bool true)) (fun j h => .inl (.inr h)))
  have HFin := Hid.mk (hfin _ (keepsFive w5 kb 5 6 7 8 9 (.int .i64 (slot : Int)) (.int .i64 (N : Int)) (.slice da dt.length dc) (.int .i64 0) (.bool true)) hset)
  clear hwr hd5 hk5 hb5 hfin hset HB4 HSD4 hpu5
  go_wp2_with fail
  refine (lnum_any _ _).mono ?_
  rintro e w' ⟨rfl, hw⟩
  have hw' := hw.symm
  subst hw'
  clear hw
  go_wp2
  go_ret
  exact ⟨rfl, HKJ.out, _, _, _, _, _, _, _, _, _, HFin.out, HKn.out⟩

set_option maxRecDepth 20000 in
set_option maxHeartbeats 4000000 in
theorem brenew_a1 (h : BenchAt w0 w F kb p S su ma true n sp mp sc mc) (kn : Knows S su ma true) (hn : n + 5 ≤ 4000000000000) (da : Option Addr) (dc : Nat) (dt : List Int) (hs : Src w da dt.length dt) (hdl : dt.length ≤ 496) (hdb : Bytes dt) (hda : ∀ x, da = some x → 0 < dt.length → ¬ F x.block ∧ x.block ≠ kb) (num : Int) (hnum : num ≤ 9223372036854775807) (h1 : num < 1) :
    Calls Try.prog 76 #[.pointer (some ⟨kb, 0, none⟩), .int .i64 num, .slice da dt.length dc] w (BeatOut w0 w F kb p (n + 1)) := by
  have hdl2 : dt.length ≤ 140737488355328 := by omega
  have c9 := cell_of_block h.bl (j := 9) rfl
  have hfl := bflush_any h hn
  have kn1 := (kn.flush h.dk.ok).1
  have HS := Hid.mk hs
  have HDA := Hid.mk hda
  clear h hs hda
  go_enter Try.func76, Try.ntmps76
  go_wp2_with fail
  refine hfl.mono ?_
  rintro e w1 ⟨rfl, hB1, hk1⟩
  have HS1 := Hid.mk (HS.out.stays hk1 (fun x e hx hf => hf.elim (HDA.out x e hx).1 (HDA.out x e hx).2))
  have hlk := look_any hB1 kn1.isMa hn
  have HKF := Hid.mk hk1
  have HB := Hid.mk hB1
  obtain ⟨A, B, D, E⟩ := ma
  clear hfl hB1 hk1 HS
  go_wp2_with fail
  refine hlk.mono ?_
  rintro e w2 ⟨pa, pc, gl, cl, gr, cr, S2, rfl, hpa, hpx, hgl, hgr, hsi, hB2, hk2⟩
  have hsd := HS1.out.stays hk2 (fun x e hx hf => (HDA.out x e hx).1 hf)
  have hw3 := below_box w2 (.cells #[.int .i64 (A : Int), .int .i64 (B : Int), .slice pa D.length pc, .int .i64 (E : Int)] 75)
  have htw := ltwin_any da dt.length dc dt _ hdl2 (hsd.later hw3)
  have HB2 := Hid.mk hB2
  have HKG := Hid.mk (HKF.out.trans hk2 (fun j h => .inl (.inl h)))
  have HSD := Hid.mk hsd
  have HG := Hid.mk (And.intro hgl hgr)
  have HW3 := Hid.mk hw3
  have HSI := Hid.mk hsi
  clear hlk hpa hpx hgl hgr hsi hB2 hk2 hsd hw3
  go_wp2_with fail
  refine htw.mono ?_
  rintro e w3 ⟨v3, rfl, ho3, hb3⟩
  have hcap := fun a c (e : v3 = .slice a dt.length c) => (show Own w3 _ (.slice a dt.length c) dt from e ▸ ho3).capz
  obtain ⟨p3, c3, rfl, hs3, _, _⟩ := ho3.src
  replace hcap := hcap p3 c3 rfl
  have hb23 := HW3.out.trans (hb3.mono HW3.out.size)
  have hB3 := HB2.out.later hb23
  have hok3 := hB3.dk.ok
  have hkn3 := kn1.same HSI.out.1 HSI.out.2.1 HSI.out.2.2
  have hpu3 := hB3.pu
  have hfu3 : S2.fuse ≠ 0 := by rw [hkn3.fu]; decide
  have n1 : (DS.fl S 5).2.now 1 = S2.now 1 := (now_of HSI.out.1 HSI.out.2.1 1).symm
  have n3 : (DS.fl S 5).2.now 3 = S2.now 3 := (now_of HSI.out.1 HSI.out.2.1 3).symm
  have hre := renew_any gl 512 cl ((DS.fl S 5).2.now 1) gr 512 cr ((DS.fl S 5).2.now 3) p3 dt.length c3 dt num w3 (HG.out.1.later hb23) (HG.out.2.later hb23) (by rw [n1]; exact hkn3.byt.now 1) (by rw [n3]; exact hkn3.byt.now 3) hs3 hdb hcap hnum
  rw [n1, n3] at hre
  have l1 := now_len hok3 1 (by omega)
  have l3 := now_len hok3 3 (by omega)
  have hss := hkn3.shutSame
  have hno : (E = 0 ∧ 0 < B) ∨ (E = 30 ∧ B = 0 ∧ A = 0) := hkn3.numOf hok3
  have hma3 := hkn3.isMa
  have HSD3 := Hid.mk (HSD.out.later hb23)
  have HKH := Hid.mk (HKG.out.trans (Keeps.of_below (fun _ => False) hb23) (fun j h => h.elim))
  clear htw ho3 hs3 hcap
  have e1 : srenew (S2.now 1) (S2.now 3) num dt = (0, [], 1) := by unfold srenew; rw [if_neg (by omega), if_pos h1]
  rw [e1] at hre
  have HKN := Hid.mk hkn3
  have HB3 := Hid.mk hB3
  have c2 := cell_of_block hB3.bl (j := 2) rfl
  have c4 := cell_of_block hB3.bl (j := 4) rfl
  clear hB3 hkn3 hok3 n1 n3 HSI HB2 HSD HG HW3 HSD3 hb3 hb23 hss hma3 l1 l3
  go_wp2_with fail
  refine hre.mono ?_
  rintro e w4 ⟨v4, rfl, hl4, hb4⟩
  have hB4 := HB3.out.later hb4
  have c2 := cell_of_block hB4.bl (j := 2) rfl
  have c4 := cell_of_block hB4.bl (j := 4) rfl
  have HB4 := Hid.mk hB4
  have HKI := Hid.mk (HKH.out.trans (Keeps.of_below (fun _ => False) hb4) (fun j h => h.elim))
  clear hre hl4 hb4 hB4 HB3
  (try dsimp only at *)
  go_wp2_with fail
  refine (lnum_any _ _).mono ?_
  rintro e w' ⟨rfl, hw⟩
  have hw' := hw.symm
  subst hw'
  clear hw
  go_wp2
  go_ret
  exact ⟨rfl, HKI.out, _, _, _, _, _, _, _, _, _, HB4.out.up (Nat.le_succ n), HKN.out⟩

set_option maxRecDepth 20000 in
set_option maxHeartbeats 4000000 in
theorem brenew_b1 (h : BenchAt w0 w F kb p S su ma true n sp mp sc mc) (kn : Knows S su ma true) (hn : n + 5 ≤ 4000000000000) (da : Option Addr) (dc : Nat) (dt : List Int) (hs : Src w da dt.length dt) (hdl : dt.length ≤ 496) (hdb : Bytes dt) (hda : ∀ x, da = some x → 0 < dt.length → ¬ F x.block ∧ x.block ≠ kb) (num : Int) (hnum : num ≤ 9223372036854775807) (h1 : 1 ≤ num) (h2 : num ≤ (ma.2.1 : Int)) :
    Calls Try.prog 76 #[.pointer (some ⟨kb, 0, none⟩), .int .i64 num, .slice da dt.length dc] w (BeatOut w0 w F kb p (n + 1)) := by
  have hdl2 : dt.length ≤ 140737488355328 := by omega
  have c9 := cell_of_block h.bl (j := 9) rfl
  have hfl := bflush_any h hn
  have kn1 := (kn.flush h.dk.ok).1
  have HS := Hid.mk hs
  have HDA := Hid.mk hda
  clear h hs hda
  go_enter Try.func76, Try.ntmps76
  go_wp2_with fail
  refine hfl.mono ?_
  rintro e w1 ⟨rfl, hB1, hk1⟩
  have HS1 := Hid.mk (HS.out.stays hk1 (fun x e hx hf => hf.elim (HDA.out x e hx).1 (HDA.out x e hx).2))
  have hlk := look_any hB1 kn1.isMa hn
  have HKF := Hid.mk hk1
  have HB := Hid.mk hB1
  obtain ⟨A, B, D, E⟩ := ma
  clear hfl hB1 hk1 HS
  go_wp2_with fail
  refine hlk.mono ?_
  rintro e w2 ⟨pa, pc, gl, cl, gr, cr, S2, rfl, hpa, hpx, hgl, hgr, hsi, hB2, hk2⟩
  have hsd := HS1.out.stays hk2 (fun x e hx hf => (HDA.out x e hx).1 hf)
  have hw3 := below_box w2 (.cells #[.int .i64 (A : Int), .int .i64 (B : Int), .slice pa D.length pc, .int .i64 (E : Int)] 75)
  have htw := ltwin_any da dt.length dc dt _ hdl2 (hsd.later hw3)
  have HB2 := Hid.mk hB2
  have HKG := Hid.mk (HKF.out.trans hk2 (fun j h => .inl (.inl h)))
  have HSD := Hid.mk hsd
  have HG := Hid.mk (And.intro hgl hgr)
  have HW3 := Hid.mk hw3
  have HSI := Hid.mk hsi
  clear hlk hpa hpx hgl hgr hsi hB2 hk2 hsd hw3
  go_wp2_with fail
  refine htw.mono ?_
  rintro e w3 ⟨v3, rfl, ho3, hb3⟩
  have hcap := fun a c (e : v3 = .slice a dt.length c) => (show Own w3 _ (.slice a dt.length c) dt from e ▸ ho3).capz
  obtain ⟨p3, c3, rfl, hs3, _, _⟩ := ho3.src
  replace hcap := hcap p3 c3 rfl
  have hb23 := HW3.out.trans (hb3.mono HW3.out.size)
  have hB3 := HB2.out.later hb23
  have hok3 := hB3.dk.ok
  have hkn3 := kn1.same HSI.out.1 HSI.out.2.1 HSI.out.2.2
  have hpu3 := hB3.pu
  have hfu3 : S2.fuse ≠ 0 := by rw [hkn3.fu]; decide
  have n1 : (DS.fl S 5).2.now 1 = S2.now 1 := (now_of HSI.out.1 HSI.out.2.1 1).symm
  have n3 : (DS.fl S 5).2.now 3 = S2.now 3 := (now_of HSI.out.1 HSI.out.2.1 3).symm
  have hre := renew_any gl 512 cl ((DS.fl S 5).2.now 1) gr 512 cr ((DS.fl S 5).2.now 3) p3 dt.length c3 dt num w3 (HG.out.1.later hb23) (HG.out.2.later hb23) (by rw [n1]; exact hkn3.byt.now 1) (by rw [n3]; exact hkn3.byt.now 3) hs3 hdb hcap hnum
  rw [n1, n3] at hre
  have l1 := now_len hok3 1 (by omega)
  have l3 := now_len hok3 3 (by omega)
  have hss := hkn3.shutSame
  have hno : (E = 0 ∧ 0 < B) ∨ (E = 30 ∧ B = 0 ∧ A = 0) := hkn3.numOf hok3
  have hma3 := hkn3.isMa
  have HSD3 := Hid.mk (HSD.out.later hb23)
  have HKH := Hid.mk (HKG.out.trans (Keeps.of_below (fun _ => False) hb23) (fun j h => h.elim))
  clear htw ho3 hs3 hcap
  have e1 : srenew (S2.now 1) (S2.now 3) num dt = (0, [], 31) := by
    unfold srenew
    rw [if_neg (by omega), if_neg (by omega), if_neg (by omega)]
    simp only
    rw [if_pos (by rw [← hma3, ← hss]; exact h2)]
  rw [e1] at hre
  have HKN := Hid.mk hkn3
  have HB3 := Hid.mk hB3
  have c2 := cell_of_block hB3.bl (j := 2) rfl
  have c4 := cell_of_block hB3.bl (j := 4) rfl
  clear hB3 hkn3 hok3 n1 n3 HSI HB2 HSD HG HW3 HSD3 hb3 hb23 hss hma3 l1 l3
  go_wp2_with fail
  refine hre.mono ?_
  rintro e w4 ⟨v4, rfl, hl4, hb4⟩
  have hB4 := HB3.out.later hb4
  have c2 := cell_of_block hB4.bl (j := 2) rfl
  have c4 := cell_of_block hB4.bl (j := 4) rfl
  have HB4 := Hid.mk hB4
  have HKI := Hid.mk (HKH.out.trans (Keeps.of_below (fun _ => False) hb4) (fun j h => h.elim))
  clear hre hl4 hb4 hB4 HB3
  (try dsimp only at *)
  have z1 : E = 0 := by rcases hno with h | h <;> omega
  (try dsimp only at *)
  go_wp2_with fail
  refine (lnum_any _ _).mono ?_
  rintro e w' ⟨rfl, hw⟩
  have hw' := hw.symm
  subst hw'
  clear hw
  go_wp2
  go_ret
  exact ⟨rfl, HKI.out, _, _, _, _, _, _, _, _, _, HB4.out.up (Nat.le_succ n), HKN.out⟩

set_option maxRecDepth 20000 in
set_option maxHeartbeats 4000000 in
theorem brenew_c1 (h : BenchAt w0 w F kb p S su ma true n sp mp sc mc) (kn : Knows S su ma true) (hn : n + 5 ≤ 4000000000000) (da : Option Addr) (dc : Nat) (dt : List Int) (hs : Src w da dt.length dt) (hdl : dt.length ≤ 496) (hdb : Bytes dt) (hda : ∀ x, da = some x → 0 < dt.length → ¬ F x.block ∧ x.block ≠ kb) (num : Int) (hnum : num ≤ 9223372036854775807) (h1 : 1 ≤ num) (h2 : (ma.2.1 : Int) < num) :
    Calls Try.prog 76 #[.pointer (some ⟨kb, 0, none⟩), .int .i64 num, .slice da dt.length dc] w (BeatOut w0 w F kb p (n + 1)) := by
  have hdl2 : dt.length ≤ 140737488355328 := by omega
  have c9 := cell_of_block h.bl (j := 9) rfl
  have hfl := bflush_any h hn
  have kn1 := (kn.flush h.dk.ok).1
  have HS := Hid.mk hs
  have HDA := Hid.mk hda
  clear h hs hda
  go_enter Try.func76, Try.ntmps76
  go_wp2_with fail
  refine hfl.mono ?_
  rintro e w1 ⟨rfl, hB1, hk1⟩
  have HS1 := Hid.mk (HS.out.stays hk1 (fun x e hx hf => hf.elim (HDA.out x e hx).1 (HDA.out x e hx).2))
  have hlk := look_any hB1 kn1.isMa hn
  have HKF := Hid.mk hk1
  have HB := Hid.mk hB1
  obtain ⟨A, B, D, E⟩ := ma
  clear hfl hB1 hk1 HS
  go_wp2_with fail
  refine hlk.mono ?_
  rintro e w2 ⟨pa, pc, gl, cl, gr, cr, S2, rfl, hpa, hpx, hgl, hgr, hsi, hB2, hk2⟩
  have hsd := HS1.out.stays hk2 (fun x e hx hf => (HDA.out x e hx).1 hf)
  have hw3 := below_box w2 (.cells #[.int .i64 (A : Int), .int .i64 (B : Int), .slice pa D.length pc, .int .i64 (E : Int)] 75)
  have htw := ltwin_any da dt.length dc dt _ hdl2 (hsd.later hw3)
  have HB2 := Hid.mk hB2
  have HKG := Hid.mk (HKF.out.trans hk2 (fun j h => .inl (.inl h)))
  have HSD := Hid.mk hsd
  have HG := Hid.mk (And.intro hgl hgr)
  have HW3 := Hid.mk hw3
  have HSI := Hid.mk hsi
  clear hlk hpa hpx hgl hgr hsi hB2 hk2 hsd hw3
  go_wp2_with fail
  refine htw.mono ?_
  rintro e w3 ⟨v3, rfl, ho3, hb3⟩
  have hcap := fun a c (e : v3 = .slice a dt.length c) => (show Own w3 _ (.slice a dt.length c) dt from e ▸ ho3).capz
  obtain ⟨p3, c3, rfl, hs3, _, _⟩ := ho3.src
  replace hcap := hcap p3 c3 rfl
  have hb23 := HW3.out.trans (hb3.mono HW3.out.size)
  have hB3 := HB2.out.later hb23
  have hok3 := hB3.dk.ok
  have hkn3 := kn1.same HSI.out.1 HSI.out.2.1 HSI.out.2.2
  have hpu3 := hB3.pu
  have hfu3 : S2.fuse ≠ 0 := by rw [hkn3.fu]; decide
  have n1 : (DS.fl S 5).2.now 1 = S2.now 1 := (now_of HSI.out.1 HSI.out.2.1 1).symm
  have n3 : (DS.fl S 5).2.now 3 = S2.now 3 := (now_of HSI.out.1 HSI.out.2.1 3).symm
  have hre := renew_any gl 512 cl ((DS.fl S 5).2.now 1) gr 512 cr ((DS.fl S 5).2.now 3) p3 dt.length c3 dt num w3 (HG.out.1.later hb23) (HG.out.2.later hb23) (by rw [n1]; exact hkn3.byt.now 1) (by rw [n3]; exact hkn3.byt.now 3) hs3 hdb hcap hnum
  rw [n1, n3] at hre
  have l1 := now_len hok3 1 (by omega)
  have l3 := now_len hok3 3 (by omega)
  have hss := hkn3.shutSame
  have hno : (E = 0 ∧ 0 < B) ∨ (E = 30 ∧ B = 0 ∧ A = 0) := hkn3.numOf hok3
  have hma3 := hkn3.isMa
  have HSD3 := Hid.mk (HSD.out.later hb23)
  have HKH := Hid.mk (HKG.out.trans (Keeps.of_below (fun _ => False) hb23) (fun j h => h.elim))
  clear htw ho3 hs3 hcap
  obtain ⟨N, hN⟩ : ∃ N : Nat, num = (N : Int) := ⟨num.toNat, by omega⟩
  have h2N : B < N := by omega
  obtain ⟨slot, X, s1, e1, hX, hkn⟩ := hkn3.renew hok3 (N := N) (by omega) (by omega) h2N hdl hdb
  rw [hN, e1] at hre
  have HKn := Hid.mk hkn
  have HB3 := Hid.mk hB3
  have HB23 := Hid.mk hb23
  clear hB3 hkn3 hok3 n1 n3 HSI HB2 HSD HG HW3 hb3 hb23 hss hma3 l1 l3 hkn hno e1
  rw [hN]
  clear hN h1 h2
  go_wp2_with fail
  refine hre.mono ?_
  rintro e w4 ⟨v4, rfl, hl4, hb4⟩
  obtain ⟨a4, c4, rfl, hs4, _, hx4⟩ := hl4
  have hs4' := hs4
  simp only [hX] at hs4' ⊢
  have hB4 := HB3.out.later hb4
  have c0 := cell_of_block hB4.bl (j := 0) rfl
  have hwr := write_all hB4.dk ((1 + 2 * slot : Nat) : Int) a4 512 c4 X hs4' (by omega)
  rw [wr_in hfu3 (by omega)] at hwr
  have eS : (S2.put (1 + 2 * slot) X).wrote.spend = (S2.wr 5 ((1 + 2 * slot : Nat) : Int) 512 X).2 := by rw [wr_in hfu3 (by omega)]
  rw [eS] at hwr
  have x1 : IntKind.i64.wrap (2 * (slot : Int)) = 2 * (slot : Int) := by rw [IntKind.wrap_i64]; all_goals omega
  have x2 : IntKind.i64.wrap (1 + 2 * (slot : Int)) = ((1 + 2 * slot : Nat) : Int) := by rw [IntKind.wrap_i64]; all_goals omega
  have x3 : wrap64 (2 * (slot : Int)) = 2 * (slot : Int) := by unfold wrap64; omega
  have x4 : wrap64 (1 + 2 * (slot : Int)) = ((1 + 2 * slot : Nat) : Int) := by unfold wrap64; omega
  have hsd4 := HSD3.out.later hb4
  have HB4 := Hid.mk hB4
  have HKI := Hid.mk (HKH.out.trans (Keeps.of_below (fun _ => False) hb4) (fun j h => h.elim))
  have HSD4 := Hid.mk hsd4
  clear hre hb4 hB4 HB3 hs4 hs4' hx4 hsd4 eS HSD3 HB23
  go_wp2_with fail
  refine (lnum_any _ _).mono ?_
  rintro e w' ⟨rfl, hw⟩
  have hw' := hw.symm
  subst hw'
  clear hw
  go_wp2_with fail
  refine hwr.mono ?_
  rintro e w5 ⟨rfl, hd5, hk5⟩
  have hb5 := (hk5.block kb HB4.out.kbl HB4.out.nf).trans HB4.out.bl
  have hpu5 : (S2.wr 5 ((1 + 2 * slot : Nat) : Int) 512 X).2.puts.length ≤ n + 1 := by have := wr_puts S2 5 ((1 + 2 * slot : Nat) : Int) 512 X; omega
  have hfin := fun w6 hk6 bl => HB4.out.put (w2 := w6) (su' := (A, B, D, E)) (ma' := (slot, N, dt, 0)) (op' := true) (sp' := mp) (mp' := da) (sc' := mc) (mc' := dc) (m := n + 1) hd5 (fun k hf => hf.elim .inl (fun h => .inr h.1)) hk5 hk6 bl ⟨HKn.out.fu, HKn.out.byt⟩ hpu5 (HB4.out.ss.stays hk5 (fun x e hx => (HB4.out.sa x e hx).1)) (HSD4.out.stays hk5 (fun x e hx => (HDA.out x e hx).1)) (fun x e hx => ⟨fun hf => hf.elim (HB4.out.sa x e hx).1 (fun h => by have := HB4.out.ss.old x e hx; omega), (HB4.out.sa x e hx).2⟩) (fun x e hx => ⟨fun hf => hf.elim (HDA.out x e hx).1 (fun h => by have := HSD4.out.old x e hx; omega), (HDA.out x e hx).2⟩)
  have k5 := cell_of_block hb5 (j := 5) rfl
  have f5 := frozen_of_block hb5 5
  have k6 := cell_of_block hb5 (j := 6) rfl
  have f6 := frozen_of_block hb5 6
  have k7 := cell_of_block hb5 (j := 7) rfl
  have f7 := frozen_of_block hb5 7
  have k8 := cell_of_block hb5 (j := 8) rfl
  have f8 := frozen_of_block hb5 8
  have k9 := cell_of_block hb5 (j := 9) rfl
  have f9 := frozen_of_block hb5 9
  have hset := setMaybe (x := .int .i64 (slot : Int)) (y := .int .i64 (N : Int)) (z := .slice da dt.length dc) (u := .int .i64 0) (v := .bool true) hb5
  have HKJ := Hid.mk ((HKI.out.trans hk5 (fun j h => .inl (.inl h))).trans (keepsFive w5 kb 5 6 7 8 9 (.int .i64 (slot : Int)) (.int .i64 (N : Int)) (.slice da dt.length dc) (.int .i64 0) (.bool true)) (fun j h => .inl (.inr h)))
  have HFin := Hid.mk (hfin _ (keepsFive w5 kb 5 6 7 8 9 (.int .i64 (slot : Int)) (.int .i64 (N : Int)) (.slice da dt.length dc) (.int .i64 0) (.bool true)) hset)
  clear hwr hd5 hk5 hb5 hfin hset HB4 HSD4 hpu5
  go_wp2_with fail
  refine (lnum_any _ _).mono ?_
  rintro e w' ⟨rfl, hw⟩
  have hw' := hw.symm
  subst hw'
  clear hw
  go_wp2
  go_ret
  exact ⟨rfl, HKJ.out, _, _, _, _, _, _, _, _, _, HFin.out, HKn.out⟩

theorem brenew_any (h : BenchAt w0 w F kb p S su ma op n sp mp sc mc) (kn : Knows S su ma op) (hn : n + 5 ≤ 4000000000000) (da : Option Addr) (dc : Nat) (dt : List Int) (hs : Src w da dt.length dt) (hdl : dt.length ≤ 496) (hdb : Bytes dt) (hda : ∀ x, da = some x → 0 < dt.length → ¬ F x.block ∧ x.block ≠ kb) (num : Int) (hnum : num ≤ 9223372036854775807) :
    Calls Try.prog 76 #[.pointer (some ⟨kb, 0, none⟩), .int .i64 num, .slice da dt.length dc] w (BeatOut w0 w F kb p (n + 1)) := by
  by_cases h1 : num < 1
  · cases op
    · exact brenew_a0 h kn hn da dc dt hs hdl hdb hda num hnum h1
    · exact brenew_a1 h kn hn da dc dt hs hdl hdb hda num hnum h1
  · cases op
    · by_cases h2 : num ≤ (su.2.1 : Int)
      · exact brenew_b0 h kn hn da dc dt hs hdl hdb hda num hnum (by omega) h2
      · exact brenew_c0 h kn hn da dc dt hs hdl hdb hda num hnum (by omega) (by omega)
    · by_cases h2 : num ≤ (ma.2.1 : Int)
      · exact brenew_b1 h kn hn da dc dt hs hdl hdb hda num hnum (by omega) h2
      · exact brenew_c1 h kn hn da dc dt hs hdl hdb hda num hnum (by omega) (by omega)
end
end Go.Proofs.Ytkgnkdnipcacgaa
