import Derived.Test.YtalokopnagpgcaaDoorSJ6
namespace Go.Proofs.YtalokopnagpgcaaDoor
open Go.RowKit Go.Maps

def RS.next (s : RS) (c : UInt8) : RS :=
  if s.i = 0 then s.first c else if s.i = 1 then (if blank c then { s.ends with i := 0 } else s.plain c) else if s.i = 2 then s.inside c else if s.i = 3 then s.escaped c
  else if s.i = 4 then { s with d := hexI c.toNat, i := 5, bad := s.bad || decide (hexI c.toNat < 0) }
  else if s.i = 5 then (if hexI c.toNat < 0 then { s with bad := true, i := 2 } else { s with wd := s.wd ++ [UInt8.ofNat (16 * s.d + hexI c.toNat).toNat], i := 2 })
  else if s.i = 6 then { s with bad := s.bad || !blank c, i := 0 } else s
/-- The head of next at a state. -/
theorem rnext_first (p : Nat) (s : RS) (c : UInt8) (w : World) (h : Rd w p s) (hl : s.wd.length ≤ 100000000) (hi : s.i = 0) :
    Calls Tryd.prog 16 #[.pointer (some ⟨p, 0, none⟩), .int .u8 c.toNat] w fun e w' => e = .returned (.tuple #[]) ∧ Rd w' p (s.next c) ∧ Below p w w' := by
  have hn : s.next c = s.first c := by unfold RS.next; rw [if_pos hi]
  rw [hn]
  have hc := rfirst_any p s c w h hl
  obtain ⟨vw, vs, hv⟩ := h
  have c0 := hv.c0
  rw [hi] at c0
  clear hv
  go_enter Tryd.func16, Tryd.ntmps16
  go_wp2_with fail
  refine hc.mono ?_
  rintro e w2 ⟨rfl, hrd, hb2⟩
  have HQ := Hid.mk (And.intro hrd hb2)
  clear hrd hb2
  go_wp2
  go_end0
  exact ⟨rfl, HQ.out.1, HQ.out.2⟩
theorem rnext_inside (p : Nat) (s : RS) (c : UInt8) (w : World) (h : Rd w p s) (hl : s.wd.length ≤ 100000000) (hl2 : s.ws.length ≤ 100000000) (hi : s.i = 2) :
    Calls Tryd.prog 16 #[.pointer (some ⟨p, 0, none⟩), .int .u8 c.toNat] w fun e w' => e = .returned (.tuple #[]) ∧ Rd w' p (s.next c) ∧ Below p w w' := by
  have hn : s.next c = s.inside c := by unfold RS.next; rw [if_neg (by rw [hi]; decide), if_neg (by rw [hi]; decide), if_pos hi]
  rw [hn]
  have hc := rinside_any p s c w h hl hl2
  obtain ⟨vw, vs, hv⟩ := h
  have c0 := hv.c0
  rw [hi] at c0
  clear hv
  go_enter Tryd.func16, Tryd.ntmps16
  go_wp2_with fail
  refine hc.mono ?_
  rintro e w2 ⟨rfl, hrd, hb2⟩
  have HQ := Hid.mk (And.intro hrd hb2)
  clear hrd hb2
  go_wp2
  go_end0
  exact ⟨rfl, HQ.out.1, HQ.out.2⟩
theorem rnext_escaped (p : Nat) (s : RS) (c : UInt8) (w : World) (h : Rd w p s) (hl : s.wd.length ≤ 100000000) (hi : s.i = 3) :
    Calls Tryd.prog 16 #[.pointer (some ⟨p, 0, none⟩), .int .u8 c.toNat] w fun e w' => e = .returned (.tuple #[]) ∧ Rd w' p (s.next c) ∧ Below p w w' := by
  have hn : s.next c = s.escaped c := by unfold RS.next; rw [if_neg (by rw [hi]; decide), if_neg (by rw [hi]; decide), if_neg (by rw [hi]; decide), if_pos hi]
  rw [hn]
  have hc := rescaped_any p s c w h hl
  obtain ⟨vw, vs, hv⟩ := h
  have c0 := hv.c0
  rw [hi] at c0
  clear hv
  go_enter Tryd.func16, Tryd.ntmps16
  go_wp2_with fail
  refine hc.mono ?_
  rintro e w2 ⟨rfl, hrd, hb2⟩
  have HQ := Hid.mk (And.intro hrd hb2)
  clear hrd hb2
  go_wp2
  go_end0
  exact ⟨rfl, HQ.out.1, HQ.out.2⟩
theorem rnext_bare (p : Nat) (s : RS) (c : UInt8) (w : World) (h : Rd w p s) (hl : s.wd.length ≤ 100000000) (hl2 : s.ws.length ≤ 100000000) (hi : s.i = 1) :
    Calls Tryd.prog 16 #[.pointer (some ⟨p, 0, none⟩), .int .u8 c.toNat] w fun e w' => e = .returned (.tuple #[]) ∧ Rd w' p (s.next c) ∧ Below p w w' := by
  have hn : s.next c = (if blank c then { s.ends with i := 0 } else s.plain c) := by unfold RS.next; rw [if_neg (by rw [hi]; decide), if_pos hi]
  rw [hn]
  rcases blank_cases c with rfl | rfl | ⟨hb, q1, q2⟩
  · rw [show blank 32 = true from rfl, if_pos rfl]
    show Calls Tryd.prog 16 #[.pointer (some ⟨p, 0, none⟩), .int .u8 32] w _
    have he := rends_any p s w h hl2
    obtain ⟨vw, vs, hv⟩ := h
    have c0 := hv.c0
    rw [hi] at c0
    clear hv
    go_enter Tryd.func16, Tryd.ntmps16
    go_wp2_with fail
    refine he.mono ?_
    rintro e w2 ⟨rfl, ⟨vw2, vs2, hv2⟩, hb2⟩
    have hlt2 := hv2.lt
    have c9 : w2.cell? ⟨p, 0, none⟩ = some (.int .i64 s.ends.i) := hv2.c0
    have f9 := hv2.fz 0
    have hr : RdV (w2.setCell ⟨p, 0, none⟩ (.int .i64 0)) p vw2 vs2 { s.ends with i := 0 } := hv2.set 0 _ rfl rfl rfl
    have hbl : Below p w (w2.setCell ⟨p, 0, none⟩ (.int .i64 0)) := below_setp hb2 (Nat.le_refl _) (by omega) 0 _
    have HR := Hid.mk (And.intro hr hbl)
    clear hr hbl hv2 hb2 he
    go_wp2
    go_end0
    exact ⟨rfl, ⟨_, _, HR.out.1⟩, HR.out.2⟩
  · rw [show blank 9 = true from rfl, if_pos rfl]
    show Calls Tryd.prog 16 #[.pointer (some ⟨p, 0, none⟩), .int .u8 9] w _
    have he := rends_any p s w h hl2
    obtain ⟨vw, vs, hv⟩ := h
    have c0 := hv.c0
    rw [hi] at c0
    clear hv
    go_enter Tryd.func16, Tryd.ntmps16
    go_wp2_with fail
    refine he.mono ?_
    rintro e w2 ⟨rfl, ⟨vw2, vs2, hv2⟩, hb2⟩
    have hlt2 := hv2.lt
    have c9 : w2.cell? ⟨p, 0, none⟩ = some (.int .i64 s.ends.i) := hv2.c0
    have f9 := hv2.fz 0
    have hr : RdV (w2.setCell ⟨p, 0, none⟩ (.int .i64 0)) p vw2 vs2 { s.ends with i := 0 } := hv2.set 0 _ rfl rfl rfl
    have hbl : Below p w (w2.setCell ⟨p, 0, none⟩ (.int .i64 0)) := below_setp hb2 (Nat.le_refl _) (by omega) 0 _
    have HR := Hid.mk (And.intro hr hbl)
    clear hr hbl hv2 hb2 he
    go_wp2
    go_end0
    exact ⟨rfl, ⟨_, _, HR.out.1⟩, HR.out.2⟩
  · rw [hb, if_neg (by simp)]
    have hc := rplain_any p s c w h hl
    obtain ⟨vw, vs, hv⟩ := h
    have c0 := hv.c0
    rw [hi] at c0
    clear hv
    go_enter Tryd.func16, Tryd.ntmps16
    go_wp2_with fail
    refine hc.mono ?_
    rintro e w2 ⟨rfl, hrd, hb2⟩
    have HQ := Hid.mk (And.intro hrd hb2)
    clear hrd hb2
    go_wp2
    go_end0
    exact ⟨rfl, HQ.out.1, HQ.out.2⟩
set_option maxRecDepth 20000 in
set_option maxHeartbeats 4000000 in
theorem rnext_high (p : Nat) (s : RS) (c : UInt8) (w : World) (h : Rd w p s) (hi : s.i = 4) :
    Calls Tryd.prog 16 #[.pointer (some ⟨p, 0, none⟩), .int .u8 c.toNat] w fun e w' => e = .returned (.tuple #[]) ∧ Rd w' p (s.next c) ∧ Below p w w' := by
  have hn : s.next c = { s with d := hexI c.toNat, i := 5, bad := s.bad || decide (hexI c.toNat < 0) } := by unfold RS.next; rw [if_neg (by rw [hi]; decide), if_neg (by rw [hi]; decide), if_neg (by rw [hi]; decide), if_neg (by rw [hi]; decide), if_pos hi]
  rw [hn]
  have hx := rhex_any c.toNat c.toNat_lt
  obtain ⟨vw, vs, hv⟩ := h
  have hlt := hv.lt
  have c0 := hv.c0
  rw [hi] at c0
  have c3 := hv.c3
  have f3 := hv.fz 3
  have hv1 : RdV (w.setCell ⟨p, 3, none⟩ (.int .i64 (hexI c.toNat))) p vw vs { s with d := hexI c.toNat } := hv.set 3 _ rfl rfl rfl
  have d0 := hv1.c0
  rw [show ({ s with d := hexI c.toNat } : RS).i = 4 from hi] at d0
  have g0 := hv1.fz 0
  have hlt1 := hv1.lt
  have hb1 : Below p w (w.setCell ⟨p, 3, none⟩ (.int .i64 (hexI c.toNat))) := below_setp (Below.refl _ _) (Nat.le_refl _) (by omega) 3 _
  have hv2 : RdV ((w.setCell ⟨p, 3, none⟩ (.int .i64 (hexI c.toNat))).setCell ⟨p, 0, none⟩ (.int .i64 5)) p vw vs { s with d := hexI c.toNat, i := 5 } := hv1.set 0 _ rfl rfl rfl
  have hb2 := below_setp hb1 (Nat.le_refl p) (by omega) 0 (.int .i64 5)
  have hlt2 := hv2.lt
  have e3 := hv2.c3
  have e4 := hv2.c4
  have g4 := hv2.fz 4
  have hv3 : RdV (((w.setCell ⟨p, 3, none⟩ (.int .i64 (hexI c.toNat))).setCell ⟨p, 0, none⟩ (.int .i64 5)).setCell ⟨p, 4, none⟩ (.bool true)) p vw vs { s with d := hexI c.toNat, i := 5, bad := true } := hv2.set 4 _ rfl rfl rfl
  have hb3 := below_setp hb2 (Nat.le_refl p) (by omega) 4 (.bool true)
  have HR := Hid.mk (And.intro (And.intro hv2 hb2) (And.intro hv3 hb3))
  clear hv hv1 hv2 hv3 hb1 hb2 hb3
  generalize hexI c.toNat = X at *
  by_cases hneg : X < 0
  · go_enter Tryd.func16, Tryd.ntmps16
    go_wp2_with fail
    refine (hx _).mono ?_
    rintro e w2 ⟨rfl, hw⟩
    subst hw
    go_wp2
    go_end0
    have h9 : Rd _ p _ := ⟨_, _, HR.out.2.1⟩
    refine ⟨rfl, ?_, HR.out.2.2⟩
    rw [show (s.bad || decide (X < 0)) = true by simp [hneg]]
    exact h9
  · go_enter Tryd.func16, Tryd.ntmps16
    go_wp2_with fail
    refine (hx _).mono ?_
    rintro e w2 ⟨rfl, hw⟩
    subst hw
    go_wp2
    go_end0
    have h9 : Rd _ p _ := ⟨_, _, HR.out.1.1⟩
    refine ⟨rfl, ?_, HR.out.1.2⟩
    rw [show (s.bad || decide (X < 0)) = s.bad by rw [decide_eq_false (by omega)]; simp]
    exact h9
theorem rnext_behind (p : Nat) (s : RS) (c : UInt8) (w : World) (h : Rd w p s) (hi : s.i = 6) :
    Calls Tryd.prog 16 #[.pointer (some ⟨p, 0, none⟩), .int .u8 c.toNat] w fun e w' => e = .returned (.tuple #[]) ∧ Rd w' p (s.next c) ∧ Below p w w' := by
  have hn : s.next c = { s with bad := s.bad || !blank c, i := 0 } := by unfold RS.next; rw [if_neg (by rw [hi]; decide), if_neg (by rw [hi]; decide), if_neg (by rw [hi]; decide), if_neg (by rw [hi]; decide), if_neg (by rw [hi]; decide), if_neg (by rw [hi]; decide), if_pos hi]
  rw [hn]
  obtain ⟨vw, vs, hv⟩ := h
  have hlt := hv.lt
  have c0 := hv.c0
  rw [hi] at c0
  have f0 := hv.fz 0
  rcases (show blank c = true ∨ blank c = false by cases blank c <;> simp) with hb | hb
  · rw [hb, show (s.bad || !true) = s.bad by simp]
    have hr : RdV (w.setCell ⟨p, 0, none⟩ (.int .i64 0)) p vw vs { s with i := 0 } := hv.set 0 _ rfl rfl rfl
    have hbl : Below p w (w.setCell ⟨p, 0, none⟩ (.int .i64 0)) := below_setp (Below.refl _ _) (Nat.le_refl _) (by omega) 0 _
    have HR := Hid.mk (And.intro hr hbl)
    clear hr hbl hv
    rcases blank_cases c with rfl | rfl | ⟨hb', _, _⟩
    · show Calls Tryd.prog 16 #[.pointer (some ⟨p, 0, none⟩), .int .u8 32] w _
      go_enter Tryd.func16, Tryd.ntmps16
      go_wp2
      go_end0
      exact ⟨rfl, ⟨_, _, HR.out.1⟩, HR.out.2⟩
    · show Calls Tryd.prog 16 #[.pointer (some ⟨p, 0, none⟩), .int .u8 9] w _
      go_enter Tryd.func16, Tryd.ntmps16
      go_wp2
      go_end0
      exact ⟨rfl, ⟨_, _, HR.out.1⟩, HR.out.2⟩
    · rw [hb] at hb'
      cases hb'
  · rw [hb, show (s.bad || !false) = true by simp]
    have c4 := hv.c4
    have f4 := hv.fz 4
    have hv1 : RdV (w.setCell ⟨p, 4, none⟩ (.bool true)) p vw vs { s with bad := true } := hv.set 4 _ rfl rfl rfl
    have hb1 : Below p w (w.setCell ⟨p, 4, none⟩ (.bool true)) := below_setp (Below.refl _ _) (Nat.le_refl _) (by omega) 4 _
    have hlt1 := hv1.lt
    have d0 := hv1.c0
    rw [show ({ s with bad := true } : RS).i = 6 from hi] at d0
    have g0 := hv1.fz 0
    have hv2 : RdV ((w.setCell ⟨p, 4, none⟩ (.bool true)).setCell ⟨p, 0, none⟩ (.int .i64 0)) p vw vs { s with bad := true, i := 0 } := hv1.set 0 _ rfl rfl rfl
    have hb2 := below_setp hb1 (Nat.le_refl p) (by omega) 0 (.int .i64 0)
    have HR := Hid.mk (And.intro hv2 hb2)
    rcases blank_cases c with rfl | rfl | ⟨_, q1, q2⟩
    · cases hb
    · cases hb
    · have q1' : ((c.toNat : Int) != 32) = true := by simpa [bne] using q1
      have q2' : ((c.toNat : Int) != 9) = true := by simpa [bne] using q2
      clear hv hv1 hv2 hb1 hb2
      go_enter Tryd.func16, Tryd.ntmps16
      go_wp2
      go_end0
      exact ⟨rfl, ⟨_, _, HR.out.1⟩, HR.out.2⟩
theorem rnext_note (p : Nat) (s : RS) (c : UInt8) (w : World) (h : Rd w p s) (hi : s.i = 7) :
    Calls Tryd.prog 16 #[.pointer (some ⟨p, 0, none⟩), .int .u8 c.toNat] w fun e w' => e = .returned (.tuple #[]) ∧ Rd w' p (s.next c) ∧ Below p w w' := by
  have hn : s.next c = s := by unfold RS.next; rw [if_neg (by rw [hi]; decide), if_neg (by rw [hi]; decide), if_neg (by rw [hi]; decide), if_neg (by rw [hi]; decide), if_neg (by rw [hi]; decide), if_neg (by rw [hi]; decide), if_neg (by rw [hi]; decide)]
  rw [hn]
  have HH := Hid.mk h
  obtain ⟨vw, vs, hv⟩ := h
  have c0 := hv.c0
  rw [hi] at c0
  clear hv
  go_enter Tryd.func16, Tryd.ntmps16
  go_wp2
  go_end0
  exact ⟨rfl, HH.out, Below.refl _ _⟩
set_option maxRecDepth 20000 in
set_option maxHeartbeats 8000000 in
theorem rnext_low (p : Nat) (s : RS) (c : UInt8) (w : World) (h : Rd w p s) (hl : s.wd.length ≤ 100000000) (hi : s.i = 5) (k : Nat) (hk : k < 16) (hd : s.d = (k : Int)) :
    Calls Tryd.prog 16 #[.pointer (some ⟨p, 0, none⟩), .int .u8 c.toNat] w fun e w' => e = .returned (.tuple #[]) ∧ Rd w' p (s.next c) ∧ Below p w w' := by
  have hn : s.next c = (if hexI c.toNat < 0 then { s with bad := true, i := 2 } else { s with wd := s.wd ++ [UInt8.ofNat (16 * s.d + hexI c.toNat).toNat], i := 2 }) := by unfold RS.next; rw [if_neg (by rw [hi]; decide), if_neg (by rw [hi]; decide), if_neg (by rw [hi]; decide), if_neg (by rw [hi]; decide), if_neg (by rw [hi]; decide), if_pos hi]
  rw [hn]
  have hx := rhex_any c.toNat c.toNat_lt
  obtain ⟨vw, vs, hv⟩ := h
  have hlt := hv.lt
  have c0 := hv.c0
  rw [hi] at c0
  cases hN : hexN c.toNat with
  | none =>
    have hX : hexI c.toNat = -1 := by unfold hexI; rw [hN]
    rw [hX] at hx
    rw [hX, if_pos (by decide)]
    have c4 := hv.c4
    have f4 := hv.fz 4
    have hv1 : RdV (w.setCell ⟨p, 4, none⟩ (.bool true)) p vw vs { s with bad := true } := hv.set 4 _ rfl rfl rfl
    have hb1 : Below p w (w.setCell ⟨p, 4, none⟩ (.bool true)) := below_setp (Below.refl _ _) (Nat.le_refl _) (by omega) 4 _
    have hlt1 := hv1.lt
    have d0 := hv1.c0
    rw [show ({ s with bad := true } : RS).i = 5 from hi] at d0
    have g0 := hv1.fz 0
    have hv2 : RdV ((w.setCell ⟨p, 4, none⟩ (.bool true)).setCell ⟨p, 0, none⟩ (.int .i64 2)) p vw vs { s with bad := true, i := 2 } := hv1.set 0 _ rfl rfl rfl
    have hb2 := below_setp hb1 (Nat.le_refl p) (by omega) 0 (.int .i64 2)
    have HR := Hid.mk (And.intro hv2 hb2)
    clear hv hv1 hv2 hb1 hb2 hN hX hn
    go_enter Tryd.func16, Tryd.ntmps16
    go_wp2_with fail
    refine (hx _).mono ?_
    rintro e w2 ⟨rfl, hw⟩
    subst hw
    go_wp2
    go_end0
    exact ⟨rfl, ⟨_, _, HR.out.1⟩, HR.out.2⟩
  | some j =>
    have hj := hexN_lt hN
    have hX : hexI c.toNat = (j : Int) := by unfold hexI; rw [hN]
    rw [hX] at hx
    rw [hX, if_neg (by omega), hd, show ((16 * (k : Int) + (j : Int)).toNat) = 16 * k + j by omega]
    have hjn : ¬ ((j : Int) < 0) := by omega
    have m1 : wrap64 (16 * (k : Int)) = ((16 * k : Nat) : Int) := by simp [wrap64]; omega
    have m2 : wrap64 (((16 * k : Nat) : Int) + (j : Int)) = ((16 * k + j : Nat) : Int) := by simp [wrap64]; omega
    have m3 : IntKind.u8.wrap ((16 * k + j : Nat) : Int) = ((16 * k + j : Nat) : Int) := by rw [IntKind.wrap_u8]; omega
    have m1' : IntKind.i64.wrap (16 * (k : Int)) = 16 * (k : Int) := by rw [IntKind.wrap_i64]; omega
    have m2' : IntKind.i64.wrap (16 * (k : Int) + (j : Int)) = ((16 * k + j : Nat) : Int) := by rw [IntKind.wrap_i64]; omega
    have hbyte : ((UInt8.ofNat (16 * k + j)).toNat : Int) = ((16 * k + j : Nat) : Int) := by rw [UInt8.toNat_ofNat']; omega
    have hvd : RdV w.drew p vw vs s := ⟨hv.blk, hv.own, hv.told⟩
    have hS0 : w.drew.cell? ⟨p, 1, none⟩ = some vw ∧ w.drew.cell? ⟨p, 3, none⟩ = some (.int .i64 (k : Int)) := ⟨hvd.c1, by rw [← hd]; exact hvd.c3⟩
    obtain ⟨i0, hi0, hz0, hz1, hz2⟩ := info_parts infoU8
    have ho0 : w.drew.ownsRow (p + 1) 5 1 vw (ub s.wd).length (bs (ub s.wd)) := hvd.own
    obtain ⟨v2, w3, hap, hrow, hgrw, _⟩ := run_append_own (P := Tryd.prog) (w.drew.alloc (.cells #[.int .u8 ((16 * k + j : Nat) : Int)] 5)) (p + 1) 23 23 5 i0 (.int .u8 0) 1 1 Tryd.underlying23 hi0 hz0 hz1 hz2 rfl (by decide) vw (ub s.wd).length (bs (ub s.wd)) (ho0.alloc _) ⟨w.drew.heap.size, 0, none⟩ 1 1 [.int .u8 ((16 * k + j : Nat) : Int)] rfl (cell_one_new _ _ _) (by intro u hu; simp at hu; subst hu; rfl) (by rw [ub_len]; unfold maxLen; omega) (by rw [ub_len]; omega) (by simp; omega)
    have ho2 : Own w3 (p + 1) v2 (ub s.wd ++ [((UInt8.ofNat (16 * k + j)).toNat : Int)]) := by
      rw [hbyte]
      rw [bs_snoc] at hrow
      exact own_of hrow (by simp) rfl
    have hG : Grw w.drew w3 vw := Grw.of hgrw
    obtain ⟨hb3, hr4, hbl3, hbl4⟩ := hvd.app hG ho2
    obtain ⟨g2, k2, rfl, _, _⟩ := ho2.row' (by simp)
    generalize (ub s.wd ++ [((UInt8.ofNat (16 * k + j)).toNat : Int)]).length = n2 at *
    have hbA : Below w.drew.heap.size w.drew (w.drew.alloc (.cells #[.int .u8 ((16 * k + j : Nat) : Int)] 5)) := (Below.refl _ _).alloc (Nat.le_refl _) _
    have HSa : Hid ((w.drew.alloc (.cells #[.int .u8 ((16 * k + j : Nat) : Int)] 5)).cell? ⟨p, 1, none⟩ = some vw ∧ (w.drew.alloc (.cells #[.int .u8 ((16 * k + j : Nat) : Int)] 5)).cell? ⟨p, 3, none⟩ = some (.int .i64 (k : Int))) := Hid.mk ⟨cell_later hbA hS0.1, cell_later hbA hS0.2⟩
    have e1 : w3.cell? ⟨p, 1, none⟩ = some vw := cell_of_block hb3 (j := 1) rfl
    have e3 : w3.cell? ⟨p, 3, none⟩ = some (.int .i64 (k : Int)) := by rw [← hd]; exact cell_of_block hb3 (j := 3) rfl
    have f1 : w3.frozen? ⟨p, 1, none⟩ = false := frozen_of_block hb3 1
    have HSb : Hid (w3.cell? ⟨p, 1, none⟩ = some vw ∧ w3.cell? ⟨p, 3, none⟩ = some (.int .i64 (k : Int))) := Hid.mk ⟨e1, e3⟩
    have HAP := Hid.mk hap
    have d0 := hr4.c0
    rw [show ({ s with wd := s.wd ++ [UInt8.ofNat (16 * k + j)] } : RS).i = 5 from hi] at d0
    have g0 := hr4.fz 0
    have hlt4 := hr4.lt
    have hv5 : RdV ((w3.setCell ⟨p, 1, none⟩ (.slice (some ⟨g2, 0, none⟩) n2 k2)).setCell ⟨p, 0, none⟩ (.int .i64 2)) p (.slice (some ⟨g2, 0, none⟩) n2 k2) vs { s with wd := s.wd ++ [UInt8.ofNat (16 * k + j)], i := 2 } := hr4.set 0 _ rfl rfl rfl
    have hb5 : Below p w ((w3.setCell ⟨p, 1, none⟩ (.slice (some ⟨g2, 0, none⟩) n2 k2)).setCell ⟨p, 0, none⟩ (.int .i64 2)) := below_setp ((below_drew (Below.refl p w)).trans hbl4) (Nat.le_refl p) (by omega) 0 (.int .i64 2)
    have HR := Hid.mk (And.intro hv5 hb5)
    clear hv hvd ho0 hap hrow hgrw ho2 hG hb3 hr4 hbl3 hbl4 hbA hv5 hb5 hN hX hn hbyte
    generalize 16 * k + j = M2 at *
    go_enter Tryd.func16, Tryd.ntmps16
    go_wp2_with fail
    refine (hx _).mono ?_
    rintro e w2 ⟨rfl, hw⟩
    subst hw
    go_wp2
    refine wp_region_sw 17 (fun w' => w'.cell? ⟨p, 1, none⟩ = some vw ∧ w'.cell? ⟨p, 3, none⟩ = some (.int .i64 (k : Int))) (by kernel_rfl) hS0 (fun hHeld => ?_)
    refine wpAnyS_pure (i := 0) (oi := { dst := some 67, op := Op.move (Operand.tmp 0), type := 42, pos := "words.go:136", after := #[], guard := none }) (v := .pointer (some ⟨p, 0, none⟩)) rfl (by decide) (by kernel_rfl) (by kernel_rfl) (by kernel_rfl) (fun _ _ _ h => h) (Or.inl ⟨by rfl, ?_⟩) (Or.inr hHeld) ?_
    · intro w hSw
      clear hSw
      go_simp
    try simp only [Act.put, List.setIfInBounds_toArray, List.set_cons_zero, List.set_cons_succ]
    refine wpAnyS_pure (i := 1) (oi := { dst := some 68, op := Op.move (Operand.tmp 0), type := 42, pos := "words.go:136", after := #[], guard := none }) (v := .pointer (some ⟨p, 0, none⟩)) rfl (by decide) (by kernel_rfl) (by kernel_rfl) (by kernel_rfl) (fun _ _ _ h => h) (Or.inl ⟨by rfl, ?_⟩) (Or.inr hHeld) ?_
    · intro w hSw
      clear hSw
      go_simp
    try simp only [Act.put, List.setIfInBounds_toArray, List.set_cons_zero, List.set_cons_succ]
    refine wpAnyS_pure (i := 2) (oi := { dst := some 69, op := Op.nilCheck (Operand.tmp 68), type := 0, pos := "words.go:136", after := #[{ on := 1, ground := Ground.data }], guard := none }) (v := .pointer (some ⟨p, 0, none⟩)) rfl (by decide) (by kernel_rfl) (by kernel_rfl) (by kernel_rfl) (fun _ _ _ h => h) (Or.inl ⟨by rfl, ?_⟩) (Or.inr hHeld) ?_
    · intro w hSw
      clear hSw
      go_simp
    try simp only [Act.put, List.setIfInBounds_toArray, List.set_cons_zero, List.set_cons_succ]
    refine wpAnyS_pure (i := 3) (oi := { dst := some 70, op := Op.fieldAddr 44 (Operand.tmp 69) 1, type := 0, pos := "words.go:136", after := #[{ on := 2, ground := Ground.data }], guard := none }) (v := .pointer (some ⟨p, 1, none⟩)) rfl (by decide) (by kernel_rfl) (by kernel_rfl) (by kernel_rfl) (fun _ _ _ h => h) (Or.inl ⟨by rfl, ?_⟩) (Or.inr hHeld) ?_
    · intro w hSw
      clear hSw
      go_simp
    try simp only [Act.put, List.setIfInBounds_toArray, List.set_cons_zero, List.set_cons_succ]
    refine wpAnyS_load (i := 4) (oi := { dst := some 71, op := Op.load 23 (Operand.tmp 70), type := 23, pos := "words.go:136", after := #[{ on := 3, ground := Ground.data }], guard := none }) (v := vw) rfl (by decide) (by kernel_rfl) (by kernel_rfl) (by kernel_rfl) (by kernel_rfl) (fun _ _ _ h => h) (Or.inl ⟨by rfl, ?_⟩) (by rfl) hHeld ?_
    · intro w hSw
      (try dsimp only at hSw)
      go_simp
    try simp only [Act.put, List.setIfInBounds_toArray, List.set_cons_zero, List.set_cons_succ]
    refine wpAnyS_pure (i := 5) (oi := { dst := some 72, op := Op.move (Operand.tmp 0), type := 42, pos := "words.go:136", after := #[], guard := none }) (v := .pointer (some ⟨p, 0, none⟩)) rfl (by decide) (by kernel_rfl) (by kernel_rfl) (by kernel_rfl) (fun _ _ _ h => h) (Or.inl ⟨by rfl, ?_⟩) (Or.inr hHeld) ?_
    · intro w hSw
      clear hSw
      go_simp
    try simp only [Act.put, List.setIfInBounds_toArray, List.set_cons_zero, List.set_cons_succ]
    refine wpAnyS_pure (i := 6) (oi := { dst := some 73, op := Op.nilCheck (Operand.tmp 72), type := 0, pos := "words.go:136", after := #[{ on := 5, ground := Ground.data }], guard := none }) (v := .pointer (some ⟨p, 0, none⟩)) rfl (by decide) (by kernel_rfl) (by kernel_rfl) (by kernel_rfl) (fun _ _ _ h => h) (Or.inl ⟨by rfl, ?_⟩) (Or.inr hHeld) ?_
    · intro w hSw
      clear hSw
      go_simp
    try simp only [Act.put, List.setIfInBounds_toArray, List.set_cons_zero, List.set_cons_succ]
    refine wpAnyS_pure (i := 7) (oi := { dst := some 74, op := Op.fieldAddr 44 (Operand.tmp 73) 3, type := 0, pos := "words.go:136", after := #[{ on := 6, ground := Ground.data }], guard := none }) (v := .pointer (some ⟨p, 3, none⟩)) rfl (by decide) (by kernel_rfl) (by kernel_rfl) (by kernel_rfl) (fun _ _ _ h => h) (Or.inl ⟨by rfl, ?_⟩) (Or.inr hHeld) ?_
    · intro w hSw
      clear hSw
      go_simp
    try simp only [Act.put, List.setIfInBounds_toArray, List.set_cons_zero, List.set_cons_succ]
    refine wpAnyS_load (i := 8) (oi := { dst := some 75, op := Op.load 3 (Operand.tmp 74), type := 3, pos := "words.go:136", after := #[{ on := 7, ground := Ground.data }], guard := none }) (v := .int .i64 (k : Int)) rfl (by decide) (by kernel_rfl) (by kernel_rfl) (by kernel_rfl) (by kernel_rfl) (fun _ _ _ h => h) (Or.inl ⟨by rfl, ?_⟩) (by rfl) hHeld ?_
    · intro w hSw
      (try dsimp only at hSw)
      go_simp
    try simp only [Act.put, List.setIfInBounds_toArray, List.set_cons_zero, List.set_cons_succ]
    refine wpAnyS_pure (i := 9) (oi := { dst := some 76, op := Op.binOp BinOp.mul 3 (Operand.const (Value.int IntKind.i64 16)) (Operand.tmp 75) 3, type := 3, pos := "words.go:136", after := #[{ on := 8, ground := Ground.data }], guard := none }) (v := .int .i64 ((16 * k : Nat) : Int)) rfl (by decide) (by kernel_rfl) (by kernel_rfl) (by kernel_rfl) (fun _ _ _ h => h) (Or.inl ⟨by rfl, ?_⟩) (Or.inr hHeld) ?_
    · intro w hSw
      clear hSw
      go_simp
    try simp only [Act.put, List.setIfInBounds_toArray, List.set_cons_zero, List.set_cons_succ]
    refine wpAnyS_pure (i := 10) (oi := { dst := some 77, op := Op.move (Operand.tmp 4), type := 3, pos := "words.go:136", after := #[], guard := none }) (v := .int .i64 (j : Int)) rfl (by decide) (by kernel_rfl) (by kernel_rfl) (by kernel_rfl) (fun _ _ _ h => h) (Or.inl ⟨by rfl, ?_⟩) (Or.inr hHeld) ?_
    · intro w hSw
      clear hSw
      go_simp
    try simp only [Act.put, List.setIfInBounds_toArray, List.set_cons_zero, List.set_cons_succ]
    refine wpAnyS_pure (i := 11) (oi := { dst := some 78, op := Op.binOp BinOp.add 3 (Operand.tmp 76) (Operand.tmp 77) 3, type := 3, pos := "words.go:136", after := #[{ on := 9, ground := Ground.data }, { on := 10, ground := Ground.data }], guard := none }) (v := .int .i64 (M2 : Int)) rfl (by decide) (by kernel_rfl) (by kernel_rfl) (by kernel_rfl) (fun _ _ _ h => h) (Or.inl ⟨by rfl, ?_⟩) (Or.inr hHeld) ?_
    · intro w hSw
      clear hSw
      go_simp
    try simp only [Act.put, List.setIfInBounds_toArray, List.set_cons_zero, List.set_cons_succ]
    refine wpAnyS_pure (i := 12) (oi := { dst := some 79, op := Op.convert 3 5 (Operand.tmp 78), type := 5, pos := "words.go:136", after := #[{ on := 11, ground := Ground.data }], guard := none }) (v := .int .u8 (M2 : Int)) rfl (by decide) (by kernel_rfl) (by kernel_rfl) (by kernel_rfl) (fun _ _ _ h => h) (Or.inl ⟨by rfl, ?_⟩) (Or.inr hHeld) ?_
    · intro w hSw
      clear hSw
      go_simp
    try simp only [Act.put, List.setIfInBounds_toArray, List.set_cons_zero, List.set_cons_succ]
    refine wpAnyS_one (i := 13) (o := { dst := some 80, op := Op.buildSlice 23 1 #[(0, Operand.tmp 79)], type := 23, pos := "words.go:136", after := #[{ on := 12, ground := Ground.data }], guard := none }) (by kernel_rfl) rfl (fun K hK => ?_)
    go_simp
    refine hK.out _ _ (Or.inr HSa.out) ?_
    clear hK K
    try simp only [Act.put, List.setIfInBounds_toArray, List.set_cons_zero, List.set_cons_succ]
    refine wpAnyS_one (i := 14) (o := { dst := some 81, op := Op.call { callee := Callee.builtin Builtin.append, args := #[Operand.tmp 71, Operand.tmp 80], argTypes := #[23, 23] }, type := 23, pos := "words.go:136", after := #[{ on := 4, ground := Ground.data }, { on := 13, ground := Ground.data }], guard := none }) (by kernel_rfl) rfl (fun K hK => ?_)
    rw [if_pos (by rfl)]
    refine sw_append_run _ _ _ rfl (vw) (.slice (some ⟨_, 0, none⟩) 1 1) _ rfl rfl HAP.out ?_
    refine hK.out _ _ (Or.inr HSb.out) ?_
    clear hK K
    try simp only [Act.put, List.setIfInBounds_toArray, List.set_cons_zero, List.set_cons_succ]
    refine wpAnyS_pure (i := 15) (oi := { dst := some 82, op := Op.nilCheck (Operand.tmp 67), type := 0, pos := "words.go:136", after := #[{ on := 0, ground := Ground.data }, { on := 0, ground := Ground.phase }, { on := 1, ground := Ground.phase }, { on := 2, ground := Ground.phase }, { on := 3, ground := Ground.phase }, { on := 4, ground := Ground.phase }, { on := 5, ground := Ground.phase }, { on := 6, ground := Ground.phase }, { on := 7, ground := Ground.phase }, { on := 8, ground := Ground.phase }, { on := 9, ground := Ground.phase }, { on := 10, ground := Ground.phase }, { on := 11, ground := Ground.phase }, { on := 12, ground := Ground.phase }, { on := 13, ground := Ground.phase }, { on := 14, ground := Ground.phase }], guard := none }) (v := .pointer (some ⟨p, 0, none⟩)) rfl (by decide) (by kernel_rfl) (by kernel_rfl) (by kernel_rfl) (fun _ _ _ h => h) (Or.inl ⟨by rfl, ?_⟩) (Or.inr HSb.out) ?_
    · intro w hSw
      clear hSw
      go_simp
    try simp only [Act.put, List.setIfInBounds_toArray, List.set_cons_zero, List.set_cons_succ]
    refine wpAnyS_pure (i := 16) (oi := { dst := some 83, op := Op.fieldAddr 44 (Operand.tmp 82) 1, type := 0, pos := "words.go:136", after := #[{ on := 15, ground := Ground.data }, { on := 0, ground := Ground.phase }, { on := 1, ground := Ground.phase }, { on := 2, ground := Ground.phase }, { on := 3, ground := Ground.phase }, { on := 4, ground := Ground.phase }, { on := 5, ground := Ground.phase }, { on := 6, ground := Ground.phase }, { on := 7, ground := Ground.phase }, { on := 8, ground := Ground.phase }, { on := 9, ground := Ground.phase }, { on := 10, ground := Ground.phase }, { on := 11, ground := Ground.phase }, { on := 12, ground := Ground.phase }, { on := 13, ground := Ground.phase }, { on := 14, ground := Ground.phase }], guard := none }) (v := .pointer (some ⟨p, 1, none⟩)) rfl (by decide) (by kernel_rfl) (by kernel_rfl) (by kernel_rfl) (fun _ _ _ h => h) (Or.inl ⟨by rfl, ?_⟩) (Or.inr HSb.out) ?_
    · intro w hSw
      clear hSw
      go_simp
    try simp only [Act.put, List.setIfInBounds_toArray, List.set_cons_zero, List.set_cons_succ]
    refine wpAnyS_one (i := 17) (o := { dst := none, op := Op.store 23 (Operand.tmp 83) (Operand.tmp 81), type := 0, pos := "words.go:136", after := #[{ on := 16, ground := Ground.data }, { on := 14, ground := Ground.data }, { on := 14, ground := Ground.chain }, { on := 0, ground := Ground.phase }, { on := 1, ground := Ground.phase }, { on := 2, ground := Ground.phase }, { on := 3, ground := Ground.phase }, { on := 4, ground := Ground.phase }, { on := 5, ground := Ground.phase }, { on := 6, ground := Ground.phase }, { on := 7, ground := Ground.phase }, { on := 8, ground := Ground.phase }, { on := 9, ground := Ground.phase }, { on := 10, ground := Ground.phase }, { on := 11, ground := Ground.phase }, { on := 12, ground := Ground.phase }, { on := 13, ground := Ground.phase }, { on := 14, ground := Ground.phase }], guard := none }) (by kernel_rfl) rfl (fun K hK => ?_)
    go_simp
    refine hK.out _ _ (Or.inl (by rfl)) ?_
    clear hK K
    try simp only [Act.put, List.setIfInBounds_toArray, List.set_cons_zero, List.set_cons_succ]
    refine wpAnyS_done (by kernel_rfl) ?_ _
    go_wp2
    go_end0
    have h9 := HR.out.1
    rw [hd] at h9
    exact ⟨rfl, ⟨_, _, h9⟩, HR.out.2⟩
end Go.Proofs.YtalokopnagpgcaaDoor
