import Derived.Test.YtalokopnagpgcaaDoorSJ4
namespace Go.Proofs.YtalokopnagpgcaaDoor
open Go.RowKit Go.Maps

theorem blank_cases (c : UInt8) : c = 32 ∨ c = 9 ∨ (blank c = false ∧ ((c.toNat : Int) == 32) = false ∧ ((c.toNat : Int) == 9) = false) := by
  by_cases h1 : c = 32
  · exact .inl h1
  · by_cases h2 : c = 9
    · exact .inr (.inl h2)
    · exact .inr (.inr ⟨by simp [blank, h1, h2], ne_lit (k := 32) h1, ne_lit (k := 9) h2⟩)
def RS.first (s : RS) (c : UInt8) : RS := if blank c then { s with i := 0 } else if c = 35 then { s with i := 7 } else if c = 34 then { s with i := 2 } else RS.plain { s with i := 1 } c
set_option maxRecDepth 20000 in
set_option maxHeartbeats 4000000 in
theorem rfirst_any (p : Nat) (s : RS) (c : UInt8) (w : World) (h : Rd w p s) (hl : s.wd.length ≤ 100000000) :
    Calls Tryd.prog 21 #[.pointer (some ⟨p, 0, none⟩), .int .u8 c.toNat] w fun e w' => e = .returned (.tuple #[]) ∧ Rd w' p (s.first c) ∧ Below p w w' := by
  obtain ⟨vw, vs, hv⟩ := h
  have hlt := hv.lt
  rcases blank_cases c with rfl | rfl | ⟨hb, q1, q2⟩
  · show Calls Tryd.prog 21 #[.pointer (some ⟨p, 0, none⟩), .int .u8 32] w _
    have c9 := hv.c0
    have f9 := hv.fz 0
    have hr : RdV (w.setCell ⟨p, 0, none⟩ (.int .i64 0)) p vw vs { s with i := 0 } := hv.set 0 _ rfl rfl rfl
    have hb : Below p w (w.setCell ⟨p, 0, none⟩ (.int .i64 0)) := below_setp (Below.refl _ _) (Nat.le_refl _) (by omega) 0 _
    have HR := Hid.mk (And.intro hr hb)
    clear hr hb hv
    go_enter Tryd.func21, Tryd.ntmps21
    go_wp2
    go_end0
    exact ⟨rfl, ⟨_, _, HR.out.1⟩, HR.out.2⟩
  · show Calls Tryd.prog 21 #[.pointer (some ⟨p, 0, none⟩), .int .u8 9] w _
    have c9 := hv.c0
    have f9 := hv.fz 0
    have hr : RdV (w.setCell ⟨p, 0, none⟩ (.int .i64 0)) p vw vs { s with i := 0 } := hv.set 0 _ rfl rfl rfl
    have hb : Below p w (w.setCell ⟨p, 0, none⟩ (.int .i64 0)) := below_setp (Below.refl _ _) (Nat.le_refl _) (by omega) 0 _
    have HR := Hid.mk (And.intro hr hb)
    clear hr hb hv
    go_enter Tryd.func21, Tryd.ntmps21
    go_wp2
    go_end0
    exact ⟨rfl, ⟨_, _, HR.out.1⟩, HR.out.2⟩
  · by_cases h35 : c = 35
    · subst h35
      show Calls Tryd.prog 21 #[.pointer (some ⟨p, 0, none⟩), .int .u8 35] w _
      have c9 := hv.c0
      have f9 := hv.fz 0
      have hr : RdV (w.setCell ⟨p, 0, none⟩ (.int .i64 7)) p vw vs { s with i := 7 } := hv.set 0 _ rfl rfl rfl
      have hb : Below p w (w.setCell ⟨p, 0, none⟩ (.int .i64 7)) := below_setp (Below.refl _ _) (Nat.le_refl _) (by omega) 0 _
      have HR := Hid.mk (And.intro hr hb)
      clear hr hb hv
      go_enter Tryd.func21, Tryd.ntmps21
      go_wp2
      go_end0
      exact ⟨rfl, ⟨_, _, HR.out.1⟩, HR.out.2⟩
    · have q3 : ((c.toNat : Int) == 35) = false := ne_lit (k := 35) h35
      by_cases h34 : c = 34
      · subst h34
        show Calls Tryd.prog 21 #[.pointer (some ⟨p, 0, none⟩), .int .u8 34] w _
        have c9 := hv.c0
        have f9 := hv.fz 0
        have hr : RdV (w.setCell ⟨p, 0, none⟩ (.int .i64 2)) p vw vs { s with i := 2 } := hv.set 0 _ rfl rfl rfl
        have hb : Below p w (w.setCell ⟨p, 0, none⟩ (.int .i64 2)) := below_setp (Below.refl _ _) (Nat.le_refl _) (by omega) 0 _
        have HR := Hid.mk (And.intro hr hb)
        clear hr hb hv
        go_enter Tryd.func21, Tryd.ntmps21
        go_wp2
        go_end0
        exact ⟨rfl, ⟨_, _, HR.out.1⟩, HR.out.2⟩
      · have q4 : ((c.toNat : Int) == 34) = false := ne_lit (k := 34) h34
        have hf : s.first c = RS.plain { s with i := 1 } c := by
          unfold RS.first
          rw [hb, if_neg h35, if_neg h34]
          rfl
        rw [hf]
        have c9 := hv.c0
        have f9 := hv.fz 0
        have hr : RdV (w.setCell ⟨p, 0, none⟩ (.int .i64 1)) p vw vs { s with i := 1 } := hv.set 0 _ rfl rfl rfl
        have hbl : Below p w (w.setCell ⟨p, 0, none⟩ (.int .i64 1)) := below_setp (Below.refl _ _) (Nat.le_refl _) (by omega) 0 _
        have hp := rplain_any p { s with i := 1 } c _ ⟨_, _, hr⟩ hl
        have HR := Hid.mk hbl
        clear hr hbl hv
        go_enter Tryd.func21, Tryd.ntmps21
        go_wp2_with fail
        refine hp.mono ?_
        rintro e w2 ⟨rfl, hrd, hb2⟩
        have HQ := Hid.mk (And.intro hrd (HR.out.trans hb2))
        clear hrd hb2 hp
        go_wp2
        go_end0
        exact ⟨rfl, HQ.out.1, HQ.out.2⟩
def RS.inside (s : RS) (c : UInt8) : RS := if c = 34 then { s.ends with i := 6 } else if c = 92 then { s with i := 3 } else if plainB c then { s with wd := s.wd ++ [c] } else { s with bad := true }
set_option maxRecDepth 20000 in
set_option maxHeartbeats 4000000 in
theorem rinside_any (p : Nat) (s : RS) (c : UInt8) (w : World) (h : Rd w p s) (hl : s.wd.length ≤ 100000000) (hl2 : s.ws.length ≤ 100000000) :
    Calls Tryd.prog 23 #[.pointer (some ⟨p, 0, none⟩), .int .u8 c.toNat] w fun e w' => e = .returned (.tuple #[]) ∧ Rd w' p (s.inside c) ∧ Below p w w' := by
  have he := rends_any p s w h hl2
  obtain ⟨vw, vs, hv⟩ := h
  have hlt := hv.lt
  have hle : (ub s.wd).length ≤ 140737488355327 := by rw [ub_len]; omega
  by_cases h34 : c = 34
  · subst h34
    show Calls Tryd.prog 23 #[.pointer (some ⟨p, 0, none⟩), .int .u8 34] w _
    clear hv
    go_enter Tryd.func23, Tryd.ntmps23
    go_wp2_with fail
    refine he.mono ?_
    rintro e w2 ⟨rfl, ⟨vw2, vs2, hv2⟩, hb2⟩
    have hlt2 := hv2.lt
    have c9 := hv2.c0
    have f9 := hv2.fz 0
    have hr : RdV (w2.setCell ⟨p, 0, none⟩ (.int .i64 6)) p vw2 vs2 { s.ends with i := 6 } := hv2.set 0 _ rfl rfl rfl
    have hbl : Below p w (w2.setCell ⟨p, 0, none⟩ (.int .i64 6)) := below_setp hb2 (Nat.le_refl _) (by omega) 0 _
    have HR := Hid.mk (And.intro hr hbl)
    clear hr hbl hv2 hb2 he
    go_wp2
    go_end0
    exact ⟨rfl, ⟨_, _, HR.out.1⟩, HR.out.2⟩
  · have q1 : ((c.toNat : Int) == 34) = false := ne_lit (k := 34) h34
    by_cases h92 : c = 92
    · subst h92
      show Calls Tryd.prog 23 #[.pointer (some ⟨p, 0, none⟩), .int .u8 92] w _
      have c9 := hv.c0
      have f9 := hv.fz 0
      have hr : RdV (w.setCell ⟨p, 0, none⟩ (.int .i64 3)) p vw vs { s with i := 3 } := hv.set 0 _ rfl rfl rfl
      have hb : Below p w (w.setCell ⟨p, 0, none⟩ (.int .i64 3)) := below_setp (Below.refl _ _) (Nat.le_refl _) (by omega) 0 _
      have HR := Hid.mk (And.intro hr hb)
      clear hr hb hv
      go_enter Tryd.func23, Tryd.ntmps23
      go_wp2
      go_end0
      exact ⟨rfl, ⟨_, _, HR.out.1⟩, HR.out.2⟩
    · have q2 : ((c.toNat : Int) == 92) = false := ne_lit (k := 92) h92
      rcases plain_cases c with ⟨hp, x1, x2, _, _⟩ | ⟨hp, hc⟩
      · have hf : s.inside c = { s with wd := s.wd ++ [c] } := by unfold RS.inside; rw [if_neg h34, if_neg h92, if_pos hp]
        rw [hf]
        have c1 := hv.c1
        have HV := Hid.mk hv
        clear hv
        go_enter Tryd.func23, Tryd.ntmps23
        go_wp2_with (at_builtin; refine wpList_appg rfl (.tmp 8) (.tmp 10) rfl (p + 1) vw (ub s.wd) (c.toNat : Int) w.heap.size rfl rfl rfl HV.out.own hle (by omega) ?_)
        intro v2 w2 hown2 hg2
        obtain ⟨hb2, hr2, _, hbl2⟩ := HV.out.app (x := c) hg2 hown2
        obtain ⟨g2, k2, rfl, _, _⟩ := hown2.row' (by simp)
        generalize (ub s.wd ++ [(c.toNat : Int)]).length = n2 at *
        have d1 : w2.cell? ⟨p, 1, none⟩ = some vw := cell_of_block hb2 (j := 1) rfl
        have d2 : w2.frozen? ⟨p, 1, none⟩ = false := frozen_of_block hb2 1
        have HR := Hid.mk (And.intro hr2 hbl2)
        clear hb2 hr2 hbl2 hown2 hg2
        go_wp2
        go_end0
        exact ⟨rfl, ⟨_, _, HR.out.1⟩, HR.out.2⟩
      · have hf : s.inside c = { s with bad := true } := by unfold RS.inside; rw [if_neg h34, if_neg h92, if_neg (by rw [hp]; simp)]
        rw [hf]
        rcases hc with x1 | ⟨x1, rfl | rfl | rfl⟩
        · have c9 := hv.c4
          have f9 := hv.fz 4
          have hr : RdV (w.setCell ⟨p, 4, none⟩ (.bool true)) p vw vs { s with bad := true } := hv.set 4 _ rfl rfl rfl
          have hb : Below p w (w.setCell ⟨p, 4, none⟩ (.bool true)) := below_setp (Below.refl _ _) (Nat.le_refl _) (by omega) 4 _
          have HR := Hid.mk (And.intro hr hb)
          clear hr hb hv
          go_enter Tryd.func23, Tryd.ntmps23
          go_wp2
          go_end0
          exact ⟨rfl, ⟨_, _, HR.out.1⟩, HR.out.2⟩
        · show Calls Tryd.prog 23 #[.pointer (some ⟨p, 0, none⟩), .int .u8 127] w _
          have c9 := hv.c4
          have f9 := hv.fz 4
          have hr : RdV (w.setCell ⟨p, 4, none⟩ (.bool true)) p vw vs { s with bad := true } := hv.set 4 _ rfl rfl rfl
          have hb : Below p w (w.setCell ⟨p, 4, none⟩ (.bool true)) := below_setp (Below.refl _ _) (Nat.le_refl _) (by omega) 4 _
          have HR := Hid.mk (And.intro hr hb)
          clear hr hb hv
          go_enter Tryd.func23, Tryd.ntmps23
          go_wp2
          go_end0
          exact ⟨rfl, ⟨_, _, HR.out.1⟩, HR.out.2⟩
        · exact absurd rfl h34
        · exact absurd rfl h92
end Go.Proofs.YtalokopnagpgcaaDoor
