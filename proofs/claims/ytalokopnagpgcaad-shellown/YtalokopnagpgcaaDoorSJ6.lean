import Derived.Test.YtalokopnagpgcaaDoorSJ5
namespace Go.Proofs.YtalokopnagpgcaaDoor
open Go.RowKit Go.Maps

def RS.escaped (s : RS) (c : UInt8) : RS := if c = 92 ∨ c = 34 then { s with i := 2, wd := s.wd ++ [c] } else if c = 110 then { s with i := 2, wd := s.wd ++ [10] } else if c = 116 then { s with i := 2, wd := s.wd ++ [9] } else if c = 120 then { s with i := 4 } else { s with i := 2, bad := true }
set_option maxRecDepth 20000 in
set_option maxHeartbeats 4000000 in
theorem rescaped_any (p : Nat) (s : RS) (c : UInt8) (w : World) (h : Rd w p s) (hl : s.wd.length ≤ 100000000) :
    Calls Tryd.prog 24 #[.pointer (some ⟨p, 0, none⟩), .int .u8 c.toNat] w fun e w' => e = .returned (.tuple #[]) ∧ Rd w' p (s.escaped c) ∧ Below p w w' := by
  obtain ⟨vw, vs, hv⟩ := h
  have hlt := hv.lt
  have hle : (ub s.wd).length ≤ 140737488355327 := by rw [ub_len]; omega
  have hv1 : RdV (w.setCell ⟨p, 0, none⟩ (.int .i64 2)) p vw vs { s with i := 2 } := hv.set 0 _ rfl rfl rfl
  have b0 := hv.c0
  have g0 := hv.fz 0
  have c1 := hv1.c1
  have hb1 : Below p w (w.setCell ⟨p, 0, none⟩ (.int .i64 2)) := below_setp (Below.refl _ _) (Nat.le_refl _) (by omega) 0 _
  have hlt1 := hv1.lt
  have HV := Hid.mk (And.intro hv1 hb1)
  have hsz : (w.setCell ⟨p, 0, none⟩ (.int .i64 2)).heap.size = w.heap.size := by simp [World.setCell]
  clear hv hv1 hb1
  rcases (show c = 92 ∨ c = 34 ∨ c = 110 ∨ c = 116 ∨ c = 120 ∨ (c ≠ 92 ∧ c ≠ 34 ∧ c ≠ 110 ∧ c ≠ 116 ∧ c ≠ 120) by by_cases h1 : c = 92 <;> by_cases h2 : c = 34 <;> by_cases h3 : c = 110 <;> by_cases h4 : c = 116 <;> by_cases h5 : c = 120 <;> simp [*]) with rfl | rfl | rfl | rfl | rfl | ⟨n1, n2, n3, n4, n5⟩
  · show Calls Tryd.prog 24 #[.pointer (some ⟨p, 0, none⟩), .int .u8 92] w _
    go_enter Tryd.func24, Tryd.ntmps24
    go_wp2_with (at_builtin; refine wpList_appg rfl (.tmp 18) (.tmp 20) rfl (p + 1) vw (ub s.wd) 92 w.heap.size hsz rfl rfl HV.out.1.own hle hlt1 ?_)
    intro v2 w2 hown2 hg2
    obtain ⟨hb2, hr2, _, hbl2⟩ := HV.out.1.app (x := 92) hg2 hown2
    obtain ⟨g2, k2, rfl, _, _⟩ := hown2.row' (by simp)
    generalize (ub s.wd ++ [92]).length = n2 at *
    have d1 : w2.cell? ⟨p, 1, none⟩ = some vw := cell_of_block hb2 (j := 1) rfl
    have d2 : w2.frozen? ⟨p, 1, none⟩ = false := frozen_of_block hb2 1
    have HR := Hid.mk (And.intro hr2 (HV.out.2.trans hbl2))
    clear hb2 hr2 hbl2 hown2 hg2
    go_wp2
    go_end0
    exact ⟨rfl, ⟨_, _, HR.out.1⟩, HR.out.2⟩
  · show Calls Tryd.prog 24 #[.pointer (some ⟨p, 0, none⟩), .int .u8 34] w _
    go_enter Tryd.func24, Tryd.ntmps24
    go_wp2_with (at_builtin; refine wpList_appg rfl (.tmp 18) (.tmp 20) rfl (p + 1) vw (ub s.wd) 34 w.heap.size hsz rfl rfl HV.out.1.own hle hlt1 ?_)
    intro v2 w2 hown2 hg2
    obtain ⟨hb2, hr2, _, hbl2⟩ := HV.out.1.app (x := 34) hg2 hown2
    obtain ⟨g2, k2, rfl, _, _⟩ := hown2.row' (by simp)
    generalize (ub s.wd ++ [34]).length = n2 at *
    have d1 : w2.cell? ⟨p, 1, none⟩ = some vw := cell_of_block hb2 (j := 1) rfl
    have d2 : w2.frozen? ⟨p, 1, none⟩ = false := frozen_of_block hb2 1
    have HR := Hid.mk (And.intro hr2 (HV.out.2.trans hbl2))
    clear hb2 hr2 hbl2 hown2 hg2
    go_wp2
    go_end0
    exact ⟨rfl, ⟨_, _, HR.out.1⟩, HR.out.2⟩
  · show Calls Tryd.prog 24 #[.pointer (some ⟨p, 0, none⟩), .int .u8 110] w _
    go_enter Tryd.func24, Tryd.ntmps24
    go_wp2_with (at_builtin; refine wpList_appg rfl (.tmp 30) (.tmp 31) rfl (p + 1) vw (ub s.wd) 10 w.heap.size hsz rfl rfl HV.out.1.own hle hlt1 ?_)
    intro v2 w2 hown2 hg2
    obtain ⟨hb2, hr2, _, hbl2⟩ := HV.out.1.app (x := 10) hg2 hown2
    obtain ⟨g2, k2, rfl, _, _⟩ := hown2.row' (by simp)
    generalize (ub s.wd ++ [10]).length = n2 at *
    have d1 : w2.cell? ⟨p, 1, none⟩ = some vw := cell_of_block hb2 (j := 1) rfl
    have d2 : w2.frozen? ⟨p, 1, none⟩ = false := frozen_of_block hb2 1
    have HR := Hid.mk (And.intro hr2 (HV.out.2.trans hbl2))
    clear hb2 hr2 hbl2 hown2 hg2
    go_wp2
    go_end0
    exact ⟨rfl, ⟨_, _, HR.out.1⟩, HR.out.2⟩
  · show Calls Tryd.prog 24 #[.pointer (some ⟨p, 0, none⟩), .int .u8 116] w _
    go_enter Tryd.func24, Tryd.ntmps24
    go_wp2_with (at_builtin; refine wpList_appg rfl (.tmp 41) (.tmp 42) rfl (p + 1) vw (ub s.wd) 9 w.heap.size hsz rfl rfl HV.out.1.own hle hlt1 ?_)
    intro v2 w2 hown2 hg2
    obtain ⟨hb2, hr2, _, hbl2⟩ := HV.out.1.app (x := 9) hg2 hown2
    obtain ⟨g2, k2, rfl, _, _⟩ := hown2.row' (by simp)
    generalize (ub s.wd ++ [9]).length = n2 at *
    have d1 : w2.cell? ⟨p, 1, none⟩ = some vw := cell_of_block hb2 (j := 1) rfl
    have d2 : w2.frozen? ⟨p, 1, none⟩ = false := frozen_of_block hb2 1
    have HR := Hid.mk (And.intro hr2 (HV.out.2.trans hbl2))
    clear hb2 hr2 hbl2 hown2 hg2
    go_wp2
    go_end0
    exact ⟨rfl, ⟨_, _, HR.out.1⟩, HR.out.2⟩
  · show Calls Tryd.prog 24 #[.pointer (some ⟨p, 0, none⟩), .int .u8 120] w _
    have c9 := HV.out.1.c0
    have f9 := HV.out.1.fz 0
    have hr : RdV ((w.setCell ⟨p, 0, none⟩ (.int .i64 2)).setCell ⟨p, 0, none⟩ (.int .i64 4)) p vw vs { s with i := 4 } := HV.out.1.set 0 _ rfl rfl rfl
    have hb : Below p w ((w.setCell ⟨p, 0, none⟩ (.int .i64 2)).setCell ⟨p, 0, none⟩ (.int .i64 4)) := below_setp HV.out.2 (Nat.le_refl _) (by omega) 0 _
    have HR := Hid.mk (And.intro hr hb)
    clear hr hb
    go_enter Tryd.func24, Tryd.ntmps24
    go_wp2
    go_end0
    exact ⟨rfl, ⟨_, _, HR.out.1⟩, HR.out.2⟩
  · have q1 : ((c.toNat : Int) == 92) = false := ne_lit (k := 92) n1
    have q2 : ((c.toNat : Int) == 34) = false := ne_lit (k := 34) n2
    have q3 : ((c.toNat : Int) == 110) = false := ne_lit (k := 110) n3
    have q4 : ((c.toNat : Int) == 116) = false := ne_lit (k := 116) n4
    have q5 : ((c.toNat : Int) == 120) = false := ne_lit (k := 120) n5
    have hf : s.escaped c = { s with i := 2, bad := true } := by
      unfold RS.escaped
      rw [if_neg (fun h => h.elim n1 n2), if_neg n3, if_neg n4, if_neg n5]
    rw [hf]
    have c9 := HV.out.1.c4
    have f9 := HV.out.1.fz 4
    have hr : RdV ((w.setCell ⟨p, 0, none⟩ (.int .i64 2)).setCell ⟨p, 4, none⟩ (.bool true)) p vw vs { s with i := 2, bad := true } := HV.out.1.set 4 _ rfl rfl rfl
    have hb : Below p w ((w.setCell ⟨p, 0, none⟩ (.int .i64 2)).setCell ⟨p, 4, none⟩ (.bool true)) := below_setp HV.out.2 (Nat.le_refl _) (by omega) 4 _
    have HR := Hid.mk (And.intro hr hb)
    clear hr hb
    go_enter Tryd.func24, Tryd.ntmps24
    go_wp2
    go_end0
    exact ⟨rfl, ⟨_, _, HR.out.1⟩, HR.out.2⟩
end Go.Proofs.YtalokopnagpgcaaDoor
