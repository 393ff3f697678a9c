import Derived.Test.YtalokopnagpgcaaDoorSJ1
namespace Go.Proofs.YtalokopnagpgcaaDoor
open Go.RowKit Go.Maps

section
variable {w : World} {p : Nat} {vw vs : Value} {s : RS}
theorem RdV.c0 (h : RdV w p vw vs s) : w.cell? ⟨p, 0, none⟩ = some (.int .i64 s.i) := cell_of_block h.blk (j := 0) rfl
theorem RdV.c1 (h : RdV w p vw vs s) : w.cell? ⟨p, 1, none⟩ = some vw := cell_of_block h.blk (j := 1) rfl
theorem RdV.c2 (h : RdV w p vw vs s) : w.cell? ⟨p, 2, none⟩ = some vs := cell_of_block h.blk (j := 2) rfl
theorem RdV.c3 (h : RdV w p vw vs s) : w.cell? ⟨p, 3, none⟩ = some (.int .i64 s.d) := cell_of_block h.blk (j := 3) rfl
theorem RdV.c4 (h : RdV w p vw vs s) : w.cell? ⟨p, 4, none⟩ = some (.bool s.bad) := cell_of_block h.blk (j := 4) rfl
theorem RdV.fz (h : RdV w p vw vs s) (k : Nat) : w.frozen? ⟨p, k, none⟩ = false := frozen_of_block h.blk k
end
def RS.plain (s : RS) (c : UInt8) : RS := { s with wd := s.wd ++ [c], bad := s.bad || !plainB c }
theorem plain_cases (c : UInt8) : (plainB c = true ∧ ¬ ((c.toNat : Int) < 32) ∧ ((c.toNat : Int) == 127) = false ∧ ((c.toNat : Int) == 34) = false ∧ ((c.toNat : Int) == 92) = false) ∨ (plainB c = false ∧ ((c.toNat : Int) < 32 ∨ (¬ ((c.toNat : Int) < 32) ∧ (c = 127 ∨ c = 34 ∨ c = 92)))) := by
  by_cases h1 : (c.toNat : Int) < 32
  · refine .inr ⟨?_, .inl h1⟩
    unfold plainB plainR
    rw [show decide ((32 : Int) ≤ (c.toNat : Int)) = false by simpa using h1]
    rfl
  · by_cases h2 : c = 127
    · subst h2
      exact .inr ⟨rfl, .inr ⟨h1, .inl rfl⟩⟩
    · by_cases h3 : c = 34
      · subst h3
        exact .inr ⟨rfl, .inr ⟨h1, .inr (.inl rfl)⟩⟩
      · by_cases h4 : c = 92
        · subst h4
          exact .inr ⟨rfl, .inr ⟨h1, .inr (.inr rfl)⟩⟩
        · have a := ne_lit (k := 127) h2
          have b := ne_lit (k := 34) h3
          have d := ne_lit (k := 92) h4
          refine .inl ⟨?_, h1, a, b, d⟩
          unfold plainB plainR
          rw [show ((c.toNat : Int) == 127) = false from a, show ((c.toNat : Int) == 34) = false from b, show ((c.toNat : Int) == 92) = false from d, show decide ((32 : Int) ≤ (c.toNat : Int)) = true by simpa using h1]
          rfl
set_option maxRecDepth 20000 in
set_option maxHeartbeats 4000000 in
theorem rplain_any (p : Nat) (s : RS) (c : UInt8) (w : World) (h : Rd w p s) (hl : s.wd.length ≤ 100000000) :
    Calls Tryd.prog 22 #[.pointer (some ⟨p, 0, none⟩), .int .u8 c.toNat] w fun e w' => e = .returned (.tuple #[]) ∧ Rd w' p (s.plain c) ∧ Below p w w' := by
  obtain ⟨vw, vs, hv⟩ := h
  have hle : (ub s.wd).length ≤ 140737488355327 := by rw [ub_len]; omega
  have hlt := hv.lt
  rcases plain_cases c with ⟨hp, q1, q2, q3, q4⟩ | ⟨hp, hc⟩
  · have c1 := hv.c1
    have HV := Hid.mk hv
    clear hv
    go_enter Tryd.func22, Tryd.ntmps22
    go_wp2_with (at_builtin; refine wpList_appg rfl (.tmp 25) (.tmp 27) rfl (p + 1) vw (ub s.wd) (c.toNat : Int) w.heap.size rfl rfl rfl HV.out.own hle (by omega) ?_)
    intro v2 w2 hown2 hg2
    obtain ⟨hb2, hr2, _, hbl2⟩ := HV.out.app hg2 hown2
    obtain ⟨g2, k2, rfl, _, _⟩ := hown2.row' (by simp)
    generalize (ub s.wd ++ [(c.toNat : Int)]).length = n2 at *
    have d1 : w2.cell? ⟨p, 1, none⟩ = some vw := cell_of_block hb2 (j := 1) rfl
    have d2 : w2.frozen? ⟨p, 1, none⟩ = false := frozen_of_block hb2 1
    have HR := Hid.mk (And.intro hr2 hbl2)
    clear hb2 hr2 hbl2 hown2 hg2
    go_wp2
    go_end0
    refine ⟨rfl, ?_, HR.out.2⟩
    have h9 := HR.out.1
    have h8 : Rd _ p _ := ⟨_, _, h9⟩
    simpa [RS.plain, hp] using h8
  · have hv1 : RdV (w.setCell ⟨p, 4, none⟩ (.bool true)) p vw vs { s with bad := true } := hv.set 4 (.bool true) rfl rfl rfl
    have c4 := hv.c4
    have f4 := hv.fz 4
    have c1 := hv1.c1
    have hb1 : Below p w (w.setCell ⟨p, 4, none⟩ (.bool true)) := below_setp (Below.refl _ _) (Nat.le_refl _) (by omega) 4 _
    have hlt1 := hv1.lt
    have HV := Hid.mk (And.intro hv1 hb1)
    have hsz : (w.setCell ⟨p, 4, none⟩ (.bool true)).heap.size = w.heap.size := by simp [World.setCell]
    clear hv hv1 hb1
    rcases hc with hc | ⟨q1, rfl | rfl | rfl⟩
    · go_enter Tryd.func22, Tryd.ntmps22
      go_wp2_with (at_builtin; refine wpList_appg rfl (.tmp 25) (.tmp 27) rfl (p + 1) vw (ub s.wd) (c.toNat : Int) w.heap.size hsz rfl rfl HV.out.1.own hle hlt1 ?_)
      intro v2 w2 hown2 hg2
      obtain ⟨hb2, hr2, _, hbl2⟩ := HV.out.1.app (x := c) hg2 hown2
      obtain ⟨g2, k2, rfl, _, _⟩ := hown2.row' (by simp)
      generalize (ub s.wd ++ [(c.toNat : Int)]).length = n2 at *
      have d1 : w2.cell? ⟨p, 1, none⟩ = some vw := cell_of_block hb2 (j := 1) rfl
      have d2 : w2.frozen? ⟨p, 1, none⟩ = false := frozen_of_block hb2 1
      have HR := Hid.mk (And.intro hr2 (HV.out.2.trans hbl2))
      clear hb2 hr2 hbl2 hown2 hg2
      go_wp2
      go_end0
      refine ⟨rfl, ?_, HR.out.2⟩
      have h9 := HR.out.1
      have h8 : Rd _ p _ := ⟨_, _, h9⟩
      simpa [RS.plain, hp] using h8
    · have hp' : plainB 127 = false := hp
      clear hp
      show Calls Tryd.prog 22 #[.pointer (some ⟨p, 0, none⟩), .int .u8 127] w _
      go_enter Tryd.func22, Tryd.ntmps22
      go_wp2_with (at_builtin; refine wpList_appg rfl (.tmp 25) (.tmp 27) rfl (p + 1) vw (ub s.wd) 127 w.heap.size hsz rfl rfl HV.out.1.own hle hlt1 ?_)
      intro v2 w2 hown2 hg2
      obtain ⟨hb2, hr2, _, hbl2⟩ := HV.out.1.app (x := 127) hg2 hown2
      obtain ⟨g2, k2, rfl, _, _⟩ := hown2.row' (by simp)
      generalize (ub s.wd ++ [127]).length = n2 at *
      have d1 : w2.cell? ⟨p, 1, none⟩ = some vw := cell_of_block hb2 (j := 1) rfl
      have d2 : w2.frozen? ⟨p, 1, none⟩ = false := frozen_of_block hb2 1
      have HR := Hid.mk (And.intro hr2 (HV.out.2.trans hbl2))
      clear hb2 hr2 hbl2 hown2 hg2
      go_wp2
      go_end0
      refine ⟨rfl, ?_, HR.out.2⟩
      have h9 := HR.out.1
      have h8 : Rd _ p _ := ⟨_, _, h9⟩
      simpa [RS.plain, hp'] using h8
    · have hp' : plainB 34 = false := hp
      clear hp
      show Calls Tryd.prog 22 #[.pointer (some ⟨p, 0, none⟩), .int .u8 34] w _
      go_enter Tryd.func22, Tryd.ntmps22
      go_wp2_with (at_builtin; refine wpList_appg rfl (.tmp 25) (.tmp 27) rfl (p + 1) vw (ub s.wd) 34 w.heap.size hsz rfl rfl HV.out.1.own hle hlt1 ?_)
      intro v2 w2 hown2 hg2
      obtain ⟨hb2, hr2, _, hbl2⟩ := HV.out.1.app (x := 34) hg2 hown2
      obtain ⟨g2, k2, rfl, _, _⟩ := hown2.row' (by simp)
      generalize (ub s.wd ++ [34]).length = n2 at *
      have d1 : w2.cell? ⟨p, 1, none⟩ = some vw := cell_of_block hb2 (j := 1) rfl
      have d2 : w2.frozen? ⟨p, 1, none⟩ = false := frozen_of_block hb2 1
      have HR := Hid.mk (And.intro hr2 (HV.out.2.trans hbl2))
      clear hb2 hr2 hbl2 hown2 hg2
      go_wp2
      go_end0
      refine ⟨rfl, ?_, HR.out.2⟩
      have h9 := HR.out.1
      have h8 : Rd _ p _ := ⟨_, _, h9⟩
      simpa [RS.plain, hp'] using h8
    · have hp' : plainB 92 = false := hp
      clear hp
      show Calls Tryd.prog 22 #[.pointer (some ⟨p, 0, none⟩), .int .u8 92] w _
      go_enter Tryd.func22, Tryd.ntmps22
      go_wp2_with (at_builtin; refine wpList_appg rfl (.tmp 25) (.tmp 27) rfl (p + 1) vw (ub s.wd) 92 w.heap.size hsz rfl rfl HV.out.1.own hle hlt1 ?_)
      intro v2 w2 hown2 hg2
      obtain ⟨hb2, hr2, _, hbl2⟩ := HV.out.1.app (x := 92) hg2 hown2
      obtain ⟨g2, k2, rfl, _, _⟩ := hown2.row' (by simp)
      generalize (ub s.wd ++ [92]).length = n2 at *
      have d1 : w2.cell? ⟨p, 1, none⟩ = some vw := cell_of_block hb2 (j := 1) rfl
      have d2 : w2.frozen? ⟨p, 1, none⟩ = false := frozen_of_block hb2 1
      have HR := Hid.mk (And.intro hr2 (HV.out.2.trans hbl2))
      clear hb2 hr2 hbl2 hown2 hg2
      go_wp2
      go_end0
      refine ⟨rfl, ?_, HR.out.2⟩
      have h9 := HR.out.1
      have h8 : Rd _ p _ := ⟨_, _, h9⟩
      simpa [RS.plain, hp'] using h8
end Go.Proofs.YtalokopnagpgcaaDoor
