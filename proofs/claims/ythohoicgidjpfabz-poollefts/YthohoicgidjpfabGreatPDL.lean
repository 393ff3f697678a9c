import Derived.Test.YthohoicgidjpfabGreatPDK
namespace Go.Proofs.YthohoicgidjpfabGreat
open Go.RowKit

def MP.drop0 (M : MP) (x : Int) : Int × MP :=
  if M.state ≠ 0 then (M.state, M) else if x < (2 + M.nodes / 4 : Nat) ∨ (M.blocks : Int) ≤ x then (11, M) else if M.nb.getD x.toNat false = false then (62, M) else if (M.puts 0).1 ≠ 0 then M.puts 0 else (0, { (M.puts 0).2 with nb := M.nb.set x.toNat false })
def MP.drop1 (M : MP) (x : Int) : Int × MP :=
  if M.state ≠ 0 then (M.state, M) else if x < 1 ∨ (M.nodes : Int) < x then (11, M) else if M.nn.getD (x - 1).toNat false = false then (62, M) else if (M.puts 1).1 ≠ 0 then M.puts 1 else (0, { (M.puts 1).2 with nn := M.nn.set (x - 1).toNat false })
section
variable {w w' : World} {X Y Z : Nat → Prop} {k : Nat} {M : MP}
set_option maxRecDepth 20000 in
set_option maxHeartbeats 8000000 in
theorem mdrop0_any (h : MX w X k M) (hp : M.put.length ≤ 16) (_hD : 2 + M.nodes / 4 ≤ M.blocks) (hB : M.blocks ≤ 4096) (hN : M.nodes ≤ 4096) (x : Int) :
    Calls Tryz.prog 69 #[.pointer (some ⟨k, 0, none⟩), .int .i64 x] w fun e w' => MO w w' X w.heap.size k (M.drop0 x) e := by
  have ks := mstate_any h
  by_cases h0 : M.state = 0
  · have hc : M.drop0 x = if x < ((2 + M.nodes / 4 : Nat) : Int) ∨ (M.blocks : Int) ≤ x then (11, M) else if M.nb.getD x.toNat false = false then (62, M) else if (M.puts 0).1 ≠ 0 then M.puts 0 else (0, { (M.puts 0).2 with nb := M.nb.set x.toNat false }) := by unfold MP.drop0; rw [if_neg (fun e => e h0)]
    rw [h0] at ks
    rw [hc]
    clear hc h0
    obtain ⟨D, hDD⟩ : ∃ D, D = 2 + M.nodes / 4 := ⟨_, rfl⟩
    obtain ⟨g1, c1, g2, c2, g3, c3, g4, c4, v5, v6, v7, hm⟩ := id h
    have e0 : w.cell? ⟨k, 0, none⟩ = some (.int .i64 (M.blocks : Int)) := cell_of_block hm.b (j := 0) rfl
    have e1 : w.cell? ⟨k, 1, none⟩ = some (.int .i64 (M.nodes : Int)) := cell_of_block hm.b (j := 1) rfl
    have e2 : w.cell? ⟨k, 2, none⟩ = some (.int .i64 (D : Int)) := by rw [hDD]; exact cell_of_block hm.b (j := 2) rfl
    have H := Hid.mk h
    by_cases hr : x < ((2 + M.nodes / 4 : Nat) : Int) ∨ (M.blocks : Int) ≤ x
    · rw [if_pos hr]
      clear hm
      rw [← hDD] at hr
      clear hDD
      by_cases hr1 : x < (D : Int)
      · clear hr
        go_enter Tryz.func69, Tryz.ntmps69
        go_wp2_with fail
        refine ks.mono ?_
        rintro e w0 ⟨rfl, hw0⟩
        have hw0' := hw0.symm
        subst hw0'
        clear hw0 ks
        go_wp2
        go_ret
        exact ⟨rfl, H.out.mono (fun _ h => .inl h), Keeps.refl _ _⟩
      · have hr2 := hr.resolve_left hr1
        clear hr
        go_enter Tryz.func69, Tryz.ntmps69
        go_wp2_with fail
        refine ks.mono ?_
        rintro e w0 ⟨rfl, hw0⟩
        have hw0' := hw0.symm
        subst hw0'
        clear hw0 ks
        go_wp2
        go_ret
        exact ⟨rfl, H.out.mono (fun _ h => .inl h), Keeps.refl _ _⟩
    · rw [if_neg hr]
      obtain ⟨i, hi⟩ : ∃ i : Nat, x = (i : Int) := ⟨x.toNat, by omega⟩
      rw [hi, Int.toNat_natCast]
      obtain ⟨xx, hxx⟩ : ∃ xx : Nat, x = (xx : Int) := ⟨x.toNat, by omega⟩
      subst hxx
      have hi4 : i < 4096 := by omega
      have hlo : ¬ (xx : Int) < (D : Int) := by omega
      have hhi : ¬ (M.blocks : Int) ≤ (xx : Int) := by omega
      have hi1 : (0 : Int) ≤ (i : Int) := by omega
      have hi2 : (i : Int) < 4096 := by omega
      have e5 : w.cell? ⟨k, 5, none⟩ = some (slB g3 c3) := cell_of_block hm.b (j := 5) rfl
      have e6 : w.cell? ⟨k, 6, none⟩ = some (slB g4 c4) := cell_of_block hm.b (j := 6) rfl
      have cm := hm.nb.2.1.truth (i := i) (by rw [hm.nb.2.2]; exact hi4)
      have hc1 : 4096 ≤ c3 := by have := hm.nb.2.1.le; have := hm.nb.2.2; simp [bls] at *; omega
      have hcm : c3 ≤ 9223372036854775807 := by have := hm.nb.2.1.max; unfold maxLen at this; omega
      have kp := puts_any h 0 hp
      have HPn := Hid.mk (puts_nb M 0)
      clear hm h hr hDD
      obtain rfl : i = xx := by omega
      cases hbt : M.nb.getD i false
      · rw [if_pos rfl]
        rw [hbt] at cm
        clear hbt kp
        go_enter Tryz.func69, Tryz.ntmps69
        go_wp2_with fail
        refine ks.mono ?_
        rintro e w0 ⟨rfl, hw0⟩
        have hw0' := hw0.symm
        subst hw0'
        clear hw0 ks
        go_wp2
        go_ret
        exact ⟨rfl, H.out.mono (fun _ h => .inl h), Keeps.refl _ _⟩
      · rw [if_neg (by decide)]
        rw [hbt] at cm
        obtain ⟨Q, hQ⟩ : ∃ Q, Q = M.puts 0 := ⟨_, rfl⟩
        rw [← hQ] at kp HPn ⊢
        clear hQ
        by_cases hq0 : Q.1 = 0
        · rw [if_neg (fun e => e hq0)]
          rw [hq0] at kp
          go_enter Tryz.func69, Tryz.ntmps69
          go_wp2_with fail
          refine ks.mono ?_
          rintro e w0 ⟨rfl, hw0⟩
          have hw0' := hw0.symm
          subst hw0'
          clear hw0 ks
          go_wp2_with fail
          refine kp.mono ?_
          rintro e w1 ⟨rfl, hm1, hk1⟩
          obtain ⟨g, cg, x1, x2, x3, x4, x5, x6⟩ := hm1.setBit0 hi4 false
          rw [HPn.out.1, hbt] at x3
          rw [HPn.out.1] at x5
          have hcm2 : cg ≤ 9223372036854775807 := by
            obtain ⟨gq1, cq1, gq2, cq2, gq3, cq3, gq4, cq4, v5', v6', v7', hma⟩ := hm1
            have h9 : w1.cell? ⟨k, 5, none⟩ = some (slB gq3 cq3) := cell_of_block hma.b (j := 5) rfl
            rw [x1] at h9
            injection h9 with h8
            injection h8 with h7 h6 h5
            have := hma.nb.2.1.max
            unfold maxLen at this
            omega
          have HE : Hid (MX (w1.setCell ⟨g, i, none⟩ (.bool false)) (fun j => X j ∨ (w.heap.size ≤ j ∧ j < (w1.setCell ⟨g, i, none⟩ (.bool false)).heap.size)) k { Q.2 with nb := M.nb.set i false } ∧ Keeps X w (w1.setCell ⟨g, i, none⟩ (.bool false))) := by
            have z2 := hk1.size
            have z3 := x6.size
            refine ⟨x5.mono (fun j hj => hj.imp (fun e => e) (fun e => ⟨e.1, by have := e.2; omega⟩)), hk1.trans x6 (fun j hj => hj.imp (fun e => e) (fun e => e.1))⟩
          clear kp hm1 hk1 x5 x6 hbt cm e5 e6
          go_wp2
          go_ret
          exact ⟨rfl, HE.out⟩
        · rw [if_pos hq0]
          obtain ⟨r, hrr⟩ : ∃ r, r = Q.1 := ⟨_, rfl⟩
          rw [← hrr] at kp hq0
          have HRR := Hid.mk hrr
          clear hrr hbt
          go_enter Tryz.func69, Tryz.ntmps69
          go_wp2_with fail
          refine ks.mono ?_
          rintro e w0 ⟨rfl, hw0⟩
          have hw0' := hw0.symm
          subst hw0'
          clear hw0 ks
          go_wp2_with fail
          refine kp.mono ?_
          rintro e w1 ⟨rfl, hm1, hk1⟩
          have HE : Hid (MX w1 (fun j => X j ∨ (w.heap.size ≤ j ∧ j < w1.heap.size)) k Q.2 ∧ Keeps X w w1) := ⟨hm1, hk1⟩
          clear kp hm1 hk1
          go_wp2
          go_ret
          exact ⟨by rw [HRR.out]; rfl, HE.out⟩
  · have hc : M.drop0 x = (M.state, M) := by unfold MP.drop0; rw [if_pos h0]
    rw [hc]
    have H := Hid.mk h
    clear h hc
    generalize M.state = y at *
    go_enter Tryz.func69, Tryz.ntmps69
    go_wp2_with fail
    refine ks.mono ?_
    rintro e w0 ⟨rfl, hw0⟩
    have hw0' := hw0.symm
    subst hw0'
    clear hw0 ks
    go_wp2
    go_ret
    exact ⟨rfl, H.out.mono (fun _ h => .inl h), Keeps.refl _ _⟩
set_option maxRecDepth 20000 in
set_option maxHeartbeats 8000000 in
theorem mdrop1_any (h : MX w X k M) (hp : M.put.length ≤ 16) (_hD : 2 + M.nodes / 4 ≤ M.blocks) (_hB : M.blocks ≤ 4096) (hN : M.nodes ≤ 4096) (x : Int) :
    Calls Tryz.prog 73 #[.pointer (some ⟨k, 0, none⟩), .int .i64 x] w fun e w' => MO w w' X w.heap.size k (M.drop1 x) e := by
  have ks := mstate_any h
  by_cases h0 : M.state = 0
  · have hc : M.drop1 x = if x < 1 ∨ (M.nodes : Int) < x then (11, M) else if M.nn.getD (x - 1).toNat false = false then (62, M) else if (M.puts 1).1 ≠ 0 then M.puts 1 else (0, { (M.puts 1).2 with nn := M.nn.set (x - 1).toNat false }) := by unfold MP.drop1; rw [if_neg (fun e => e h0)]
    rw [h0] at ks
    rw [hc]
    clear hc h0
    obtain ⟨D, hDD⟩ : ∃ D, D = 2 + M.nodes / 4 := ⟨_, rfl⟩
    obtain ⟨g1, c1, g2, c2, g3, c3, g4, c4, v5, v6, v7, hm⟩ := id h
    have e0 : w.cell? ⟨k, 0, none⟩ = some (.int .i64 (M.blocks : Int)) := cell_of_block hm.b (j := 0) rfl
    have e1 : w.cell? ⟨k, 1, none⟩ = some (.int .i64 (M.nodes : Int)) := cell_of_block hm.b (j := 1) rfl
    have e2 : w.cell? ⟨k, 2, none⟩ = some (.int .i64 (D : Int)) := by rw [hDD]; exact cell_of_block hm.b (j := 2) rfl
    have H := Hid.mk h
    by_cases hr : x < 1 ∨ (M.nodes : Int) < x
    · rw [if_pos hr]
      clear hm
      clear hDD
      by_cases hr1 : x < 1
      · clear hr
        go_enter Tryz.func73, Tryz.ntmps73
        go_wp2_with fail
        refine ks.mono ?_
        rintro e w0 ⟨rfl, hw0⟩
        have hw0' := hw0.symm
        subst hw0'
        clear hw0 ks
        go_wp2
        go_ret
        exact ⟨rfl, H.out.mono (fun _ h => .inl h), Keeps.refl _ _⟩
      · have hr2 := hr.resolve_left hr1
        clear hr
        go_enter Tryz.func73, Tryz.ntmps73
        go_wp2_with fail
        refine ks.mono ?_
        rintro e w0 ⟨rfl, hw0⟩
        have hw0' := hw0.symm
        subst hw0'
        clear hw0 ks
        go_wp2
        go_ret
        exact ⟨rfl, H.out.mono (fun _ h => .inl h), Keeps.refl _ _⟩
    · rw [if_neg hr]
      obtain ⟨i, hi⟩ : ∃ i : Nat, (x - 1) = (i : Int) := ⟨(x - 1).toNat, by omega⟩
      rw [hi, Int.toNat_natCast]
      obtain ⟨xx, hxx⟩ : ∃ xx : Nat, x = (xx : Int) := ⟨x.toNat, by omega⟩
      subst hxx
      have hi4 : i < 4096 := by omega
      have hlo : ¬ (xx : Int) < 1 := by omega
      have hhi : ¬ (M.nodes : Int) < (xx : Int) := by omega
      have hi1 : (0 : Int) ≤ (i : Int) := by omega
      have hi2 : (i : Int) < 4096 := by omega
      have e5 : w.cell? ⟨k, 5, none⟩ = some (slB g3 c3) := cell_of_block hm.b (j := 5) rfl
      have e6 : w.cell? ⟨k, 6, none⟩ = some (slB g4 c4) := cell_of_block hm.b (j := 6) rfl
      have cm := hm.nn.2.1.truth (i := i) (by rw [hm.nn.2.2]; exact hi4)
      have hc1 : 4096 ≤ c4 := by have := hm.nn.2.1.le; have := hm.nn.2.2; simp [bls] at *; omega
      have hcm : c4 ≤ 9223372036854775807 := by have := hm.nn.2.1.max; unfold maxLen at this; omega
      have kp := puts_any h 1 hp
      have HPn := Hid.mk (puts_nb M 1)
      clear hm h hr hDD
      skip
      cases hbt : M.nn.getD i false
      · rw [if_pos rfl]
        rw [hbt] at cm
        clear hbt kp
        go_enter Tryz.func73, Tryz.ntmps73
        go_wp2_with fail
        refine ks.mono ?_
        rintro e w0 ⟨rfl, hw0⟩
        have hw0' := hw0.symm
        subst hw0'
        clear hw0 ks
        go_wp2
        go_ret
        exact ⟨rfl, H.out.mono (fun _ h => .inl h), Keeps.refl _ _⟩
      · rw [if_neg (by decide)]
        rw [hbt] at cm
        obtain ⟨Q, hQ⟩ : ∃ Q, Q = M.puts 1 := ⟨_, rfl⟩
        rw [← hQ] at kp HPn ⊢
        clear hQ
        by_cases hq0 : Q.1 = 0
        · rw [if_neg (fun e => e hq0)]
          rw [hq0] at kp
          go_enter Tryz.func73, Tryz.ntmps73
          go_wp2_with fail
          refine ks.mono ?_
          rintro e w0 ⟨rfl, hw0⟩
          have hw0' := hw0.symm
          subst hw0'
          clear hw0 ks
          go_wp2_with fail
          refine kp.mono ?_
          rintro e w1 ⟨rfl, hm1, hk1⟩
          obtain ⟨g, cg, x1, x2, x3, x4, x5, x6⟩ := hm1.setBit1 hi4 false
          rw [HPn.out.2, hbt] at x3
          rw [HPn.out.2] at x5
          have hcm2 : cg ≤ 9223372036854775807 := by
            obtain ⟨gq1, cq1, gq2, cq2, gq3, cq3, gq4, cq4, v5', v6', v7', hma⟩ := hm1
            have h9 : w1.cell? ⟨k, 6, none⟩ = some (slB gq4 cq4) := cell_of_block hma.b (j := 6) rfl
            rw [x1] at h9
            injection h9 with h8
            injection h8 with h7 h6 h5
            have := hma.nn.2.1.max
            unfold maxLen at this
            omega
          have HE : Hid (MX (w1.setCell ⟨g, i, none⟩ (.bool false)) (fun j => X j ∨ (w.heap.size ≤ j ∧ j < (w1.setCell ⟨g, i, none⟩ (.bool false)).heap.size)) k { Q.2 with nn := M.nn.set i false } ∧ Keeps X w (w1.setCell ⟨g, i, none⟩ (.bool false))) := by
            have z2 := hk1.size
            have z3 := x6.size
            refine ⟨x5.mono (fun j hj => hj.imp (fun e => e) (fun e => ⟨e.1, by have := e.2; omega⟩)), hk1.trans x6 (fun j hj => hj.imp (fun e => e) (fun e => e.1))⟩
          clear kp hm1 hk1 x5 x6 hbt cm e5 e6
          go_wp2
          go_ret
          exact ⟨rfl, HE.out⟩
        · rw [if_pos hq0]
          obtain ⟨r, hrr⟩ : ∃ r, r = Q.1 := ⟨_, rfl⟩
          rw [← hrr] at kp hq0
          have HRR := Hid.mk hrr
          clear hrr hbt
          go_enter Tryz.func73, Tryz.ntmps73
          go_wp2_with fail
          refine ks.mono ?_
          rintro e w0 ⟨rfl, hw0⟩
          have hw0' := hw0.symm
          subst hw0'
          clear hw0 ks
          go_wp2_with fail
          refine kp.mono ?_
          rintro e w1 ⟨rfl, hm1, hk1⟩
          have HE : Hid (MX w1 (fun j => X j ∨ (w.heap.size ≤ j ∧ j < w1.heap.size)) k Q.2 ∧ Keeps X w w1) := ⟨hm1, hk1⟩
          clear kp hm1 hk1
          go_wp2
          go_ret
          exact ⟨by rw [HRR.out]; rfl, HE.out⟩
  · have hc : M.drop1 x = (M.state, M) := by unfold MP.drop1; rw [if_pos h0]
    rw [hc]
    have H := Hid.mk h
    clear h hc
    generalize M.state = y at *
    go_enter Tryz.func73, Tryz.ntmps73
    go_wp2_with fail
    refine ks.mono ?_
    rintro e w0 ⟨rfl, hw0⟩
    have hw0' := hw0.symm
    subst hw0'
    clear hw0 ks
    go_wp2
    go_ret
    exact ⟨rfl, H.out.mono (fun _ h => .inl h), Keeps.refl _ _⟩
end
end Go.Proofs.YthohoicgidjpfabGreat
