import Derived.Test.YthohoicgidjpfabGreatPDJ
namespace Go.Proofs.YthohoicgidjpfabGreat
open Go.RowKit

section
variable {w w' : World} {X Y Z : Nat → Prop} {k : Nat} {M : MP}
set_option maxRecDepth 20000 in
set_option maxHeartbeats 8000000 in
theorem mtake0_any (h : MX w X k M) (hp : M.put.length ≤ 16) (hD : 2 + M.nodes / 4 ≤ M.blocks) (hB : M.blocks ≤ 4096) (_hN : M.nodes ≤ 4096) :
    Calls Tryz.prog 67 #[.pointer (some ⟨k, 0, none⟩)] w fun e w' => MO3 w w' X k M.take0 e := by
  have ks := mstate_any h
  by_cases h0 : M.state = 0
  · have hc : M.take0 = match lowBit (bmOf M.nb) (2 + M.nodes / 4) (M.blocks - (2 + M.nodes / 4)) with | none => (0, 60, { M with bad := 60 }) | some i => if (M.puts 0).1 ≠ 0 then (0, M.puts 0) else ((i : Int), 0, { (M.puts 0).2 with nb := M.nb.set i true }) := by unfold MP.take0; rw [if_neg (fun e => e h0)]; rfl
    rw [h0] at ks
    rw [hc]
    clear hc h0
    obtain ⟨D, hDD⟩ : ∃ D, D = 2 + M.nodes / 4 := ⟨_, rfl⟩
    have hdr : ∀ i, Below w.heap.size w (w.drewN i) := fun i => below_drewN (Below.refl _ _) i
    obtain ⟨g1, c1, g2, c2, g3, c3, g4, c4, v5, v6, v7, hm⟩ := id h
    have e0 : w.cell? ⟨k, 0, none⟩ = some (.int .i64 (M.blocks : Int)) := cell_of_block hm.b (j := 0) rfl
    have e1 : w.cell? ⟨k, 1, none⟩ = some (.int .i64 (M.nodes : Int)) := cell_of_block hm.b (j := 1) rfl
    have e2 : w.cell? ⟨k, 2, none⟩ = some (.int .i64 (D : Int)) := by rw [hDD]; exact cell_of_block hm.b (j := 2) rfl
    have e5 : w.cell? ⟨k, 5, none⟩ = some (slB g3 c3) := cell_of_block hm.b (j := 5) rfl
    have e6 : w.cell? ⟨k, 6, none⟩ = some (slB g4 c4) := cell_of_block hm.b (j := 6) rfl
    have hlow : ∀ i, Calls Tryz.prog 109 #[slB g3 c3, .int .i64 (D : Int), .int .i64 (M.blocks : Int)] (w.drewN i) fun e w' => e = .returned (.int .i64 (lowA (lowBit (bmOf M.nb) (2 + M.nodes / 4) (M.blocks - (2 + M.nodes / 4))))) ∧ w' = w.drewN i := fun i => by
      have h9 := lowest_any (w := w.drewN i) (hm.nb.2.1.agree ((hdr i).block _ hm.nb.2.1.lt)) hm.nb.2.2 (2 + M.nodes / 4) (M.blocks - (2 + M.nodes / 4)) (by omega)
      rw [show (2 + M.nodes / 4) + (M.blocks - (2 + M.nodes / 4)) = M.blocks by omega] at h9
      rw [hDD]
      exact h9
    have hput : ∀ i, Calls Tryz.prog 63 #[.pointer (some ⟨k, 0, none⟩), .int .i64 0] (w.drewN i) fun e w' => e = .returned (.int .i64 (M.puts 0).1) ∧ MX w' (more X (w.drewN i) w') k (M.puts 0).2 ∧ Keeps X (w.drewN i) w' := fun i => puts_any (h.later (hdr i)) 0 hp
    have hrg : ∀ i, lowBit (bmOf M.nb) (2 + M.nodes / 4) (M.blocks - (2 + M.nodes / 4)) = some i → i < 4096 := fun i hi => by have := (lowBit_some hi).2.1; omega
    have H := Hid.mk (And.intro h hdr)
    have HPn := Hid.mk (puts_nb M 0)
    clear h hm hdr hDD
    generalize lowBit (bmOf M.nb) (2 + M.nodes / 4) (M.blocks - (2 + M.nodes / 4)) = R at *
    cases R with
    | none =>
      have hlow' : ∀ i, Calls Tryz.prog 109 #[slB g3 c3, .int .i64 (D : Int), .int .i64 (M.blocks : Int)] (w.drewN i) fun e w' => e = .returned (.int .i64 (-1)) ∧ w' = w.drewN i := hlow
      clear hlow hput hrg
      go_enter Tryz.func67, Tryz.ntmps67
      go_wp2_with fail
      refine ks.mono ?_
      rintro e w0 ⟨rfl, hw0⟩
      have hw0' := hw0.symm
      subst hw0'
      clear hw0 ks
      go_wp2_with fail
      go_quiet ((go_at_call 109; exact Calls.quiet_of_same (hlow' _)))
      obtain ⟨wq, hwq⟩ : ∃ wq, wq = w.drewN nq := ⟨_, rfl⟩
      have hbq : Below w.heap.size w wq := by rw [hwq]; exact H.out.2 nq
      rw [← hwq]
      obtain ⟨x1, x2, x3, x4⟩ := (H.out.1.later hbq).setBad 60
      have HE : Hid (MX (wq.setCell ⟨k, 10, none⟩ (.int .i64 60)) (more X w (wq.setCell ⟨k, 10, none⟩ (.int .i64 60))) k { M with bad := 60 } ∧ Keeps X w (wq.setCell ⟨k, 10, none⟩ (.int .i64 60))) := ⟨x3.mono (fun _ h => .inl h), (Keeps.of_below X hbq).trans x4 (fun _ h => .inl h)⟩
      clear hwq hbq x3 x4 hlow' e0 e1 e2 e5 e6
      go_wp2
      go_ret2
      exact ⟨rfl, HE.out⟩
    | some i =>
      have hlow' : ∀ j, Calls Tryz.prog 109 #[slB g3 c3, .int .i64 (D : Int), .int .i64 (M.blocks : Int)] (w.drewN j) fun e w' => e = .returned (.int .i64 (i : Int)) ∧ w' = w.drewN j := hlow
      have hi4 := hrg i rfl
      have hi0 : ¬ (i : Int) < 0 := by omega
      have hi1 : (0 : Int) ≤ (i : Int) := by omega
      have hi2 : (i : Int) < 4096 := by omega
      clear hlow hrg
      obtain ⟨Q, hQ⟩ : ∃ Q, Q = M.puts 0 := ⟨_, rfl⟩
      rw [← hQ] at hput HPn
      dsimp only
      rw [← hQ]
      clear hQ
      by_cases hq0 : Q.1 = 0
      · rw [if_neg (fun e => e hq0)]
        rw [hq0] at hput
        go_enter Tryz.func67, Tryz.ntmps67
        go_wp2_with fail
        refine ks.mono ?_
        rintro e w0 ⟨rfl, hw0⟩
        have hw0' := hw0.symm
        subst hw0'
        clear hw0 ks
        go_wp2_with fail
        go_quiet ((go_at_call 109; exact Calls.quiet_of_same (hlow' _)))

        have kp := hput nq
        obtain ⟨wq, hwq⟩ : ∃ wq, wq = w.drewN nq := ⟨_, rfl⟩
        have hbq : Below w.heap.size w wq := by rw [hwq]; exact H.out.2 nq
        rw [← hwq] at kp ⊢
        have HB := Hid.mk hbq
        clear hwq hbq hlow' hput e0 e1 e2 e5 e6
        go_wp2_with fail
        refine kp.mono ?_
        rintro e w1 ⟨rfl, hm1, hk1⟩
        obtain ⟨g, cg, x1, x2, x3, x4, x5, x6⟩ := hm1.setBit0 hi4 true
        rw [HPn.out.1] at x3 x5
        have hcm : cg ≤ 9223372036854775807 := by
          obtain ⟨gq1, cq1, gq2, cq2, gq3, cq3, gq4, cq4, v5', v6', v7', hma⟩ := hm1
          have h9 : w1.cell? ⟨k, 5, none⟩ = some (slB gq3 cq3) := cell_of_block hma.b (j := 5) rfl
          rw [x1] at h9
          injection h9 with h8
          injection h8 with h7 h6 h5
          have := hma.nb.2.1.max
          unfold maxLen at this
          omega
        have HE : Hid (MX (w1.setCell ⟨g, i, none⟩ (.bool true)) (more X w (w1.setCell ⟨g, i, none⟩ (.bool true))) k { Q.2 with nb := M.nb.set i true } ∧ Keeps X w (w1.setCell ⟨g, i, none⟩ (.bool true))) := by
          have z1 := HB.out.size
          have z2 := hk1.size
          have z3 := x6.size
          refine ⟨x5.mono (fun j hj => hj.imp (fun e => e) (fun e => ⟨by have := e.1; omega, by have := e.2; omega⟩)), ((Keeps.of_below X HB.out).trans hk1 (fun _ h => .inl h)).trans x6 (fun j hj => hj.imp (fun e => e) (fun e => by have := e.1; omega))⟩
        generalize M.nb.getD i false = z at *
        clear kp hm1 hk1 x5 x6 HB
        go_wp2
        go_ret2
        exact ⟨rfl, HE.out⟩
      · rw [if_pos hq0]
        go_enter Tryz.func67, Tryz.ntmps67
        go_wp2_with fail
        refine ks.mono ?_
        rintro e w0 ⟨rfl, hw0⟩
        have hw0' := hw0.symm
        subst hw0'
        clear hw0 ks
        go_wp2_with fail
        go_quiet ((go_at_call 109; exact Calls.quiet_of_same (hlow' _)))

        have kp := hput nq
        obtain ⟨wq, hwq⟩ : ∃ wq, wq = w.drewN nq := ⟨_, rfl⟩
        have hbq : Below w.heap.size w wq := by rw [hwq]; exact H.out.2 nq
        rw [← hwq] at kp ⊢
        have HB := Hid.mk hbq
        clear hwq hbq hlow' hput e0 e1 e2 e5 e6
        obtain ⟨r, hr⟩ : ∃ r, r = Q.1 := ⟨_, rfl⟩
        rw [← hr] at kp hq0
        have HRR := Hid.mk hr
        clear hr
        go_wp2_with fail
        refine kp.mono ?_
        rintro e w1 ⟨rfl, hm1, hk1⟩
        have HE : Hid (MX w1 (more X w w1) k Q.2 ∧ Keeps X w w1) := by
          have z1 := HB.out.size
          refine ⟨hm1.mono (fun j hj => hj.imp (fun e => e) (fun e => ⟨by have := e.1; omega, e.2⟩)), (Keeps.of_below X HB.out).trans hk1 (fun _ h => .inl h)⟩
        clear kp hm1 hk1 HB
        go_wp2
        go_ret2
        exact ⟨by rw [HRR.out]; rfl, HE.out⟩
  · have hc : M.take0 = (0, M.state, M) := by unfold MP.take0; rw [if_pos h0]
    rw [hc]
    have H := Hid.mk h
    clear h hc
    generalize M.state = x at *
    go_enter Tryz.func67, Tryz.ntmps67
    go_wp2_with fail
    refine ks.mono ?_
    rintro e w0 ⟨rfl, hw0⟩
    have hw0' := hw0.symm
    subst hw0'
    clear hw0 ks
    go_wp2
    go_ret2
    exact ⟨rfl, H.out.mono (fun _ h => .inl h), Keeps.refl _ _⟩
set_option maxRecDepth 20000 in
set_option maxHeartbeats 8000000 in
theorem mtake1_any (h : MX w X k M) (hp : M.put.length ≤ 16) (_hD : 2 + M.nodes / 4 ≤ M.blocks) (_hB : M.blocks ≤ 4096) (hN : M.nodes ≤ 4096) :
    Calls Tryz.prog 71 #[.pointer (some ⟨k, 0, none⟩)] w fun e w' => MO3 w w' X k M.take1 e := by
  have ks := mstate_any h
  by_cases h0 : M.state = 0
  · have hc : M.take1 = match lowBit (bmOf M.nn) 0 M.nodes with | none => (0, 61, { M with bad := 61 }) | some i => if (M.puts 1).1 ≠ 0 then (0, M.puts 1) else ((i : Int) + 1, 0, { (M.puts 1).2 with nn := M.nn.set i true }) := by unfold MP.take1; rw [if_neg (fun e => e h0)]; rfl
    rw [h0] at ks
    rw [hc]
    clear hc h0
    obtain ⟨D, hDD⟩ : ∃ D, D = 2 + M.nodes / 4 := ⟨_, rfl⟩
    have hdr : ∀ i, Below w.heap.size w (w.drewN i) := fun i => below_drewN (Below.refl _ _) i
    obtain ⟨g1, c1, g2, c2, g3, c3, g4, c4, v5, v6, v7, hm⟩ := id h
    have e0 : w.cell? ⟨k, 0, none⟩ = some (.int .i64 (M.blocks : Int)) := cell_of_block hm.b (j := 0) rfl
    have e1 : w.cell? ⟨k, 1, none⟩ = some (.int .i64 (M.nodes : Int)) := cell_of_block hm.b (j := 1) rfl
    have e2 : w.cell? ⟨k, 2, none⟩ = some (.int .i64 (D : Int)) := by rw [hDD]; exact cell_of_block hm.b (j := 2) rfl
    have e5 : w.cell? ⟨k, 5, none⟩ = some (slB g3 c3) := cell_of_block hm.b (j := 5) rfl
    have e6 : w.cell? ⟨k, 6, none⟩ = some (slB g4 c4) := cell_of_block hm.b (j := 6) rfl
    have hlow : ∀ i, Calls Tryz.prog 109 #[slB g4 c4, .int .i64 0, .int .i64 (M.nodes : Int)] (w.drewN i) fun e w' => e = .returned (.int .i64 (lowA (lowBit (bmOf M.nn) 0 M.nodes))) ∧ w' = w.drewN i := fun i => by
      have h9 := lowest_any (w := w.drewN i) (hm.nn.2.1.agree ((hdr i).block _ hm.nn.2.1.lt)) hm.nn.2.2 0 M.nodes (by omega)
      rw [show 0 + M.nodes = M.nodes by omega] at h9
      skip
      exact h9
    have hput : ∀ i, Calls Tryz.prog 63 #[.pointer (some ⟨k, 0, none⟩), .int .i64 1] (w.drewN i) fun e w' => e = .returned (.int .i64 (M.puts 1).1) ∧ MX w' (more X (w.drewN i) w') k (M.puts 1).2 ∧ Keeps X (w.drewN i) w' := fun i => puts_any (h.later (hdr i)) 1 hp
    have hrg : ∀ i, lowBit (bmOf M.nn) 0 M.nodes = some i → i < 4096 := fun i hi => by have := (lowBit_some hi).2.1; omega
    have H := Hid.mk (And.intro h hdr)
    have HPn := Hid.mk (puts_nb M 1)
    clear h hm hdr hDD
    generalize lowBit (bmOf M.nn) 0 M.nodes = R at *
    cases R with
    | none =>
      have hlow' : ∀ i, Calls Tryz.prog 109 #[slB g4 c4, .int .i64 0, .int .i64 (M.nodes : Int)] (w.drewN i) fun e w' => e = .returned (.int .i64 (-1)) ∧ w' = w.drewN i := hlow
      clear hlow hput hrg
      go_enter Tryz.func71, Tryz.ntmps71
      go_wp2_with fail
      refine ks.mono ?_
      rintro e w0 ⟨rfl, hw0⟩
      have hw0' := hw0.symm
      subst hw0'
      clear hw0 ks
      go_wp2_with fail
      go_quiet ((go_at_call 109; exact Calls.quiet_of_same (hlow' _)))
      obtain ⟨wq, hwq⟩ : ∃ wq, wq = w.drewN nq := ⟨_, rfl⟩
      have hbq : Below w.heap.size w wq := by rw [hwq]; exact H.out.2 nq
      rw [← hwq]
      obtain ⟨x1, x2, x3, x4⟩ := (H.out.1.later hbq).setBad 61
      have HE : Hid (MX (wq.setCell ⟨k, 10, none⟩ (.int .i64 61)) (more X w (wq.setCell ⟨k, 10, none⟩ (.int .i64 61))) k { M with bad := 61 } ∧ Keeps X w (wq.setCell ⟨k, 10, none⟩ (.int .i64 61))) := ⟨x3.mono (fun _ h => .inl h), (Keeps.of_below X hbq).trans x4 (fun _ h => .inl h)⟩
      clear hwq hbq x3 x4 hlow' e0 e1 e2 e5 e6
      go_wp2
      go_ret2
      exact ⟨rfl, HE.out⟩
    | some i =>
      have hlow' : ∀ j, Calls Tryz.prog 109 #[slB g4 c4, .int .i64 0, .int .i64 (M.nodes : Int)] (w.drewN j) fun e w' => e = .returned (.int .i64 (i : Int)) ∧ w' = w.drewN j := hlow
      have hi4 := hrg i rfl
      have hi0 : ¬ (i : Int) < 0 := by omega
      have hi1 : (0 : Int) ≤ (i : Int) := by omega
      have hi2 : (i : Int) < 4096 := by omega
      clear hlow hrg
      obtain ⟨Q, hQ⟩ : ∃ Q, Q = M.puts 1 := ⟨_, rfl⟩
      rw [← hQ] at hput HPn
      dsimp only
      rw [← hQ]
      clear hQ
      by_cases hq0 : Q.1 = 0
      · rw [if_neg (fun e => e hq0)]
        rw [hq0] at hput
        go_enter Tryz.func71, Tryz.ntmps71
        go_wp2_with fail
        refine ks.mono ?_
        rintro e w0 ⟨rfl, hw0⟩
        have hw0' := hw0.symm
        subst hw0'
        clear hw0 ks
        go_wp2_with fail
        go_quiet ((go_at_call 109; exact Calls.quiet_of_same (hlow' _)))

        have kp := hput nq
        obtain ⟨wq, hwq⟩ : ∃ wq, wq = w.drewN nq := ⟨_, rfl⟩
        have hbq : Below w.heap.size w wq := by rw [hwq]; exact H.out.2 nq
        rw [← hwq] at kp ⊢
        have HB := Hid.mk hbq
        clear hwq hbq hlow' hput e0 e1 e2 e5 e6
        go_wp2_with fail
        refine kp.mono ?_
        rintro e w1 ⟨rfl, hm1, hk1⟩
        obtain ⟨g, cg, x1, x2, x3, x4, x5, x6⟩ := hm1.setBit1 hi4 true
        rw [HPn.out.2] at x3 x5
        have hcm : cg ≤ 9223372036854775807 := by
          obtain ⟨gq1, cq1, gq2, cq2, gq3, cq3, gq4, cq4, v5', v6', v7', hma⟩ := hm1
          have h9 : w1.cell? ⟨k, 6, none⟩ = some (slB gq4 cq4) := cell_of_block hma.b (j := 6) rfl
          rw [x1] at h9
          injection h9 with h8
          injection h8 with h7 h6 h5
          have := hma.nn.2.1.max
          unfold maxLen at this
          omega
        have HE : Hid (MX (w1.setCell ⟨g, i, none⟩ (.bool true)) (more X w (w1.setCell ⟨g, i, none⟩ (.bool true))) k { Q.2 with nn := M.nn.set i true } ∧ Keeps X w (w1.setCell ⟨g, i, none⟩ (.bool true))) := by
          have z1 := HB.out.size
          have z2 := hk1.size
          have z3 := x6.size
          refine ⟨x5.mono (fun j hj => hj.imp (fun e => e) (fun e => ⟨by have := e.1; omega, by have := e.2; omega⟩)), ((Keeps.of_below X HB.out).trans hk1 (fun _ h => .inl h)).trans x6 (fun j hj => hj.imp (fun e => e) (fun e => by have := e.1; omega))⟩
        generalize M.nn.getD i false = z at *
        clear kp hm1 hk1 x5 x6 HB
        go_wp2
        go_ret2
        exact ⟨rfl, HE.out⟩
      · rw [if_pos hq0]
        go_enter Tryz.func71, Tryz.ntmps71
        go_wp2_with fail
        refine ks.mono ?_
        rintro e w0 ⟨rfl, hw0⟩
        have hw0' := hw0.symm
        subst hw0'
        clear hw0 ks
        go_wp2_with fail
        go_quiet ((go_at_call 109; exact Calls.quiet_of_same (hlow' _)))

        have kp := hput nq
        obtain ⟨wq, hwq⟩ : ∃ wq, wq = w.drewN nq := ⟨_, rfl⟩
        have hbq : Below w.heap.size w wq := by rw [hwq]; exact H.out.2 nq
        rw [← hwq] at kp ⊢
        have HB := Hid.mk hbq
        clear hwq hbq hlow' hput e0 e1 e2 e5 e6
        obtain ⟨r, hr⟩ : ∃ r, r = Q.1 := ⟨_, rfl⟩
        rw [← hr] at kp hq0
        have HRR := Hid.mk hr
        clear hr
        go_wp2_with fail
        refine kp.mono ?_
        rintro e w1 ⟨rfl, hm1, hk1⟩
        have HE : Hid (MX w1 (more X w w1) k Q.2 ∧ Keeps X w w1) := by
          have z1 := HB.out.size
          refine ⟨hm1.mono (fun j hj => hj.imp (fun e => e) (fun e => ⟨by have := e.1; omega, e.2⟩)), (Keeps.of_below X HB.out).trans hk1 (fun _ h => .inl h)⟩
        clear kp hm1 hk1 HB
        go_wp2
        go_ret2
        exact ⟨by rw [HRR.out]; rfl, HE.out⟩
  · have hc : M.take1 = (0, M.state, M) := by unfold MP.take1; rw [if_pos h0]
    rw [hc]
    have H := Hid.mk h
    clear h hc
    generalize M.state = x at *
    go_enter Tryz.func71, Tryz.ntmps71
    go_wp2_with fail
    refine ks.mono ?_
    rintro e w0 ⟨rfl, hw0⟩
    have hw0' := hw0.symm
    subst hw0'
    clear hw0 ks
    go_wp2
    go_ret2
    exact ⟨rfl, H.out.mono (fun _ h => .inl h), Keeps.refl _ _⟩
end
end Go.Proofs.YthohoicgidjpfabGreat
