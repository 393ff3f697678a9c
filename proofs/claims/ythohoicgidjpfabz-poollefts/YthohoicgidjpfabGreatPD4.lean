import Derived.Test.YthohoicgidjpfabGreatPD3
namespace Go.Proofs.YthohoicgidjpfabGreat
open Go.RowKit

/-- What a call of the document's pool leaves: its own blocks and new ones. -/
def MO (w w' : World) (X : Nat → Prop) (B k : Nat) (R : Int × MP) (e : Ending) : Prop :=
  e = .returned (.int .i64 R.1) ∧ MX w' (fun j => X j ∨ (B ≤ j ∧ j < w'.heap.size)) k R.2 ∧ Keeps X w w'
/-- No bit at all. -/
def noBits : List Bool := List.replicate 4096 false
def MP.clear (M : MP) : Int × MP :=
  if M.state ≠ 0 then (M.state, M) else if (M.lays 0 (lowB (2 + M.nodes / 4))).1 ≠ 0 then M.lays 0 (lowB (2 + M.nodes / 4)) else (M.lays 0 (lowB (2 + M.nodes / 4))).2.lays 1 noBits
/-- A put of a bitmap's bytes. -/
def MP.wmap (M : MP) (b : Nat) (d : List Int) : Int × MP := if M.state ≠ 0 then (M.state, M) else M.lays b (blOf d)
theorem puts_len {M : MP} {b : Nat} (h : M.put.length ≤ 16) : (M.puts b).2.put.length ≤ 16 := by
  unfold MP.puts
  split
  · exact h
  · split
    · exact h
    · simp
      omega
theorem lays_len {M : MP} {b : Nat} {l : List Bool} (h : M.put.length ≤ 16) : (M.lays b l).2.put.length ≤ 16 := by
  have h2 := puts_len (b := b) h
  unfold MP.lays
  repeat' split
  all_goals first | exact h | exact h2
theorem puts_nodes (M : MP) (b : Nat) : (M.puts b).2.nodes = M.nodes := by
  unfold MP.puts
  split
  · rfl
  · split <;> rfl
theorem lays_nodes (M : MP) (b : Nat) (l : List Bool) : (M.lays b l).2.nodes = M.nodes := by
  unfold MP.lays
  repeat' split
  all_goals first | rfl | exact puts_nodes M b
section
variable {w w' : World} {X Y Z : Nat → Prop} {k g1 c1 g2 c2 g3 c3 g4 c4 g5 c5 g6 c6 B g' c' : Nat} {v5 v6 v7 : Value} {M : MP} {l lb ln : List Bool}
theorem MAt.now (h : MAt w X k g1 c1 g2 c2 g3 c3 g4 c4 v5 v6 v7 M) (hk : Keeps (fun j => j = k) w w') (hY : ∀ j, X j → Y j)
    (hb : w'.heap[k]? = some (.cells (mpC { M with nb := lb, nn := ln } (slB g1 c1) (slB g2 c2) (slB g5 c5) (slB g6 c6) v5 v6 v7) 72 (0, 0))) (h5 : BX w Y g5 c5 lb) (h6 : BX w Y g6 c6 ln) (n15 : g1 ≠ g5) (n16 : g1 ≠ g6) (n25 : g2 ≠ g5) (n26 : g2 ≠ g6) (n56 : g5 ≠ g6) :
    MAt w' Y k g1 c1 g2 c2 g5 c5 g6 c6 v5 v6 v7 { M with nb := lb, nn := ln } := by
  have hbl := h.b
  have hb1 : ∀ g, g = k → ∃ cur t fz, w.heap[g]? = some (.cells cur t fz) ∧ t ≠ 4 := fun g hg => by subst hg; exact ⟨_, _, _, hbl, by decide⟩
  have hb2 : ∀ g, g = k → ∃ cur t fz, w.heap[g]? = some (.cells cur t fz) ∧ t ≠ 5 ∧ t ≠ 44 := fun g hg => by subst hg; exact ⟨_, _, _, hbl, by decide, by decide⟩
  have hil : IL w X v7 M.put := ⟨h.put.1, h.put.2⟩
  have hil2 := hil.keep hk (fun g hg e => by
    obtain ⟨cur, hc⟩ := owns_block hil.own hg
    rw [e, hbl] at hc
    cases hc)
  exact ⟨hb, hY _ h.xk, ⟨hY _ h.ob.1, h.ob.2.1.unlike hk hb1, h.ob.2.2⟩, ⟨hY _ h.on.1, h.on.2.1.unlike hk hb1, h.on.2.2⟩, ⟨h5.1, h5.2.1.unlike hk hb1, h5.2.2⟩, ⟨h6.1, h6.2.1.unlike hk hb1, h6.2.2⟩, h.n12, n15, n16, n25, n26, n56, (h.oraw.keep hk hb2).mono hY, (h.raw.keep hk hb2).mono hY, ⟨hil2.own, fun g hg => hY _ (hil2.x g hg)⟩, h.own⟩
/-- The store at the end of lays. -/
theorem MX.setNow (h : MX w Y k M) (hY : ∀ j, Y j → j ≠ g') (hr : RowAt w 4 g' c' (bls l)) (hl : l.length = 4096) (b : Bool) :
    ∃ x y : Value, w.cell? ⟨k, if b then 6 else 5, none⟩ = some x ∧ w.frozen? ⟨k, if b then 6 else 5, none⟩ = false ∧ MX (w.setCell ⟨k, if b then 6 else 5, none⟩ (slB g' c')) (fun j => Y j ∨ j = g') k (if b then { M with nn := l } else { M with nb := l }) ∧ Keeps Y w (w.setCell ⟨k, if b then 6 else 5, none⟩ (slB g' c')) ∧ x = y := by
  obtain ⟨g1, c1, g2, c2, g3, c3, g4, c4, v5, v6, v7, h⟩ := h
  have hk := Keeps.setCell (F := fun j => j = k) w (p := ⟨k, if b then 6 else 5, none⟩) rfl (slB g' c')
  have hkY := hk.mono (G := Y) (fun j e => by rw [e]; exact h.xk)
  cases b
  · have hs : (w.setCell ⟨k, 5, none⟩ (slB g' c')).heap[k]? = some (.cells (mpC { M with nb := l, nn := M.nn } (slB g1 c1) (slB g2 c2) (slB g' c') (slB g4 c4) v5 v6 v7) 72 (0, 0)) := heap_setCell_same _ _ _ _ _ _ h.b
    exact ⟨_, _, cell_of_block h.b (j := 5) rfl, frozen_of_block h.b 5, ⟨_, _, _, _, _, _, _, _, _, _, _, h.now (Y := fun j => Y j ∨ j = g') hk (fun _ h => .inl h) hs ⟨.inr rfl, hr, hl⟩ ⟨.inl h.nn.1, h.nn.2⟩ (hY _ h.ob.1) h.n14 (hY _ h.on.1) h.n24 (fun e => hY _ h.nn.1 e.symm)⟩, hkY, rfl⟩
  · have hs : (w.setCell ⟨k, 6, none⟩ (slB g' c')).heap[k]? = some (.cells (mpC { M with nb := M.nb, nn := l } (slB g1 c1) (slB g2 c2) (slB g3 c3) (slB g' c') v5 v6 v7) 72 (0, 0)) := heap_setCell_same _ _ _ _ _ _ h.b
    exact ⟨_, _, cell_of_block h.b (j := 6) rfl, frozen_of_block h.b 6, ⟨_, _, _, _, _, _, _, _, _, _, _, h.now (Y := fun j => Y j ∨ j = g') hk (fun _ h => .inl h) hs ⟨.inl h.nb.1, h.nb.2⟩ ⟨.inr rfl, hr, hl⟩ h.n13 (hY _ h.ob.1) h.n23 (hY _ h.on.1) (hY _ h.nb.1)⟩, hkY, rfl⟩
theorem lays0_is (M : MP) (l : List Bool) : M.lays 0 l = if M.nb = l then (0, M) else if (M.puts 0).1 ≠ 0 then M.puts 0 else (0, { (M.puts 0).2 with nb := l }) := rfl
set_option maxRecDepth 20000 in
set_option maxHeartbeats 4000000 in
theorem lays0_any (h : MX w X k M) (hX : ∀ j, X j → j < B) (hB : B ≤ w.heap.size) (hg : B ≤ g') (hr : RowAt w 4 g' c' (bls l)) (hl : l.length = 4096) (hp : M.put.length ≤ 16) :
    Calls Tryz.prog 29 #[.pointer (some ⟨k, 0, none⟩), .int .i64 0, slB g' c'] w fun e w' => MO w w' X B k (M.lays 0 l) e := by
  have hpu := fun (w1 : World) (h1 : MX w1 X k M) => puts_any h1 0 hp
  rw [lays0_is]
  obtain ⟨g1, c1, g2, c2, g3, c3, g4, c4, v5, v6, v7, hm⟩ := id h
  have c5' : w.cell? ⟨k, 5, none⟩ = some (slB g3 c3) := cell_of_block hm.b (j := 5) rfl
  have c6' : w.cell? ⟨k, 6, none⟩ = some (slB g4 c4) := cell_of_block hm.b (j := 6) rfl
  have ka := alike_any hm.nb.2.1 hr hm.nb.2.2 hl
  have H := Hid.mk h
  have HR := Hid.mk (And.intro hr hX)
  clear h hr hm hX hp
  by_cases he : M.nb = l
  · rw [decide_eq_true he] at ka
    rw [if_pos he]
    clear he hpu
    go_enter Tryz.func29, Tryz.ntmps29
    go_wp2_with fail
    refine ka.mono ?_
    rintro e w1 ⟨rfl, hb1⟩
    go_wp2
    go_ret
    exact ⟨rfl, (H.out.later hb1).mono (fun _ h => .inl h), Keeps.of_below _ hb1⟩
  · rw [decide_eq_false he] at ka
    rw [if_neg he]
    clear he
    obtain ⟨R, hR⟩ : ∃ R, R = M.puts 0 := ⟨_, rfl⟩
    rw [← hR] at hpu ⊢
    by_cases h0 : R.1 = 0
    · rw [if_neg (fun e => e h0)]
      go_enter Tryz.func29, Tryz.ntmps29
      go_wp2_with fail
      refine ka.mono ?_
      rintro e w1 ⟨rfl, hb1⟩
      have kp : Calls Tryz.prog 63 #[.pointer (some ⟨k, 0, none⟩), .int .i64 0] w1 fun e w' => e = .returned (.int .i64 0) ∧ MX w' (more X w1 w') k R.2 ∧ Keeps X w1 w' := by have := hpu w1 (H.out.later hb1); rw [h0] at this; exact this
      have HB := Hid.mk hb1
      clear ka hb1 hpu c5' c6' hR h0
      go_wp2_with fail
      refine kp.mono ?_
      rintro e w2 ⟨rfl, hm2, hk2⟩
      have hgw : g' < w.heap.size := HR.out.1.lt
      have hr2 := HR.out.1.agree ((hk2.block g' (Nat.lt_of_lt_of_le hgw HB.out.size) (fun e => by have := HR.out.2 _ e; omega)).trans (HB.out.block g' hgw))
      obtain ⟨x, y, cx, fx, hmx, hkx, _⟩ := hm2.setNow (fun j hj e => by
        rcases hj with hj | hj
        · have := HR.out.2 _ hj; omega
        · have := hj.1; have := HB.out.size; omega) hr2 hl false
      have cx' : w2.cell? ⟨k, 5, none⟩ = some x := cx
      have fx' : w2.frozen? ⟨k, 5, none⟩ = false := fx
      have HE : Hid (MX (w2.setCell ⟨k, 5, none⟩ (slB g' c')) (fun j => X j ∨ (B ≤ j ∧ j < (w2.setCell ⟨k, 5, none⟩ (slB g' c')).heap.size)) k { R.2 with nb := l } ∧ Keeps X w (w2.setCell ⟨k, 5, none⟩ (slB g' c'))) := by
        have z1 := HB.out.size
        have z2 := hk2.size
        have z3 : w2.heap.size ≤ (w2.setCell ⟨k, 5, none⟩ (slB g' c')).heap.size := hkx.size
        refine ⟨MX.mono hmx (fun j hj => ?_), ((Keeps.of_below X HB.out).trans hk2 (fun _ h => .inl h)).trans hkx (fun j hj => hj.imp (fun e => e) (fun e => by have := e.1; omega))⟩
        rcases hj with (hj | hj) | hj
        · exact .inl hj
        · exact .inr ⟨by have := hj.1; omega, by have := hj.2; omega⟩
        · exact .inr ⟨by omega, by omega⟩
      clear kp hm2 hk2 hr2 hmx hkx cx fx HB
      go_wp2
      go_ret
      exact ⟨rfl, HE.out⟩
    · rw [if_pos h0]
      go_enter Tryz.func29, Tryz.ntmps29
      go_wp2_with fail
      refine ka.mono ?_
      rintro e w1 ⟨rfl, hb1⟩
      have kp := hpu w1 (H.out.later hb1)
      have HB := Hid.mk hb1
      clear ka hb1 hpu c5' c6' hR
      obtain ⟨r, hr⟩ : ∃ r, r = R.1 := ⟨_, rfl⟩
      rw [← hr] at kp h0
      have HRR := Hid.mk hr
      clear hr
      go_wp2_with fail
      refine kp.mono ?_
      rintro e w2 ⟨rfl, hm2, hk2⟩
      have HE : Hid (MX w2 (fun j => X j ∨ (B ≤ j ∧ j < w2.heap.size)) k R.2 ∧ Keeps X w w2) := by
        have z1 := HB.out.size
        refine ⟨hm2.mono (fun j hj => hj.imp (fun e => e) (fun e => ⟨by have := e.1; omega, e.2⟩)), (Keeps.of_below X HB.out).trans hk2 (fun _ h => .inl h)⟩
      clear kp hm2 hk2 HB
      go_wp2
      go_ret
      exact ⟨by rw [HRR.out]; rfl, HE.out⟩
theorem lays1_is (M : MP) (l : List Bool) : M.lays 1 l = if M.nn = l then (0, M) else if (M.puts 1).1 ≠ 0 then M.puts 1 else (0, { (M.puts 1).2 with nn := l }) := rfl
set_option maxRecDepth 20000 in
set_option maxHeartbeats 4000000 in
theorem lays1_any (h : MX w X k M) (hX : ∀ j, X j → j < B) (hB : B ≤ w.heap.size) (hg : B ≤ g') (hr : RowAt w 4 g' c' (bls l)) (hl : l.length = 4096) (hp : M.put.length ≤ 16) :
    Calls Tryz.prog 29 #[.pointer (some ⟨k, 0, none⟩), .int .i64 1, slB g' c'] w fun e w' => MO w w' X B k (M.lays 1 l) e := by
  have hpu := fun (w1 : World) (h1 : MX w1 X k M) => puts_any h1 1 hp
  rw [lays1_is]
  obtain ⟨g1, c1, g2, c2, g3, c3, g4, c4, v5, v6, v7, hm⟩ := id h
  have c5' : w.cell? ⟨k, 5, none⟩ = some (slB g3 c3) := cell_of_block hm.b (j := 5) rfl
  have c6' : w.cell? ⟨k, 6, none⟩ = some (slB g4 c4) := cell_of_block hm.b (j := 6) rfl
  have ka := alike_any hm.nn.2.1 hr hm.nn.2.2 hl
  have H := Hid.mk h
  have HR := Hid.mk (And.intro hr hX)
  clear h hr hm hX hp
  by_cases he : M.nn = l
  · rw [decide_eq_true he] at ka
    rw [if_pos he]
    clear he hpu
    go_enter Tryz.func29, Tryz.ntmps29
    go_wp2_with fail
    refine ka.mono ?_
    rintro e w1 ⟨rfl, hb1⟩
    go_wp2
    go_ret
    exact ⟨rfl, (H.out.later hb1).mono (fun _ h => .inl h), Keeps.of_below _ hb1⟩
  · rw [decide_eq_false he] at ka
    rw [if_neg he]
    clear he
    obtain ⟨R, hR⟩ : ∃ R, R = M.puts 1 := ⟨_, rfl⟩
    rw [← hR] at hpu ⊢
    by_cases h0 : R.1 = 0
    · rw [if_neg (fun e => e h0)]
      go_enter Tryz.func29, Tryz.ntmps29
      go_wp2_with fail
      refine ka.mono ?_
      rintro e w1 ⟨rfl, hb1⟩
      have kp : Calls Tryz.prog 63 #[.pointer (some ⟨k, 0, none⟩), .int .i64 1] w1 fun e w' => e = .returned (.int .i64 0) ∧ MX w' (more X w1 w') k R.2 ∧ Keeps X w1 w' := by have := hpu w1 (H.out.later hb1); rw [h0] at this; exact this
      have HB := Hid.mk hb1
      clear ka hb1 hpu c5' c6' hR h0
      go_wp2_with fail
      refine kp.mono ?_
      rintro e w2 ⟨rfl, hm2, hk2⟩
      have hgw : g' < w.heap.size := HR.out.1.lt
      have hr2 := HR.out.1.agree ((hk2.block g' (Nat.lt_of_lt_of_le hgw HB.out.size) (fun e => by have := HR.out.2 _ e; omega)).trans (HB.out.block g' hgw))
      obtain ⟨x, y, cx, fx, hmx, hkx, _⟩ := hm2.setNow (fun j hj e => by
        rcases hj with hj | hj
        · have := HR.out.2 _ hj; omega
        · have := hj.1; have := HB.out.size; omega) hr2 hl true
      have cx' : w2.cell? ⟨k, 6, none⟩ = some x := cx
      have fx' : w2.frozen? ⟨k, 6, none⟩ = false := fx
      have HE : Hid (MX (w2.setCell ⟨k, 6, none⟩ (slB g' c')) (fun j => X j ∨ (B ≤ j ∧ j < (w2.setCell ⟨k, 6, none⟩ (slB g' c')).heap.size)) k { R.2 with nn := l } ∧ Keeps X w (w2.setCell ⟨k, 6, none⟩ (slB g' c'))) := by
        have z1 := HB.out.size
        have z2 := hk2.size
        have z3 : w2.heap.size ≤ (w2.setCell ⟨k, 6, none⟩ (slB g' c')).heap.size := hkx.size
        refine ⟨MX.mono hmx (fun j hj => ?_), ((Keeps.of_below X HB.out).trans hk2 (fun _ h => .inl h)).trans hkx (fun j hj => hj.imp (fun e => e) (fun e => by have := e.1; omega))⟩
        rcases hj with (hj | hj) | hj
        · exact .inl hj
        · exact .inr ⟨by have := hj.1; omega, by have := hj.2; omega⟩
        · exact .inr ⟨by omega, by omega⟩
      clear kp hm2 hk2 hr2 hmx hkx cx fx HB
      go_wp2
      go_ret
      exact ⟨rfl, HE.out⟩
    · rw [if_pos h0]
      go_enter Tryz.func29, Tryz.ntmps29
      go_wp2_with fail
      refine ka.mono ?_
      rintro e w1 ⟨rfl, hb1⟩
      have kp := hpu w1 (H.out.later hb1)
      have HB := Hid.mk hb1
      clear ka hb1 hpu c5' c6' hR
      obtain ⟨r, hr⟩ : ∃ r, r = R.1 := ⟨_, rfl⟩
      rw [← hr] at kp h0
      have HRR := Hid.mk hr
      clear hr
      go_wp2_with fail
      refine kp.mono ?_
      rintro e w2 ⟨rfl, hm2, hk2⟩
      have HE : Hid (MX w2 (fun j => X j ∨ (B ≤ j ∧ j < w2.heap.size)) k R.2 ∧ Keeps X w w2) := by
        have z1 := HB.out.size
        refine ⟨hm2.mono (fun j hj => hj.imp (fun e => e) (fun e => ⟨by have := e.1; omega, e.2⟩)), (Keeps.of_below X HB.out).trans hk2 (fun _ h => .inl h)⟩
      clear kp hm2 hk2 HB
      go_wp2
      go_ret
      exact ⟨by rw [HRR.out]; rfl, HE.out⟩
end
end Go.Proofs.YthohoicgidjpfabGreat
