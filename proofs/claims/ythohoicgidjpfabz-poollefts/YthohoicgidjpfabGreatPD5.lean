import Derived.Test.YthohoicgidjpfabGreatPD4
namespace Go.Proofs.YthohoicgidjpfabGreat
open Go.RowKit

/-- The first m true, the rest not, as far as n. -/
def lowTo (m : Nat) : List Bool := List.replicate m true ++ List.replicate (4096 - m) false
theorem lowTo_zero : lowTo 0 = List.replicate 4096 false := by unfold lowTo; rw [List.replicate_zero, List.nil_append, Nat.sub_zero]
theorem lowTo_len {m : Nat} (hm : m ≤ 4096) : (lowTo m).length = 4096 := by unfold lowTo; rw [List.length_append, List.length_replicate, List.length_replicate]; omega
theorem lowTo_set {m : Nat} (hm : m < 4096) : (lowTo m).set m true = lowTo (m + 1) := by
  unfold lowTo
  rw [List.set_append_right _ _ (by rw [List.length_replicate]; exact Nat.le_refl _), List.length_replicate, Nat.sub_self, show 4096 - m = (4096 - (m + 1)) + 1 by omega, List.replicate_succ, List.set_cons_zero, List.replicate_succ' (n := m), List.append_assoc]
  rfl
theorem lowTo_get {m i : Nat} (hi : i < 4096) : (lowTo m).getD i false = decide (i < m) := by
  unfold lowTo
  by_cases h : i < m
  · rw [List.getD, List.getElem?_append_left (by rw [List.length_replicate]; exact h), List.getElem?_replicate, if_pos h]
    simp [h]
  · rw [List.getD, List.getElem?_append_right (by rw [List.length_replicate]; omega), List.length_replicate, List.getElem?_replicate, if_pos (by omega)]
    simp [h]
theorem lowTo_is {m : Nat} (hm : m ≤ 4096) : lowTo m = lowB m := by
  apply List.ext_getElem ((lowTo_len hm).trans (lowB_len m).symm)
  intro i h1 h2
  have hi : i < 4096 := by rw [lowB_len] at h2; exact h2
  have e1 := lowB_get m hi
  have e2 := lowTo_get (m := m) hi
  rw [List.getD, List.getElem?_eq_getElem h2, Option.getD_some] at e1
  rw [List.getD, List.getElem?_eq_getElem h1, Option.getD_some] at e2
  rw [e1, e2]
section
variable {w w' : World} {X Y Z : Nat → Prop} {k B g' c' : Nat} {M : MP} {l : List Bool} {d : List Int}
theorem MX.lt (h : MX w X k M) : MX w (fun j => X j ∧ j < w.heap.size) k M := by
  obtain ⟨g1, c1, g2, c2, g3, c3, g4, c4, v5, v6, v7, h⟩ := h
  have hil : IL w X v7 M.put := ⟨h.put.1, h.put.2⟩
  exact ⟨g1, c1, g2, c2, g3, c3, g4, c4, v5, v6, v7, h.b, ⟨h.xk, lt_there h.b⟩, ⟨⟨h.ob.1, h.ob.2.1.lt⟩, h.ob.2⟩, ⟨⟨h.on.1, h.on.2.1.lt⟩, h.on.2⟩, ⟨⟨h.nb.1, h.nb.2.1.lt⟩, h.nb.2⟩, ⟨⟨h.nn.1, h.nn.2.1.lt⟩, h.nn.2⟩, h.n12, h.n13, h.n14, h.n23, h.n24, h.n34, h.oraw.bound, h.raw.bound, ⟨h.put.1, fun g hg => ⟨h.put.2 g hg, hil.lt hg⟩⟩, h.own⟩
set_option maxRecDepth 20000 in
set_option maxHeartbeats 4000000 in
theorem mclear_any (h : MX w X k M) (hX : ∀ j, X j → j < w.heap.size) (hp : M.put.length ≤ 16) (hn : M.nodes ≤ 4096) :
    Calls Tryz.prog 10 #[.pointer (some ⟨k, 0, none⟩)] w fun e w' => MO w w' X w.heap.size k M.clear e := by
  have ks := mstate_any h
  by_cases h0 : M.state = 0
  · have hc : M.clear = if (M.lays 0 (lowB (2 + M.nodes / 4))).1 ≠ 0 then M.lays 0 (lowB (2 + M.nodes / 4)) else (M.lays 0 (lowB (2 + M.nodes / 4))).2.lays 1 noBits := by unfold MP.clear; rw [if_neg (fun e => e h0)]
    rw [h0] at ks
    rw [hc]
    obtain ⟨D, hD⟩ : ∃ D, D = 2 + M.nodes / 4 := ⟨_, rfl⟩
    have hD4 : D ≤ 4096 := by omega
    have c2' : w.cell? ⟨k, 2, none⟩ = some (.int .i64 (D : Int)) := by
      obtain ⟨g1, c1, g2, c2, g3, c3, g4, c4, v5, v6, v7, hm⟩ := h
      rw [hD]
      exact cell_of_block hm.b (j := 2) rfl
    rw [← hD]
    have hkl : k < w.heap.size := by
      obtain ⟨g1, c1, g2, c2, g3, c3, g4, c4, v5, v6, v7, hm⟩ := h
      exact lt_there hm.b
    obtain ⟨R, hR⟩ : ∃ R, R = M.lays 0 (lowB D) := ⟨_, rfl⟩
    have HRp : Hid (R.2.put.length ≤ 16) := by rw [hR]; exact lays_len hp
    rw [← hR]
    have HR0 := Hid.mk hR
    have H := Hid.mk (And.intro h (And.intro hX hp))
    clear h hX hc h0 hD hp hR
    go_enter Tryz.func10, Tryz.ntmps10
    go_wp2_with fail
    refine ks.mono ?_
    rintro e w0 ⟨rfl, hw0⟩
    have hw0' := hw0.symm
    subst hw0'
    clear hw0 ks
    have kn := none_any w
    go_wp2_with fail
    refine kn.mono ?_
    rintro e w1 ⟨v, rfl, hbl, hb1⟩
    obtain ⟨g, cg, hv, hg, hr⟩ := hbl.row (by simp)
    rw [List.length_replicate] at hv
    subst hv
    have hcg : 4096 ≤ cg := by have := hr.le; simpa [bls] using this
    have hcm : cg ≤ 9223372036854775807 := by have := hr.max; unfold maxLen at this; omega
    have HR : Hid (RowAt w1 4 g cg (bls (lowTo 0)) ∧ Below w.heap.size w w1) := ⟨by rw [lowTo_zero]; exact hr, hb1⟩
    clear kn hbl hr hb1
    go_wp2
    go_loopw [5] (fun iv wr => ∃ i : Nat, i ≤ D ∧ iv = .int .i64 (i : Int) ∧ RowAt wr 4 g cg (bls (lowTo i)) ∧ Below w.heap.size w wr) (fun iv _ => D - (intOf iv).toNat)
    case atStart => exact ⟨0, Nat.zero_le _, rfl, HR.out⟩
    case round =>
      clear HR
      obtain ⟨i, hi, rfl, hr, hb⟩ := hrel
      have c2'' := (World.cell?_of_block (w := w) (a := ⟨k, 2, none⟩) (hb.block k hkl)).trans c2'
      by_cases hlt : i < D
      · have hlt' : (i : Int) < (D : Int) := by omega
        have hi4 : (i : Int) < 4096 := by omega
        have hi0 : (0 : Int) ≤ (i : Int) := by omega
        have cm := hr.truth (i := i) (by rw [lowTo_len (by omega)]; omega)
        have fm := hr.thaw i
        have hset := hr.setTruth i true
        rw [lowTo_set (by omega)] at hset
        have HE := Hid.mk (And.intro hset (hb.trans ((Below.refl w.heap.size wr).setCell (p := ⟨g, i, none⟩) (by simpa using hg) (.bool true))))
        clear hr hb hset
        generalize (lowTo i).getD i false = z at *
        go_wp2
        go_roundw
        case rel => exact ⟨i + 1, by omega, by go_num, HE.out⟩
        case measure => simp [intOf]; omega
      · obtain rfl : i = D := by omega
        have hlt' : ¬ (i : Int) < (i : Int) := by omega
        rw [lowTo_is hD4] at hr
        have kl := lays0_any (B := w.heap.size) (H.out.1.apart (Keeps.of_below (fun _ => False) (show Below w.heap.size w wr from hb)) (fun _ h => h.elim)) H.out.2.1 hb.size hg hr (lowB_len _) H.out.2.2
        have HB := Hid.mk hb
        rw [← HR0.out] at kl
        clear hr hb
        by_cases hR0 : R.1 = 0
        · have HZ := Hid.mk hR0
          unfold MO at kl
          rw [hR0] at kl
          clear hR0
          go_wp2_with fail
          refine kl.mono ?_
          rintro e w3 ⟨rfl, hm3, hk3⟩
          have kn2 := none_any w3
          have H3 := Hid.mk (And.intro hm3 hk3)
          clear kl hm3 hk3 c2''
          go_wp2_with fail
          refine kn2.mono ?_
          rintro e w4 ⟨v4, rfl, hbl4, hb4⟩
          obtain ⟨g4, cg4, hv4, hg4, hr4⟩ := hbl4.row (by simp)
          rw [List.length_replicate] at hv4
          subst hv4
          have z0 := HB.out.size
          have z3 := H3.out.2.size
          have kl2 := lays1_any (B := w3.heap.size) (H3.out.1.later hb4) (fun j hj => by
            rcases hj with hj | hj
            · have := H.out.2.1 _ hj; omega
            · exact hj.2) hb4.size hg4 (show RowAt w4 4 g4 cg4 (bls noBits) from hr4) (by unfold noBits; simp) HRp.out
          have HB4 := Hid.mk hb4
          clear kn2 hbl4 hb4 hr4
          go_wp2_with fail
          refine kl2.mono ?_
          rintro e w5 ⟨rfl, hm5, hk5⟩
          have HE : Hid (MX w5 (fun j => X j ∨ (w.heap.size ≤ j ∧ j < w5.heap.size)) k (R.2.lays 1 noBits).2 ∧ Keeps X w w5) := by
            have z4 := HB4.out.size
            have z5 := hk5.size
            refine ⟨hm5.mono (fun j hj => ?_), (((Keeps.of_below X HB.out).trans H3.out.2 (fun _ h => .inl h)).trans (Keeps.of_below (fun _ => False) HB4.out) (fun _ h => h.elim)).trans hk5 (fun j hj => hj.imp (fun e => e) (fun e => e.1))⟩
            rcases hj with (hj | hj) | hj
            · exact .inl hj
            · exact .inr ⟨hj.1, by have := hj.2; omega⟩
            · exact .inr ⟨by have := hj.1; omega, hj.2⟩
          clear kl2 hm5 hk5 HB4 H3
          go_wp2
          go_ret
          try rw [if_neg (fun e => e HZ.out)]
          exact ⟨rfl, HE.out⟩
        · have HZ := Hid.mk hR0
          unfold MO at kl
          obtain ⟨r, hr⟩ : ∃ r, r = R.1 := ⟨_, rfl⟩
          rw [← hr] at kl hR0
          have HRR := Hid.mk hr
          clear hr
          go_wp2_with fail
          refine kl.mono ?_
          rintro e w3 ⟨rfl, hm3, hk3⟩
          have HE : Hid (MX w3 (fun j => X j ∨ (w.heap.size ≤ j ∧ j < w3.heap.size)) k R.2 ∧ Keeps X w w3) := ⟨hm3, (Keeps.of_below X HB.out).trans hk3 (fun _ h => .inl h)⟩
          clear kl hm3 hk3
          go_wp2
          go_ret
          try rw [if_pos HZ.out]
          exact ⟨by rw [HRR.out]; rfl, HE.out⟩
  · have hc : M.clear = (M.state, M) := by unfold MP.clear; rw [if_pos h0]
    rw [hc]
    have H := Hid.mk h
    clear h hX hc
    generalize M.state = x at *
    go_enter Tryz.func10, Tryz.ntmps10
    go_wp2_with fail
    refine ks.mono ?_
    rintro e w0 ⟨rfl, hw0⟩
    have hw0' := hw0.symm
    subst hw0'
    clear hw0 ks
    go_wp2
    go_ret
    exact ⟨rfl, H.out.mono (fun _ h => .inl h), Keeps.refl _ _⟩
end
end Go.Proofs.YthohoicgidjpfabGreat
