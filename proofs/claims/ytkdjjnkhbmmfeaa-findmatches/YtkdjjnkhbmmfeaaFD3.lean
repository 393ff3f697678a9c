import Derived.Test.YtkdjjnkhbmmfeaaFD2
namespace Go.Proofs.Ytkdjjnkhbmmfeaa
open Go.RowKit Go.Maps

theorem results_agg {P : Program} {fn : Func} {p : Tmp} {ty : TypeId} (h : fn.results = #[.cell p ty]) (tmps : Array Value) (w : World) (g : Nat) (cs : List Value) (d : TypeDesc)
    (hp : tmps.getD p undef = .pointer (some ⟨g, 0, none⟩)) (hg : w.rangeAt g 0 cs) (hu : P.underlying ty = some d) (hd : d.isRow = true) (hi : (P.info? ty).map (·.size) = some cs.length) :
    (results fn tmps).run P w = .ok (.agg cs.toArray) w := by
  have hp' : tmps[p]?.getD undef = .pointer (some ⟨g, 0, none⟩) := by simpa using hp
  simp [results, h, hp', asAddr, run_loadVar_mid w g 0 ty cs d hg hu hd hi]
theorem range_block {w : World} {g : Nat} {cs : List Value} {t : TypeId} (h : w.heap[g]? = some (.cells cs.toArray t (0, 0))) : w.rangeAt g 0 cs := by
  intro j v hv
  rw [Nat.zero_add]
  exact cell_of_block h (by simpa using hv)
section
variable {w w' : World} {r g : Nat} {b : Int} {l m : List Int} {G : Nat → Prop}
theorem two_cells {B : Nat} {t : TypeId} {u v : Value} (h : w.heap[B]? = some (.cells #[u, v] t (0, 0))) (a b : Value) : w.cell? ⟨B, 0, none⟩ = some u ∧ (w.setCell ⟨B, 0, none⟩ a).cell? ⟨B, 1, none⟩ = some v ∧ w.frozen? ⟨B, 0, none⟩ = false ∧ (w.setCell ⟨B, 0, none⟩ a).frozen? ⟨B, 1, none⟩ = false ∧ ((w.setCell ⟨B, 0, none⟩ a).setCell ⟨B, 1, none⟩ b).heap[B]? = some (.cells #[a, b] t (0, 0)) ∧ Keeps (fun k => k = B) w ((w.setCell ⟨B, 0, none⟩ a).setCell ⟨B, 1, none⟩ b) := by
  have h1 := heap_setCell_same _ _ 0 _ _ a h
  have h2 := heap_setCell_same _ _ 1 _ _ b h1
  exact ⟨cell_of_block h (j := 0) rfl, cell_of_block h1 (j := 1) (by simp), frozen_of_block h 0, frozen_of_block h1 1, h2.trans (by simp), (Keeps.setCell (F := fun k => k = B) w (p := ⟨B, 0, none⟩) rfl a).trans (Keeps.setCell (F := fun k => k = B) _ (p := ⟨B, 1, none⟩) rfl b) (fun k e => .inl e)⟩
set_option maxRecDepth 20000 in
set_option maxHeartbeats 4000000 in
theorem member_ok (h : RD w r g l) {a b : Int} (hm : memP l = some ((a, b), m)) : Calls Try.prog 33 #[.pointer (some ⟨r, 0, none⟩)] w fun e w' => e = .returned (.agg #[.int .u8 a, .int .u8 b]) ∧ RD w' r g m ∧ Keeps (fun k => k = r) w w' := by
  unfold memP at hm
  cases hu : unitP l with
  | none => rw [hu] at hm; cases hm
  | some q =>
    obtain ⟨x, n⟩ := q
    rw [hu] at hm
    dsimp only at hm
    have hb0 : Below w.heap.size w (w.alloc (.cells #[.int .u8 0, .int .u8 0] 83)) := (Below.refl _ _).alloc (Nat.le_refl _) _
    have hB := heap_alloc_new w (.cells #[.int .u8 0, .int .u8 0] 83)
    have hrl := h.lt
    have hgl := h.glt
    have k1 := unit_ok (h.later hb0) hu
    have HB := Hid.mk (And.intro hB (Keeps.of_below (fun k => k = r) hb0))
    clear h hb0 hB
    go_enter Try.func33, Try.ntmps33
    go_wp2_with fail
    refine k1.mono ?_
    rintro e w1 ⟨rfl, hr1, hk1⟩
    have k2 := took_any hr1 45
    have HK1 : Hid (Keeps (fun k => k = r) w w1 ∧ w1.heap[w.heap.size]? = some (.cells #[.int .u8 0, .int .u8 0] 83 (0, 0))) := ⟨HB.out.2.trans hk1 (fun k e => .inl e), (hk1.block _ (lt_there HB.out.1) (by omega)).trans HB.out.1⟩
    clear k1 hr1 hk1 HB
    go_wp2_with fail
    refine k2.mono ?_
    rintro e w2 ⟨rfl, hr2, hk2⟩
    have HK2 : Hid (Keeps (fun k => k = r) w w2 ∧ w2.heap[w.heap.size]? = some (.cells #[.int .u8 0, .int .u8 0] 83 (0, 0))) := ⟨HK1.out.1.trans hk2 (fun k e => .inl e), (hk2.block _ (lt_there HK1.out.2) (by omega)).trans HK1.out.2⟩
    clear k2 hk2 HK1
    cases ht : (tookP n 45).1 with
    | true =>
      rw [ht, if_pos rfl] at hm
      cases hu2 : unitP (tookP n 45).2 with
      | none => rw [hu2] at hm; cases hm
      | some q2 =>
        obtain ⟨y, n2⟩ := q2
        rw [hu2] at hm
        dsimp only at hm
        have k3 := unit_ok hr2 hu2
        by_cases hxy : x > y
        · rw [if_pos hxy] at hm
          cases hm
        · rw [if_neg hxy] at hm
          cases hm
          have hgt : ¬ b < a := hxy
          clear hr2 hxy
          go_wp2_with fail
          refine k3.mono ?_
          rintro e w3 ⟨rfl, hr3, hk3⟩
          have hb3 := (hk3.block _ (lt_there HK2.out.2) (by omega)).trans HK2.out.2
          obtain ⟨q0, q1, f0, f1, hb4, hk4⟩ := two_cells hb3 (.int .u8 a) (.int .u8 b)
          have HE : Hid ((((w3.setCell ⟨w.heap.size, 0, none⟩ (.int .u8 a)).setCell ⟨w.heap.size, 1, none⟩ (.int .u8 b)).rangeAt w.heap.size 0 [.int .u8 a, .int .u8 b]) ∧ RD ((w3.setCell ⟨w.heap.size, 0, none⟩ (.int .u8 a)).setCell ⟨w.heap.size, 1, none⟩ (.int .u8 b)) r g m ∧ Keeps (fun k => k = r) w ((w3.setCell ⟨w.heap.size, 0, none⟩ (.int .u8 a)).setCell ⟨w.heap.size, 1, none⟩ (.int .u8 b))) := by
            refine ⟨range_block hb4, hr3.keep hk4 (by omega) (by omega), (HK2.out.1.trans hk3 (fun k e => .inl e)).trans hk4 (fun k e => .inr (by omega))⟩
          clear k3 hr3 hk3 hb3 hb4 hk4 HK2
          go_wp2_with fail
          refine (haltIf_fb _ 190 (by first | rfl | (simp; omega))).mono ?_
          rintro e w4 ⟨rfl, hw4⟩
          have hw4' := hw4.symm
          subst hw4'
          clear hw4
          go_wp2
          refine bodyPost_ret (results_agg (P := Try.prog) rfl _ _ w.heap.size [.int .u8 a, .int .u8 b] _ rfl HE.out.1 Try.underlying83 rfl (by kernel_rfl)) rfl ⟨rfl, HE.out.2.1, HE.out.2.2⟩
    | false =>
      rw [ht] at hm
      simp only [Bool.false_eq_true, if_false, Option.some.injEq, Prod.mk.injEq] at hm
      obtain ⟨⟨rfl, rfl⟩, rfl⟩ := hm
      have hgt : ¬ x < x := by omega
      obtain ⟨q0, q1, f0, f1, hb4, hk4⟩ := two_cells HK2.out.2 (.int .u8 x) (.int .u8 x)
      have HE : Hid ((((w2.setCell ⟨w.heap.size, 0, none⟩ (.int .u8 x)).setCell ⟨w.heap.size, 1, none⟩ (.int .u8 x)).rangeAt w.heap.size 0 [.int .u8 x, .int .u8 x]) ∧ RD ((w2.setCell ⟨w.heap.size, 0, none⟩ (.int .u8 x)).setCell ⟨w.heap.size, 1, none⟩ (.int .u8 x)) r g (tookP n 45).2 ∧ Keeps (fun k => k = r) w ((w2.setCell ⟨w.heap.size, 0, none⟩ (.int .u8 x)).setCell ⟨w.heap.size, 1, none⟩ (.int .u8 x))) :=
        ⟨range_block hb4, hr2.keep hk4 (by omega) (by omega), HK2.out.1.trans hk4 (fun k e => .inr (by omega))⟩
      clear hr2 hb4 hk4 HK2
      go_wp2_with fail
      refine (haltIf_fb _ 190 (by first | rfl | (simp; omega))).mono ?_
      rintro e w4 ⟨rfl, hw4⟩
      have hw4' := hw4.symm
      subst hw4'
      clear hw4
      go_wp2
      refine bodyPost_ret (results_agg (P := Try.prog) rfl _ _ w.heap.size [.int .u8 x, .int .u8 x] _ rfl HE.out.1 Try.underlying83 rfl (by kernel_rfl)) rfl ⟨rfl, HE.out.2.1, HE.out.2.2⟩
set_option maxRecDepth 20000 in
set_option maxHeartbeats 4000000 in
theorem member_no (h : RD w r g l) (hm : memP l = none) : Calls Try.prog 33 #[.pointer (some ⟨r, 0, none⟩)] w fun e w' => e = .panicked (gave 190) ∧ Keeps (fun k => k = r) w w' := by
  unfold memP at hm
  have hb0 : Below w.heap.size w (w.alloc (.cells #[.int .u8 0, .int .u8 0] 83)) := (Below.refl _ _).alloc (Nat.le_refl _) _
  have h0 := h.later hb0
  have HB := Hid.mk (Keeps.of_below (fun k => k = r) hb0)
  clear h hb0
  cases hu : unitP l with
  | none =>
    have k1 := unit_no h0 hu
    clear h0
    go_enter Try.func33, Try.ntmps33
    go_wp2_with fail
    refine k1.mono ?_
    rintro e w1 ⟨rfl, hk1⟩
    exact ⟨rfl, rfl, HB.out.trans hk1 (fun k e => .inl e)⟩
  | some q =>
    obtain ⟨x, n⟩ := q
    rw [hu] at hm
    dsimp only at hm
    have k1 := unit_ok h0 hu
    clear h0
    cases ht : (tookP n 45).1 with
    | false => rw [ht] at hm; simp at hm
    | true =>
      rw [ht, if_pos rfl] at hm
      go_enter Try.func33, Try.ntmps33
      go_wp2_with fail
      refine k1.mono ?_
      rintro e w1 ⟨rfl, hr1, hk1⟩
      have k2 := took_any hr1 45
      rw [ht] at k2
      have HK1 : Hid (Keeps (fun k => k = r) w w1) := HB.out.trans hk1 (fun k e => .inl e)
      clear k1 hr1 hk1 HB
      go_wp2_with fail
      refine k2.mono ?_
      rintro e w2 ⟨rfl, hr2, hk2⟩
      have HK2 : Hid (Keeps (fun k => k = r) w w2) := HK1.out.trans hk2 (fun k e => .inl e)
      clear k2 hk2 HK1
      cases hu2 : unitP (tookP n 45).2 with
      | none =>
        have k3 := unit_no hr2 hu2
        clear hr2
        go_wp2_with fail
        refine k3.mono ?_
        rintro e w3 ⟨rfl, hk3⟩
        exact ⟨rfl, rfl, HK2.out.trans hk3 (fun k e => .inl e)⟩
      | some q2 =>
        obtain ⟨y, n2⟩ := q2
        rw [hu2] at hm
        dsimp only at hm
        have k3 := unit_ok hr2 hu2
        by_cases hxy : x > y
        · have hgt : y < x := hxy
          clear hr2 hxy
          go_wp2_with fail
          refine k3.mono ?_
          rintro e w3 ⟨rfl, hr3, hk3⟩
          have HK3 : Hid (Keeps (fun k => k = r) w w3) := HK2.out.trans hk3 (fun k e => .inl e)
          clear k3 hr3 hk3 HK2
          go_wp2_with fail
          refine (haltIf_tb _ 190 (by first | rfl | (simp; omega))).mono ?_
          rintro e w4 ⟨rfl, hw4⟩
          have hw4' := hw4.symm
          subst hw4'
          exact ⟨rfl, rfl, HK3.out⟩
        · rw [if_neg hxy] at hm
          cases hm
end
end Go.Proofs.Ytkdjjnkhbmmfeaa
