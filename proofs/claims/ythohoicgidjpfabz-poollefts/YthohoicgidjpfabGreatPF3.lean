import Derived.Test.YthohoicgidjpfabGreatPF2
section
namespace Go.Proofs.YthohoicgidjpfabGreat
open Go.ChangeShapes Go.WideShapes Go.ChangeAt Go.RowKit Go.Deep

theorem cellsGeo : Tryz.prog.cellsOf 23 = 3 := by kernel_rfl
theorem open_geo {H : Type} {enc : TypeId × Value → H} {W : World} {base : Nat} {spare : Nat → Bool} {held : Bool} {fuel : Nat} {cs : List Value} {y : DataW H × List MemPlace} (h : DataW.trod enc Tryz.prog W base spare held fuel 23 cs = some y) : ∃ s l n, cs = [.int .i64 s, .int .i64 l, .int .i64 n] ∧ I64 s ∧ I64 l ∧ I64 n := by
  obtain ⟨v0, v1, v2, y0, y1, y2, k', rfl, _, g0, g1, g2⟩ := trod3 Tryz.underlying23 cellsGeo rfl rfl rfl cellsInt cellsInt cellsInt h
  obtain ⟨n0, q0, _, w0⟩ := DataW.trod_int Tryz.underlying3 g0
  obtain ⟨n1, q1, _, w1⟩ := DataW.trod_int Tryz.underlying3 g1
  obtain ⟨n2, q2, _, w2⟩ := DataW.trod_int Tryz.underlying3 g2
  simp only [List.cons.injEq, and_true] at q0 q1 q2
  subst q0 q1 q2
  exact ⟨n0, n1, n2, rfl, int_wf w0, int_wf w1, int_wf w2⟩
set_option maxRecDepth 20000 in
set_option maxHeartbeats 4000000 in
theorem poolLefts_any (B1 L1 N1 B2 L2 N2 : Int) (i1 : I64 B1) (i2 : I64 L1) (i3 : I64 N1) (i4 : I64 B2) (i5 : I64 L2) (i6 : I64 N2) (sa : Option Addr) (sn sc : Nat) (w : World) (hst : Steps6 w w.heap.size sa sn) (hsn : 48 * sn ≤ 140737488355328) :
    Calls Tryz.prog 3 #[.agg #[.int .i64 B1, .int .i64 L1, .int .i64 N1], .agg #[.int .i64 B2, .int .i64 L2, .int .i64 N2], .slice sa sn sc] w fun e w' => e = .returned (.bool true) ∧ Below w.heap.size w w' := by
  have b1 := below_box w (.cells #[.int .i64 B1, .int .i64 L1, .int .i64 N1] 23)
  have b2 := below_box (w.alloc (.cells #[.int .i64 B1, .int .i64 L1, .int .i64 N1] 23)) (.cells #[.int .i64 B2, .int .i64 L2, .int .i64 N2] 23)
  have n1 := heap_alloc_new w (.cells #[.int .i64 B1, .int .i64 L1, .int .i64 N1] 23)
  have n2 := heap_alloc_new (w.alloc (.cells #[.int .i64 B1, .int .i64 L1, .int .i64 N1] 23)) (.cells #[.int .i64 B2, .int .i64 L2, .int .i64 N2] 23)
  have z1 : (w.alloc (.cells #[.int .i64 B1, .int .i64 L1, .int .i64 N1] 23)).heap.size = w.heap.size + 1 := by rw [World.size_alloc]
  have z2 : ((w.alloc (.cells #[.int .i64 B1, .int .i64 L1, .int .i64 N1] 23)).alloc (.cells #[.int .i64 B2, .int .i64 L2, .int .i64 N2] 23)).heap.size = w.heap.size + 2 := by rw [World.size_alloc, z1]
  rw [z1] at n2
  have n1' := (b2.block _ (lt_there n1)).trans n1
  have b12 : Below w.heap.size w _ := b1.trans (b2.mono b1.size)
  have g0 := cell_of_block n1' (j := 0) rfl
  have g1 := cell_of_block n1' (j := 1) rfl
  have g2 := cell_of_block n1' (j := 2) rfl
  have g3 := cell_of_block n2 (j := 0) rfl
  have g4 := cell_of_block n2 (j := 1) rfl
  have g5 := cell_of_block n2 (j := 2) rfl
  have b3 := below_box ((w.alloc (.cells #[.int .i64 B1, .int .i64 L1, .int .i64 N1] 23)).alloc (.cells #[.int .i64 B2, .int .i64 L2, .int .i64 N2] 23)) (.cells #[.int .i64 2, .int .i64 3, .int .i64 4, .int .i64 5, .int .i64 6, .int .i64 11] 3)
  have n3 := heap_alloc_new ((w.alloc (.cells #[.int .i64 B1, .int .i64 L1, .int .i64 N1] 23)).alloc (.cells #[.int .i64 B2, .int .i64 L2, .int .i64 N2] 23)) (.cells #[.int .i64 2, .int .i64 3, .int .i64 4, .int .i64 5, .int .i64 6, .int .i64 11] 3)
  rw [z2] at n3
  have b123 : Below w.heap.size w _ := b12.trans (b3.mono b12.size)
  have kp := playsK_any B1 L1 N1 B2 L2 N2 i1 i2 i3 i4 i5 i6 sa sn sc (w.heap.size + 2) 6 (((w.alloc (.cells #[.int .i64 B1, .int .i64 L1, .int .i64 N1] 23)).alloc (.cells #[.int .i64 B2, .int .i64 L2, .int .i64 N2] 23)).alloc (.cells #[.int .i64 2, .int .i64 3, .int .i64 4, .int .i64 5, .int .i64 6, .int .i64 11] 3)) ((hst.far b123).mono b123.size) hsn (lt_there n3) (fun j hj => cell_of_block n3 (j := j) (by
    match j, hj with
    | 0, _ => rfl
    | 1, _ => rfl
    | 2, _ => rfl
    | 3, _ => rfl
    | 4, _ => rfl
    | 5, _ => rfl))
  have HB := Hid.mk b123
  clear i1 i2 i3 i4 i5 i6 b1 b2 n1 n2 n1' b12 b3 n3 b123 hst z1 z2
  go_enter Tryz.func3, Tryz.ntmps3
  go_wp2_with fail
  refine kp.mono ?_
  rintro e w4 ⟨rfl, hb4⟩
  have HE := Hid.mk (HB.out.trans (hb4.mono HB.out.size))
  clear kp hb4 g0 g1 g2 g3 g4 g5
  go_wp2
  go_ret
  exact ⟨rfl, HE.out⟩
end Go.Proofs.YthohoicgidjpfabGreat
end

section
namespace Go.Proofs.YthohoicgidjpfabGreat
open Go.ChangeShapes Go.WideShapes Go.ChangeAt Go.RowKit Go.Deep

set_option maxRecDepth 100000 in
theorem lifted_poolLefts (os : Os) (started : os.Started) (H : Type) (enc : TypeId × Value → H) :
    ReturnsInHanded {} Tryz.checked os 3 .any (Rows.poolLeftsSpec.pre6 enc Tryz.prog Tryz.f3 Rows.poolLeftsRow.domain false) (Rows.poolLeftsSpec.post enc Tryz.prog Tryz.f3 false true false false) := by
  refine returnsInHanded_of_change_sized (C := Tryz.checked) ownKnobs started (by kernel_rfl) Tryz.func3
    (ChangeSpec.witness6 (enc := enc) (C := Tryz.checked) false ⟨#[], #[.agg #[.int .i64 0, .int .i64 0, .int .i64 0], .agg #[.int .i64 0, .int .i64 0, .int .i64 0], .slice none 0 0], []⟩ 8 (by kernel_rfl) (by kernel_rfl) (by kernel_rfl) (by kernel_rfl)) ?_
  intro W base args ds gs before hval0 hW hcnd hsz0 _
  have hval : ∀ (j : Nat) t v, Tryz.f3.params[j]? = some t → args[j]? = some v → Value.okWide Tryz.prog W .any base t v := hval0
  have hsz : (DataW.weightsEach Tryz.prog (Tryz.f3.params.toList ++ Rows.poolLeftsSpec.plain.varTypes Tryz.prog) (ds ++ gs)).all (· ≤ reachBytes) = true := hsz0
  have hW' := hW
  obtain ⟨p, q, hA0, hV, rfl, hfz, hnd⟩ := hW
  have hA : DataW.TrodAll enc Tryz.prog W 0 (fun _ => true) true Tryz.f3.params.toList args.toList ds p := hA0
  rw [Tryz.params3] at hA hval hsz
  obtain ⟨v0, vs0, d0, ds0, p0, q0, hargs0, rfl, rfl, h0, r0⟩ := trodAll_cons hA
  obtain ⟨v1, vs1, d1, ds1, p1, q1, hargs1, rfl, rfl, h1, r1⟩ := trodAll_cons r0
  obtain ⟨v2, vs2, d2, ds2, p2, q2, hargs2, rfl, rfl, h2, r2⟩ := trodAll_cons r1
  obtain ⟨rfl, rfl, rfl⟩ := trodAll_nil r2
  obtain rfl : args = #[v0, v1, v2] := by cases args; simp_all
  obtain ⟨rfl, rfl⟩ := trodVars_none hV
  have k0 := h0
  obtain ⟨cs0, rfl, _⟩ := okWide_struct Tryz.underlying23 (hval 0 23 v0 rfl rfl)
  have lt0 : ∀ x ∈ p0, x.block < W.heap.size := by obtain ⟨m, hm⟩ := k0; exact DataW.trod_lt m _ _ _ hm
  obtain ⟨fuel0, hf0⟩ := h0
  obtain ⟨gB0, gL0, gN0, e0, i0, j0, m0⟩ := open_geo hf0
  obtain rfl : cs0 = #[.int .i64 gB0, .int .i64 gL0, .int .i64 gN0] := Array.ext' e0
  have k1 := h1
  obtain ⟨cs1, rfl, _⟩ := okWide_struct Tryz.underlying23 (hval 1 23 v1 rfl rfl)
  have lt1 : ∀ x ∈ p1, x.block < W.heap.size := by obtain ⟨m, hm⟩ := k1; exact DataW.trod_lt m _ _ _ hm
  obtain ⟨fuel1, hf1⟩ := h1
  obtain ⟨gB1, gL1, gN1, e1, i1, j1, m1⟩ := open_geo hf1
  obtain rfl : cs1 = #[.int .i64 gB1, .int .i64 gL1, .int .i64 gN1] := Array.ext' e1
  have k2 := h2
  obtain ⟨a2, len2, cap2, rfl⟩ := okWide_slice Tryz.underlying24 (hval 2 24 v2 rfl rfl)
  have lt2 : ∀ x ∈ p2, x.block < W.heap.size := by obtain ⟨m, hm⟩ := k2; exact DataW.trod_lt m _ _ _ hm
  have hw2 : ∀ n ∈ d2.weights Tryz.prog 24, n ≤ reachBytes := fun n hn => by
    have := List.all_eq_true.1 hsz n (DataW.weights_mem_each (j := 2) (t := 24) (d := d2) rfl rfl n hn)
    simpa using this
  obtain ⟨fuel2, hf2⟩ := h2
  obtain ⟨_, _, _, e2, hs2, hn2⟩ := open_steps hf2 hw2
  cases e2
  clear hA0 hval0
  refine (poolLefts_any gB0 gL0 gN0 gB1 gL1 gN1 i0 j0 m0 i1 j1 m1 a2 len2 cap2 W hs2 hn2).mono fun e W' ⟨he, bel⟩ => ?_
  subst he
  exact ⟨_, rfl, _, _, _, [], _, [], hW', trodAll_mk1 (shut_bool Tryz.underlying4 _),
    (trodAll_cons_mk (Below.trod laidOut (by kernel_rfl) (of_decide_eq_true (by kernel_rfl)) k0 bel lt0) (trodAll_cons_mk (Below.trod laidOut (by kernel_rfl) (of_decide_eq_true (by kernel_rfl)) k1 bel lt1) (trodAll_cons_mk (Below.trod laidOut (by kernel_rfl) (of_decide_eq_true (by kernel_rfl)) k2 bel lt2) trodAll_mk0))), rfl, bel.frame _, fun h => by cases h⟩

theorem poolLefts_holds : Rows.PoolLeftsSaid :=
  OpenClaim.holds_of_wide 3 Tryz.f3 rfl rfl rfl rfl rfl rfl rfl ⟨rfl, rfl, rfl, rfl, rfl⟩ rfl rfl rfl rfl rfl (by kernel_rfl) Tryz.func3 (by kernel_rfl)
    (of_decide_eq_true (by kernel_rfl)) (by unfold Func.isWrapper; first | (rw [if_pos (by decide +kernel)]; kernel_rfl) | (rw [if_neg (by decide +kernel)]; exact ⟨rfl, rfl⟩))
    (fun os started H enc _ => lifted_poolLefts os started H enc)
#print axioms poolLefts_holds
end Go.Proofs.YthohoicgidjpfabGreat
end
