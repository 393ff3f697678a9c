import Derived.Test.YtnolpafdkaloeaaW09
section
namespace Go.Proofs.Ytnolpafdkaloeaa
open Go.RowKit Go.Maps

/-- The owner of the i-th kept list. -/
abbrev yK (i : Nat) : Nat := 41 + 2 * i
theorem yK_ge (i : Nat) : 41 ≤ yK i := Nat.le_add_right _ _
theorem yK_odd (i : Nat) : yK i % 2 = 1 := by show (41 + 2 * i) % 2 = 1; omega
theorem yK_ne {i j : Nat} (h : i ≠ j) : yK i ≠ yK j := by show 41 + 2 * i ≠ 41 + 2 * j; omega
/-- The owners of what is kept. -/
def isK (y : Nat) : Prop := (20 ≤ y ∧ y ≤ 25) ∨ (40 ≤ y ∧ y % 2 = 1)
theorem isK_of {y : Nat} (h1 : 20 ≤ y) (h2 : y ≤ 25) : isK y := .inl ⟨h1, h2⟩
theorem isK_yK (i : Nat) : isK (yK i) := .inr ⟨by have := yK_ge i; omega, yK_odd i⟩

/-- A list of lists of bytes, each in a block of its own, with its room. -/
def LO (w : World) (lab : Nat → Nat) (yr : Nat) (yb : Nat → Nat) (v : Value) (ds : List (List Int)) : Prop :=
  ∃ vs : List Value, vs.length = ds.length ∧ OR w lab yr 22 v ds.length vs ∧ ∀ i (hi : i < ds.length), ∃ u, vs[i]? = some u ∧ OR w lab (yb i) 5 u (ds[i]).length (bs ds[i])

section
variable {w w' : World} {lab lab' : Nat → Nat} {yr : Nat} {yb : Nat → Nat} {v : Value} {ds : List (List Int)} {X : Nat → Prop}
theorem LO.nil (w : World) (lab : Nat → Nat) (yr : Nat) (yb : Nat → Nat) : LO w lab yr yb (.slice none 0 0) [] := ⟨[], rfl, OR.nil _ _ _ _, fun i hi => by cases hi⟩
theorem LO.gro (h : LO w lab yr yb v ds) (g : Gro lab lab' w w' X) (h1 : ¬ X yr) (h2 : ∀ i, i < ds.length → ¬ X (yb i)) : LO w' lab' yr yb v ds := by
  obtain ⟨vs, hl, ho, he⟩ := h
  refine ⟨vs, hl, ho.gro g h1, fun i hi => ?_⟩
  obtain ⟨u, e1, e2⟩ := he i hi
  exact ⟨u, e1, e2.gro g (h2 i hi)⟩
/-- One of them is another's work: its own facts are shown anew. -/
theorem LO.turn (h : LO w lab yr yb v ds) (g : Gro lab lab' w w' X) (h1 : ¬ X yr) {k : Nat} (hk : k < ds.length) (h2 : ∀ i, i < ds.length → i ≠ k → ¬ X (yb i)) (d : List Int) (hd : ∀ u q c, v = .slice (some ⟨q, 0, none⟩) ds.length c → w.cell? ⟨q, k, none⟩ = some u → OR w' lab' (yb k) 5 u d.length (bs d)) : LO w' lab' yr yb v (ds.set k d) := by
  obtain ⟨vs, hl, ho, he⟩ := h
  refine ⟨vs, by simpa using hl, by rw [List.length_set]; exact ho.gro g h1, fun i hi => ?_⟩
  rw [List.length_set] at hi
  obtain ⟨u, e1, e2⟩ := he i hi
  by_cases e : i = k
  · subst e
    obtain ⟨q, c, ev, hr, _, _⟩ := ho.row (by omega)
    exact ⟨u, e1, by rw [List.getElem_set_self]; exact hd u q c ev (hr.cell e1)⟩
  · exact ⟨u, e1, by rw [List.getElem_set_ne (fun h => e h.symm)]; exact e2.gro g (h2 i hi e)⟩
theorem LO.form (h : LO w lab yr yb v ds) : ∃ a c, v = .slice a ds.length c := by
  obtain ⟨vs, hl, ho, he⟩ := h
  exact ho.form
theorem LO.at (h : LO w lab yr yb v ds) {i : Nat} (hi : i < ds.length) : ∃ g cap u, v = .slice (some ⟨g, 0, none⟩) ds.length cap ∧ w.cell? ⟨g, i, none⟩ = some u ∧ OR w lab (yb i) 5 u (ds[i]).length (bs ds[i]) := by
  obtain ⟨vs, hl, ho, he⟩ := h
  obtain ⟨g, c, rfl, hr, _, _⟩ := ho.row (by omega)
  obtain ⟨u, e1, e2⟩ := he i hi
  exact ⟨g, c, u, rfl, hr.cell e1, e2⟩
/-- One more list. -/
theorem LO.push (h : LO w lab yr yb v ds) (hz : LZ lab w) (h0 : ∀ i, yr ≠ yb i) (hn : ds.length ≤ 7000000000000) {u : Value} {d : List Int} (hu : OR w lab (yb ds.length) 5 u d.length (bs d)) :
    ∃ g' cap' w', (Builtin.append_ #[28, 28] 28 #[v, .slice (some ⟨w.heap.size, 0, none⟩) 1 1]).run Try.prog (w.alloc (.cells #[u] 22)) = .ok (.slice (some ⟨g', 0, none⟩) (ds.length + 1) cap') w' ∧ ∃ lab', Gro lab lab' w w' (fun y => y = yr) ∧ LO w' lab' yr yb (.slice (some ⟨g', 0, none⟩) (ds.length + 1) cap') (ds ++ [d]) := by
  obtain ⟨vs, hl, ho, he⟩ := h
  have hx : u.oneCell' = true := by obtain ⟨a, c, rfl⟩ := hu.form; rfl
  obtain ⟨g', cap', w', hrun, hw, hg, hat⟩ := app_list2 ho.1 u hx hn
  have hbx := below_box w (.cells #[u] 22)
  have hk : Keeps (fun k => v.ownBlock = some k) w w' := ⟨hg.os.trans hbx.os, hg.tape.trans hbx.tape, hg.output.trans hbx.output, Nat.le_trans hbx.size hg.size, fun k hk hq => (hg.block k (Nat.lt_of_lt_of_le hk hbx.size) (fun e => hq e.symm)).trans (hbx.block k hk)⟩
  have G := Gro.keeps hz hk yr (fun k _ hf => ho.2 k hf)
  refine ⟨g', cap', w', hrun, _, G, vs ++ [u], by simp [hl], ⟨by rw [List.length_append]; exact hw, fun k hk' => ?_⟩, fun i hi => ?_⟩
  · have e : k = g' := by simpa [Value.ownBlock] using hk'.symm
    subst e
    rcases hat with e | e
    · exact G.tag (rowLt ho.1 e) (ho.2 _ e)
    · exact relab_new (by omega) (rowLt hw rfl)
  · by_cases e : i < ds.length
    · obtain ⟨u2, e1, e2⟩ := he i e
      refine ⟨u2, by rw [List.getElem?_append_left (by omega)]; exact e1, ?_⟩
      rw [List.getElem_append_left e]
      exact e2.gro G (fun e => h0 i e.symm)
    · have ei : i = ds.length := by simp at hi; omega
      subst ei
      refine ⟨u, by rw [List.getElem?_append_right (by omega), hl]; simp, ?_⟩
      simp only [List.getElem_append_right (Nat.le_refl _), Nat.sub_self, List.getElem_cons_zero]
      exact hu.gro G (fun e => h0 _ e.symm)
end

/-- What is kept, in memory. -/
structure Kq (w : World) (lab : Nat → Nat) (p : Nat) (vL vW : Value) (ds ws : List (List Int)) : Prop where
  box : w.heap[p]? = some (.cells #[vL, vW] 61 (0, 0))
  bp : lab p = 20
  ls : LO w lab 21 yK vL ds
  wt : LX w lab 22 (fun _ => 0) vW ws []

section
variable {w w' : World} {lab lab' : Nat → Nat} {p : Nat} {vL vW : Value} {ds ws : List (List Int)} {X : Nat → Prop}
theorem Kq.lt (h : Kq w lab p vL vW ds ws) : p < w.heap.size := (Array.getElem?_eq_some_iff.1 h.box).1
theorem Kq.far (h : Kq w lab p vL vW ds ws) (g : Gro lab lab' w w' X) (hX : ∀ y, X y → ¬ isK y) (h0 : ¬ X 0) : Kq w' lab' p vL vW ds ws := by
  have n : ∀ y, isK y → ¬ X y := fun y h1 h2 => hX y h2 h1
  exact ⟨(g.block h.lt h.bp (n 20 (isK_of (by omega) (by omega)))).trans h.box, g.tag h.lt h.bp, h.ls.gro g (n _ (isK_of (by omega) (by omega))) (fun i _ => n _ (isK_yK i)), h.wt.gro g (n _ (isK_of (by omega) (by omega))) (fun i _ => h0)⟩
theorem Kq.later (h : Kq w lab p vL vW ds ws) (hz : LZ lab w) (hb : Below w.heap.size w w') : Kq w' lab p vL vW ds ws :=
  h.far (Gro.below hz hb (fun _ => False)) (fun _ h => h.elim) (fun h => h)
end

/-- An empty list takes the bytes of another. -/
theorem app_empty {w : World} {lab : Nat → Nat} {y n : Nat} {v : Value} {l : List Int} (hz : LZ lab w) (ho : OR w lab y 5 v n (bs l)) (hn : n ≤ 100000000) :
    ∃ g c F, (Builtin.append_ #[22, 22] 22 #[.slice (some ⟨w.heap.size, 0, none⟩) 0 0, v]).run Try.prog (w.alloc (.cells #[] 5)) = .ok (.slice (some ⟨g, 0, none⟩) n c) F ∧ Below w.heap.size w F ∧ SL F lab 0 (some ⟨g, 0, none⟩) n l := by
  have hE : (w.alloc (.cells #[] 5)).ownsRow w.heap.size 5 1 (.slice (some ⟨w.heap.size, 0, none⟩) 0 0) 0 (bs []) :=
    ⟨rfl, .inr ⟨w.heap.size, 0, #[], rfl, Nat.le_refl _, heap_alloc_new _ _, Nat.le_refl _, Nat.zero_le _, rfl, rfl⟩⟩
  have hbx := below_box w (.cells #[] 5)
  obtain ⟨i0, hi, hz0, hz1, hz2⟩ := info_parts infoU8
  by_cases h0 : n = 0
  · subst h0
    have hl : l = [] := by have := ho.1.1; simpa using this
    subst hl
    obtain ⟨a, c, rfl⟩ := ho.form
    refine ⟨w.heap.size, 0, w.alloc (.cells #[] 5), ?_, hbx, ⟨rfl, fun _ => rfl, fun x hx i hi => by cases hi⟩, fun z hz hp => by cases hp⟩
    cases a <;> simp [Builtin.append_, run_underlying Try.underlying22, sizeOf, typeInfo, hi, Builtin.lenOf, Builtin.firstCells, loadCells, loadCellsFrom, storeCells]
  · obtain ⟨g, c, rfl, hr, _, _⟩ := (ho.gro (Gro.below hz hbx (fun _ => False)) (fun h => h)).row (by omega)
    have hll : l.length = n := by have := ho.1.1; simpa using this
    obtain ⟨g', cap', F, hrun, hw, hg, hat, hlt⟩ := run_append_lies (P := Try.prog) (w.alloc (.cells #[] 5)) 22 22 w.heap.size 5 i0 (.int .u8 0) 1 1 Try.underlying22 hi hz0 hz1 hz2 rfl (by decide) _ 0 (bs []) hE ⟨g, 0, none⟩ n c (bs l) (by simp [bs, hll]) (fun j u hu => by rw [addr_add, Nat.zero_add]; exact hr.cell hu) (by
      intro u hu
      obtain ⟨x, _, rfl⟩ := List.mem_map.1 hu
      rfl) (by omega) (by unfold maxLen; omega) (by omega) (by simp) _ rfl
    rw [Nat.zero_add] at hrun hw
    have hb : Below w.heap.size w F := hbx.grown hg (by simp) (fun k e => by
      have e : w.heap.size = k := by simpa [Value.ownBlock] using e
      omega)
    have hw2 : F.ownsRow w.heap.size 5 1 (.slice (some ⟨g', 0, none⟩) n cap') n (bs l) := by simpa [bs] using hw
    have hlo := rowLow hw2 rfl
    obtain ⟨g2, c2, e1, _, hr2, _⟩ := RowAt.of_owns hw2 (by intro e; cases e)
    injection e1 with q1 q2 q3
    injection q1 with q4
    injection q4 with q5
    subst q5
    exact ⟨g', cap', F, hrun, hb, hll ▸ hr2.src, fun z hz' _ => by cases hz'; exact hz _ hlo⟩
end Go.Proofs.Ytnolpafdkaloeaa
end

section
namespace Go.Proofs.Ytnolpafdkaloeaa
open Go.RowKit Go.Maps

set_option maxRecDepth 20000 in
set_option maxHeartbeats 8000000 in
/-- A list that was handed out is kept. -/
theorem add_any {w : World} {lab : Nat → Nat} {p : Nat} {v vL vW : Value} {ds : List (List Int)} {l : List Int} (h : Kq w lab p vL vW ds ds) (hz : LZ lab w) (ho : OR w lab (yK ds.length) 5 v l.length (bs l)) (hn : l.length ≤ 100000000) (hN : ds.length ≤ 7000000000000) :
    Calls Try.prog 35 #[.pointer (some ⟨p, 0, none⟩), v] w fun e w' => e = .returned (.tuple #[]) ∧ ∃ lab' uL uW, Gro lab lab' w w' (fun y => 20 ≤ y ∧ y ≤ 22) ∧ Kq w' lab' p uL uW (ds ++ [l]) (ds ++ [l]) := by
  have hv1 : v.oneCell' = true := by obtain ⟨a, c, rfl⟩ := ho.form; rfl
  have y1 : ∀ i, (21 : Nat) ≠ yK i := fun i e => by have := yK_ge i; omega
  have y2 : yK ds.length ≠ 21 ∧ yK ds.length ≠ 20 ∧ yK ds.length ≠ 23 ∧ yK ds.length ≠ 22 := by have := yK_ge ds.length; omega
  obtain ⟨g0, c0, w1, hrun, L1, G1, l1⟩ := h.ls.push hz y1 hN ho
  have d0 : w.cell? ⟨p, 0, none⟩ = some vL := cell_of_block h.box rfl
  have b1 : w1.heap[p]? = some (.cells #[vL, vW] 61 (0, 0)) := (G1.block h.lt h.bp (fun e => by omega)).trans h.box
  have p1 := G1.tag h.lt h.bp
  have k1 : w1.cell? ⟨p, 0, none⟩ = some vL := cell_of_block b1 rfl
  have f1 := frozen_of_block b1 0
  obtain ⟨V0, hV0⟩ : ∃ V, V = Value.slice (some ⟨g0, 0, none⟩) (ds.length + 1) c0 := ⟨_, rfl⟩
  rw [← hV0] at hrun l1
  have G2 : Gro L1 L1 w1 (w1.setCell ⟨p, 0, none⟩ V0) (fun y => y = 20) := Gro.plain G1.lz (Keeps.setCell (F := fun k => k = p) w1 (p := ⟨p, 0, none⟩) rfl _) (fun k _ e => by rw [e]; exact p1)
  have b2 : (w1.setCell ⟨p, 0, none⟩ V0).heap[p]? = some (.cells #[V0, vW] 61 (0, 0)) := (heap_setCell_same _ _ 0 _ _ _ b1).trans rfl
  have l2 := l1.gro G2 (fun e => by omega) (fun i _ e => by have := yK_ge i; omega)
  have o2 := (ho.gro G1 y2.1).gro G2 y2.2.1
  have t2 := (h.wt.gro G1 (fun e => by omega) (fun i _ e => by omega)).gro G2 (fun e => by omega) (fun i _ e => by omega)
  have GG2 := G1.join G2 (Z := fun y => 20 ≤ y ∧ y ≤ 22) (fun y e => by omega) (fun y e => by omega)
  obtain ⟨W1, hW1⟩ : ∃ W, W = w1.setCell ⟨p, 0, none⟩ V0 := ⟨_, rfl⟩
  rw [← hW1] at b2 l2 o2 t2 GG2
  have hS : W1.drew.cell? ⟨p, 1, none⟩ = some vW := cell_of_block (w := W1.drew) b2 rfl
  have GD := Gro.drew GG2.lz (fun _ => False)
  obtain ⟨g3, c3, F, r3, hb3, s3⟩ := app_empty GD.lz (o2.gro GD (fun h => h)) hn
  have hE : (W1.drew.alloc (.cells #[] 5)).cell? ⟨p, 1, none⟩ = some vW := cell_later (below_box W1.drew _) hS
  have GD3 := GD.trans (Gro.below GD.lz hb3 (fun _ => False))
  have p2 := G2.tag (Array.getElem?_eq_some_iff.1 b1).1 p1
  have hp2 := (Array.getElem?_eq_some_iff.1 b2).1
  have p3 := GD3.tag hp2 p2
  have b3 : F.heap[p]? = some (.cells #[V0, vW] 61 (0, 0)) := (GD3.block hp2 p2 (fun h => h)).trans b2
  have kF : F.cell? ⟨p, 1, none⟩ = some vW := cell_of_block b3 rfl
  have kA : (F.alloc (.cells #[.slice (some ⟨g3, 0, none⟩) l.length c3] 22)).cell? ⟨p, 1, none⟩ = some vW := cell_later (below_box F _) kF
  obtain ⟨g4, c4, w4, r4, L4, G4, t4⟩ := (t2.gro GD3 (fun h => h) (fun i hi h => h)).push GD3.lz (fun i e => by omega) (by rw [List.length_nil]; omega) (.slice (some ⟨g3, 0, none⟩) l.length c3) rfl
  have hp3 := (Array.getElem?_eq_some_iff.1 b3).1
  have b4 : w4.heap[p]? = some (.cells #[V0, vW] 61 (0, 0)) := (G4.block hp3 p3 (fun e => by omega)).trans b3
  have p4 := G4.tag hp3 p3
  have k4 : w4.cell? ⟨p, 1, none⟩ = some vW := cell_of_block b4 rfl
  have f4 := frozen_of_block b4 1
  obtain ⟨V1, hV1⟩ : ∃ V, V = Value.slice (some ⟨g4, 0, none⟩) (ds.length + ([] : List Value).length + 1) c4 := ⟨_, rfl⟩
  rw [← hV1] at r4 t4
  have G5 : Gro L4 L4 w4 (w4.setCell ⟨p, 1, none⟩ V1) (fun y => y = 20) := Gro.plain G4.lz (Keeps.setCell (F := fun k => k = p) w4 (p := ⟨p, 1, none⟩) rfl _) (fun k _ e => by rw [e]; exact p4)
  have hfin : ∃ lab' uL uW, Gro lab lab' w (w4.setCell ⟨p, 1, none⟩ V1) (fun y => 20 ≤ y ∧ y ≤ 22) ∧ Kq (w4.setCell ⟨p, 1, none⟩ V1) lab' p uL uW (ds ++ [l]) (ds ++ [l]) := by
    refine ⟨L4, V0, V1, GG2.join (GD3.join (G4.join G5 (Z := fun y => 20 ≤ y ∧ y ≤ 22) (fun y e => by omega) (fun y e => by omega)) (Z := fun y => 20 ≤ y ∧ y ≤ 22) (fun _ h => h.elim) (fun _ h => h)) (fun _ h => h) (fun _ h => h), ⟨(heap_setCell_same _ _ 1 _ _ _ b4).trans rfl, p4, ?_, ?_⟩⟩
    · exact ((l2.gro GD3 (fun h => h) (fun i _ h => h)).gro G4 (fun e => by omega) (fun i _ e => by have := yK_ge i; omega)).gro G5 (fun e => by omega) (fun i _ e => by have := yK_ge i; omega)
    · exact LX.close (t4.gro G5 (fun e => by omega) (fun i _ e => by omega)) ((s3.gro G4 (fun e => by omega)).gro G5 (fun e => by omega))
  have HF := Hid.mk hfin
  have HR0 := Hid.mk hrun
  have HR1 := Hid.mk r3
  have HR2 := Hid.mk r4
  have HW1 := Hid.mk hW1
  obtain ⟨a, c, hv⟩ := ho.form
  subst hv
  subst hV0
  subst hV1
  generalize l.length = n at *
  clear hfin hrun r3 r4 hW1 G1 l1 b1 p1 G2 b2 l2 o2 t2 GG2 GD hb3 s3 GD3 p2 hp2 p3 b3 G4 t4 hp3 b4 p4 G5 h hz ho hv1 y1 y2 hN hn
  go_enter Try.func35, Try.ntmps35
  go_wp2_with (at_builtin; refine swList_append_run rfl _ _ 28 rfl vL (.slice (some ⟨w.heap.size, 0, none⟩) 1 1) _ rfl rfl HR0.out ?_)
  rw [← HW1.out]
  clear HR0 HW1 d0 k1 f1
  refine wp_region_sw 9 (fun w => w.cell? ⟨p, 1, none⟩ = some vW) (by kernel_rfl) hS (fun hHeld => ?_)
  refine wpAnyS_pure (i := 0) (oi := { dst := some 14, op := Op.move (Operand.tmp 0), type := 59, pos := "outright.go:451", after := #[], guard := none }) (v := .pointer (some ⟨p, 0, none⟩)) rfl (by decide) (by kernel_rfl) (by kernel_rfl) (by kernel_rfl) (fun _ _ _ h => h) (Or.inl ⟨by rfl, ?_⟩) (Or.inr hHeld) ?_
  · intro w hSw
    clear hSw
    go_simp
  try simp only [Act.put, List.setIfInBounds_toArray, List.set_cons_zero, List.set_cons_succ]
  refine wpAnyS_pure (i := 1) (oi := { dst := some 15, op := Op.move (Operand.tmp 0), type := 59, pos := "outright.go:451", after := #[], guard := none }) (v := .pointer (some ⟨p, 0, none⟩)) rfl (by decide) (by kernel_rfl) (by kernel_rfl) (by kernel_rfl) (fun _ _ _ h => h) (Or.inl ⟨by rfl, ?_⟩) (Or.inr hHeld) ?_
  · intro w hSw
    clear hSw
    go_simp
  try simp only [Act.put, List.setIfInBounds_toArray, List.set_cons_zero, List.set_cons_succ]
  refine wpAnyS_pure (i := 2) (oi := { dst := some 16, op := Op.nilCheck (Operand.tmp 15), type := 0, pos := "outright.go:451", after := #[{ on := 1, ground := Ground.data }], guard := none }) (v := .pointer (some ⟨p, 0, none⟩)) rfl (by decide) (by kernel_rfl) (by kernel_rfl) (by kernel_rfl) (fun _ _ _ h => h) (Or.inl ⟨by rfl, ?_⟩) (Or.inr hHeld) ?_
  · intro w hSw
    clear hSw
    go_simp
  try simp only [Act.put, List.setIfInBounds_toArray, List.set_cons_zero, List.set_cons_succ]
  refine wpAnyS_pure (i := 3) (oi := { dst := some 17, op := Op.fieldAddr 61 (Operand.tmp 16) 1, type := 0, pos := "outright.go:451", after := #[{ on := 2, ground := Ground.data }], guard := none }) (v := .pointer (some ⟨p, 1, none⟩)) rfl (by decide) (by kernel_rfl) (by kernel_rfl) (by kernel_rfl) (fun _ _ _ h => h) (Or.inl ⟨by rfl, ?_⟩) (Or.inr hHeld) ?_
  · intro w hSw
    clear hSw
    go_simp
  try simp only [Act.put, List.setIfInBounds_toArray, List.set_cons_zero, List.set_cons_succ]
  refine wpAnyS_load (i := 4) (oi := { dst := some 18, op := Op.load 28 (Operand.tmp 17), type := 28, pos := "outright.go:451", after := #[{ on := 3, ground := Ground.data }], guard := none }) (v := vW) rfl (by decide) (by kernel_rfl) (by kernel_rfl) (by kernel_rfl) (by kernel_rfl) (fun _ _ _ h => h) (Or.inl ⟨by rfl, ?_⟩) (by rfl) hHeld ?_
  · intro w hSw
    (try dsimp only at hSw)
    go_simp
  try simp only [Act.put, List.setIfInBounds_toArray, List.set_cons_zero, List.set_cons_succ]
  refine wpAnyS_pure (i := 6) (oi := { dst := some 20, op := Op.move (Operand.tmp 1), type := 22, pos := "outright.go:451", after := #[], guard := none }) (v := .slice a n c) rfl (by decide) (by kernel_rfl) (by kernel_rfl) (by kernel_rfl) (fun _ _ _ h => h) (Or.inl ⟨by rfl, ?_⟩) (Or.inr hHeld) ?_
  · intro w hSw
    clear hSw
    go_simp
  try simp only [Act.put, List.setIfInBounds_toArray, List.set_cons_zero, List.set_cons_succ]
  refine wpAnyS_one (i := 5) (o := { dst := some 19, op := Op.buildSlice 22 0 #[], type := 22, pos := "outright.go:451", after := #[], guard := none }) (by kernel_rfl) rfl (fun K hK => ?_)
  go_simp
  refine hK.out _ _ (Or.inr hE) ?_
  clear hK K
  try simp only [Act.put, List.setIfInBounds_toArray, List.set_cons_zero, List.set_cons_succ]
  refine wpAnyS_one (i := 7) (o := { dst := some 21, op := Op.call { callee := Callee.builtin Builtin.append, args := #[Operand.tmp 19, Operand.tmp 20], argTypes := #[22, 22] }, type := 22, pos := "outright.go:451", after := #[{ on := 5, ground := Ground.data }, { on := 6, ground := Ground.data }], guard := none }) (by kernel_rfl) rfl (fun K hK => ?_)
  rw [if_pos (by rfl)]
  refine sw_append_run _ _ _ rfl (.slice (some ⟨W1.heap.size, 0, none⟩) 0 0) (.slice a n c) _ rfl rfl HR1.out ?_
  refine hK.out _ _ (Or.inr kF) ?_
  clear hK K
  try simp only [Act.put, List.setIfInBounds_toArray, List.set_cons_zero, List.set_cons_succ]
  refine wpAnyS_one (i := 8) (o := { dst := some 22, op := Op.buildSlice 28 1 #[(0, Operand.tmp 21)], type := 28, pos := "outright.go:451", after := #[{ on := 7, ground := Ground.data }], guard := none }) (by kernel_rfl) rfl (fun K hK => ?_)
  go_simp
  refine hK.out _ _ (Or.inr kA) ?_
  clear hK K
  try simp only [Act.put, List.setIfInBounds_toArray, List.set_cons_zero, List.set_cons_succ]
  refine wpAnyS_one (i := 9) (o := { dst := some 23, op := Op.call { callee := Callee.builtin Builtin.append, args := #[Operand.tmp 18, Operand.tmp 22], argTypes := #[28, 28] }, type := 28, pos := "outright.go:451", after := #[{ on := 4, ground := Ground.data }, { on := 8, ground := Ground.data }, { on := 7, ground := Ground.chain }], guard := none }) (by kernel_rfl) rfl (fun K hK => ?_)
  rw [if_pos (by rfl)]
  refine sw_append_run _ _ _ rfl (vW) (.slice (some ⟨F.heap.size, 0, none⟩) 1 1) _ rfl rfl HR2.out ?_
  refine hK.out _ _ (Or.inl (by rfl)) ?_
  clear hK K
  try simp only [Act.put, List.setIfInBounds_toArray, List.set_cons_zero, List.set_cons_succ]
  refine wpAnyS_pure (i := 10) (oi := { dst := some 24, op := Op.nilCheck (Operand.tmp 14), type := 0, pos := "outright.go:451", after := #[{ on := 0, ground := Ground.data }, { on := 0, ground := Ground.phase }, { on := 1, ground := Ground.phase }, { on := 2, ground := Ground.phase }, { on := 3, ground := Ground.phase }, { on := 4, ground := Ground.phase }, { on := 5, ground := Ground.phase }, { on := 6, ground := Ground.phase }, { on := 7, ground := Ground.phase }, { on := 8, ground := Ground.phase }, { on := 9, ground := Ground.phase }], guard := none }) (v := .pointer (some ⟨p, 0, none⟩)) rfl (by decide) (by kernel_rfl) (by kernel_rfl) (by kernel_rfl) (fun _ _ _ h => h) (Or.inl ⟨by rfl, ?_⟩) (Or.inl (by rfl)) ?_
  · intro w hSw
    clear hSw
    go_simp
  try simp only [Act.put, List.setIfInBounds_toArray, List.set_cons_zero, List.set_cons_succ]
  refine wpAnyS_pure (i := 11) (oi := { dst := some 25, op := Op.fieldAddr 61 (Operand.tmp 24) 1, type := 0, pos := "outright.go:451", after := #[{ on := 10, ground := Ground.data }, { on := 0, ground := Ground.phase }, { on := 1, ground := Ground.phase }, { on := 2, ground := Ground.phase }, { on := 3, ground := Ground.phase }, { on := 4, ground := Ground.phase }, { on := 5, ground := Ground.phase }, { on := 6, ground := Ground.phase }, { on := 7, ground := Ground.phase }, { on := 8, ground := Ground.phase }, { on := 9, ground := Ground.phase }], guard := none }) (v := .pointer (some ⟨p, 1, none⟩)) rfl (by decide) (by kernel_rfl) (by kernel_rfl) (by kernel_rfl) (fun _ _ _ h => h) (Or.inl ⟨by rfl, ?_⟩) (Or.inl (by rfl)) ?_
  · intro w hSw
    clear hSw
    go_simp
  try simp only [Act.put, List.setIfInBounds_toArray, List.set_cons_zero, List.set_cons_succ]
  refine wpAnyS_one (i := 12) (o := { dst := none, op := Op.store 28 (Operand.tmp 25) (Operand.tmp 23), type := 0, pos := "outright.go:451", after := #[{ on := 11, ground := Ground.data }, { on := 9, ground := Ground.data }, { on := 9, ground := Ground.chain }, { on := 0, ground := Ground.phase }, { on := 1, ground := Ground.phase }, { on := 2, ground := Ground.phase }, { on := 3, ground := Ground.phase }, { on := 4, ground := Ground.phase }, { on := 5, ground := Ground.phase }, { on := 6, ground := Ground.phase }, { on := 7, ground := Ground.phase }, { on := 8, ground := Ground.phase }, { on := 9, ground := Ground.phase }], guard := none }) (by kernel_rfl) rfl (fun K hK => ?_)
  go_simp
  refine hK.out _ _ (Or.inl (by rfl)) ?_
  clear hK K
  try simp only [Act.put, List.setIfInBounds_toArray, List.set_cons_zero, List.set_cons_succ]
  refine wpAnyS_done (by kernel_rfl) ?_ _
  exact bodyPost_end (results_none Try.results35 _ _ _) rfl ⟨rfl, HF.out⟩
end Go.Proofs.Ytnolpafdkaloeaa
end

section
namespace Go.Proofs.Ytnolpafdkaloeaa
open Go.RowKit Go.Maps

set_option maxRecDepth 20000 in
/-- Bytes are appended to a list: another that is no longer than it is keeps its own. -/
theorem OR.beside {w : World} {lab lab' : Nat → Nat} {y n n' : Nat} {v v' : Value} {l l' : List Int} (h : OR w lab y 5 v n (bs l)) (h' : OR w lab y 5 v' n' (bs l')) (hnn : n ≤ n') (ad : Addr) (m c : Nat) (nw : List Int) (hm : nw.length = m) (hnw : ∀ j u, (bs nw)[j]? = some u → w.cell? (ad.add j) = some u) (h0 : 0 < m) (hb : n' + m ≤ 1000000000) {r : Value} {w' : World}
    (hr : (Builtin.append_ #[22, 22] 22 #[v', .slice (some ad) m c]).run Try.prog w = .ok r w') {X : Nat → Prop} (G : Gro lab lab' w w' X) : OR w' lab' y 5 v n (bs l) := by
  refine ⟨?_, fun k hk => G.tag (rowLt h.1 hk) (h.2 k hk)⟩
  obtain ⟨i0, hi, hz0, hz1, hz2⟩ := info_parts infoU8
  have hlen : (bs nw).length = m * 1 := by simp [bs, hm]
  have hone : ∀ u ∈ bs nw, u.oneCell' = true := by
    intro u hu
    obtain ⟨x, _, rfl⟩ := List.mem_map.1 hu
    rfl
  obtain ⟨g', cap', w2, hr2, hw, hg, hat, hlt⟩ := run_append_lies (P := Try.prog) w 22 22 0 5 i0 (.int .u8 0) 1 1 Try.underlying22 hi hz0 hz1 hz2 rfl (by decide) v' n' (bs l') h'.1 ad m c (bs nw) hlen hnw hone h0 (by unfold maxLen; omega) (by omega) (Nat.zero_le _) _ rfl
  rw [hr] at hr2
  injection hr2 with e1 e2
  subst e2
  obtain ⟨hl, ⟨rfl, rfl⟩ | ⟨b, cap, cur, rfl, hb0, hblk, hnc, hmc, hcs, ht⟩⟩ := h.1
  · exact ⟨hl, .inl ⟨rfl, rfl⟩⟩
  · have hlt2 := (Array.getElem?_eq_some_iff.1 hblk).1
    by_cases hk : v'.ownBlock = some b
    · obtain ⟨hl', ⟨rfl, rfl⟩ | ⟨b', cap2, cur', rfl, hb0', hblk', hnc', hmc', hcs', ht'⟩⟩ := h'.1
      · cases hk
      · obtain rfl : b' = b := by simpa [Value.ownBlock] using hk
        rw [hblk] at hblk'
        injection hblk' with e5
        injection e5 with e6 e7 e8
        subst e6
        simp only [Nat.mul_one] at hl hcs ht hl' hcs' ht'
        obtain rfl : cap2 = cap := by omega
        by_cases hroom : n' + m ≤ cap2
        · have hr3 := run_append_room (P := Try.prog) w 22 22 5 i0 Try.underlying22 hi b' n' cap2 cur hblk ad m c (bs nw) (by rw [hz1]; exact hlen) hnw hone hroom (by rw [hz1, hlen]; omega)
          rw [hr] at hr3
          injection hr3 with e3 e4
          have hblk2 := setRow_heap w b' cur (cur.toList.take (n' * i0.size) ++ bs nw ++ cur.toList.drop (n' * i0.size + (bs nw).length)).toArray _ _ hblk
          rw [← e4] at hblk2
          rw [hz1, Nat.mul_one] at hblk2
          have hbl : (bs nw).length = m := by simpa using hlen
          refine ⟨by simpa using hl, .inr ⟨b', cap2, _, rfl, Nat.zero_le _, hblk2, hnc, hmc, ?_, ?_⟩⟩
          · simp only [List.size_toArray, List.length_append, List.length_take, List.length_drop, Array.length_toList, hbl]
            omega
          · simp only [Nat.mul_one]
            rw [List.take_append_of_le_length (by simp; omega), List.take_append_of_le_length (by simp; omega), List.take_take, Nat.min_eq_left hnn]
            exact ht
        · have hr3 := run_append_grow (P := Try.prog) w 22 22 5 i0 (.int .u8 0) Try.underlying22 hi hz0 ⟨b', 0, none⟩ n' cap2 (bs l') (by rw [hz1]; simpa using hl') (h'.1.cells (g := b') rfl) ad m c (bs nw) (by rw [hz1]; exact hlen) hnw (by omega) (by omega) (growslice_fits (by omega) (by rw [hz2]; omega))
          rw [hr] at hr3
          injection hr3 with e3 e4
          refine ⟨by simpa using hl, .inr ⟨b', cap2, cur, rfl, Nat.zero_le _, ?_, hnc, hmc, by simpa using hcs, by simpa using ht⟩⟩
          rw [e4, Below.heap_alloc w.drew _ b' hlt2]
          exact hblk
    · exact ⟨hl, .inr ⟨b, cap, cur, rfl, hb0, (hg.block b hlt2 (fun e => hk e.symm)).trans hblk, hnc, hmc, hcs, ht⟩⟩

section
variable {w w' : World} {lab lab' : Nat → Nat} {yr p : Nat} {yb : Nat → Nat} {v vL vW : Value} {A B ws ds : List (List Int)} {d : List Int} {X : Nat → Prop}
/-- The list behind the first ones. -/
theorem LO.mid (h : LO w lab yr yb v (A ++ d :: B)) : ∃ g cap u, v = .slice (some ⟨g, 0, none⟩) (A ++ d :: B).length cap ∧ w.cell? ⟨g, A.length, none⟩ = some u ∧ OR w lab (yb A.length) 5 u d.length (bs d) := by
  obtain ⟨g, cap, u, e1, e2, e3⟩ := h.at (i := A.length) (by simp)
  have e : (A ++ d :: B)[A.length]'(by simp) = d := by simp
  rw [e] at e3
  exact ⟨g, cap, u, e1, e2, e3⟩
theorem LO.midTurn (h : LO w lab yr yb v (A ++ d :: B)) (g : Gro lab lab' w w' X) (h1 : ¬ X yr) (h2 : ∀ i, i ≠ A.length → ¬ X (yb i)) (d' : List Int) (hd : ∀ u q c, v = .slice (some ⟨q, 0, none⟩) (A ++ d :: B).length c → w.cell? ⟨q, A.length, none⟩ = some u → OR w' lab' (yb A.length) 5 u d'.length (bs d')) : LO w' lab' yr yb v (A ++ d' :: B) := by
  have := h.turn g h1 (k := A.length) (by simp) (fun i _ hi => h2 i hi) d' hd
  simpa using this
theorem Kq.turn (h : Kq w lab p vL vW (A ++ d :: B) ws) (g : Gro lab lab' w w' X) (hX : ∀ y, 20 ≤ y → y ≤ 22 → ¬ X y) (h0 : ¬ X 0) (h2 : ∀ i, i ≠ A.length → ¬ X (yK i)) (d' : List Int) (hd : ∀ u q c, vL = .slice (some ⟨q, 0, none⟩) (A ++ d :: B).length c → w.cell? ⟨q, A.length, none⟩ = some u → OR w' lab' (yK A.length) 5 u d'.length (bs d')) : Kq w' lab' p vL vW (A ++ d' :: B) ws :=
  ⟨(g.block h.lt h.bp (hX 20 (by omega) (by omega))).trans h.box, g.tag h.lt h.bp, h.ls.midTurn g (hX _ (by omega) (by omega)) h2 d' hd, h.wt.gro g (hX _ (by omega) (by omega)) (fun _ _ => h0)⟩
/-- A byte of a kept list is written. -/
theorem Kq.put (h : Kq w lab p vL vW (A ++ d :: B) ws) (hz : LZ lab w) {j : Nat} (hj : j < d.length) (x : Int) : ∃ gL cL g c y0, vL = .slice (some ⟨gL, 0, none⟩) (A ++ d :: B).length cL ∧ w.cell? ⟨gL, A.length, none⟩ = some (.slice (some ⟨g, 0, none⟩) d.length c) ∧ w.cell? ⟨g, j, none⟩ = some (.int .u8 y0) ∧ w.frozen? ⟨g, j, none⟩ = false ∧ d.length ≤ c ∧ Gro lab lab w (w.setCell ⟨g, j, none⟩ (.int .u8 x)) (fun y => y = yK A.length) ∧ Kq (w.setCell ⟨g, j, none⟩ (.int .u8 x)) lab p vL vW (A ++ d.set j x :: B) ws := by
  obtain ⟨gL, cL, u, e1, e2, e3⟩ := h.ls.mid
  obtain ⟨g, c, rfl, c1, f1, hc, G, hq⟩ := e3.put hz hj x
  have ge := yK_ge A.length
  refine ⟨gL, cL, g, c, _, e1, e2, c1, f1, hc, G, h.turn G (fun y h1 h2 e => by omega) (fun e => by omega) (fun i hi e => yK_ne hi e) _ (fun u q c' ev eu => ?_)⟩
  rw [e1] at ev
  injection ev with q1 q2 q3
  injection q1 with q4
  injection q4 with q5
  subst q5
  rw [e2] at eu
  cases eu
  rw [List.length_set]
  exact hq
/-- Bytes are appended to a list that began as a kept one. -/
theorem Kq.app (h : Kq w lab p vL vW (A ++ d :: B) ws) (hz : LZ lab w) {n' : Nat} {v' : Value} {l' : List Int} (h' : OR w lab (yK A.length) 5 v' n' (bs l')) (hnn : d.length ≤ n') (ad : Addr) (m c : Nat) (nw : List Int) (hm : nw.length = m) (hnw : ∀ j u, (bs nw)[j]? = some u → w.cell? (ad.add j) = some u) (h0 : 0 < m) (hb : n' + m ≤ 1000000000) :
    ∃ g' cap' w', (Builtin.append_ #[22, 22] 22 #[v', .slice (some ad) m c]).run Try.prog w = .ok (.slice (some ⟨g', 0, none⟩) (n' + m) cap') w' ∧ ∃ lab', Gro lab lab' w w' (fun x => x = yK A.length) ∧ OR w' lab' (yK A.length) 5 (.slice (some ⟨g', 0, none⟩) (n' + m) cap') (n' + m) (bs (l' ++ nw)) ∧ Kq w' lab' p vL vW (A ++ d :: B) ws := by
  obtain ⟨g', cap', w', hrun, lab', G, o1, _⟩ := h'.app hz ad m c nw hm hnw h0 (by omega)
  have ge := yK_ge A.length
  obtain ⟨gL, cL, u, e1, e2, e3⟩ := h.ls.mid
  refine ⟨g', cap', w', hrun, lab', G, o1, h.turn G (fun y h1 h2 e => by omega) (fun e => by omega) (fun i hi e => yK_ne hi e) _ (fun u2 q c' ev eu => ?_)⟩
  rw [e1] at ev
  injection ev with q1 q2 q3
  injection q1 with q4
  injection q4 with q5
  subst q5
  rw [e2] at eu
  cases eu
  exact e3.beside h' hnn ad m c nw hm hnw h0 hb hrun G
theorem Kq.row (h : Kq w lab p vL vW ds ws) : ∃ a c, vL = .slice a ds.length c := h.ls.form
end
end Go.Proofs.Ytnolpafdkaloeaa
end

section
namespace Go.Proofs.Ytnolpafdkaloeaa
open Go.RowKit Go.Maps

theorem Kq.gro {w w' : World} {lab lab' : Nat → Nat} {p : Nat} {vL vW : Value} {ds ws : List (List Int)} {X : Nat → Prop} (h : Kq w lab p vL vW ds ws) (g : Gro lab lab' w w' X) (hX : ∀ y, 20 ≤ y → y ≤ 22 → ¬ X y) (h0 : ¬ X 0) (hY : ∀ i, i < ds.length → ¬ X (yK i)) : Kq w' lab' p vL vW ds ws :=
  ⟨(g.block h.lt h.bp (hX 20 (by omega) (by omega))).trans h.box, g.tag h.lt h.bp, h.ls.gro g (hX _ (by omega) (by omega)) hY, h.wt.gro g (hX _ (by omega) (by omega)) (fun _ _ => h0)⟩

/-- One of the new blocks gets an owner. -/
theorem Gro.give {lab : Nat → Nat} {w w' : World} (hz : LZ lab w) {F : Nat → Prop} {x : Nat} (hk : Keeps F w w') (hF : ∀ k, k < w.heap.size → F k → lab k = x) {g : Nat} (hg : w.heap.size ≤ g) (hlt : g < w'.heap.size) (y : Nat) : Gro lab (fun k => if k = g then y else lab k) w w' (fun z => z = x ∨ z = y) := by
  refine ⟨⟨hk.os, hk.tape, hk.output, hk.size, fun k h1 h2 => hk.block k h1 (fun hf => h2 (.inl (hF k h1 hf)))⟩, fun k h1 => ?_, fun k h1 => ?_, fun k h1 => ?_⟩
  · show (if k = g then y else lab k) = lab k
    rw [if_neg (by omega)]
  · show (if k = g then y else lab k) = 0 ∨ _
    split
    · exact .inr (.inr rfl)
    · exact .inl (hz k h1)
  · show (if k = g then y else lab k) = 0
    rw [if_neg (by omega)]
    exact hz k (Nat.le_trans hk.size h1)

/-- The two disks, whose blocks are labelled 1. -/
def Tw (w : World) (B : Nat) (lab : Nat → Nat) (p r s : Nat) (S T : DS) : Prop := ∃ F G, Two w B F G p r s S T ∧ (∀ k, F k → lab k = 1) ∧ ∀ k, G k → lab k = 1

section
variable {w w' : World} {B p r s : Nat} {lab lab' : Nat → Nat} {S T : DS} {X : Nat → Prop}
theorem Tw.gro (h : Tw w B lab p r s S T) (g : Gro lab lab' w w' X) (hX : ¬ X 1) : Tw w' B lab' p r s S T := by
  obtain ⟨F, G, h, hf, hg⟩ := h
  have k1 : ∀ k, F k → X (lab k) → False := fun k h1 h2 => hX (hf k h1 ▸ h2)
  have k2 : ∀ k, G k → X (lab k) → False := fun k h1 h2 => hX (hg k h1 ▸ h2)
  exact ⟨F, G, ⟨h.d.keep g.kp k1, h.e.keep g.kp k2, Nat.le_trans h.lo g.kp.size, h.fF, h.fG, h.dis⟩, fun k hk => g.tag (h.d.lt k hk) (hf k hk), fun k hk => g.tag (h.e.lt k hk) (hg k hk)⟩
theorem Tw.ok (h : Tw w B lab p r s S T) : S.Ok s := by
  obtain ⟨F, G, h, _⟩ := h
  exact h.d.ok
theorem Two.same {F G : Nat → Prop} {S' : DS} (h : Two w B F G p r s S T) (hd : DiskAt w' F p s S') (hk : Keeps F w w') : Two w' B F G p r s S' T :=
  ⟨hd, h.e.keep hk (fun k hg hf => h.dis k hf hg), Nat.le_trans h.lo hk.size, h.fF, h.fG, h.dis⟩
theorem Two.rsame {F G : Nat → Prop} {T' : DS} (h : Two w B F G p r s S T) (hd : RefAt w' G r s T') (hk : Keeps G w w') : Two w' B F G p r s S T' :=
  ⟨h.d.keep hk (fun k hg hf => h.dis k hg hf), hd, Nat.le_trans h.lo hk.size, h.fF, h.fG, h.dis⟩
/-- A Read of the program's: the list that it hands out gets the owner y. -/
theorem Tw.read (h : Tw w B lab p r s S T) (hz : LZ lab w) (x : Int) (hbig : S.puts.length + 1 ≤ 4000000000000) (y : Nat) :
    Calls Try.prog 14 #[.pointer (some ⟨p, 0, none⟩), .int .i64 x] w fun e w' => ∃ v lab', e = .returned (.tuple #[v, .int .i64 (S.rd s x).1]) ∧ Gro lab lab' w w' (fun z => z = 1 ∨ z = y) ∧ OR w' lab' y 5 v (S.rd s x).2.2.length (bs (S.rd s x).2.2) ∧ Tw w' B lab' p r s (S.rd s x).2.1 T := by
  obtain ⟨F, G, h, hf, hg⟩ := h
  have plain : ∀ {w' : World} {S' : DS}, DiskAt w' F p s S' → Keeps F w w' → Gro lab lab w w' (fun z => z = 1 ∨ z = y) ∧ Tw w' B lab p r s S' T := fun hd hk => ⟨Gro.plain hz hk (fun k _ h1 => .inl (hf k h1)), F, G, h.same hd hk, hf, hg⟩
  by_cases hfu : S.fuse = 0
  · simp only [DS.rd, hfu, if_true]
    refine (read_dead h.d x hfu).mono ?_
    rintro e w' ⟨rfl, rfl⟩
    obtain ⟨g1, t1⟩ := plain h.d (Keeps.refl _ _)
    exact ⟨_, lab, rfl, g1, OR.nil _ _ _ _, t1⟩
  · by_cases hx : x < 0 ∨ (s : Int) ≤ x
    · simp only [DS.rd, hfu, if_false, hx, if_true]
      refine (read_range h.d x hfu hx).mono ?_
      rintro e w' ⟨rfl, h1, h2⟩
      obtain ⟨g1, t1⟩ := plain h1 h2
      exact ⟨_, lab, rfl, g1, OR.nil _ _ _ _, t1⟩
    · obtain ⟨k, rfl⟩ : ∃ k : Nat, x = (k : Int) := ⟨x.toNat, by omega⟩
      have hk : k < s := by omega
      simp only [DS.rd, hfu, if_false, hx, Int.toNat_natCast]
      refine (read_ok h.d k hfu hk (by omega)).mono ?_
      rintro e w' ⟨g, c, rfl, hg0, hr, h1, h2⟩
      have hl := now_len h.d.ok k hk
      have G1 := Gro.give hz h2 (x := 1) (fun k _ h => hf k h) hg0 hr.lt y
      refine ⟨_, _, rfl, G1, ⟨?_, fun q hq => ?_⟩, F, G, h.same h1 h2, fun q hq => G1.tag (h.d.lt q hq) (hf q hq), fun q hq => G1.tag (h.e.lt q hq) (hg q hq)⟩
      · have := hr.owns
        simp only [bs, List.length_map, hl] at this ⊢
        exact this
      · have e : q = g := by simpa [Value.ownBlock] using hq.symm
        show (if q = g then y else lab q) = y
        rw [if_pos e]
theorem Tw.rread (h : Tw w B lab p r s S T) (hz : LZ lab w) (x : Int) (hbig : T.puts.length + 1 ≤ 4000000000000) :
    Calls Try.prog 30 #[.pointer (some ⟨r, 0, none⟩), .int .i64 x] w fun e w' => ∃ v, e = .returned (.tuple #[v, .int .i64 (T.rd s x).1]) ∧ Gro lab lab w w' (fun z => z = 1) ∧ Out w.heap.size w' (T.rd s x).2.2 v ∧ Tw w' B lab p r s S (T.rd s x).2.1 := by
  obtain ⟨F, G, h, hf, hg⟩ := h
  refine (rread_all h.e x hbig).mono ?_
  rintro e w' ⟨v, rfl, ho, h1, h2⟩
  exact ⟨v, rfl, Gro.plain hz h2 (fun k _ h => hg k h), ho, F, G, h.rsame h1 h2, hf, hg⟩
theorem Tw.write (h : Tw w B lab p r s S T) (hz : LZ lab w) (x : Int) (a : Option Addr) (n c : Nat) (l : List Int) (hs : Src w a n l) (hbig : S.puts.length + 1 ≤ 4000000000000) :
    Calls Try.prog 12 #[.pointer (some ⟨p, 0, none⟩), .int .i64 x, .slice a n c] w fun e w' => e = .returned (.int .i64 (S.wr s x n l).1) ∧ ∃ lab', Gro lab lab' w w' (fun z => z = 1) ∧ Tw w' B lab' p r s (S.wr s x n l).2 T := by
  obtain ⟨F, G, h, hf, hg⟩ := h
  refine (write_all h.d x a n c l hs hbig).mono ?_
  rintro e w' ⟨rfl, h1, h2⟩
  have G1 := Gro.keeps hz h2 1 (fun k _ h => hf k h)
  refine ⟨rfl, _, G1, _, G, h.left h1 h2, fun k hk => ?_, fun k hk => G1.tag (h.e.lt k hk) (hg k hk)⟩
  rcases hk with hk | hk
  · exact G1.tag (h.d.lt k hk) (hf k hk)
  · exact relab_new hk.1 hk.2
theorem Tw.rwrite (h : Tw w B lab p r s S T) (hz : LZ lab w) (x : Int) (a : Option Addr) (n c : Nat) (l : List Int) (hs : Src w a n l) (hbig : T.puts.length + 1 ≤ 4000000000000) :
    Calls Try.prog 36 #[.pointer (some ⟨r, 0, none⟩), .int .i64 x, .slice a n c] w fun e w' => e = .returned (.int .i64 (T.wr s x n l).1) ∧ ∃ lab', Gro lab lab' w w' (fun z => z = 1) ∧ Tw w' B lab' p r s S (T.wr s x n l).2 := by
  obtain ⟨F, G, h, hf, hg⟩ := h
  refine (rwrite_all h.e x a n c l hs hbig).mono ?_
  rintro e w' ⟨rfl, h1, h2⟩
  have G1 := Gro.keeps hz h2 1 (fun k _ h => hg k h)
  refine ⟨rfl, _, G1, F, _, h.right h1 h2, fun k hk => G1.tag (h.d.lt k hk) (hf k hk), fun k hk => ?_⟩
  rcases hk with hk | hk
  · exact G1.tag (h.e.lt k hk) (hg k hk)
  · exact relab_new hk.1 hk.2
/-- An Image of the program's: the list gets the owner y. -/
theorem Tw.image (h : Tw w B lab p r s S T) (hz : LZ lab w) (y : Nat) :
    Calls Try.prog 9 #[.pointer (some ⟨p, 0, none⟩)] w fun e w' => ∃ g c lab', e = .returned (.slice (some ⟨g, 0, none⟩) (s * 512) c) ∧ Gro lab lab' w w' (fun z => z = 1 ∨ z = y) ∧ OR w' lab' y 5 (.slice (some ⟨g, 0, none⟩) (s * 512) c) (s * 512) (bs S.im) ∧ Tw w' B lab' p r s S T := by
  obtain ⟨F, G, h, hf, hg⟩ := h
  refine (image_any _ _ _ _ _ h.d).mono ?_
  rintro e w' ⟨g, c, rfl, hg0, hr, hb⟩
  have G1 := Gro.give hz (Keeps.of_below (fun _ => False) hb) (x := 1) (fun k _ h => h.elim) hg0 hr.lt y
  refine ⟨g, c, _, rfl, G1, ⟨?_, fun q hq => ?_⟩, F, G, h.later hb, fun q hq => G1.tag (h.d.lt q hq) (hf q hq), fun q hq => G1.tag (h.e.lt q hq) (hg q hq)⟩
  · have := hr.owns
    simp only [bs, List.length_map, h.d.ok.len] at this ⊢
    exact this
  · have e : q = g := by simpa [Value.ownBlock] using hq.symm
    show (if q = g then y else lab q) = y
    rw [if_pos e]
theorem Tw.rimage (h : Tw w B lab p r s S T) (_hz : LZ lab w) :
    Calls Try.prog 34 #[.pointer (some ⟨r, 0, none⟩)] w fun e w' => ∃ g c, e = .returned (.slice (some ⟨g, 0, none⟩) (s * 512) c) ∧ Below w.heap.size w w' ∧ Src w' (some ⟨g, 0, none⟩) (s * 512) T.im := by
  obtain ⟨F, G, h, hf, hg⟩ := h
  have hl := h.e.ok.len
  refine (rimage_any h.e).mono ?_
  rintro e w' ⟨g, c, rfl, hg0, hr, hb⟩
  exact ⟨g, c, rfl, hb, hl ▸ hr.src⟩
theorem Tw.step (h : Tw w B lab p r s S S) (hz : LZ lab w) (hbig : S.puts.length + 1 ≤ 4000000000000) (kind x : Int) (a : Option Addr) (n c : Nat) (pa : Option Addr) (pn pc : Nat) (l : List Int) (pl : List P3) (ho : OpOk w B x a n pa pn l pl) :
    Calls Try.prog 40 #[.pointer (some ⟨p, 0, none⟩), .pointer (some ⟨r, 0, none⟩), opV kind x a n c pa pn pc] w fun e w' => e = .returned (.bool true) ∧ ∃ lab' S', Gro lab lab' w w' (fun z => z = 1) ∧ Tw w' B lab' p r s S' S' ∧ S'.puts.length ≤ S.puts.length + 1 := by
  obtain ⟨F, G, h, hf, hg⟩ := h
  refine (step_any h hbig kind x a n c pa pn pc l pl ho).mono ?_
  rintro e w' ⟨rfl, F', G', S', t, hb, hn, hk, hF', hG'⟩
  have G1 := Gro.keeps hz hk 1 (fun k _ h => h.elim (hf k) (hg k))
  have each : ∀ k, ((F k ∨ G k) ∨ w.heap.size ≤ k) → k < w'.heap.size → relab lab w.heap.size w'.heap.size 1 k = 1 := fun k h1 h2 => by
    by_cases e : w.heap.size ≤ k
    · exact relab_new e h2
    · rcases h1 with (h1 | h1) | h1
      · exact G1.tag (by omega) (hf k h1)
      · exact G1.tag (by omega) (hg k h1)
      · omega
  exact ⟨rfl, _, S', G1, ⟨F', G', t, fun k hk' => each k (hF' k hk') (t.d.lt k hk'), fun k hk' => each k (hG' k hk') (t.e.lt k hk')⟩, hn⟩
end
end Go.Proofs.Ytnolpafdkaloeaa
end

section
namespace Go.Proofs.Ytnolpafdkaloeaa
open Go.RowKit Go.Maps

theorem isK_no1 : ¬ isK 1 := by rintro (h | h) <;> omega
theorem isK_no0 : ¬ isK 0 := by rintro (h | h) <;> omega
theorem Out.slice {lo : Nat} {w : World} {l : List Int} {v : Value} (h : Out lo w l v) : ∃ a c, v = .slice a l.length c ∧ Src w a l.length l := by
  obtain ⟨a, c, e, s, _⟩ := h
  exact ⟨a, c, e, s⟩

/-- What stands in the midst of reads. -/
def RdI (w : World) (lab : Nat → Nat) (B p r s kq : Nat) (S : DS) (ds : List (List Int)) (x x1 : Int) (k : Nat) (wr : World) : Prop := ∃ (L : Nat → Nat) (S' : DS) (uL uW : Value) (es : List (List Int)), wr.heap[w.heap.size]? = some (.cells #[.int .i64 x, .int .i64 x1, .int .i64 x] 3 (0, 0)) ∧ L w.heap.size = 0 ∧ Gro lab L w wr (fun z => z = 1 ∨ isK z) ∧ Tw wr B L p r s S' S' ∧ Kq wr L kq uL uW es es ∧ es.length ≤ ds.length + k ∧ (∀ d ∈ es, d.length ≤ 100000000) ∧ S'.puts.length ≤ S.puts.length + k
/-- What reads leaves. -/
def RdO (w : World) (lab : Nat → Nat) (B p r s kq : Nat) (S : DS) (ds : List (List Int)) (w' : World) : Prop := ∃ lab' S' uL uW es, Gro lab lab' w w' (fun z => z = 1 ∨ isK z) ∧ Tw w' B lab' p r s S' S' ∧ Kq w' lab' kq uL uW es es ∧ es.length ≤ ds.length + 3 ∧ (∀ d ∈ es, d.length ≤ 100000000) ∧ S'.puts.length ≤ S.puts.length + 3

set_option maxRecDepth 20000 in
set_option maxHeartbeats 16000000 in
/-- A sector is asked twice, another one between; all are kept. -/
theorem reads_any {w : World} {B p r s kq : Nat} {lab : Nat → Nat} {S : DS} {vL vW : Value} {ds : List (List Int)} (hT : Tw w B lab p r s S S) (hz : LZ lab w) (hK : Kq w lab kq vL vW ds ds) (hbig : S.puts.length + 10 ≤ 4000000000000) (hN : ds.length ≤ 6000000000000) (hm : ∀ d ∈ ds, d.length ≤ 100000000) (x : Int) :
    Calls Try.prog 33 #[.pointer (some ⟨kq, 0, none⟩), .pointer (some ⟨p, 0, none⟩), .pointer (some ⟨r, 0, none⟩), .int .i64 x] w fun e w' => e = .returned (.bool true) ∧ RdO w lab B p r s kq S ds w' := by
  have H := Hid.mk (And.intro hT (And.intro hz (And.intro hK hm)))
  clear hT hz hK hm
  go_enter Try.func33, Try.ntmps33
  go_wp2
  generalize wrap64 (x + 1) = x1
  obtain ⟨w0, hw0⟩ : ∃ w0, w0 = w.alloc (.cells #[.int .i64 x, .int .i64 x1, .int .i64 x] 3) := ⟨_, rfl⟩
  have hb0 : Below w.heap.size w w0 := hw0 ▸ below_box _ _
  have hp0 : w0.heap[w.heap.size]? = some (.cells #[.int .i64 x, .int .i64 x1, .int .i64 x] 3 (0, 0)) := hw0 ▸ heap_alloc_new _ _
  have H0 : Hid (w0.heap[w.heap.size]? = some (.cells #[.int .i64 x, .int .i64 x1, .int .i64 x] 3 (0, 0)) ∧ lab w.heap.size = 0 ∧ Gro lab lab w w0 (fun z => z = 1 ∨ isK z) ∧ Tw w0 B lab p r s S S ∧ Kq w0 lab kq vL vW ds ds) := ⟨hp0, H.out.2.1 _ (Nat.le_refl _), Gro.below H.out.2.1 hb0 _, H.out.1.gro (Gro.below H.out.2.1 hb0 (fun _ => False)) (fun h => h), H.out.2.2.1.later H.out.2.1 hb0⟩
  rw [← hw0]
  clear hb0 hp0 hw0
  go_loopw [10] (fun i wr => ∃ k : Nat, k ≤ 3 ∧ i = .int .i64 (k : Int) ∧ RdI w lab B p r s kq S ds x x1 k wr) (fun i _ => 3 - (intOf i).toNat)
  case atStart => exact ⟨0, by omega, rfl, lab, S, vL, vW, ds, H0.out.1, H0.out.2.1, H0.out.2.2.1, H0.out.2.2.2.1, H0.out.2.2.2.2, by omega, H.out.2.2.2, by omega⟩
  case round =>
    clear H0
    obtain ⟨k, hk, rfl, L, S', uL, uW, es, hP, hL, hG, hT, hK, hes, hem, hpu⟩ := hrel
    by_cases hlt : k < 3
    · obtain ⟨z, hz⟩ : ∃ z, wr.cell? ⟨w.heap.size, k, none⟩ = some (.int .i64 z) := by
        rcases (show k = 0 ∨ k = 1 ∨ k = 2 by omega) with rfl | rfl | rfl
        · exact ⟨x, cell_of_block hP rfl⟩
        · exact ⟨x1, cell_of_block hP rfl⟩
        · exact ⟨x, cell_of_block hP rfl⟩
      have hd := hT.read hG.lz z (by omega) (yK es.length)
      have hrl := rd_len hT.ok z
      have hrp := rd_puts S' s z
      have hlt' : (k : Int) < 3 := by omega
      have hk0 : (0 : Int) ≤ (k : Int) := by omega
      have H1 := Hid.mk (And.intro hP (And.intro hL (And.intro hG hK)))
      clear hP hL hG hK hT
      go_wp2_with fail
      refine hd.mono ?_
      rintro e w1 ⟨v, L1, rfl, G1, o1, t1⟩
      obtain ⟨hP, hL, hG, hK⟩ := H1.out
      have yk := yK_ge es.length
      have hPl := (Array.getElem?_eq_some_iff.1 hP).1
      have P1 := (G1.block hPl hL (by omega)).trans hP
      have LP1 := G1.tag hPl hL
      have K1 := hK.gro G1 (fun y h1 h2 e => by omega) (by omega) (fun i hi e => by
        rcases e with e | e
        · have := yK_ge i; omega
        · exact yK_ne (by omega) e)
      have Q1 := hG.join G1 (Z := fun z => z = 1 ∨ isK z) (fun _ h => h) (fun y h => h.imp id (fun e => by subst e; exact isK_yK _))
      have hd2 := t1.rread G1.lz z (by omega)
      have c1 : w1.cell? ⟨w.heap.size, k, none⟩ = some (.int .i64 z) := (World.cell?_of_block (w := wr) (a := ⟨w.heap.size, k, none⟩) (G1.block hPl hL (by omega))).trans hz
      obtain ⟨va, vc, rfl⟩ := o1.form
      have H2 := Hid.mk (And.intro P1 (And.intro LP1 (And.intro Q1 (And.intro K1 (And.intro o1 (And.intro hem hes))))))
      clear hP hL hG hK hd H1 hz hPl P1 LP1 G1 K1 Q1 o1 t1 yk hem hes
      generalize hcode : (S'.rd s z).1 = code at *
      generalize hS2 : (S'.rd s z).2.1 = S2 at *
      generalize hlist : (S'.rd s z).2.2 = li at *
      clear hcode hS2 hlist
      go_wp2_with fail
      refine hd2.mono ?_
      rintro e w2 ⟨v2, rfl, G2, o2, t2⟩
      obtain ⟨P1, LP1, Q1, K1, o1, hem, hes⟩ := H2.out
      have yk := yK_ge es.length
      have hPl := (Array.getElem?_eq_some_iff.1 P1).1
      have P2 := (G2.block hPl LP1 (by omega)).trans P1
      have LP2 := G2.tag hPl LP1
      have K2 := K1.gro G2 (fun y h1 h2 e => by omega) (by omega) (fun i _ e => by have := yK_ge i; omega)
      have o1b := o1.gro G2 (by omega)
      obtain ⟨va', vc', ev, s1, _⟩ := o1b.src
      have ea : va = va' := by injection ev
      subst ea
      obtain ⟨a2, c2, rfl, s2⟩ := o2.slice
      have hsa := same_any va a2 _ vc c2 li w2 (by omega) s1.1 s2
      have hcc : (code != code) = false := by simp
      have H3 := Hid.mk (And.intro P2 (And.intro LP2 (And.intro (Q1.join G2 (Z := fun z => z = 1 ∨ isK z) (fun _ h => h) (fun _ h => .inl h)) (And.intro K2 (And.intro o1b t2)))))
      clear P1 LP1 Q1 K1 o1 hPl P2 LP2 K2 o1b ev s1 s2 o2 G2 t2 hd2 c1 yk
      generalize hln : li.length = ln at *
      have HLN := Hid.mk hln
      clear hln
      go_wp2_with fail
      refine hsa.mono ?_
      rintro e w3 ⟨rfl, hb3⟩
      obtain ⟨P2, LP2, Q2, K2, o2, t2⟩ := H3.out
      have G3 := Gro.below Q2.lz hb3 (fun _ => False)
      have hPl := (Array.getElem?_eq_some_iff.1 P2).1
      have P3 := (G3.block hPl LP2 (fun h => h)).trans P2
      have K3 := K2.later Q2.lz hb3
      have o3 := o2.gro G3 (fun h => h)
      have t3 := t2.gro G3 (fun h => h)
      have hadd := add_any (l := li) K3 G3.lz (by rw [HLN.out]; exact o3) (by rw [HLN.out]; omega) (by omega)
      have H4 := Hid.mk (And.intro P3 (And.intro LP2 (And.intro (Q2.join G3 (Z := fun z => z = 1 ∨ isK z) (fun _ h => h) (fun _ h => h.elim)) t3)))
      clear P2 LP2 Q2 K2 o2 t2 G3 hPl P3 K3 o3 t3 H3 hsa hb3 H2
      go_wp2_with fail
      refine hadd.mono ?_
      rintro e w4 ⟨rfl, L4, uL', uW', G40, K4⟩
      have G4 := G40.mono (Z := isK) (fun y h => isK_of h.1 (by omega))
      obtain ⟨P3, LP3, Q3, t3⟩ := H4.out
      have hPl := (Array.getElem?_eq_some_iff.1 P3).1
      have P4 := (G4.block hPl LP3 isK_no0).trans P3
      have HR := Hid.mk (And.intro P4 (And.intro (G4.tag hPl LP3) (And.intro (Q3.join G4 (Z := fun z => z = 1 ∨ isK z) (fun _ h => h) (fun _ h => .inr h)) (And.intro (t3.gro G4 isK_no1) (And.intro K4 (And.intro (show (es ++ [li]).length ≤ ds.length + (k + 1) by rw [List.length_append, List.length_singleton]; omega) (And.intro (show ∀ d ∈ es ++ [li], d.length ≤ 100000000 by
        intro d hd
        rcases List.mem_append.1 hd with h | h
        · exact hem d h
        · rw [List.mem_singleton.1 h, HLN.out]; omega) (show S2.puts.length ≤ S.puts.length + (k + 1) by omega))))))))
      clear P3 LP3 Q3 t3 H4 hPl P4 G4 G40 K4 hadd hem hes
      go_wp2
      go_roundw
      case rel => exact ⟨k + 1, by omega, by go_num, L4, S2, uL', uW', es ++ [li], HR.out⟩
      case measure => simp [intOf]; omega
    · obtain rfl : k = 3 := by omega
      have hlt' : ¬ (3 : Int) < 3 := by omega
      have HR := Hid.mk (And.intro hG (And.intro hT (And.intro hK (And.intro hes (And.intro hem hpu)))))
      clear hG hT hK hes hem hpu hP hL
      go_wp2
      go_ret
      exact ⟨rfl, L, S', uL, uW, es, HR.out⟩
end Go.Proofs.Ytnolpafdkaloeaa
end

section
namespace Go.Proofs.Ytnolpafdkaloeaa
open Go.RowKit Go.Maps

/-- What writes leaves. -/
def WrO (w : World) (lab : Nat → Nat) (B p r s : Nat) (S : DS) (w' : World) : Prop := ∃ lab' S', Gro lab lab' w w' (fun z => z = 1 ∨ z = 9) ∧ Tw w' B lab' p r s S' S' ∧ S'.puts.length ≤ S.puts.length + 2

theorem OR.of {w : World} {lab : Nat → Nat} {y b n : Nat} {e : TypeId} {v : Value} {xs : List Value} (h : w.ownsRow b e 1 v n xs) (hl : ∀ g, b ≤ g → g < w.heap.size → lab g = y) : OR w lab y e v n xs :=
  ⟨⟨h.1, h.2.imp id (fun ⟨g, cap, cur, h1, _, h3⟩ => ⟨g, cap, cur, h1, Nat.zero_le _, h3⟩)⟩, fun g hg => hl g (rowLow h hg) (rowLt h hg)⟩
theorem Full.gro {w w' : World} {lab lab' : Nat → Nat} {X : Nat → Prop} {g y : Nat} {l : List Int} (h : Full w g l) (G : Gro lab lab' w w' X) (hy : lab g = y) (hX : ¬ X y) : Full w' g l := h.agree (G.block h.lt hy hX)

set_option maxRecDepth 20000 in
set_option maxHeartbeats 16000000 in
/-- The same bytes in a list that is just as long as its memory; then the same list with other bytes. -/
theorem writes_any {w : World} {B p r s : Nat} {lab : Nat → Nat} {S : DS} (hT : Tw w B lab p r s S S) (hz : LZ lab w) (hbig : S.puts.length + 10 ≤ 4000000000000) (kind x : Int) (a : Option Addr) (n c : Nat) (pa : Option Addr) (pn pc : Nat) (l : List Int) (hs : SL w lab 0 a n l) (hn : n ≤ 140737488355328) :
    Calls Try.prog 37 #[.pointer (some ⟨p, 0, none⟩), .pointer (some ⟨r, 0, none⟩), opV kind x a n c pa pn pc] w fun e w' => e = .returned (.bool true) ∧ WrO w lab B p r s S w' := by
  obtain ⟨w0, hw0⟩ : ∃ w0, w0 = w.alloc (.cells (opC kind x a n c pa pn pc) 33) := ⟨_, rfl⟩
  have hb0 : Below w.heap.size w w0 := hw0 ▸ below_box _ _
  have hq0 : w0.heap[w.heap.size]? = some (.cells (opC kind x a n c pa pn pc) 33 (0, 0)) := hw0 ▸ heap_alloc_new _ _
  have lq0 := hz _ (Nat.le_refl w.heap.size)
  have G0 := Gro.below hz hb0 (fun z => z = 1 ∨ z = 9)
  have T0 := hT.gro (Gro.below hz hb0 (fun _ => False)) (fun h => h)
  have s0 := hs.gro (Gro.below hz hb0 (fun _ => False)) (fun h => h)
  have hll := hs.1.1
  have hx1 := exact_any a n c l w0 hn s0.1
  have cd0 : w0.cell? ⟨w.heap.size, 2, none⟩ = some (.slice a n c) := cell_of_block hq0 (j := 2) rfl
  have H0 := Hid.mk (And.intro hq0 (And.intro lq0 (And.intro G0 (And.intro T0 s0))))
  clear hb0 hq0 lq0 G0 T0 s0 hT hz hs
  go_enter Try.func37, Try.ntmps37
  go_wp2_with fail
  rw [← hw0]
  clear hw0
  refine hx1.mono ?_
  rintro e w1 ⟨rfl, hF1, hb1⟩
  obtain ⟨q0, lq0, G0, T0, s0⟩ := H0.out
  have g1 := Gro.keeps G0.lz (Keeps.of_below (fun _ => False) hb1) 9 (fun _ _ h => h.elim)
  have lg1 : relab lab w0.heap.size w1.heap.size 9 w0.heap.size = 9 := relab_new (Nat.le_refl _) hF1.lt
  have hql := (Array.getElem?_eq_some_iff.1 q0).1
  have q1 := (g1.block hql lq0 (by omega)).trans q0
  have lq1 := g1.tag hql lq0
  have T1 := T0.gro g1 (by omega)
  have s1 := s0.gro g1 (by omega)
  have G1 := G0.join g1 (Z := fun z => z = 1 ∨ z = 9) (fun _ h => h) (fun _ h => .inr h)
  have hsrc := hF1.src n (by omega)
  rw [List.take_of_length_le (by omega)] at hsrc
  have hd := T1.write G1.lz x (some ⟨w0.heap.size, 0, none⟩) n n l hsrc (by omega)
  have cx1 : w1.cell? ⟨w.heap.size, 1, none⟩ = some (.int .i64 x) := cell_of_block q1 (j := 1) rfl
  have hp1 := wr_puts S s x n l
  obtain ⟨g, hg⟩ : ∃ g, g = w0.heap.size := ⟨_, rfl⟩
  generalize relab lab w0.heap.size w1.heap.size 9 = L1 at *
  rw [← hg] at hF1 lg1 hd ⊢
  have H1 := Hid.mk (And.intro q1 (And.intro lq1 (And.intro G1 (And.intro s1 (And.intro hF1 lg1)))))
  clear q0 lq0 G0 T0 s0 g1 hql q1 lq1 T1 s1 G1 hsrc hF1 lg1 hb1 hx1 H0 cd0 hg
  go_wp2_with fail
  refine hd.mono ?_
  rintro e w2 ⟨rfl, L2, g2, T2⟩
  obtain ⟨q1, lq1, G1, s1, F1, lg1⟩ := H1.out
  have hql := (Array.getElem?_eq_some_iff.1 q1).1
  have q2 := (g2.block hql lq1 (by omega)).trans q1
  have lq2 := g2.tag hql lq1
  have s2 := s1.gro g2 (by omega)
  have F2 := F1.gro g2 lg1 (by omega)
  have lg2 := g2.tag F1.lt lg1
  have G2 := G1.join g2 (Z := fun z => z = 1 ∨ z = 9) (fun _ h => h) (fun _ h => .inl h)
  have hd2 := T2.rwrite G2.lz x a n c l s2.1 (by omega)
  have cx2 : w2.cell? ⟨w.heap.size, 1, none⟩ = some (.int .i64 x) := cell_of_block q2 (j := 1) rfl
  have cd2 : w2.cell? ⟨w.heap.size, 2, none⟩ = some (.slice a n c) := cell_of_block q2 (j := 2) rfl
  have H2 := Hid.mk (And.intro q2 (And.intro lq2 (And.intro G2 (And.intro s2 (And.intro F2 lg2)))))
  clear q1 lq1 G1 s1 F1 lg1 hql q2 lq2 s2 F2 lg2 G2 g2 T2 hd cx1 H1
  generalize hc : (S.wr s x n l).1 = code at *
  generalize hS : (S.wr s x n l).2 = S2 at *
  clear hc hS
  go_wp2_with fail
  refine hd2.mono ?_
  rintro e w3 ⟨rfl, L3, g3, T3⟩
  obtain ⟨q1, lq1, G1, s1, F1, lg1⟩ := H2.out
  have hql := (Array.getElem?_eq_some_iff.1 q1).1
  have q2 := (g3.block hql lq1 (by omega)).trans q1
  have lq2 := g3.tag hql lq1
  have s2 := s1.gro g3 (by omega)
  have F2 := F1.gro g3 lg1 (by omega)
  have lg2 := g3.tag F1.lt lg1
  have G2 := G1.join g3 (Z := fun z => z = 1 ∨ z = 9) (fun _ h => h) (fun _ h => .inl h)
  have cd3 : w3.cell? ⟨w.heap.size, 2, none⟩ = some (.slice a n c) := cell_of_block q2 (j := 2) rfl
  have hsrc := F2.src n (by omega)
  rw [List.take_of_length_le (by omega)] at hsrc
  have hsa := same_any (some ⟨g, 0, none⟩) a n n c l w3 hn hsrc s2.1
  have hcc : (code != code) = false := by simp
  have H3 := Hid.mk (And.intro q2 (And.intro lq2 (And.intro G2 (And.intro T3 (And.intro F2 lg2)))))
  clear q1 lq1 G1 s1 F1 lg1 hql q2 lq2 s2 F2 lg2 G2 g3 T3 hd2 cx2 cd2 H2 hsrc
  go_wp2_with fail
  refine hsa.mono ?_
  rintro e w4 ⟨rfl, hb4⟩
  obtain ⟨q1, lq1, G1, T1, F1, lg1⟩ := H3.out
  have g4 := Gro.below G1.lz hb4 (fun _ => False)
  have hql := (Array.getElem?_eq_some_iff.1 q1).1
  have q2 := (g4.block hql lq1 (fun h => h)).trans q1
  have T2 := T1.gro g4 (fun h => h)
  have F2 := F1.gro g4 lg1 (fun h => h)
  have G2 := G1.join g4 (Z := fun z => z = 1 ∨ z = 9) (fun _ h => h) (fun _ h => h.elim)
  have htu := turned_any g n l w4 hn hll F2
  have H4 := Hid.mk (And.intro q2 (And.intro lq1 (And.intro G2 (And.intro T2 lg1))))
  clear q1 lq1 G1 T1 F1 lg1 hql q2 T2 F2 G2 g4 hsa hb4 H3 cd3
  go_wp2_with fail
  refine htu.mono ?_
  rintro e w5 ⟨v5, rfl, o5, F5, k5⟩
  obtain ⟨q1, lq1, G1, T1, lg1⟩ := H4.out
  have g5 := Gro.keeps G1.lz k5 9 (fun k _ e => by rw [e]; exact lg1)
  have hgl : g < w4.heap.size := by
    apply Decidable.byContradiction
    intro hn'
    rw [G1.lz g (by omega)] at lg1
    cases lg1
  have hql := (Array.getElem?_eq_some_iff.1 q1).1
  have q2 := (g5.block hql lq1 (by omega)).trans q1
  have lq2 := g5.tag hql lq1
  have lg2 := g5.tag hgl lg1
  have T2 := T1.gro g5 (by omega)
  have G2 := G1.join g5 (Z := fun z => z = 1 ∨ z = 9) (fun _ h => h) (fun _ h => .inr h)
  have O5 : OR w5 (relab L3 w4.heap.size w5.heap.size 9) 9 5 v5 n (bs (l.map turn5)) := OR.of o5 (fun q h1 h2 => relab_new h1 h2)
  obtain ⟨va, vc, rfl⟩ := O5.form
  obtain ⟨l2, hl2⟩ : ∃ l2, l2 = l.map turn5 := ⟨_, rfl⟩
  have hll2 : l2.length = n := by rw [hl2]; simpa using hll
  rw [← hl2] at F5 O5
  have hsrc := F5.src n (by omega)
  rw [List.take_of_length_le (by omega)] at hsrc
  generalize relab L3 w4.heap.size w5.heap.size 9 = L5 at *
  have cx5 : w5.cell? ⟨w.heap.size, 1, none⟩ = some (.int .i64 x) := cell_of_block q2 (j := 1) rfl
  obtain ⟨x1, hx1'⟩ : ∃ x1, x1 = wrap64 (x + 1) := ⟨_, rfl⟩
  have hd5 := T2.write G2.lz x1 (some ⟨g, 0, none⟩) n n l2 hsrc (by omega)
  have hp2 := wr_puts S2 s x1 n l2
  have H5 := Hid.mk (And.intro q2 (And.intro lq2 (And.intro G2 (And.intro F5 (And.intro lg2 O5)))))
  clear q1 lq1 G1 T1 lg1 g5 hql q2 lq2 lg2 T2 G2 O5 hl2 hsrc o5 F5 k5 htu H4 hgl
  go_wp2_with fail
  rw [← hx1']
  refine hd5.mono ?_
  rintro e w6 ⟨rfl, L6, g6, T6⟩
  obtain ⟨q1, lq1, G1, F1, lg1, O1⟩ := H5.out
  have hql := (Array.getElem?_eq_some_iff.1 q1).1
  have q2 := (g6.block hql lq1 (by omega)).trans q1
  have G2 := G1.join g6 (Z := fun z => z = 1 ∨ z = 9) (fun _ h => h) (fun _ h => .inl h)
  have F2 := F1.gro g6 lg1 (by omega)
  have lg2 := g6.tag F1.lt lg1
  have O2 := O1.gro g6 (by omega)
  obtain ⟨va', vc', ev, sv, _⟩ := O2.src
  have ea : va = va' := by injection ev
  subst ea
  have hd6 := T6.rwrite G2.lz x1 va n vc l2 sv.1 (by omega)
  have cx6 : w6.cell? ⟨w.heap.size, 1, none⟩ = some (.int .i64 x) := cell_of_block q2 (j := 1) rfl
  have H6 := Hid.mk (And.intro G2 (And.intro F2 (And.intro lg2 O2)))
  clear q1 lq1 G1 F1 lg1 O1 hql q2 G2 F2 lg2 O2 ev sv T6 g6 hd5 cx5 H5
  generalize hc : (S2.wr s x1 n l2).1 = code2 at *
  generalize hS : (S2.wr s x1 n l2).2 = S3 at *
  clear hc hS
  go_wp2_with fail
  rw [← hx1']
  refine hd6.mono ?_
  rintro e w7 ⟨rfl, L7, g7, T7⟩
  obtain ⟨G1, F1, lg1, O1⟩ := H6.out
  have G2 := G1.join g7 (Z := fun z => z = 1 ∨ z = 9) (fun _ h => h) (fun _ h => .inl h)
  have F2 := F1.gro g7 lg1 (by omega)
  have lg2 := g7.tag F1.lt lg1
  obtain ⟨va', vc', ev, sv, _⟩ := (O1.gro g7 (by omega)).src
  have ea : va = va' := by injection ev
  subst ea
  have hsrc := F2.src n (by omega)
  rw [List.take_of_length_le (by omega)] at hsrc
  have hsa := same_any (some ⟨g, 0, none⟩) va n n vc l2 w7 hn hsrc sv.1
  have hcc2 : (code2 != code2) = false := by simp
  have H7 := Hid.mk (And.intro G2 (And.intro T7 (And.intro F2 lg2)))
  clear G1 F1 lg1 O1 G2 F2 lg2 ev sv hsrc T7 g7 hd6 cx6 H6 hx1'
  go_wp2_with fail
  refine hsa.mono ?_
  rintro e w8 ⟨rfl, hb8⟩
  obtain ⟨G1, T1, F1, lg1⟩ := H7.out
  have g8 := Gro.below G1.lz hb8 (fun _ => False)
  have F2 := F1.gro g8 lg1 (fun h => h)
  have htu := turned_any g n l2 w8 hn hll2 F2
  have H8 := Hid.mk (And.intro (G1.join g8 (Z := fun z => z = 1 ∨ z = 9) (fun _ h => h) (fun _ h => h.elim)) (And.intro (T1.gro g8 (fun h => h)) lg1))
  clear G1 T1 F1 lg1 g8 F2 hsa hb8 H7
  go_wp2_with fail
  refine htu.mono ?_
  rintro e w9 ⟨v9, rfl, o9, F9, k9⟩
  obtain ⟨G1, T1, lg1⟩ := H8.out
  have g9 := Gro.keeps G1.lz k9 9 (fun k _ e => by rw [e]; exact lg1)
  have HF : Hid (WrO w lab B p r s S w9) := ⟨_, S3, G1.join g9 (Z := fun z => z = 1 ∨ z = 9) (fun _ h => h) (fun _ h => .inr h), T1.gro g9 (by omega), by omega⟩
  clear G1 T1 lg1 g9 o9 F9 k9 htu H8
  go_wp2
  go_ret
  exact ⟨rfl, HF.out⟩
end Go.Proofs.Ytnolpafdkaloeaa
end
