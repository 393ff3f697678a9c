import Derived.Test.YthdgndbmecnimaaW22
section
namespace Go.Proofs.Ythdgndbmecnimaa
open Go.RowKit Go.Maps

/-- The owners of what a Note of the N-th list changes. -/
def isN (N y : Nat) : Prop := (11 ≤ y ∧ y ≤ 17) ∨ y = yB N
theorem fill_set {k n : Nat} {x : Int} {l : List Int} (hl : l.length = n) (hk : k < n) : (List.replicate k x ++ l.drop k).set k x = List.replicate (k + 1) x ++ l.drop (k + 1) := by
  rw [List.set_append_right _ _ (by simp), List.length_replicate, Nat.sub_self, List.drop_eq_getElem_cons (by omega), List.set_cons_zero, List.replicate_succ', List.append_assoc]
  rfl

theorem LX.closeRep {w : World} {lab : Nat → Nat} {yr j n c : Nat} {v : Value} {nm : List (Nat × Int)} {a : Option Addr} {x : Int} (h : LX w lab yr yB v (reps j nm) [.slice a (n + j) c]) (hs : SL w lab (yB nm.length) a (n + j) (List.replicate (n + j) x)) : LX w lab yr yB v (reps j (nm ++ [(n, x)])) [] := by
  have e : reps j (nm ++ [(n, x)]) = reps j nm ++ [List.replicate (n + j) x] := by simp [reps]
  rw [e]
  refine LX.close (a := a) (c := c) ?_ ?_
  · rw [List.length_replicate]
    exact h
  · rw [List.length_replicate, reps_len]
    exact hs
def lenVB : Value → Nat
  | .slice _ n _ => n
  | _ => 0

set_option maxRecDepth 20000 in
set_option maxHeartbeats 8000000 in
/-- A list that was handed out joins the book. -/
theorem note_any {w : World} {lab : Nat → Nat} {p n : Nat} {v v0 v1 v2 v3 v4 v5 : Value} {nm : List (Nat × Int)} {l : List Int} (h : Bk w lab p v0 v1 v2 v3 v4 v5 nm) (hz : LZ lab w) (ho : OR w lab (yB nm.length) 5 v n (bs l)) (hn : n ≤ 100000000) (hN : nm.length ≤ 7000000000000) :
    Calls Try.prog 19 #[.pointer (some ⟨p, 0, none⟩), v] w fun e w' => e = .returned (.tuple #[]) ∧ ∃ lab' x u0 u1 u2 u3 u4 u5, Gro lab lab' w w' (fun y => isN nm.length y ∨ y = 9) ∧ Bk w' lab' p u0 u1 u2 u3 u4 u5 (nm ++ [(n, x)]) := by
  obtain ⟨a, c, rfl⟩ := ho.form
  have hll : l.length = n := by have := ho.1.1; simpa using this
  obtain ⟨la, lc, hlf⟩ := h.l0.form
  rw [reps_len] at hlf
  subst hlf
  have d0 : w.cell? ⟨p, 0, none⟩ = some (.slice la nm.length lc) := cell_of_block h.box (j := 0) rfl
  have H := Hid.mk (And.intro h (And.intro hz ho))
  clear h hz ho
  go_enter Try.func19, Try.ntmps19
  go_wp2
  generalize ((nm.length : Int) % 251 + 1) = x
  go_loopw [5] (fun i wr => ∃ k : Nat, k ≤ n ∧ i = .int .i64 k ∧ OR wr lab (yB nm.length) 5 (.slice a n c) n (bs (List.replicate k x ++ l.drop k)) ∧ Gro lab lab w wr (fun y => y = yB nm.length)) (fun i _ => n - (intOf i).toNat)
  case atStart => exact ⟨0, Nat.zero_le _, rfl, by simpa using H.out.2.2, Gro.refl H.out.2.1 _⟩
  case round =>
    obtain ⟨k, hk, rfl, ho, hg⟩ := hrel
    by_cases hlt : k < n
    · obtain ⟨g, c2, e1, hc, hfz, hnc, hg2, ho2⟩ := ho.put hg.lz hlt x
      have ea : a = some ⟨g, 0, none⟩ := by injection e1
      subst ea
      have hlt' : (k : Int) < (n : Int) := by omega
      have hk0 : (0 : Int) ≤ (k : Int) := by omega
      rw [fill_set hll hlt] at ho2
      have HR := Hid.mk (And.intro ho2 (hg.trans hg2))
      generalize (List.replicate k x ++ l.drop k).getD k 0 = y0 at hc
      clear ho hg hg2 ho2 e1 hll
      go_wp2
      go_roundw
      case rel => exact ⟨k + 1, by omega, by go_num, HR.out⟩
      case measure => simp [intOf]; omega
    · obtain rfl : k = n := by omega
      have hlt' : ¬ (k : Int) < (k : Int) := by omega
      rw [List.drop_of_length_le (by omega), List.append_nil] at ho
      obtain ⟨hb0, hz0, ho0⟩ := H.out
      have hb1 := hb0.gro hg (fun y hy e => by have := yB_ge nm.length; omega) (fun i hi e => yB_ne hi e)
      have d0 : wr.cell? ⟨p, 0, none⟩ = some (.slice la nm.length lc) := cell_of_block hb1.box (j := 0) rfl
      obtain ⟨g0, c0, w1, hrun, hc1, hf1, L1, G1, B1⟩ := hb1.push0 hg.lz hN (.slice a k c) rfl
      have O1 := ho.gro G1 (fun e => by have := yB_ge nm.length; omega)
      have GG1 := hg.join G1 (Z := fun y => isN nm.length y ∨ y = 9) (fun y h => .inl (.inr h)) (fun y h => .inl (.inl (by omega)))
      obtain ⟨W1, hW1⟩ : ∃ W, W = w1.setCell ⟨p, 0, none⟩ (.slice (some ⟨g0, 0, none⟩) (nm.length + 1) c0) := ⟨_, rfl⟩
      rw [← hW1] at O1 GG1 B1
      have H1 := Hid.mk (And.intro B1 (And.intro O1 GG1))
      have HRun := Hid.mk hrun
      have HW1 := Hid.mk hW1
      clear B1 O1 GG1 G1 hb1 hb0 hz0 ho0 ho hg hrun hW1
      go_wp2_with (at_builtin; refine swList_append_run rfl _ _ 22 rfl (.slice la nm.length lc) (.slice (some ⟨wr.heap.size, 0, none⟩) 1 1) _ rfl rfl HRun.out ?_)
      rw [← HW1.out]
      clear HRun HW1 hc1 hf1 d0 hlt hlt' hk

      obtain ⟨B1, O1, Q1⟩ := H1.out
      have hS : W1.drew.cell? ⟨p, 1, none⟩ = some v1 := cell_of_block (w := W1.drew) B1.box rfl
      have GD := (Gro.drew Q1.lz (fun _ => False)).trans (Gro.boxed (Gro.drew Q1.lz (fun _ => False)).lz (.cells #[.int .u8 x] 5) (fun _ => False))
      have hE : (W1.drew.alloc (.cells #[.int .u8 x] 5)).cell? ⟨p, 1, none⟩ = some v1 := cell_later (below_box W1.drew _) hS
      obtain ⟨g1, c1, F1, gg1, cc1, w2, r1, kF, kA, r2, k2, f2, L2, Gn, Bn, Oa, Ob, St⟩ := (B1.far GD (fun _ h => h.elim)).note1 GD.lz hN (O1.gro GD (fun h => h)) ⟨W1.heap.size, 0, none⟩ 1 1 [x] rfl (World.news_of_block (cs := #[.int .u8 x]) (t := 5) (fr := (0, 0)) (heap_alloc_new W1.drew _)) (by omega) (by omega)
      have St2 := (Stay.gro (x := x) (y := yB nm.length) GD (fun h => h)).trans (St x (by intro z hz; simpa using hz))
      have GG2 := Q1.join (GD.join Gn (Z := fun y => isN nm.length y ∨ y = 9) (fun _ h => h.elim) (fun y h => .inl (by rcases h with h | h | h; exact .inr h; exact .inl (by omega); exact .inl (by omega)))) (Z := fun y => isN nm.length y ∨ y = 9) (fun _ h => h) (fun _ h => h)
      obtain ⟨W2, hW⟩ : ∃ W, W = w2.setCell ⟨p, 1, none⟩ (.slice (some ⟨gg1, 0, none⟩) (nm.length + 1) cc1) := ⟨_, rfl⟩
      rw [← hW] at St2 GG2 Bn Oa Ob
      have Xn : Xs x (yB nm.length) L2 W2 g1 (k + 1) := Xs.of (c := c1) (by rw [show List.replicate (k + 1) x = List.replicate k x ++ [x] from (List.replicate_append_replicate (n := k) (m := 1) (a := x)).symm]; exact Oa)
      have H2 := Hid.mk (And.intro Bn (And.intro Ob (And.intro GG2 (Xn))))
      have HR1 := Hid.mk r1
      have HR2 := Hid.mk r2
      have HW := Hid.mk hW
      clear B1 O1 Q1  H1 GD Gn Bn Oa Ob St St2 GG2 Xn  r1 r2 hW
      refine wp_region_sw 10 (fun w => w.cell? ⟨p, 1, none⟩ = some v1) (by kernel_rfl) hS (fun hHeld => ?_)
      refine wpAnyS_pure (i := 0) (oi := { dst := some 35, op := Op.move (Operand.tmp 0), type := 41, pos := "outright.go:367", after := #[], guard := none }) (v := .pointer (some ⟨p, 0, none⟩)) rfl (by decide) (by kernel_rfl) (by kernel_rfl) (by kernel_rfl) (fun _ _ _ h => h) (Or.inl ⟨by rfl, ?_⟩) (Or.inr hHeld) ?_
      · intro w hSw
        clear hSw
        go_simp
      try simp only [Act.put, List.setIfInBounds_toArray, List.set_cons_zero, List.set_cons_succ]
      refine wpAnyS_pure (i := 1) (oi := { dst := some 36, op := Op.move (Operand.tmp 0), type := 41, pos := "outright.go:367", after := #[], guard := none }) (v := .pointer (some ⟨p, 0, none⟩)) rfl (by decide) (by kernel_rfl) (by kernel_rfl) (by kernel_rfl) (fun _ _ _ h => h) (Or.inl ⟨by rfl, ?_⟩) (Or.inr hHeld) ?_
      · intro w hSw
        clear hSw
        go_simp
      try simp only [Act.put, List.setIfInBounds_toArray, List.set_cons_zero, List.set_cons_succ]
      refine wpAnyS_pure (i := 2) (oi := { dst := some 37, op := Op.nilCheck (Operand.tmp 36), type := 0, pos := "outright.go:367", after := #[{ on := 1, ground := Ground.data }], guard := none }) (v := .pointer (some ⟨p, 0, none⟩)) rfl (by decide) (by kernel_rfl) (by kernel_rfl) (by kernel_rfl) (fun _ _ _ h => h) (Or.inl ⟨by rfl, ?_⟩) (Or.inr hHeld) ?_
      · intro w hSw
        clear hSw
        go_simp
      try simp only [Act.put, List.setIfInBounds_toArray, List.set_cons_zero, List.set_cons_succ]
      refine wpAnyS_pure (i := 3) (oi := { dst := some 38, op := Op.fieldAddr 43 (Operand.tmp 37) 1, type := 0, pos := "outright.go:367", after := #[{ on := 2, ground := Ground.data }], guard := none }) (v := .pointer (some ⟨p, 1, none⟩)) rfl (by decide) (by kernel_rfl) (by kernel_rfl) (by kernel_rfl) (fun _ _ _ h => h) (Or.inl ⟨by rfl, ?_⟩) (Or.inr hHeld) ?_
      · intro w hSw
        clear hSw
        go_simp
      try simp only [Act.put, List.setIfInBounds_toArray, List.set_cons_zero, List.set_cons_succ]
      refine wpAnyS_load (i := 4) (oi := { dst := some 39, op := Op.load 22 (Operand.tmp 38), type := 22, pos := "outright.go:367", after := #[{ on := 3, ground := Ground.data }], guard := none }) (v := v1) rfl (by decide) (by kernel_rfl) (by kernel_rfl) (by kernel_rfl) (by kernel_rfl) (fun _ _ _ h => h) (Or.inl ⟨by rfl, ?_⟩) (by rfl) hHeld ?_
      · intro w hSw
        (try dsimp only at hSw)
        go_simp
      try simp only [Act.put, List.setIfInBounds_toArray, List.set_cons_zero, List.set_cons_succ]
      refine wpAnyS_pure (i := 5) (oi := { dst := some 40, op := Op.move (Operand.tmp 1), type := 27, pos := "outright.go:367", after := #[], guard := none }) (v := .slice a k c) rfl (by decide) (by kernel_rfl) (by kernel_rfl) (by kernel_rfl) (fun _ _ _ h => h) (Or.inl ⟨by rfl, ?_⟩) (Or.inr hHeld) ?_
      · intro w hSw
        clear hSw
        go_simp
      try simp only [Act.put, List.setIfInBounds_toArray, List.set_cons_zero, List.set_cons_succ]
      refine wpAnyS_pure (i := 6) (oi := { dst := some 41, op := Op.move (Operand.tmp 4), type := 5, pos := "outright.go:367", after := #[], guard := none }) (v := .int .u8 x) rfl (by decide) (by kernel_rfl) (by kernel_rfl) (by kernel_rfl) (fun _ _ _ h => h) (Or.inl ⟨by rfl, ?_⟩) (Or.inr hHeld) ?_
      · intro w hSw
        clear hSw
        go_simp
      try simp only [Act.put, List.setIfInBounds_toArray, List.set_cons_zero, List.set_cons_succ]
      refine wpAnyS_one (i := 7) (o := { dst := some 42, op := Op.buildSlice 27 1 #[(0, Operand.tmp 41)], type := 27, pos := "outright.go:367", after := #[{ on := 6, ground := Ground.data }], guard := none }) (by kernel_rfl) rfl (fun K hK => ?_)
      go_simp
      refine hK.out _ _ (Or.inr hE) ?_
      clear hK K
      try simp only [Act.put, List.setIfInBounds_toArray, List.set_cons_zero, List.set_cons_succ]
      refine wpAnyS_one (i := 8) (o := { dst := some 43, op := Op.call { callee := Callee.builtin Builtin.append, args := #[Operand.tmp 40, Operand.tmp 42], argTypes := #[27, 27] }, type := 27, pos := "outright.go:367", after := #[{ on := 5, ground := Ground.data }, { on := 7, ground := Ground.data }], guard := none }) (by kernel_rfl) rfl (fun K hK => ?_)
      rw [if_pos (by rfl)]
      refine sw_append_run _ _ _ rfl (.slice a k c) (.slice (some ⟨W1.heap.size, 0, none⟩) 1 1) _ rfl rfl HR1.out ?_
      refine hK.out _ _ (Or.inr kF) ?_
      clear hK K
      try simp only [Act.put, List.setIfInBounds_toArray, List.set_cons_zero, List.set_cons_succ]
      refine wpAnyS_one (i := 9) (o := { dst := some 44, op := Op.buildSlice 22 1 #[(0, Operand.tmp 43)], type := 22, pos := "outright.go:367", after := #[{ on := 8, ground := Ground.data }], guard := none }) (by kernel_rfl) rfl (fun K hK => ?_)
      go_simp
      refine hK.out _ _ (Or.inr kA) ?_
      clear hK K
      try simp only [Act.put, List.setIfInBounds_toArray, List.set_cons_zero, List.set_cons_succ]
      refine wpAnyS_one (i := 10) (o := { dst := some 45, op := Op.call { callee := Callee.builtin Builtin.append, args := #[Operand.tmp 39, Operand.tmp 44], argTypes := #[22, 22] }, type := 22, pos := "outright.go:367", after := #[{ on := 4, ground := Ground.data }, { on := 9, ground := Ground.data }, { on := 8, ground := Ground.chain }], guard := none }) (by kernel_rfl) rfl (fun K hK => ?_)
      rw [if_pos (by rfl)]
      refine sw_append_run _ _ _ rfl (v1) (.slice (some ⟨F1.heap.size, 0, none⟩) 1 1) _ rfl rfl HR2.out ?_
      refine hK.out _ _ (Or.inl (by rfl)) ?_
      clear hK K
      try simp only [Act.put, List.setIfInBounds_toArray, List.set_cons_zero, List.set_cons_succ]
      refine wpAnyS_pure (i := 11) (oi := { dst := some 46, op := Op.nilCheck (Operand.tmp 35), type := 0, pos := "outright.go:367", after := #[{ on := 0, ground := Ground.data }, { on := 0, ground := Ground.phase }, { on := 1, ground := Ground.phase }, { on := 2, ground := Ground.phase }, { on := 3, ground := Ground.phase }, { on := 4, ground := Ground.phase }, { on := 5, ground := Ground.phase }, { on := 6, ground := Ground.phase }, { on := 7, ground := Ground.phase }, { on := 8, ground := Ground.phase }, { on := 9, ground := Ground.phase }, { on := 10, ground := Ground.phase }], guard := none }) (v := .pointer (some ⟨p, 0, none⟩)) rfl (by decide) (by kernel_rfl) (by kernel_rfl) (by kernel_rfl) (fun _ _ _ h => h) (Or.inl ⟨by rfl, ?_⟩) (Or.inl (by rfl)) ?_
      · intro w hSw
        clear hSw
        go_simp
      try simp only [Act.put, List.setIfInBounds_toArray, List.set_cons_zero, List.set_cons_succ]
      refine wpAnyS_pure (i := 12) (oi := { dst := some 47, op := Op.fieldAddr 43 (Operand.tmp 46) 1, type := 0, pos := "outright.go:367", after := #[{ on := 11, ground := Ground.data }, { on := 0, ground := Ground.phase }, { on := 1, ground := Ground.phase }, { on := 2, ground := Ground.phase }, { on := 3, ground := Ground.phase }, { on := 4, ground := Ground.phase }, { on := 5, ground := Ground.phase }, { on := 6, ground := Ground.phase }, { on := 7, ground := Ground.phase }, { on := 8, ground := Ground.phase }, { on := 9, ground := Ground.phase }, { on := 10, ground := Ground.phase }], guard := none }) (v := .pointer (some ⟨p, 1, none⟩)) rfl (by decide) (by kernel_rfl) (by kernel_rfl) (by kernel_rfl) (fun _ _ _ h => h) (Or.inl ⟨by rfl, ?_⟩) (Or.inl (by rfl)) ?_
      · intro w hSw
        clear hSw
        go_simp
      try simp only [Act.put, List.setIfInBounds_toArray, List.set_cons_zero, List.set_cons_succ]
      refine wpAnyS_one (i := 13) (o := { dst := none, op := Op.store 22 (Operand.tmp 47) (Operand.tmp 45), type := 0, pos := "outright.go:367", after := #[{ on := 12, ground := Ground.data }, { on := 10, ground := Ground.data }, { on := 10, ground := Ground.chain }, { on := 0, ground := Ground.phase }, { on := 1, ground := Ground.phase }, { on := 2, ground := Ground.phase }, { on := 3, ground := Ground.phase }, { on := 4, ground := Ground.phase }, { on := 5, ground := Ground.phase }, { on := 6, ground := Ground.phase }, { on := 7, ground := Ground.phase }, { on := 8, ground := Ground.phase }, { on := 9, ground := Ground.phase }, { on := 10, ground := Ground.phase }], guard := none }) (by kernel_rfl) rfl (fun K hK => ?_)
      go_simp
      refine hK.out _ _ (Or.inl (by rfl)) ?_
      clear hK K
      try simp only [Act.put, List.setIfInBounds_toArray, List.set_cons_zero, List.set_cons_succ]
      refine wpAnyS_done (by kernel_rfl) ?_ _
      rw [← HW.out]
      clear HR1 HR2 HW hHeld hS kF kA k2 f2 hE
      go_wp2
      obtain ⟨B2, O2, Q2, X1⟩ := H2.out
      have hS : W2.drew.cell? ⟨p, 2, none⟩ = some v2 := cell_of_block (w := W2.drew) B2.box rfl
      have GD := (Gro.drew Q2.lz (fun _ => False)).trans (Gro.boxed (Gro.drew Q2.lz (fun _ => False)).lz (.cells #[.int .u8 x, .int .u8 x] 5) (fun _ => False))
      have hE : (W2.drew.alloc (.cells #[.int .u8 x, .int .u8 x] 5)).cell? ⟨p, 2, none⟩ = some v2 := cell_later (below_box W2.drew _) hS
      obtain ⟨g2, c2, F2, gg2, cc2, w2, r1, kF, kA, r2, k2, f2, L3, Gn, Bn, Oa, Ob, St⟩ := (B2.far GD (fun _ h => h.elim)).note2 GD.lz hN (O2.gro GD (fun h => h)) ⟨W2.heap.size, 0, none⟩ 2 2 [x, x] rfl (World.news_of_block (cs := #[.int .u8 x, .int .u8 x]) (t := 5) (fr := (0, 0)) (heap_alloc_new W2.drew _)) (by omega) (by omega)
      have St2 := (Stay.gro (x := x) (y := yB nm.length) GD (fun h => h)).trans (St x (by intro z hz; simpa using hz))
      have GG2 := Q2.join (GD.join Gn (Z := fun y => isN nm.length y ∨ y = 9) (fun _ h => h.elim) (fun y h => .inl (by rcases h with h | h | h; exact .inr h; exact .inl (by omega); exact .inl (by omega)))) (Z := fun y => isN nm.length y ∨ y = 9) (fun _ h => h) (fun _ h => h)
      obtain ⟨W3, hW⟩ : ∃ W, W = w2.setCell ⟨p, 2, none⟩ (.slice (some ⟨gg2, 0, none⟩) (nm.length + 1) cc2) := ⟨_, rfl⟩
      rw [← hW] at St2 GG2 Bn Oa Ob
      have Xn : Xs x (yB nm.length) L3 W3 g2 (k + 2) := Xs.of (c := c2) (by rw [show List.replicate (k + 2) x = List.replicate k x ++ [x, x] from (List.replicate_append_replicate (n := k) (m := 2) (a := x)).symm]; exact Oa)
      have Y1 := X1.stay St2
      have H3 := Hid.mk (And.intro Bn (And.intro Ob (And.intro GG2 (And.intro Y1 Xn))))
      have HR1 := Hid.mk r1
      have HR2 := Hid.mk r2
      have HW := Hid.mk hW
      clear B2 O2 Q2 X1 H2 GD Gn Bn Oa Ob St St2 GG2 Xn Y1 r1 r2 hW
      refine wp_region_sw 11 (fun w => w.cell? ⟨p, 2, none⟩ = some v2) (by kernel_rfl) hS (fun hHeld => ?_)
      refine wpAnyS_pure (i := 0) (oi := { dst := some 48, op := Op.move (Operand.tmp 0), type := 41, pos := "outright.go:368", after := #[], guard := none }) (v := .pointer (some ⟨p, 0, none⟩)) rfl (by decide) (by kernel_rfl) (by kernel_rfl) (by kernel_rfl) (fun _ _ _ h => h) (Or.inl ⟨by rfl, ?_⟩) (Or.inr hHeld) ?_
      · intro w hSw
        clear hSw
        go_simp
      try simp only [Act.put, List.setIfInBounds_toArray, List.set_cons_zero, List.set_cons_succ]
      refine wpAnyS_pure (i := 1) (oi := { dst := some 49, op := Op.move (Operand.tmp 0), type := 41, pos := "outright.go:368", after := #[], guard := none }) (v := .pointer (some ⟨p, 0, none⟩)) rfl (by decide) (by kernel_rfl) (by kernel_rfl) (by kernel_rfl) (fun _ _ _ h => h) (Or.inl ⟨by rfl, ?_⟩) (Or.inr hHeld) ?_
      · intro w hSw
        clear hSw
        go_simp
      try simp only [Act.put, List.setIfInBounds_toArray, List.set_cons_zero, List.set_cons_succ]
      refine wpAnyS_pure (i := 2) (oi := { dst := some 50, op := Op.nilCheck (Operand.tmp 49), type := 0, pos := "outright.go:368", after := #[{ on := 1, ground := Ground.data }], guard := none }) (v := .pointer (some ⟨p, 0, none⟩)) rfl (by decide) (by kernel_rfl) (by kernel_rfl) (by kernel_rfl) (fun _ _ _ h => h) (Or.inl ⟨by rfl, ?_⟩) (Or.inr hHeld) ?_
      · intro w hSw
        clear hSw
        go_simp
      try simp only [Act.put, List.setIfInBounds_toArray, List.set_cons_zero, List.set_cons_succ]
      refine wpAnyS_pure (i := 3) (oi := { dst := some 51, op := Op.fieldAddr 43 (Operand.tmp 50) 2, type := 0, pos := "outright.go:368", after := #[{ on := 2, ground := Ground.data }], guard := none }) (v := .pointer (some ⟨p, 2, none⟩)) rfl (by decide) (by kernel_rfl) (by kernel_rfl) (by kernel_rfl) (fun _ _ _ h => h) (Or.inl ⟨by rfl, ?_⟩) (Or.inr hHeld) ?_
      · intro w hSw
        clear hSw
        go_simp
      try simp only [Act.put, List.setIfInBounds_toArray, List.set_cons_zero, List.set_cons_succ]
      refine wpAnyS_load (i := 4) (oi := { dst := some 52, op := Op.load 22 (Operand.tmp 51), type := 22, pos := "outright.go:368", after := #[{ on := 3, ground := Ground.data }], guard := none }) (v := v2) rfl (by decide) (by kernel_rfl) (by kernel_rfl) (by kernel_rfl) (by kernel_rfl) (fun _ _ _ h => h) (Or.inl ⟨by rfl, ?_⟩) (by rfl) hHeld ?_
      · intro w hSw
        (try dsimp only at hSw)
        go_simp
      try simp only [Act.put, List.setIfInBounds_toArray, List.set_cons_zero, List.set_cons_succ]
      refine wpAnyS_pure (i := 5) (oi := { dst := some 53, op := Op.move (Operand.tmp 1), type := 27, pos := "outright.go:368", after := #[], guard := none }) (v := .slice a k c) rfl (by decide) (by kernel_rfl) (by kernel_rfl) (by kernel_rfl) (fun _ _ _ h => h) (Or.inl ⟨by rfl, ?_⟩) (Or.inr hHeld) ?_
      · intro w hSw
        clear hSw
        go_simp
      try simp only [Act.put, List.setIfInBounds_toArray, List.set_cons_zero, List.set_cons_succ]
      refine wpAnyS_pure (i := 6) (oi := { dst := some 54, op := Op.move (Operand.tmp 4), type := 5, pos := "outright.go:368", after := #[], guard := none }) (v := .int .u8 x) rfl (by decide) (by kernel_rfl) (by kernel_rfl) (by kernel_rfl) (fun _ _ _ h => h) (Or.inl ⟨by rfl, ?_⟩) (Or.inr hHeld) ?_
      · intro w hSw
        clear hSw
        go_simp
      try simp only [Act.put, List.setIfInBounds_toArray, List.set_cons_zero, List.set_cons_succ]
      refine wpAnyS_pure (i := 7) (oi := { dst := some 55, op := Op.move (Operand.tmp 4), type := 5, pos := "outright.go:368", after := #[], guard := none }) (v := .int .u8 x) rfl (by decide) (by kernel_rfl) (by kernel_rfl) (by kernel_rfl) (fun _ _ _ h => h) (Or.inl ⟨by rfl, ?_⟩) (Or.inr hHeld) ?_
      · intro w hSw
        clear hSw
        go_simp
      try simp only [Act.put, List.setIfInBounds_toArray, List.set_cons_zero, List.set_cons_succ]
      refine wpAnyS_one (i := 8) (o := { dst := some 56, op := Op.buildSlice 27 2 #[(0, Operand.tmp 54), (1, Operand.tmp 55)], type := 27, pos := "outright.go:368", after := #[{ on := 6, ground := Ground.data }, { on := 7, ground := Ground.data }], guard := none }) (by kernel_rfl) rfl (fun K hK => ?_)
      go_simp
      refine hK.out _ _ (Or.inr hE) ?_
      clear hK K
      try simp only [Act.put, List.setIfInBounds_toArray, List.set_cons_zero, List.set_cons_succ]
      refine wpAnyS_one (i := 9) (o := { dst := some 57, op := Op.call { callee := Callee.builtin Builtin.append, args := #[Operand.tmp 53, Operand.tmp 56], argTypes := #[27, 27] }, type := 27, pos := "outright.go:368", after := #[{ on := 5, ground := Ground.data }, { on := 8, ground := Ground.data }], guard := none }) (by kernel_rfl) rfl (fun K hK => ?_)
      rw [if_pos (by rfl)]
      refine sw_append_run _ _ _ rfl (.slice a k c) (.slice (some ⟨W2.heap.size, 0, none⟩) 2 2) _ rfl rfl HR1.out ?_
      refine hK.out _ _ (Or.inr kF) ?_
      clear hK K
      try simp only [Act.put, List.setIfInBounds_toArray, List.set_cons_zero, List.set_cons_succ]
      refine wpAnyS_one (i := 10) (o := { dst := some 58, op := Op.buildSlice 22 1 #[(0, Operand.tmp 57)], type := 22, pos := "outright.go:368", after := #[{ on := 9, ground := Ground.data }], guard := none }) (by kernel_rfl) rfl (fun K hK => ?_)
      go_simp
      refine hK.out _ _ (Or.inr kA) ?_
      clear hK K
      try simp only [Act.put, List.setIfInBounds_toArray, List.set_cons_zero, List.set_cons_succ]
      refine wpAnyS_one (i := 11) (o := { dst := some 59, op := Op.call { callee := Callee.builtin Builtin.append, args := #[Operand.tmp 52, Operand.tmp 58], argTypes := #[22, 22] }, type := 22, pos := "outright.go:368", after := #[{ on := 4, ground := Ground.data }, { on := 10, ground := Ground.data }, { on := 9, ground := Ground.chain }], guard := none }) (by kernel_rfl) rfl (fun K hK => ?_)
      rw [if_pos (by rfl)]
      refine sw_append_run _ _ _ rfl (v2) (.slice (some ⟨F2.heap.size, 0, none⟩) 1 1) _ rfl rfl HR2.out ?_
      refine hK.out _ _ (Or.inl (by rfl)) ?_
      clear hK K
      try simp only [Act.put, List.setIfInBounds_toArray, List.set_cons_zero, List.set_cons_succ]
      refine wpAnyS_pure (i := 12) (oi := { dst := some 60, op := Op.nilCheck (Operand.tmp 48), type := 0, pos := "outright.go:368", after := #[{ on := 0, ground := Ground.data }, { on := 0, ground := Ground.phase }, { on := 1, ground := Ground.phase }, { on := 2, ground := Ground.phase }, { on := 3, ground := Ground.phase }, { on := 4, ground := Ground.phase }, { on := 5, ground := Ground.phase }, { on := 6, ground := Ground.phase }, { on := 7, ground := Ground.phase }, { on := 8, ground := Ground.phase }, { on := 9, ground := Ground.phase }, { on := 10, ground := Ground.phase }, { on := 11, ground := Ground.phase }], guard := none }) (v := .pointer (some ⟨p, 0, none⟩)) rfl (by decide) (by kernel_rfl) (by kernel_rfl) (by kernel_rfl) (fun _ _ _ h => h) (Or.inl ⟨by rfl, ?_⟩) (Or.inl (by rfl)) ?_
      · intro w hSw
        clear hSw
        go_simp
      try simp only [Act.put, List.setIfInBounds_toArray, List.set_cons_zero, List.set_cons_succ]
      refine wpAnyS_pure (i := 13) (oi := { dst := some 61, op := Op.fieldAddr 43 (Operand.tmp 60) 2, type := 0, pos := "outright.go:368", after := #[{ on := 12, ground := Ground.data }, { on := 0, ground := Ground.phase }, { on := 1, ground := Ground.phase }, { on := 2, ground := Ground.phase }, { on := 3, ground := Ground.phase }, { on := 4, ground := Ground.phase }, { on := 5, ground := Ground.phase }, { on := 6, ground := Ground.phase }, { on := 7, ground := Ground.phase }, { on := 8, ground := Ground.phase }, { on := 9, ground := Ground.phase }, { on := 10, ground := Ground.phase }, { on := 11, ground := Ground.phase }], guard := none }) (v := .pointer (some ⟨p, 2, none⟩)) rfl (by decide) (by kernel_rfl) (by kernel_rfl) (by kernel_rfl) (fun _ _ _ h => h) (Or.inl ⟨by rfl, ?_⟩) (Or.inl (by rfl)) ?_
      · intro w hSw
        clear hSw
        go_simp
      try simp only [Act.put, List.setIfInBounds_toArray, List.set_cons_zero, List.set_cons_succ]
      refine wpAnyS_one (i := 14) (o := { dst := none, op := Op.store 22 (Operand.tmp 61) (Operand.tmp 59), type := 0, pos := "outright.go:368", after := #[{ on := 13, ground := Ground.data }, { on := 11, ground := Ground.data }, { on := 11, ground := Ground.chain }, { on := 0, ground := Ground.phase }, { on := 1, ground := Ground.phase }, { on := 2, ground := Ground.phase }, { on := 3, ground := Ground.phase }, { on := 4, ground := Ground.phase }, { on := 5, ground := Ground.phase }, { on := 6, ground := Ground.phase }, { on := 7, ground := Ground.phase }, { on := 8, ground := Ground.phase }, { on := 9, ground := Ground.phase }, { on := 10, ground := Ground.phase }, { on := 11, ground := Ground.phase }], guard := none }) (by kernel_rfl) rfl (fun K hK => ?_)
      go_simp
      refine hK.out _ _ (Or.inl (by rfl)) ?_
      clear hK K
      try simp only [Act.put, List.setIfInBounds_toArray, List.set_cons_zero, List.set_cons_succ]
      refine wpAnyS_done (by kernel_rfl) ?_ _
      rw [← HW.out]
      clear HR1 HR2 HW hHeld hS kF kA k2 f2 hE
      go_wp2
      obtain ⟨B3, O3, Q3, X1, X2⟩ := H3.out
      have hS : W3.drew.cell? ⟨p, 3, none⟩ = some v3 := cell_of_block (w := W3.drew) B3.box rfl
      have GD := (Gro.drew Q3.lz (fun _ => False)).trans (Gro.boxed (Gro.drew Q3.lz (fun _ => False)).lz (.cells #[.int .u8 x, .int .u8 x, .int .u8 x] 5) (fun _ => False))
      have hE : (W3.drew.alloc (.cells #[.int .u8 x, .int .u8 x, .int .u8 x] 5)).cell? ⟨p, 3, none⟩ = some v3 := cell_later (below_box W3.drew _) hS
      obtain ⟨g3, c3, F3, gg3, cc3, w2, r1, kF, kA, r2, k2, f2, L4, Gn, Bn, Oa, Ob, St⟩ := (B3.far GD (fun _ h => h.elim)).note3 GD.lz hN (O3.gro GD (fun h => h)) ⟨W3.heap.size, 0, none⟩ 3 3 [x, x, x] rfl (World.news_of_block (cs := #[.int .u8 x, .int .u8 x, .int .u8 x]) (t := 5) (fr := (0, 0)) (heap_alloc_new W3.drew _)) (by omega) (by omega)
      have St2 := (Stay.gro (x := x) (y := yB nm.length) GD (fun h => h)).trans (St x (by intro z hz; simpa using hz))
      have GG2 := Q3.join (GD.join Gn (Z := fun y => isN nm.length y ∨ y = 9) (fun _ h => h.elim) (fun y h => .inl (by rcases h with h | h | h; exact .inr h; exact .inl (by omega); exact .inl (by omega)))) (Z := fun y => isN nm.length y ∨ y = 9) (fun _ h => h) (fun _ h => h)
      obtain ⟨W4, hW⟩ : ∃ W, W = w2.setCell ⟨p, 3, none⟩ (.slice (some ⟨gg3, 0, none⟩) (nm.length + 1) cc3) := ⟨_, rfl⟩
      rw [← hW] at St2 GG2 Bn Oa Ob
      have Xn : Xs x (yB nm.length) L4 W4 g3 (k + 3) := Xs.of (c := c3) (by rw [show List.replicate (k + 3) x = List.replicate k x ++ [x, x, x] from (List.replicate_append_replicate (n := k) (m := 3) (a := x)).symm]; exact Oa)
      have Y1 := X1.stay St2
      have Y2 := X2.stay St2
      have H4 := Hid.mk (And.intro Bn (And.intro Ob (And.intro GG2 (And.intro Y1 (And.intro Y2 Xn)))))
      have HR1 := Hid.mk r1
      have HR2 := Hid.mk r2
      have HW := Hid.mk hW
      clear B3 O3 Q3 X1 X2 H3 GD Gn Bn Oa Ob St St2 GG2 Xn Y1 Y2 r1 r2 hW
      refine wp_region_sw 12 (fun w => w.cell? ⟨p, 3, none⟩ = some v3) (by kernel_rfl) hS (fun hHeld => ?_)
      refine wpAnyS_pure (i := 0) (oi := { dst := some 62, op := Op.move (Operand.tmp 0), type := 41, pos := "outright.go:369", after := #[], guard := none }) (v := .pointer (some ⟨p, 0, none⟩)) rfl (by decide) (by kernel_rfl) (by kernel_rfl) (by kernel_rfl) (fun _ _ _ h => h) (Or.inl ⟨by rfl, ?_⟩) (Or.inr hHeld) ?_
      · intro w hSw
        clear hSw
        go_simp
      try simp only [Act.put, List.setIfInBounds_toArray, List.set_cons_zero, List.set_cons_succ]
      refine wpAnyS_pure (i := 1) (oi := { dst := some 63, op := Op.move (Operand.tmp 0), type := 41, pos := "outright.go:369", after := #[], guard := none }) (v := .pointer (some ⟨p, 0, none⟩)) rfl (by decide) (by kernel_rfl) (by kernel_rfl) (by kernel_rfl) (fun _ _ _ h => h) (Or.inl ⟨by rfl, ?_⟩) (Or.inr hHeld) ?_
      · intro w hSw
        clear hSw
        go_simp
      try simp only [Act.put, List.setIfInBounds_toArray, List.set_cons_zero, List.set_cons_succ]
      refine wpAnyS_pure (i := 2) (oi := { dst := some 64, op := Op.nilCheck (Operand.tmp 63), type := 0, pos := "outright.go:369", after := #[{ on := 1, ground := Ground.data }], guard := none }) (v := .pointer (some ⟨p, 0, none⟩)) rfl (by decide) (by kernel_rfl) (by kernel_rfl) (by kernel_rfl) (fun _ _ _ h => h) (Or.inl ⟨by rfl, ?_⟩) (Or.inr hHeld) ?_
      · intro w hSw
        clear hSw
        go_simp
      try simp only [Act.put, List.setIfInBounds_toArray, List.set_cons_zero, List.set_cons_succ]
      refine wpAnyS_pure (i := 3) (oi := { dst := some 65, op := Op.fieldAddr 43 (Operand.tmp 64) 3, type := 0, pos := "outright.go:369", after := #[{ on := 2, ground := Ground.data }], guard := none }) (v := .pointer (some ⟨p, 3, none⟩)) rfl (by decide) (by kernel_rfl) (by kernel_rfl) (by kernel_rfl) (fun _ _ _ h => h) (Or.inl ⟨by rfl, ?_⟩) (Or.inr hHeld) ?_
      · intro w hSw
        clear hSw
        go_simp
      try simp only [Act.put, List.setIfInBounds_toArray, List.set_cons_zero, List.set_cons_succ]
      refine wpAnyS_load (i := 4) (oi := { dst := some 66, op := Op.load 22 (Operand.tmp 65), type := 22, pos := "outright.go:369", after := #[{ on := 3, ground := Ground.data }], guard := none }) (v := v3) rfl (by decide) (by kernel_rfl) (by kernel_rfl) (by kernel_rfl) (by kernel_rfl) (fun _ _ _ h => h) (Or.inl ⟨by rfl, ?_⟩) (by rfl) hHeld ?_
      · intro w hSw
        (try dsimp only at hSw)
        go_simp
      try simp only [Act.put, List.setIfInBounds_toArray, List.set_cons_zero, List.set_cons_succ]
      refine wpAnyS_pure (i := 5) (oi := { dst := some 67, op := Op.move (Operand.tmp 1), type := 27, pos := "outright.go:369", after := #[], guard := none }) (v := .slice a k c) rfl (by decide) (by kernel_rfl) (by kernel_rfl) (by kernel_rfl) (fun _ _ _ h => h) (Or.inl ⟨by rfl, ?_⟩) (Or.inr hHeld) ?_
      · intro w hSw
        clear hSw
        go_simp
      try simp only [Act.put, List.setIfInBounds_toArray, List.set_cons_zero, List.set_cons_succ]
      refine wpAnyS_pure (i := 6) (oi := { dst := some 68, op := Op.move (Operand.tmp 4), type := 5, pos := "outright.go:369", after := #[], guard := none }) (v := .int .u8 x) rfl (by decide) (by kernel_rfl) (by kernel_rfl) (by kernel_rfl) (fun _ _ _ h => h) (Or.inl ⟨by rfl, ?_⟩) (Or.inr hHeld) ?_
      · intro w hSw
        clear hSw
        go_simp
      try simp only [Act.put, List.setIfInBounds_toArray, List.set_cons_zero, List.set_cons_succ]
      refine wpAnyS_pure (i := 7) (oi := { dst := some 69, op := Op.move (Operand.tmp 4), type := 5, pos := "outright.go:369", after := #[], guard := none }) (v := .int .u8 x) rfl (by decide) (by kernel_rfl) (by kernel_rfl) (by kernel_rfl) (fun _ _ _ h => h) (Or.inl ⟨by rfl, ?_⟩) (Or.inr hHeld) ?_
      · intro w hSw
        clear hSw
        go_simp
      try simp only [Act.put, List.setIfInBounds_toArray, List.set_cons_zero, List.set_cons_succ]
      refine wpAnyS_pure (i := 8) (oi := { dst := some 70, op := Op.move (Operand.tmp 4), type := 5, pos := "outright.go:369", after := #[], guard := none }) (v := .int .u8 x) rfl (by decide) (by kernel_rfl) (by kernel_rfl) (by kernel_rfl) (fun _ _ _ h => h) (Or.inl ⟨by rfl, ?_⟩) (Or.inr hHeld) ?_
      · intro w hSw
        clear hSw
        go_simp
      try simp only [Act.put, List.setIfInBounds_toArray, List.set_cons_zero, List.set_cons_succ]
      refine wpAnyS_one (i := 9) (o := { dst := some 71, op := Op.buildSlice 27 3 #[(0, Operand.tmp 68), (1, Operand.tmp 69), (2, Operand.tmp 70)], type := 27, pos := "outright.go:369", after := #[{ on := 6, ground := Ground.data }, { on := 7, ground := Ground.data }, { on := 8, ground := Ground.data }], guard := none }) (by kernel_rfl) rfl (fun K hK => ?_)
      go_simp
      refine hK.out _ _ (Or.inr hE) ?_
      clear hK K
      try simp only [Act.put, List.setIfInBounds_toArray, List.set_cons_zero, List.set_cons_succ]
      refine wpAnyS_one (i := 10) (o := { dst := some 72, op := Op.call { callee := Callee.builtin Builtin.append, args := #[Operand.tmp 67, Operand.tmp 71], argTypes := #[27, 27] }, type := 27, pos := "outright.go:369", after := #[{ on := 5, ground := Ground.data }, { on := 9, ground := Ground.data }], guard := none }) (by kernel_rfl) rfl (fun K hK => ?_)
      rw [if_pos (by rfl)]
      refine sw_append_run _ _ _ rfl (.slice a k c) (.slice (some ⟨W3.heap.size, 0, none⟩) 3 3) _ rfl rfl HR1.out ?_
      refine hK.out _ _ (Or.inr kF) ?_
      clear hK K
      try simp only [Act.put, List.setIfInBounds_toArray, List.set_cons_zero, List.set_cons_succ]
      refine wpAnyS_one (i := 11) (o := { dst := some 73, op := Op.buildSlice 22 1 #[(0, Operand.tmp 72)], type := 22, pos := "outright.go:369", after := #[{ on := 10, ground := Ground.data }], guard := none }) (by kernel_rfl) rfl (fun K hK => ?_)
      go_simp
      refine hK.out _ _ (Or.inr kA) ?_
      clear hK K
      try simp only [Act.put, List.setIfInBounds_toArray, List.set_cons_zero, List.set_cons_succ]
      refine wpAnyS_one (i := 12) (o := { dst := some 74, op := Op.call { callee := Callee.builtin Builtin.append, args := #[Operand.tmp 66, Operand.tmp 73], argTypes := #[22, 22] }, type := 22, pos := "outright.go:369", after := #[{ on := 4, ground := Ground.data }, { on := 11, ground := Ground.data }, { on := 10, ground := Ground.chain }], guard := none }) (by kernel_rfl) rfl (fun K hK => ?_)
      rw [if_pos (by rfl)]
      refine sw_append_run _ _ _ rfl (v3) (.slice (some ⟨F3.heap.size, 0, none⟩) 1 1) _ rfl rfl HR2.out ?_
      refine hK.out _ _ (Or.inl (by rfl)) ?_
      clear hK K
      try simp only [Act.put, List.setIfInBounds_toArray, List.set_cons_zero, List.set_cons_succ]
      refine wpAnyS_pure (i := 13) (oi := { dst := some 75, op := Op.nilCheck (Operand.tmp 62), type := 0, pos := "outright.go:369", after := #[{ on := 0, ground := Ground.data }, { on := 0, ground := Ground.phase }, { on := 1, ground := Ground.phase }, { on := 2, ground := Ground.phase }, { on := 3, ground := Ground.phase }, { on := 4, ground := Ground.phase }, { on := 5, ground := Ground.phase }, { on := 6, ground := Ground.phase }, { on := 7, ground := Ground.phase }, { on := 8, ground := Ground.phase }, { on := 9, ground := Ground.phase }, { on := 10, ground := Ground.phase }, { on := 11, ground := Ground.phase }, { on := 12, ground := Ground.phase }], guard := none }) (v := .pointer (some ⟨p, 0, none⟩)) rfl (by decide) (by kernel_rfl) (by kernel_rfl) (by kernel_rfl) (fun _ _ _ h => h) (Or.inl ⟨by rfl, ?_⟩) (Or.inl (by rfl)) ?_
      · intro w hSw
        clear hSw
        go_simp
      try simp only [Act.put, List.setIfInBounds_toArray, List.set_cons_zero, List.set_cons_succ]
      refine wpAnyS_pure (i := 14) (oi := { dst := some 76, op := Op.fieldAddr 43 (Operand.tmp 75) 3, type := 0, pos := "outright.go:369", after := #[{ on := 13, ground := Ground.data }, { on := 0, ground := Ground.phase }, { on := 1, ground := Ground.phase }, { on := 2, ground := Ground.phase }, { on := 3, ground := Ground.phase }, { on := 4, ground := Ground.phase }, { on := 5, ground := Ground.phase }, { on := 6, ground := Ground.phase }, { on := 7, ground := Ground.phase }, { on := 8, ground := Ground.phase }, { on := 9, ground := Ground.phase }, { on := 10, ground := Ground.phase }, { on := 11, ground := Ground.phase }, { on := 12, ground := Ground.phase }], guard := none }) (v := .pointer (some ⟨p, 3, none⟩)) rfl (by decide) (by kernel_rfl) (by kernel_rfl) (by kernel_rfl) (fun _ _ _ h => h) (Or.inl ⟨by rfl, ?_⟩) (Or.inl (by rfl)) ?_
      · intro w hSw
        clear hSw
        go_simp
      try simp only [Act.put, List.setIfInBounds_toArray, List.set_cons_zero, List.set_cons_succ]
      refine wpAnyS_one (i := 15) (o := { dst := none, op := Op.store 22 (Operand.tmp 76) (Operand.tmp 74), type := 0, pos := "outright.go:369", after := #[{ on := 14, ground := Ground.data }, { on := 12, ground := Ground.data }, { on := 12, ground := Ground.chain }, { on := 0, ground := Ground.phase }, { on := 1, ground := Ground.phase }, { on := 2, ground := Ground.phase }, { on := 3, ground := Ground.phase }, { on := 4, ground := Ground.phase }, { on := 5, ground := Ground.phase }, { on := 6, ground := Ground.phase }, { on := 7, ground := Ground.phase }, { on := 8, ground := Ground.phase }, { on := 9, ground := Ground.phase }, { on := 10, ground := Ground.phase }, { on := 11, ground := Ground.phase }, { on := 12, ground := Ground.phase }], guard := none }) (by kernel_rfl) rfl (fun K hK => ?_)
      go_simp
      refine hK.out _ _ (Or.inl (by rfl)) ?_
      clear hK K
      try simp only [Act.put, List.setIfInBounds_toArray, List.set_cons_zero, List.set_cons_succ]
      refine wpAnyS_done (by kernel_rfl) ?_ _
      rw [← HW.out]
      clear HR1 HR2 HW hHeld hS kF kA k2 f2 hE
      go_wp2
      go_loopw [6] (fun u wr => ∃ (j : Nat) (L : Nat → Nat), j ≤ 96 ∧ OR wr L 9 5 u j (bs (List.replicate j x)) ∧ Bq wr L p (.slice (some ⟨g0, 0, none⟩) (nm.length + 1) c0) (.slice (some ⟨gg1, 0, none⟩) (nm.length + 1) cc1) (.slice (some ⟨gg2, 0, none⟩) (nm.length + 1) cc2) (.slice (some ⟨gg3, 0, none⟩) (nm.length + 1) cc3) v4 v5 nm [.slice a k c] [.slice (some ⟨g1, 0, none⟩) (k + 1) c1] [.slice (some ⟨g2, 0, none⟩) (k + 2) c2] [.slice (some ⟨g3, 0, none⟩) (k + 3) c3] [] ∧ OR wr L (yB nm.length) 5 (.slice a k c) k (bs (List.replicate k x)) ∧ Gro lab L w wr (fun y => isN nm.length y ∨ y = 9) ∧ Xs x (yB nm.length) L wr g1 (k + 1) ∧ Xs x (yB nm.length) L wr g2 (k + 2) ∧ Xs x (yB nm.length) L wr g3 (k + 3)) (fun u _ => 96 - lenVB u)
      case atStart => exact ⟨0, L4, Nat.zero_le _, OR.nil _ _ _ _, H4.out⟩
      case round =>
        clear H4
        obtain ⟨j, L, hj, hu, hB, hO, hQ, X1, X2, X3⟩ := hrel
        by_cases hlt : j < 96
        · obtain ⟨ua, uc, rfl⟩ := hu.form
          have hlt' : (j : Int) < 96 := by omega
          have GE := Gro.boxed hQ.lz (.cells #[.int .u8 x] 5) (fun _ => False)
          obtain ⟨gu, cu, w5, r5, L5, G5, ou5, _⟩ := (hu.gro GE (fun h => h)).app GE.lz ⟨wr.heap.size, 0, none⟩ 1 1 [x] rfl (World.news_of_block (cs := #[.int .u8 x]) (t := 5) (fr := (0, 0)) (heap_alloc_new wr _)) (by omega) (by omega)
          have n9 : yB nm.length ≠ 9 := by have := yB_ge nm.length; omega
          have GE5 := GE.join G5 (Z := fun y => y = 9) (fun _ h => h.elim) (fun _ h => h)
          have hB5 := hB.far GE5 (fun y h e => by subst h; rcases e with e | e <;> omega)
          have hO5 := hO.gro GE5 n9
          have es : (List.replicate j x ++ [x]) = List.replicate (j + 1) x := (List.replicate_succ' ..).symm
          rw [es] at ou5
          obtain ⟨gu2, cu2, e1, hr5, _, _⟩ := ou5.row (by omega)
          have hnw : ∀ i u, (bs (List.replicate (j + 1) x))[i]? = some u → w5.cell? ((⟨gu, 0, none⟩ : Addr).add i) = some u := fun i u hi => by
            injection e1 with q1 q2 q3
            injection q1 with q4
            injection q4 with q5
            subst q5
            rw [addr_add, Nat.zero_add]
            exact hr5.cell hi
          obtain ⟨gv, cv, w6, r6, L6, G6, _, ov6⟩ := hO5.app GE5.lz ⟨gu, 0, none⟩ (j + 1) cu (List.replicate (j + 1) x) (by simp) hnw (by omega) (by omega)
          have St : Stay x (yB nm.length) L L6 wr w6 := (Stay.gro GE5 n9).trans (fun k' o hk' hq => ⟨G6.tag (World.block_lt_of_cell? _ _ hq) hk', hO5.stay ⟨gu, 0, none⟩ (j + 1) cu (List.replicate (j + 1) x) (by simp) hnw (by omega) (by omega) r6 (fun z hz => (List.mem_replicate.1 hz).2) hq⟩)
          have HR := Hid.mk (And.intro (ou5.gro G6 (fun e => n9 e.symm)) (And.intro (hB5.gro G6 (fun y hy e => by have := yB_ge nm.length; omega) (fun i hi e => yB_ne hi e)) (And.intro ov6 (And.intro (hQ.join (GE5.join G6 (Z := fun y => isN nm.length y ∨ y = 9) (fun _ h => .inr h) (fun _ h => .inl (.inr h))) (Z := fun y => isN nm.length y ∨ y = 9) (fun _ h => h) (fun _ h => h)) (And.intro (X1.stay St) (And.intro (X2.stay St) (X3.stay St)))))))
          have HR5 := Hid.mk r5
          have HR6 := Hid.mk r6
          obtain ⟨xa, ya⟩ := wrapJ (n := k) (m := k + (j + 1)) (c := ((j + 1 : Nat) : Int)) (by omega) (by omega)
          have hne : (((k + (j + 1) : Nat) : Int) != ((k + (j + 1) : Nat) : Int)) = false := by simp
          have hj1 : j + 1 ≤ 96 := by omega
          obtain ⟨j1, hjj⟩ : ∃ j1, j1 = j + 1 := ⟨_, rfl⟩
          obtain ⟨kj, hkj⟩ : ∃ kj, kj = k + j1 := ⟨_, rfl⟩
          have HJ := Hid.mk (And.intro hjj hkj)
          rw [← hjj] at xa ya hne HR HR5 HR6 hj1
          rw [← hkj] at xa ya hne HR6
          clear hu hB hO hQ X1 X2 X3 GE G5 ou5 GE5 hB5 hO5 hnw hr5 e1 r5 r6 G6 ov6 St es hjj hkj n9 hj
          go_wp2_with (at_builtin; first | refine swList_append_run rfl _ _ 27 rfl (.slice ua j uc) (.slice (some ⟨wr.heap.size, 0, none⟩) 1 1) _ rfl rfl HR5.out ?_ | refine swList_append_run rfl _ _ 27 rfl (.slice a k c) (.slice (some ⟨gu, 0, none⟩) j1 cu) _ rfl rfl HR6.out ?_)
          go_roundw
          case rel => exact ⟨j1, L6, hj1, HR.out⟩
          case measure => have := HJ.out.1; simp only [lenVB]; omega
        · obtain rfl : j = 96 := by omega
          obtain ⟨gm, cm, em, hrm, _, _⟩ := hu.row (by omega)
          subst em
          have hmo : ∀ i u, (bs (List.replicate 96 x))[i]? = some u → wr.drew.cell? ((⟨gm, 0, none⟩ : Addr).add i) = some u := fun i u hi => by
            rw [addr_add, Nat.zero_add]
            exact hrm.cell hi
          have H5 := Hid.mk (And.intro hB (And.intro hO (And.intro hQ (And.intro X1 (And.intro X2 X3)))))
          have HMo := Hid.mk hmo
          clear hu hB hO hQ X1 X2 X3 hrm hj hlt hmo
          go_wp2
          have hmo := HMo.out
          clear HMo
          obtain ⟨B5, O5, Q5, X1, X2, X3⟩ := H5.out
          have hS : wr.drew.cell? ⟨p, 4, none⟩ = some v4 := cell_of_block (w := wr.drew) B5.box rfl
          have GD := Gro.drew Q5.lz (fun _ => False)
          obtain ⟨g4, c4, F4, gg4, cc4, w2, r1, kF, kA, r2, k2, f2, L6, Gn, Bn, Oa, Ob, St⟩ := (B5.far GD (fun _ h => h.elim)).note4 GD.lz hN (O5.gro GD (fun h => h)) ⟨gm, 0, none⟩ 96 cm (List.replicate 96 x) List.length_replicate hmo (by decide) (by omega)
          clear hmo
          have St2 := (Stay.gro (x := x) (y := yB nm.length) GD (fun h => h)).trans (St x (fun z hz => (List.mem_replicate.1 hz).2))
          have GG2 := Q5.join (GD.join Gn (Z := fun y => isN nm.length y ∨ y = 9) (fun _ h => h.elim) (fun y h => .inl (by rcases h with h | h | h; exact .inr h; exact .inl (by omega); exact .inl (by omega)))) (Z := fun y => isN nm.length y ∨ y = 9) (fun _ h => h) (fun _ h => h)
          obtain ⟨W6, hW⟩ : ∃ W, W = w2.setCell ⟨p, 4, none⟩ (.slice (some ⟨gg4, 0, none⟩) (nm.length + 1) cc4) := ⟨_, rfl⟩
          rw [← hW] at St2 GG2 Bn Oa Ob
          have Xn : Xs x (yB nm.length) L6 W6 g4 (k + 96) := Xs.of (c := c4) (by rw [show List.replicate (k + 96) x = List.replicate k x ++ List.replicate 96 x from (List.replicate_append_replicate (n := k) (m := 96) (a := x)).symm]; exact Oa)
          have Y1 := X1.stay St2
          have Y2 := X2.stay St2
          have Y3 := X3.stay St2
          have H6 := Hid.mk (And.intro Bn (And.intro Ob (And.intro GG2 (And.intro Y1 (And.intro Y2 (And.intro Y3 Xn))))))
          have HR1 := Hid.mk r1
          have HR2 := Hid.mk r2
          have HW := Hid.mk hW
          clear B5 O5 Q5 X1 X2 X3 H5 GD Gn Bn Oa Ob St St2 GG2 Xn Y1 Y2 Y3 r1 r2 hW
          refine wp_region_sw 9 (fun w => w.cell? ⟨p, 4, none⟩ = some v4) (by kernel_rfl) hS (fun hHeld => ?_)
          refine wpAnyS_pure (i := 0) (oi := { dst := some 94, op := Op.move (Operand.tmp 0), type := 41, pos := "outright.go:377", after := #[], guard := none }) (v := .pointer (some ⟨p, 0, none⟩)) rfl (by decide) (by kernel_rfl) (by kernel_rfl) (by kernel_rfl) (fun _ _ _ h => h) (Or.inl ⟨by rfl, ?_⟩) (Or.inr hHeld) ?_
          · intro w hSw
            clear hSw
            go_simp
          try simp only [Act.put, List.setIfInBounds_toArray, List.set_cons_zero, List.set_cons_succ]
          refine wpAnyS_pure (i := 1) (oi := { dst := some 95, op := Op.move (Operand.tmp 0), type := 41, pos := "outright.go:377", after := #[], guard := none }) (v := .pointer (some ⟨p, 0, none⟩)) rfl (by decide) (by kernel_rfl) (by kernel_rfl) (by kernel_rfl) (fun _ _ _ h => h) (Or.inl ⟨by rfl, ?_⟩) (Or.inr hHeld) ?_
          · intro w hSw
            clear hSw
            go_simp
          try simp only [Act.put, List.setIfInBounds_toArray, List.set_cons_zero, List.set_cons_succ]
          refine wpAnyS_pure (i := 2) (oi := { dst := some 96, op := Op.nilCheck (Operand.tmp 95), type := 0, pos := "outright.go:377", after := #[{ on := 1, ground := Ground.data }], guard := none }) (v := .pointer (some ⟨p, 0, none⟩)) rfl (by decide) (by kernel_rfl) (by kernel_rfl) (by kernel_rfl) (fun _ _ _ h => h) (Or.inl ⟨by rfl, ?_⟩) (Or.inr hHeld) ?_
          · intro w hSw
            clear hSw
            go_simp
          try simp only [Act.put, List.setIfInBounds_toArray, List.set_cons_zero, List.set_cons_succ]
          refine wpAnyS_pure (i := 3) (oi := { dst := some 97, op := Op.fieldAddr 43 (Operand.tmp 96) 4, type := 0, pos := "outright.go:377", after := #[{ on := 2, ground := Ground.data }], guard := none }) (v := .pointer (some ⟨p, 4, none⟩)) rfl (by decide) (by kernel_rfl) (by kernel_rfl) (by kernel_rfl) (fun _ _ _ h => h) (Or.inl ⟨by rfl, ?_⟩) (Or.inr hHeld) ?_
          · intro w hSw
            clear hSw
            go_simp
          try simp only [Act.put, List.setIfInBounds_toArray, List.set_cons_zero, List.set_cons_succ]
          refine wpAnyS_load (i := 4) (oi := { dst := some 98, op := Op.load 22 (Operand.tmp 97), type := 22, pos := "outright.go:377", after := #[{ on := 3, ground := Ground.data }], guard := none }) (v := v4) rfl (by decide) (by kernel_rfl) (by kernel_rfl) (by kernel_rfl) (by kernel_rfl) (fun _ _ _ h => h) (Or.inl ⟨by rfl, ?_⟩) (by rfl) hHeld ?_
          · intro w hSw
            (try dsimp only at hSw)
            go_simp
          try simp only [Act.put, List.setIfInBounds_toArray, List.set_cons_zero, List.set_cons_succ]
          refine wpAnyS_pure (i := 5) (oi := { dst := some 99, op := Op.move (Operand.tmp 1), type := 27, pos := "outright.go:377", after := #[], guard := none }) (v := .slice a k c) rfl (by decide) (by kernel_rfl) (by kernel_rfl) (by kernel_rfl) (fun _ _ _ h => h) (Or.inl ⟨by rfl, ?_⟩) (Or.inr hHeld) ?_
          · intro w hSw
            clear hSw
            go_simp
          try simp only [Act.put, List.setIfInBounds_toArray, List.set_cons_zero, List.set_cons_succ]
          refine wpAnyS_pure (i := 6) (oi := { dst := some 100, op := Op.move (Operand.tmp 6), type := 27, pos := "outright.go:377", after := #[], guard := none }) (v := .slice (some ⟨gm, 0, none⟩) 96 cm) rfl (by decide) (by kernel_rfl) (by kernel_rfl) (by kernel_rfl) (fun _ _ _ h => h) (Or.inl ⟨by rfl, ?_⟩) (Or.inr hHeld) ?_
          · intro w hSw
            clear hSw
            go_simp
          try simp only [Act.put, List.setIfInBounds_toArray, List.set_cons_zero, List.set_cons_succ]
          refine wpAnyS_one (i := 7) (o := { dst := some 101, op := Op.call { callee := Callee.builtin Builtin.append, args := #[Operand.tmp 99, Operand.tmp 100], argTypes := #[27, 27] }, type := 27, pos := "outright.go:377", after := #[{ on := 5, ground := Ground.data }, { on := 6, ground := Ground.data }], guard := none }) (by kernel_rfl) rfl (fun K hK => ?_)
          rw [if_pos (by rfl)]
          refine sw_append_run _ _ _ rfl (.slice a k c) (.slice (some ⟨gm, 0, none⟩) 96 cm) _ rfl rfl HR1.out ?_
          refine hK.out _ _ (Or.inr kF) ?_
          clear hK K
          try simp only [Act.put, List.setIfInBounds_toArray, List.set_cons_zero, List.set_cons_succ]
          refine wpAnyS_one (i := 8) (o := { dst := some 102, op := Op.buildSlice 22 1 #[(0, Operand.tmp 101)], type := 22, pos := "outright.go:377", after := #[{ on := 7, ground := Ground.data }], guard := none }) (by kernel_rfl) rfl (fun K hK => ?_)
          go_simp
          refine hK.out _ _ (Or.inr kA) ?_
          clear hK K
          try simp only [Act.put, List.setIfInBounds_toArray, List.set_cons_zero, List.set_cons_succ]
          refine wpAnyS_one (i := 9) (o := { dst := some 103, op := Op.call { callee := Callee.builtin Builtin.append, args := #[Operand.tmp 98, Operand.tmp 102], argTypes := #[22, 22] }, type := 22, pos := "outright.go:377", after := #[{ on := 4, ground := Ground.data }, { on := 8, ground := Ground.data }, { on := 7, ground := Ground.chain }], guard := none }) (by kernel_rfl) rfl (fun K hK => ?_)
          rw [if_pos (by rfl)]
          refine sw_append_run _ _ _ rfl (v4) (.slice (some ⟨F4.heap.size, 0, none⟩) 1 1) _ rfl rfl HR2.out ?_
          refine hK.out _ _ (Or.inl (by rfl)) ?_
          clear hK K
          try simp only [Act.put, List.setIfInBounds_toArray, List.set_cons_zero, List.set_cons_succ]
          refine wpAnyS_pure (i := 10) (oi := { dst := some 104, op := Op.nilCheck (Operand.tmp 94), type := 0, pos := "outright.go:377", after := #[{ on := 0, ground := Ground.data }, { on := 0, ground := Ground.phase }, { on := 1, ground := Ground.phase }, { on := 2, ground := Ground.phase }, { on := 3, ground := Ground.phase }, { on := 4, ground := Ground.phase }, { on := 5, ground := Ground.phase }, { on := 6, ground := Ground.phase }, { on := 7, ground := Ground.phase }, { on := 8, ground := Ground.phase }, { on := 9, ground := Ground.phase }], guard := none }) (v := .pointer (some ⟨p, 0, none⟩)) rfl (by decide) (by kernel_rfl) (by kernel_rfl) (by kernel_rfl) (fun _ _ _ h => h) (Or.inl ⟨by rfl, ?_⟩) (Or.inl (by rfl)) ?_
          · intro w hSw
            clear hSw
            go_simp
          try simp only [Act.put, List.setIfInBounds_toArray, List.set_cons_zero, List.set_cons_succ]
          refine wpAnyS_pure (i := 11) (oi := { dst := some 105, op := Op.fieldAddr 43 (Operand.tmp 104) 4, type := 0, pos := "outright.go:377", after := #[{ on := 10, ground := Ground.data }, { on := 0, ground := Ground.phase }, { on := 1, ground := Ground.phase }, { on := 2, ground := Ground.phase }, { on := 3, ground := Ground.phase }, { on := 4, ground := Ground.phase }, { on := 5, ground := Ground.phase }, { on := 6, ground := Ground.phase }, { on := 7, ground := Ground.phase }, { on := 8, ground := Ground.phase }, { on := 9, ground := Ground.phase }], guard := none }) (v := .pointer (some ⟨p, 4, none⟩)) rfl (by decide) (by kernel_rfl) (by kernel_rfl) (by kernel_rfl) (fun _ _ _ h => h) (Or.inl ⟨by rfl, ?_⟩) (Or.inl (by rfl)) ?_
          · intro w hSw
            clear hSw
            go_simp
          try simp only [Act.put, List.setIfInBounds_toArray, List.set_cons_zero, List.set_cons_succ]
          refine wpAnyS_one (i := 12) (o := { dst := none, op := Op.store 22 (Operand.tmp 105) (Operand.tmp 103), type := 0, pos := "outright.go:377", after := #[{ on := 11, ground := Ground.data }, { on := 9, ground := Ground.data }, { on := 9, ground := Ground.chain }, { on := 0, ground := Ground.phase }, { on := 1, ground := Ground.phase }, { on := 2, ground := Ground.phase }, { on := 3, ground := Ground.phase }, { on := 4, ground := Ground.phase }, { on := 5, ground := Ground.phase }, { on := 6, ground := Ground.phase }, { on := 7, ground := Ground.phase }, { on := 8, ground := Ground.phase }, { on := 9, ground := Ground.phase }], guard := none }) (by kernel_rfl) rfl (fun K hK => ?_)
          go_simp
          refine hK.out _ _ (Or.inl (by rfl)) ?_
          clear hK K
          try simp only [Act.put, List.setIfInBounds_toArray, List.set_cons_zero, List.set_cons_succ]
          refine wpAnyS_done (by kernel_rfl) ?_ _
          rw [← HW.out]
          clear HR1 HR2 HW hHeld hS kF kA k2 f2
          obtain ⟨B6, O6, Q6, X1, X2, X3, X4⟩ := H6.out
          have d5 : W6.cell? ⟨p, 5, none⟩ = some v5 := cell_of_block B6.box rfl
          obtain ⟨g5, c5, w7, r7, k7, f7, L7, G7, box7, ms7⟩ := B6.marked Q6.lz (by omega) x
          have n7 : ¬ (yB nm.length = 16 ∨ yB nm.length = 17) := by have := yB_ge nm.length; omega
          have St := Stay.gro (x := x) (y := yB nm.length) G7 n7
          obtain ⟨a', c', ev, hsv, _⟩ := (O6.gro G7 n7).src
          cases ev
          have QQ := Q6.join G7 (Z := fun y => isN nm.length y ∨ y = 9) (fun _ h => h) (fun y h => .inl (.inl (by omega)))
          have nr : ∀ y, y ≠ 16 → y ≠ 17 → ¬ (y = 16 ∨ y = 17) := fun y h1 h2 h3 => by omega
          have nb : ∀ j i, i < (reps j nm).length → ¬ (yB i = 16 ∨ yB i = 17) := fun j i _ h => by have := yB_ge i; omega
          have l0 := LX.closeRep (j := 0) (n := k) (x := x) (B6.l0.gro G7 (nr _ (by decide) (by decide)) (nb _)) hsv
          have l1 := LX.closeRep (j := 1) (n := k) (x := x) (B6.l1.gro G7 (nr _ (by decide) (by decide)) (nb _)) (X1.stay St).sl
          have l2 := LX.closeRep (j := 2) (n := k) (x := x) (B6.l2.gro G7 (nr _ (by decide) (by decide)) (nb _)) (X2.stay St).sl
          have l3 := LX.closeRep (j := 3) (n := k) (x := x) (B6.l3.gro G7 (nr _ (by decide) (by decide)) (nb _)) (X3.stay St).sl
          have l4 := LX.closeRep (j := 96) (n := k) (x := x) (B6.l4.gro G7 (nr _ (by decide) (by decide)) (nb _)) (X4.stay St).sl
          have hfin : ∃ lab' x u0 u1 u2 u3 u4 u5, Gro lab lab' w (w7.setCell ⟨p, 5, none⟩ (.slice (some ⟨g5, 0, none⟩) (nm.length + 1) c5)) (fun y => isN nm.length y ∨ y = 9) ∧ Bk (w7.setCell ⟨p, 5, none⟩ (.slice (some ⟨g5, 0, none⟩) (nm.length + 1) c5)) lab' p u0 u1 u2 u3 u4 u5 (nm ++ [(k, x)]) :=
            ⟨L7, x, .slice (some ⟨g0, 0, none⟩) (nm.length + 1) c0, .slice (some ⟨gg1, 0, none⟩) (nm.length + 1) cc1, .slice (some ⟨gg2, 0, none⟩) (nm.length + 1) cc2, .slice (some ⟨gg3, 0, none⟩) (nm.length + 1) cc3, .slice (some ⟨gg4, 0, none⟩) (nm.length + 1) cc4, .slice (some ⟨g5, 0, none⟩) (nm.length + 1) c5, QQ, ⟨box7, G7.tag B6.lt B6.bp, l0, l1, l2, l3, l4, by rw [List.length_append, List.map_append]; exact ms7⟩⟩
          have HFin := Hid.mk hfin
          have HR7 := Hid.mk r7
          clear B6 O6 Q6 X1 X2 X3 X4 H6 G7 box7 ms7 St hsv QQ nr nb l0 l1 l2 l3 l4 hfin r7 n7
          go_wp2_with (at_builtin; refine swList_append_run rfl _ _ 27 rfl v5 (.slice (some ⟨W6.heap.size, 0, none⟩) 1 1) _ rfl rfl HR7.out ?_)
          exact bodyPost_end (results_none Try.results19 _ _ _) rfl ⟨rfl, HFin.out⟩

end Go.Proofs.Ythdgndbmecnimaa
end
