import Derived.Test.YtalokopnagpgcaaDoorGSw
namespace Go.Proofs.YtalokopnagpgcaaDoor
open Go.RowKit Go.Maps

def RS.ends (s : RS) : RS := { s with ws := s.ws ++ [s.wd], wd := [] }
set_option maxRecDepth 20000 in
set_option maxHeartbeats 8000000 in
theorem rends_any (p : Nat) (s : RS) (w : World) (h : Rd w p s) (hl : s.ws.length ≤ 100000000) :
    Calls Tryd.prog 17 #[.pointer (some ⟨p, 0, none⟩)] w fun e w' => e = .returned (.tuple #[]) ∧ Rd w' p s.ends ∧ Below p w w' := by
  obtain ⟨vw, vs, hv⟩ := h
  have hlt := hv.lt
  have hvd : RdV w.drew p vw vs s := ⟨hv.blk, hv.own, hv.told⟩
  obtain ⟨g, cap, w3, hap, hrow, hgrw, hgg⟩ := app_str (W := w.drew) hvd.told (.string ⟨s.wd.toArray⟩) rfl hl (by show p + 1 ≤ w.heap.size; omega)
  have hG : Grw w.drew w3 vs := Grw.of hgrw
  have hb3 : w3.heap[p]? = some (.cells #[.int .i64 s.i, vw, vs, .int .i64 s.d, .bool s.bad] 44 (0, 0)) := (hG.block p hvd.lt (fun e => hvd.low2 e rfl)).trans hvd.blk
  have ho3 : Own w3 (p + 1) vw (ub s.wd) := hvd.own.agree (fun g' e => hG.block g' (rowLt hvd.own e) (fun e2 => hvd.apart e e2))
  have hbel3 : Below p w.drew w3 := hG.below (by show p ≤ w.heap.size; omega) (fun g' e => by have := rowLow hvd.told e; omega)
  have hS0 : w.drew.cell? ⟨p, 2, none⟩ = some vs ∧ w.drew.cell? ⟨p, 1, none⟩ = some vw ∧ (convert 23 9 vw).run Tryd.prog w.drew = .ok (.string ⟨s.wd.toArray⟩) w.drew := ⟨hvd.c2, hvd.c1, conv_own hvd.own⟩
  have hbA : Below w.drew.heap.size w.drew (w.drew.alloc (.cells #[.string ⟨s.wd.toArray⟩] 9)) := (Below.refl _ _).alloc (Nat.le_refl _) _
  have HSa : Hid ((w.drew.alloc (.cells #[.string ⟨s.wd.toArray⟩] 9)).cell? ⟨p, 2, none⟩ = some vs ∧ (w.drew.alloc (.cells #[.string ⟨s.wd.toArray⟩] 9)).cell? ⟨p, 1, none⟩ = some vw ∧ (convert 23 9 vw).run Tryd.prog (w.drew.alloc (.cells #[.string ⟨s.wd.toArray⟩] 9)) = .ok (.string ⟨s.wd.toArray⟩) (w.drew.alloc (.cells #[.string ⟨s.wd.toArray⟩] 9))) := Hid.mk ⟨cell_later hbA hS0.1, cell_later hbA hS0.2.1, conv_own (hvd.own.later hbA)⟩
  have e2 : w3.cell? ⟨p, 2, none⟩ = some vs := cell_of_block hb3 (j := 2) rfl
  have e1 : w3.cell? ⟨p, 1, none⟩ = some vw := cell_of_block hb3 (j := 1) rfl
  have f2 : w3.frozen? ⟨p, 2, none⟩ = false := frozen_of_block hb3 2
  have HSb : Hid (w3.cell? ⟨p, 2, none⟩ = some vs ∧ w3.cell? ⟨p, 1, none⟩ = some vw ∧ (convert 23 9 vw).run Tryd.prog w3 = .ok (.string ⟨s.wd.toArray⟩) w3) := Hid.mk ⟨e2, e1, conv_own ho3⟩
  have HAP := Hid.mk hap
  have hb4 : (w3.setCell ⟨p, 2, none⟩ (.slice (some ⟨g, 0, none⟩) (s.ws.length + 1) cap)).heap[p]? = some (.cells #[.int .i64 s.i, vw, .slice (some ⟨g, 0, none⟩) (s.ws.length + 1) cap, .int .i64 s.d, .bool s.bad] 44 (0, 0)) := heap_set_same hb3 2 _
  have k1 : (w3.setCell ⟨p, 2, none⟩ (.slice (some ⟨g, 0, none⟩) (s.ws.length + 1) cap)).cell? ⟨p, 1, none⟩ = some vw := cell_of_block hb4 (j := 1) rfl
  have k2 : (w3.setCell ⟨p, 2, none⟩ (.slice (some ⟨g, 0, none⟩) (s.ws.length + 1) cap)).frozen? ⟨p, 1, none⟩ = false := frozen_of_block hb4 1
  have hgp : g ≠ p := by
    intro e
    have := rowLow hrow (g := g) rfl
    omega
  have hlt3 : p < w3.heap.size := (Array.getElem?_eq_some_iff.1 hb3).1
  have hfin : RdV ((w3.setCell ⟨p, 2, none⟩ (.slice (some ⟨g, 0, none⟩) (s.ws.length + 1) cap)).setCell ⟨p, 1, none⟩ (.slice none 0 0)) p (.slice none 0 0) (.slice (some ⟨g, 0, none⟩) (s.ws.length + 1) cap) s.ends := by
    refine ⟨?_, Own.nil _ _, ?_⟩
    · rw [heap_set_same hb4 1 _]
      rfl
    · have h1 : Told (p + 1) w3 (.slice (some ⟨g, 0, none⟩) (s.ws.length + 1) cap) (s.ws ++ [s.wd]) := by
        unfold Told
        rw [List.length_append, strs, List.map_append]
        exact hrow
      refine rowAgree h1 (fun g' e => ?_)
      have e9 : g' = g := by
        simp [Value.ownBlock] at e
        exact e.symm
      subst e9
      rw [Below.heap_setCell _ ⟨p, 1, none⟩ _ g' hgp, Below.heap_setCell _ ⟨p, 2, none⟩ _ g' hgp]
  have hbf : Below p w ((w3.setCell ⟨p, 2, none⟩ (.slice (some ⟨g, 0, none⟩) (s.ws.length + 1) cap)).setCell ⟨p, 1, none⟩ (.slice none 0 0)) := below_setp (below_setp ((below_drew (Below.refl p w)).trans hbel3) (Nat.le_refl _) (by omega) 2 _) (Nat.le_refl _) (by rw [show (w3.setCell ⟨p, 2, none⟩ (.slice (some ⟨g, 0, none⟩) (s.ws.length + 1) cap)).heap.size = w3.heap.size by simp [World.setCell]]; omega) 1 _
  have HFI := Hid.mk (And.intro hfin hbf)
  clear hv hvd hap hrow hgrw hgg hG hb3 ho3 hbel3 hbA hb4 hgp hlt3 hfin hbf
  go_enter Tryd.func17, Tryd.ntmps17
  go_wp2
  refine wp_region_sw 14 (fun w' => w'.cell? ⟨p, 2, none⟩ = some vs ∧ w'.cell? ⟨p, 1, none⟩ = some vw ∧ (convert 23 9 vw).run Tryd.prog w' = .ok (.string ⟨s.wd.toArray⟩) w') (by kernel_rfl) hS0 (fun hHeld => ?_)
  refine wpAnyS_pure (i := 0) (oi := { dst := some 2, op := Op.move (Operand.tmp 0), type := 42, pos := "words.go:50", after := #[], guard := none }) (v := .pointer (some ⟨p, 0, none⟩)) rfl (by decide) (by kernel_rfl) (by kernel_rfl) (by kernel_rfl) (fun _ _ _ h => h) (Or.inl ⟨by rfl, ?_⟩) (Or.inr hHeld) ?_
  · intro w hSw
    clear hSw
    go_simp
  try simp only [Act.put, List.setIfInBounds_toArray, List.set_cons_zero, List.set_cons_succ]
  refine wpAnyS_pure (i := 1) (oi := { dst := some 3, op := Op.move (Operand.tmp 0), type := 42, pos := "words.go:50", after := #[], guard := none }) (v := .pointer (some ⟨p, 0, none⟩)) rfl (by decide) (by kernel_rfl) (by kernel_rfl) (by kernel_rfl) (fun _ _ _ h => h) (Or.inl ⟨by rfl, ?_⟩) (Or.inr hHeld) ?_
  · intro w hSw
    clear hSw
    go_simp
  try simp only [Act.put, List.setIfInBounds_toArray, List.set_cons_zero, List.set_cons_succ]
  refine wpAnyS_pure (i := 2) (oi := { dst := some 4, op := Op.nilCheck (Operand.tmp 3), type := 0, pos := "words.go:50", after := #[{ on := 1, ground := Ground.data }], guard := none }) (v := .pointer (some ⟨p, 0, none⟩)) rfl (by decide) (by kernel_rfl) (by kernel_rfl) (by kernel_rfl) (fun _ _ _ h => h) (Or.inl ⟨by rfl, ?_⟩) (Or.inr hHeld) ?_
  · intro w hSw
    clear hSw
    go_simp
  try simp only [Act.put, List.setIfInBounds_toArray, List.set_cons_zero, List.set_cons_succ]
  refine wpAnyS_pure (i := 3) (oi := { dst := some 5, op := Op.fieldAddr 44 (Operand.tmp 4) 2, type := 0, pos := "words.go:50", after := #[{ on := 2, ground := Ground.data }], guard := none }) (v := .pointer (some ⟨p, 2, none⟩)) rfl (by decide) (by kernel_rfl) (by kernel_rfl) (by kernel_rfl) (fun _ _ _ h => h) (Or.inl ⟨by rfl, ?_⟩) (Or.inr hHeld) ?_
  · intro w hSw
    clear hSw
    go_simp
  try simp only [Act.put, List.setIfInBounds_toArray, List.set_cons_zero, List.set_cons_succ]
  refine wpAnyS_load (i := 4) (oi := { dst := some 6, op := Op.load 25 (Operand.tmp 5), type := 25, pos := "words.go:50", after := #[{ on := 3, ground := Ground.data }], guard := none }) (v := vs) rfl (by decide) (by kernel_rfl) (by kernel_rfl) (by kernel_rfl) (by kernel_rfl) (fun _ _ _ h => h) (Or.inl ⟨by rfl, ?_⟩) (by rfl) hHeld ?_
  · intro w hSw
    (try dsimp only at hSw)
    go_simp
  try simp only [Act.put, List.setIfInBounds_toArray, List.set_cons_zero, List.set_cons_succ]
  refine wpAnyS_pure (i := 5) (oi := { dst := some 7, op := Op.move (Operand.tmp 0), type := 42, pos := "words.go:50", after := #[], guard := none }) (v := .pointer (some ⟨p, 0, none⟩)) rfl (by decide) (by kernel_rfl) (by kernel_rfl) (by kernel_rfl) (fun _ _ _ h => h) (Or.inl ⟨by rfl, ?_⟩) (Or.inr hHeld) ?_
  · intro w hSw
    clear hSw
    go_simp
  try simp only [Act.put, List.setIfInBounds_toArray, List.set_cons_zero, List.set_cons_succ]
  refine wpAnyS_pure (i := 6) (oi := { dst := some 8, op := Op.nilCheck (Operand.tmp 7), type := 0, pos := "words.go:50", after := #[{ on := 5, ground := Ground.data }], guard := none }) (v := .pointer (some ⟨p, 0, none⟩)) rfl (by decide) (by kernel_rfl) (by kernel_rfl) (by kernel_rfl) (fun _ _ _ h => h) (Or.inl ⟨by rfl, ?_⟩) (Or.inr hHeld) ?_
  · intro w hSw
    clear hSw
    go_simp
  try simp only [Act.put, List.setIfInBounds_toArray, List.set_cons_zero, List.set_cons_succ]
  refine wpAnyS_pure (i := 7) (oi := { dst := some 9, op := Op.fieldAddr 44 (Operand.tmp 8) 1, type := 0, pos := "words.go:50", after := #[{ on := 6, ground := Ground.data }], guard := none }) (v := .pointer (some ⟨p, 1, none⟩)) rfl (by decide) (by kernel_rfl) (by kernel_rfl) (by kernel_rfl) (fun _ _ _ h => h) (Or.inl ⟨by rfl, ?_⟩) (Or.inr hHeld) ?_
  · intro w hSw
    clear hSw
    go_simp
  try simp only [Act.put, List.setIfInBounds_toArray, List.set_cons_zero, List.set_cons_succ]
  refine wpAnyS_load (i := 8) (oi := { dst := some 10, op := Op.load 23 (Operand.tmp 9), type := 23, pos := "words.go:50", after := #[{ on := 7, ground := Ground.data }], guard := none }) (v := vw) rfl (by decide) (by kernel_rfl) (by kernel_rfl) (by kernel_rfl) (by kernel_rfl) (fun _ _ _ h => h) (Or.inl ⟨by rfl, ?_⟩) (by rfl) hHeld ?_
  · intro w hSw
    (try dsimp only at hSw)
    go_simp
  try simp only [Act.put, List.setIfInBounds_toArray, List.set_cons_zero, List.set_cons_succ]
  refine wpAnyS_load (i := 9) (oi := { dst := some 11, op := Op.convert 23 9 (Operand.tmp 10), type := 9, pos := "words.go:50", after := #[{ on := 8, ground := Ground.data }], guard := none }) (v := .string ⟨s.wd.toArray⟩) rfl (by decide) (by kernel_rfl) (by kernel_rfl) (by kernel_rfl) (by kernel_rfl) (fun _ _ _ h => h) (Or.inl ⟨by rfl, ?_⟩) (by rfl) hHeld ?_
  · intro w hSw
    (try dsimp only at hSw)
    go_simp
  try simp only [Act.put, List.setIfInBounds_toArray, List.set_cons_zero, List.set_cons_succ]
  refine wpAnyS_one (i := 10) (o := { dst := some 12, op := Op.buildSlice 25 1 #[(0, Operand.tmp 11)], type := 25, pos := "words.go:50", after := #[{ on := 9, ground := Ground.data }], guard := none }) (by kernel_rfl) rfl (fun K hK => ?_)
  go_simp
  refine hK.out _ _ (Or.inr HSa.out) ?_
  clear hK K
  try simp only [Act.put, List.setIfInBounds_toArray, List.set_cons_zero, List.set_cons_succ]
  refine wpAnyS_one (i := 11) (o := { dst := some 13, op := Op.call { callee := Callee.builtin Builtin.append, args := #[Operand.tmp 6, Operand.tmp 12], argTypes := #[25, 25] }, type := 25, pos := "words.go:50", after := #[{ on := 4, ground := Ground.data }, { on := 10, ground := Ground.data }], guard := none }) (by kernel_rfl) rfl (fun K hK => ?_)
  rw [if_pos (by rfl)]
  refine sw_append_run _ _ _ rfl (vs) (.slice (some ⟨w.heap.size, 0, none⟩) 1 1) _ rfl rfl HAP.out ?_
  refine hK.out _ _ (Or.inr HSb.out) ?_
  clear hK K
  try simp only [Act.put, List.setIfInBounds_toArray, List.set_cons_zero, List.set_cons_succ]
  refine wpAnyS_pure (i := 12) (oi := { dst := some 14, op := Op.nilCheck (Operand.tmp 2), type := 0, pos := "words.go:50", after := #[{ on := 0, ground := Ground.data }, { on := 0, ground := Ground.phase }, { on := 1, ground := Ground.phase }, { on := 2, ground := Ground.phase }, { on := 3, ground := Ground.phase }, { on := 4, ground := Ground.phase }, { on := 5, ground := Ground.phase }, { on := 6, ground := Ground.phase }, { on := 7, ground := Ground.phase }, { on := 8, ground := Ground.phase }, { on := 9, ground := Ground.phase }, { on := 10, ground := Ground.phase }, { on := 11, ground := Ground.phase }], guard := none }) (v := .pointer (some ⟨p, 0, none⟩)) rfl (by decide) (by kernel_rfl) (by kernel_rfl) (by kernel_rfl) (fun _ _ _ h => h) (Or.inl ⟨by rfl, ?_⟩) (Or.inr HSb.out) ?_
  · intro w hSw
    clear hSw
    go_simp
  try simp only [Act.put, List.setIfInBounds_toArray, List.set_cons_zero, List.set_cons_succ]
  refine wpAnyS_pure (i := 13) (oi := { dst := some 15, op := Op.fieldAddr 44 (Operand.tmp 14) 2, type := 0, pos := "words.go:50", after := #[{ on := 12, ground := Ground.data }, { on := 0, ground := Ground.phase }, { on := 1, ground := Ground.phase }, { on := 2, ground := Ground.phase }, { on := 3, ground := Ground.phase }, { on := 4, ground := Ground.phase }, { on := 5, ground := Ground.phase }, { on := 6, ground := Ground.phase }, { on := 7, ground := Ground.phase }, { on := 8, ground := Ground.phase }, { on := 9, ground := Ground.phase }, { on := 10, ground := Ground.phase }, { on := 11, ground := Ground.phase }], guard := none }) (v := .pointer (some ⟨p, 2, none⟩)) rfl (by decide) (by kernel_rfl) (by kernel_rfl) (by kernel_rfl) (fun _ _ _ h => h) (Or.inl ⟨by rfl, ?_⟩) (Or.inr HSb.out) ?_
  · intro w hSw
    clear hSw
    go_simp
  try simp only [Act.put, List.setIfInBounds_toArray, List.set_cons_zero, List.set_cons_succ]
  refine wpAnyS_one (i := 14) (o := { dst := none, op := Op.store 25 (Operand.tmp 15) (Operand.tmp 13), type := 0, pos := "words.go:50", after := #[{ on := 13, ground := Ground.data }, { on := 11, ground := Ground.data }, { on := 11, ground := Ground.chain }, { on := 0, ground := Ground.phase }, { on := 1, ground := Ground.phase }, { on := 2, ground := Ground.phase }, { on := 3, ground := Ground.phase }, { on := 4, ground := Ground.phase }, { on := 5, ground := Ground.phase }, { on := 6, ground := Ground.phase }, { on := 7, ground := Ground.phase }, { on := 8, ground := Ground.phase }, { on := 9, ground := Ground.phase }, { on := 10, ground := Ground.phase }, { on := 11, ground := Ground.phase }], guard := none }) (by kernel_rfl) rfl (fun K hK => ?_)
  go_simp
  refine hK.out _ _ (Or.inl (by rfl)) ?_
  clear hK K
  try simp only [Act.put, List.setIfInBounds_toArray, List.set_cons_zero, List.set_cons_succ]
  refine wpAnyS_done (by kernel_rfl) ?_ _
  go_wp2
  go_end0
  exact ⟨rfl, ⟨_, _, HFI.out.1⟩, HFI.out.2⟩
end Go.Proofs.YtalokopnagpgcaaDoor
