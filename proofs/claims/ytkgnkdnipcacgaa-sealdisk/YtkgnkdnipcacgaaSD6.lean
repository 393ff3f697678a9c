import Derived.Test.YtkgnkdnipcacgaaSD5
namespace Go.Proofs.Ytkgnkdnipcacgaa
open Go.RowKit

section
variable {w0 w w' w1 w2 : World} {F F' : Nat → Prop} {kb p n m : Nat} {S S' : DS} {su ma su' ma' : NwT} {op op' : Bool} {sp mp sp' mp' : Option Addr} {sc mc sc' mc' : Nat}

theorem setAll {g : Nat} {T : TypeId} {c0 c1 c2 c3 c4 c5 c6 c7 c8 c9 x y z u v : Value} (h : w.heap[g]? = some (.cells #[c0, c1, c2, c3, c4, c5, c6, c7, c8, c9] T (0, 0))) :
    (((((((((w.setCell ⟨g, 1, none⟩ x).setCell ⟨g, 2, none⟩ y).setCell ⟨g, 3, none⟩ z).setCell ⟨g, 4, none⟩ u).setCell ⟨g, 5, none⟩ x).setCell ⟨g, 6, none⟩ y).setCell ⟨g, 7, none⟩ z).setCell ⟨g, 8, none⟩ u).setCell ⟨g, 9, none⟩ v).heap[g]? = some (.cells #[c0, x, y, z, u, x, y, z, u, v] T (0, 0)) := by
  have h4 : ((((w.setCell ⟨g, 1, none⟩ x).setCell ⟨g, 2, none⟩ y).setCell ⟨g, 3, none⟩ z).setCell ⟨g, 4, none⟩ u).heap[g]? = some (.cells #[c0, x, y, z, u, c5, c6, c7, c8, c9] T (0, 0)) := by
    rw [heap_setCell_same _ _ _ _ _ _ (heap_setCell_same _ _ _ _ _ _ (heap_setCell_same _ _ _ _ _ _ (heap_setCell_same _ _ _ _ _ _ h)))]
    rfl
  generalize ((((w.setCell ⟨g, 1, none⟩ x).setCell ⟨g, 2, none⟩ y).setCell ⟨g, 3, none⟩ z).setCell ⟨g, 4, none⟩ u) = v4 at *
  exact setMaybe h4
theorem keepsAll (w : World) (g : Nat) (x y z u v : Value) : Keeps (fun j => j = g) w (((((((((w.setCell ⟨g, 1, none⟩ x).setCell ⟨g, 2, none⟩ y).setCell ⟨g, 3, none⟩ z).setCell ⟨g, 4, none⟩ u).setCell ⟨g, 5, none⟩ x).setCell ⟨g, 6, none⟩ y).setCell ⟨g, 7, none⟩ z).setCell ⟨g, 8, none⟩ u).setCell ⟨g, 9, none⟩ v) :=
  keepsC (keepsC (keepsC (keepsC (keepsC (keepsC (keepsC (keepsC (keepsC (Keeps.refl _ _) _ _) _ _) _ _) _ _) _ _) _ _) _ _) _ _) _ _

set_option maxRecDepth 20000 in
set_option maxHeartbeats 4000000 in
theorem beat_three1 (h : BenchAt w0 w F kb p S su ma op n sp mp sc mc) (kn : Knows S su ma op) (hn : n + 6 ≤ 4000000000000) (pl0 : List P3) (hnw : su = snewest ((S.crash 5 pl0).now 1) ((S.crash 5 pl0).now 3)) (hk0 : Knows (S.crash 5 pl0) su su false) (x : Int) (a : Option Addr) (m c : Nat) (pa : Option Addr) (pn pc : Nat) (l : List Int) (ho : OpOk w w0.heap.size x a m pa pn l pl0) (_hl : Bytes l) :
    Calls Try.prog 44 #[.pointer (some ⟨kb, 0, none⟩), opV 3 x a m c pa pn pc] w (BeatOut w0 w F kb p (n + 1)) := by
  have hbx := below_box w (.cells (opC 3 x a m c pa pn pc) 81)
  have hq : (w.alloc (.cells (opC 3 x a m c pa pn pc) 81)).heap[w.heap.size]? = some (.cells (opC 3 x a m c pa pn pc) 81 (0, 0)) := heap_alloc_new _ _
  have hzw : w.heap.size < (w.alloc (.cells (opC 3 x a m c pa pn pc) 81)).heap.size := (Array.getElem?_eq_some_iff.1 hq).1
  have k0 := cell_of_block hq (j := 0) rfl
  have k1 := cell_of_block hq (j := 1) rfl
  have k2 := cell_of_block hq (j := 2) rfl
  have k3 := cell_of_block hq (j := 3) rfl
  have h5 := h.later hbx
  have hnF : ¬ F w.heap.size := fun hf => by have := h.dk.lt _ hf; omega
  have hFl := h.dk.lt
  have hkl := h.kbl
  have hkb : w.heap.size ≠ kb := by omega
  have hlo := h.lo
  have hkb0 := h.kb0
  have hw0 := h.bel.size
  have hox := ho.x
  have hom := ho.n
  have hsl := ho.s
  have hpl := ho.p
  have hsB := ho.sB
  have hpB := ho.pB
  have hpn := ho.pn
  have HB := Hid.mk h
  have H5 := Hid.mk hbx
  have HQ := Hid.mk hq
  have kp := cell_of_block h5.bl (j := 0) rfl
  have hpu := h.pu
  have hcr := fun wx (hb : Below w.heap.size w wx) => crash_gen sorts sortn ((HB.out.later hb).dk) (by omega) pa pn pc pl0 (hpl.far (B := w0.heap.size) (hb.mono hw0) hpB) (by omega) (fun y e hx hf => by have := hlo _ hf; have := hpB y e hx; omega)
  have HCr := Hid.mk hcr
  clear h hbx hq h5 ho hsl hpl hcr
  go_enter Try.func44, Try.ntmps44
  go_wp2_with fail
  generalize w.alloc (.cells (opC 3 x a m c pa pn pc) 81) = w5 at *
  have hdr := below_drew (Below.refl w5.heap.size w5)
  have h05 : Below w.heap.size w w5.drew := H5.out.trans (hdr.mono H5.out.size)
  have hup := HCr.out _ h05
  have hA5 := HB.out.later h05
  have HDr := Hid.mk hdr
  clear hdr
  go_region_held3 (fun w' => w'.cell? ⟨kb, 0, none⟩ = some (.pointer (some ⟨p, 0, none⟩)) ∧ w'.cell? ⟨w.heap.size, 3, none⟩ = some (.slice pa pn pc))
    (first | exact ⟨kp, k3⟩ | exact ⟨kp1, k31⟩)
    ((go_at_call 15; refine hup.mono ?_; rintro e w6 ⟨rfl, hd6, hk6⟩; have hn6 := (hk6.block w.heap.size hzw hnF).trans ((HDr.out.block w.heap.size hzw).trans HQ.out); have k31 := cell_of_block hn6 (j := 3) rfl; have hb6 := (hk6.block kb hA5.kbl hA5.nf).trans hA5.bl; have kp1 := cell_of_block hb6 (j := 0) rfl))
  have hA6 := hA5.same (m := n) hd6 hk6 ⟨hk0.fu, hk0.byt⟩ (Nat.zero_le _)
  have hlk := look_any hA6 hnw (by omega)
  have HK6 := Hid.mk ((Keeps.of_below F h05).trans hk6 (fun j h => .inl h))
  have hz6 : w.heap.size ≤ w6.heap.size := HK6.out.size
  obtain ⟨A, B, D, E⟩ := su
  obtain ⟨A', B', D', E'⟩ := ma
  clear hup hA5 hd6 hk6 hn6 hb6 k31 kp1 hA6 kp HCr HB h05
  go_wp2_with fail
  refine hlk.mono ?_
  rintro e w7 ⟨pp, pc7, gl, cl, gr, cr, S7, rfl, hpa, hpx, hgl, hgr, hsi, hB7, hk7⟩
  have hk0' := hk0.same hsi.1 hsi.2.1 hsi.2.2
  have hDs := hk0.small.1
  have hK7 := HK6.out.trans hk7 (fun j h => .inl h)
  have hz7 : w6.heap.size ≤ w7.heap.size := hk7.size
  have hbx := below_box w7 (.cells #[.int .i64 (A : Int), .int .i64 (B : Int), .slice pp D.length pc7, .int .i64 (E : Int)] 75)
  have hq : (w7.alloc (.cells #[.int .i64 (A : Int), .int .i64 (B : Int), .slice pp D.length pc7, .int .i64 (E : Int)] 75)).heap[w7.heap.size]? = some (.cells #[.int .i64 (A : Int), .int .i64 (B : Int), .slice pp D.length pc7, .int .i64 (E : Int)] 75 (0, 0)) := heap_alloc_new _ _
  have hB8 := hB7.later hbx
  have HK8 := Hid.mk (hK7.trans (Keeps.of_below (fun _ => False) hbx) (fun j h => h.elim))
  have HPa := Hid.mk (hpa.later hbx)
  have HPx := Hid.mk hpx
  have HKn := Hid.mk hk0'
  have HB8 := Hid.mk hB8
  have HQ8 := Hid.mk hq
  have hz8 : w7.heap.size < (w7.alloc (.cells #[.int .i64 (A : Int), .int .i64 (B : Int), .slice pp D.length pc7, .int .i64 (E : Int)] 75)).heap.size := (Array.getElem?_eq_some_iff.1 hq).1
  clear hlk hpa hpx hgl hgr hsi hB7 hk7 hk0' hK7 hbx hq hB8 HK6 hk0 hnw
  dsimp only at *
  go_wp2_with fail
  generalize w7.alloc (.cells #[.int .i64 (A : Int), .int .i64 (B : Int), .slice pp D.length pc7, .int .i64 (E : Int)] 75) = w8 at *
  have q0 := cell_of_block HQ8.out (j := 0) rfl
  have q1 := cell_of_block HQ8.out (j := 1) rfl
  have q2 := cell_of_block HQ8.out (j := 2) rfl
  have q3 := cell_of_block HQ8.out (j := 3) rfl
  have c1 := cell_of_block HB8.out.bl (j := 1) rfl
  have c2 := cell_of_block HB8.out.bl (j := 2) rfl
  have c3 := cell_of_block HB8.out.bl (j := 3) rfl
  have c4 := cell_of_block HB8.out.bl (j := 4) rfl
  have c5 := cell_of_block HB8.out.bl (j := 5) rfl
  have c6 := cell_of_block HB8.out.bl (j := 6) rfl
  have c7 := cell_of_block HB8.out.bl (j := 7) rfl
  have c8 := cell_of_block HB8.out.bl (j := 8) rfl
  have hdr := below_drew (Below.refl w8.heap.size w8)
  have HDr8 := Hid.mk hdr
  clear hdr
  have hal := alike_any A B E A B E D D pp pc7 sp sc w8.drew (HPa.out.later HDr8.out) (HB8.out.ss.later HDr8.out) (by omega)
  rw [decide_eq_true rfl] at hal
  have HC : Hid (∀ wx, Below w8.heap.size w8 wx → (wx.cell? ⟨w7.heap.size, 0, none⟩ = some (.int .i64 (A : Int)) ∧ wx.cell? ⟨w7.heap.size, 1, none⟩ = some (.int .i64 (B : Int)) ∧ wx.cell? ⟨w7.heap.size, 2, none⟩ = some (.slice pp D.length pc7) ∧ wx.cell? ⟨w7.heap.size, 3, none⟩ = some (.int .i64 (E : Int))) ∧ (wx.cell? ⟨kb, 1, none⟩ = some (.int .i64 (A : Int)) ∧ wx.cell? ⟨kb, 2, none⟩ = some (.int .i64 (B : Int)) ∧ wx.cell? ⟨kb, 3, none⟩ = some (.slice sp D.length sc) ∧ wx.cell? ⟨kb, 4, none⟩ = some (.int .i64 (E : Int))) ∧ (wx.cell? ⟨kb, 5, none⟩ = some (.int .i64 (A' : Int)) ∧ wx.cell? ⟨kb, 6, none⟩ = some (.int .i64 (B' : Int)) ∧ wx.cell? ⟨kb, 7, none⟩ = some (.slice mp D'.length mc) ∧ wx.cell? ⟨kb, 8, none⟩ = some (.int .i64 (E' : Int)))) := Hid.mk (fun wx hb => by
    have e1 := (hb.block w7.heap.size hz8).trans HQ8.out
    have e2 := (HB8.out.later hb).bl
    exact ⟨⟨cell_of_block e1 (j := 0) rfl, cell_of_block e1 (j := 1) rfl, cell_of_block e1 (j := 2) rfl, cell_of_block e1 (j := 3) rfl⟩, ⟨cell_of_block e2 (j := 1) rfl, cell_of_block e2 (j := 2) rfl, cell_of_block e2 (j := 3) rfl, cell_of_block e2 (j := 4) rfl⟩, cell_of_block e2 (j := 5) rfl, cell_of_block e2 (j := 6) rfl, cell_of_block e2 (j := 7) rfl, cell_of_block e2 (j := 8) rfl⟩)
  clear c1 c2 c3 c4 c5 c6 c7 c8 q0 q1 q2 q3
  refine wp_region_held_drew (S := (fun w' => (w'.cell? ⟨w7.heap.size, 0, none⟩ = some (.int .i64 (A : Int)) ∧ w'.cell? ⟨w7.heap.size, 1, none⟩ = some (.int .i64 (B : Int)) ∧ w'.cell? ⟨w7.heap.size, 2, none⟩ = some (.slice pp D.length pc7) ∧ w'.cell? ⟨w7.heap.size, 3, none⟩ = some (.int .i64 (E : Int))) ∧ (w'.cell? ⟨kb, 1, none⟩ = some (.int .i64 (A : Int)) ∧ w'.cell? ⟨kb, 2, none⟩ = some (.int .i64 (B : Int)) ∧ w'.cell? ⟨kb, 3, none⟩ = some (.slice sp D.length sc) ∧ w'.cell? ⟨kb, 4, none⟩ = some (.int .i64 (E : Int))) ∧ (w'.cell? ⟨kb, 5, none⟩ = some (.int .i64 (A' : Int)) ∧ w'.cell? ⟨kb, 6, none⟩ = some (.int .i64 (B' : Int)) ∧ w'.cell? ⟨kb, 7, none⟩ = some (.slice mp D'.length mc) ∧ w'.cell? ⟨kb, 8, none⟩ = some (.int .i64 (E' : Int))))) (by kernel_rfl) (HC.out _ HDr8.out) (fun hHeld => ?_)
  refine wpAnyH_take (i := 0) (oi := { dst := some 40, op := Op.load 75 (Operand.tmp 5), type := 75, pos := "outright.go:274", after := #[], guard := none }) (v := .agg #[.int .i64 (A : Int), .int .i64 (B : Int), .slice pp D.length pc7, .int .i64 (E : Int)]) rfl (by kernel_rfl) (by kernel_rfl) (by kernel_rfl) (fun _ _ _ h => h) (Or.inl ⟨by rfl, ?_⟩) (by assumption) ?_
  · intro w hSw
    (try dsimp only at hSw)
    go_simp
  try simp only [Act.put, List.setIfInBounds_toArray, List.set_cons_zero, List.set_cons_succ]
  refine wpAnyH_take (i := 1) (oi := { dst := some 41, op := Op.move (Operand.tmp 0), type := 76, pos := "outright.go:274", after := #[], guard := none }) (v := .pointer (some ⟨kb, 0, none⟩)) rfl (by kernel_rfl) (by kernel_rfl) (by kernel_rfl) (fun _ _ _ h => h) (Or.inl ⟨by rfl, ?_⟩) (by assumption) ?_
  · intro w hSw
    (try dsimp only at hSw)
    go_simp
  try simp only [Act.put, List.setIfInBounds_toArray, List.set_cons_zero, List.set_cons_succ]
  refine wpAnyH_take (i := 2) (oi := { dst := some 42, op := Op.nilCheck (Operand.tmp 41), type := 0, pos := "outright.go:274", after := #[{ on := 1, ground := Ground.data }], guard := none }) (v := .pointer (some ⟨kb, 0, none⟩)) rfl (by kernel_rfl) (by kernel_rfl) (by kernel_rfl) (fun _ _ _ h => h) (Or.inl ⟨by rfl, ?_⟩) (by assumption) ?_
  · intro w hSw
    (try dsimp only at hSw)
    go_simp
  try simp only [Act.put, List.setIfInBounds_toArray, List.set_cons_zero, List.set_cons_succ]
  refine wpAnyH_take (i := 3) (oi := { dst := some 43, op := Op.fieldAddr 78 (Operand.tmp 42) 1, type := 0, pos := "outright.go:274", after := #[{ on := 2, ground := Ground.data }], guard := none }) (v := .pointer (some ⟨kb, 1, none⟩)) rfl (by kernel_rfl) (by kernel_rfl) (by kernel_rfl) (fun _ _ _ h => h) (Or.inl ⟨by rfl, ?_⟩) (by assumption) ?_
  · intro w hSw
    (try dsimp only at hSw)
    go_simp
  try simp only [Act.put, List.setIfInBounds_toArray, List.set_cons_zero, List.set_cons_succ]
  refine wpAnyH_take (i := 4) (oi := { dst := some 44, op := Op.load 75 (Operand.tmp 43), type := 75, pos := "outright.go:274", after := #[{ on := 3, ground := Ground.data }], guard := none }) (v := .agg #[.int .i64 (A : Int), .int .i64 (B : Int), .slice sp D.length sc, .int .i64 (E : Int)]) rfl (by kernel_rfl) (by kernel_rfl) (by kernel_rfl) (fun _ _ _ h => h) (Or.inl ⟨by rfl, ?_⟩) (by assumption) ?_
  · intro w hSw
    (try dsimp only at hSw)
    go_simp
  try simp only [Act.put, List.setIfInBounds_toArray, List.set_cons_zero, List.set_cons_succ]
  refine wpAnyH_ready (rs := [5]) (by kernel_rfl) (by simp) ?_
  refine AllReadyH.cons (o := { dst := some 45, op := Op.call { callee := Callee.value (Operand.func 46), args := #[Operand.tmp 40, Operand.tmp 44], argTypes := #[75, 75] }, type := 4, pos := "outright.go:274", after := #[{ on := 0, ground := Ground.data }, { on := 4, ground := Ground.data }], guard := none }) rfl (fun K hK => ?_) AllReadyH.nil
  go_simp
  refine hal.mono ?_
  rintro e w9 ⟨rfl, hb9⟩
  have hb89 : Below w8.heap.size w8 w9 := HDr8.out.trans (hb9.mono (Nat.le_refl _))
  refine hK.out _ _ ?_ (fun hHeld => ?_)
  · exact HC.out _ hb89
  clear hK K
  try simp only [Act.put, List.setIfInBounds_toArray, List.set_cons_zero, List.set_cons_succ]
  refine wpAnyH_take (i := 6) (oi := { dst := some 46, op := Op.unOp UnOp.not 4 (Operand.tmp 45), type := 4, pos := "outright.go:274", after := #[{ on := 5, ground := Ground.data }], guard := none }) (v := .bool false) rfl (by kernel_rfl) (by kernel_rfl) (by kernel_rfl) (fun _ _ _ h => h) (Or.inl ⟨by rfl, ?_⟩) (by assumption) ?_
  · intro w hSw
    (try dsimp only at hSw)
    go_simp
  try simp only [Act.put, List.setIfInBounds_toArray, List.set_cons_zero, List.set_cons_succ]
  refine wpAnyH_take (i := 7) (oi := { dst := some 47, op := Op.move (Operand.tmp 46), type := 4, pos := "outright.go:274", after := #[{ on := 6, ground := Ground.data }, { on := 5, ground := Ground.chain }], guard := none }) (v := .bool false) rfl (by kernel_rfl) (by kernel_rfl) (by kernel_rfl) (fun _ _ _ h => h) (Or.inl ⟨by rfl, ?_⟩) (by assumption) ?_
  · intro w hSw
    (try dsimp only at hSw)
    go_simp
  try simp only [Act.put, List.setIfInBounds_toArray, List.set_cons_zero, List.set_cons_succ]
  refine wpAnyH_take (i := 8) (oi := { dst := some 48, op := Op.load 75 (Operand.tmp 5), type := 75, pos := "outright.go:274", after := #[{ on := 7, ground := Ground.guard }], guard := some (7, true) }) (v := undef) rfl (by kernel_rfl) (by kernel_rfl) (by kernel_rfl) (fun _ _ _ h => h) (Or.inr ⟨by rfl, rfl⟩) (by assumption) ?_
  try simp only [Act.put, List.setIfInBounds_toArray, List.set_cons_zero, List.set_cons_succ]
  refine wpAnyH_take (i := 9) (oi := { dst := some 49, op := Op.move (Operand.tmp 0), type := 76, pos := "outright.go:274", after := #[{ on := 7, ground := Ground.guard }], guard := some (7, true) }) (v := undef) rfl (by kernel_rfl) (by kernel_rfl) (by kernel_rfl) (fun _ _ _ h => h) (Or.inr ⟨by rfl, rfl⟩) (by assumption) ?_
  try simp only [Act.put, List.setIfInBounds_toArray, List.set_cons_zero, List.set_cons_succ]
  refine wpAnyH_take (i := 10) (oi := { dst := some 50, op := Op.nilCheck (Operand.tmp 49), type := 0, pos := "outright.go:274", after := #[{ on := 9, ground := Ground.data }, { on := 7, ground := Ground.guard }], guard := some (7, true) }) (v := undef) rfl (by kernel_rfl) (by kernel_rfl) (by kernel_rfl) (fun _ _ _ h => h) (Or.inr ⟨by rfl, rfl⟩) (by assumption) ?_
  try simp only [Act.put, List.setIfInBounds_toArray, List.set_cons_zero, List.set_cons_succ]
  refine wpAnyH_take (i := 11) (oi := { dst := some 51, op := Op.fieldAddr 78 (Operand.tmp 50) 2, type := 0, pos := "outright.go:274", after := #[{ on := 10, ground := Ground.data }, { on := 7, ground := Ground.guard }], guard := some (7, true) }) (v := undef) rfl (by kernel_rfl) (by kernel_rfl) (by kernel_rfl) (fun _ _ _ h => h) (Or.inr ⟨by rfl, rfl⟩) (by assumption) ?_
  try simp only [Act.put, List.setIfInBounds_toArray, List.set_cons_zero, List.set_cons_succ]
  refine wpAnyH_take (i := 12) (oi := { dst := some 52, op := Op.load 75 (Operand.tmp 51), type := 75, pos := "outright.go:274", after := #[{ on := 11, ground := Ground.data }, { on := 7, ground := Ground.guard }], guard := some (7, true) }) (v := undef) rfl (by kernel_rfl) (by kernel_rfl) (by kernel_rfl) (fun _ _ _ h => h) (Or.inr ⟨by rfl, rfl⟩) (by assumption) ?_
  try simp only [Act.put, List.setIfInBounds_toArray, List.set_cons_zero, List.set_cons_succ]
  refine wpAnyH_take (i := 13) (oi := { dst := some 53, op := Op.call { callee := Callee.value (Operand.func 46), args := #[Operand.tmp 48, Operand.tmp 52], argTypes := #[75, 75] }, type := 4, pos := "outright.go:274", after := #[{ on := 8, ground := Ground.data }, { on := 12, ground := Ground.data }, { on := 7, ground := Ground.chain }, { on := 7, ground := Ground.guard }], guard := some (7, true) }) (v := undef) rfl (by kernel_rfl) (by kernel_rfl) (by kernel_rfl) (fun _ _ _ h => h) (Or.inr ⟨by rfl, rfl⟩) (by assumption) ?_
  try simp only [Act.put, List.setIfInBounds_toArray, List.set_cons_zero, List.set_cons_succ]
  refine wpAnyH_take (i := 14) (oi := { dst := some 54, op := Op.unOp UnOp.not 4 (Operand.tmp 53), type := 4, pos := "outright.go:274", after := #[{ on := 13, ground := Ground.data }, { on := 7, ground := Ground.guard }], guard := some (7, true) }) (v := undef) rfl (by kernel_rfl) (by kernel_rfl) (by kernel_rfl) (fun _ _ _ h => h) (Or.inr ⟨by rfl, rfl⟩) (by assumption) ?_
  try simp only [Act.put, List.setIfInBounds_toArray, List.set_cons_zero, List.set_cons_succ]
  refine wpAnyH_take (i := 15) (oi := { dst := some 55, op := Op.pick (Operand.tmp 47) (Operand.tmp 54) (Operand.const (Value.bool false)), type := 4, pos := "outright.go:274", after := #[{ on := 7, ground := Ground.data }, { on := 14, ground := Ground.data }], guard := none }) (v := .bool false) rfl (by kernel_rfl) (by kernel_rfl) (by kernel_rfl) (fun _ _ _ h => h) (Or.inl ⟨by rfl, ?_⟩) (by assumption) ?_
  · intro w hSw
    (try dsimp only at hSw)
    go_simp
  try simp only [Act.put, List.setIfInBounds_toArray, List.set_cons_zero, List.set_cons_succ]
  refine wpAnyH_done (by kernel_rfl) ?_ _
  all_goals
    have hB9 := HB8.out.later hb89
    have hP9 := HPa.out.later hb89
    have hcs := HC.out _ hb89
    have hK9 := HK8.out.trans (Keeps.of_below (fun _ => False) hb89) (fun j h => h.elim)
    have hfin := fun w10 hk10 bl => hB9.put (w2 := w10) (su' := (A, B, D, E)) (ma' := (A, B, D, E)) (op' := false) (sp' := pp) (mp' := pp) (sc' := pc7) (mc' := pc7) (m := n + 1) hB9.dk (fun k hf => .inl hf) (Keeps.refl F _) hk10 bl hB9.kn (by have := hB9.pu; omega) hP9 hP9 (fun y e _ => by have := HPx.out y e; exact ⟨fun hf => by have := hFl _ hf; omega, by omega⟩) (fun y e _ => by have := HPx.out y e; exact ⟨fun hf => by have := hFl _ hf; omega, by omega⟩)
    have hset := setAll (x := .int .i64 (A : Int)) (y := .int .i64 (B : Int)) (z := .slice pp D.length pc7) (u := .int .i64 (E : Int)) (v := .bool false) hB9.bl
    have hkp := keepsAll w9 kb (.int .i64 (A : Int)) (.int .i64 (B : Int)) (.slice pp D.length pc7) (.int .i64 (E : Int)) (.bool false)
    have HFin := Hid.mk (And.intro (hfin _ hkp hset) (((hK9.mono (G := fun k => F k ∨ k = kb) (fun k h => .inl h)).trans hkp (fun j h => .inl (.inr h)))))
    obtain ⟨⟨q0, q1, q2, q3⟩, ⟨c1, c2, c3, c4⟩, c5, c6, c7, c8⟩ := hcs
    have c9 := cell_of_block hB9.bl (j := 9) rfl
    have f1 := frozen_of_block hB9.bl 1
    have f2 := frozen_of_block hB9.bl 2
    have f3 := frozen_of_block hB9.bl 3
    have f4 := frozen_of_block hB9.bl 4
    have f5 := frozen_of_block hB9.bl 5
    have f6 := frozen_of_block hB9.bl 6
    have f7 := frozen_of_block hB9.bl 7
    have f8 := frozen_of_block hB9.bl 8
    have f9 := frozen_of_block hB9.bl 9
    have hkk : kb ≠ w7.heap.size := by omega
    clear hal hB9 hP9 hK9 hfin hset hkp HC HB8 HPa HPx HQ8
    go_wp2
    go_ret
    exact ⟨rfl, HFin.out.2, _, _, _, _, _, _, _, _, _, HFin.out.1, HKn.out⟩

set_option maxRecDepth 20000 in
set_option maxHeartbeats 4000000 in
theorem beat_three2 (h : BenchAt w0 w F kb p S su ma op n sp mp sc mc) (kn : Knows S su ma op) (hn : n + 6 ≤ 4000000000000) (pl0 : List P3) (hnw : ma = snewest ((S.crash 5 pl0).now 1) ((S.crash 5 pl0).now 3)) (hk0 : Knows (S.crash 5 pl0) ma ma false) (hne : ma ≠ su) (x : Int) (a : Option Addr) (m c : Nat) (pa : Option Addr) (pn pc : Nat) (l : List Int) (ho : OpOk w w0.heap.size x a m pa pn l pl0) (_hl : Bytes l) :
    Calls Try.prog 44 #[.pointer (some ⟨kb, 0, none⟩), opV 3 x a m c pa pn pc] w (BeatOut w0 w F kb p (n + 1)) := by
  have hbx := below_box w (.cells (opC 3 x a m c pa pn pc) 81)
  have hq : (w.alloc (.cells (opC 3 x a m c pa pn pc) 81)).heap[w.heap.size]? = some (.cells (opC 3 x a m c pa pn pc) 81 (0, 0)) := heap_alloc_new _ _
  have hzw : w.heap.size < (w.alloc (.cells (opC 3 x a m c pa pn pc) 81)).heap.size := (Array.getElem?_eq_some_iff.1 hq).1
  have k0 := cell_of_block hq (j := 0) rfl
  have k1 := cell_of_block hq (j := 1) rfl
  have k2 := cell_of_block hq (j := 2) rfl
  have k3 := cell_of_block hq (j := 3) rfl
  have h5 := h.later hbx
  have hnF : ¬ F w.heap.size := fun hf => by have := h.dk.lt _ hf; omega
  have hFl := h.dk.lt
  have hkl := h.kbl
  have hkb : w.heap.size ≠ kb := by omega
  have hlo := h.lo
  have hkb0 := h.kb0
  have hw0 := h.bel.size
  have hox := ho.x
  have hom := ho.n
  have hsl := ho.s
  have hpl := ho.p
  have hsB := ho.sB
  have hpB := ho.pB
  have hpn := ho.pn
  have HB := Hid.mk h
  have H5 := Hid.mk hbx
  have HQ := Hid.mk hq
  have kp := cell_of_block h5.bl (j := 0) rfl
  have hpu := h.pu
  have hcr := fun wx (hb : Below w.heap.size w wx) => crash_gen sorts sortn ((HB.out.later hb).dk) (by omega) pa pn pc pl0 (hpl.far (B := w0.heap.size) (hb.mono hw0) hpB) (by omega) (fun y e hx hf => by have := hlo _ hf; have := hpB y e hx; omega)
  have HCr := Hid.mk hcr
  clear h hbx hq h5 ho hsl hpl hcr
  go_enter Try.func44, Try.ntmps44
  go_wp2_with fail
  generalize w.alloc (.cells (opC 3 x a m c pa pn pc) 81) = w5 at *
  have hdr := below_drew (Below.refl w5.heap.size w5)
  have h05 : Below w.heap.size w w5.drew := H5.out.trans (hdr.mono H5.out.size)
  have hup := HCr.out _ h05
  have hA5 := HB.out.later h05
  have HDr := Hid.mk hdr
  clear hdr
  go_region_held3 (fun w' => w'.cell? ⟨kb, 0, none⟩ = some (.pointer (some ⟨p, 0, none⟩)) ∧ w'.cell? ⟨w.heap.size, 3, none⟩ = some (.slice pa pn pc))
    (first | exact ⟨kp, k3⟩ | exact ⟨kp1, k31⟩)
    ((go_at_call 15; refine hup.mono ?_; rintro e w6 ⟨rfl, hd6, hk6⟩; have hn6 := (hk6.block w.heap.size hzw hnF).trans ((HDr.out.block w.heap.size hzw).trans HQ.out); have k31 := cell_of_block hn6 (j := 3) rfl; have hb6 := (hk6.block kb hA5.kbl hA5.nf).trans hA5.bl; have kp1 := cell_of_block hb6 (j := 0) rfl))
  have hA6 := hA5.same (m := n) hd6 hk6 ⟨hk0.fu, hk0.byt⟩ (Nat.zero_le _)
  have hlk := look_any hA6 hnw (by omega)
  have HK6 := Hid.mk ((Keeps.of_below F h05).trans hk6 (fun j h => .inl h))
  have hz6 : w.heap.size ≤ w6.heap.size := HK6.out.size
  obtain ⟨A, B, D, E⟩ := su
  obtain ⟨A', B', D', E'⟩ := ma
  clear hup hA5 hd6 hk6 hn6 hb6 k31 kp1 hA6 kp HCr HB h05
  go_wp2_with fail
  refine hlk.mono ?_
  rintro e w7 ⟨pp, pc7, gl, cl, gr, cr, S7, rfl, hpa, hpx, hgl, hgr, hsi, hB7, hk7⟩
  have hk0' := hk0.same hsi.1 hsi.2.1 hsi.2.2
  have hDs := hk0.small.1
  have hK7 := HK6.out.trans hk7 (fun j h => .inl h)
  have hz7 : w6.heap.size ≤ w7.heap.size := hk7.size
  have hbx := below_box w7 (.cells #[.int .i64 (A' : Int), .int .i64 (B' : Int), .slice pp D'.length pc7, .int .i64 (E' : Int)] 75)
  have hq : (w7.alloc (.cells #[.int .i64 (A' : Int), .int .i64 (B' : Int), .slice pp D'.length pc7, .int .i64 (E' : Int)] 75)).heap[w7.heap.size]? = some (.cells #[.int .i64 (A' : Int), .int .i64 (B' : Int), .slice pp D'.length pc7, .int .i64 (E' : Int)] 75 (0, 0)) := heap_alloc_new _ _
  have hB8 := hB7.later hbx
  have HK8 := Hid.mk (hK7.trans (Keeps.of_below (fun _ => False) hbx) (fun j h => h.elim))
  have HPa := Hid.mk (hpa.later hbx)
  have HPx := Hid.mk hpx
  have HKn := Hid.mk hk0'
  have HB8 := Hid.mk hB8
  have HQ8 := Hid.mk hq
  have hz8 : w7.heap.size < (w7.alloc (.cells #[.int .i64 (A' : Int), .int .i64 (B' : Int), .slice pp D'.length pc7, .int .i64 (E' : Int)] 75)).heap.size := (Array.getElem?_eq_some_iff.1 hq).1
  clear hlk hpa hpx hgl hgr hsi hB7 hk7 hk0' hK7 hbx hq hB8 HK6 hk0 hnw
  dsimp only at *
  go_wp2_with fail
  generalize w7.alloc (.cells #[.int .i64 (A' : Int), .int .i64 (B' : Int), .slice pp D'.length pc7, .int .i64 (E' : Int)] 75) = w8 at *
  have q0 := cell_of_block HQ8.out (j := 0) rfl
  have q1 := cell_of_block HQ8.out (j := 1) rfl
  have q2 := cell_of_block HQ8.out (j := 2) rfl
  have q3 := cell_of_block HQ8.out (j := 3) rfl
  have c1 := cell_of_block HB8.out.bl (j := 1) rfl
  have c2 := cell_of_block HB8.out.bl (j := 2) rfl
  have c3 := cell_of_block HB8.out.bl (j := 3) rfl
  have c4 := cell_of_block HB8.out.bl (j := 4) rfl
  have c5 := cell_of_block HB8.out.bl (j := 5) rfl
  have c6 := cell_of_block HB8.out.bl (j := 6) rfl
  have c7 := cell_of_block HB8.out.bl (j := 7) rfl
  have c8 := cell_of_block HB8.out.bl (j := 8) rfl
  have hdr := below_drew (Below.refl w8.heap.size w8)
  have HDr8 := Hid.mk hdr
  clear hdr
  have hal := alike_any A' B' E' A B E D' D pp pc7 sp sc w8.drew (HPa.out.later HDr8.out) (HB8.out.ss.later HDr8.out) (by omega)
  rw [decide_eq_false hne] at hal
  have HC : Hid (∀ wx, Below w8.heap.size w8 wx → (wx.cell? ⟨w7.heap.size, 0, none⟩ = some (.int .i64 (A' : Int)) ∧ wx.cell? ⟨w7.heap.size, 1, none⟩ = some (.int .i64 (B' : Int)) ∧ wx.cell? ⟨w7.heap.size, 2, none⟩ = some (.slice pp D'.length pc7) ∧ wx.cell? ⟨w7.heap.size, 3, none⟩ = some (.int .i64 (E' : Int))) ∧ (wx.cell? ⟨kb, 1, none⟩ = some (.int .i64 (A : Int)) ∧ wx.cell? ⟨kb, 2, none⟩ = some (.int .i64 (B : Int)) ∧ wx.cell? ⟨kb, 3, none⟩ = some (.slice sp D.length sc) ∧ wx.cell? ⟨kb, 4, none⟩ = some (.int .i64 (E : Int))) ∧ (wx.cell? ⟨kb, 5, none⟩ = some (.int .i64 (A' : Int)) ∧ wx.cell? ⟨kb, 6, none⟩ = some (.int .i64 (B' : Int)) ∧ wx.cell? ⟨kb, 7, none⟩ = some (.slice mp D'.length mc) ∧ wx.cell? ⟨kb, 8, none⟩ = some (.int .i64 (E' : Int)))) := Hid.mk (fun wx hb => by
    have e1 := (hb.block w7.heap.size hz8).trans HQ8.out
    have e2 := (HB8.out.later hb).bl
    exact ⟨⟨cell_of_block e1 (j := 0) rfl, cell_of_block e1 (j := 1) rfl, cell_of_block e1 (j := 2) rfl, cell_of_block e1 (j := 3) rfl⟩, ⟨cell_of_block e2 (j := 1) rfl, cell_of_block e2 (j := 2) rfl, cell_of_block e2 (j := 3) rfl, cell_of_block e2 (j := 4) rfl⟩, cell_of_block e2 (j := 5) rfl, cell_of_block e2 (j := 6) rfl, cell_of_block e2 (j := 7) rfl, cell_of_block e2 (j := 8) rfl⟩)
  clear c1 c2 c3 c4 c5 c6 c7 c8 q0 q1 q2 q3
  go_region_held3 (fun w' => (w'.cell? ⟨w7.heap.size, 0, none⟩ = some (.int .i64 (A' : Int)) ∧ w'.cell? ⟨w7.heap.size, 1, none⟩ = some (.int .i64 (B' : Int)) ∧ w'.cell? ⟨w7.heap.size, 2, none⟩ = some (.slice pp D'.length pc7) ∧ w'.cell? ⟨w7.heap.size, 3, none⟩ = some (.int .i64 (E' : Int))) ∧ (w'.cell? ⟨kb, 1, none⟩ = some (.int .i64 (A : Int)) ∧ w'.cell? ⟨kb, 2, none⟩ = some (.int .i64 (B : Int)) ∧ w'.cell? ⟨kb, 3, none⟩ = some (.slice sp D.length sc) ∧ w'.cell? ⟨kb, 4, none⟩ = some (.int .i64 (E : Int))) ∧ (w'.cell? ⟨kb, 5, none⟩ = some (.int .i64 (A' : Int)) ∧ w'.cell? ⟨kb, 6, none⟩ = some (.int .i64 (B' : Int)) ∧ w'.cell? ⟨kb, 7, none⟩ = some (.slice mp D'.length mc) ∧ w'.cell? ⟨kb, 8, none⟩ = some (.int .i64 (E' : Int))))
    (first | exact HC.out _ HDr8.out | exact HC.out _ hb89 | exact HC.out _ hb80)
    (first
      | (go_at_call_of 46 (Value.slice sp D.length sc); refine hal.mono ?_; rintro e w9 ⟨rfl, hb9⟩; have hb89 : Below w8.heap.size w8 w9 := HDr8.out.trans (hb9.mono (Nat.le_refl _)))
      | (go_at_call_of 46 (Value.slice mp D'.length mc); refine (alike_any A' B' E' A' B' E' D' D' pp pc7 mp mc w9 (HPa.out.later hb89) (HB8.out.ms.later hb89) (by omega)).mono ?_; rw [decide_eq_true rfl]; rintro e w10 ⟨rfl, hb10⟩; have hb80 : Below w8.heap.size w8 w10 := hb89.trans (hb10.mono hb89.size)))
  all_goals
    have hB9 := HB8.out.later hb80
    have hP9 := HPa.out.later hb80
    have hcs := HC.out _ hb80
    have hK9 := HK8.out.trans (Keeps.of_below (fun _ => False) hb80) (fun j h => h.elim)
    have hfin := fun w10 hk10 bl => hB9.put (w2 := w10) (su' := (A', B', D', E')) (ma' := (A', B', D', E')) (op' := false) (sp' := pp) (mp' := pp) (sc' := pc7) (mc' := pc7) (m := n + 1) hB9.dk (fun k hf => .inl hf) (Keeps.refl F _) hk10 bl hB9.kn (by have := hB9.pu; omega) hP9 hP9 (fun y e _ => by have := HPx.out y e; exact ⟨fun hf => by have := hFl _ hf; omega, by omega⟩) (fun y e _ => by have := HPx.out y e; exact ⟨fun hf => by have := hFl _ hf; omega, by omega⟩)
    have hset := setAll (x := .int .i64 (A' : Int)) (y := .int .i64 (B' : Int)) (z := .slice pp D'.length pc7) (u := .int .i64 (E' : Int)) (v := .bool false) hB9.bl
    have hkp := keepsAll w10 kb (.int .i64 (A' : Int)) (.int .i64 (B' : Int)) (.slice pp D'.length pc7) (.int .i64 (E' : Int)) (.bool false)
    have HFin := Hid.mk (And.intro (hfin _ hkp hset) (((hK9.mono (G := fun k => F k ∨ k = kb) (fun k h => .inl h)).trans hkp (fun j h => .inl (.inr h)))))
    obtain ⟨⟨q0, q1, q2, q3⟩, ⟨c1, c2, c3, c4⟩, c5, c6, c7, c8⟩ := hcs
    have c9 := cell_of_block hB9.bl (j := 9) rfl
    have f1 := frozen_of_block hB9.bl 1
    have f2 := frozen_of_block hB9.bl 2
    have f3 := frozen_of_block hB9.bl 3
    have f4 := frozen_of_block hB9.bl 4
    have f5 := frozen_of_block hB9.bl 5
    have f6 := frozen_of_block hB9.bl 6
    have f7 := frozen_of_block hB9.bl 7
    have f8 := frozen_of_block hB9.bl 8
    have f9 := frozen_of_block hB9.bl 9
    have hkk : kb ≠ w7.heap.size := by omega
    clear hal hB9 hP9 hK9 hfin hset hkp HC HB8 HPa HPx HQ8
    go_wp2
    go_ret
    exact ⟨rfl, HFin.out.2, _, _, _, _, _, _, _, _, _, HFin.out.1, HKn.out⟩
end
end Go.Proofs.Ytkgnkdnipcacgaa
