import Derived.Test.YthohoicgidjpfabGreatPDA
namespace Go.Proofs.YthohoicgidjpfabGreat
open Go.RowKit Go.Maps

section
variable {w : World} {F X : Nat → Prop} {kr p s cR q l m t n a1 a2 k pa : Nat} {S : DS} {G : SG} {T : TG} {M : MP} {N : Int} {who two : Bool} {da : Option Addr} {dn dc : Nat} {dl : List Int}
set_option maxRecDepth 20000 in
set_option maxHeartbeats 8000000 in
theorem raw11_any (h : RgW w F X kr p s cR q l m t n a1 a2 k S G T M) (hc : CL G S T M) (hd : G.L.dead S = false) (hpa : PoolAt w F pa t n) (hN : I64 N) (hs : ∀ w', Keeps (fun j => OwT F t n j ∨ X j) w w' → Src w' da dn dl) (hby : Bytes dl) (hdn : dn ≤ 140737488355328) :
    Calls Tryz.prog 36 #[.pointer (some ⟨kr, 0, none⟩), .pointer (some ⟨pa, 0, none⟩), stpV 11 N who two da dn dc] w fun e w' => StpO w w' F X kr p s q l m t n a1 a2 k S G e := by
  obtain ⟨b, hb⟩ : ∃ b, b = wthn N 0 1 := ⟨_, rfl⟩
  have hb2 : b < 2 := by have := (wthn_in N (lo := 0) (hi := 1) (by omega)).2; omega
  obtain ⟨T1, M1, q1, q2, hc1⟩ := hc.wmap hd h.x.yk h.x.tx.ch.ok hb2 (pad5_bytes hby) (pad5_len dl)
  have hB0 := below_box w (stpC 11 N who two da dn dc)
  have hbx := heap_alloc_new w (stpC 11 N who two da dn dc)
  have g0 : (w.alloc (stpC 11 N who two da dn dc)).cell? ⟨w.heap.size, 0, none⟩ = some (.int .i64 11) := cell_of_block hbx (j := 0) rfl
  have g1 : (w.alloc (stpC 11 N who two da dn dc)).cell? ⟨w.heap.size, 1, none⟩ = some (.int .i64 N) := cell_of_block hbx (j := 1) rfl
  have g4 : (w.alloc (stpC 11 N who two da dn dc)).cell? ⟨w.heap.size, 4, none⟩ = some (.slice da dn dc) := cell_of_block hbx (j := 4) rfl
  have h0 := h.later hB0
  have ce : (w.alloc (stpC 11 N who two da dn dc)).cell? ⟨kr, 4, none⟩ = some (.pointer (some ⟨k, 0, none⟩)) := cell_of_block h0.b (j := 4) rfl
  have cb : (w.alloc (stpC 11 N who two da dn dc)).cell? ⟨k, 0, none⟩ = some (.int .i64 (M.blocks : Int)) := by
    obtain ⟨gq1, cq1, gq2, cq2, gq3, cq3, gq4, cq4, v5, v6, v7, hma⟩ := h0.mm
    exact cell_of_block hma.b (j := 0) rfl
  have hmb : 2 ≤ M.blocks := by have := h.x.yk.b2; have := hc.mb; omega
  have hmb2 : ¬ (M.blocks : Int) ≤ (b : Int) := by omega
  have kw1 := within6_any N 0 29 (by omega) (by omega) ⟨hN.1, hN.2⟩ (w.alloc (stpC 11 N who two da dn dc))
  have kw2 := within6_any N 0 1 (by omega) (by omega) ⟨hN.1, hN.2⟩ (w.alloc (stpC 11 N who two da dn dc))
  rw [← hb] at kw2
  have hwl := (wthn_in N (lo := 0) (hi := 29) (by omega)).2
  generalize wthn N 0 29 = y at *
  have HPa := Hid.mk (hpa.later hB0)
  have c0 := HPa.out.c0
  have H6 : Hid (∀ w', Below (w.alloc (stpC 11 N who two da dn dc)).heap.size (w.alloc (stpC 11 N who two da dn dc)) w' → w'.cell? ⟨pa, 0, none⟩ = some (.pointer (some ⟨t, 0, none⟩)) ∧ w'.cell? ⟨w.heap.size, 4, none⟩ = some (.slice da dn dc)) := fun w' hw => ⟨cell_later hw c0, cell_later hw g4⟩
  have HD0 : Hid (Below (w.alloc (stpC 11 N who two da dn dc)).heap.size (w.alloc (stpC 11 N who two da dn dc)) (w.alloc (stpC 11 N who two da dn dc)).drew) := (Keeps.drew (fun _ => False) _).below (fun _ h => h.elim) (Nat.le_refl _)
  have HNo : Hid (¬ OwT F t n w.heap.size) := fun e => by have := h.x.lt _ e; omega
  have HR := Hid.mk h
  have HR0 := Hid.mk h0
  have HB0 := Hid.mk hB0
  have HBx := Hid.mk hbx
  have HC := Hid.mk (And.intro hc hc1)
  have HQ1 := Hid.mk q1
  have HQ2 := Hid.mk q2
  have HSr := Hid.mk hs
  clear h hc hd hpa hs q1 q2 hc1 hB0 hbx h0 c0 hb g4
  go_enter Tryz.func36, Tryz.ntmps36
  go_wp2_with fail
  refine kw1.mono ?_
  rintro e wx ⟨rfl, hwx⟩
  subst hwx
  clear kw1
  go_wp2_with fail
  refine kw2.mono ?_
  rintro e wx ⟨rfl, hwx⟩
  subst hwx
  clear kw2
  go_wp2_with fail
  refine wp_region_held_drew (S := (fun w' => w'.cell? ⟨pa, 0, none⟩ = some (.pointer (some ⟨t, 0, none⟩)) ∧ w'.cell? ⟨w.heap.size, 4, none⟩ = some (.slice da dn dc))) (by kernel_rfl) (H6.out _ HD0.out) (fun hHeld => ?_)
  refine wpAnyH_take (i := 0) (oi := { dst := some 29, op := Op.move (Operand.tmp 1), type := 35, pos := "exact.go:156", after := #[], guard := none }) (v := .pointer (some ⟨pa, 0, none⟩)) rfl (by kernel_rfl) (by kernel_rfl) (by kernel_rfl) (fun _ _ _ h => h) (Or.inl ⟨by rfl, ?_⟩) (by assumption) ?_
  · intro w hSw
    (try dsimp only at hSw)
    go_simp
  try simp only [Act.put, List.setIfInBounds_toArray, List.set_cons_zero, List.set_cons_succ]
  refine wpAnyH_take (i := 1) (oi := { dst := some 30, op := Op.nilCheck (Operand.tmp 29), type := 0, pos := "exact.go:156", after := #[{ on := 0, ground := Ground.data }], guard := none }) (v := .pointer (some ⟨pa, 0, none⟩)) rfl (by kernel_rfl) (by kernel_rfl) (by kernel_rfl) (fun _ _ _ h => h) (Or.inl ⟨by rfl, ?_⟩) (by assumption) ?_
  · intro w hSw
    (try dsimp only at hSw)
    go_simp
  try simp only [Act.put, List.setIfInBounds_toArray, List.set_cons_zero, List.set_cons_succ]
  refine wpAnyH_take (i := 2) (oi := { dst := some 31, op := Op.fieldAddr 59 (Operand.tmp 30) 0, type := 0, pos := "exact.go:156", after := #[{ on := 1, ground := Ground.data }], guard := none }) (v := .pointer (some ⟨pa, 0, none⟩)) rfl (by kernel_rfl) (by kernel_rfl) (by kernel_rfl) (fun _ _ _ h => h) (Or.inl ⟨by rfl, ?_⟩) (by assumption) ?_
  · intro w hSw
    (try dsimp only at hSw)
    go_simp
  try simp only [Act.put, List.setIfInBounds_toArray, List.set_cons_zero, List.set_cons_succ]
  refine wpAnyH_take (i := 3) (oi := { dst := some 32, op := Op.load 57 (Operand.tmp 31), type := 57, pos := "exact.go:156", after := #[{ on := 2, ground := Ground.data }], guard := none }) (v := .pointer (some ⟨t, 0, none⟩)) rfl (by kernel_rfl) (by kernel_rfl) (by kernel_rfl) (fun _ _ _ h => h) (Or.inl ⟨by rfl, ?_⟩) (by assumption) ?_
  · intro w hSw
    (try dsimp only at hSw)
    go_simp
  try simp only [Act.put, List.setIfInBounds_toArray, List.set_cons_zero, List.set_cons_succ]
  refine wpAnyH_take (i := 4) (oi := { dst := some 33, op := Op.move (Operand.tmp 7), type := 3, pos := "exact.go:156", after := #[], guard := none }) (v := .int .i64 (b : Int)) rfl (by kernel_rfl) (by kernel_rfl) (by kernel_rfl) (fun _ _ _ h => h) (Or.inl ⟨by rfl, ?_⟩) (by assumption) ?_
  · intro w hSw
    (try dsimp only at hSw)
    go_simp
  try simp only [Act.put, List.setIfInBounds_toArray, List.set_cons_zero, List.set_cons_succ]
  refine wpAnyH_take (i := 5) (oi := { dst := some 34, op := Op.fieldAddr 46 (Operand.tmp 5) 4, type := 0, pos := "exact.go:156", after := #[], guard := none }) (v := .pointer (some ⟨w.heap.size, 4, none⟩)) rfl (by kernel_rfl) (by kernel_rfl) (by kernel_rfl) (fun _ _ _ h => h) (Or.inl ⟨by rfl, ?_⟩) (by assumption) ?_
  · intro w hSw
    (try dsimp only at hSw)
    go_simp
  try simp only [Act.put, List.setIfInBounds_toArray, List.set_cons_zero, List.set_cons_succ]
  refine wpAnyH_take (i := 6) (oi := { dst := some 35, op := Op.load 44 (Operand.tmp 34), type := 44, pos := "exact.go:156", after := #[{ on := 5, ground := Ground.data }], guard := none }) (v := .slice da dn dc) rfl (by kernel_rfl) (by kernel_rfl) (by kernel_rfl) (fun _ _ _ h => h) (Or.inl ⟨by rfl, ?_⟩) (by assumption) ?_
  · intro w hSw
    (try dsimp only at hSw)
    go_simp
  try simp only [Act.put, List.setIfInBounds_toArray, List.set_cons_zero, List.set_cons_succ]
  refine wpAnyH_ready (rs := [7]) (by kernel_rfl) (by simp) ?_
  refine AllReadyH.cons (o := { dst := some 36, op := Op.call { callee := Callee.value (Operand.func 80), args := #[Operand.tmp 35], argTypes := #[44] }, type := 44, pos := "exact.go:156", after := #[{ on := 6, ground := Ground.data }], guard := none }) rfl (fun K hK => ?_) AllReadyH.nil
  go_simp
  refine (padded_any (c := dc) (HSr.out _ (Keeps.of_below _ (HB0.out.trans (HD0.out.mono HB0.out.size)))) hdn).mono ?_
  rintro e w1 ⟨gp, cp, rfl, hgp, hrp, hb1⟩
  have hB1 : Below (w.alloc (stpC 11 N who two da dn dc)).heap.size (w.alloc (stpC 11 N who two da dn dc)) w1 := HD0.out.trans (hb1.mono HD0.out.size)
  refine hK.out _ _ ?_ (fun hHeld => ?_)
  · exact H6.out _ hB1
  clear hK K
  try simp only [Act.put, List.setIfInBounds_toArray, List.set_cons_zero, List.set_cons_succ]
  refine wpAnyH_ready (rs := [8]) (by kernel_rfl) (by simp) ?_
  refine AllReadyH.cons (o := { dst := some 37, op := Op.call { callee := Callee.value (Operand.func 60), args := #[Operand.tmp 32, Operand.tmp 33, Operand.tmp 36], argTypes := #[57, 3, 44] }, type := 39, pos := "exact.go:156", after := #[{ on := 3, ground := Ground.data }, { on := 4, ground := Ground.data }, { on := 7, ground := Ground.data }, { on := 7, ground := Ground.chain }], guard := none }) rfl (fun K hK => ?_) AllReadyH.nil
  go_simp
  have hr1 := HR0.out.later hB1
  have hsp : Src w1 (some ⟨gp, 0, none⟩) 512 (pad5 dl) := by have h9 := hrp.src; rw [pad5_len] at h9; exact h9
  have kp := Put_any hr1.x.st hr1.x.tx (b : Int) (some ⟨gp, 0, none⟩) 512 cp (pad5 dl) hsp (by omega) (pad5_bytes hby) hr1.x.big
  rw [HQ1.out] at kp
  refine kp.mono ?_
  intro e w2 hP
  have he2 := hP.1
  subst he2
  have hx2 : TX w2 F p s (cR + 1) q l m t n S G T1 ∧ Keeps (OwT F t n) w1 w2 := by
    have h9 := hr1.x.put (b := (b : Int)) (d := pad5 dl) (by rw [HQ1.out]; exact hP)
    rw [HQ1.out] at h9
    exact h9
  have hk2 : Keeps (fun j => OwT F t n j ∨ X j) w w2 := ((Keeps.of_below _ HB0.out).trans (Keeps.of_below (fun _ => False) hB1) (fun _ h => h.elim)).trans (hx2.2.mono (fun _ h => .inl h)) (fun _ h => .inl h)
  have hr2 := HR.out.after (Y := X) hx2.1 (HR.out.mm.apart (((Keeps.of_below (OwT F t n) HB0.out).trans (Keeps.of_below (fun _ => False) hB1) (fun _ h => h.elim)).trans hx2.2 (fun _ h => .inl h)) (fun j e hx => HR.out.offX j hx e)) hk2 (fun _ h => .inl h)
  have hcs2 : w2.cell? ⟨pa, 0, none⟩ = some (.pointer (some ⟨t, 0, none⟩)) ∧ w2.cell? ⟨w.heap.size, 4, none⟩ = some (.slice da dn dc) := by
    refine ⟨((HPa.out.later hB1).keep hx2.2).c0, ?_⟩
    have z1 : w.heap.size < w1.heap.size := Nat.lt_of_lt_of_le (lt_there HBx.out) hB1.size
    exact cell_of_block ((hx2.2.block _ z1 (fun e => by have := hr1.x.low; have := HNo.out; exact this e)).trans ((hB1.block _ (lt_there HBx.out)).trans HBx.out)) (j := 4) rfl
  have H2 := Hid.mk (And.intro hr2 (And.intro hk2 hcs2.2))
  clear kp hP hx2 hk2 hr2 hr1 hsp hrp hb1
  refine hK.out _ _ ?_ (fun hHeld => ?_)
  · exact hcs2
  clear hK K
  try simp only
  refine wpAnyH_ready (rs := [9]) (by kernel_rfl) (by simp) ?_
  refine AllReadyH.cons (o := { dst := some 8, op := Op.assign (Operand.tmp 37), type := 39, pos := "exact.go:156", after := #[{ on := 8, ground := Ground.data }, { on := 8, ground := Ground.chain }, { on := 0, ground := Ground.phase }, { on := 1, ground := Ground.phase }, { on := 2, ground := Ground.phase }, { on := 3, ground := Ground.phase }, { on := 4, ground := Ground.phase }, { on := 5, ground := Ground.phase }, { on := 6, ground := Ground.phase }, { on := 7, ground := Ground.phase }, { on := 8, ground := Ground.phase }], guard := none }) rfl (fun K hK => ?_) AllReadyH.nil
  go_simp
  refine hK.out _ _ ?_ (fun hHeld => ?_)
  · exact hcs2
  clear hK K
  try simp only [Act.put, List.setIfInBounds_toArray, List.set_cons_zero, List.set_cons_succ]
  refine wpAnyH_done (by kernel_rfl) ?_ _
  clear hHeld g0 g1 ce cb
  have HD2 : Hid (Below w2.heap.size w2 w2.drew) := (Keeps.drew (fun _ => False) w2).below (fun _ h => h.elim) (Nat.le_refl _)
  have H7 : Hid (∀ w', Below w2.heap.size w2 w' → w'.cell? ⟨kr, 4, none⟩ = some (.pointer (some ⟨k, 0, none⟩)) ∧ w'.cell? ⟨w.heap.size, 4, none⟩ = some (.slice da dn dc)) := fun w' hw => ⟨cell_later hw (cell_of_block H2.out.1.b (j := 4) rfl), cell_later hw H2.out.2.2⟩
  clear hcs2
  go_wp2_with fail
  refine wp_region_held_drew (S := (fun w' => w'.cell? ⟨kr, 4, none⟩ = some (.pointer (some ⟨k, 0, none⟩)) ∧ w'.cell? ⟨w.heap.size, 4, none⟩ = some (.slice da dn dc))) (by kernel_rfl) (H7.out _ HD2.out) (fun hHeld => ?_)
  refine wpAnyH_take (i := 0) (oi := { dst := some 38, op := Op.move (Operand.tmp 0), type := 28, pos := "exact.go:157", after := #[], guard := none }) (v := .pointer (some ⟨kr, 0, none⟩)) rfl (by kernel_rfl) (by kernel_rfl) (by kernel_rfl) (fun _ _ _ h => h) (Or.inl ⟨by rfl, ?_⟩) (by assumption) ?_
  · intro w hSw
    (try dsimp only at hSw)
    go_simp
  try simp only [Act.put, List.setIfInBounds_toArray, List.set_cons_zero, List.set_cons_succ]
  refine wpAnyH_take (i := 1) (oi := { dst := some 39, op := Op.nilCheck (Operand.tmp 38), type := 0, pos := "exact.go:157", after := #[{ on := 0, ground := Ground.data }], guard := none }) (v := .pointer (some ⟨kr, 0, none⟩)) rfl (by kernel_rfl) (by kernel_rfl) (by kernel_rfl) (fun _ _ _ h => h) (Or.inl ⟨by rfl, ?_⟩) (by assumption) ?_
  · intro w hSw
    (try dsimp only at hSw)
    go_simp
  try simp only [Act.put, List.setIfInBounds_toArray, List.set_cons_zero, List.set_cons_succ]
  refine wpAnyH_take (i := 2) (oi := { dst := some 40, op := Op.fieldAddr 38 (Operand.tmp 39) 4, type := 0, pos := "exact.go:157", after := #[{ on := 1, ground := Ground.data }], guard := none }) (v := .pointer (some ⟨kr, 4, none⟩)) rfl (by kernel_rfl) (by kernel_rfl) (by kernel_rfl) (fun _ _ _ h => h) (Or.inl ⟨by rfl, ?_⟩) (by assumption) ?_
  · intro w hSw
    (try dsimp only at hSw)
    go_simp
  try simp only [Act.put, List.setIfInBounds_toArray, List.set_cons_zero, List.set_cons_succ]
  refine wpAnyH_take (i := 3) (oi := { dst := some 41, op := Op.load 36 (Operand.tmp 40), type := 36, pos := "exact.go:157", after := #[{ on := 2, ground := Ground.data }], guard := none }) (v := .pointer (some ⟨k, 0, none⟩)) rfl (by kernel_rfl) (by kernel_rfl) (by kernel_rfl) (fun _ _ _ h => h) (Or.inl ⟨by rfl, ?_⟩) (by assumption) ?_
  · intro w hSw
    (try dsimp only at hSw)
    go_simp
  try simp only [Act.put, List.setIfInBounds_toArray, List.set_cons_zero, List.set_cons_succ]
  refine wpAnyH_take (i := 4) (oi := { dst := some 42, op := Op.move (Operand.tmp 7), type := 3, pos := "exact.go:157", after := #[], guard := none }) (v := .int .i64 (b : Int)) rfl (by kernel_rfl) (by kernel_rfl) (by kernel_rfl) (fun _ _ _ h => h) (Or.inl ⟨by rfl, ?_⟩) (by assumption) ?_
  · intro w hSw
    (try dsimp only at hSw)
    go_simp
  try simp only [Act.put, List.setIfInBounds_toArray, List.set_cons_zero, List.set_cons_succ]
  refine wpAnyH_take (i := 5) (oi := { dst := some 43, op := Op.fieldAddr 46 (Operand.tmp 5) 4, type := 0, pos := "exact.go:157", after := #[], guard := none }) (v := .pointer (some ⟨w.heap.size, 4, none⟩)) rfl (by kernel_rfl) (by kernel_rfl) (by kernel_rfl) (fun _ _ _ h => h) (Or.inl ⟨by rfl, ?_⟩) (by assumption) ?_
  · intro w hSw
    (try dsimp only at hSw)
    go_simp
  try simp only [Act.put, List.setIfInBounds_toArray, List.set_cons_zero, List.set_cons_succ]
  refine wpAnyH_take (i := 6) (oi := { dst := some 44, op := Op.load 44 (Operand.tmp 43), type := 44, pos := "exact.go:157", after := #[{ on := 5, ground := Ground.data }], guard := none }) (v := .slice da dn dc) rfl (by kernel_rfl) (by kernel_rfl) (by kernel_rfl) (fun _ _ _ h => h) (Or.inl ⟨by rfl, ?_⟩) (by assumption) ?_
  · intro w hSw
    (try dsimp only at hSw)
    go_simp
  try simp only [Act.put, List.setIfInBounds_toArray, List.set_cons_zero, List.set_cons_succ]
  refine wpAnyH_ready (rs := [7]) (by kernel_rfl) (by simp) ?_
  refine AllReadyH.cons (o := { dst := some 45, op := Op.call { callee := Callee.value (Operand.func 80), args := #[Operand.tmp 44], argTypes := #[44] }, type := 44, pos := "exact.go:157", after := #[{ on := 6, ground := Ground.data }], guard := none }) rfl (fun K hK => ?_) AllReadyH.nil
  go_simp
  refine (padded_any (c := dc) (HSr.out _ (H2.out.2.1.trans (Keeps.of_below (fun _ => False) HD2.out) (fun _ h => h.elim))) hdn).mono ?_
  rintro e w3 ⟨gp3, cp3, rfl, hgp3, hrp3, hb3⟩
  have hB3 : Below w2.heap.size w2 w3 := HD2.out.trans (hb3.mono HD2.out.size)
  refine hK.out _ _ ?_ (fun hHeld => ?_)
  · exact H7.out _ hB3
  clear hK K
  try simp only [Act.put, List.setIfInBounds_toArray, List.set_cons_zero, List.set_cons_succ]
  refine wpAnyH_ready (rs := [8]) (by kernel_rfl) (by simp) ?_
  refine AllReadyH.cons (o := { dst := some 46, op := Op.call { callee := Callee.value (Operand.func 81), args := #[Operand.tmp 41, Operand.tmp 42, Operand.tmp 45], argTypes := #[36, 3, 44] }, type := 3, pos := "exact.go:157", after := #[{ on := 3, ground := Ground.data }, { on := 4, ground := Ground.data }, { on := 7, ground := Ground.data }, { on := 7, ground := Ground.chain }], guard := none }) rfl (fun K hK => ?_) AllReadyH.nil
  go_simp
  have hr3 := H2.out.1.later hB3
  have hsp3 : Src w3 (some ⟨gp3, 0, none⟩) 512 (pad5 dl) := by have h9 := hrp3.src; rw [pad5_len] at h9; exact h9
  have km := mwmap_any (c := cp3) hr3.mm hr3.xl (by have := HC.out.1.plen; omega) hsp3 (pad5_bytes hby) b (by omega)
  unfold MO at km
  rw [HQ2.out] at km
  refine km.mono ?_
  rintro e w4 ⟨rfl, hm4, hk4⟩
  have HE : Hid (∃ X' T' M' c', RgW w4 F X' kr p s c' q l m t n a1 a2 k S G T' M' ∧ CL G S T' M' ∧ Keeps (fun j => OwT F t n j ∨ X j) w w4 ∧ (∀ j, X' j → X j ∨ (w.heap.size ≤ j ∧ j < w4.heap.size))) := by
    have z2 := H2.out.2.1.size
    have z3 := hB3.size
    refine ⟨_, T1, M1, _, hr3.after (hr3.x.apart hk4 (fun j hj => ?_)) hm4 (hk4.mono (fun _ h => .inr h)) (fun _ h => h), HC.out.2, (H2.out.2.1.trans (Keeps.of_below (fun _ => False) hB3) (fun _ h => h.elim)).trans (hk4.mono (fun _ h => .inr h)) (fun _ h => .inl h), fun j hj => hj.imp (fun e => e) (fun e => ⟨by have := e.1; omega, e.2⟩)⟩
    have h9 := hr3.xa j hj
    exact ⟨h9.1, h9.2.1, h9.2.2.1, h9.2.2.2.1, h9.2.2.2.2.1, h9.2.2.2.2.2.1⟩
  have hcs4 : w4.cell? ⟨kr, 4, none⟩ = some (.pointer (some ⟨k, 0, none⟩)) ∧ w4.cell? ⟨w.heap.size, 4, none⟩ = some (.slice da dn dc) := by
    have h9 := H7.out _ hB3
    have z4 : w.heap.size < w3.heap.size := Nat.lt_of_lt_of_le (World.block_lt_of_cell? _ _ H2.out.2.2) hB3.size
    exact ⟨(World.cell?_of_block (w := w3) (a := ⟨kr, 4, none⟩) (hk4.block kr (lt_there hr3.b) (fun e => (hr3.xa kr e).2.2.2.2.2.2.1 rfl))).trans h9.1, (World.cell?_of_block (w := w3) (a := ⟨w.heap.size, 4, none⟩) (hk4.block _ z4 (fun e => Nat.lt_irrefl _ (HR.out.xl _ e)))).trans h9.2⟩
  clear km hm4 hk4 hr3 hsp3 hrp3 hb3
  refine hK.out _ _ ?_ (fun hHeld => ?_)
  · exact hcs4
  clear hK K
  try simp only
  refine wpAnyH_ready (rs := [9]) (by kernel_rfl) (by simp) ?_
  refine AllReadyH.cons (o := { dst := some 9, op := Op.assign (Operand.tmp 46), type := 3, pos := "exact.go:157", after := #[{ on := 8, ground := Ground.data }, { on := 8, ground := Ground.chain }, { on := 0, ground := Ground.phase }, { on := 1, ground := Ground.phase }, { on := 2, ground := Ground.phase }, { on := 3, ground := Ground.phase }, { on := 4, ground := Ground.phase }, { on := 5, ground := Ground.phase }, { on := 6, ground := Ground.phase }, { on := 7, ground := Ground.phase }, { on := 8, ground := Ground.phase }], guard := none }) rfl (fun K hK => ?_) AllReadyH.nil
  go_simp
  refine hK.out _ _ ?_ (fun hHeld => ?_)
  · exact hcs4
  clear hK K
  try simp only [Act.put, List.setIfInBounds_toArray, List.set_cons_zero, List.set_cons_succ]
  refine wpAnyH_done (by kernel_rfl) ?_ _
  clear hHeld hcs4
  have kn := num6_any 0 w4
  go_wp2_with fail
  refine kn.mono ?_
  rintro e wx ⟨rfl, hwx⟩
  have hwx' := hwx.symm
  subst hwx'
  clear hwx kn
  go_wp2
  go_ret
  exact ⟨rfl, HE.out⟩
end
end Go.Proofs.YthohoicgidjpfabGreat
