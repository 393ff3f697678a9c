import Derived.Test.YthohoicgidjpfabGreatPE3
section
namespace Go.Proofs.YthohoicgidjpfabGreat
open Go.RowKit Go.Maps

section
variable {w : World} {F : Nat → Prop} {p s cR q l m t n a : Nat} {S : DS} {G : SG} {T : TG}
theorem refusal_no {b : Int} (h0 : T.state G S ≠ 0) : T.refusal G S b = T.state G S := by
  unfold TG.refusal
  rw [if_pos h0]
set_option maxRecDepth 20000 in
set_option maxHeartbeats 8000000 in
theorem left_no (h : TX w F p s cR q l m t n S G T) (hp : PoolAt w F a t n) (h0 : T.state G S ≠ 0) :
    Calls Tryz.prog 74 #[.pointer (some ⟨a, 0, none⟩)] w fun e w' => e = .returned (.tuple #[.int .i64 0, .int .i64 0, .int .i64 (T.state G S)]) ∧ TX w' F p s (cR + 2) q l m t n S G (T.spoil G S (T.state G S)).2 ∧ Keeps (OwT F t n) w w' := by
  obtain ⟨hB1, hg1, hg2, hsz1⟩ := heap2 w (.cells #[.pointer (some ⟨a, 0, none⟩)] 35) (.cells #[.int .i64 0] 39)
  obtain ⟨w1, hw1⟩ : ∃ w1, w1 = (w.alloc (.cells #[.pointer (some ⟨a, 0, none⟩)] 35)).alloc (.cells #[.int .i64 0] 39) := ⟨_, rfl⟩
  rw [← hw1] at hB1 hg1 hg2 hsz1
  have hlt := h.lt
  have hx1 := h.later hB1
  have hp1 := hp.later hB1
  have hblk := blocks_any hx1 hp1
  have hrf : T.refusal G S (bSt G.y).bm ≠ 0 := by rw [refusal_no h0]; exact h0
  have HT : Hid (∀ w2, Below w1.drew.heap.size w1.drew w2 → Calls Tryz.prog 115 #[.pointer (some ⟨a, 0, none⟩), stkV (bSt G.y)] w2 fun e w' => e = .panicked (gave (T.state G S)) ∧ TX w' F p s (cR + 1) q l m t n S G T ∧ Keeps F w2 w') := fun w2 hb => by
    have := pleft_no (hx1.later hb) (hp1.later hb) (bSt G.y) hrf
    rw [refusal_no h0] at this
    exact this
  have c0 : w1.drew.cell? ⟨w.heap.size, 0, none⟩ = some (.pointer (some ⟨a, 0, none⟩)) := cell_of_block hg1 (j := 0) rfl
  have n1 : ¬ OwT F t n w.heap.size := fun hf => by have := hlt _ hf; omega
  have n2 : ¬ OwT F t n (w.heap.size + 1) := fun hf => by have := hlt _ hf; omega
  have HG := Hid.mk (And.intro hg1 hg2)
  have HB := Hid.mk hB1
  have HP := Hid.mk hp1
  have HLo := Hid.mk h.low
  have hpa := hp.lt
  generalize T.state G S = R at *
  generalize stkV (bSt G.y) = V at *
  clear hrf
  have ht2 : w.heap.size + 1 ≠ t := fun e => n2 (.inr (.inl e))
  clear h hp hB1 hx1 hp1 hg1 hg2 h0
  go_enter_defers Tryz.func74, Tryz.ntmps74
  go_wp2_with fail
  rw [← hw1]
  clear hw1
  refine wp_mixed (PnT [{ target := .fn (.func 114) #[.pointer (some ⟨w.heap.size, 0, none⟩), .pointer (some ⟨w.heap.size + 1, 0, none⟩)], args := #[] }] [(2, .int .i64 0), (3, .int .i64 0), (4, .pointer (some ⟨w.heap.size + 1, 0, none⟩))] (fun c w3 => c = gave R ∧ TX w3 F p s (cR + 1) q l m t n S G T ∧ Keeps F w w3 ∧ PoolAt w3 F a t n ∧ w3.heap[w.heap.size]? = some (.cells #[.pointer (some ⟨a, 0, none⟩)] 35 (0, 0)) ∧ w3.heap[w.heap.size + 1]? = some (.cells #[.int .i64 0] 39 (0, 0)))) ?_ ?_
  · rintro c A w3 ⟨hd, hsl, rfl, hx3, hk3, hp3, g1, g2⟩
    have s1 := hsl (2, .int .i64 0) (by simp)
    have s2 := hsl (3, .int .i64 0) (by simp)
    have s3 := hsl (4, .pointer (some ⟨w.heap.size + 1, 0, none⟩)) (by simp)
    dsimp only at s1 s2 s3
    rw [Array.getD_eq_getD_getElem?] at s1 s2 s3
    go_wp2
    show Leaves Tryz.prog _ A.tmps _ A.defers _ w3
    rw [hd]
    refine leaves_cons (f := 114) (args := #[.pointer (some ⟨w.heap.size, 0, none⟩), .pointer (some ⟨w.heap.size + 1, 0, none⟩)]) (by simp) (by simp [go_sem]) ?_
    refine (leftC_panic hx3 hp3 g1 g2 ht2 R).mono ?_
    rintro e u' w4 ⟨rfl, rfl, w5, hx5, hk5, hb5, hk6⟩
    have q2 : w4.cell? ⟨w.heap.size + 1, 0, none⟩ = some (.int .i64 R) := cell_of_block hb5 (j := 0) rfl
    simp [Leaves, settle, results, Tryz.results74, go_sem, s1, s2, s3, q2]
    exact ⟨(hx5.side HLo.out hk6 (fun k e => by omega)).le (by omega), ((hk3.mono (fun _ h => .inl h)).trans hk5 (fun _ e => .inl (.inr (.inl e)))).trans hk6 (fun k e => .inr (by omega))⟩
  refine wp_region_held_drew (S := (fun w' => w'.cell? ⟨w.heap.size, 0, none⟩ = some (.pointer (some ⟨a, 0, none⟩)))) (by kernel_rfl) (c0) (fun hHeld => ?_)
  refine wpAnyH_take (i := 0) (oi := { dst := some 6, op := Op.load 35 (Operand.tmp 1), type := 35, pos := "pool.go:56", after := #[], guard := none }) (v := .pointer (some ⟨a, 0, none⟩)) rfl (by kernel_rfl) (by kernel_rfl) (by kernel_rfl) (mixPut (d := 6) (by simp)) (Or.inl ⟨by rfl, ?_⟩) (by assumption) ?_
  · intro w hSw
    (try dsimp only at hSw)
    go_simp
  try simp only [Act.put, List.setIfInBounds_toArray, List.set_cons_zero, List.set_cons_succ]
  refine wpAnyH_take (i := 1) (oi := { dst := some 7, op := Op.load 35 (Operand.tmp 1), type := 35, pos := "pool.go:56", after := #[], guard := none }) (v := .pointer (some ⟨a, 0, none⟩)) rfl (by kernel_rfl) (by kernel_rfl) (by kernel_rfl) (mixPut (d := 7) (by simp)) (Or.inl ⟨by rfl, ?_⟩) (by assumption) ?_
  · intro w hSw
    (try dsimp only at hSw)
    go_simp
  try simp only [Act.put, List.setIfInBounds_toArray, List.set_cons_zero, List.set_cons_succ]
  refine wpAnyH_take (i := 4) (oi := { dst := some 10, op := Op.load 35 (Operand.tmp 1), type := 35, pos := "pool.go:56", after := #[], guard := none }) (v := .pointer (some ⟨a, 0, none⟩)) rfl (by kernel_rfl) (by kernel_rfl) (by kernel_rfl) (mixPut (d := 10) (by simp)) (Or.inl ⟨by rfl, ?_⟩) (by assumption) ?_
  · intro w hSw
    (try dsimp only at hSw)
    go_simp
  try simp only [Act.put, List.setIfInBounds_toArray, List.set_cons_zero, List.set_cons_succ]
  refine wpAnyH_take (i := 5) (oi := { dst := some 11, op := Op.load 35 (Operand.tmp 1), type := 35, pos := "pool.go:56", after := #[], guard := none }) (v := .pointer (some ⟨a, 0, none⟩)) rfl (by kernel_rfl) (by kernel_rfl) (by kernel_rfl) (mixPut (d := 11) (by simp)) (Or.inl ⟨by rfl, ?_⟩) (by assumption) ?_
  · intro w hSw
    (try dsimp only at hSw)
    go_simp
  try simp only [Act.put, List.setIfInBounds_toArray, List.set_cons_zero, List.set_cons_succ]
  refine wpAnyH_ready (rs := [2]) (by kernel_rfl) (by simp) ?_
  refine AllReadyH.cons (o := { dst := some 8, op := Op.call { callee := Callee.value (Operand.func 23), args := #[Operand.tmp 7], argTypes := #[35] }, type := 61, pos := "pool.go:56", after := #[{ on := 1, ground := Ground.data }], guard := none }) rfl (fun K hK => ?_) AllReadyH.nil
  go_simp
  refine hblk.mono ?_
  rintro e w2 ⟨rfl, hb2⟩
  have c0' : w2.cell? ⟨w.heap.size, 0, none⟩ = some (.pointer (some ⟨a, 0, none⟩)) := cell_of_block ((hb2.block _ (lt_there HG.out.1)).trans HG.out.1) (j := 0) rfl
  refine hK.out _ _ ?_ (fun hHeld => ?_)
  · exact c0'
  clear hK K
  try simp only [Act.put, List.setIfInBounds_toArray, List.set_cons_zero, List.set_cons_succ]
  refine wpAnyH_ready (rs := [3]) (by kernel_rfl) (by simp) ?_
  refine AllReadyH.cons (o := { dst := some 9, op := Op.call { callee := Callee.value (Operand.func 115), args := #[Operand.tmp 6, Operand.tmp 8], argTypes := #[35, 61] }, type := 3, pos := "pool.go:56", after := #[{ on := 0, ground := Ground.data }, { on := 2, ground := Ground.data }, { on := 2, ground := Ground.chain }], guard := none }) rfl (fun K hK => ?_) AllReadyH.nil
  go_simp
  refine (HT.out w2 hb2).mono ?_
  rintro e w3 ⟨rfl, hx3, hk3⟩
  have hk3w := (Keeps.of_below F HB.out).trans ((Keeps.of_below F hb2).trans hk3 (fun _ h => .inl h)) (fun _ h => .inl h)
  have g1 := (hk3.block _ (Nat.lt_of_lt_of_le (lt_there HG.out.1) hb2.size) (fun h => n1 (.inl h))).trans ((hb2.block _ (lt_there HG.out.1)).trans HG.out.1)
  have g2 := (hk3.block _ (Nat.lt_of_lt_of_le (lt_there HG.out.2) hb2.size) (fun h => n2 (.inl h))).trans ((hb2.block _ (lt_there HG.out.2)).trans HG.out.2)
  have hp3 := (HP.out.later hb2).keep (hk3.mono (fun _ h => .inl h))
  exact ⟨rfl, by simp, rfl, hx3, hk3w, hp3, g1, g2⟩
set_option maxRecDepth 20000 in
set_option maxHeartbeats 8000000 in
theorem left_ok (h : TX w F p s cR q l m t n S G T) (hp : PoolAt w F a t n) (h0 : T.state G S = 0) :
    Calls Tryz.prog 74 #[.pointer (some ⟨a, 0, none⟩)] w fun e w' => e = .returned (.tuple #[.int .i64 (T.pleft G S (bSt G.y) : Int), .int .i64 (T.pleft G S (nSt G.y) : Int), .int .i64 0]) ∧ TX w' F p s (cR + 2) q l m t n S G T ∧ Keeps (OwT F t n) w w' := by
  obtain ⟨hB1, hg1, hg2, hsz1⟩ := heap2 w (.cells #[.pointer (some ⟨a, 0, none⟩)] 35) (.cells #[.int .i64 0] 39)
  obtain ⟨w1, hw1⟩ : ∃ w1, w1 = (w.alloc (.cells #[.pointer (some ⟨a, 0, none⟩)] 35)).alloc (.cells #[.int .i64 0] 39) := ⟨_, rfl⟩
  rw [← hw1] at hB1 hg1 hg2 hsz1
  have hlt := h.lt
  have hx1 := h.later hB1
  have hp1 := hp.later hB1
  have hblk := blocks_any hx1 hp1
  have hr1 := refusal_ok h (bSt G.y) (bSt_ok h.yk) h0
  have hr2 := refusal_ok h (nSt G.y) (nSt_ok h.yk) h0
  have HT : Hid (∀ w2, Below w1.drew.heap.size w1.drew w2 → Calls Tryz.prog 115 #[.pointer (some ⟨a, 0, none⟩), stkV (bSt G.y)] w2 fun e w' => e = .returned (.int .i64 (T.pleft G S (bSt G.y) : Int)) ∧ TX w' F p s (cR + 1) q l m t n S G T ∧ Keeps F w2 w') := fun w2 hb => pleft_ok (hx1.later hb) (hp1.later hb) (bSt G.y) (bSt_ok h.yk) hr1
  have HN : Hid (∀ w2 c, TX w2 F p s c q l m t n S G T → PoolAt w2 F a t n → Calls Tryz.prog 115 #[.pointer (some ⟨a, 0, none⟩), stkV (nSt G.y)] w2 fun e w' => e = .returned (.int .i64 (T.pleft G S (nSt G.y) : Int)) ∧ TX w' F p s (c + 1) q l m t n S G T ∧ Keeps F w2 w') := fun w2 c hx hp => pleft_ok hx hp (nSt G.y) (nSt_ok h.yk) hr2
  have c0 : w1.drew.cell? ⟨w.heap.size, 0, none⟩ = some (.pointer (some ⟨a, 0, none⟩)) := cell_of_block hg1 (j := 0) rfl
  have n1 : ¬ OwT F t n w.heap.size := fun hf => by have := hlt _ hf; omega
  have n2 : ¬ OwT F t n (w.heap.size + 1) := fun hf => by have := hlt _ hf; omega
  have HG := Hid.mk (And.intro hg1 hg2)
  have HB := Hid.mk hB1
  have HP := Hid.mk hp1
  have HLo := Hid.mk h.low
  have hpa := hp.lt
  generalize T.pleft G S (bSt G.y) = R1 at *
  generalize T.pleft G S (nSt G.y) = R2 at *
  clear hr1 hr2
  have ht2 : w.heap.size + 1 ≠ t := fun e => n2 (.inr (.inl e))
  clear h hp hB1 hx1 hp1 hg1 hg2 h0
  go_enter_defers Tryz.func74, Tryz.ntmps74
  go_wp2_with fail
  rw [← hw1]
  clear hw1
  refine wp_mixed (PnT [{ target := .fn (.func 114) #[.pointer (some ⟨w.heap.size, 0, none⟩), .pointer (some ⟨w.heap.size + 1, 0, none⟩)], args := #[] }] [] (fun _ _ => False)) ?_ ?_
  · rintro c A w3 ⟨_, _, h⟩
    exact h.elim
  refine wp_region_held_drew (S := (fun w' => w'.cell? ⟨w.heap.size, 0, none⟩ = some (.pointer (some ⟨a, 0, none⟩)))) (by kernel_rfl) (c0) (fun hHeld => ?_)
  refine wpAnyH_take (i := 0) (oi := { dst := some 6, op := Op.load 35 (Operand.tmp 1), type := 35, pos := "pool.go:56", after := #[], guard := none }) (v := .pointer (some ⟨a, 0, none⟩)) rfl (by kernel_rfl) (by kernel_rfl) (by kernel_rfl) (mixPut (d := 6) (by simp)) (Or.inl ⟨by rfl, ?_⟩) (by assumption) ?_
  · intro w hSw
    (try dsimp only at hSw)
    go_simp
  try simp only [Act.put, List.setIfInBounds_toArray, List.set_cons_zero, List.set_cons_succ]
  refine wpAnyH_take (i := 1) (oi := { dst := some 7, op := Op.load 35 (Operand.tmp 1), type := 35, pos := "pool.go:56", after := #[], guard := none }) (v := .pointer (some ⟨a, 0, none⟩)) rfl (by kernel_rfl) (by kernel_rfl) (by kernel_rfl) (mixPut (d := 7) (by simp)) (Or.inl ⟨by rfl, ?_⟩) (by assumption) ?_
  · intro w hSw
    (try dsimp only at hSw)
    go_simp
  try simp only [Act.put, List.setIfInBounds_toArray, List.set_cons_zero, List.set_cons_succ]
  refine wpAnyH_take (i := 4) (oi := { dst := some 10, op := Op.load 35 (Operand.tmp 1), type := 35, pos := "pool.go:56", after := #[], guard := none }) (v := .pointer (some ⟨a, 0, none⟩)) rfl (by kernel_rfl) (by kernel_rfl) (by kernel_rfl) (mixPut (d := 10) (by simp)) (Or.inl ⟨by rfl, ?_⟩) (by assumption) ?_
  · intro w hSw
    (try dsimp only at hSw)
    go_simp
  try simp only [Act.put, List.setIfInBounds_toArray, List.set_cons_zero, List.set_cons_succ]
  refine wpAnyH_take (i := 5) (oi := { dst := some 11, op := Op.load 35 (Operand.tmp 1), type := 35, pos := "pool.go:56", after := #[], guard := none }) (v := .pointer (some ⟨a, 0, none⟩)) rfl (by kernel_rfl) (by kernel_rfl) (by kernel_rfl) (mixPut (d := 11) (by simp)) (Or.inl ⟨by rfl, ?_⟩) (by assumption) ?_
  · intro w hSw
    (try dsimp only at hSw)
    go_simp
  try simp only [Act.put, List.setIfInBounds_toArray, List.set_cons_zero, List.set_cons_succ]
  refine wpAnyH_ready (rs := [2]) (by kernel_rfl) (by simp) ?_
  refine AllReadyH.cons (o := { dst := some 8, op := Op.call { callee := Callee.value (Operand.func 23), args := #[Operand.tmp 7], argTypes := #[35] }, type := 61, pos := "pool.go:56", after := #[{ on := 1, ground := Ground.data }], guard := none }) rfl (fun K hK => ?_) AllReadyH.nil
  go_simp
  refine hblk.mono ?_
  rintro e w2 ⟨rfl, hb2⟩
  have c0' : w2.cell? ⟨w.heap.size, 0, none⟩ = some (.pointer (some ⟨a, 0, none⟩)) := cell_of_block ((hb2.block _ (lt_there HG.out.1)).trans HG.out.1) (j := 0) rfl
  refine hK.out _ _ ?_ (fun hHeld => ?_)
  · exact c0'
  clear hK K
  try simp only [Act.put, List.setIfInBounds_toArray, List.set_cons_zero, List.set_cons_succ]
  refine wpAnyH_ready (rs := [3]) (by kernel_rfl) (by simp) ?_
  refine AllReadyH.cons (o := { dst := some 9, op := Op.call { callee := Callee.value (Operand.func 115), args := #[Operand.tmp 6, Operand.tmp 8], argTypes := #[35, 61] }, type := 3, pos := "pool.go:56", after := #[{ on := 0, ground := Ground.data }, { on := 2, ground := Ground.data }, { on := 2, ground := Ground.chain }], guard := none }) rfl (fun K hK => ?_) AllReadyH.nil
  go_simp
  refine (HT.out w2 hb2).mono ?_
  rintro e w3 ⟨rfl, hx3, hk3⟩
  have hk3w := (Keeps.of_below F HB.out).trans ((Keeps.of_below F hb2).trans hk3 (fun _ h => .inl h)) (fun _ h => .inl h)
  have g1 := (hk3.block _ (Nat.lt_of_lt_of_le (lt_there HG.out.1) hb2.size) (fun h => n1 (.inl h))).trans ((hb2.block _ (lt_there HG.out.1)).trans HG.out.1)
  have g2 := (hk3.block _ (Nat.lt_of_lt_of_le (lt_there HG.out.2) hb2.size) (fun h => n2 (.inl h))).trans ((hb2.block _ (lt_there HG.out.2)).trans HG.out.2)
  have hp3 := (HP.out.later hb2).keep (hk3.mono (fun _ h => .inl h))
  have hnd := nodes_any hx3 hp3
  have HQ : Hid (TX w3 F p s (cR + 1) q l m t n S G T ∧ Keeps F w w3 ∧ PoolAt w3 F a t n ∧ w3.heap[w.heap.size]? = some (.cells #[.pointer (some ⟨a, 0, none⟩)] 35 (0, 0)) ∧ w3.heap[w.heap.size + 1]? = some (.cells #[.int .i64 0] 39 (0, 0))) := ⟨hx3, hk3w, hp3, g1, g2⟩
  have c1 : w3.cell? ⟨w.heap.size, 0, none⟩ = some (.pointer (some ⟨a, 0, none⟩)) := cell_of_block g1 (j := 0) rfl
  clear hblk hb2 c0 c0' hx3 hk3 hk3w g1 g2 hp3 HT
  refine hK.out _ _ ?_ (fun hHeld => ?_)
  · exact c1
  clear hK K
  try simp only [Act.put, List.setIfInBounds_toArray, List.set_cons_zero, List.set_cons_succ]
  refine wpAnyH_ready (rs := [6]) (by kernel_rfl) (by simp) ?_
  refine AllReadyH.cons (o := { dst := some 12, op := Op.call { callee := Callee.value (Operand.func 24), args := #[Operand.tmp 11], argTypes := #[35] }, type := 61, pos := "pool.go:56", after := #[{ on := 5, ground := Ground.data }, { on := 3, ground := Ground.chain }], guard := none }) rfl (fun K hK => ?_) AllReadyH.nil
  go_simp
  refine hnd.mono ?_
  rintro e w4 ⟨rfl, hb4⟩
  have c2 : w4.cell? ⟨w.heap.size, 0, none⟩ = some (.pointer (some ⟨a, 0, none⟩)) := cell_of_block ((hb4.block _ (lt_there HQ.out.2.2.2.1)).trans HQ.out.2.2.2.1) (j := 0) rfl
  refine hK.out _ _ ?_ (fun hHeld => ?_)
  · exact c2
  clear hK K
  try simp only [Act.put, List.setIfInBounds_toArray, List.set_cons_zero, List.set_cons_succ]
  refine wpAnyH_ready (rs := [7]) (by kernel_rfl) (by simp) ?_
  refine AllReadyH.cons (o := { dst := some 13, op := Op.call { callee := Callee.value (Operand.func 115), args := #[Operand.tmp 10, Operand.tmp 12], argTypes := #[35, 61] }, type := 3, pos := "pool.go:56", after := #[{ on := 4, ground := Ground.data }, { on := 6, ground := Ground.data }, { on := 6, ground := Ground.chain }], guard := none }) rfl (fun K hK => ?_) AllReadyH.nil
  go_simp
  refine (HN.out w4 _ (HQ.out.1.later hb4) (HQ.out.2.2.1.later hb4)).mono ?_
  rintro e w5 ⟨rfl, hx5, hk5⟩
  have hk5w := HQ.out.2.1.trans ((Keeps.of_below F hb4).trans hk5 (fun _ h => .inl h)) (fun _ h => .inl h)
  have g1 := (hk5.block _ (Nat.lt_of_lt_of_le (lt_there HQ.out.2.2.2.1) hb4.size) (fun h => n1 (.inl h))).trans ((hb4.block _ (lt_there HQ.out.2.2.2.1)).trans HQ.out.2.2.2.1)
  have g2 := (hk5.block _ (Nat.lt_of_lt_of_le (lt_there HQ.out.2.2.2.2) hb4.size) (fun h => n2 (.inl h))).trans ((hb4.block _ (lt_there HQ.out.2.2.2.2)).trans HQ.out.2.2.2.2)
  have hp5 := (HQ.out.2.2.1.later hb4).keep (hk5.mono (fun _ h => .inl h))
  have HQ5 : Hid (TX w5 F p s (cR + 2) q l m t n S G T ∧ Keeps (OwT F t n) w w5 ∧ PoolAt w5 F a t n) := ⟨hx5, hk5w.mono (fun _ h => .inl h), hp5⟩
  have c3 : w5.cell? ⟨w.heap.size, 0, none⟩ = some (.pointer (some ⟨a, 0, none⟩)) := cell_of_block g1 (j := 0) rfl
  have d0 : w5.cell? ⟨w.heap.size + 1, 0, none⟩ = some (.int .i64 0) := cell_of_block g2 (j := 0) rfl
  have f0 := frozen_of_block g2 0
  have HGG := Hid.mk (And.intro g1 g2)
  clear hnd hb4 c1 c2 hx5 hk5 hk5w g1 g2 hp5 HN HQ
  refine hK.out _ _ ?_ (fun hHeld => ?_)
  · exact c3
  clear hK K
  try simp only [Act.put, List.setIfInBounds_toArray, List.set_cons_zero, List.set_cons_succ]
  refine wpAnyH_ready (rs := [8]) (by kernel_rfl) (by simp) ?_
  refine AllReadyH.cons (o := { dst := some 2, op := Op.assign (Operand.tmp 9), type := 3, pos := "pool.go:56", after := #[{ on := 3, ground := Ground.data }, { on := 7, ground := Ground.chain }, { on := 0, ground := Ground.phase }, { on := 1, ground := Ground.phase }, { on := 2, ground := Ground.phase }, { on := 3, ground := Ground.phase }, { on := 4, ground := Ground.textOnly Departure.lateStoresUnsure }, { on := 5, ground := Ground.textOnly Departure.lateStoresUnsure }, { on := 6, ground := Ground.textOnly Departure.lateStoresUnsure }, { on := 7, ground := Ground.textOnly Departure.lateStoresUnsure }], guard := none }) rfl (fun K hK => ?_) AllReadyH.nil
  go_simp
  refine hK.out _ _ ?_ (fun hHeld => ?_)
  · exact c3
  clear hK K
  try simp only [Act.put, List.setIfInBounds_toArray, List.set_cons_zero, List.set_cons_succ]
  refine wpAnyH_ready (rs := [9]) (by kernel_rfl) (by simp) ?_
  refine AllReadyH.cons (o := { dst := some 3, op := Op.assign (Operand.tmp 13), type := 3, pos := "pool.go:56", after := #[{ on := 7, ground := Ground.data }, { on := 8, ground := Ground.chain }, { on := 0, ground := Ground.phase }, { on := 1, ground := Ground.phase }, { on := 2, ground := Ground.phase }, { on := 3, ground := Ground.phase }, { on := 4, ground := Ground.phase }, { on := 5, ground := Ground.phase }, { on := 6, ground := Ground.phase }, { on := 7, ground := Ground.phase }, { on := 8, ground := Ground.phase }], guard := none }) rfl (fun K hK => ?_) AllReadyH.nil
  go_simp
  refine hK.out _ _ ?_ (fun hHeld => ?_)
  · exact c3
  clear hK K
  try simp only [Act.put, List.setIfInBounds_toArray, List.set_cons_zero, List.set_cons_succ]
  have pe := putsE (w := w5) (w' := w5) (x := 0) (.int .i64 0) rfl (Keeps.refl _ _) HGG.out.2
  have c9 : (w5.setCell ⟨w.heap.size + 1, 0, none⟩ (.int .i64 0)).cell? ⟨w.heap.size, 0, none⟩ = some (.pointer (some ⟨a, 0, none⟩)) := cell_of_block ((pe.2.block _ (lt_there HGG.out.1) (by omega)).trans HGG.out.1) (j := 0) rfl
  refine wpAnyH_ready (rs := [10]) (by kernel_rfl) (by simp) ?_
  refine AllReadyH.cons (o := { dst := none, op := Op.store 39 (Operand.tmp 4) (Operand.const (Value.int IntKind.i64 0)), type := 0, pos := "pool.go:56", after := #[{ on := 9, ground := Ground.chain }, { on := 0, ground := Ground.phase }, { on := 1, ground := Ground.phase }, { on := 2, ground := Ground.phase }, { on := 3, ground := Ground.phase }, { on := 4, ground := Ground.phase }, { on := 5, ground := Ground.phase }, { on := 6, ground := Ground.phase }, { on := 7, ground := Ground.phase }, { on := 8, ground := Ground.phase }, { on := 9, ground := Ground.phase }], guard := none }) rfl (fun K hK => ?_) AllReadyH.nil
  go_simp
  refine hK.out _ _ ?_ (fun hHeld => ?_)
  · exact c9
  clear hK K
  try simp only [Act.put, List.setIfInBounds_toArray, List.set_cons_zero, List.set_cons_succ]
  refine wpAnyH_done (by kernel_rfl) ?_ _
  dsimp only [mixP]
  obtain ⟨w6, hw6⟩ : ∃ w6, w6 = w5.setCell ⟨w.heap.size + 1, 0, none⟩ (.int .i64 0) := ⟨_, rfl⟩
  rw [← hw6] at pe
  rw [← hw6]
  clear hw6 hHeld c9
  have HPe := Hid.mk pe
  clear pe c3 d0 f0
  go_wp2
  refine leaves_cons (f := 114) (args := #[.pointer (some ⟨w.heap.size, 0, none⟩), .pointer (some ⟨w.heap.size + 1, 0, none⟩)]) (by simp) (by simp [go_sem]) ?_
  have hp6 : PoolAt w6 F a t n := ⟨(HPe.out.2.block a HQ5.out.2.2.lt (by omega)).trans HQ5.out.2.2.b, HQ5.out.2.2.nf⟩
  have g6 := (HPe.out.2.block _ (lt_there HGG.out.1) (by omega)).trans HGG.out.1
  refine (leftC_idle hp6 g6 HPe.out.1).mono ?_
  rintro e u' w7 ⟨rfl, rfl, hb7, hk7⟩
  have q2 : w7.cell? ⟨w.heap.size + 1, 0, none⟩ = some (.int .i64 0) := cell_of_block hb7 (j := 0) rfl
  simp [Leaves, settle, results, Tryz.results74, go_sem, q2]
  exact ⟨(HQ5.out.1.side HLo.out HPe.out.2 (fun k e => by omega)).side HLo.out hk7 (fun k e => by omega), (HQ5.out.2.1.trans HPe.out.2 (fun k e => .inr (by omega))).trans hk7 (fun k e => .inr (by omega))⟩
end
end Go.Proofs.YthohoicgidjpfabGreat
end

section
namespace Go.Proofs.YthohoicgidjpfabGreat
open Go.RowKit Go.Maps

theorem free_clr (l : List Bool) (i : Nat) : ∀ n, i + n ≤ 4096 → freeN (bmOf l) i n = clrN l i n
  | 0, _ => rfl
  | n + 1, h => by
    unfold freeN clrN
    rw [free_clr l i n (by omega), bm_bit l (by omega)]
section
variable {w w' w0 w1 w2 : World} {F X Y Z : Nat → Prop} {kr p s cR q l m t n a1 a2 k pa : Nat} {S : DS} {G : SG} {T : TG} {M : MP} {N : Int} {who two : Bool} {da : Option Addr} {dn dc : Nat}
theorem CL.left (h : CL G S T M) (hy : YOk G.y) (hdt : G.y.data = 2 + G.y.nodes / 4) : T.pleft G S (bSt G.y) = M.left0 ∧ T.pleft G S (nSt G.y) = M.left1 := by
  have := hy.dy
  have := hy.bl
  have := hy.nd
  refine ⟨?_, ?_⟩
  · show freeN (T.sees G S 0) (G.y.data - 0) (G.y.blocks - G.y.data) = clrN M.nb (2 + M.nodes / 4) (M.blocks - (2 + M.nodes / 4))
    rw [h.s0, h.mn, h.mb, ← hdt, Nat.sub_zero]
    exact free_clr _ _ _ (by omega)
  · show freeN (T.sees G S 1) (1 - 1) G.y.nodes = clrN M.nn 0 M.nodes
    rw [h.s1, h.mn]
    exact free_clr _ _ _ (by omega)
/-- Left on both sides: the same answers, nothing changes. -/
theorem left_both (h : RgW w F X kr p s cR q l m t n a1 a2 k S G T M) (hc : CK G S T M) (hd : G.L.dead S = false) (hdt : G.y.data = 2 + G.y.nodes / 4) (hpa : PoolAt w F pa t n) : ∃ x y z : Int,
    (Calls Tryz.prog 74 #[.pointer (some ⟨pa, 0, none⟩)] w fun e w' => e = .returned (.tuple #[.int .i64 x, .int .i64 y, .int .i64 z]) ∧ TX w' F p s (cR + 2) q l m t n S G T ∧ Keeps (OwT F t n) w w') ∧
    ∀ w1, MX w1 X k M → Calls Tryz.prog 75 #[.pointer (some ⟨k, 0, none⟩)] w1 fun e w' => e = .returned (.tuple #[.int .i64 x, .int .i64 y, .int .i64 z]) ∧ Below w1.heap.size w1 w' := by
  have hs := hc.state hd
  have hms := hc.mstate
  obtain ⟨gg1, gg2, gg3⟩ := hc.geo h.x.yk hdt
  by_cases h0 : M.bad = 0
  · rw [h0] at hs hms
    obtain ⟨e1, e2⟩ := (hc.clean h0).left h.x.yk hdt
    have k1 := left_ok h.x hpa hs
    rw [e1, e2] at k1
    exact ⟨_, _, _, k1, fun w1 hm => (mleft_ok hm hms gg1 gg2 gg3).mono (fun _ _ ⟨he, n, hn⟩ => ⟨he, by rw [hn]; exact below_drewN (Below.refl _ _) n⟩)⟩
  · have k1 := left_no h.x hpa (by rw [hs]; exact h0)
    rw [spoil_no (by rw [hs]; exact h0), hs] at k1
    exact ⟨_, _, _, k1, fun w1 hm => (mleft_no hm (by rw [hms]; exact h0)).mono (fun _ _ ⟨he, hn⟩ => ⟨by rw [← hms]; exact he, by rw [hn]; exact Below.refl _ _⟩)⟩
set_option maxRecDepth 20000 in
set_option maxHeartbeats 4000000 in
theorem calls6_any (h : RgW w F X kr p s cR q l m t n a1 a2 k S G T M) (hc : CK G S T M) (hd : G.L.dead S = false) (hdt : G.y.data = 2 + G.y.nodes / 4) (hpa : PoolAt w F pa t n) :
    Calls Tryz.prog 34 #[.pointer (some ⟨kr, 0, none⟩), .pointer (some ⟨pa, 0, none⟩), stpV 6 N who two da dn dc] w fun e w' => StpK w w' F X kr p s q l m t n a1 a2 k S G e := by
  have hB0 := below_box w (stpC 6 N who two da dn dc)
  have hbx := heap_alloc_new w (stpC 6 N who two da dn dc)
  have g0 : (w.alloc (stpC 6 N who two da dn dc)).cell? ⟨w.heap.size, 0, none⟩ = some (.int .i64 6) := cell_of_block hbx (j := 0) rfl
  have h0 := h.later hB0
  obtain ⟨x, y, z, kc, KM'⟩ := left_both h0 hc hd hdt (hpa.later hB0)
  have KM := Hid.mk KM'
  have H0 := Hid.mk (And.intro h0 hB0)
  have HC := Hid.mk hc
  clear h hc hd hdt hpa hB0 hbx h0 KM'
  go_enter Tryz.func34, Tryz.ntmps34
  go_wp2_with fail
  refine kc.mono ?_
  rintro e w1 ⟨rfl, hx1, hk1⟩
  have hk1' : Keeps (fun j => OwT F t n j ∨ X j) (w.alloc (stpC 6 N who two da dn dc)) w1 := hk1.mono (fun _ h => .inl h)
  have h1 := H0.out.1.after (Y := X) hx1 (H0.out.1.mm.apart hk1 (fun j e hx => H0.out.1.offX j hx e)) hk1' (fun _ h => .inl h)
  have ce : w1.cell? ⟨kr, 4, none⟩ = some (.pointer (some ⟨k, 0, none⟩)) := cell_of_block h1.b (j := 4) rfl
  have km := KM.out w1 h1.mm
  have H1 := Hid.mk (And.intro h1 hk1')
  clear kc hx1 hk1 hk1' h1 g0 KM
  go_wp2_with fail
  refine km.mono ?_
  rintro e w2 ⟨rfl, hb2⟩
  have HE : Hid (StpK w w2 F X kr p s q l m t n a1 a2 k S G (.returned (.bool true))) := H1.out.1.both H0.out.2 H1.out.2 HC.out ((H1.out.1.mm.later hb2).mono (fun _ h => .inl h)) (Keeps.of_below _ hb2)
  have kn := num6_any z w2
  clear km hb2 H1 ce HC H0
  go_wp2_with fail
  refine kn.mono ?_
  rintro e wx ⟨rfl, hwx⟩
  have hwx' := hwx.symm
  subst hwx'
  clear hwx kn
  go_wp2
  go_ret
  exact HE.out
end
end Go.Proofs.YthohoicgidjpfabGreat
end

section
namespace Go.Proofs.YthohoicgidjpfabGreat
open Go.RowKit Go.Maps

theorem CK.wmap {S : DS} {G : SG} {T : TG} {M : MP} (h : CK G S T M) (hd : G.L.dead S = false) (hy : YOk G.y) (hok : CM.Ok T.puts) {b : Nat} (hb : b < 2) {d : List Int} (hby : Bytes d) (hl : d.length = 512) : ∃ z T' M', T.put G S (b : Int) d = (z, T') ∧ M.wmap b d = (z, M') ∧ CK G S T' M' := by
  by_cases h0 : M.bad = 0
  · obtain ⟨T1, M1, a1, a2, a3⟩ := (h.clean h0).wmap hd hy hok hb hby hl
    exact ⟨0, T1, M1, a1, a2, a3.ck⟩
  · have hs := h.state hd
    have hs0 : T.state G S ≠ 0 := by rw [hs]; exact h0
    refine ⟨M.bad, T, M, ?_, ?_, h⟩
    · unfold TG.put
      rw [refusal_st hs0, if_pos hs0, hs]
    · unfold MP.wmap
      rw [if_pos (by rw [h.mstate]; exact h0), h.mstate]
theorem CK.clearK {S : DS} {G : SG} {T : TG} {M : MP} (h : CK G S T M) (hd : G.L.dead S = false) (hy : YOk G.y) (hdt : G.y.data = 2 + G.y.nodes / 4) (hok : CM.Ok T.puts) : ∃ z T' M', T.pclear G S = (z, T') ∧ M.clear = (z, M') ∧ CK G S T' M' := by
  by_cases h0 : M.bad = 0
  · obtain ⟨T1, M1, a1, a2, a3⟩ := (h.clean h0).clear hd hy hdt hok
    exact ⟨0, T1, M1, a1, a2, a3.ck⟩
  · have hs := h.state hd
    have hs0 : T.state G S ≠ 0 := by rw [hs]; exact h0
    have e1 : ∀ (b : Int) (d : List Int), T.put G S b d = (T.state G S, T) := fun b d => by
      unfold TG.put
      rw [refusal_st hs0, if_pos hs0]
    refine ⟨M.bad, T, M, ?_, ?_, h⟩
    · unfold TG.pclear
      rw [e1]
      dsimp only
      rw [if_pos hs0, spoil_no hs0, hs]
    · unfold MP.clear
      rw [if_pos (by rw [h.mstate]; exact h0), h.mstate]
section
variable {w : World} {F X : Nat → Prop} {kr p s cR q l m t n a1 a2 k pa : Nat} {S : DS} {G : SG} {T : TG} {M : MP} {N : Int} {who two : Bool} {da : Option Addr} {dn dc : Nat} {dl : List Int}
set_option maxRecDepth 20000 in
set_option maxHeartbeats 8000000 in
theorem rawK_any (h : RgW w F X kr p s cR q l m t n a1 a2 k S G T M) (hc : CK G S T M) (hd : G.L.dead S = false) (hpa : PoolAt w F pa t n) (hN : I64 N) (hs : ∀ w', Keeps (fun j => OwT F t n j ∨ X j) w w' → Src w' da dn dl) (hby : Bytes dl) (hdn : dn ≤ 140737488355328) :
    Calls Tryz.prog 36 #[.pointer (some ⟨kr, 0, none⟩), .pointer (some ⟨pa, 0, none⟩), stpV 11 N who two da dn dc] w fun e w' => StpK w w' F X kr p s q l m t n a1 a2 k S G e := by
  obtain ⟨b, hb⟩ : ∃ b, b = wthn N 0 1 := ⟨_, rfl⟩
  have hb2 : b < 2 := by have := (wthn_in N (lo := 0) (hi := 1) (by omega)).2; omega
  obtain ⟨zz, T1, M1, q1, q2, hc1⟩ := hc.wmap hd h.x.yk h.x.tx.ch.ok hb2 (pad5_bytes hby) (pad5_len dl)
  have hB0 := below_box w (stpC 11 N who two da dn dc)
  have hbx := heap_alloc_new w (stpC 11 N who two da dn dc)
  have g0 : (w.alloc (stpC 11 N who two da dn dc)).cell? ⟨w.heap.size, 0, none⟩ = some (.int .i64 11) := cell_of_block hbx (j := 0) rfl
  have g1 : (w.alloc (stpC 11 N who two da dn dc)).cell? ⟨w.heap.size, 1, none⟩ = some (.int .i64 N) := cell_of_block hbx (j := 1) rfl
  have g4 : (w.alloc (stpC 11 N who two da dn dc)).cell? ⟨w.heap.size, 4, none⟩ = some (.slice da dn dc) := cell_of_block hbx (j := 4) rfl
  have h0 := h.later hB0
  have ce : (w.alloc (stpC 11 N who two da dn dc)).cell? ⟨kr, 4, none⟩ = some (.pointer (some ⟨k, 0, none⟩)) := cell_of_block h0.b (j := 4) rfl
  have cb : (w.alloc (stpC 11 N who two da dn dc)).cell? ⟨k, 0, none⟩ = some (.int .i64 (M.blocks : Int)) := by
    obtain ⟨gq1, cq1, gq2, cq2, gq3, cq3, gq4, cq4, v5, v6, v7, hma⟩ := h0.mm
    exact cell_of_block hma.b (j := 0) rfl
  have hmb : 2 ≤ M.blocks := by have := h.x.yk.b2; have h9 : M.blocks = G.y.blocks := hc.cl.mb; omega
  have hmb2 : ¬ (M.blocks : Int) ≤ (b : Int) := by omega
  have kw1 := within6_any N 0 29 (by omega) (by omega) ⟨hN.1, hN.2⟩ (w.alloc (stpC 11 N who two da dn dc))
  have kw2 := within6_any N 0 1 (by omega) (by omega) ⟨hN.1, hN.2⟩ (w.alloc (stpC 11 N who two da dn dc))
  rw [← hb] at kw2
  have hwl := (wthn_in N (lo := 0) (hi := 29) (by omega)).2
  generalize wthn N 0 29 = y at *
  have HPa := Hid.mk (hpa.later hB0)
  have c0 := HPa.out.c0
  have H6 : Hid (∀ w', Below (w.alloc (stpC 11 N who two da dn dc)).heap.size (w.alloc (stpC 11 N who two da dn dc)) w' → w'.cell? ⟨pa, 0, none⟩ = some (.pointer (some ⟨t, 0, none⟩)) ∧ w'.cell? ⟨w.heap.size, 4, none⟩ = some (.slice da dn dc)) := fun w' hw => ⟨cell_later hw c0, cell_later hw g4⟩
  have HD0 : Hid (Below (w.alloc (stpC 11 N who two da dn dc)).heap.size (w.alloc (stpC 11 N who two da dn dc)) (w.alloc (stpC 11 N who two da dn dc)).drew) := (Keeps.drew (fun _ => False) _).below (fun _ h => h.elim) (Nat.le_refl _)
  have HNo : Hid (¬ OwT F t n w.heap.size) := fun e => by have := h.x.lt _ e; omega
  have HR := Hid.mk h
  have HR0 := Hid.mk h0
  have HB0 := Hid.mk hB0
  have HBx := Hid.mk hbx
  have HC := Hid.mk (And.intro hc hc1)
  have HQ1 := Hid.mk q1
  have HQ2 := Hid.mk q2
  have HSr := Hid.mk hs
  clear h hc hd hpa hs q1 q2 hc1 hB0 hbx h0 c0 hb g4
  go_enter Tryz.func36, Tryz.ntmps36
  go_wp2_with fail
  refine kw1.mono ?_
  rintro e wx ⟨rfl, hwx⟩
  subst hwx
  clear kw1
  go_wp2_with fail
  refine kw2.mono ?_
  rintro e wx ⟨rfl, hwx⟩
  subst hwx
  clear kw2
  go_wp2_with fail
  refine wp_region_held_drew (S := (fun w' => w'.cell? ⟨pa, 0, none⟩ = some (.pointer (some ⟨t, 0, none⟩)) ∧ w'.cell? ⟨w.heap.size, 4, none⟩ = some (.slice da dn dc))) (by kernel_rfl) (H6.out _ HD0.out) (fun hHeld => ?_)
  refine wpAnyH_take (i := 0) (oi := { dst := some 29, op := Op.move (Operand.tmp 1), type := 35, pos := "exact.go:156", after := #[], guard := none }) (v := .pointer (some ⟨pa, 0, none⟩)) rfl (by kernel_rfl) (by kernel_rfl) (by kernel_rfl) (fun _ _ _ h => h) (Or.inl ⟨by rfl, ?_⟩) (by assumption) ?_
  · intro w hSw
    (try dsimp only at hSw)
    go_simp
  try simp only [Act.put, List.setIfInBounds_toArray, List.set_cons_zero, List.set_cons_succ]
  refine wpAnyH_take (i := 1) (oi := { dst := some 30, op := Op.nilCheck (Operand.tmp 29), type := 0, pos := "exact.go:156", after := #[{ on := 0, ground := Ground.data }], guard := none }) (v := .pointer (some ⟨pa, 0, none⟩)) rfl (by kernel_rfl) (by kernel_rfl) (by kernel_rfl) (fun _ _ _ h => h) (Or.inl ⟨by rfl, ?_⟩) (by assumption) ?_
  · intro w hSw
    (try dsimp only at hSw)
    go_simp
  try simp only [Act.put, List.setIfInBounds_toArray, List.set_cons_zero, List.set_cons_succ]
  refine wpAnyH_take (i := 2) (oi := { dst := some 31, op := Op.fieldAddr 59 (Operand.tmp 30) 0, type := 0, pos := "exact.go:156", after := #[{ on := 1, ground := Ground.data }], guard := none }) (v := .pointer (some ⟨pa, 0, none⟩)) rfl (by kernel_rfl) (by kernel_rfl) (by kernel_rfl) (fun _ _ _ h => h) (Or.inl ⟨by rfl, ?_⟩) (by assumption) ?_
  · intro w hSw
    (try dsimp only at hSw)
    go_simp
  try simp only [Act.put, List.setIfInBounds_toArray, List.set_cons_zero, List.set_cons_succ]
  refine wpAnyH_take (i := 3) (oi := { dst := some 32, op := Op.load 57 (Operand.tmp 31), type := 57, pos := "exact.go:156", after := #[{ on := 2, ground := Ground.data }], guard := none }) (v := .pointer (some ⟨t, 0, none⟩)) rfl (by kernel_rfl) (by kernel_rfl) (by kernel_rfl) (fun _ _ _ h => h) (Or.inl ⟨by rfl, ?_⟩) (by assumption) ?_
  · intro w hSw
    (try dsimp only at hSw)
    go_simp
  try simp only [Act.put, List.setIfInBounds_toArray, List.set_cons_zero, List.set_cons_succ]
  refine wpAnyH_take (i := 4) (oi := { dst := some 33, op := Op.move (Operand.tmp 7), type := 3, pos := "exact.go:156", after := #[], guard := none }) (v := .int .i64 (b : Int)) rfl (by kernel_rfl) (by kernel_rfl) (by kernel_rfl) (fun _ _ _ h => h) (Or.inl ⟨by rfl, ?_⟩) (by assumption) ?_
  · intro w hSw
    (try dsimp only at hSw)
    go_simp
  try simp only [Act.put, List.setIfInBounds_toArray, List.set_cons_zero, List.set_cons_succ]
  refine wpAnyH_take (i := 5) (oi := { dst := some 34, op := Op.fieldAddr 46 (Operand.tmp 5) 4, type := 0, pos := "exact.go:156", after := #[], guard := none }) (v := .pointer (some ⟨w.heap.size, 4, none⟩)) rfl (by kernel_rfl) (by kernel_rfl) (by kernel_rfl) (fun _ _ _ h => h) (Or.inl ⟨by rfl, ?_⟩) (by assumption) ?_
  · intro w hSw
    (try dsimp only at hSw)
    go_simp
  try simp only [Act.put, List.setIfInBounds_toArray, List.set_cons_zero, List.set_cons_succ]
  refine wpAnyH_take (i := 6) (oi := { dst := some 35, op := Op.load 44 (Operand.tmp 34), type := 44, pos := "exact.go:156", after := #[{ on := 5, ground := Ground.data }], guard := none }) (v := .slice da dn dc) rfl (by kernel_rfl) (by kernel_rfl) (by kernel_rfl) (fun _ _ _ h => h) (Or.inl ⟨by rfl, ?_⟩) (by assumption) ?_
  · intro w hSw
    (try dsimp only at hSw)
    go_simp
  try simp only [Act.put, List.setIfInBounds_toArray, List.set_cons_zero, List.set_cons_succ]
  refine wpAnyH_ready (rs := [7]) (by kernel_rfl) (by simp) ?_
  refine AllReadyH.cons (o := { dst := some 36, op := Op.call { callee := Callee.value (Operand.func 80), args := #[Operand.tmp 35], argTypes := #[44] }, type := 44, pos := "exact.go:156", after := #[{ on := 6, ground := Ground.data }], guard := none }) rfl (fun K hK => ?_) AllReadyH.nil
  go_simp
  refine (padded_any (c := dc) (HSr.out _ (Keeps.of_below _ (HB0.out.trans (HD0.out.mono HB0.out.size)))) hdn).mono ?_
  rintro e w1 ⟨gp, cp, rfl, hgp, hrp, hb1⟩
  have hB1 : Below (w.alloc (stpC 11 N who two da dn dc)).heap.size (w.alloc (stpC 11 N who two da dn dc)) w1 := HD0.out.trans (hb1.mono HD0.out.size)
  refine hK.out _ _ ?_ (fun hHeld => ?_)
  · exact H6.out _ hB1
  clear hK K
  try simp only [Act.put, List.setIfInBounds_toArray, List.set_cons_zero, List.set_cons_succ]
  refine wpAnyH_ready (rs := [8]) (by kernel_rfl) (by simp) ?_
  refine AllReadyH.cons (o := { dst := some 37, op := Op.call { callee := Callee.value (Operand.func 60), args := #[Operand.tmp 32, Operand.tmp 33, Operand.tmp 36], argTypes := #[57, 3, 44] }, type := 39, pos := "exact.go:156", after := #[{ on := 3, ground := Ground.data }, { on := 4, ground := Ground.data }, { on := 7, ground := Ground.data }, { on := 7, ground := Ground.chain }], guard := none }) rfl (fun K hK => ?_) AllReadyH.nil
  go_simp
  have hr1 := HR0.out.later hB1
  have hsp : Src w1 (some ⟨gp, 0, none⟩) 512 (pad5 dl) := by have h9 := hrp.src; rw [pad5_len] at h9; exact h9
  have kp := Put_any hr1.x.st hr1.x.tx (b : Int) (some ⟨gp, 0, none⟩) 512 cp (pad5 dl) hsp (by omega) (pad5_bytes hby) hr1.x.big
  rw [HQ1.out] at kp
  refine kp.mono ?_
  intro e w2 hP
  have he2 := hP.1
  subst he2
  have hx2 : TX w2 F p s (cR + 1) q l m t n S G T1 ∧ Keeps (OwT F t n) w1 w2 := by
    have h9 := hr1.x.put (b := (b : Int)) (d := pad5 dl) (by rw [HQ1.out]; exact hP)
    rw [HQ1.out] at h9
    exact h9
  have hk2 : Keeps (fun j => OwT F t n j ∨ X j) w w2 := ((Keeps.of_below _ HB0.out).trans (Keeps.of_below (fun _ => False) hB1) (fun _ h => h.elim)).trans (hx2.2.mono (fun _ h => .inl h)) (fun _ h => .inl h)
  have hr2 := HR.out.after (Y := X) hx2.1 (HR.out.mm.apart (((Keeps.of_below (OwT F t n) HB0.out).trans (Keeps.of_below (fun _ => False) hB1) (fun _ h => h.elim)).trans hx2.2 (fun _ h => .inl h)) (fun j e hx => HR.out.offX j hx e)) hk2 (fun _ h => .inl h)
  have hcs2 : w2.cell? ⟨pa, 0, none⟩ = some (.pointer (some ⟨t, 0, none⟩)) ∧ w2.cell? ⟨w.heap.size, 4, none⟩ = some (.slice da dn dc) := by
    refine ⟨((HPa.out.later hB1).keep hx2.2).c0, ?_⟩
    have z1 : w.heap.size < w1.heap.size := Nat.lt_of_lt_of_le (lt_there HBx.out) hB1.size
    exact cell_of_block ((hx2.2.block _ z1 (fun e => by have := hr1.x.low; have := HNo.out; exact this e)).trans ((hB1.block _ (lt_there HBx.out)).trans HBx.out)) (j := 4) rfl
  have H2 := Hid.mk (And.intro hr2 (And.intro hk2 hcs2.2))
  clear kp hP hx2 hk2 hr2 hr1 hsp hrp hb1
  refine hK.out _ _ ?_ (fun hHeld => ?_)
  · exact hcs2
  clear hK K
  try simp only
  refine wpAnyH_ready (rs := [9]) (by kernel_rfl) (by simp) ?_
  refine AllReadyH.cons (o := { dst := some 8, op := Op.assign (Operand.tmp 37), type := 39, pos := "exact.go:156", after := #[{ on := 8, ground := Ground.data }, { on := 8, ground := Ground.chain }, { on := 0, ground := Ground.phase }, { on := 1, ground := Ground.phase }, { on := 2, ground := Ground.phase }, { on := 3, ground := Ground.phase }, { on := 4, ground := Ground.phase }, { on := 5, ground := Ground.phase }, { on := 6, ground := Ground.phase }, { on := 7, ground := Ground.phase }, { on := 8, ground := Ground.phase }], guard := none }) rfl (fun K hK => ?_) AllReadyH.nil
  go_simp
  refine hK.out _ _ ?_ (fun hHeld => ?_)
  · exact hcs2
  clear hK K
  try simp only [Act.put, List.setIfInBounds_toArray, List.set_cons_zero, List.set_cons_succ]
  refine wpAnyH_done (by kernel_rfl) ?_ _
  clear hHeld g0 g1 ce cb
  have HD2 : Hid (Below w2.heap.size w2 w2.drew) := (Keeps.drew (fun _ => False) w2).below (fun _ h => h.elim) (Nat.le_refl _)
  have H7 : Hid (∀ w', Below w2.heap.size w2 w' → w'.cell? ⟨kr, 4, none⟩ = some (.pointer (some ⟨k, 0, none⟩)) ∧ w'.cell? ⟨w.heap.size, 4, none⟩ = some (.slice da dn dc)) := fun w' hw => ⟨cell_later hw (cell_of_block H2.out.1.b (j := 4) rfl), cell_later hw H2.out.2.2⟩
  clear hcs2
  go_wp2_with fail
  refine wp_region_held_drew (S := (fun w' => w'.cell? ⟨kr, 4, none⟩ = some (.pointer (some ⟨k, 0, none⟩)) ∧ w'.cell? ⟨w.heap.size, 4, none⟩ = some (.slice da dn dc))) (by kernel_rfl) (H7.out _ HD2.out) (fun hHeld => ?_)
  refine wpAnyH_take (i := 0) (oi := { dst := some 38, op := Op.move (Operand.tmp 0), type := 28, pos := "exact.go:157", after := #[], guard := none }) (v := .pointer (some ⟨kr, 0, none⟩)) rfl (by kernel_rfl) (by kernel_rfl) (by kernel_rfl) (fun _ _ _ h => h) (Or.inl ⟨by rfl, ?_⟩) (by assumption) ?_
  · intro w hSw
    (try dsimp only at hSw)
    go_simp
  try simp only [Act.put, List.setIfInBounds_toArray, List.set_cons_zero, List.set_cons_succ]
  refine wpAnyH_take (i := 1) (oi := { dst := some 39, op := Op.nilCheck (Operand.tmp 38), type := 0, pos := "exact.go:157", after := #[{ on := 0, ground := Ground.data }], guard := none }) (v := .pointer (some ⟨kr, 0, none⟩)) rfl (by kernel_rfl) (by kernel_rfl) (by kernel_rfl) (fun _ _ _ h => h) (Or.inl ⟨by rfl, ?_⟩) (by assumption) ?_
  · intro w hSw
    (try dsimp only at hSw)
    go_simp
  try simp only [Act.put, List.setIfInBounds_toArray, List.set_cons_zero, List.set_cons_succ]
  refine wpAnyH_take (i := 2) (oi := { dst := some 40, op := Op.fieldAddr 38 (Operand.tmp 39) 4, type := 0, pos := "exact.go:157", after := #[{ on := 1, ground := Ground.data }], guard := none }) (v := .pointer (some ⟨kr, 4, none⟩)) rfl (by kernel_rfl) (by kernel_rfl) (by kernel_rfl) (fun _ _ _ h => h) (Or.inl ⟨by rfl, ?_⟩) (by assumption) ?_
  · intro w hSw
    (try dsimp only at hSw)
    go_simp
  try simp only [Act.put, List.setIfInBounds_toArray, List.set_cons_zero, List.set_cons_succ]
  refine wpAnyH_take (i := 3) (oi := { dst := some 41, op := Op.load 36 (Operand.tmp 40), type := 36, pos := "exact.go:157", after := #[{ on := 2, ground := Ground.data }], guard := none }) (v := .pointer (some ⟨k, 0, none⟩)) rfl (by kernel_rfl) (by kernel_rfl) (by kernel_rfl) (fun _ _ _ h => h) (Or.inl ⟨by rfl, ?_⟩) (by assumption) ?_
  · intro w hSw
    (try dsimp only at hSw)
    go_simp
  try simp only [Act.put, List.setIfInBounds_toArray, List.set_cons_zero, List.set_cons_succ]
  refine wpAnyH_take (i := 4) (oi := { dst := some 42, op := Op.move (Operand.tmp 7), type := 3, pos := "exact.go:157", after := #[], guard := none }) (v := .int .i64 (b : Int)) rfl (by kernel_rfl) (by kernel_rfl) (by kernel_rfl) (fun _ _ _ h => h) (Or.inl ⟨by rfl, ?_⟩) (by assumption) ?_
  · intro w hSw
    (try dsimp only at hSw)
    go_simp
  try simp only [Act.put, List.setIfInBounds_toArray, List.set_cons_zero, List.set_cons_succ]
  refine wpAnyH_take (i := 5) (oi := { dst := some 43, op := Op.fieldAddr 46 (Operand.tmp 5) 4, type := 0, pos := "exact.go:157", after := #[], guard := none }) (v := .pointer (some ⟨w.heap.size, 4, none⟩)) rfl (by kernel_rfl) (by kernel_rfl) (by kernel_rfl) (fun _ _ _ h => h) (Or.inl ⟨by rfl, ?_⟩) (by assumption) ?_
  · intro w hSw
    (try dsimp only at hSw)
    go_simp
  try simp only [Act.put, List.setIfInBounds_toArray, List.set_cons_zero, List.set_cons_succ]
  refine wpAnyH_take (i := 6) (oi := { dst := some 44, op := Op.load 44 (Operand.tmp 43), type := 44, pos := "exact.go:157", after := #[{ on := 5, ground := Ground.data }], guard := none }) (v := .slice da dn dc) rfl (by kernel_rfl) (by kernel_rfl) (by kernel_rfl) (fun _ _ _ h => h) (Or.inl ⟨by rfl, ?_⟩) (by assumption) ?_
  · intro w hSw
    (try dsimp only at hSw)
    go_simp
  try simp only [Act.put, List.setIfInBounds_toArray, List.set_cons_zero, List.set_cons_succ]
  refine wpAnyH_ready (rs := [7]) (by kernel_rfl) (by simp) ?_
  refine AllReadyH.cons (o := { dst := some 45, op := Op.call { callee := Callee.value (Operand.func 80), args := #[Operand.tmp 44], argTypes := #[44] }, type := 44, pos := "exact.go:157", after := #[{ on := 6, ground := Ground.data }], guard := none }) rfl (fun K hK => ?_) AllReadyH.nil
  go_simp
  refine (padded_any (c := dc) (HSr.out _ (H2.out.2.1.trans (Keeps.of_below (fun _ => False) HD2.out) (fun _ h => h.elim))) hdn).mono ?_
  rintro e w3 ⟨gp3, cp3, rfl, hgp3, hrp3, hb3⟩
  have hB3 : Below w2.heap.size w2 w3 := HD2.out.trans (hb3.mono HD2.out.size)
  refine hK.out _ _ ?_ (fun hHeld => ?_)
  · exact H7.out _ hB3
  clear hK K
  try simp only [Act.put, List.setIfInBounds_toArray, List.set_cons_zero, List.set_cons_succ]
  refine wpAnyH_ready (rs := [8]) (by kernel_rfl) (by simp) ?_
  refine AllReadyH.cons (o := { dst := some 46, op := Op.call { callee := Callee.value (Operand.func 81), args := #[Operand.tmp 41, Operand.tmp 42, Operand.tmp 45], argTypes := #[36, 3, 44] }, type := 3, pos := "exact.go:157", after := #[{ on := 3, ground := Ground.data }, { on := 4, ground := Ground.data }, { on := 7, ground := Ground.data }, { on := 7, ground := Ground.chain }], guard := none }) rfl (fun K hK => ?_) AllReadyH.nil
  go_simp
  have hr3 := H2.out.1.later hB3
  have hsp3 : Src w3 (some ⟨gp3, 0, none⟩) 512 (pad5 dl) := by have h9 := hrp3.src; rw [pad5_len] at h9; exact h9
  have km := mwmap_any (c := cp3) hr3.mm hr3.xl (by have := HC.out.1.plen; omega) hsp3 (pad5_bytes hby) b (by omega)
  unfold MO at km
  rw [HQ2.out] at km
  refine km.mono ?_
  rintro e w4 ⟨rfl, hm4, hk4⟩
  have HE : Hid (∃ X' T' M' c', RgW w4 F X' kr p s c' q l m t n a1 a2 k S G T' M' ∧ CK G S T' M' ∧ Keeps (fun j => OwT F t n j ∨ X j) w w4 ∧ (∀ j, X' j → X j ∨ (w.heap.size ≤ j ∧ j < w4.heap.size))) := by
    have z2 := H2.out.2.1.size
    have z3 := hB3.size
    refine ⟨_, T1, M1, _, hr3.after (hr3.x.apart hk4 (fun j hj => ?_)) hm4 (hk4.mono (fun _ h => .inr h)) (fun _ h => h), HC.out.2, (H2.out.2.1.trans (Keeps.of_below (fun _ => False) hB3) (fun _ h => h.elim)).trans (hk4.mono (fun _ h => .inr h)) (fun _ h => .inl h), fun j hj => hj.imp (fun e => e) (fun e => ⟨by have := e.1; omega, e.2⟩)⟩
    have h9 := hr3.xa j hj
    exact ⟨h9.1, h9.2.1, h9.2.2.1, h9.2.2.2.1, h9.2.2.2.2.1, h9.2.2.2.2.2.1⟩
  have hcs4 : w4.cell? ⟨kr, 4, none⟩ = some (.pointer (some ⟨k, 0, none⟩)) ∧ w4.cell? ⟨w.heap.size, 4, none⟩ = some (.slice da dn dc) := by
    have h9 := H7.out _ hB3
    have z4 : w.heap.size < w3.heap.size := Nat.lt_of_lt_of_le (World.block_lt_of_cell? _ _ H2.out.2.2) hB3.size
    exact ⟨(World.cell?_of_block (w := w3) (a := ⟨kr, 4, none⟩) (hk4.block kr (lt_there hr3.b) (fun e => (hr3.xa kr e).2.2.2.2.2.2.1 rfl))).trans h9.1, (World.cell?_of_block (w := w3) (a := ⟨w.heap.size, 4, none⟩) (hk4.block _ z4 (fun e => Nat.lt_irrefl _ (HR.out.xl _ e)))).trans h9.2⟩
  clear km hm4 hk4 hr3 hsp3 hrp3 hb3
  refine hK.out _ _ ?_ (fun hHeld => ?_)
  · exact hcs4
  clear hK K
  try simp only
  refine wpAnyH_ready (rs := [9]) (by kernel_rfl) (by simp) ?_
  refine AllReadyH.cons (o := { dst := some 9, op := Op.assign (Operand.tmp 46), type := 3, pos := "exact.go:157", after := #[{ on := 8, ground := Ground.data }, { on := 8, ground := Ground.chain }, { on := 0, ground := Ground.phase }, { on := 1, ground := Ground.phase }, { on := 2, ground := Ground.phase }, { on := 3, ground := Ground.phase }, { on := 4, ground := Ground.phase }, { on := 5, ground := Ground.phase }, { on := 6, ground := Ground.phase }, { on := 7, ground := Ground.phase }, { on := 8, ground := Ground.phase }], guard := none }) rfl (fun K hK => ?_) AllReadyH.nil
  go_simp
  refine hK.out _ _ ?_ (fun hHeld => ?_)
  · exact hcs4
  clear hK K
  try simp only [Act.put, List.setIfInBounds_toArray, List.set_cons_zero, List.set_cons_succ]
  refine wpAnyH_done (by kernel_rfl) ?_ _
  clear hHeld hcs4
  have kn := num6_any zz w4
  go_wp2_with fail
  refine kn.mono ?_
  rintro e wx ⟨rfl, hwx⟩
  have hwx' := hwx.symm
  subst hwx'
  clear hwx kn
  go_wp2
  go_ret
  exact ⟨rfl, HE.out⟩
end
end Go.Proofs.YthohoicgidjpfabGreat
end
