import Derived.Test.YthohoicgidjpfabGreatPE2
import Derived.Test.YthohoicgidjpfabGreatW25
namespace Go.Proofs.YthohoicgidjpfabGreat
open Go.RowKit Go.Maps

section
variable {S : DS} {G : SG} {T T' : TG} {M M' : MP} {k : STK} {x : Int}
theorem caught_st (h0 : T.state G S ≠ 0) : T.caught G S x = T := by
  unfold TG.caught
  split
  · rfl
  · exact spoil_no h0
theorem caught_in (h0 : T.state G S = 0) (hx : x = 0 ∨ x = 11 ∨ x = 62) : T.caught G S x = T := by
  unfold TG.caught
  split
  · rfl
  · unfold TG.spoil
    rw [if_neg (fun e => e h0), if_neg (by omega)]
theorem drop_st (h0 : T.state G S ≠ 0) : T.pdrop G S k x = (T.state G S, T) := by unfold TG.pdrop; rw [if_pos h0]
theorem drop_out (h0 : T.state G S = 0) (hx : x < (k.first : Int) ∨ (k.first : Int) + k.cnt - 1 < x) : T.pdrop G S k x = (11, T) := by unfold TG.pdrop; rw [if_neg (fun e => e h0), if_pos hx]
theorem drop_free (h0 : T.state G S = 0) (hx : ¬ (x < (k.first : Int) ∨ (k.first : Int) + k.cnt - 1 < x)) (hr : T.refusal G S k.bm = 0) (hb : bitOf (T.sees G S k.bm) (x.toNat - k.zero) = false) : T.pdrop G S k x = (62, T) := by unfold TG.pdrop; rw [if_neg (fun e => e h0), if_neg hx, if_neg (fun e => e hr), if_pos hb]
theorem drop_put (h0 : T.state G S = 0) (hx : ¬ (x < (k.first : Int) ∨ (k.first : Int) + k.cnt - 1 < x)) (hr : T.refusal G S k.bm = 0) (hb : bitOf (T.sees G S k.bm) (x.toNat - k.zero) = true) : T.pdrop G S k x = T.put G S k.bm (turnBit (T.sees G S k.bm) (x.toNat - k.zero)) := by unfold TG.pdrop; rw [if_neg (fun e => e h0), if_neg hx, if_neg (fun e => e hr), if_neg (by rw [hb]; decide)]
theorem CK.drop0 (h : CK G S T M) (hd : G.L.dead S = false) (hy : YOk G.y) (hdt : G.y.data = 2 + G.y.nodes / 4) (hok : CM.Ok T.puts) (x : Int) : (T.pdrop G S (bSt G.y) x).1 = (M.drop0 x).1 ∧ CK G S ((T.pdrop G S (bSt G.y) x).2.caught G S (T.pdrop G S (bSt G.y) x).1) (M.drop0 x).2 := by
  have hs := h.state hd
  by_cases h0 : M.bad = 0
  · have hc := h.clean h0
    have hm := hc.mstate
    rw [h0] at hs
    have hr : T.refusal G S ((bSt G.y).bm : Int) = 0 := refusal_in hs (by have := hy.b2; show 0 < _; omega)
    have hio : (x < ((bSt G.y).first : Int) ∨ ((bSt G.y).first : Int) + (bSt G.y).cnt - 1 < x) ↔ (x < ((2 + M.nodes / 4 : Nat) : Int) ∨ (M.blocks : Int) ≤ x) := by
      have := hy.dy; have := hc.mb; have := hc.mn; show (x < (G.y.data : Int) ∨ (G.y.data : Int) + (G.y.blocks - G.y.data : Nat) - 1 < x) ↔ _; omega
    unfold MP.drop0
    rw [if_neg (fun e => e hm)]
    by_cases ho : x < ((2 + M.nodes / 4 : Nat) : Int) ∨ (M.blocks : Int) ≤ x
    · rw [if_pos ho, drop_out hs (hio.mpr ho)]
      exact ⟨rfl, by rw [caught_in hs (by omega)]; exact h⟩
    · have hi : (x).toNat < 4096 := by have := hy.bl; have := hc.mb; omega
      have hsee : bitOf (T.sees G S (bSt G.y).bm) (x.toNat - (bSt G.y).zero) = M.nb.getD (x).toNat false := by
        show bitOf (T.sees G S 0) (x.toNat - 0) = _
        rw [hc.s0, Nat.sub_zero, bm_bit _ hi]
      rw [if_neg ho]
      cases hb : M.nb.getD (x).toNat false
      · rw [if_pos rfl, drop_free hs (fun e => ho (hio.mp e)) hr (by rw [hsee, hb])]
        exact ⟨rfl, by rw [caught_in hs (by omega)]; exact h⟩
      · obtain ⟨T1, f1, f2, f3⟩ := (hc.flip hd hy hok hi).1
        rw [hb] at f3
        have e1 : T.pdrop G S (bSt G.y) x = (0, T1) := by
          rw [drop_put hs (fun e => ho (hio.mp e)) hr (by rw [hsee, hb])]
          show T.put G S (0 : Nat) (turnBit (T.sees G S 0) (x.toNat - 0)) = _
          rw [Nat.sub_zero]
          exact f1
        rw [if_neg (by decide), if_neg (fun e => e f2), e1]
        refine ⟨rfl, ?_⟩
        have e2 : T1.caught G S 0 = T1 := by unfold TG.caught; rw [if_pos rfl]
        rw [e2]
        exact f3.ck
  · have hm : M.state ≠ 0 := by rw [h.mstate]; exact h0
    have hs0 : T.state G S ≠ 0 := by rw [hs]; exact h0
    rw [drop_st hs0]
    unfold MP.drop0
    rw [if_pos hm, h.mstate]
    exact ⟨hs, by rw [caught_st hs0]; exact h⟩
theorem CK.drop1 (h : CK G S T M) (hd : G.L.dead S = false) (hy : YOk G.y) (hok : CM.Ok T.puts) (x : Int) : (T.pdrop G S (nSt G.y) x).1 = (M.drop1 x).1 ∧ CK G S ((T.pdrop G S (nSt G.y) x).2.caught G S (T.pdrop G S (nSt G.y) x).1) (M.drop1 x).2 := by
  have hs := h.state hd
  by_cases h0 : M.bad = 0
  · have hc := h.clean h0
    have hm := hc.mstate
    rw [h0] at hs
    have hr : T.refusal G S ((nSt G.y).bm : Int) = 0 := refusal_in hs (by have := hy.b2; show 1 < _; omega)
    have hio : (x < ((nSt G.y).first : Int) ∨ ((nSt G.y).first : Int) + (nSt G.y).cnt - 1 < x) ↔ (x < 1 ∨ (M.nodes : Int) < x) := by
      have := hc.mn; show (x < ((1 : Nat) : Int) ∨ ((1 : Nat) : Int) + (G.y.nodes : Int) - 1 < x) ↔ _; omega
    unfold MP.drop1
    rw [if_neg (fun e => e hm)]
    by_cases ho : x < 1 ∨ (M.nodes : Int) < x
    · rw [if_pos ho, drop_out hs (hio.mpr ho)]
      exact ⟨rfl, by rw [caught_in hs (by omega)]; exact h⟩
    · have hi : (x - 1).toNat < 4096 := by have := hy.nd; have := hc.mn; omega
      have hsee : bitOf (T.sees G S (nSt G.y).bm) (x.toNat - (nSt G.y).zero) = M.nn.getD (x - 1).toNat false := by
        show bitOf (T.sees G S 1) (x.toNat - 1) = _
        rw [hc.s1, show x.toNat - 1 = (x - 1).toNat by omega, bm_bit _ hi]
      rw [if_neg ho]
      cases hb : M.nn.getD (x - 1).toNat false
      · rw [if_pos rfl, drop_free hs (fun e => ho (hio.mp e)) hr (by rw [hsee, hb])]
        exact ⟨rfl, by rw [caught_in hs (by omega)]; exact h⟩
      · obtain ⟨T1, f1, f2, f3⟩ := (hc.flip hd hy hok hi).2
        rw [hb] at f3
        have e1 : T.pdrop G S (nSt G.y) x = (0, T1) := by
          rw [drop_put hs (fun e => ho (hio.mp e)) hr (by rw [hsee, hb])]
          show T.put G S (1 : Nat) (turnBit (T.sees G S 1) (x.toNat - 1)) = _
          rw [show x.toNat - 1 = (x - 1).toNat by omega]
          exact f1
        rw [if_neg (by decide), if_neg (fun e => e f2), e1]
        refine ⟨rfl, ?_⟩
        have e2 : T1.caught G S 0 = T1 := by unfold TG.caught; rw [if_pos rfl]
        rw [e2]
        exact f3.ck
  · have hm : M.state ≠ 0 := by rw [h.mstate]; exact h0
    have hs0 : T.state G S ≠ 0 := by rw [hs]; exact h0
    rw [drop_st hs0]
    unfold MP.drop1
    rw [if_pos hm, h.mstate]
    exact ⟨hs, by rw [caught_st hs0]; exact h⟩
end
section
variable {w w' w0 w1 w2 : World} {F X Y Z : Nat → Prop} {kr p s cR q l m t n a1 a2 k pa : Nat} {S : DS} {G : SG} {T : TG} {M : MP} {N : Int} {who two : Bool} {da : Option Addr} {dn dc : Nat}
set_option maxRecDepth 20000 in
set_option maxHeartbeats 4000000 in
theorem calls3_any (h : RgW w F X kr p s cR q l m t n a1 a2 k S G T M) (hc : CK G S T M) (hd : G.L.dead S = false) (hdt : G.y.data = 2 + G.y.nodes / 4) (hpa : PoolAt w F pa t n) :
    Calls Tryz.prog 34 #[.pointer (some ⟨kr, 0, none⟩), .pointer (some ⟨pa, 0, none⟩), stpV 3 N who two da dn dc] w fun e w' => StpK w w' F X kr p s q l m t n a1 a2 k S G e := by
  obtain ⟨q1, hc1⟩ := hc.drop0 hd h.x.yk hdt h.x.tx.ch.ok N
  obtain ⟨gg1, gg2, gg3⟩ := hc.geo h.x.yk hdt
  have hpl := hc.plen
  have hB0 := below_box w (stpC 3 N who two da dn dc)
  have hbx := heap_alloc_new w (stpC 3 N who two da dn dc)
  have g0 : (w.alloc (stpC 3 N who two da dn dc)).cell? ⟨w.heap.size, 0, none⟩ = some (.int .i64 3) := cell_of_block hbx (j := 0) rfl
  have g1 : (w.alloc (stpC 3 N who two da dn dc)).cell? ⟨w.heap.size, 1, none⟩ = some (.int .i64 N) := cell_of_block hbx (j := 1) rfl
  have h0 := h.later hB0
  have kc := dropBlock_any h0.x (hpa.later hB0) N
  generalize (T.pdrop G S (bSt G.y) N).2.caught G S (T.pdrop G S (bSt G.y) N).1 = T1 at kc hc1
  rw [q1] at kc
  have KM : Hid (∀ w1, MX w1 X k M → Calls Tryz.prog 69 #[.pointer (some ⟨k, 0, none⟩), .int .i64 N] w1 fun e w' => MO w1 w' X w1.heap.size k (M.drop0 N) e) := fun w1 hm => mdrop0_any hm (by omega) gg1 gg2 gg3 N
  have HNo : Hid (¬ OwT F t n w.heap.size ∧ ¬ X w.heap.size) := by
    obtain ⟨o1, o2, o3, o4, o5, o6⟩ := h.x.low
    refine ⟨fun e => ?_, fun e => Nat.lt_irrefl _ (h.xl _ e)⟩
    rcases e with e | e | e
    · exact Nat.lt_irrefl _ (o1 _ e)
    · omega
    · omega
  have H0 := Hid.mk (And.intro h0 (And.intro hB0 hbx))
  have HC := Hid.mk hc1
  clear h hc hd hdt hpa q1 hc1 hB0 hbx h0 gg1 gg2 gg3 hpl
  generalize M.drop0 N = R at *
  obtain ⟨ry, RM⟩ := R
  dsimp only at kc
  unfold MO at KM
  dsimp only at KM HC
  go_enter Tryz.func34, Tryz.ntmps34
  go_wp2_with fail
  refine kc.mono ?_
  rintro e w1 ⟨rfl, hx1, hk1⟩
  have hk1' : Keeps (fun j => OwT F t n j ∨ X j) (w.alloc (stpC 3 N who two da dn dc)) w1 := hk1.mono (fun _ h => .inl h)
  have h1 := H0.out.1.after (Y := X) hx1 (H0.out.1.mm.apart hk1 (fun j e hx => H0.out.1.offX j hx e)) hk1' (fun _ h => .inl h)
  have HZ : Hid (w1.heap[w.heap.size]? = some ((stpC 3 N who two da dn dc : Obj))) := (hk1.block _ (lt_there H0.out.2.2) HNo.out.1).trans H0.out.2.2
  have HD1 : Hid (Below w1.heap.size w1 w1.drew) := below_drew (Below.refl _ _)
  have H7 : Hid (∀ w', Below w1.heap.size w1 w' → w'.cell? ⟨kr, 4, none⟩ = some (.pointer (some ⟨k, 0, none⟩)) ∧ w'.cell? ⟨w.heap.size, 1, none⟩ = some (.int .i64 N)) := fun w' hb => ⟨cell_of_block (h1.later hb).b (j := 4) rfl, cell_of_block ((hb.block _ (lt_there HZ.out)).trans HZ.out) (j := 1) rfl⟩
  have H1 := Hid.mk (And.intro h1 hk1')
  clear kc hx1 hk1 hk1' h1 g0 g1
  go_wp2_with fail
  refine wp_region_held_drew (S := (fun w' => w'.cell? ⟨kr, 4, none⟩ = some (.pointer (some ⟨k, 0, none⟩)) ∧ w'.cell? ⟨w.heap.size, 1, none⟩ = some (.int .i64 N))) (by kernel_rfl) (H7.out _ HD1.out) (fun hHeld => ?_)
  refine wpAnyH_take (i := 0) (oi := { dst := some 72, op := Op.move (Operand.tmp 0), type := 28, pos := "exact.go:204", after := #[], guard := none }) (v := .pointer (some ⟨kr, 0, none⟩)) rfl (by kernel_rfl) (by kernel_rfl) (by kernel_rfl) (fun _ _ _ h => h) (Or.inl ⟨by rfl, ?_⟩) (by assumption) ?_
  · intro w hSw
    (try dsimp only at hSw)
    go_simp
  try simp only [Act.put, List.setIfInBounds_toArray, List.set_cons_zero, List.set_cons_succ]
  refine wpAnyH_take (i := 1) (oi := { dst := some 73, op := Op.nilCheck (Operand.tmp 72), type := 0, pos := "exact.go:204", after := #[{ on := 0, ground := Ground.data }], guard := none }) (v := .pointer (some ⟨kr, 0, none⟩)) rfl (by kernel_rfl) (by kernel_rfl) (by kernel_rfl) (fun _ _ _ h => h) (Or.inl ⟨by rfl, ?_⟩) (by assumption) ?_
  · intro w hSw
    (try dsimp only at hSw)
    go_simp
  try simp only [Act.put, List.setIfInBounds_toArray, List.set_cons_zero, List.set_cons_succ]
  refine wpAnyH_take (i := 2) (oi := { dst := some 74, op := Op.fieldAddr 38 (Operand.tmp 73) 4, type := 0, pos := "exact.go:204", after := #[{ on := 1, ground := Ground.data }], guard := none }) (v := .pointer (some ⟨kr, 4, none⟩)) rfl (by kernel_rfl) (by kernel_rfl) (by kernel_rfl) (fun _ _ _ h => h) (Or.inl ⟨by rfl, ?_⟩) (by assumption) ?_
  · intro w hSw
    (try dsimp only at hSw)
    go_simp
  try simp only [Act.put, List.setIfInBounds_toArray, List.set_cons_zero, List.set_cons_succ]
  refine wpAnyH_take (i := 3) (oi := { dst := some 75, op := Op.load 36 (Operand.tmp 74), type := 36, pos := "exact.go:204", after := #[{ on := 2, ground := Ground.data }], guard := none }) (v := .pointer (some ⟨k, 0, none⟩)) rfl (by kernel_rfl) (by kernel_rfl) (by kernel_rfl) (fun _ _ _ h => h) (Or.inl ⟨by rfl, ?_⟩) (by assumption) ?_
  · intro w hSw
    (try dsimp only at hSw)
    go_simp
  try simp only [Act.put, List.setIfInBounds_toArray, List.set_cons_zero, List.set_cons_succ]
  refine wpAnyH_take (i := 4) (oi := { dst := some 76, op := Op.fieldAddr 46 (Operand.tmp 5) 1, type := 0, pos := "exact.go:204", after := #[], guard := none }) (v := .pointer (some ⟨w.heap.size, 1, none⟩)) rfl (by kernel_rfl) (by kernel_rfl) (by kernel_rfl) (fun _ _ _ h => h) (Or.inl ⟨by rfl, ?_⟩) (by assumption) ?_
  · intro w hSw
    (try dsimp only at hSw)
    go_simp
  try simp only [Act.put, List.setIfInBounds_toArray, List.set_cons_zero, List.set_cons_succ]
  refine wpAnyH_take (i := 5) (oi := { dst := some 77, op := Op.load 3 (Operand.tmp 76), type := 3, pos := "exact.go:204", after := #[{ on := 4, ground := Ground.data }], guard := none }) (v := .int .i64 N) rfl (by kernel_rfl) (by kernel_rfl) (by kernel_rfl) (fun _ _ _ h => h) (Or.inl ⟨by rfl, ?_⟩) (by assumption) ?_
  · intro w hSw
    (try dsimp only at hSw)
    go_simp
  try simp only [Act.put, List.setIfInBounds_toArray, List.set_cons_zero, List.set_cons_succ]
  refine wpAnyH_ready (rs := [6]) (by kernel_rfl) (by simp) ?_
  refine AllReadyH.cons (o := { dst := some 78, op := Op.call { callee := Callee.value (Operand.func 69), args := #[Operand.tmp 75, Operand.tmp 77], argTypes := #[36, 3] }, type := 3, pos := "exact.go:204", after := #[{ on := 3, ground := Ground.data }, { on := 5, ground := Ground.data }], guard := none }) rfl (fun K hK => ?_) AllReadyH.nil
  go_simp
  have hr1 := H1.out.1.later HD1.out
  refine (KM.out w1.drew hr1.mm).mono ?_
  rintro e w2 ⟨rfl, hm2, hk2⟩
  have HE : Hid (StpK w w2 F X kr p s q l m t n a1 a2 k S G (.returned (.bool true))) := hr1.both H0.out.2.1 (H1.out.2.trans (Keeps.of_below (fun _ => False) HD1.out) (fun _ h => h.elim)) HC.out hm2 hk2
  have hcs2 : w2.cell? ⟨kr, 4, none⟩ = some (.pointer (some ⟨k, 0, none⟩)) ∧ w2.cell? ⟨w.heap.size, 1, none⟩ = some (.int .i64 N) := by
    have h9 := H7.out _ HD1.out
    exact ⟨(World.cell?_of_block (w := w1.drew) (a := ⟨kr, 4, none⟩) (hk2.block kr (lt_there hr1.b) (fun e => (hr1.xa kr e).2.2.2.2.2.2.1 rfl))).trans h9.1, (World.cell?_of_block (w := w1.drew) (a := ⟨w.heap.size, 1, none⟩) (hk2.block _ (World.block_lt_of_cell? _ _ h9.2) HNo.out.2)).trans h9.2⟩
  clear hm2 hk2 hr1 KM
  refine hK.out _ _ ?_ (fun hHeld => ?_)
  · exact hcs2
  clear hK K
  try simp only [Act.put, List.setIfInBounds_toArray, List.set_cons_zero, List.set_cons_succ]
  refine wpAnyH_ready (rs := [7]) (by kernel_rfl) (by simp) ?_
  refine AllReadyH.cons (o := { dst := some 14, op := Op.assign (Operand.tmp 78), type := 3, pos := "exact.go:204", after := #[{ on := 6, ground := Ground.data }, { on := 6, ground := Ground.chain }, { on := 0, ground := Ground.phase }, { on := 1, ground := Ground.phase }, { on := 2, ground := Ground.phase }, { on := 3, ground := Ground.phase }, { on := 4, ground := Ground.phase }, { on := 5, ground := Ground.phase }, { on := 6, ground := Ground.phase }], guard := none }) rfl (fun K hK => ?_) AllReadyH.nil
  go_simp
  refine hK.out _ _ ?_ (fun hHeld => ?_)
  · exact hcs2
  clear hK K
  try simp only [Act.put, List.setIfInBounds_toArray, List.set_cons_zero, List.set_cons_succ]
  refine wpAnyH_done (by kernel_rfl) ?_ _
  have kn := num6_any ry w2
  clear H1 HC H0 H7 HZ HD1
  go_wp2_with fail
  refine kn.mono ?_
  rintro e wx ⟨rfl, hwx⟩
  have hwx' := hwx.symm
  subst hwx'
  clear hwx kn
  go_wp2
  go_ret
  exact HE.out
set_option maxRecDepth 20000 in
set_option maxHeartbeats 4000000 in
theorem calls5_any (h : RgW w F X kr p s cR q l m t n a1 a2 k S G T M) (hc : CK G S T M) (hd : G.L.dead S = false) (hdt : G.y.data = 2 + G.y.nodes / 4) (hpa : PoolAt w F pa t n) :
    Calls Tryz.prog 34 #[.pointer (some ⟨kr, 0, none⟩), .pointer (some ⟨pa, 0, none⟩), stpV 5 N who two da dn dc] w fun e w' => StpK w w' F X kr p s q l m t n a1 a2 k S G e := by
  obtain ⟨q1, hc1⟩ := hc.drop1 hd h.x.yk h.x.tx.ch.ok N
  obtain ⟨gg1, gg2, gg3⟩ := hc.geo h.x.yk hdt
  have hpl := hc.plen
  have hB0 := below_box w (stpC 5 N who two da dn dc)
  have hbx := heap_alloc_new w (stpC 5 N who two da dn dc)
  have g0 : (w.alloc (stpC 5 N who two da dn dc)).cell? ⟨w.heap.size, 0, none⟩ = some (.int .i64 5) := cell_of_block hbx (j := 0) rfl
  have g1 : (w.alloc (stpC 5 N who two da dn dc)).cell? ⟨w.heap.size, 1, none⟩ = some (.int .i64 N) := cell_of_block hbx (j := 1) rfl
  have h0 := h.later hB0
  have kc := dropNode_any h0.x (hpa.later hB0) N
  generalize (T.pdrop G S (nSt G.y) N).2.caught G S (T.pdrop G S (nSt G.y) N).1 = T1 at kc hc1
  rw [q1] at kc
  have KM : Hid (∀ w1, MX w1 X k M → Calls Tryz.prog 73 #[.pointer (some ⟨k, 0, none⟩), .int .i64 N] w1 fun e w' => MO w1 w' X w1.heap.size k (M.drop1 N) e) := fun w1 hm => mdrop1_any hm (by omega) gg1 gg2 gg3 N
  have HNo : Hid (¬ OwT F t n w.heap.size ∧ ¬ X w.heap.size) := by
    obtain ⟨o1, o2, o3, o4, o5, o6⟩ := h.x.low
    refine ⟨fun e => ?_, fun e => Nat.lt_irrefl _ (h.xl _ e)⟩
    rcases e with e | e | e
    · exact Nat.lt_irrefl _ (o1 _ e)
    · omega
    · omega
  have H0 := Hid.mk (And.intro h0 (And.intro hB0 hbx))
  have HC := Hid.mk hc1
  clear h hc hd hdt hpa q1 hc1 hB0 hbx h0 gg1 gg2 gg3 hpl
  generalize M.drop1 N = R at *
  obtain ⟨ry, RM⟩ := R
  dsimp only at kc
  unfold MO at KM
  dsimp only at KM HC
  go_enter Tryz.func34, Tryz.ntmps34
  go_wp2_with fail
  refine kc.mono ?_
  rintro e w1 ⟨rfl, hx1, hk1⟩
  have hk1' : Keeps (fun j => OwT F t n j ∨ X j) (w.alloc (stpC 5 N who two da dn dc)) w1 := hk1.mono (fun _ h => .inl h)
  have h1 := H0.out.1.after (Y := X) hx1 (H0.out.1.mm.apart hk1 (fun j e hx => H0.out.1.offX j hx e)) hk1' (fun _ h => .inl h)
  have HZ : Hid (w1.heap[w.heap.size]? = some ((stpC 5 N who two da dn dc : Obj))) := (hk1.block _ (lt_there H0.out.2.2) HNo.out.1).trans H0.out.2.2
  have HD1 : Hid (Below w1.heap.size w1 w1.drew) := below_drew (Below.refl _ _)
  have H7 : Hid (∀ w', Below w1.heap.size w1 w' → w'.cell? ⟨kr, 4, none⟩ = some (.pointer (some ⟨k, 0, none⟩)) ∧ w'.cell? ⟨w.heap.size, 1, none⟩ = some (.int .i64 N)) := fun w' hb => ⟨cell_of_block (h1.later hb).b (j := 4) rfl, cell_of_block ((hb.block _ (lt_there HZ.out)).trans HZ.out) (j := 1) rfl⟩
  have H1 := Hid.mk (And.intro h1 hk1')
  clear kc hx1 hk1 hk1' h1 g0 g1
  go_wp2_with fail
  refine wp_region_held_drew (S := (fun w' => w'.cell? ⟨kr, 4, none⟩ = some (.pointer (some ⟨k, 0, none⟩)) ∧ w'.cell? ⟨w.heap.size, 1, none⟩ = some (.int .i64 N))) (by kernel_rfl) (H7.out _ HD1.out) (fun hHeld => ?_)
  refine wpAnyH_take (i := 0) (oi := { dst := some 113, op := Op.move (Operand.tmp 0), type := 28, pos := "exact.go:212", after := #[], guard := none }) (v := .pointer (some ⟨kr, 0, none⟩)) rfl (by kernel_rfl) (by kernel_rfl) (by kernel_rfl) (fun _ _ _ h => h) (Or.inl ⟨by rfl, ?_⟩) (by assumption) ?_
  · intro w hSw
    (try dsimp only at hSw)
    go_simp
  try simp only [Act.put, List.setIfInBounds_toArray, List.set_cons_zero, List.set_cons_succ]
  refine wpAnyH_take (i := 1) (oi := { dst := some 114, op := Op.nilCheck (Operand.tmp 113), type := 0, pos := "exact.go:212", after := #[{ on := 0, ground := Ground.data }], guard := none }) (v := .pointer (some ⟨kr, 0, none⟩)) rfl (by kernel_rfl) (by kernel_rfl) (by kernel_rfl) (fun _ _ _ h => h) (Or.inl ⟨by rfl, ?_⟩) (by assumption) ?_
  · intro w hSw
    (try dsimp only at hSw)
    go_simp
  try simp only [Act.put, List.setIfInBounds_toArray, List.set_cons_zero, List.set_cons_succ]
  refine wpAnyH_take (i := 2) (oi := { dst := some 115, op := Op.fieldAddr 38 (Operand.tmp 114) 4, type := 0, pos := "exact.go:212", after := #[{ on := 1, ground := Ground.data }], guard := none }) (v := .pointer (some ⟨kr, 4, none⟩)) rfl (by kernel_rfl) (by kernel_rfl) (by kernel_rfl) (fun _ _ _ h => h) (Or.inl ⟨by rfl, ?_⟩) (by assumption) ?_
  · intro w hSw
    (try dsimp only at hSw)
    go_simp
  try simp only [Act.put, List.setIfInBounds_toArray, List.set_cons_zero, List.set_cons_succ]
  refine wpAnyH_take (i := 3) (oi := { dst := some 116, op := Op.load 36 (Operand.tmp 115), type := 36, pos := "exact.go:212", after := #[{ on := 2, ground := Ground.data }], guard := none }) (v := .pointer (some ⟨k, 0, none⟩)) rfl (by kernel_rfl) (by kernel_rfl) (by kernel_rfl) (fun _ _ _ h => h) (Or.inl ⟨by rfl, ?_⟩) (by assumption) ?_
  · intro w hSw
    (try dsimp only at hSw)
    go_simp
  try simp only [Act.put, List.setIfInBounds_toArray, List.set_cons_zero, List.set_cons_succ]
  refine wpAnyH_take (i := 4) (oi := { dst := some 117, op := Op.fieldAddr 46 (Operand.tmp 5) 1, type := 0, pos := "exact.go:212", after := #[], guard := none }) (v := .pointer (some ⟨w.heap.size, 1, none⟩)) rfl (by kernel_rfl) (by kernel_rfl) (by kernel_rfl) (fun _ _ _ h => h) (Or.inl ⟨by rfl, ?_⟩) (by assumption) ?_
  · intro w hSw
    (try dsimp only at hSw)
    go_simp
  try simp only [Act.put, List.setIfInBounds_toArray, List.set_cons_zero, List.set_cons_succ]
  refine wpAnyH_take (i := 5) (oi := { dst := some 118, op := Op.load 3 (Operand.tmp 117), type := 3, pos := "exact.go:212", after := #[{ on := 4, ground := Ground.data }], guard := none }) (v := .int .i64 N) rfl (by kernel_rfl) (by kernel_rfl) (by kernel_rfl) (fun _ _ _ h => h) (Or.inl ⟨by rfl, ?_⟩) (by assumption) ?_
  · intro w hSw
    (try dsimp only at hSw)
    go_simp
  try simp only [Act.put, List.setIfInBounds_toArray, List.set_cons_zero, List.set_cons_succ]
  refine wpAnyH_ready (rs := [6]) (by kernel_rfl) (by simp) ?_
  refine AllReadyH.cons (o := { dst := some 119, op := Op.call { callee := Callee.value (Operand.func 73), args := #[Operand.tmp 116, Operand.tmp 118], argTypes := #[36, 3] }, type := 3, pos := "exact.go:212", after := #[{ on := 3, ground := Ground.data }, { on := 5, ground := Ground.data }], guard := none }) rfl (fun K hK => ?_) AllReadyH.nil
  go_simp
  have hr1 := H1.out.1.later HD1.out
  refine (KM.out w1.drew hr1.mm).mono ?_
  rintro e w2 ⟨rfl, hm2, hk2⟩
  have HE : Hid (StpK w w2 F X kr p s q l m t n a1 a2 k S G (.returned (.bool true))) := hr1.both H0.out.2.1 (H1.out.2.trans (Keeps.of_below (fun _ => False) HD1.out) (fun _ h => h.elim)) HC.out hm2 hk2
  have hcs2 : w2.cell? ⟨kr, 4, none⟩ = some (.pointer (some ⟨k, 0, none⟩)) ∧ w2.cell? ⟨w.heap.size, 1, none⟩ = some (.int .i64 N) := by
    have h9 := H7.out _ HD1.out
    exact ⟨(World.cell?_of_block (w := w1.drew) (a := ⟨kr, 4, none⟩) (hk2.block kr (lt_there hr1.b) (fun e => (hr1.xa kr e).2.2.2.2.2.2.1 rfl))).trans h9.1, (World.cell?_of_block (w := w1.drew) (a := ⟨w.heap.size, 1, none⟩) (hk2.block _ (World.block_lt_of_cell? _ _ h9.2) HNo.out.2)).trans h9.2⟩
  clear hm2 hk2 hr1 KM
  refine hK.out _ _ ?_ (fun hHeld => ?_)
  · exact hcs2
  clear hK K
  try simp only [Act.put, List.setIfInBounds_toArray, List.set_cons_zero, List.set_cons_succ]
  refine wpAnyH_ready (rs := [7]) (by kernel_rfl) (by simp) ?_
  refine AllReadyH.cons (o := { dst := some 20, op := Op.assign (Operand.tmp 119), type := 3, pos := "exact.go:212", after := #[{ on := 6, ground := Ground.data }, { on := 6, ground := Ground.chain }, { on := 0, ground := Ground.phase }, { on := 1, ground := Ground.phase }, { on := 2, ground := Ground.phase }, { on := 3, ground := Ground.phase }, { on := 4, ground := Ground.phase }, { on := 5, ground := Ground.phase }, { on := 6, ground := Ground.phase }], guard := none }) rfl (fun K hK => ?_) AllReadyH.nil
  go_simp
  refine hK.out _ _ ?_ (fun hHeld => ?_)
  · exact hcs2
  clear hK K
  try simp only [Act.put, List.setIfInBounds_toArray, List.set_cons_zero, List.set_cons_succ]
  refine wpAnyH_done (by kernel_rfl) ?_ _
  have kn := num6_any ry w2
  clear H1 HC H0 H7 HZ HD1
  go_wp2_with fail
  refine kn.mono ?_
  rintro e wx ⟨rfl, hwx⟩
  have hwx' := hwx.symm
  subst hwx'
  clear hwx kn
  go_wp2
  go_ret
  exact HE.out
end
end Go.Proofs.YthohoicgidjpfabGreat
