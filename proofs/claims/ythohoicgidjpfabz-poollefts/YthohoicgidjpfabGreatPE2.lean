import Derived.Test.YthohoicgidjpfabGreatPE1
namespace Go.Proofs.YthohoicgidjpfabGreat
open Go.RowKit Go.Maps

/-- What a step comes to, where something may be spoilt. -/
def StpK (w w' : World) (F X : Nat → Prop) (kr p s q l m t n a1 a2 k : Nat) (S : DS) (G : SG) (e : Ending) : Prop :=
  e = .returned (.bool true) ∧ ∃ X' T' M' c', RgW w' F X' kr p s c' q l m t n a1 a2 k S G T' M' ∧ CK G S T' M' ∧ Keeps (fun j => OwT F t n j ∨ X j) w w' ∧ (∀ j, X' j → X j ∨ (w.heap.size ≤ j ∧ j < w'.heap.size))
section
variable {w w' w0 w1 w2 : World} {F X Y Z : Nat → Prop} {kr p s cR c' q l m t n a1 a2 k pa : Nat} {S : DS} {G : SG} {T T' : TG} {M M' : MP} {N : Int} {who two : Bool} {da : Option Addr} {dn dc : Nat} {e : Ending}
theorem StpO.stpK (h : StpO w w' F X kr p s q l m t n a1 a2 k S G e) : StpK w w' F X kr p s q l m t n a1 a2 k S G e := by
  obtain ⟨he, X', T', M', c', h1, h2, h3, h4⟩ := h
  exact ⟨he, X', T', M', c', h1, h2.ck, h3, h4⟩
theorem StpK.of_later (h : StpK w0 w' F X kr p s q l m t n a1 a2 k S G e) (hb : Below w.heap.size w w0) : StpK w w' F X kr p s q l m t n a1 a2 k S G e := by
  obtain ⟨he, X', T', M', c', h1, h2, h3, h4⟩ := h
  have z := hb.size
  exact ⟨he, X', T', M', c', h1, h2, (Keeps.of_below _ hb).trans h3 (fun _ h => .inl h), fun j hj => (h4 j hj).imp (fun e => e) (fun e => ⟨by have := e.1; omega, e.2⟩)⟩
/-- The program's call and the document's, one behind the other. -/
theorem RgW.both (h1 : RgW w1 F X kr p s c' q l m t n a1 a2 k S G T' M) (hB : Below w.heap.size w w0) (hk1 : Keeps (fun j => OwT F t n j ∨ X j) w0 w1) (hc : CK G S T' M') (hm2 : MX w2 (more X w1 w2) k M') (hk2 : Keeps X w1 w2) : StpK w w2 F X kr p s q l m t n a1 a2 k S G (.returned (.bool true)) := by
  have z0 := hB.size
  have z1 := hk1.size
  refine ⟨rfl, _, T', M', _, h1.after (h1.x.apart hk2 (fun j hj => ?_)) hm2 (hk2.mono (fun _ h => .inr h)) (fun _ h => h), hc, ((Keeps.of_below _ hB).trans hk1 (fun _ h => .inl h)).trans (hk2.mono (fun _ h => .inr h)) (fun _ h => .inl h), fun j hj => hj.imp (fun e => e) (fun e => ⟨by have := e.1; omega, e.2⟩)⟩
  have h9 := h1.xa j hj
  exact ⟨h9.1, h9.2.1, h9.2.2.1, h9.2.2.2.1, h9.2.2.2.2.1, h9.2.2.2.2.2.1⟩
theorem CK.plen (h : CK G S T M) : M.put.length ≤ 2 := h.cl.plen
theorem CK.geo (h : CK G S T M) (hy : YOk G.y) (hdt : G.y.data = 2 + G.y.nodes / 4) : 2 + M.nodes / 4 ≤ M.blocks ∧ M.blocks ≤ 4096 ∧ M.nodes ≤ 4096 := by
  have h1 : M.blocks = G.y.blocks := h.cl.mb
  have h2 : M.nodes = G.y.nodes := h.cl.mn
  have := hy.dy
  have := hy.bl
  have := hy.nd
  rw [h1, h2]
  omega
set_option maxRecDepth 20000 in
set_option maxHeartbeats 4000000 in
theorem calls2_any (h : RgW w F X kr p s cR q l m t n a1 a2 k S G T M) (hc : CK G S T M) (hd : G.L.dead S = false) (hdt : G.y.data = 2 + G.y.nodes / 4) (hpa : PoolAt w F pa t n) :
    Calls Tryz.prog 34 #[.pointer (some ⟨kr, 0, none⟩), .pointer (some ⟨pa, 0, none⟩), stpV 2 N who two da dn dc] w fun e w' => StpK w w' F X kr p s q l m t n a1 a2 k S G e := by
  obtain ⟨T1, q1, hc1⟩ := hc.take0 hd h.x.yk hdt h.x.tx.ch.ok
  obtain ⟨gg1, gg2, gg3⟩ := hc.geo h.x.yk hdt
  have hpl := hc.plen
  have hB0 := below_box w (stpC 2 N who two da dn dc)
  have hbx := heap_alloc_new w (stpC 2 N who two da dn dc)
  have g0 : (w.alloc (stpC 2 N who two da dn dc)).cell? ⟨w.heap.size, 0, none⟩ = some (.int .i64 2) := cell_of_block hbx (j := 0) rfl
  have h0 := h.later hB0
  have kc := takeBlock_any h0.x (hpa.later hB0)
  rw [q1] at kc
  have KM : Hid (∀ w1, MX w1 X k M → Calls Tryz.prog 67 #[.pointer (some ⟨k, 0, none⟩)] w1 fun e w' => MO3 w1 w' X k M.take0 e) := fun w1 hm => mtake0_any hm (by omega) gg1 gg2 gg3
  have H0 := Hid.mk (And.intro h0 hB0)
  have HC := Hid.mk hc1
  clear h hc hd hdt hpa q1 hc1 hB0 hbx h0 gg1 gg2 gg3 hpl
  generalize M.take0 = R at *
  obtain ⟨rx, ry, RM⟩ := R
  dsimp only at kc
  unfold MO3 at KM
  dsimp only at KM HC
  go_enter Tryz.func34, Tryz.ntmps34
  go_wp2_with fail
  refine kc.mono ?_
  rintro e w1 ⟨rfl, hx1, hk1⟩
  have hk1' : Keeps (fun j => OwT F t n j ∨ X j) (w.alloc (stpC 2 N who two da dn dc)) w1 := hk1.mono (fun _ h => .inl h)
  have h1 := H0.out.1.after (Y := X) hx1 (H0.out.1.mm.apart hk1 (fun j e hx => H0.out.1.offX j hx e)) hk1' (fun _ h => .inl h)
  have ce : w1.cell? ⟨kr, 4, none⟩ = some (.pointer (some ⟨k, 0, none⟩)) := cell_of_block h1.b (j := 4) rfl
  have km := KM.out w1 h1.mm
  have H1 := Hid.mk (And.intro h1 hk1')
  clear kc hx1 hk1 hk1' h1 g0 KM
  go_wp2_with fail
  refine km.mono ?_
  rintro e w2 ⟨rfl, hm2, hk2⟩
  have HE : Hid (StpK w w2 F X kr p s q l m t n a1 a2 k S G (.returned (.bool true))) := H1.out.1.both H0.out.2 H1.out.2 HC.out hm2 hk2
  have kn := num6_any ry w2
  clear km hm2 hk2 H1 ce HC H0
  go_wp2_with fail
  refine kn.mono ?_
  rintro e wx ⟨rfl, hwx⟩
  have hwx' := hwx.symm
  subst hwx'
  clear hwx kn
  go_wp2
  go_ret
  exact HE.out
set_option maxRecDepth 20000 in
set_option maxHeartbeats 4000000 in
theorem calls4_any (h : RgW w F X kr p s cR q l m t n a1 a2 k S G T M) (hc : CK G S T M) (hd : G.L.dead S = false) (hdt : G.y.data = 2 + G.y.nodes / 4) (hpa : PoolAt w F pa t n) :
    Calls Tryz.prog 34 #[.pointer (some ⟨kr, 0, none⟩), .pointer (some ⟨pa, 0, none⟩), stpV 4 N who two da dn dc] w fun e w' => StpK w w' F X kr p s q l m t n a1 a2 k S G e := by
  obtain ⟨T1, q1, hc1⟩ := hc.take1 hd h.x.yk h.x.tx.ch.ok
  obtain ⟨gg1, gg2, gg3⟩ := hc.geo h.x.yk hdt
  have hpl := hc.plen
  have hB0 := below_box w (stpC 4 N who two da dn dc)
  have hbx := heap_alloc_new w (stpC 4 N who two da dn dc)
  have g0 : (w.alloc (stpC 4 N who two da dn dc)).cell? ⟨w.heap.size, 0, none⟩ = some (.int .i64 4) := cell_of_block hbx (j := 0) rfl
  have h0 := h.later hB0
  have kc := takeNode_any h0.x (hpa.later hB0)
  rw [q1] at kc
  have KM : Hid (∀ w1, MX w1 X k M → Calls Tryz.prog 71 #[.pointer (some ⟨k, 0, none⟩)] w1 fun e w' => MO3 w1 w' X k M.take1 e) := fun w1 hm => mtake1_any hm (by omega) gg1 gg2 gg3
  have H0 := Hid.mk (And.intro h0 hB0)
  have HC := Hid.mk hc1
  clear h hc hd hdt hpa q1 hc1 hB0 hbx h0 gg1 gg2 gg3 hpl
  generalize M.take1 = R at *
  obtain ⟨rx, ry, RM⟩ := R
  dsimp only at kc
  unfold MO3 at KM
  dsimp only at KM HC
  go_enter Tryz.func34, Tryz.ntmps34
  go_wp2_with fail
  refine kc.mono ?_
  rintro e w1 ⟨rfl, hx1, hk1⟩
  have hk1' : Keeps (fun j => OwT F t n j ∨ X j) (w.alloc (stpC 4 N who two da dn dc)) w1 := hk1.mono (fun _ h => .inl h)
  have h1 := H0.out.1.after (Y := X) hx1 (H0.out.1.mm.apart hk1 (fun j e hx => H0.out.1.offX j hx e)) hk1' (fun _ h => .inl h)
  have ce : w1.cell? ⟨kr, 4, none⟩ = some (.pointer (some ⟨k, 0, none⟩)) := cell_of_block h1.b (j := 4) rfl
  have km := KM.out w1 h1.mm
  have H1 := Hid.mk (And.intro h1 hk1')
  clear kc hx1 hk1 hk1' h1 g0 KM
  go_wp2_with fail
  refine km.mono ?_
  rintro e w2 ⟨rfl, hm2, hk2⟩
  have HE : Hid (StpK w w2 F X kr p s q l m t n a1 a2 k S G (.returned (.bool true))) := H1.out.1.both H0.out.2 H1.out.2 HC.out hm2 hk2
  have kn := num6_any ry w2
  clear km hm2 hk2 H1 ce HC H0
  go_wp2_with fail
  refine kn.mono ?_
  rintro e wx ⟨rfl, hwx⟩
  have hwx' := hwx.symm
  subst hwx'
  clear hwx kn
  go_wp2
  go_ret
  exact HE.out
end
end Go.Proofs.YthohoicgidjpfabGreat
