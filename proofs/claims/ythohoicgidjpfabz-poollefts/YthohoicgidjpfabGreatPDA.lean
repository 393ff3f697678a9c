import Derived.Test.YthohoicgidjpfabGreatPD9
namespace Go.Proofs.YthohoicgidjpfabGreat
open Go.RowKit Go.Maps

/-- A step as a value. -/
abbrev stpV (kd N : Int) (who two : Bool) (da : Option Addr) (dn dc : Nat) : Value := .agg #[.int .i64 kd, .int .i64 N, .bool who, .bool two, .slice da dn dc]
abbrev stpC (kd N : Int) (who two : Bool) (da : Option Addr) (dn dc : Nat) : Obj := .cells #[.int .i64 kd, .int .i64 N, .bool who, .bool two, .slice da dn dc] 46
/-- What a step comes to. -/
def StpO (w w' : World) (F X : Nat → Prop) (kr p s q l m t n a1 a2 k : Nat) (S : DS) (G : SG) (e : Ending) : Prop :=
  e = .returned (.bool true) ∧ ∃ X' T' M' c', RgW w' F X' kr p s c' q l m t n a1 a2 k S G T' M' ∧ CL G S T' M' ∧ Keeps (fun j => OwT F t n j ∨ X j) w w' ∧ (∀ j, X' j → X j ∨ (w.heap.size ≤ j ∧ j < w'.heap.size))
section
variable {w w' w1 : World} {F X Y Z : Nat → Prop} {kr p s cR q l m t n a1 a2 k pa : Nat} {S : DS} {G : SG} {T T' : TG} {M M' : MP} {N : Int} {who two : Bool} {da : Option Addr} {dn dc : Nat}
theorem RgW.offX (h : RgW w F X kr p s cR q l m t n a1 a2 k S G T M) : ∀ j, X j → ¬ OwT F t n j := fun j hj e => by
  have h9 := h.xa j hj
  rcases e with e | e | e
  · exact h9.1 e
  · exact h9.2.2.2.2.1 e
  · exact h9.2.2.2.2.2.1 e
theorem RgW.later (h : RgW w F X kr p s cR q l m t n a1 a2 k S G T M) (hb : Below w.heap.size w w') : RgW w' F X kr p s cR q l m t n a1 a2 k S G T M :=
  h.after (h.x.later hb) (h.mm.later hb) (Keeps.of_below _ hb) (fun _ h => .inl h)
theorem RgW.offR (h : RgW w F X kr p s cR q l m t n a1 a2 k S G T M) : ¬ OwT F t n kr := fun e => by
  rcases e with e | e | e
  · exact h.nk.1 e
  · exact h.nk.2.2.2.2.1 e
  · exact h.nk.2.2.2.2.2 e
set_option maxRecDepth 20000 in
set_option maxHeartbeats 4000000 in
theorem calls1_any (h : RgW w F X kr p s cR q l m t n a1 a2 k S G T M) (hc : CL G S T M) (hd : G.L.dead S = false) (hdt : G.y.data = 2 + G.y.nodes / 4) (hpa : PoolAt w F pa t n) :
    Calls Tryz.prog 34 #[.pointer (some ⟨kr, 0, none⟩), .pointer (some ⟨pa, 0, none⟩), stpV 1 N who two da dn dc] w fun e w' => StpO w w' F X kr p s q l m t n a1 a2 k S G e := by
  obtain ⟨T1, M1, q1, q2, hc1⟩ := hc.clear hd h.x.yk hdt h.x.tx.ch.ok
  have hB0 := below_box w (stpC 1 N who two da dn dc)
  have hbx := heap_alloc_new w (stpC 1 N who two da dn dc)
  have g0 : (w.alloc (stpC 1 N who two da dn dc)).cell? ⟨w.heap.size, 0, none⟩ = some (.int .i64 1) := cell_of_block hbx (j := 0) rfl
  have h0 := h.later hB0
  have kc := clear_any h0.x (hpa.later hB0)
  rw [q1] at kc
  have H0 := Hid.mk (And.intro h0 (And.intro h hB0))
  have HC := Hid.mk (And.intro hc hc1)
  have HQ := Hid.mk q2
  clear h hc hd hdt hpa q1 q2 hc1 hB0 hbx h0
  go_enter Tryz.func34, Tryz.ntmps34
  go_wp2_with fail
  refine kc.mono ?_
  rintro e w1 ⟨rfl, hx1, hk1⟩
  have hk1' : Keeps (fun j => OwT F t n j ∨ X j) (w.alloc (stpC 1 N who two da dn dc)) w1 := hk1.mono (fun _ h => .inl h)
  have h1 := H0.out.1.after (Y := X) hx1 (H0.out.1.mm.apart hk1 (fun j e hx => H0.out.1.offX j hx e)) hk1' (fun _ h => .inl h)
  have ce : w1.cell? ⟨kr, 4, none⟩ = some (.pointer (some ⟨k, 0, none⟩)) := cell_of_block h1.b (j := 4) rfl
  have km := mclear_any h1.mm h1.xl (by have := HC.out.1.plen; omega) (by have := h1.x.yk.nd; have := HC.out.1.mn; omega)
  unfold MO at km
  rw [HQ.out] at km
  have H1 := Hid.mk (And.intro h1 hk1')
  clear kc hx1 hk1 hk1' h1 g0
  go_wp2_with fail
  refine km.mono ?_
  rintro e w2 ⟨rfl, hm2, hk2⟩
  have HE : Hid (∃ X' T' M' c', RgW w2 F X' kr p s c' q l m t n a1 a2 k S G T' M' ∧ CL G S T' M' ∧ Keeps (fun j => OwT F t n j ∨ X j) w w2 ∧ (∀ j, X' j → X j ∨ (w.heap.size ≤ j ∧ j < w2.heap.size))) := by
    have z0 := H0.out.2.2.size
    have z1 := H1.out.2.size
    refine ⟨_, T1, M1, _, H1.out.1.after (H1.out.1.x.apart hk2 (fun j hj => ?_)) hm2 (hk2.mono (fun _ h => .inr h)) (fun _ h => h), HC.out.2, ((Keeps.of_below _ H0.out.2.2).trans H1.out.2 (fun _ h => .inl h)).trans (hk2.mono (fun _ h => .inr h)) (fun _ h => .inl h), fun j hj => hj.imp (fun e => e) (fun e => ⟨by have := e.1; omega, e.2⟩)⟩
    have h9 := H1.out.1.xa j hj
    exact ⟨h9.1, h9.2.1, h9.2.2.1, h9.2.2.2.1, h9.2.2.2.2.1, h9.2.2.2.2.2.1⟩
  have kn := num6_any 0 w2
  clear km hm2 hk2 H1 ce
  go_wp2_with fail
  refine kn.mono ?_
  rintro e wx ⟨rfl, hwx⟩
  have hwx' := hwx.symm
  subst hwx'
  clear hwx kn
  go_wp2
  go_ret
  exact ⟨rfl, HE.out⟩
end
end Go.Proofs.YthohoicgidjpfabGreat
