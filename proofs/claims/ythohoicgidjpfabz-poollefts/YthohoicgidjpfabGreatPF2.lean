import Derived.Test.YthohoicgidjpfabGreatPF1
section
namespace Go.Proofs.YthohoicgidjpfabGreat
open Go.RowKit Go.Maps

section
variable {w w' w1 : World} {F X Y Z : Nat → Prop} {kr p s cR q l m t n a1 a2 k pa : Nat} {S : DS} {G : SG} {T T' : TG} {M M' : MP} {N : Int} {who two : Bool} {da : Option Addr} {dn dc : Nat}
set_option maxRecDepth 20000 in
set_option maxHeartbeats 4000000 in
theorem callsK1_any (h : RgW w F X kr p s cR q l m t n a1 a2 k S G T M) (hc : CK G S T M) (hd : G.L.dead S = false) (hdt : G.y.data = 2 + G.y.nodes / 4) (hpa : PoolAt w F pa t n) :
    Calls Tryz.prog 34 #[.pointer (some ⟨kr, 0, none⟩), .pointer (some ⟨pa, 0, none⟩), stpV 1 N who two da dn dc] w fun e w' => StpK w w' F X kr p s q l m t n a1 a2 k S G e := by
  obtain ⟨zz, T1, M1, q1, q2, hc1⟩ := hc.clearK hd h.x.yk hdt h.x.tx.ch.ok
  have hB0 := below_box w (stpC 1 N who two da dn dc)
  have hbx := heap_alloc_new w (stpC 1 N who two da dn dc)
  have g0 : (w.alloc (stpC 1 N who two da dn dc)).cell? ⟨w.heap.size, 0, none⟩ = some (.int .i64 1) := cell_of_block hbx (j := 0) rfl
  have h0 := h.later hB0
  have kc := clear_any h0.x (hpa.later hB0)
  rw [q1] at kc
  have H0 := Hid.mk (And.intro h0 (And.intro h hB0))
  have HC := Hid.mk (And.intro hc hc1)
  have HQ := Hid.mk q2
  clear h hc hd hdt hpa q1 q2 hc1 hB0 hbx h0
  go_enter Tryz.func34, Tryz.ntmps34
  go_wp2_with fail
  refine kc.mono ?_
  rintro e w1 ⟨rfl, hx1, hk1⟩
  have hk1' : Keeps (fun j => OwT F t n j ∨ X j) (w.alloc (stpC 1 N who two da dn dc)) w1 := hk1.mono (fun _ h => .inl h)
  have h1 := H0.out.1.after (Y := X) hx1 (H0.out.1.mm.apart hk1 (fun j e hx => H0.out.1.offX j hx e)) hk1' (fun _ h => .inl h)
  have ce : w1.cell? ⟨kr, 4, none⟩ = some (.pointer (some ⟨k, 0, none⟩)) := cell_of_block h1.b (j := 4) rfl
  have km := mclear_any h1.mm h1.xl (by have := HC.out.1.plen; omega) (by have := h1.x.yk.nd; have h9 : M.nodes = G.y.nodes := HC.out.1.cl.mn; omega)
  unfold MO at km
  rw [HQ.out] at km
  have H1 := Hid.mk (And.intro h1 hk1')
  clear kc hx1 hk1 hk1' h1 g0
  go_wp2_with fail
  refine km.mono ?_
  rintro e w2 ⟨rfl, hm2, hk2⟩
  have HE : Hid (∃ X' T' M' c', RgW w2 F X' kr p s c' q l m t n a1 a2 k S G T' M' ∧ CK G S T' M' ∧ Keeps (fun j => OwT F t n j ∨ X j) w w2 ∧ (∀ j, X' j → X j ∨ (w.heap.size ≤ j ∧ j < w2.heap.size))) := by
    have z0 := H0.out.2.2.size
    have z1 := H1.out.2.size
    refine ⟨_, T1, M1, _, H1.out.1.after (H1.out.1.x.apart hk2 (fun j hj => ?_)) hm2 (hk2.mono (fun _ h => .inr h)) (fun _ h => h), HC.out.2, ((Keeps.of_below _ H0.out.2.2).trans H1.out.2 (fun _ h => .inl h)).trans (hk2.mono (fun _ h => .inr h)) (fun _ h => .inl h), fun j hj => hj.imp (fun e => e) (fun e => ⟨by have := e.1; omega, e.2⟩)⟩
    have h9 := H1.out.1.xa j hj
    exact ⟨h9.1, h9.2.1, h9.2.2.1, h9.2.2.2.1, h9.2.2.2.2.1, h9.2.2.2.2.2.1⟩
  have kn := num6_any zz w2
  clear km hm2 hk2 H1 ce
  go_wp2_with fail
  refine kn.mono ?_
  rintro e wx ⟨rfl, hwx⟩
  have hwx' := hwx.symm
  subst hwx'
  clear hwx kn
  go_wp2
  go_ret
  exact ⟨rfl, HE.out⟩
set_option maxRecDepth 20000 in
set_option maxHeartbeats 16000000 in
theorem stepK_any {dl : List Int} (h : RgW w F X kr p s cR q l m t n a1 a2 k S G T M) (hc : CK G S T M) (hd : G.L.dead S = false) (hdt : G.y.data = 2 + G.y.nodes / 4) (hN : I64 N) (hs : ∀ w', Keeps (fun j => OwT F t n j ∨ X j) w w' → Src w' da dn dl) (hby : Bytes dl) (hdn : dn ≤ 140737488355328) (kd : Int) (hkd : kd = 1 ∨ kd = 2 ∨ kd = 3 ∨ kd = 4 ∨ kd = 5 ∨ kd = 6 ∨ kd = 11) :
    Calls Tryz.prog 13 #[.pointer (some ⟨kr, 0, none⟩), stpV kd N who two da dn dc] w fun e w' => StpK w w' F X kr p s q l m t n a1 a2 k S G e := by
  have hB0 := below_box w (stpC kd N who two da dn dc)
  have hbx := heap_alloc_new w (stpC kd N who two da dn dc)
  have g0 : (w.alloc (stpC kd N who two da dn dc)).cell? ⟨w.heap.size, 0, none⟩ = some (.int .i64 kd) := cell_of_block hbx (j := 0) rfl
  have g1 : (w.alloc (stpC kd N who two da dn dc)).cell? ⟨w.heap.size, 1, none⟩ = some (.int .i64 N) := cell_of_block hbx (j := 1) rfl
  have g2 : (w.alloc (stpC kd N who two da dn dc)).cell? ⟨w.heap.size, 2, none⟩ = some (.bool who) := cell_of_block hbx (j := 2) rfl
  have g3 : (w.alloc (stpC kd N who two da dn dc)).cell? ⟨w.heap.size, 3, none⟩ = some (.bool two) := cell_of_block hbx (j := 3) rfl
  have g4 : (w.alloc (stpC kd N who two da dn dc)).cell? ⟨w.heap.size, 4, none⟩ = some (.slice da dn dc) := cell_of_block hbx (j := 4) rfl
  have h0 := h.later hB0
  have r2 : (w.alloc (stpC kd N who two da dn dc)).cell? ⟨kr, 2, none⟩ = some (.pointer (some ⟨a1, 0, none⟩)) := cell_of_block h0.b (j := 2) rfl
  have r3 : (w.alloc (stpC kd N who two da dn dc)).cell? ⟨kr, 3, none⟩ = some (.pointer (some ⟨a2, 0, none⟩)) := cell_of_block h0.b (j := 3) rfl
  obtain ⟨pa, hpa, hpw⟩ : ∃ pa, PoolAt (w.alloc (stpC kd N who two da dn dc)) F pa t n ∧ pa = if who then a2 else a1 := by
    cases who
    · exact ⟨a1, h0.p1, rfl⟩
    · exact ⟨a2, h0.p2, rfl⟩
  have K1 : Hid (kd ≠ 11 → Calls Tryz.prog 34 #[.pointer (some ⟨kr, 0, none⟩), .pointer (some ⟨pa, 0, none⟩), stpV kd N who two da dn dc] (w.alloc (stpC kd N who two da dn dc)) fun e w' => StpK w w' F X kr p s q l m t n a1 a2 k S G e) := fun e => by
    rcases hkd with rfl | rfl | rfl | rfl | rfl | rfl | rfl
    · exact (callsK1_any h0 hc hd hdt hpa).mono (fun e w' h9 => h9.of_later hB0)
    · exact (calls2_any h0 hc hd hdt hpa).mono (fun e w' h9 => h9.of_later hB0)
    · exact (calls3_any h0 hc hd hdt hpa).mono (fun e w' h9 => h9.of_later hB0)
    · exact (calls4_any h0 hc hd hdt hpa).mono (fun e w' h9 => h9.of_later hB0)
    · exact (calls5_any h0 hc hd hdt hpa).mono (fun e w' h9 => h9.of_later hB0)
    · exact (calls6_any h0 hc hd hdt hpa).mono (fun e w' h9 => h9.of_later hB0)
    · exact absurd rfl e
  have K11 : Hid (kd = 11 → Calls Tryz.prog 36 #[.pointer (some ⟨kr, 0, none⟩), .pointer (some ⟨pa, 0, none⟩), stpV kd N who two da dn dc] (w.alloc (stpC kd N who two da dn dc)) fun e w' => StpK w w' F X kr p s q l m t n a1 a2 k S G e) := fun e => by
    subst e
    exact (rawK_any h0 hc hd hpa hN (fun w' hk => hs w' ((Keeps.of_below _ hB0).trans hk (fun _ h => .inl h))) hby hdn).mono (fun e w' h9 => h9.of_later hB0)
  have HW := Hid.mk hpw
  clear h hc hd hdt hN hs hby hB0 hbx h0 hpa hpw
  rcases hkd with rfl | rfl | rfl | rfl | rfl | rfl | rfl
  · have kc := K1.out (by decide)
    clear K1 K11
    cases who
    · obtain rfl : pa = a1 := HW.out
      go_enter Tryz.func13, Tryz.ntmps13
      go_wp2_with fail
      refine kc.mono ?_
      intro e w1 hP
      have he := hP.1
      subst he
      have HE := Hid.mk hP
      clear kc hP g0 g1 g2 g3 g4 r2 r3
      go_wp2
      go_ret
      exact HE.out
    · obtain rfl : pa = a2 := HW.out
      go_enter Tryz.func13, Tryz.ntmps13
      go_wp2_with fail
      refine kc.mono ?_
      intro e w1 hP
      have he := hP.1
      subst he
      have HE := Hid.mk hP
      clear kc hP g0 g1 g2 g3 g4 r2 r3
      go_wp2
      go_ret
      exact HE.out
  · have kc := K1.out (by decide)
    clear K1 K11
    cases who
    · obtain rfl : pa = a1 := HW.out
      go_enter Tryz.func13, Tryz.ntmps13
      go_wp2_with fail
      refine kc.mono ?_
      intro e w1 hP
      have he := hP.1
      subst he
      have HE := Hid.mk hP
      clear kc hP g0 g1 g2 g3 g4 r2 r3
      go_wp2
      go_ret
      exact HE.out
    · obtain rfl : pa = a2 := HW.out
      go_enter Tryz.func13, Tryz.ntmps13
      go_wp2_with fail
      refine kc.mono ?_
      intro e w1 hP
      have he := hP.1
      subst he
      have HE := Hid.mk hP
      clear kc hP g0 g1 g2 g3 g4 r2 r3
      go_wp2
      go_ret
      exact HE.out
  · have kc := K1.out (by decide)
    clear K1 K11
    cases who
    · obtain rfl : pa = a1 := HW.out
      go_enter Tryz.func13, Tryz.ntmps13
      go_wp2_with fail
      refine kc.mono ?_
      intro e w1 hP
      have he := hP.1
      subst he
      have HE := Hid.mk hP
      clear kc hP g0 g1 g2 g3 g4 r2 r3
      go_wp2
      go_ret
      exact HE.out
    · obtain rfl : pa = a2 := HW.out
      go_enter Tryz.func13, Tryz.ntmps13
      go_wp2_with fail
      refine kc.mono ?_
      intro e w1 hP
      have he := hP.1
      subst he
      have HE := Hid.mk hP
      clear kc hP g0 g1 g2 g3 g4 r2 r3
      go_wp2
      go_ret
      exact HE.out
  · have kc := K1.out (by decide)
    clear K1 K11
    cases who
    · obtain rfl : pa = a1 := HW.out
      go_enter Tryz.func13, Tryz.ntmps13
      go_wp2_with fail
      refine kc.mono ?_
      intro e w1 hP
      have he := hP.1
      subst he
      have HE := Hid.mk hP
      clear kc hP g0 g1 g2 g3 g4 r2 r3
      go_wp2
      go_ret
      exact HE.out
    · obtain rfl : pa = a2 := HW.out
      go_enter Tryz.func13, Tryz.ntmps13
      go_wp2_with fail
      refine kc.mono ?_
      intro e w1 hP
      have he := hP.1
      subst he
      have HE := Hid.mk hP
      clear kc hP g0 g1 g2 g3 g4 r2 r3
      go_wp2
      go_ret
      exact HE.out
  · have kc := K1.out (by decide)
    clear K1 K11
    cases who
    · obtain rfl : pa = a1 := HW.out
      go_enter Tryz.func13, Tryz.ntmps13
      go_wp2_with fail
      refine kc.mono ?_
      intro e w1 hP
      have he := hP.1
      subst he
      have HE := Hid.mk hP
      clear kc hP g0 g1 g2 g3 g4 r2 r3
      go_wp2
      go_ret
      exact HE.out
    · obtain rfl : pa = a2 := HW.out
      go_enter Tryz.func13, Tryz.ntmps13
      go_wp2_with fail
      refine kc.mono ?_
      intro e w1 hP
      have he := hP.1
      subst he
      have HE := Hid.mk hP
      clear kc hP g0 g1 g2 g3 g4 r2 r3
      go_wp2
      go_ret
      exact HE.out
  · have kc := K1.out (by decide)
    clear K1 K11
    cases who
    · obtain rfl : pa = a1 := HW.out
      go_enter Tryz.func13, Tryz.ntmps13
      go_wp2_with fail
      refine kc.mono ?_
      intro e w1 hP
      have he := hP.1
      subst he
      have HE := Hid.mk hP
      clear kc hP g0 g1 g2 g3 g4 r2 r3
      go_wp2
      go_ret
      exact HE.out
    · obtain rfl : pa = a2 := HW.out
      go_enter Tryz.func13, Tryz.ntmps13
      go_wp2_with fail
      refine kc.mono ?_
      intro e w1 hP
      have he := hP.1
      subst he
      have HE := Hid.mk hP
      clear kc hP g0 g1 g2 g3 g4 r2 r3
      go_wp2
      go_ret
      exact HE.out
  · have kc := K11.out rfl
    clear K1 K11
    cases who
    · obtain rfl : pa = a1 := HW.out
      go_enter Tryz.func13, Tryz.ntmps13
      go_wp2_with fail
      refine kc.mono ?_
      intro e w1 hP
      have he := hP.1
      subst he
      have HE := Hid.mk hP
      clear kc hP g0 g1 g2 g3 g4 r2 r3
      go_wp2
      go_ret
      exact HE.out
    · obtain rfl : pa = a2 := HW.out
      go_enter Tryz.func13, Tryz.ntmps13
      go_wp2_with fail
      refine kc.mono ?_
      intro e w1 hP
      have he := hP.1
      subst he
      have HE := Hid.mk hP
      clear kc hP g0 g1 g2 g3 g4 r2 r3
      go_wp2
      go_ret
      exact HE.out
end
end Go.Proofs.YthohoicgidjpfabGreat
end

section
namespace Go.Proofs.YthohoicgidjpfabGreat
open Go.RowKit Go.Maps

/-- A rig, its blocks all in E. -/
def RGK (w : World) (E : Nat → Prop) (kr : Nat) : Prop :=
  ∃ F X p s cR q l m t n a1 a2 k S G T M, RgW w F X kr p s cR q l m t n a1 a2 k S G T M ∧ CK G S T M ∧ G.L.dead S = false ∧ G.y.data = 2 + G.y.nodes / 4 ∧ (∀ j, F j → E j) ∧ (∀ j, X j → E j) ∧ E kr ∧ E q ∧ E l ∧ E m ∧ E t ∧ E n ∧ E a1 ∧ E a2 ∧ (∀ j, E j → j < w.heap.size)
section
variable {w w' : World} {E Z : Nat → Prop} {kr W0 : Nat} {N : Int} {who two : Bool} {da : Option Addr} {dn dc : Nat} {dl : List Int}
theorem RGK.apart (h : RGK w E kr) (hk : Keeps Z w w') (hZ : ∀ j, Z j → ¬ E j) : RGK w' E kr := by
  obtain ⟨F, X, p, s, cR, q, l, m, t, n, a1, a2, k, S, G, T, M, h, hc, hd, hdt, eF, eX, e0, e1, e2, e3, e4, e5, e6, e7, hl⟩ := h
  have hp : ∀ a, E a → PoolAt w F a t n → PoolAt w' F a t n := fun a ea ha => ⟨(hk.block a ha.lt (fun e => hZ a e ea)).trans ha.b, ha.nf⟩
  refine ⟨F, X, p, s, cR, q, l, m, t, n, a1, a2, k, S, G, T, M, ⟨(hk.block kr (lt_there h.b) (fun e => hZ kr e e0)).trans h.b, h.x.apart hk (fun j hj => ?_), hp a1 e6 h.p1, hp a2 e7 h.p2, h.mm.apart hk (fun j hj hx => hZ j hj (eX j hx)), fun j hj => Nat.lt_of_lt_of_le (h.xl j hj) hk.size, h.nk, h.xa⟩, hc, hd, hdt, eF, eX, e0, e1, e2, e3, e4, e5, e6, e7, fun j hj => Nat.lt_of_lt_of_le (hl j hj) hk.size⟩
  have h9 := hZ j hj
  exact ⟨fun e => h9 (eF j e), fun e => h9 (e ▸ e1), fun e => h9 (e ▸ e2), fun e => h9 (e ▸ e3), fun e => h9 (e ▸ e4), fun e => h9 (e ▸ e5)⟩
theorem RGK.later (h : RGK w E kr) (hb : Below w.heap.size w w') : RGK w' E kr := h.apart (Keeps.of_below (fun _ => False) hb) (fun _ h => h.elim)
theorem RGK.lt (h : RGK w E kr) : ∀ j, E j → j < w.heap.size := by
  obtain ⟨F, X, p, s, cR, q, l, m, t, n, a1, a2, k, S, G, T, M, h, hc, hd, hdt, eF, eX, e0, e1, e2, e3, e4, e5, e6, e7, hl⟩ := h
  exact hl
/-- What is left behind a call on one rig. -/
def RGKO (w w' : World) (E : Nat → Prop) (kr : Nat) (e : Ending) : Prop := e = .returned (.bool true) ∧ RGK w' (fun j => E j ∨ (w.heap.size ≤ j ∧ j < w'.heap.size)) kr ∧ Keeps E w w'
theorem StpK.rg {F X : Nat → Prop} {p s q l m t n a1 a2 k : Nat} {S : DS} {G : SG} {e : Ending} (h : StpK w w' F X kr p s q l m t n a1 a2 k S G e) (hd : G.L.dead S = false) (hdt : G.y.data = 2 + G.y.nodes / 4) (eF : ∀ j, F j → E j) (eX : ∀ j, X j → E j) (e0 : E kr) (e1 : E q) (e2 : E l) (e3 : E m) (e4 : E t) (e5 : E n) (e6 : E a1) (e7 : E a2) (hl : ∀ j, E j → j < w.heap.size) : RGKO w w' E kr e := by
  obtain ⟨he, X', T', M', c', h1, h2, h3, h4⟩ := h
  refine ⟨he, ⟨F, X', p, s, c', q, l, m, t, n, a1, a2, k, S, G, T', M', h1, h2, hd, hdt, fun j hj => .inl (eF j hj), fun j hj => (h4 j hj).imp (eX j) (fun e => e), .inl e0, .inl e1, .inl e2, .inl e3, .inl e4, .inl e5, .inl e6, .inl e7, fun j hj => ?_⟩, h3.mono (fun j hj => ?_)⟩
  · rcases hj with hj | hj
    · exact Nat.lt_of_lt_of_le (hl j hj) h3.size
    · exact hj.2
  · rcases hj with (hj | hj | hj) | hj
    · exact eF j hj
    · exact hj ▸ e4
    · exact hj ▸ e5
    · exact eX j hj
theorem RGK.step (h : RGK w E kr) (hN : I64 N) (hs : ∀ w', Keeps E w w' → Src w' da dn dl) (hby : Bytes dl) (hdn : dn ≤ 140737488355328) (kd : Int) (hkd : kd = 1 ∨ kd = 2 ∨ kd = 3 ∨ kd = 4 ∨ kd = 5 ∨ kd = 6 ∨ kd = 11) :
    Calls Tryz.prog 13 #[.pointer (some ⟨kr, 0, none⟩), stpV kd N who two da dn dc] w fun e w' => RGKO w w' E kr e := by
  obtain ⟨F, X, p, s, cR, q, l, m, t, n, a1, a2, k, S, G, T, M, h, hc, hd, hdt, eF, eX, e0, e1, e2, e3, e4, e5, e6, e7, hl⟩ := h
  refine (stepK_any h hc hd hdt hN (fun w' hk => hs w' (hk.mono (fun j hj => ?_))) hby hdn kd hkd).mono (fun e w' h9 => h9.rg hd hdt eF eX e0 e1 e2 e3 e4 e5 e6 e7 hl)
  rcases hj with (hj | hj | hj) | hj
  · exact eF j hj
  · exact hj ▸ e4
  · exact hj ▸ e5
  · exact eX j hj
theorem RG.k (h : RG w E kr) : RGK w E kr := by
  obtain ⟨F, X, p, s, cR, q, l, m, t, n, a1, a2, k, S, G, T, M, h, hc, r⟩ := h
  exact ⟨F, X, p, s, cR, q, l, m, t, n, a1, a2, k, S, G, T, M, h, hc.ck, r⟩
end
/-- What the rounds of a play keep: two rigs apart. -/
def PlK (w wr : World) (ka kb : Nat) : Prop := ∃ E1 E2, RGK wr E1 ka ∧ RGK wr E2 kb ∧ (∀ j, E1 j → ¬ E2 j) ∧ (∀ j, E1 j → w.heap.size ≤ j) ∧ (∀ j, E2 j → w.heap.size ≤ j) ∧ Below w.heap.size w wr
theorem PlK.later {w wr w' : World} {ka kb : Nat} (h : PlK w wr ka kb) (hb : Below wr.heap.size wr w') : PlK w w' ka kb := by
  obtain ⟨E1, E2, h1, h2, h3, h4, h5, h6⟩ := h
  exact ⟨E1, E2, h1.later hb, h2.later hb, h3, h4, h5, h6.trans (hb.mono h6.size)⟩
theorem PlK.a {w wr w' : World} {ka kb : Nat} {E1 E2 : Nat → Prop} (h1 : RGK w' (fun j => E1 j ∨ (wr.heap.size ≤ j ∧ j < w'.heap.size)) ka) (hk : Keeps E1 wr w') (h2 : RGK wr E2 kb) (h3 : ∀ j, E1 j → ¬ E2 j) (h4 : ∀ j, E1 j → w.heap.size ≤ j) (h5 : ∀ j, E2 j → w.heap.size ≤ j) (h6 : Below w.heap.size w wr) : PlK w w' ka kb := by
  have hl := h2.lt
  have z := h6.size
  refine ⟨_, E2, h1, h2.apart hk h3, fun j hj e => ?_, fun j hj => ?_, h5, h6.trans (hk.below h4 h6.size)⟩
  · rcases hj with hj | hj
    · exact h3 j hj e
    · have := hl j e
      omega
  · rcases hj with hj | hj
    · exact h4 j hj
    · omega
theorem PlK.swap {w wr : World} {ka kb : Nat} (h : PlK w wr ka kb) : PlK w wr kb ka := by
  obtain ⟨E1, E2, h1, h2, h3, h4, h5, h6⟩ := h
  exact ⟨E2, E1, h2, h1, fun j hj e => h3 j e hj, h5, h4, h6⟩
/-- One step on the first of two rigs. -/
theorem PlK.step {w wr : World} {ka kb : Nat} {N : Int} {who two : Bool} {da : Option Addr} {dn dc : Nat} {dl : List Int} (h : PlK w wr ka kb) (hN : I64 N) (hs : Src wr da dn dl) (hsl : ∀ x, da = some x → 0 < dn → x.block < w.heap.size) (hby : Bytes dl) (hdn : dn ≤ 140737488355328) (kd : Int) (hkd : kd = 1 ∨ kd = 2 ∨ kd = 3 ∨ kd = 4 ∨ kd = 5 ∨ kd = 6 ∨ kd = 11) :
    Calls Tryz.prog 13 #[.pointer (some ⟨ka, 0, none⟩), stpV kd N who two da dn dc] wr fun e w' => e = .returned (.bool true) ∧ PlK w w' ka kb := by
  obtain ⟨E1, E2, h1, h2, h3, h4, h5, h6⟩ := h
  exact (h1.step hN (fun w' hk => hs.far (hk.below h4 h6.size) hsl) hby hdn kd hkd).mono (fun e w' ⟨he, hr, hk⟩ => ⟨he, PlK.a hr hk h2 h3 h4 h5 h6⟩)
theorem PlI.k {w wr : World} {ka kb : Nat} (h : PlI w wr ka kb) : PlK w wr ka kb := by
  obtain ⟨E1, E2, h1, h2, r⟩ := h
  exact ⟨E1, E2, h1.k, h2.k, r⟩
/-- The kinds of PoolLefts. -/
def kL (j : Nat) : Int := if j = 0 then 2 else if j = 1 then 3 else if j = 2 then 4 else if j = 3 then 5 else if j = 4 then 6 else 11
def inL (kd : Int) : Nat → Bool
  | 0 => false
  | j + 1 => inL kd j || (kL j == kd)
theorem inL_six {kd : Int} (h : inL kd 6 = true) : kd = 1 ∨ kd = 2 ∨ kd = 3 ∨ kd = 4 ∨ kd = 5 ∨ kd = 6 ∨ kd = 11 := by
  simp [inL, kL] at h
  omega
end Go.Proofs.YthohoicgidjpfabGreat
end

section
namespace Go.Proofs.YthohoicgidjpfabGreat
open Go.RowKit Go.Maps

set_option maxRecDepth 20000 in
set_option maxHeartbeats 16000000 in
theorem playsK_any (B1 L1 N1 B2 L2 N2 : Int) (i1 : I64 B1) (i2 : I64 L1) (i3 : I64 N1) (i4 : I64 B2) (i5 : I64 L2) (i6 : I64 N2) (sa : Option Addr) (sn sc kk kc : Nat) (w : World) (hst : Steps6 w w.heap.size sa sn) (_hsn : 48 * sn ≤ 140737488355328) (hkk : kk < w.heap.size) (hkc : ∀ j, j < 6 → w.cell? ⟨kk, j, none⟩ = some (.int .i64 (kL j))) :
    Calls Tryz.prog 6 #[.agg #[.int .i64 B1, .int .i64 L1, .int .i64 N1], .agg #[.int .i64 B2, .int .i64 L2, .int .i64 N2], .slice sa sn sc, .slice (some ⟨kk, 0, none⟩) 6 kc] w fun e w' => e = .returned (.bool true) ∧ Below w.heap.size w w' := by
  obtain ⟨hG1, _, _, _, _, _, _, _⟩ := geoOf_ok B1 L1 N1
  obtain ⟨hG2, _, _, _, _, _, _, _⟩ := geoOf_ok B2 L2 N2
  have b1 := below_box w (.cells #[.int .i64 B1, .int .i64 L1, .int .i64 N1] 23)
  have b2 := below_box (w.alloc (.cells #[.int .i64 B1, .int .i64 L1, .int .i64 N1] 23)) (.cells #[.int .i64 B2, .int .i64 L2, .int .i64 N2] 23)
  have n1 := heap_alloc_new w (.cells #[.int .i64 B1, .int .i64 L1, .int .i64 N1] 23)
  have n2 := heap_alloc_new (w.alloc (.cells #[.int .i64 B1, .int .i64 L1, .int .i64 N1] 23)) (.cells #[.int .i64 B2, .int .i64 L2, .int .i64 N2] 23)
  have z1 : (w.alloc (.cells #[.int .i64 B1, .int .i64 L1, .int .i64 N1] 23)).heap.size = w.heap.size + 1 := by rw [World.size_alloc]
  rw [z1] at n2
  have n1' := (b2.block _ (lt_there n1)).trans n1
  have b12 : Below w.heap.size w _ := b1.trans (b2.mono b1.size)
  have g0 := cell_of_block n1' (j := 0) rfl
  have g1 := cell_of_block n1' (j := 1) rfl
  have g2 := cell_of_block n1' (j := 2) rfl
  have ks1 := super6_any B1 L1 N1 i1 i2 i3 ((w.alloc (.cells #[.int .i64 B1, .int .i64 L1, .int .i64 N1] 23)).alloc (.cells #[.int .i64 B2, .int .i64 L2, .int .i64 N2] 23))
  have KR1 : Hid (∀ w, Calls Tryz.prog 7 #[supV (geoOf B1 L1 N1)] w fun e w' => RigO w w' (geoOf B1 L1 N1) e) := fun w => rig_any (geoOf B1 L1 N1) hG1 w
  have KS2 : Hid (∀ w, Calls Tryz.prog 8 #[.agg #[.int .i64 B2, .int .i64 L2, .int .i64 N2]] w fun e w' => e = .returned (supV (geoOf B2 L2 N2)) ∧ Below w.heap.size w w') := fun w => super6_any B2 L2 N2 i4 i5 i6 w
  have KR2 : Hid (∀ w, Calls Tryz.prog 7 #[supV (geoOf B2 L2 N2)] w fun e w' => RigO w w' (geoOf B2 L2 N2) e) := fun w => rig_any (geoOf B2 L2 N2) hG2 w
  generalize geoOf B1 L1 N1 = ga at *
  generalize geoOf B2 L2 N2 = gb at *
  have HN2 := Hid.mk (And.intro n2 b12)
  have HST := Hid.mk (And.intro hst hkc)
  clear hG1 hG2 i1 i2 i3 i4 i5 i6 b1 b2 n1 n2 n1' b12 z1 hst hkc
  go_enter Tryz.func6, Tryz.ntmps6
  go_wp2_with fail
  refine ks1.mono ?_
  rintro e w1 ⟨rfl, hb1⟩
  have kr1 := KR1.out w1
  have HB1 := Hid.mk (HN2.out.2.trans (hb1.mono HN2.out.2.size))
  have n2' := (hb1.block _ (lt_there HN2.out.1)).trans HN2.out.1
  have HN3 := Hid.mk n2'
  clear ks1 hb1 n2' g0 g1 g2 HN2
  go_wp2_with fail
  refine kr1.mono ?_
  intro e w2 hR
  obtain ⟨ka, he, hra, hb2⟩ := hR.rg
  subst he
  have n3 := (hb2.block _ (lt_there HN3.out)).trans HN3.out
  have g0 := cell_of_block n3 (j := 0) rfl
  have g1 := cell_of_block n3 (j := 1) rfl
  have g2 := cell_of_block n3 (j := 2) rfl
  have ks2 := KS2.out w2
  have HA := Hid.mk (And.intro hra hb2)
  clear kr1 hR hra hb2 n3
  go_wp2_with fail
  refine ks2.mono ?_
  rintro e w3 ⟨rfl, hb3⟩
  have kr2 := KR2.out w3
  have HB3 := Hid.mk hb3
  clear ks2 hb3 g0 g1 g2
  go_wp2_with fail
  refine kr2.mono ?_
  intro e w4 hR
  obtain ⟨kb, he, hrb, hb4⟩ := hR.rg
  subst he
  have hrr := HA.out.1.later (HB3.out.trans (hb4.mono HB3.out.size))
  have ca := hrr.cells
  have cb := hrb.cells
  obtain ⟨a1, k, c2, kc1⟩ := hrr.clear
  have HP : Hid (RG w4 (fun j => w3.heap.size ≤ j ∧ j < w4.heap.size) kb ∧ (∀ j, (w1.heap.size ≤ j ∧ j < w2.heap.size) → ¬ (w3.heap.size ≤ j ∧ j < w4.heap.size)) ∧ (∀ j, (w1.heap.size ≤ j ∧ j < w2.heap.size) → w.heap.size ≤ j) ∧ (∀ j, (w3.heap.size ≤ j ∧ j < w4.heap.size) → w.heap.size ≤ j) ∧ Below w.heap.size w w4) := by
    have y1 := HB1.out.size
    have y2 := HA.out.2.size
    have y3 := HB3.out.size
    exact ⟨hrb, fun j h1 h2 => by omega, fun j h1 => by omega, fun j h1 => by omega, ((HB1.out.trans (HA.out.2.mono y1)).trans (HB3.out.mono (by omega))).trans (hb4.mono (by omega))⟩
  clear kr2 hR hrb hb4 hrr HA HB1 HB3 HN3
  go_wp2_with fail
  refine kc1.mono ?_
  rintro e w5 ⟨rfl, c4, km⟩
  clear kc1 c2 ca cb
  go_wp2_with fail
  refine km.mono ?_
  rintro e w6 ⟨rfl, hr6, hk6⟩
  have HI6 : Hid (PlI w w6 ka kb) := PlI.a hr6 hk6 HP.out.1 HP.out.2.1 HP.out.2.2.1 HP.out.2.2.2.1 HP.out.2.2.2.2
  have kn := num6_any 0 w6
  clear km hr6 hk6 HP c4
  go_wp2_with fail
  refine kn.mono ?_
  rintro e wx ⟨rfl, hwx⟩
  have hwx' := hwx.symm
  subst hwx'
  clear hwx kn
  obtain ⟨E1, E2, r1, r2, r3, r4, r5, r6⟩ := HI6.out
  obtain ⟨a2, c3, kl⟩ := r1.looks
  have HI : Hid (RG w6 E2 kb ∧ (∀ j, E1 j → ¬ E2 j) ∧ (∀ j, E1 j → w.heap.size ≤ j) ∧ (∀ j, E2 j → w.heap.size ≤ j) ∧ Below w.heap.size w w6) := ⟨r2, r3, r4, r5, r6⟩
  clear r1 r2 r3 r4 r5 r6 HI6
  go_wp2_with fail
  refine kl.mono ?_
  rintro e w7 ⟨rfl, hr7, hk7⟩
  have HI7 : Hid (PlI w w7 ka kb) := PlI.a hr7 hk7 HI.out.1 HI.out.2.1 HI.out.2.2.1 HI.out.2.2.2.1 HI.out.2.2.2.2
  clear kl hr7 hk7 HI c3
  go_wp2
  go_loopw [13] (fun iv wr => ∃ i : Nat, i ≤ sn ∧ iv = .int .i64 (i : Int) ∧ PlK w wr ka kb) (fun iv _ => sn - (intOf iv).toNat)
  case atStart => exact ⟨0, Nat.zero_le _, rfl, HI7.out.k⟩
  case round =>
    clear HI7
    obtain ⟨i, hi, rfl, hI⟩ := hrel
    have HJ := Hid.mk hI
    clear hI
    by_cases hlt : i < sn
    · have hlt' : (i : Int) < (sn : Int) := by omega
      by_cases hl2 : i < 3000
      · have hl2' : (i : Int) < 3000 := by omega
        have hbw : Below w.heap.size w wr := by obtain ⟨E1, E2, _, _, _, _, _, r6⟩ := HJ.out; exact r6
        cases sa with
        | none => have := HST.out.1.1 rfl; omega
        | some y =>
        obtain ⟨b, o, rfl, hbb, kd, N, who, two, da, dn, dc, dl, s0, s1, s2, s3, s4, hN, hsr, hby, hdn, hsl⟩ := (HST.out.1.far hbw).2 y rfl i hlt
        have hkc : ∀ j, j < 6 → wr.cell? ⟨kk, j, none⟩ = some (.int .i64 (kL j)) := fun j hj => (World.cell?_of_block (w := w) (a := ⟨kk, j, none⟩) (hbw.block kk hkk)).trans (HST.out.2 j hj)
        have HK := Hid.mk (And.intro hkc (And.intro s0 (And.intro s1 (And.intro s2 (And.intro s3 s4)))))
        have HD := Hid.mk (And.intro hN (And.intro hsr (And.intro hsl (And.intro hby hdn))))
        have hi0 : (0 : Int) ≤ (i : Int) := by omega
        clear hkc s0 s1 s2 s3 s4 hN hsr hsl hby hdn hbw hbb
        go_wp2
        rename World => wo
        go_loopw [14, 15] (fun nv jv wx => ∃ j : Nat, j ≤ 6 ∧ jv = .int .i64 (j : Int) ∧ nv = .bool (inL kd j) ∧ Below wo.heap.size wo wx) (fun _ jv _ => 6 - (intOf jv).toNat)
        case atStart => exact ⟨0, Nat.zero_le _, rfl, rfl, Below.refl _ _⟩
        case round =>
          obtain ⟨j, hj, rfl, rfl, hbx⟩ := hrel
          by_cases hlt3 : j < 6
          · have hlt3' : (j : Int) < 6 := by omega
            have hj0 : (0 : Int) ≤ (j : Int) := by omega
            have k0 := cell_later hbx (HK.out.1 j hlt3)
            have t0 := cell_later hbx HK.out.2.1
            cases hin : inL kd j
            · have HIn : Hid (inL kd (j + 1) = (kL j == kd)) := by show (inL kd j || (kL j == kd)) = _; rw [hin]; rfl
              clear hin
              generalize kL j = kv at *
              go_wp2
              go_quiet (fail)
              go_wp2
              go_roundw
              case rel => exact ⟨j + 1, by omega, by go_num, by rw [HIn.out], below_drewN hbx _⟩
              case measure => simp [intOf]; omega
            · have HIn : Hid (inL kd (j + 1) = true) := by show (inL kd j || (kL j == kd)) = _; rw [hin]; rfl
              clear hin k0
              go_wp2
              go_quiet (fail)
              go_wp2
              go_roundw
              case rel => exact ⟨j + 1, by omega, by go_num, by rw [HIn.out], below_drewN hbx _⟩
              case measure => simp [intOf]; omega
          · obtain rfl : j = 6 := by omega
            have hlt3' : ¬ (6 : Int) < 6 := by omega
            have HJ2 := Hid.mk (HJ.out.later hbx)
            cases hin : inL kd 6
            · clear hin
              go_wp2
              go_roundw
              case rel => exact ⟨i + 1, by omega, by go_num, HJ2.out⟩
              case measure => simp [intOf]; omega
            · have hkd := inL_six hin
              have t0 := cell_later hbx HK.out.2.1
              have t1 := cell_later hbx HK.out.2.2.1
              have t2 := cell_later hbx HK.out.2.2.2.1
              have t3 := cell_later hbx HK.out.2.2.2.2.1
              have t4 := cell_later hbx HK.out.2.2.2.2.2
              have hsr := HD.out.2.1.later hbx
              have HKd := Hid.mk hkd
              clear hin hkd
              cases two
              · have kst := HJ2.out.step (who := who) (two := false) (dc := dc) HD.out.1 hsr HD.out.2.2.1 HD.out.2.2.2.1 HD.out.2.2.2.2 kd HKd.out
                clear hsr
                go_wp2_with fail
                refine kst.mono ?_
                rintro e w8 ⟨rfl, hI8⟩
                have HI8 := Hid.mk hI8
                clear kst hI8 t0 t1 t2 t3 t4
                go_wp2
                go_roundw
                case rel => exact ⟨i + 1, by omega, by go_num, HI8.out⟩
                case measure => simp [intOf]; omega
              · have kst := HJ2.out.swap.step (who := who) (two := true) (dc := dc) HD.out.1 hsr HD.out.2.2.1 HD.out.2.2.2.1 HD.out.2.2.2.2 kd HKd.out
                clear hsr
                go_wp2_with fail
                refine kst.mono ?_
                rintro e w8 ⟨rfl, hI8⟩
                have HI8 := Hid.mk hI8.swap
                clear kst hI8 t0 t1 t2 t3 t4
                go_wp2
                go_roundw
                case rel => exact ⟨i + 1, by omega, by go_num, HI8.out⟩
                case measure => simp [intOf]; omega
      · have hl2' : ¬ (i : Int) < 3000 := by omega
        go_wp2
        go_ret
        obtain ⟨E1, E2, _, _, _, _, _, r6⟩ := HJ.out
        exact ⟨rfl, r6⟩
    · have hlt' : ¬ (i : Int) < (sn : Int) := by omega
      go_wp2
      go_ret
      obtain ⟨E1, E2, _, _, _, _, _, r6⟩ := HJ.out
      exact ⟨rfl, r6⟩
end Go.Proofs.YthohoicgidjpfabGreat
end
