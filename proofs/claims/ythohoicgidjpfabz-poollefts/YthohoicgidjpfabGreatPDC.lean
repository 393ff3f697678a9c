import Derived.Test.YthohoicgidjpfabGreatPDB
namespace Go.Proofs.YthohoicgidjpfabGreat
open Go.RowKit Go.Maps

section
variable {w w' w0 : World} {F X : Nat → Prop} {kr p s cR q l m t n a1 a2 k : Nat} {S : DS} {G : SG} {T : TG} {M : MP} {N : Int} {who two : Bool} {da : Option Addr} {dn dc : Nat} {dl : List Int} {e : Ending}
theorem StpO.of_later (h : StpO w0 w' F X kr p s q l m t n a1 a2 k S G e) (hb : Below w.heap.size w w0) : StpO w w' F X kr p s q l m t n a1 a2 k S G e := by
  obtain ⟨he, X', T', M', c', h1, h2, h3, h4⟩ := h
  have z := hb.size
  exact ⟨he, X', T', M', c', h1, h2, (Keeps.of_below _ hb).trans h3 (fun _ h => .inl h), fun j hj => (h4 j hj).imp (fun e => e) (fun e => ⟨by have := e.1; omega, e.2⟩)⟩
theorem looks_step (h : RgW w F X kr p s cR q l m t n a1 a2 k S G T M) (hc : CL G S T M) (hd : G.L.dead S = false) {pa : Nat} (hpa : PoolAt w F pa t n) :
    Calls Tryz.prog 12 #[.pointer (some ⟨kr, 0, none⟩), .pointer (some ⟨pa, 0, none⟩)] w fun e w' => StpO w w' F X kr p s q l m t n a1 a2 k S G e :=
  (looks_ok h.x hpa h.b h.offR h.mm h.offX (hc.state hd) hc.mstate hc.mb hc.rl hc.so hc.s0 hc.s1).mono (fun _e _w' ⟨he, ⟨c', hx⟩, hk⟩ => ⟨he, X, T, M, c', h.after hx (h.mm.apart hk (fun j ej hx => h.offX j hx ej)) (hk.mono (fun _ h => .inl h)) (fun _ h => .inl h), hc, hk.mono (fun _ h => .inl h), fun _ h => .inl h⟩)
set_option maxRecDepth 20000 in
set_option maxHeartbeats 16000000 in
theorem step_any (h : RgW w F X kr p s cR q l m t n a1 a2 k S G T M) (hc : CL G S T M) (hd : G.L.dead S = false) (hdt : G.y.data = 2 + G.y.nodes / 4) (hN : I64 N) (hs : ∀ w', Keeps (fun j => OwT F t n j ∨ X j) w w' → Src w' da dn dl) (hby : Bytes dl) (hdn : dn ≤ 140737488355328) (kd : Int) (hkd : kd = 1 ∨ kd = 7 ∨ kd = 11) :
    Calls Tryz.prog 13 #[.pointer (some ⟨kr, 0, none⟩), stpV kd N who two da dn dc] w fun e w' => StpO w w' F X kr p s q l m t n a1 a2 k S G e := by
  have hB0 := below_box w (stpC kd N who two da dn dc)
  have hbx := heap_alloc_new w (stpC kd N who two da dn dc)
  have g0 : (w.alloc (stpC kd N who two da dn dc)).cell? ⟨w.heap.size, 0, none⟩ = some (.int .i64 kd) := cell_of_block hbx (j := 0) rfl
  have g1 : (w.alloc (stpC kd N who two da dn dc)).cell? ⟨w.heap.size, 1, none⟩ = some (.int .i64 N) := cell_of_block hbx (j := 1) rfl
  have g2 : (w.alloc (stpC kd N who two da dn dc)).cell? ⟨w.heap.size, 2, none⟩ = some (.bool who) := cell_of_block hbx (j := 2) rfl
  have g3 : (w.alloc (stpC kd N who two da dn dc)).cell? ⟨w.heap.size, 3, none⟩ = some (.bool two) := cell_of_block hbx (j := 3) rfl
  have g4 : (w.alloc (stpC kd N who two da dn dc)).cell? ⟨w.heap.size, 4, none⟩ = some (.slice da dn dc) := cell_of_block hbx (j := 4) rfl
  have h0 := h.later hB0
  have r2 : (w.alloc (stpC kd N who two da dn dc)).cell? ⟨kr, 2, none⟩ = some (.pointer (some ⟨a1, 0, none⟩)) := cell_of_block h0.b (j := 2) rfl
  have r3 : (w.alloc (stpC kd N who two da dn dc)).cell? ⟨kr, 3, none⟩ = some (.pointer (some ⟨a2, 0, none⟩)) := cell_of_block h0.b (j := 3) rfl
  obtain ⟨pa, hpa, hpw⟩ : ∃ pa, PoolAt (w.alloc (stpC kd N who two da dn dc)) F pa t n ∧ pa = if who then a2 else a1 := by
    cases who
    · exact ⟨a1, h0.p1, rfl⟩
    · exact ⟨a2, h0.p2, rfl⟩
  have K1 : Hid (kd = 1 → Calls Tryz.prog 34 #[.pointer (some ⟨kr, 0, none⟩), .pointer (some ⟨pa, 0, none⟩), stpV kd N who two da dn dc] (w.alloc (stpC kd N who two da dn dc)) fun e w' => StpO w w' F X kr p s q l m t n a1 a2 k S G e) := fun e => by
    subst e
    exact (calls1_any h0 hc hd hdt hpa).mono (fun e w' h9 => h9.of_later hB0)
  have K7 : Hid (Calls Tryz.prog 12 #[.pointer (some ⟨kr, 0, none⟩), .pointer (some ⟨pa, 0, none⟩)] (w.alloc (stpC kd N who two da dn dc)) fun e w' => StpO w w' F X kr p s q l m t n a1 a2 k S G e) := (looks_step h0 hc hd hpa).mono (fun e w' h9 => h9.of_later hB0)
  have K11 : Hid (kd = 11 → Calls Tryz.prog 36 #[.pointer (some ⟨kr, 0, none⟩), .pointer (some ⟨pa, 0, none⟩), stpV kd N who two da dn dc] (w.alloc (stpC kd N who two da dn dc)) fun e w' => StpO w w' F X kr p s q l m t n a1 a2 k S G e) := fun e => by
    subst e
    exact (raw11_any h0 hc hd hpa hN (fun w' hk => hs w' ((Keeps.of_below _ hB0).trans hk (fun _ h => .inl h))) hby hdn).mono (fun e w' h9 => h9.of_later hB0)
  have HW := Hid.mk hpw
  clear h hc hd hdt hN hs hby hB0 hbx h0 hpa hpw
  rcases hkd with rfl | rfl | rfl
  · have kc := K1.out rfl
    clear K1 K7 K11
    cases who
    · obtain rfl : pa = a1 := HW.out
      go_enter Tryz.func13, Tryz.ntmps13
      go_wp2_with fail
      refine kc.mono ?_
      intro e w1 hP
      have he := hP.1
      subst he
      have HE := Hid.mk hP
      clear kc hP g0 g1 g2 g3 g4 r2 r3
      go_wp2
      go_ret
      exact HE.out
    · obtain rfl : pa = a2 := HW.out
      go_enter Tryz.func13, Tryz.ntmps13
      go_wp2_with fail
      refine kc.mono ?_
      intro e w1 hP
      have he := hP.1
      subst he
      have HE := Hid.mk hP
      clear kc hP g0 g1 g2 g3 g4 r2 r3
      go_wp2
      go_ret
      exact HE.out
  · have kc := K7.out
    clear K1 K7 K11
    cases who
    · obtain rfl : pa = a1 := HW.out
      go_enter Tryz.func13, Tryz.ntmps13
      go_wp2_with fail
      refine kc.mono ?_
      intro e w1 hP
      have he := hP.1
      subst he
      have HE := Hid.mk hP
      clear kc hP g0 g1 g2 g3 g4 r2 r3
      go_wp2
      go_ret
      exact HE.out
    · obtain rfl : pa = a2 := HW.out
      go_enter Tryz.func13, Tryz.ntmps13
      go_wp2_with fail
      refine kc.mono ?_
      intro e w1 hP
      have he := hP.1
      subst he
      have HE := Hid.mk hP
      clear kc hP g0 g1 g2 g3 g4 r2 r3
      go_wp2
      go_ret
      exact HE.out
  · have kc := K11.out rfl
    clear K1 K7 K11
    cases who
    · obtain rfl : pa = a1 := HW.out
      go_enter Tryz.func13, Tryz.ntmps13
      go_wp2_with fail
      refine kc.mono ?_
      intro e w1 hP
      have he := hP.1
      subst he
      have HE := Hid.mk hP
      clear kc hP g0 g1 g2 g3 g4 r2 r3
      go_wp2
      go_ret
      exact HE.out
    · obtain rfl : pa = a2 := HW.out
      go_enter Tryz.func13, Tryz.ntmps13
      go_wp2_with fail
      refine kc.mono ?_
      intro e w1 hP
      have he := hP.1
      subst he
      have HE := Hid.mk hP
      clear kc hP g0 g1 g2 g3 g4 r2 r3
      go_wp2
      go_ret
      exact HE.out
end
end Go.Proofs.YthohoicgidjpfabGreat
