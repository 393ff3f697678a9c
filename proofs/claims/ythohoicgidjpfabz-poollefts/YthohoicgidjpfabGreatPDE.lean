import Derived.Test.YthohoicgidjpfabGreatPDS
namespace Go.Proofs.YthohoicgidjpfabGreat
open Go.RowKit Go.Maps

section
variable {w w' : World} {E : Nat → Prop} {kr : Nat}
theorem RG.cells (h : RG w E kr) : w.cell? ⟨kr, 5, none⟩ = some (.bool true) := by
  obtain ⟨F, X, p, s, cR, q, l, m, t, n, a1, a2, k, S, G, T, M, h, hc, hd, hdt, eF, eX, e0, e1, e2, e3, e4, e5, e6, e7, hl⟩ := h
  exact cell_of_block h.b (j := 5) rfl
theorem RG.looks (h : RG w E kr) : ∃ a2, w.cell? ⟨kr, 3, none⟩ = some (.pointer (some ⟨a2, 0, none⟩)) ∧ Calls Tryz.prog 12 #[.pointer (some ⟨kr, 0, none⟩), .pointer (some ⟨a2, 0, none⟩)] w fun e w' => RGO w w' E kr e := by
  obtain ⟨F, X, p, s, cR, q, l, m, t, n, a1, a2, k, S, G, T, M, h, hc, hd, hdt, eF, eX, e0, e1, e2, e3, e4, e5, e6, e7, hl⟩ := h
  exact ⟨a2, cell_of_block h.b (j := 3) rfl, (looks_step h hc hd h.p2).mono (fun e w' h9 => h9.rg hd hdt eF eX e0 e1 e2 e3 e4 e5 e6 e7 hl)⟩
/-- Both Clears, one behind the other. -/
theorem RG.clear (h : RG w E kr) : ∃ a1 k, w.cell? ⟨kr, 2, none⟩ = some (.pointer (some ⟨a1, 0, none⟩)) ∧ Calls Tryz.prog 9 #[.pointer (some ⟨a1, 0, none⟩)] w fun e w1 => e = .returned (.int .i64 0) ∧ w1.cell? ⟨kr, 4, none⟩ = some (.pointer (some ⟨k, 0, none⟩)) ∧ Calls Tryz.prog 10 #[.pointer (some ⟨k, 0, none⟩)] w1 fun e w2 => e = .returned (.int .i64 0) ∧ RG w2 (fun j => E j ∨ (w.heap.size ≤ j ∧ j < w2.heap.size)) kr ∧ Keeps E w w2 := by
  obtain ⟨F, X, p, s, cR, q, l, m, t, n, a1, a2, k, S, G, T, M, h, hc, hd, hdt, eF, eX, e0, e1, e2, e3, e4, e5, e6, e7, hl⟩ := h
  obtain ⟨T1, M1, q1, q2, hc1⟩ := hc.clear hd h.x.yk hdt h.x.tx.ch.ok
  have kc := clear_any h.x h.p1
  rw [q1] at kc
  refine ⟨a1, k, cell_of_block h.b (j := 2) rfl, kc.mono (fun e w1 ⟨he, hx1, hk1⟩ => ⟨he, ?_⟩)⟩
  have hk1' : Keeps (fun j => OwT F t n j ∨ X j) w w1 := hk1.mono (fun _ h => .inl h)
  have h1 := h.after (Y := X) hx1 (h.mm.apart hk1 (fun j ej hx => h.offX j hx ej)) hk1' (fun _ h => .inl h)
  have km := mclear_any h1.mm h1.xl (by have := hc.plen; omega) (by have := h1.x.yk.nd; have := hc.mn; omega)
  unfold MO at km
  rw [q2] at km
  refine ⟨cell_of_block h1.b (j := 4) rfl, km.mono (fun e w2 ⟨he2, hm2, hk2⟩ => ?_)⟩
  have z1 := hk1.size
  have hS : StpO w w2 F X kr p s q l m t n a1 a2 k S G (.returned (.bool true)) := by
    refine ⟨rfl, _, T1, M1, _, h1.after (h1.x.apart hk2 (fun j hj => ?_)) hm2 (hk2.mono (fun _ h => .inr h)) (fun _ h => h), hc1, hk1'.trans (hk2.mono (fun _ h => .inr h)) (fun _ h => .inl h), fun j hj => hj.imp (fun e => e) (fun e => ⟨by have := e.1; omega, e.2⟩)⟩
    have h9 := h1.xa j hj
    exact ⟨h9.1, h9.2.1, h9.2.2.1, h9.2.2.2.1, h9.2.2.2.2.1, h9.2.2.2.2.2.1⟩
  have hR := hS.rg hd hdt eF eX e0 e1 e2 e3 e4 e5 e6 e7 hl
  exact ⟨he2, hR.2.1, hR.2.2⟩
end
/-- The kinds of PoolClears. -/
def kAt (j : Nat) : Int := if j = 0 then 1 else if j = 1 then 7 else 11
def inB (kd : Int) : Nat → Bool
  | 0 => false
  | j + 1 => inB kd j || (kAt j == kd)
theorem inB_three {kd : Int} (h : inB kd 3 = true) : kd = 1 ∨ kd = 7 ∨ kd = 11 := by
  simp [inB, kAt] at h
  omega
theorem Steps6.mono {w : World} {B B' : Nat} {sa : Option Addr} {n : Nat} (h : Steps6 w B sa n) (hb : B ≤ B') : Steps6 w B' sa n := by
  refine ⟨h.1, fun y hy i hi => ?_⟩
  obtain ⟨b, o, rfl, hbB, kd, N, who, two, da, dn, dc, dl, c0, c1, c2, c3, c4, h5, h6, h7, h8, h9⟩ := h.2 y hy i hi
  exact ⟨b, o, rfl, by omega, kd, N, who, two, da, dn, dc, dl, c0, c1, c2, c3, c4, h5, h6, h7, h8, fun x hx h0 => Nat.lt_of_lt_of_le (h9 x hx h0) hb⟩
/-- What the rounds of a play keep: two rigs apart. -/
def PlI (w wr : World) (ka kb : Nat) : Prop := ∃ E1 E2, RG wr E1 ka ∧ RG wr E2 kb ∧ (∀ j, E1 j → ¬ E2 j) ∧ (∀ j, E1 j → w.heap.size ≤ j) ∧ (∀ j, E2 j → w.heap.size ≤ j) ∧ Below w.heap.size w wr
theorem PlI.later {w wr w' : World} {ka kb : Nat} (h : PlI w wr ka kb) (hb : Below wr.heap.size wr w') : PlI w w' ka kb := by
  obtain ⟨E1, E2, h1, h2, h3, h4, h5, h6⟩ := h
  exact ⟨E1, E2, h1.later hb, h2.later hb, h3, h4, h5, h6.trans (hb.mono h6.size)⟩
theorem PlI.a {w wr w' : World} {ka kb : Nat} {E1 E2 : Nat → Prop} (h1 : RG w' (fun j => E1 j ∨ (wr.heap.size ≤ j ∧ j < w'.heap.size)) ka) (hk : Keeps E1 wr w') (h2 : RG wr E2 kb) (h3 : ∀ j, E1 j → ¬ E2 j) (h4 : ∀ j, E1 j → w.heap.size ≤ j) (h5 : ∀ j, E2 j → w.heap.size ≤ j) (h6 : Below w.heap.size w wr) : PlI w w' ka kb := by
  have hl := h2.lt
  have z := h6.size
  refine ⟨_, E2, h1, h2.apart hk h3, fun j hj e => ?_, fun j hj => ?_, h5, h6.trans (hk.below h4 h6.size)⟩
  · rcases hj with hj | hj
    · exact h3 j hj e
    · have := hl j e
      omega
  · rcases hj with hj | hj
    · exact h4 j hj
    · omega
theorem PlI.swap {w wr : World} {ka kb : Nat} (h : PlI w wr ka kb) : PlI w wr kb ka := by
  obtain ⟨E1, E2, h1, h2, h3, h4, h5, h6⟩ := h
  exact ⟨E2, E1, h2, h1, fun j hj e => h3 j e hj, h5, h4, h6⟩
/-- One step on the first of two rigs. -/
theorem PlI.step {w wr : World} {ka kb : Nat} {N : Int} {who two : Bool} {da : Option Addr} {dn dc : Nat} {dl : List Int} (h : PlI w wr ka kb) (hN : I64 N) (hs : Src wr da dn dl) (hsl : ∀ x, da = some x → 0 < dn → x.block < w.heap.size) (hby : Bytes dl) (hdn : dn ≤ 140737488355328) (kd : Int) (hkd : kd = 1 ∨ kd = 7 ∨ kd = 11) :
    Calls Tryz.prog 13 #[.pointer (some ⟨ka, 0, none⟩), stpV kd N who two da dn dc] wr fun e w' => e = .returned (.bool true) ∧ PlI w w' ka kb := by
  obtain ⟨E1, E2, h1, h2, h3, h4, h5, h6⟩ := h
  exact (h1.step hN (fun w' hk => hs.far (hk.below h4 h6.size) hsl) hby hdn kd hkd).mono (fun e w' ⟨he, hr, hk⟩ => ⟨he, PlI.a hr hk h2 h3 h4 h5 h6⟩)
end Go.Proofs.YthohoicgidjpfabGreat
