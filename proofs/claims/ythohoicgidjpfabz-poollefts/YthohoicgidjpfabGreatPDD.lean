import Derived.Test.YthohoicgidjpfabGreatPDC
namespace Go.Proofs.YthohoicgidjpfabGreat
open Go.RowKit Go.Maps

/-- A rig, its blocks all in E. -/
def RG (w : World) (E : Nat → Prop) (kr : Nat) : Prop :=
  ∃ F X p s cR q l m t n a1 a2 k S G T M, RgW w F X kr p s cR q l m t n a1 a2 k S G T M ∧ CL G S T M ∧ G.L.dead S = false ∧ G.y.data = 2 + G.y.nodes / 4 ∧ (∀ j, F j → E j) ∧ (∀ j, X j → E j) ∧ E kr ∧ E q ∧ E l ∧ E m ∧ E t ∧ E n ∧ E a1 ∧ E a2 ∧ (∀ j, E j → j < w.heap.size)
section
variable {w w' : World} {E Z : Nat → Prop} {kr W0 : Nat} {N : Int} {who two : Bool} {da : Option Addr} {dn dc : Nat} {dl : List Int}
theorem RG.apart (h : RG w E kr) (hk : Keeps Z w w') (hZ : ∀ j, Z j → ¬ E j) : RG w' E kr := by
  obtain ⟨F, X, p, s, cR, q, l, m, t, n, a1, a2, k, S, G, T, M, h, hc, hd, hdt, eF, eX, e0, e1, e2, e3, e4, e5, e6, e7, hl⟩ := h
  have hp : ∀ a, E a → PoolAt w F a t n → PoolAt w' F a t n := fun a ea ha => ⟨(hk.block a ha.lt (fun e => hZ a e ea)).trans ha.b, ha.nf⟩
  refine ⟨F, X, p, s, cR, q, l, m, t, n, a1, a2, k, S, G, T, M, ⟨(hk.block kr (lt_there h.b) (fun e => hZ kr e e0)).trans h.b, h.x.apart hk (fun j hj => ?_), hp a1 e6 h.p1, hp a2 e7 h.p2, h.mm.apart hk (fun j hj hx => hZ j hj (eX j hx)), fun j hj => Nat.lt_of_lt_of_le (h.xl j hj) hk.size, h.nk, h.xa⟩, hc, hd, hdt, eF, eX, e0, e1, e2, e3, e4, e5, e6, e7, fun j hj => Nat.lt_of_lt_of_le (hl j hj) hk.size⟩
  have h9 := hZ j hj
  exact ⟨fun e => h9 (eF j e), fun e => h9 (e ▸ e1), fun e => h9 (e ▸ e2), fun e => h9 (e ▸ e3), fun e => h9 (e ▸ e4), fun e => h9 (e ▸ e5)⟩
theorem RG.later (h : RG w E kr) (hb : Below w.heap.size w w') : RG w' E kr := h.apart (Keeps.of_below (fun _ => False) hb) (fun _ h => h.elim)
theorem RG.lt (h : RG w E kr) : ∀ j, E j → j < w.heap.size := by
  obtain ⟨F, X, p, s, cR, q, l, m, t, n, a1, a2, k, S, G, T, M, h, hc, hd, hdt, eF, eX, e0, e1, e2, e3, e4, e5, e6, e7, hl⟩ := h
  exact hl
/-- What is left behind a call on one rig. -/
def RGO (w w' : World) (E : Nat → Prop) (kr : Nat) (e : Ending) : Prop := e = .returned (.bool true) ∧ RG w' (fun j => E j ∨ (w.heap.size ≤ j ∧ j < w'.heap.size)) kr ∧ Keeps E w w'
theorem StpO.rg {F X : Nat → Prop} {p s q l m t n a1 a2 k : Nat} {S : DS} {G : SG} {e : Ending} (h : StpO w w' F X kr p s q l m t n a1 a2 k S G e) (hd : G.L.dead S = false) (hdt : G.y.data = 2 + G.y.nodes / 4) (eF : ∀ j, F j → E j) (eX : ∀ j, X j → E j) (e0 : E kr) (e1 : E q) (e2 : E l) (e3 : E m) (e4 : E t) (e5 : E n) (e6 : E a1) (e7 : E a2) (hl : ∀ j, E j → j < w.heap.size) : RGO w w' E kr e := by
  obtain ⟨he, X', T', M', c', h1, h2, h3, h4⟩ := h
  refine ⟨he, ⟨F, X', p, s, c', q, l, m, t, n, a1, a2, k, S, G, T', M', h1, h2, hd, hdt, fun j hj => .inl (eF j hj), fun j hj => (h4 j hj).imp (eX j) (fun e => e), .inl e0, .inl e1, .inl e2, .inl e3, .inl e4, .inl e5, .inl e6, .inl e7, fun j hj => ?_⟩, h3.mono (fun j hj => ?_)⟩
  · rcases hj with hj | hj
    · exact Nat.lt_of_lt_of_le (hl j hj) h3.size
    · exact hj.2
  · rcases hj with (hj | hj | hj) | hj
    · exact eF j hj
    · exact hj ▸ e4
    · exact hj ▸ e5
    · exact eX j hj
theorem RG.step (h : RG w E kr) (hN : I64 N) (hs : ∀ w', Keeps E w w' → Src w' da dn dl) (hby : Bytes dl) (hdn : dn ≤ 140737488355328) (kd : Int) (hkd : kd = 1 ∨ kd = 7 ∨ kd = 11) :
    Calls Tryz.prog 13 #[.pointer (some ⟨kr, 0, none⟩), stpV kd N who two da dn dc] w fun e w' => RGO w w' E kr e := by
  obtain ⟨F, X, p, s, cR, q, l, m, t, n, a1, a2, k, S, G, T, M, h, hc, hd, hdt, eF, eX, e0, e1, e2, e3, e4, e5, e6, e7, hl⟩ := h
  refine (step_any h hc hd hdt hN (fun w' hk => hs w' (hk.mono (fun j hj => ?_))) hby hdn kd hkd).mono (fun e w' h9 => h9.rg hd hdt eF eX e0 e1 e2 e3 e4 e5 e6 e7 hl)
  rcases hj with (hj | hj | hj) | hj
  · exact eF j hj
  · exact hj ▸ e4
  · exact hj ▸ e5
  · exact eX j hj
/-- A new rig. -/
theorem RigO.rg {g : GEO} {e : Ending} (h : RigO w w' g e) : ∃ kr, e = .returned (.pointer (some ⟨kr, 0, none⟩)) ∧ RG w' (fun j => w.heap.size ≤ j ∧ j < w'.heap.size) kr ∧ Below w.heap.size w w' := by
  obtain ⟨F, X, kr, p, cR, q, l, m, t, n, a1, a2, k, S, L, rfl, hkr, h, hf, eF, eX, e1, e2, e3, e4, e5, e6, e7, hb⟩ := h
  obtain ⟨o1, o2, o3, o4, o5, o6⟩ := h.x.low
  have hse : ∀ b, b < (lyG g).blocks → (⟨[], 0, false⟩ : TG).sees ⟨lyG g, L, [], true⟩ S b = zs 512 := fun b hb => by
    unfold TG.sees SG.block
    show S.now (3 + g.l + b) = zs 512
    exact hf.z _ (by omega) (by have : b < g.s - (3 + g.l) := hb; omega)
  have hy2 : 2 ≤ (lyG g).blocks := h.x.yk.b2
  have hbk : (MP.new g).begun.blocks = (lyG g).blocks := by show g.s - 3 - g.l = g.s - (3 + g.l); omega
  have hraw : (MP.new g).begun.raw = List.replicate (g.s - 3 - g.l) (zs 512) := rfl
  refine ⟨kr, rfl, ⟨F, X, p, g.s, cR, q, l, m, t, n, a1, a2, k, S, _, _, _, h, ?_, hf.dead, rfl, fun j hj => ⟨eF j hj, o1 j hj⟩, fun j hj => ⟨eX j hj, h.xl j hj⟩, ⟨hkr, lt_there h.b⟩, ⟨e1, o2⟩, ⟨e2, o3⟩, ⟨e3, o4⟩, ⟨e4, o5⟩, ⟨e5, o6⟩, ⟨e6, h.p1.lt⟩, ⟨e7, h.p2.lt⟩, fun j hj => hj.2⟩, hb⟩
  refine ⟨rfl, rfl, (fun x hx => by cases hx), (hse 0 (by omega)).trans bmOf_none.symm, (hse 1 (by omega)).trans bmOf_none.symm, fun b h1 h2 => ?_, hbk, rfl, ?_, rfl, rfl, rfl, (fun x hx => by cases hx), List.nodup_nil, List.length_replicate, List.length_replicate⟩
  · have h2' : b < g.s - (3 + g.l) := h2
    rw [hraw, hse b h2, List.getElem?_replicate, if_pos (by omega)]
  · rw [hraw, List.length_replicate]
    exact hbk
end
end Go.Proofs.YthohoicgidjpfabGreat
