import Derived.Test.YtalokopnagpgcaaDoorSI8
namespace Go.Proofs.YtalokopnagpgcaaDoor
open Go.RowKit Go.Maps

/-- What the document's reader has read. -/
structure RS where
  i : Int
  wd : List UInt8
  ws : List (List UInt8)
  d : Int
  bad : Bool
/-- The reader in memory: block p, its lists above it. -/
structure RdV (w : World) (p : Nat) (vw vs : Value) (s : RS) : Prop where
  blk : w.heap[p]? = some (.cells #[.int .i64 s.i, vw, vs, .int .i64 s.d, .bool s.bad] 44 (0, 0))
  own : Own w (p + 1) vw (ub s.wd)
  told : Told (p + 1) w vs s.ws
def Rd (w : World) (p : Nat) (s : RS) : Prop := ∃ vw vs, RdV w p vw vs s

theorem heap_set_same {w : World} {p : Nat} {cs : Array Value} {t : TypeId} (h : w.heap[p]? = some (.cells cs t (0, 0))) (i : Nat) (v : Value) : (w.setCell ⟨p, i, none⟩ v).heap[p]? = some (.cells (cs.setIfInBounds i v) t (0, 0)) := heap_setCell_same _ _ _ _ _ _ h
section
variable {w w' w1 w2 : World} {p : Nat} {vw vs v : Value} {s : RS}
theorem RdV.lt (h : RdV w p vw vs s) : p < w.heap.size := (Array.getElem?_eq_some_iff.1 h.blk).1
theorem Own.agree {B : Nat} {l : List Int} (h : Own w B v l) (hb : ∀ g, v.ownBlock = some g → w'.heap[g]? = w.heap[g]?) : Own w' B v l := rowAgree h hb
theorem RdV.apart (h : RdV w p vw vs s) {g : Nat} (h1 : vw.ownBlock = some g) : vs.ownBlock ≠ some g := fun h2 => by
  obtain ⟨c1, e1⟩ := rowBlock h.own h1
  obtain ⟨c2, e2⟩ := rowBlock h.told h2
  exact typeApart e1 e2 (by decide)
theorem RdV.low1 (h : RdV w p vw vs s) {g : Nat} (h1 : vw.ownBlock = some g) : g ≠ p := fun e => by have := rowLow h.own h1; omega
theorem RdV.low2 (h : RdV w p vw vs s) {g : Nat} (h1 : vs.ownBlock = some g) : g ≠ p := fun e => by have := rowLow h.told h1; omega
/-- A cell of the reader, written. -/
theorem RdV.set (h : RdV w p vw vs s) (i : Nat) (x : Value) {s' : RS} (hs : (#[Value.int .i64 s.i, vw, vs, .int .i64 s.d, .bool s.bad] : Array Value).setIfInBounds i x = #[.int .i64 s'.i, vw, vs, .int .i64 s'.d, .bool s'.bad]) (h1 : s'.wd = s.wd) (h2 : s'.ws = s.ws) : RdV (w.setCell ⟨p, i, none⟩ x) p vw vs s' where
  blk := by rw [heap_set_same h.blk i x, hs]
  own := by rw [h1]; exact h.own.agree (fun g hg => Below.heap_setCell w ⟨p, i, none⟩ x g (h.low1 hg))
  told := by rw [h2]; exact rowAgree h.told (fun g hg => Below.heap_setCell w ⟨p, i, none⟩ x g (h.low2 hg))
theorem below_setp {B : Nat} (hb : Below B w w') (hp : B ≤ p) (hB : B ≤ w'.heap.size) (i : Nat) (x : Value) : Below B w (w'.setCell ⟨p, i, none⟩ x) :=
  hb.trans ((Keeps.setCell (F := fun j => j = p) (p := ⟨p, i, none⟩) w' rfl x).below (fun j hj => by omega) hB)
/-- A list of its own grown: all else is as it was. -/
structure Grw (w w' : World) (v : Value) : Prop where
  os : w'.os = w.os
  tape : w'.tape = w.tape
  output : w'.output = w.output
  size : w.heap.size ≤ w'.heap.size
  block : ∀ k, k < w.heap.size → v.ownBlock ≠ some k → w'.heap[k]? = w.heap[k]?
theorem Grw.of {x : Obj} (h : (w.alloc x).grownBy w' v.ownBlock) : Grw w w' v :=
  ⟨h.os, h.tape, h.output, by have := h.size; simp at this; omega, fun k hk hv => (h.block k (by simp; omega) (fun e => hv e.symm)).trans (Below.heap_alloc _ _ _ hk)⟩
theorem Grw.below {B : Nat} (h : Grw w w' v) (hB : B ≤ w.heap.size) (hv : ∀ g, v.ownBlock = some g → B ≤ g) : Below B w w' :=
  ⟨h.os, h.tape, h.output, by have := h.size; omega, fun j hj => h.block j (by omega) (fun e => by have := hv j e; omega)⟩
/-- A byte more of the word: the reader behind the append, and behind the store. -/
theorem RdV.app (h : RdV w p vw vs s) {v2 : Value} {x : UInt8} (hg : Grw w w' vw) (ho : Own w' (p + 1) v2 (ub s.wd ++ [(x.toNat : Int)])) :
    w'.heap[p]? = some (.cells #[.int .i64 s.i, vw, vs, .int .i64 s.d, .bool s.bad] 44 (0, 0)) ∧ RdV (w'.setCell ⟨p, 1, none⟩ v2) p v2 vs { s with wd := s.wd ++ [x] } ∧ Below p w w' ∧ Below p w (w'.setCell ⟨p, 1, none⟩ v2) := by
  have hb : w'.heap[p]? = some (.cells #[.int .i64 s.i, vw, vs, .int .i64 s.d, .bool s.bad] 44 (0, 0)) := (hg.block p h.lt (fun e => h.low1 e rfl)).trans h.blk
  have hbel : Below p w w' := hg.below (by have := h.lt; omega) (fun g e => by have := rowLow h.own e; omega)
  have hlt : p < w'.heap.size := (Array.getElem?_eq_some_iff.1 hb).1
  refine ⟨hb, ⟨?_, ?_, ?_⟩, hbel, below_setp hbel (Nat.le_refl _) (by omega) 1 v2⟩
  · rw [heap_set_same hb 1 v2]
    rfl
  · show Own _ (p + 1) v2 (ub (s.wd ++ [x]))
    rw [ub_app]
    exact ho.agree (fun g e => Below.heap_setCell w' ⟨p, 1, none⟩ v2 g (fun e2 => by have := rowLow ho e; simp at e2; omega))
  · refine rowAgree h.told (fun g e => ?_)
    rw [Below.heap_setCell w' ⟨p, 1, none⟩ v2 g (h.low2 e)]
    exact hg.block g (rowLt h.told e) (fun e2 => h.apart e2 e)
end
/-- One byte appended to a list of one's own: what else is kept. -/
theorem wpList_appg {ops : Array Oper} {rest : List Oper} {o : Oper} {a : Act} {Q : Exit → Act → World → Prop} {w : World} (hgd : o.guard = none) (s x : Operand)
    (hop : o.op = Op.call { callee := Callee.builtin Builtin.append, args := #[s, x], argTypes := #[23, 23] })
    (B : Nat) (v : Value) (l : List Int) (y : Int) (N : Nat) (hN : w.heap.size = N) (hs : a.eval s = v) (hx : a.eval x = .slice (some ⟨N, 0, none⟩) 1 1) (hown : Own w B v l) (hlen : l.length ≤ 140737488355327) (hB : B ≤ w.heap.size)
    (hK : ∀ v' w', Own w' B v' (l ++ [y]) → Grw w w' v → wpList Tryd.prog ops Q rest (a.put o.dst v') w') :
    wpList Tryd.prog ops Q (o :: rest) a (w.alloc (.cells #[.int .u8 y] 5)) := by
  subst hN
  obtain ⟨i0, hi, hz0, hz1, hz2⟩ := info_parts infoU8
  have ho : w.ownsRow B 5 1 v l.length (bs l) := hown
  refine wpList_append_own _ hgd s x 23 hop B 5 i0 (.int .u8 0) 1 1 Tryd.underlying23 hi hz0 hz1 hz2 rfl (by decide) v l.length (bs l) hs (ho.alloc _) ⟨w.heap.size, 0, none⟩ 1 1 [.int .u8 y] hx rfl (cell_one_new _ _ _) (by intro u hu; simp at hu; subst hu; rfl) (by unfold maxLen; omega) (by omega) (by simp; omega) ?_
  intro v' w1 hown' hgrow' _
  refine hK v' w1 ?_ (Grw.of hgrow')
  rw [bs_snoc] at hown'
  exact own_of hown' (by simp) rfl
end Go.Proofs.YtalokopnagpgcaaDoor
