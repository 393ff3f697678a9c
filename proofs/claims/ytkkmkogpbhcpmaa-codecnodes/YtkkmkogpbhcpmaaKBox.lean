import Derived.Test.YtkkmkogpbhcpmaaKNodY
namespace Go.Proofs.Ytkkmkogpbhcpmaa
open Go.RowKit

theorem neop_node (k l p s o : Int) (d : Nat → Int) (k' l' p' s' o' : Int) (d' : Nat → Int) (w : World) (r : Bool) (hr : r = true ↔ ¬ NSame k l p s o d k' l' p' s' o' d') (x y : Operand) :
    (do eqGuard .neq 76 x y (nd k l p s o d) (nd k' l' p' s' o' d'); binOp .neq 76 (nd k l p s o d) (nd k' l' p' s' o' d')).run Try.prog w = .ok (.bool r) w := by
  obtain ⟨b, hb, hbi⟩ := eq_node 9997 k l p s o d k' l' p' s' o' d' w
  have e : (!b) = r := by
    cases b <;> cases r <;> simp_all
  subst e
  rw [Sem.run_bind, run_eqGuard_agg (P := Try.prog) w .neq 76 x y _ _ guardNode, Result.andThen_ok]
  show (binOp .neq 76 (nd k l p s o d) (nd k' l' p' s' o' d')).run Try.prog w = _
  unfold binOp Op.equal Op.maxDepth
  rw [Sem.run_bind, hb, Result.andThen_ok, Sem.run_pure]
/-- Two nodes are held against each other, in a plain region, under a guard. -/
theorem wpList_ne_node {ops : Array Oper} {rest : List Oper} {op : Oper} {a : Act} {w : World} {Q : Exit → Act → World → Prop} (hgd : Region.wanted op (yielded ops a.tmps) = true) (x y : Operand) (T : TypeId) (ho : op.op = .binOp .neq 76 x y T)
    (k l p s o : Int) (d : Nat → Int) (k' l' p' s' o' : Int) (d' : Nat → Int) (hx : a.eval x = nd k l p s o d) (hy : a.eval y = nd k' l' p' s' o' d') (r : Bool) (hr : r = true ↔ ¬ NSame k l p s o d k' l' p' s' o' d')
    (h : wpList Try.prog ops Q rest (a.put op.dst (.bool r)) w) : wpList Try.prog ops Q (op :: rest) a w :=
  wpList_step fun K hK => by
    rw [if_pos hgd]
    unfold Oper.wp execOp
    simp only [ho, hx, hy]
    have := neop_node k l p s o d k' l' p' s' o' d' w r hr x y
    rw [Sem.run_bind, this]
    exact hK _ _ h
theorem NV.same (x : NV) : NSame x.k x.l x.p x.s x.o x.d x.k x.l x.p x.s x.o x.d := ⟨rfl, rfl, rfl, rfl, rfl, fun _ _ => rfl⟩

/-- A new box for a node, filled. -/
structure BoxN (x : NV) (w2 w3 : World) (F : List Value) : Prop where
  eq : F = ndl x.k x.l x.p x.s x.o x.d
  made : w3 = (w2.alloc (.cells (ndc 0 0 0 0 0 (fun _ => 0)) 76)).setCells w2.heap.size 0 F
theorem BoxN.there {x : NV} {w2 w3 : World} {F : List Value} (h : BoxN x w2 w3 F) : (w2.alloc (.cells (ndc 0 0 0 0 0 (fun _ => 0)) 76)).there w2.heap.size 0 F.length := by
  rw [h.eq]
  exact there_node (heap_alloc_new _ _) rfl
theorem BoxN.all {x : NV} {w2 w3 : World} {F : List Value} (h : BoxN x w2 w3 F) : F.toArray.all (·.oneCell') = true := by
  rw [h.eq]
  exact all_oneCell_toArray (nl_one _ _ _ _ _ _)
theorem BoxN.info {x : NV} {w2 w3 : World} {F : List Value} (h : BoxN x w2 w3 F) : (Try.prog.info? 76).map (·.size) = some F.length := by
  rw [h.eq]
  exact infoNode
theorem BoxN.range {x : NV} {w2 w3 : World} {F : List Value} (h : BoxN x w2 w3 F) : w3.rangeAt w2.heap.size 0 F := by
  rw [h.made]
  exact World.rangeAt_setCells_same _ _ _ _ h.there
theorem BoxN.below {x : NV} {w2 w3 : World} {F : List Value} (h : BoxN x w2 w3 F) : Below w2.heap.size w2 w3 := by
  rw [h.made]
  exact ((Below.refl _ w2).alloc (Nat.le_refl _) _).trans ((Keeps.setCells (F := fun j => j = w2.heap.size) rfl F 0 _).below (fun j hj => by omega) (by simp))
theorem BoxN.val {x : NV} {w2 w3 : World} {F : List Value} (h : BoxN x w2 w3 F) : x.v = .agg F.toArray := by rw [h.eq]
theorem boxN (x : NV) (w2 : World) : ∃ F w3, BoxN x w2 w3 F := ⟨_, _, rfl, rfl⟩

theorem zeros128_zeros : Zeros zeros128 := fun _ hx => (List.mem_replicate.1 hx).2
theorem dec_zeros {x : NV} {E : Int} (h : DecR zeros128 x E) : x = nv0 ∧ E = 0 := by
  rcases h with ⟨h, _⟩ | ⟨_, _, h1, h2⟩ | ⟨_, h, _⟩ | ⟨_, h, _⟩
  · exact absurd zeros128_len h
  · exact ⟨h1, h2⟩
  · exact absurd zeros128_zeros h
  · exact absurd zeros128_zeros h
end Go.Proofs.Ytkkmkogpbhcpmaa
