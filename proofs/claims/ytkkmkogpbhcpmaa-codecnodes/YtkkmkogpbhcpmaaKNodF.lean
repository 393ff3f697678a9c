import Derived.Test.YtkkmkogpbhcpmaaKNodE
namespace Go.Proofs.Ytkkmkogpbhcpmaa
open Go.RowKit

theorem guardNode : Try.prog.eqGuardType Try.prog.depth 76 = false := by kernel_rfl
theorem eqop_node (k l p s o : Int) (d : Nat → Int) (k' l' p' s' o' : Int) (d' : Nat → Int) (w : World) (r : Bool) (hr : r = true ↔ NSame k l p s o d k' l' p' s' o' d') (x y : Operand) :
    (do eqGuard .eql 76 x y (nd k l p s o d) (nd k' l' p' s' o' d'); binOp .eql 76 (nd k l p s o d) (nd k' l' p' s' o' d')).run Try.prog w = .ok (.bool r) w := by
  obtain ⟨b, hb, hbi⟩ := eq_node 9997 k l p s o d k' l' p' s' o' d' w
  have e : b = r := by
    cases b <;> cases r <;> simp_all
  subst e
  rw [Sem.run_bind, run_eqGuard_agg (P := Try.prog) w .eql 76 x y _ _ guardNode, Result.andThen_ok]
  show (binOp .eql 76 (nd k l p s o d) (nd k' l' p' s' o' d')).run Try.prog w = _
  unfold binOp Op.equal Op.maxDepth
  rw [Sem.run_bind, hb, Result.andThen_ok, Sem.run_pure]
/-- Two nodes are compared, in a plain region. -/
theorem wpList_eq_node {ops : Array Oper} {rest : List Oper} {op : Oper} {a : Act} {w : World} {Q : Exit → Act → World → Prop} (hgd : op.guard = none) (x y : Operand) (T : TypeId) (ho : op.op = .binOp .eql 76 x y T)
    (k l p s o : Int) (d : Nat → Int) (k' l' p' s' o' : Int) (d' : Nat → Int) (hx : a.eval x = nd k l p s o d) (hy : a.eval y = nd k' l' p' s' o' d') (r : Bool) (hr : r = true ↔ NSame k l p s o d k' l' p' s' o' d')
    (h : wpList Try.prog ops Q rest (a.put op.dst (.bool r)) w) : wpList Try.prog ops Q (op :: rest) a w :=
  wpList_plain hgd fun K hK => by
    unfold Oper.wp execOp
    simp only [ho, hx, hy]
    have := eqop_node k l p s o d k' l' p' s' o' d' w r hr x y
    rw [Sem.run_bind, this]
    exact hK _ _ h
end Go.Proofs.Ytkkmkogpbhcpmaa
