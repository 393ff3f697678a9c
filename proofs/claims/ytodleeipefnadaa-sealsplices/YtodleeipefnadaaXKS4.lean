import Derived.Test.YtodleeipefnadaaKS2
import Derived.Test.YtodleeipefnadaaKSum
import Derived.ChangeKeysEq
namespace Go.Proofs.Ytodleeipefnadaa
open Go.RowKit

theorem eq_u8 (n : Nat) (a b : Int) (w : World) : (Op.equalIn (n + 1) 5 (.int .u8 a) (.int .u8 b)).run Try.prog w = .ok (a == b) w := by
  simp [Op.equalIn, go_sem]
theorem part_u8 (xs : Array Value) (off : Nat) (v : Value) (w : World) (h : xs[off]? = some v) : (part 5 xs off).run Try.prog w = .ok v w := run_part_plain (P := Try.prog) w (by kernel_rfl) h
theorem eqStep_u8 (n : Nat) (w : World) (xs ys : Array Value) (j : Nat) (a b : Int) (js : List Nat) (h1 : xs[j]? = some (.int .u8 a)) (h2 : ys[j]? = some (.int .u8 b)) :
    (Op.eqItems (n + 1) 5 1 xs ys (j :: js)).run Try.prog w = if a = b then (Op.eqItems (n + 1) 5 1 xs ys js).run Try.prog w else .ok false w := by
  simp only [Op.eqItems, Nat.mul_one, Sem.run_bind, part_u8 xs j _ w h1, part_u8 ys j _ w h2, Result.andThen_ok, eq_u8]
  by_cases h : a = b
  · simp [h]
  · simp [h]
theorem eqItems_u8 (n : Nat) (l m : List Int) (w : World) : ∀ js : List Nat, (∀ j ∈ js, j < l.length ∧ j < m.length) →
    (Op.eqItems (n + 1) 5 1 (bs l).toArray (bs m).toArray js).run Try.prog w = .ok (decide (∀ j ∈ js, l.getD j 0 = m.getD j 0)) w
  | [], _ => by simp [Op.eqItems]
  | j :: js, h => by
    obtain ⟨h1, h2⟩ := h j (by simp)
    have e1 : (bs l).toArray[j]? = some (.int .u8 (l.getD j 0)) := by simp [bs, List.getD, h1]
    have e2 : (bs m).toArray[j]? = some (.int .u8 (m.getD j 0)) := by simp [bs, List.getD, h2]
    have ih := eqItems_u8 n l m w js (fun i hi => h i (by simp [hi]))
    rw [eqStep_u8 n w _ _ j _ _ js e1 e2]
    by_cases hx : l.getD j 0 = m.getD j 0
    · rw [if_pos hx, ih]
      refine congrArg (fun b => Result.ok b w) ?_
      rw [decide_eq_decide]
      exact ⟨fun k i hi => by rcases List.mem_cons.1 hi with rfl | hi; exact hx; exact k i hi, fun k i hi => k i (by simp [hi])⟩
    · rw [if_neg hx]
      refine congrArg (fun b => Result.ok b w) ?_
      symm
      rw [decide_eq_false_iff_not]
      exact fun k => hx (k j (by simp))
theorem getD_ext {l m : List Int} (hl : l.length = m.length) (h : ∀ i, i < l.length → l.getD i 0 = m.getD i 0) : l = m := by
  apply List.ext_getElem?
  intro i
  by_cases hi : i < l.length
  · have := h i hi
    simp only [List.getD, List.getElem?_eq_getElem hi, List.getElem?_eq_getElem (show i < m.length by omega), Option.getD_some] at this
    rw [List.getElem?_eq_getElem hi, List.getElem?_eq_getElem (show i < m.length by omega), this]
  · rw [List.getElem?_eq_none (by omega), List.getElem?_eq_none (by omega)]
theorem eq_row (N n : Nat) (T : TypeId) (l m : List Int) (hl : l.length = N) (hm : m.length = N) (w : World) (hu : Try.prog.underlying T = some (.array N 5)) :
    (Op.equalIn (n + 2) T (.agg (bs l).toArray) (.agg (bs m).toArray)).run Try.prog w = .ok (decide (l = m)) w := by
  obtain ⟨i0, hi⟩ := info_of_underlying (P := Try.prog) Try.underlying5
  rw [run_equalIn_array (P := Try.prog) w (n + 1) _ _ hu hi]
  have hce : Try.prog.cellsOf 5 = 1 := by kernel_rfl
  rw [hce, eqItems_u8 n l m w _ (fun j hj => by rw [List.mem_range] at hj; omega)]
  refine congrArg (fun b => Result.ok b w) ?_
  rw [decide_eq_decide]
  constructor
  · intro h
    exact getD_ext (by omega) (fun i hi => h i (List.mem_range.2 (by omega)))
  · rintro rfl _ _; rfl
theorem eq_sec (n : Nat) (l m : List Int) (hl : l.length = 512) (hm : m.length = 512) (w : World) :
    (Op.equalIn (n + 2) 91 (.agg (bs l).toArray) (.agg (bs m).toArray)).run Try.prog w = .ok (decide (l = m)) w :=
  eq_row 512 n 91 l m hl hm w Try.underlying91
theorem guardSec : Try.prog.eqGuardType Try.prog.depth 91 = false := by kernel_rfl
theorem eqop_sec (l m : List Int) (hl : l.length = 512) (hm : m.length = 512) (w : World) (x y : Operand) :
    (do eqGuard .eql 91 x y (.agg (bs l).toArray) (.agg (bs m).toArray); binOp .eql 91 (.agg (bs l).toArray) (.agg (bs m).toArray)).run Try.prog w = .ok (.bool (decide (l = m))) w := by
  have hb := eq_sec 9998 l m hl hm w
  rw [Sem.run_bind, run_eqGuard_agg (P := Try.prog) w .eql 91 x y _ _ guardSec, Result.andThen_ok]
  show (binOp .eql 91 (.agg (bs l).toArray) (.agg (bs m).toArray)).run Try.prog w = _
  unfold binOp Op.equal Op.maxDepth
  rw [Sem.run_bind, hb, Result.andThen_ok, Sem.run_pure]
/-- Two sectors are compared, in a plain region. -/
theorem wpList_eq_sec {ops : Array Oper} {rest : List Oper} {op : Oper} {a : Act} {w : World} {Q : Exit → Act → World → Prop} (hgd : op.guard = none) (x y : Operand) (T : TypeId) (ho : op.op = .binOp .eql 91 x y T)
    (l m : List Int) (hx : a.eval x = .agg (bs l).toArray) (hy : a.eval y = .agg (bs m).toArray) (hl : l.length = 512) (hm : m.length = 512)
    (h : wpList Try.prog ops Q rest (a.put op.dst (.bool (decide (l = m)))) w) : wpList Try.prog ops Q (op :: rest) a w :=
  wpList_plain hgd fun K hK => by
    unfold Oper.wp execOp
    simp only [ho, hx, hy]
    have := eqop_sec l m hl hm w x y
    rw [Sem.run_bind, this]
    exact hK _ _ h
end Go.Proofs.Ytodleeipefnadaa
