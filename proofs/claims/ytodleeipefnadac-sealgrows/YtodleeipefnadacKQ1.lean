import Derived.Test.YtodleeipefnadacKS12
import Derived.OwnWalk
import Derived.Laws.AppendOwnNone
namespace Go.Proofs.Ytodleeipefnadac
open Go.RowKit

/-- make of bytes, with a capacity beyond the length. -/
theorem wpList_make_part (w : World) {ops : Array Oper} {rest : List Oper} {o : Oper} {a : Act} {Q : Exit → Act → World → Prop}
    (hg : o.guard = none) (l c : Operand) (hop : o.op = Op.makeSlice 22 l c) (C : Int) (m n : Nat) (hl : a.eval l = .int .i64 (m : Int)) (hc : a.eval c = .int .i64 C) (hC : C = (n : Int)) (hmn : m ≤ n) (hn : n ≤ 140737488355328)
    (hK : ∀ w', Blk w' 5 w.heap.size (zs n) → Below w.heap.size w w' → wpList Try.prog ops Q rest (a.put o.dst (.slice (some ⟨w.heap.size, 0, none⟩) m n)) w') :
    wpList Try.prog ops Q (o :: rest) a w := by
  refine wpList_plain hg fun K hK' => ?_
  obtain ⟨i, hi, hz0, hz1, hz2⟩ := info_parts infoU8
  subst hC
  have hr := run_make (P := Try.prog) w 22 5 i (.int .u8 0) Try.underlying22 hi hz0 .i64 .i64 (m : Int) (n : Int) (by omega) (by omega) (by rw [hz2]; omega) (by omega)
  simp only [Int.toNat_natCast, hz1, Nat.mul_one] at hr
  unfold Oper.wp
  simp [execOp, hop, hl, hc, hr, Result.andThen]
  refine hK' _ _ (hK _ ?_ ?_)
  · have h1 := heap_alloc_new w (.cells (madeCells (Value.int .u8 0).cells n) 5)
    have e : madeCells (Value.int .u8 0).cells n = (bs (zs n)).toArray := by
      apply Array.ext'
      have : (Value.int .u8 0).cells = #[Value.int .u8 0] := rfl
      rw [this, toList_madeCells_one]
      simp [bs, zs]
    rw [e] at h1
    unfold Blk
    rw [← h1]
    simp [e]
  · exact (Below.refl _ w).alloc (Nat.le_refl _) _
end Go.Proofs.Ytodleeipefnadac
