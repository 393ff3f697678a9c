import Derived.Test.YtkkmkogpbhcpmabKBk1
import Derived.Test.YtkkmkogpbhcpmabKOpenN
import Derived.Test.YtkkmkogpbhcpmabKOpenE
import Derived.Test.YtkkmkogpbhcpmabKOpenS
namespace Go.Proofs.Ytkkmkogpbhcpmab
open Go.RowKit

/-- A row is made, under a guard. -/
theorem wpList_make_guard {P : Program} (w : World) {ops : Array Oper} {rest : List Oper} {o : Oper} {a : Act} {Q : Exit → Act → World → Prop}
    (hg : Region.wanted o (yielded ops a.tmps) = true) (l c : Operand) (t : TypeId) (hop : o.op = Op.makeSlice t l c)
    (base : Nat) (e : TypeId) (i : TypeInfo) (z : Value) (size : Nat) (h1 : P.underlying t = some (.slice e)) (h2 : P.info? e = some i) (h3 : i.zero = some z) (h4 : i.size = size)
    (kl kc : IntKind) (L C : Int) (n : Nat) (hl : a.eval l = .int kl L) (hc : a.eval c = .int kc C) (hL : L = (n : Int)) (hC : C = (n : Int)) (b2 : i.bytes * n ≤ 281474976710656) (b3 : n ≤ maxLen) (b4 : base ≤ w.heap.size)
    (hK : ∀ w', w'.ownsRow base e size (.slice (some ⟨w.heap.size, 0, none⟩) n n) n (madeCells z.cells (n * size)).toList → w.grownBy w' none → wpList P ops Q rest (a.put o.dst (.slice (some ⟨w.heap.size, 0, none⟩) n n)) w') :
    wpList P ops Q (o :: rest) a w :=
  wpList_step fun K hK' => by
    rw [if_pos hg]
    obtain ⟨w', hrun, r1, r2⟩ := run_make_full (P := P) w base t e i z size h1 h2 h3 h4 kl kc n b2 b3 b4
    subst hL
    subst hC
    unfold Oper.wp
    simp [execOp, hop, hl, hc, hrun, Result.andThen]
    exact hK' _ _ (hK w' r1 r2)
theorem Enc.out {w w' : World} {v : Value} {l : List Int} (h : Enc w w' v l) : ∃ a c, v = .slice a l.length c ∧ Src w' a l.length l ∧ Below w.heap.size w w' := h
end Go.Proofs.Ytkkmkogpbhcpmab
