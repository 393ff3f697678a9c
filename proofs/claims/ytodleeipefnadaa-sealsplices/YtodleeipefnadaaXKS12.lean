import Derived.Test.YtodleeipefnadaaXKP3
namespace Go.Proofs.Ytodleeipefnadaa
open Go.RowKit

/-- One byte appended to a list of one's own. -/
theorem wpList_app1 {ops : Array Oper} {rest : List Oper} {o : Oper} {a : Act} {Q : Exit → Act → World → Prop} {w : World} (hgd : o.guard = none) (s x : Operand)
    (hop : o.op = Op.call { callee := Callee.builtin Builtin.append, args := #[s, x], argTypes := #[30, 30] })
    (B : Nat) (v : Value) (l : List Int) (y : Int) (hs : a.eval s = v) (hx : a.eval x = .slice (some ⟨w.heap.size, 0, none⟩) 1 1) (hown : Own w B v l) (hlen : l.length ≤ 140737488355327) (hB : B ≤ w.heap.size)
    (hK : ∀ v' w', Own w' B v' (l ++ [y]) → Below B w w' → wpList Try.prog ops Q rest (a.put o.dst v') w') :
    wpList Try.prog ops Q (o :: rest) a (w.alloc (.cells #[.int .u8 y] 5)) := by
  obtain ⟨i0, hi, hz0, hz1, hz2⟩ := info_parts infoU8
  have ho : w.ownsRow B 5 1 v l.length (bs l) := hown
  refine wpList_append_own _ hgd s x 30 hop B 5 i0 (.int .u8 0) 1 1 Try.underlying30 hi hz0 hz1 hz2 rfl (by decide) v l.length (bs l) hs (ho.alloc _) ⟨w.heap.size, 0, none⟩ 1 1 [.int .u8 y] hx rfl (cell_one_new _ _ _) (by intro u hu; simp at hu; subst hu; rfl) (by unfold maxLen; omega) (by omega) (by simp; omega) ?_
  intro v' w1 hown' hgrow' _
  refine hK v' w1 ?_ (((Below.refl _ w).alloc hB _).grown hgrow' (by simp; omega) (fun q e => (ho.lt q e).1))
  rw [bs_snoc] at hown'
  exact own_of hown' (by simp) rfl
/-- How long a slice is. -/
def lenV : Value → Nat
  | .slice _ n _ => n
  | _ => 0
theorem Own.row' {w : World} {B : Nat} {v : Value} {l : List Int} (h : Own w B v l) (h0 : 0 < l.length) : ∃ g c, v = .slice (some ⟨g, 0, none⟩) l.length c ∧ B ≤ g ∧ RowAt w 5 g c (bs l) := by
  obtain ⟨a, c, rfl, _, _, _⟩ := h.src
  obtain ⟨g, rfl, _, hg, hr⟩ := h.row h0
  exact ⟨g, c, rfl, hg, hr⟩
theorem RowAt.get {w : World} {e : TypeId} {g c : Nat} {l : List Int} (h : RowAt w e g c (bs l)) {i : Nat} (hi : i < l.length) : w.cell? ⟨g, i, none⟩ = some (.int .u8 (l.getD i 0)) := by
  have := h.byte hi
  rwa [addr_add, Nat.zero_add] at this
end Go.Proofs.Ytodleeipefnadaa
