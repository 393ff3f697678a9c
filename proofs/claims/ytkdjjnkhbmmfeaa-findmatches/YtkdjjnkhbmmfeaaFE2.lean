import Derived.Test.YtkdjjnkhbmmfeaaFE1
import Derived.Deep.MidRow
namespace Go.Proofs.Ytkdjjnkhbmmfeaa
open Go.RowKit Go.Maps

theorem heap_setCells_full {w : World} {T : TypeId} {g : Nat} : ∀ (vs pre : List Value) (cur : Array Value), w.heap[g]? = some (.cells cur T (0, 0)) → (∃ post, cur.toList = pre ++ post ∧ post.length = vs.length) →
    (w.setCells g pre.length vs).heap[g]? = some (.cells (pre ++ vs).toArray T (0, 0)) := by
  intro vs
  induction vs generalizing w with
  | nil =>
    intro pre cur hg ⟨post, he, hl⟩
    have : post = [] := List.eq_nil_of_length_eq_zero hl
    subst this
    simp only [List.append_nil] at he ⊢
    show w.heap[g]? = _
    rw [hg, ← he]
  | cons v r ih =>
    intro pre cur hg ⟨post, he, hl⟩
    cases post with
    | nil => simp at hl
    | cons u post =>
      have h1 := heap_setCell_same w g pre.length cur T v hg
      have e : (cur.setIfInBounds pre.length v).toList = (pre ++ [v]) ++ post := by
        rw [Array.toList_setIfInBounds, he, List.set_append_right _ _ (Nat.le_refl _), Nat.sub_self]
        simp
      have := ih (w := w.setCell ⟨g, pre.length, none⟩ v) (pre ++ [v]) _ h1 ⟨post, e, by simpa using hl⟩
      simp only [World.setCells]
      simpa using this
theorem there_of {w : World} {T : TypeId} {g n : Nat} {cur : Array Value} (h : w.heap[g]? = some (.cells cur T (0, 0))) (hn : cur.size = n) : w.there g 0 n := by
  intro j hj
  rw [Nat.zero_add]
  exact ⟨by rw [cell_of_block h (j := j) (u := cur[j]'(by omega)) (by simp [show j < cur.size by omega])]; rfl, frozen_of_block h j⟩
theorem Keeps.setCells {F : Nat → Prop} {b : Nat} (hb : F b) : ∀ (vs : List Value) (o : Nat) (w : World), Keeps F w (w.setCells b o vs)
  | [], _, w => Keeps.refl F w
  | v :: r, o, w => (Keeps.setCell (p := ⟨b, o, none⟩) w hb v).trans (Keeps.setCells hb r (o + 1) _) (fun _ h => .inl h)
/-- A block that holds a piece as the document has it. -/
def PB (w : World) (g : Nat) (k b : Int) (f : Int → Bool) : Prop := w.heap[g]? = some (.cells (pd k b f).toArray 74 (0, 0))
def noB : Int → Bool := fun _ => false
def zpd : Array Value := (pd 0 0 noB).toArray
theorem infoPd : (Try.prog.info? 74).map (fun i => (i.zero, i.size, i.bytes)) = some (some (.agg zpd), 258, 272) := by kernel_rfl
theorem zeroPd (w : World) : (zeroValue 74).run Try.prog w = .ok (.agg zpd) w := by
  obtain ⟨i, hi, h0, _, _⟩ := info_parts infoPd
  simp [zeroValue, typeInfo, hi, h0]
theorem sizePd : (Try.prog.info? 74).map (·.size) = some 258 := by
  obtain ⟨i, hi, _, h1, _⟩ := info_parts infoPd
  rw [hi]
  exact congrArg some h1
theorem sizePdL (k b : Int) (f : Int → Bool) : (Try.prog.info? 74).map (·.size) = some (pd k b f).length := by rw [sizePd, pd_len]
theorem build_pd1 (k : Int) (w : World) : (Instr.build 74 #[(0, .int .i64 k)]).run Try.prog w = .ok (.agg (pd k 0 noB).toArray) w := by kernel_rfl
theorem build_pd2 (k b : Int) (w : World) : (Instr.build 74 #[(0, .int .i64 k), (1, .int .u8 b)]).run Try.prog w = .ok (.agg (pd k b noB).toArray) w := by kernel_rfl
theorem wpList_build_pd1 {ops : Array Oper} {rest : List Oper} {op : Oper} {a : Act} {w : World} {Q : Exit → Act → World → Prop} (hgd : op.guard = none) (x : Operand) (ho : op.op = .build 74 #[(0, x)]) (k : Int) (hx : a.eval x = .int .i64 k) (F : Array Value) (hF : F = (pd k 0 noB).toArray)
    (h : wpList Try.prog ops Q rest (a.put op.dst (.agg F)) w) : wpList Try.prog ops Q (op :: rest) a w :=
  wpList_plain hgd fun K hK => by
    subst hF
    unfold Oper.wp execOp
    simp only [ho]
    have e : (#[(0, x)] : Array (Nat × Operand)).map (fun (i, o) => (i, a.eval o)) = #[(0, .int .i64 k)] := by simp [hx]
    rw [e, Sem.run_bind, build_pd1]
    exact hK _ _ h
theorem wpList_build_pd2 {ops : Array Oper} {rest : List Oper} {op : Oper} {a : Act} {w : World} {Q : Exit → Act → World → Prop} (hgd : op.guard = none) (x y : Operand) (ho : op.op = .build 74 #[(0, x), (1, y)]) (k b : Int) (hx : a.eval x = .int .i64 k) (hy : a.eval y = .int .u8 b) (F : Array Value) (hF : F = (pd k b noB).toArray)
    (h : wpList Try.prog ops Q rest (a.put op.dst (.agg F)) w) : wpList Try.prog ops Q (op :: rest) a w :=
  wpList_plain hgd fun K hK => by
    subst hF
    unfold Oper.wp execOp
    simp only [ho]
    have e : (#[(0, x), (1, y)] : Array (Nat × Operand)).map (fun (i, o) => (i, a.eval o)) = #[(0, .int .i64 k), (1, .int .u8 b)] := by simp [hx, hy]
    rw [e, Sem.run_bind, build_pd2]
    exact hK _ _ h
section
variable {w w' : World} {g : Nat} {k b : Int} {f : Int → Bool} {G : Nat → Prop}
theorem PB.lt (h : PB w g k b f) : g < w.heap.size := lt_there h
theorem PB.later (h : PB w g k b f) (hb : Below w.heap.size w w') : PB w' g k b f := (hb.block g (lt_there h)).trans h
theorem PB.keep (h : PB w g k b f) (hk : Keeps G w w') (hg : ¬ G g) : PB w' g k b f := (hk.block g (lt_there h) hg).trans h
theorem PB.new (w : World) (k b : Int) (f : Int → Bool) : PB (w.alloc (.cells (pd k b f).toArray 74)) w.heap.size k b f := heap_alloc_new _ _
theorem PB.zero (w : World) : PB (w.alloc (.cells zpd 74)) w.heap.size 0 0 noB := heap_alloc_new _ _
theorem PB.there (h : PB w g k b f) : w.there g 0 258 := there_of h (by simp [pd_len])
theorem PB.range (h : PB w g k b f) : w.rangeAt g 0 (pd k b f) := by
  intro j v hv
  rw [Nat.zero_add]
  exact cell_of_block h (by simpa using hv)
theorem PB.store (h : PB w g k b f) (k' b' : Int) (f' : Int → Bool) : PB (w.setCells g 0 (pd k' b' f')) g k' b' f' :=
  heap_setCells_full (pd k' b' f') [] _ h ⟨(pd k b f), by simp, by rw [pd_len, pd_len]⟩
theorem PB.bit (h : PB w g k b f) {i : Nat} (hi : i < 256) : w.cell? ⟨g, i + 2, none⟩ = some (.bool (f (i : Int))) := cell_of_block h (by rw [List.getElem?_toArray]; exact pd_at k b f hi)
theorem PB.kind (h : PB w g k b f) : w.cell? ⟨g, 0, none⟩ = some (.int .i64 k) := cell_of_block h rfl
theorem PB.byte (h : PB w g k b f) : w.cell? ⟨g, 1, none⟩ = some (.int .u8 b) := cell_of_block h rfl
theorem PB.set (h : PB w g k b f) (i : Nat) (x : Bool) : PB (w.setCell ⟨g, i + 2, none⟩ (.bool x)) g k b (fun y => if y = (i : Int) then x else f y) :=
  (heap_setCell_same _ _ (i + 2) _ _ _ h).trans (by rw [List.setIfInBounds_toArray, pd_set])
theorem PB.frozen (h : PB w g k b f) (i : Nat) : w.frozen? ⟨g, i, none⟩ = false := frozen_of_block h i
end
end Go.Proofs.Ytkdjjnkhbmmfeaa
