import Derived.Test.YtkkmkogpbhcpmaaKNodA
import Derived.Deep.MidRow
namespace Go.Proofs.Ytkkmkogpbhcpmaa
open Go.RowKit

/-- A node's parent fits. -/
def ParF (k p : Int) : Prop := (k = 2 ∧ 1 ≤ p ∧ p ≤ 1024) ∨ (k ≠ 2 ∧ p = 0)
def parB (k p : Int) : Bool := decide (k = 2 ∧ 1 ≤ p ∧ p ≤ 1024) || decide (k ≠ 2 ∧ p = 0)
theorem par_iff (k p : Int) : parB k p = true ↔ ParF k p := by unfold parB ParF; rw [Bool.or_eq_true, decide_eq_true_iff, decide_eq_true_iff]
/-- A node's fields fit (of one that is not empty). -/
def NFits (k l p s o : Int) (d : Nat → Int) : Prop := (1 ≤ k ∧ k ≤ 3) ∧ (0 ≤ l ∧ l ≤ 64) ∧ ParF k p ∧ (0 ≤ s ∧ s ≤ 8459264) ∧ (0 ≤ o ∧ o ≤ 2048) ∧ ∀ i, i < 12 → PF (d i)

set_option maxRecDepth 20000 in
set_option maxHeartbeats 2000000 in
theorem parf_any (k l p s o : Int) (d : Nat → Int) (w : World) :
    Calls Try.prog 115 #[nd k l p s o d] w fun e w' => e = .returned (.bool (parB k p)) ∧ Below w.heap.size w w' := by
  have HB := Hid.mk (fun o => (Below.refl _ w).alloc (Nat.le_refl _) o)
  by_cases h2 : k = 2
  · subst h2
    by_cases h : 1 ≤ p
    · by_cases h' : p ≤ 1024
      · rw [(par_iff 2 p).2 (.inl ⟨rfl, h, h'⟩)]
        go_enter Try.func115, Try.ntmps115
        go_wp2_with (go_at_call 114; go_in)
        go_ret
        exact ⟨rfl, HB.out _⟩
      · rw [Bool.eq_false_iff.2 (fun hh => by rcases (par_iff 2 p).1 hh with hh | hh <;> omega : parB 2 p ≠ true)]
        go_enter Try.func115, Try.ntmps115
        go_wp2_with (go_at_call 114; go_in)
        go_ret
        exact ⟨rfl, HB.out _⟩
    · rw [Bool.eq_false_iff.2 (fun hh => by rcases (par_iff 2 p).1 hh with hh | hh <;> omega : parB 2 p ≠ true)]
      go_enter Try.func115, Try.ntmps115
      go_wp2_with (go_at_call 114; go_in)
      go_ret
      exact ⟨rfl, HB.out _⟩
  · have h2' : (k == 2) = false := by rw [Bool.eq_false_iff, ne_eq, beq_iff_eq]; exact h2
    have e : parB k p = (p == 0) := by
      by_cases h0 : p = 0
      · rw [(par_iff k p).2 (.inr ⟨h2, h0⟩), h0]; rfl
      · rw [Bool.eq_false_iff.2 (fun hh => by rcases (par_iff k p).1 hh with hh | hh <;> omega : parB k p ≠ true)]
        symm
        rw [Bool.eq_false_iff, ne_eq, beq_iff_eq]
        exact h0
    rw [e]
    clear h2 e
    go_enter Try.func115, Try.ntmps115
    go_wp2
    go_ret
    exact ⟨rfl, HB.out _⟩

theorem infoNode : (Try.prog.info? 76).map (·.size) = some 17 := by kernel_rfl
/-- A node's cells, as a list. -/
abbrev ndl (k l p s o : Int) (d : Nat → Int) : List Value := [.int .i64 k, .int .i64 l, .int .i64 p, .int .i64 s, .int .i64 o, .int .i64 (d 0), .int .i64 (d 1), .int .i64 (d 2), .int .i64 (d 3), .int .i64 (d 4), .int .i64 (d 5), .int .i64 (d 6), .int .i64 (d 7), .int .i64 (d 8), .int .i64 (d 9), .int .i64 (d 10), .int .i64 (d 11)]
theorem range_of {w : World} {g : Nat} {cs : List Value} {t : TypeId} (h : w.heap[g]? = some (.cells cs.toArray t (0, 0))) : w.rangeAt g 0 cs := fun j v hv => by
  rw [Nat.zero_add]
  exact cell_of_block h (by simpa using hv)
/-- A guarded load of a whole struct, in a plain region. -/
theorem wpList_load_guard {P : Program} {ops : Array Oper} {rest : List Oper} {op : Oper} {a : Act} {w : World} {Q : Exit → Act → World → Prop} (hgd : Region.wanted op (yielded ops a.tmps) = true) (ty : TypeId) (x : Operand) (ho : op.op = .load ty x)
    (b o : Nat) (hx : a.eval x = .pointer (some ⟨b, o, none⟩)) (cs : List Value) (d : TypeDesc) (hc : w.rangeAt b o cs)
    (hu : P.underlying ty = some d) (hd : d.isRow = true) (hi : (P.info? ty).map (·.size) = some cs.length)
    (h : wpList P ops Q rest (a.put op.dst (.agg cs.toArray)) w) : wpList P ops Q (op :: rest) a w :=
  wpList_step fun K hK => by
    rw [if_pos hgd]
    exact wp_load_mid ty x ho b o hx cs d hc hu hd hi (hK _ _ h)

set_option maxRecDepth 20000 in
set_option maxHeartbeats 4000000 in
theorem nfit_low (k l p s o : Int) (d : Nat → Int) (w : World) (b1 b2 b3 b4 b5 : Bool)
    (h1 : ∀ wx, Calls Try.prog 114 #[.int .i64 k, .int .i64 1, .int .i64 3] wx fun e w' => e = .returned (.bool b1) ∧ w' = wx)
    (h2 : ∀ wx, Calls Try.prog 114 #[.int .i64 l, .int .i64 0, .int .i64 64] wx fun e w' => e = .returned (.bool b2) ∧ w' = wx)
    (h3 : ∀ wx, Calls Try.prog 115 #[nd k l p s o d] wx fun e w' => e = .returned (.bool b3) ∧ Below wx.heap.size wx w')
    (h4 : ∀ wx, Calls Try.prog 114 #[.int .i64 s, .int .i64 0, .int .i64 8459264] wx fun e w' => e = .returned (.bool b4) ∧ w' = wx)
    (h5 : ∀ wx, Calls Try.prog 114 #[.int .i64 o, .int .i64 0, .int .i64 2048] wx fun e w' => e = .returned (.bool b5) ∧ w' = wx) :
    Calls Try.prog 86 #[nd k l p s o d] w fun e w' => Says (((((b1 = true ∧ b2 = true) ∧ b3 = true) ∧ b4 = true) ∧ b5 = true) ∧ ∀ i, i < 12 → PF (d i)) e ∧ Below w.heap.size w w' := by
  obtain ⟨w1, hw1⟩ : ∃ w1, w1 = w.alloc (.cells (ndc k l p s o d) 76) := ⟨_, rfl⟩
  have hB1 : Below w.heap.size w w1 := by rw [hw1]; exact (Below.refl _ w).alloc (Nat.le_refl _) _
  have hq1 : w1.heap[w.heap.size]? = some (.cells (ndc k l p s o d) 76 (0, 0)) := by rw [hw1]; exact heap_alloc_new _ _
  have c1 := cell_of_block hq1 (j := 1) rfl
  have hl1 := Hid.mk (range_of (cs := ndl k l p s o d) hq1)
  have hpf := Hid.mk (pfit_any k l p s o d)
  have HQ := Hid.mk (And.intro hq1 hB1)
  have H2 := Hid.mk h2
  have H3 := Hid.mk h3
  have H4 := Hid.mk h4
  have H5 := Hid.mk h5
  clear hB1 hq1 h2 h3 h4 h5
  go_enter Try.func86, Try.ntmps86
  go_wp2_with fail
  rw [← hw1]
  clear hw1
  refine (h1 _).mono ?_
  rintro e w' ⟨rfl, rfl⟩
  clear h1
  cases b1
  · go_wp2
    go_ret
    exact ⟨Says.no (fun h => by simp at h), HQ.out.2⟩
  go_wp2_with fail
  refine (H2.out _).mono ?_
  rintro e w' ⟨rfl, rfl⟩
  clear H2
  cases b2
  · go_wp2
    go_ret
    exact ⟨Says.no (fun h => by simp at h), HQ.out.2⟩
  go_wp2_with (refine wpList_load_guard rfl 76 _ rfl w.heap.size 0 rfl (ndl k l p s o d) _ hl1.out Try.underlying76 rfl infoNode ?_)
  refine (H3.out _).mono ?_
  rintro e w2 ⟨rfl, hb2⟩
  have hq2 := (hb2.block _ (Array.getElem?_eq_some_iff.1 HQ.out.1).1).trans HQ.out.1
  have HB2 : Hid (Below w.heap.size w w2) := HQ.out.2.trans (hb2.mono HQ.out.2.size)
  clear H3 HQ hb2 c1 hl1
  cases b3
  · go_wp2
    go_ret
    exact ⟨Says.no (fun h => by simp at h), HB2.out⟩
  have c3 := cell_of_block hq2 (j := 3) rfl
  have hl2 := Hid.mk (range_of (cs := ndl k l p s o d) hq2)
  have c4 := cell_of_block hq2 (j := 4) rfl
  go_wp2_with fail
  refine (H4.out _).mono ?_
  rintro e w' ⟨rfl, rfl⟩
  clear H4
  cases b4
  · go_wp2
    go_ret
    exact ⟨Says.no (fun h => by simp at h), HB2.out⟩
  go_wp2_with fail
  refine (H5.out _).mono ?_
  rintro e w' ⟨rfl, rfl⟩
  clear H5
  cases b5
  · go_wp2
    go_ret
    exact ⟨Says.no (fun h => by simp at h), HB2.out⟩
  go_wp2_with (refine wpList_load_guard rfl 76 _ rfl w.heap.size 0 rfl (ndl k l p s o d) _ hl2.out Try.underlying76 rfl infoNode ?_)
  refine (hpf.out _).mono ?_
  rintro e w3 ⟨⟨b, rfl, hb⟩, hb3⟩
  have HB3 : Hid (Below w.heap.size w w3) := HB2.out.trans (hb3.mono HB2.out.size)
  have HS := Hid.mk hb
  clear hpf hq2 hb3 HB2 hb c3 c4 hl2
  go_wp2
  go_ret
  exact ⟨⟨b, rfl, by simpa using HS.out⟩, HB3.out⟩
end Go.Proofs.Ytkkmkogpbhcpmaa
