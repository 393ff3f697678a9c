import Derived.Test.YtkkmkogpbhcpmaaCrash
namespace Go.Proofs.Ytkkmkogpbhcpmaa
open Go.RowKit Go.Maps

theorem infoPick : (Try.prog.info? 53).map (fun i => (i.zero, i.size, i.bytes)) = some (some (.agg #[.int .i64 0, .int .i64 0, .int .i64 0]), 3, 24) := by kernel_rfl
theorem sizePick : (Try.prog.info? 53).map (·.size) = some 3 := by kernel_rfl

def p3 (l : List P3) : List Value := l.flatMap (fun q => [.int .i64 q.1, .int .i64 q.2.1, .int .i64 q.2.2])

theorem p3_len : ∀ l : List P3, (p3 l).length = l.length * 3
  | [] => rfl
  | q :: l => by have := p3_len l; simp only [p3, List.flatMap_cons, List.length_append, List.length_cons, List.length_nil] at this ⊢; omega

theorem p3_one (l : List P3) : ∀ v ∈ p3 l, v.oneCell' = true := by
  intro v hv
  simp only [p3, List.mem_flatMap] at hv
  obtain ⟨q, _, h⟩ := hv
  simp at h
  rcases h with rfl | rfl | rfl <;> rfl

theorem p3_at : ∀ (l : List P3) (i : Nat) (hi : i < l.length), (p3 l)[i * 3]? = some (.int .i64 l[i].1) ∧ (p3 l)[i * 3 + 1]? = some (.int .i64 l[i].2.1) ∧ (p3 l)[i * 3 + 2]? = some (.int .i64 l[i].2.2)
  | q :: l, 0, _ => by simp [p3]
  | q :: l, i + 1, hi => by
    have := p3_at l i (by simpa using hi)
    have e : p3 (q :: l) = [.int .i64 q.1, .int .i64 q.2.1, .int .i64 q.2.2] ++ p3 l := rfl
    rw [e, List.getElem?_append_right (by simp; omega), List.getElem?_append_right (by simp; omega), List.getElem?_append_right (by simp; omega)]
    simp only [List.length_cons, List.length_nil, List.getElem_cons_succ]
    rw [show (i + 1) * 3 - (0 + 1 + 1 + 1) = i * 3 by omega, show (i + 1) * 3 + 1 - (0 + 1 + 1 + 1) = i * 3 + 1 by omega, show (i + 1) * 3 + 2 - (0 + 1 + 1 + 1) = i * 3 + 2 by omega]
    exact this

theorem p3_src {w : World} {b o n : Nat} {l : List P3} (h : PSrc w (some ⟨b, o, none⟩) n l) (j : Nat) (v : Value) (hv : (p3 l)[j]? = some v) : w.cell? ((⟨b, o, none⟩ : Addr).add j) = some v := by
  rw [addr_add]
  have hj := (List.getElem?_eq_some_iff.1 hv).1
  rw [p3_len] at hj
  obtain ⟨i, t, ht, rfl⟩ : ∃ i t, t < 3 ∧ j = i * 3 + t := ⟨j / 3, j % 3, by omega, by omega⟩
  have hi : i < l.length := by omega
  obtain ⟨e0, e1, e2⟩ := p3_at l i hi
  obtain ⟨b', o', hx, c0, c1, c2⟩ := h.2.2.1 _ rfl i hi
  cases hx
  rw [← Nat.add_assoc]
  match t, ht with
  | 0, _ => rw [Nat.add_zero] at hv ⊢; rw [e0] at hv; rw [c0]; exact hv
  | 1, _ => rw [e1] at hv; rw [c1]; exact hv
  | 2, _ => rw [e2] at hv; rw [c2]; exact hv

theorem p3_to {w : World} {g n : Nat} {l : List P3} (hn : l.length = n) (hb : ∀ q ∈ l, q.1 ≤ 9223372036854775807 ∧ q.2.1 ≤ 9223372036854775807 ∧ q.2.2 ≤ 9223372036854775807) (h : w.heap[g]? = some (.cells (p3 l).toArray 53 (0, 0))) : PSrc w (some ⟨g, 0, none⟩) n l := by
  refine ⟨hn, (fun h => by cases h), fun x hx i hi => ?_, hb⟩
  cases hx
  obtain ⟨e0, e1, e2⟩ := p3_at l i hi
  refine ⟨g, 0, rfl, ?_, ?_, ?_⟩ <;> (simp only [World.cell?, h, Nat.zero_add]; simpa using ‹_›)

/-- copy of elements of three cells. -/
theorem copy3_run (w : World) (ty : TypeId) (g n : Nat) (a : Option Addr) (c d : Nat) (cur : Array Value) (l : List P3) (hg : w.heap[g]? = some (.cells cur 53 (0, 0))) (hcur : cur.size = n * 3) (hs : PSrc w a n l) :
    ∃ w2, (Builtin.copy_ #[28, 28] ty #[.slice (some ⟨g, 0, none⟩) n d, .slice a n c]).run Try.prog w = .ok (goInt n) w2 ∧
      w2.heap[g]? = some (.cells (p3 l).toArray 53 (0, 0)) ∧ Keeps (fun k => k = g) w w2 ∧ w2.heap.size = w.heap.size := by
  have hl := hs.1
  have hmm : Nat.min n n = n := Nat.min_self n
  obtain ⟨i0, hq, _, hi, _⟩ := info_parts infoPick
  by_cases h0 : n = 0
  · subst h0
    obtain rfl : l = [] := List.eq_nil_of_length_eq_zero hl
    have hcz : cur = #[] := Array.eq_empty_of_size_eq_zero (by omega)
    subst hcz
    have hlc : ∀ (x : Addr), (loadCells x 0).run Try.prog w = .ok #[] w := fun x => by simpa using run_loadCells_list (P := Try.prog) w x [] (by simp)
    refine ⟨w, ?_, hg, Keeps.refl _ _, rfl⟩
    cases a <;> simp [Builtin.copy_, run_underlying Try.underlying28, Builtin.lenOf, Builtin.firstCells, sizeOf, typeInfo, hq, storeCells, hlc]
  · obtain ⟨x, rfl⟩ : ∃ x, a = some x := by
      cases a with
      | none => exact absurd (hs.2.1 rfl) h0
      | some x => exact ⟨x, rfl⟩
    obtain ⟨b, o, rfl, _⟩ := hs.2.2.1 x rfl 0 (by omega)
    have hlc := run_loadCells_list (P := Try.prog) w ⟨b, o, none⟩ (p3 l) (p3_src hs)
    rw [p3_len, hl] at hlc
    have hst := run_storeCells_at Try.prog g 0 53 (p3 l) 0 cur w hg (by rw [p3_len]; omega) (p3_one l)
    have e : (List.take (0 + 0) cur.toList ++ p3 l ++ List.drop (0 + 0 + (p3 l).length) cur.toList).toArray = (p3 l).toArray := by
      rw [p3_len, List.drop_of_length_le (by simp; omega)]; simp
    rw [e] at hst
    refine ⟨w.setRow g (p3 l).toArray, ?_, ?_, ⟨rfl, rfl, rfl, by simp, fun k _ hk => setRow_other w g k _ hk⟩, by simp⟩
    · simp [Builtin.copy_, run_underlying Try.underlying28, Builtin.lenOf, Builtin.firstCells, sizeOf, typeInfo, hq, hi, hmm, hlc, hst]
    · exact setRow_heap w g _ _ 53 _ hg

theorem PSrc.later {w w' : World} {a : Option Addr} {n : Nat} {l : List P3} (h : PSrc w a n l) (hb : Below w.heap.size w w') : PSrc w' a n l := h.keeps (Keeps.of_below (fun _ => False) hb) (fun _ _ h => h)

set_option maxHeartbeats 2000000 in
theorem twinp_any (a : Option Addr) (n c : Nat) (l : List P3) (w : World) (hn : 24 * n ≤ 140737488355328) (hs : PSrc w a n l) :
    Calls Try.prog 22 #[.slice a n c] w fun e w' => ∃ g, e = .returned (.slice (some ⟨g, 0, none⟩) n n) ∧ w.heap.size ≤ g ∧ PSrc w' (some ⟨g, 0, none⟩) n l ∧ Below w.heap.size w w' := by
  obtain ⟨i0, hi, hz0, hz1, hz2⟩ := info_parts infoPick
  have H := Hid.mk hs
  clear hs
  go_enter Try.func22, Try.ntmps22
  go_wp2_with (at_make; refine wpList_make_full _ rfl _ _ 28 rfl w.heap.size 53 i0 _ 3 Try.underlying28 hi hz0 hz1 _ _ _ _ n rfl rfl ?c1 ?c2 ?c3 ?c4 ?c5 ?_)
  case c1 => rfl
  case c2 => rfl
  case c3 => rw [hz2]; omega
  case c4 => unfold maxLen; omega
  case c5 => exact Nat.le_refl _
  intro w1 hown hgrow
  have hb : Below w.heap.size w w1 := (Below.refl _ w).grown hgrow (Nat.le_refl _) (by intro k hk; cases hk)
  have hs1 := H.out.later hb
  have hl := H.out.1
  obtain ⟨_, ⟨hv, _⟩ | ⟨g', cap, cur, hv, _, hg, _, _, hcs, _⟩⟩ := hown
  · cases hv
  cases hv
  obtain ⟨w2, hrun, hh, hk, _⟩ := copy3_run w1 3 w.heap.size n a c n cur l hg hcs hs1
  have hb2 : Below w.heap.size w w2 := hb.trans (hk.below (fun k h => by omega) hb.size)
  have hr2 := p3_to (n := n) hl hs1.2.2.2 hh
  clear hh hs1 hb hk hg hcs hgrow
  go_wp2
  go_ret
  exact ⟨w.heap.size, rfl, Nat.le_refl _, hr2, hb2⟩
end Go.Proofs.Ytkkmkogpbhcpmaa
