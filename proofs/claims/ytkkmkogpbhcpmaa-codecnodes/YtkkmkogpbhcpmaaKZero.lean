import Derived.Test.YtkkmkogpbhcpmaaKBase
import Derived.Laws.AppendOwn
import Derived.Lib.AppendStr
namespace Go.Proofs.Ytkkmkogpbhcpmaa
open Go.RowKit

theorem zero_cells (m : Nat) : Builtin.zeroCells (Value.int .u8 0).cells m = (bs (List.replicate m 0)).toArray := by
  apply Array.ext'
  apply List.ext_getElem
  · simp [Builtin.zeroCells, bs, Value.cells]
  · intro i h1 h2
    simp [Builtin.zeroCells, bs, Nat.mod_one, Value.cells]

theorem und_int (w : World) : (underlying 3).run Try.prog w = .ok (.int .i64) w := run_underlying Try.underlying3 w
theorem und_row (w : World) : (underlying 27).run Try.prog w = .ok (.slice 5) w := run_underlying Try.underlying27 w

/-- append(b, make([]byte, m)...): the row with m zeros behind it. -/
theorem append_zeros (w : World) (base : Nat) (ty : TypeId) (v : Value) (n : Nat) (l : List Int) (m : Nat) (hown : w.ownsRow base 5 1 v n (bs l)) (hm : n + m ≤ 1000000) (hbase : base ≤ w.heap.size) (hpos : 0 < n + m) :
    ∃ g c w', (Builtin.append_ #[27, 3] ty #[v, .int .i64 (m : Int)]).run Try.prog w = .ok (.slice (some ⟨g, 0, none⟩) (n + m) c) w' ∧
      w'.ownsRow base 5 1 (.slice (some ⟨g, 0, none⟩) (n + m) c) (n + m) (bs (l ++ List.replicate m 0)) ∧ w.grownBy w' v.ownBlock := by
  obtain ⟨i, hi, hz0, hz1, hz2⟩ := info_parts infoU8
  have hll : (bs l).length = n := by simpa using hown.1
  have hll' : l.length = n := by simpa [bs] using hll
  have hwr : IntKind.i64.wrap (m : Int) = (m : Int) := by rw [IntKind.wrap_i64]; omega
  have h0 : ¬ (m : Int) < 0 := by omega
  have h48 : ¬ (281474976710656 < (m : Int)) := by omega
  have hai : ∀ w, (asInt (.int .i64 (m : Int))).run Try.prog w = .ok (m : Int) w := fun _ => rfl
  have hbl : (bs (l ++ List.replicate m 0)) = bs l ++ bs (List.replicate m 0) := by simp [bs]
  have fresh : ∀ (old : Nat) (row : Option Nat),
      (w.drew.alloc (.cells ((bs l).toArray ++ (bs (List.replicate m 0)).toArray ++ Builtin.zeroCells (Value.int .u8 0).cells (grownCap w (n + m) old 5 - (n + m))) 5)).ownsRow base 5 1
        (.slice (some ⟨w.heap.size, 0, none⟩) (n + m) (grownCap w (n + m) old 5)) (n + m) (bs (l ++ List.replicate m 0)) ∧
      w.grownBy (w.drew.alloc (.cells ((bs l).toArray ++ (bs (List.replicate m 0)).toArray ++ Builtin.zeroCells (Value.int .u8 0).cells (grownCap w (n + m) old 5 - (n + m))) 5)) row := by
    intro old row
    have hge := grownCap_ge w (n + m) old 5
    have hcm := grownCap_le_maxLen w (n + m) old 5 (by unfold maxLen; omega)
    refine ⟨⟨by simp [bs, hll'], .inr ⟨w.heap.size, _, _, rfl, hbase, heap_alloc_new w.drew _, hge, hcm, ?_, ?_⟩⟩, ⟨rfl, rfl, rfl, by simp, fun k hk _ => heap_alloc_old w.drew _ hk⟩⟩
    · rw [zero_cells]; simp [bs, hll']; omega
    · rw [hbl]
      simp only [Array.toList_append, Nat.mul_one]
      exact List.take_left' (by simp [bs, hll'])
  rcases hown.2 with ⟨rfl, rfl⟩ | ⟨g, cap, cur, rfl, hbg, hg, hnc, hcm, hcs, htake⟩
  · have hl0 : l = [] := List.eq_nil_of_length_eq_zero hll'
    subst hl0
    have hm0 : m ≠ 0 := by omega
    have h1 : ¬ (281474976710656 < Builtin.nextslicecap m 0) := by rw [nextslicecap_zero (by omega)]; omega
    obtain ⟨f1, f2⟩ := fresh 0 (Value.ownBlock (.slice none 0 0))
    simp only [Nat.zero_add] at f1 f2 ⊢
    refine ⟨w.heap.size, _, _, ?_, f1, f2⟩
    have h63 : ¬ 9223372036854775807 < (m : Int) := by omega
    simp [Builtin.append_, hai, sizeOf, typeInfo, zeroValue, hi, hz0, hz1, hz2, hwr, h0, h48, hm0, h1, h63, Question.forced, run_firstCells_none, newRow, grownCap, zero_cells]
  · have hcs' : cur.size = cap := by simpa using hcs
    have ht' : cur.toList.take n = bs l := by simpa using htake
    by_cases hm0 : m = 0
    · subst hm0
      have hai0 : ∀ w, (asInt (.int .i64 0)).run Try.prog w = .ok 0 w := fun _ => rfl
      have hwr0 : IntKind.i64.wrap 0 = 0 := by decide
      have hst : (storeCells ⟨g, n, none⟩ []).run Try.prog w = .ok () w := rfl
      refine ⟨g, cap, w, ?_, by simpa using hown, ⟨rfl, rfl, rfl, Nat.le_refl _, fun _ _ _ => rfl⟩⟩
      simp [Builtin.append_, hai0, sizeOf, typeInfo, hi, hz1, hz2, hwr0, hnc, Addr.add_lit, hst]
    by_cases hroom : n + m ≤ cap
    · refine ⟨g, cap, w.setRow g (cur.toList.take n ++ bs (List.replicate m 0) ++ cur.toList.drop (n + m)).toArray, ?_, ⟨by simp [bs, hll'], .inr ⟨g, cap, _, rfl, hbg, setRow_heap w g cur _ 5 _ hg, hroom, hcm, ?_, ?_⟩⟩, ⟨rfl, rfl, rfl, by simp, fun k _ hk => setRow_other w g k _ (fun e => hk (by simp [Value.ownBlock, e]))⟩⟩
      · have hst := run_storeCells_at Try.prog g n 5 (bs (List.replicate m 0)) 0 cur w hg (by simp [bs]; omega) (by intro u hu; obtain ⟨x, _, rfl⟩ := List.mem_map.1 hu; rfl)
        simp only [Nat.add_zero] at hst
        have hlr : (bs (List.replicate m 0)).length = m := by simp [bs]
        rw [hlr] at hst
        have hzt : (Builtin.zeroCells (Value.int .u8 0).cells m).toList = bs (List.replicate m 0) := by rw [zero_cells]
        simp [Builtin.append_, hai, sizeOf, typeInfo, zeroValue, hi, hz0, hz1, hz2, hwr, h0, h48, hm0, hroom, Addr.add_lit]
        rw [hzt, hst]
        simp [bs]
      · simp [bs]; omega
      · rw [ht', hbl]
        exact List.take_left' (by simp [bs, hll'])
    · have hcn : cap < n + m := by omega
      have holds : ∀ j u, (bs l)[j]? = some u → w.cell? ((⟨g, 0, none⟩ : Addr).add j) = some u := hown.cells (g := g) rfl
      have hfo := run_firstCells_some (P := Try.prog) w.drew 1 n ⟨g, 0, none⟩ n cap (bs l) (by omega) (by simpa using holds)
      have h1 : ¬ (281474976710656 < Builtin.nextslicecap (n + m) cap) := by have := growslice_fits (need := n + m) (old := cap) (bytes := 1) (by omega) (by omega); omega
      obtain ⟨f1, f2⟩ := fresh cap (Value.ownBlock (.slice (some ⟨g, 0, none⟩) n cap))
      refine ⟨w.heap.size, _, _, ?_, f1, f2⟩
      have h63 : ¬ 9223372036854775807 < (n : Int) + (m : Int) := by omega
      simp [Builtin.append_, hai, sizeOf, typeInfo, zeroValue, hi, hz0, hz1, hz2, hwr, h0, h48, hm0, hroom, h1, h63, Question.forced, hfo, newRow, grownCap, zero_cells]
end Go.Proofs.Ytkkmkogpbhcpmaa
