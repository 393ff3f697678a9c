import Derived.Test.YtkgnkdnipcacgaaLays
import Derived.Test.YtkgnkdnipcacgaaV10
import Derived.Shelf.Sort.AssemblyIn
import Derived.Sort.EveryDepth
import Derived.Sort.OwnSortedInts
namespace Go.Proofs.Ytkgnkdnipcacgaa
open Go.RowKit Go.Maps Go.Shelf Go.Sort

theorem sorts : SortSaid := by
  intro g cap zs w hr hsz
  have hle := hr.le
  have hr0 := hr
  obtain ⟨cur, hb, hc, ht, hm⟩ := hr0
  have hlz : (zs.map (Value.int .i64)).length = zs.length := by simp
  rw [hlz] at hle ht
  have hH : Holds (Value.int .i64) w g 0 zs.toArray := holds_of_blockI hb ht
  refine (calls_of_every_depth fun D => AnyS.slices_Sort_int_in Try.lays189 D g 0 cap zs w hH hr.lt hsz).mono ?_
  rintro e w' ⟨rfl, n, os, rfl⟩
  have hl : (zs.mergeSort fun x y => decide (x ≤ y)).length = zs.length := List.length_mergeSort _
  have hg := grownBy_sortedI (w := w) (g := g) (n := n) (os := os) (zs.mergeSort fun x y => decide (x ≤ y)).toArray
  refine ⟨rfl, ⟨_, heap_sortedI _ hb, by simp [putCells, hc], ?_, hm⟩, ⟨hg.os, hg.tape, hg.output, hg.size, fun k hk hne => hg.block k hk (by simpa using hne)⟩⟩
  rw [List.length_map]
  exact take_putCellsI cur _ (by omega)

theorem ins_nil (w : World) : Calls Try.prog 101 #[.slice none 0 0, .int .i64 0, .int .i64 0] w fun e w' => e = .returned (.tuple #[]) ∧ w' = w := by
  go_enter Try.func101, Try.ntmps101
  go_wp2
  refine wp_loop_rounds 1 ?_
  rw [rounds_succ]
  go_wp2
  go_end0
  exact ⟨rfl, rfl⟩

theorem pdq_nil (n : Int) (w : World) : Calls Try.prog 93 #[.slice none 0 0, .int .i64 0, .int .i64 0, .int .i64 n] w fun e w' => e = .returned (.tuple #[]) ∧ w' = w := by
  go_enter Try.func93, Try.ntmps93
  go_wp2
  refine wp_loop_rounds 1 ?_
  rw [rounds_succ]
  go_wp2_with (go_at_call 101; refine (ins_nil _).mono ?_; rintro e w' ⟨rfl, rfl⟩)
  exact bodyPost_ret (results_none rfl _ _ _) rfl ⟨rfl, rfl⟩

theorem sortn : SortNil := by
  intro w
  go_enter Try.func80, Try.ntmps80
  go_wp2_with (first | (go_at_call 93; refine (pdq_nil _ _).mono ?_; rintro e w' ⟨rfl, rfl⟩) | go_in)
  go_end0
  exact ⟨rfl, RowKit.Below.refl _ _⟩
end Go.Proofs.Ytkgnkdnipcacgaa
