import Derived.Test.YtodleeipefnadaaXKS7
namespace Go.Proofs.Ytodleeipefnadaa
open Go.RowKit

theorem blk_range {w : World} {T : TypeId} {g : Nat} {l : List Int} (h : Blk w T g l) : w.rangeAt g 0 (bs l) := by
  intro j v hv
  obtain ⟨hj, rfl⟩ := bs_getElem hv
  rw [Nat.zero_add]
  exact h.cell hj
theorem there_of {w : World} {T : TypeId} {g n : Nat} {cur : Array Value} (h : w.heap[g]? = some (.cells cur T (0, 0))) (hn : cur.size = n) : w.there g 0 n := by
  intro j hj
  rw [Nat.zero_add]
  exact ⟨by rw [cell_of_block h (j := j) (u := cur[j]'(by omega)) (by simp [show j < cur.size by omega])]; rfl, frozen_of_block h j⟩
theorem zsec_size : zsec.size = 512 := by unfold zsec; simp only [List.size_toArray, bs, List.length_map, zs_len]
theorem infoSecL {l : List Int} (h : l.length = 512) : (Try.prog.info? 91).map (·.size) = some (bs l).length := by
  rw [sizeSec, bs, List.length_map, h]

end Go.Proofs.Ytodleeipefnadaa
