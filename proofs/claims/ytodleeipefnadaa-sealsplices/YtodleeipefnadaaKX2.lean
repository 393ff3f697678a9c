import Derived.Test.YtodleeipefnadaaKX1
import Derived.Test.YtodleeipefnadaaXKP3
import Derived.Deep.RegionHeld3
import Derived.OwnWalk
namespace Go.Proofs.Ytodleeipefnadaa
open Go.RowKit

theorem below_drew' {B : Nat} {a w : World} (h : Below B a w) : Below B a w.drew := ⟨h.os, h.tape, h.output, h.size, h.block⟩
theorem infoPairX {l r : List Int} (h : l.length = 512) (h2 : r.length = 512) : (Try.prog.info? 93).map (·.size) = some (bs (l ++ r)).length := by
  rw [sizePair, bs, List.length_map, List.length_append, h, h2]
theorem put_smix {l r : List Int} (hl : l.length = 512) {k : Nat} (hk : k ≤ 512) : put r 0 (l.take k) = smix l r k := by
  simp only [put, smix, List.take_zero, List.nil_append, Nat.zero_add, List.length_take]
  rw [show min k l.length = k by omega]
theorem cut_to (g k : Nat) (hk : k ≤ 512) (w : World) : Calls Try.prog 60 #[.pointer (some ⟨g, 0, none⟩), .int .i64 0, .int .i64 (k : Int)] w fun e w' => e = .returned (.slice (some ⟨g, 0, none⟩) k k) ∧ w' = w := by
  by_cases h0 : k = 0
  · subst h0; exact cut_none g 0 0 w (by omega)
  · have h := cut_any g 0 0 k w (by omega) hk
    simpa using h

/-- Two new blocks, the one with l, the other with r. -/
theorem two_new {w : World} {T : TypeId} {z : Array Value} {l r : List Int} (hz : z.size = 512) (hl : l.length = 512) (hr : r.length = 512) {B : Nat} {v : World} (h : Below B v w) (hB : B ≤ w.heap.size) :
    (Blk ((((w.alloc (.cells z T)).alloc (.cells z T)).setCells w.heap.size 0 (bs l)).setCells (w.heap.size + 1) 0 (bs r)) T w.heap.size l ∧ Blk ((((w.alloc (.cells z T)).alloc (.cells z T)).setCells w.heap.size 0 (bs l)).setCells (w.heap.size + 1) 0 (bs r)) T (w.heap.size + 1) r ∧ Below B v ((((w.alloc (.cells z T)).alloc (.cells z T)).setCells w.heap.size 0 (bs l)).setCells (w.heap.size + 1) 0 (bs r))) ∧
    (Blk ((((w.alloc (.cells z T)).alloc (.cells z T)).setCells (w.heap.size + 1) 0 (bs l)).setCells w.heap.size 0 (bs r)) T (w.heap.size + 1) l ∧ Blk ((((w.alloc (.cells z T)).alloc (.cells z T)).setCells (w.heap.size + 1) 0 (bs l)).setCells w.heap.size 0 (bs r)) T w.heap.size r ∧ Below B v ((((w.alloc (.cells z T)).alloc (.cells z T)).setCells (w.heap.size + 1) 0 (bs l)).setCells w.heap.size 0 (bs r))) := by
  have h2 : Below B v ((w.alloc (.cells z T)).alloc (.cells z T)) := (h.alloc hB _).alloc (by simp; omega) _
  have n1 : ((w.alloc (.cells z T)).alloc (.cells z T)).heap[w.heap.size + 1]? = some (.cells z T (0, 0)) := heap_alloc2_new _ _ _
  have n0 : ((w.alloc (.cells z T)).alloc (.cells z T)).heap[w.heap.size]? = some (.cells z T (0, 0)) := heap_alloc2_old _ _ _
  have hs : ((w.alloc (.cells z T)).alloc (.cells z T)).heap.size = w.heap.size + 2 := by simp
  generalize (w.alloc (.cells z T)).alloc (.cells z T) = u at *
  have k0 : ∀ x, Keeps (fun j => j = w.heap.size) x (x.setCells w.heap.size 0 (bs l)) := fun x => Keeps.setCells (F := fun j => j = w.heap.size) rfl (bs l) 0 x
  have k0' : ∀ x, Keeps (fun j => j = w.heap.size) x (x.setCells w.heap.size 0 (bs r)) := fun x => Keeps.setCells (F := fun j => j = w.heap.size) rfl (bs r) 0 x
  have k1 : ∀ x, Keeps (fun j => j = w.heap.size + 1) x (x.setCells (w.heap.size + 1) 0 (bs r)) := fun x => Keeps.setCells (F := fun j => j = w.heap.size + 1) rfl (bs r) 0 x
  have k1' : ∀ x, Keeps (fun j => j = w.heap.size + 1) x (x.setCells (w.heap.size + 1) 0 (bs l)) := fun x => Keeps.setCells (F := fun j => j = w.heap.size + 1) rfl (bs l) 0 x
  have s0 : ∀ (x : World) (g : Nat) (vs : List Value), (x.setCells g 0 vs).heap.size = x.heap.size := fun x g vs => by rw [size_setCells]
  refine ⟨⟨?_, ?_, ?_⟩, ?_, ?_, ?_⟩
  · exact ((k1 _).block w.heap.size (by rw [s0]; omega) (by omega)).trans (blk_stored (l := l) n0 (by omega))
  · exact blk_stored (l := r) (((k0 u).block (w.heap.size + 1) (by omega) (by omega)).trans n1) (by omega)
  · have b1 := h2.trans ((k0 u).below (fun j hj => by omega) (by omega))
    exact b1.trans ((k1 _).below (fun j hj => by omega) (by rw [s0]; omega))
  · exact ((k0' _).block (w.heap.size + 1) (by rw [s0]; omega) (by omega)).trans (blk_stored (l := l) n1 (by omega))
  · exact blk_stored (l := r) (((k1' u).block w.heap.size (by omega) (by omega)).trans n0) (by omega)
  · have b1 := h2.trans ((k1' u).below (fun j hj => by omega) (by omega))
    exact b1.trans ((k0' _).below (fun j hj => by omega) (by rw [s0]; omega))
end Go.Proofs.Ytodleeipefnadaa
