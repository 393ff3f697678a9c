import Derived.Test.YtodleeipefnadaaXKS4
import Derived.Deep.RegionLaw
namespace Go.Proofs.Ytodleeipefnadaa
open Go.RowKit

set_option maxRecDepth 20000 in
set_option maxHeartbeats 2000000 in
theorem cut_any (g o i j : Nat) (w : World) (hij : i < j) (hj : j ≤ 512) :
    Calls Try.prog 60 #[.pointer (some ⟨g, o, none⟩), .int .i64 (i : Int), .int .i64 (j : Int)] w fun e w' => e = .returned (.slice (some ⟨g, o + i, none⟩) (j - i) (j - i)) ∧ w' = w := by
  have h1 : (i : Int) ≤ (j : Int) := by omega
  have h2 : (j : Int) ≤ 512 := by omega
  have h3 : ¬ j = i := by omega
  go_enter Try.func60, Try.ntmps60
  go_wp2
  go_ret
  exact ⟨rfl, rfl⟩
set_option maxRecDepth 20000 in
set_option maxHeartbeats 2000000 in
theorem cut_none (g o i : Nat) (w : World) (hj : i ≤ 512) :
    Calls Try.prog 60 #[.pointer (some ⟨g, o, none⟩), .int .i64 (i : Int), .int .i64 (i : Int)] w fun e w' => e = .returned (.slice (some ⟨g, o, none⟩) 0 0) ∧ w' = w := by
  have h2 : (i : Int) ≤ 512 := by omega
  go_enter Try.func60, Try.ntmps60
  go_wp2
  go_ret
  exact ⟨rfl, rfl⟩

/-- The bytes of a number, the lowest first. -/
def leb : Nat → Nat → List Int
  | 0, _ => []
  | k + 1, m => ((m % 256 : Nat) : Int) :: leb k (m / 256)
theorem leb_len : ∀ k m, (leb k m).length = k
  | 0, _ => rfl
  | k + 1, m => by simp [leb, leb_len k]
theorem leb_snoc : ∀ k m, leb (k + 1) m = leb k m ++ [((m / 2 ^ (8 * k) % 256 : Nat) : Int)]
  | 0, m => by simp [leb]
  | k + 1, m => by
    rw [leb, leb_snoc k (m / 256), leb]
    have : m / 256 / 2 ^ (8 * k) = m / 2 ^ (8 * (k + 1)) := by
      rw [Nat.div_div_eq_div_mul, show 8 * (k + 1) = 8 + 8 * k by omega, Nat.pow_add]
    simp [this]
theorem leb_bytes : ∀ k m, Bytes (leb k m)
  | 0, _ => by intro x hx; cases hx
  | k + 1, m => .cons (by omega) (leb_bytes k _)
/-- Bytes laid over others. -/
def put (l : List Int) (o : Nat) (xs : List Int) : List Int := l.take o ++ (xs ++ l.drop (o + xs.length))
theorem put_len {l xs : List Int} {o : Nat} (h : o + xs.length ≤ l.length) : (put l o xs).length = l.length := by simp [put]; omega
theorem put_nil (l : List Int) (o : Nat) : put l o [] = l := by simp [put]
theorem put_snoc {l xs : List Int} {o : Nat} (h : o + xs.length < l.length) (x : Int) : (put l o xs).set (o + xs.length) x = put l o (xs ++ [x]) := by
  unfold put
  have h1 : (l.take o).length = o := by simp; omega
  rw [List.set_append_right _ _ (by omega), h1, List.set_append_right _ _ (by omega), show o + xs.length - o - xs.length = 0 by omega]
  have : l.drop (o + xs.length) = l[o + xs.length] :: l.drop (o + xs.length + 1) := List.drop_eq_getElem_cons h
  rw [this, List.set_cons_zero]
  simp [Nat.add_assoc]

/-- Block g is just these bytes. -/
def Blk (w : World) (T : TypeId) (g : Nat) (l : List Int) : Prop := w.heap[g]? = some (.cells (bs l).toArray T (0, 0))
theorem Blk.lt {w : World} {T : TypeId} {g : Nat} {l : List Int} (h : Blk w T g l) : g < w.heap.size := (Array.getElem?_eq_some_iff.1 h).1
theorem Blk.cell {w : World} {T : TypeId} {g : Nat} {l : List Int} (h : Blk w T g l) {i : Nat} (hi : i < l.length) : w.cell? ⟨g, i, none⟩ = some (.int .u8 (l.getD i 0)) :=
  cell_of_block h (by simp [bs, List.getD, hi])
theorem Blk.frozen {w : World} {T : TypeId} {g : Nat} {l : List Int} (h : Blk w T g l) (i : Nat) : w.frozen? ⟨g, i, none⟩ = false := frozen_of_block h i
theorem Blk.set {w : World} {T : TypeId} {g : Nat} {l : List Int} (h : Blk w T g l) (i : Nat) (x : Int) : Blk (w.setCell ⟨g, i, none⟩ (.int .u8 x)) T g (l.set i x) := by
  unfold Blk
  rw [heap_setCell_same _ _ _ _ _ _ h]
  congr 2
  apply Array.ext'
  simp [bs, List.map_set]
theorem Blk.keep {w w' : World} {T : TypeId} {g : Nat} {l : List Int} (h : Blk w T g l) (hb : w'.heap[g]? = w.heap[g]?) : Blk w' T g l := hb.trans h
theorem Blk.src {w : World} {T : TypeId} {g : Nat} {l : List Int} (h : Blk w T g l) {o n : Nat} (hn : o + n ≤ l.length) : Src w (some ⟨g, o, none⟩) n ((l.drop o).take n) :=
  ⟨by simp; omega, (fun e => by cases e), fun x hx i hi => by
    cases hx
    rw [addr_add, h.cell (by omega)]
    simp [List.getD, hi]⟩

end Go.Proofs.Ytodleeipefnadaa
