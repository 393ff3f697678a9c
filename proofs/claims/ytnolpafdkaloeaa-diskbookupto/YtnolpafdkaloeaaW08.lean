import Derived.Test.YtnolpafdkaloeaaW07
import Derived.Deep.RegionHeld
section
namespace Go.Proofs.Ytnolpafdkaloeaa
open Go.RowKit Go.Maps

abbrev bkC (v0 v1 v2 v3 v4 v5 : Value) : Array Value := #[v0, v1, v2, v3, v4, v5]
/-- The lists of a book: each its mark alone, j more than the first. -/
def reps (j : Nat) (nm : List (Nat × Int)) : List (List Int) := nm.map fun q => List.replicate (q.1 + j) q.2
theorem reps_len (j : Nat) (nm : List (Nat × Int)) : (reps j nm).length = nm.length := by simp [reps]

/-- The owner of the i-th noted list's bytes. -/
abbrev yB (i : Nat) : Nat := 40 + 2 * i
theorem yB_ge (i : Nat) : 40 ≤ yB i := Nat.le_add_right _ _
theorem yB_even (i : Nat) : yB i % 2 = 0 := by show (40 + 2 * i) % 2 = 0; omega
/-- The book's owners. -/
def isB (y : Nat) : Prop := (11 ≤ y ∧ y ≤ 17) ∨ (40 ≤ y ∧ y % 2 = 0)

/-- A book in memory; its lists may have one value more, of which nothing is told. -/
structure Bq (w : World) (lab : Nat → Nat) (p : Nat) (v0 v1 v2 v3 v4 v5 : Value) (nm : List (Nat × Int)) (xs0 xs1 xs2 xs3 xs4 : List Value) : Prop where
  box : w.heap[p]? = some (.cells (bkC v0 v1 v2 v3 v4 v5) 58 (0, 0))
  bp : lab p = 17
  l0 : LX w lab 11 yB v0 (reps 0 nm) xs0
  l1 : LX w lab 12 yB v1 (reps 1 nm) xs1
  l2 : LX w lab 13 yB v2 (reps 2 nm) xs2
  l3 : LX w lab 14 yB v3 (reps 3 nm) xs3
  l4 : LX w lab 15 yB v4 (reps 96 nm) xs4
  ms : OR w lab 16 5 v5 nm.length (bs (nm.map (·.2)))
abbrev Bk (w : World) (lab : Nat → Nat) (p : Nat) (v0 v1 v2 v3 v4 v5 : Value) (nm : List (Nat × Int)) : Prop := Bq w lab p v0 v1 v2 v3 v4 v5 nm [] [] [] [] []

section
variable {w w' : World} {lab lab' : Nat → Nat} {p : Nat} {v v0 v1 v2 v3 v4 v5 : Value} {nm : List (Nat × Int)} {X : Nat → Prop} {xs0 xs1 xs2 xs3 xs4 : List Value}
theorem Bq.lt (h : Bq w lab p v0 v1 v2 v3 v4 v5 nm xs0 xs1 xs2 xs3 xs4) : p < w.heap.size := (Array.getElem?_eq_some_iff.1 h.box).1
theorem Bq.gro (h : Bq w lab p v0 v1 v2 v3 v4 v5 nm xs0 xs1 xs2 xs3 xs4) (g : Gro lab lab' w w' X) (hX : ∀ y, (11 ≤ y ∧ y ≤ 17) → ¬ X y) (hY : ∀ i, i < nm.length → ¬ X (yB i)) : Bq w' lab' p v0 v1 v2 v3 v4 v5 nm xs0 xs1 xs2 xs3 xs4 := by
  have n : ∀ y, 11 ≤ y → y ≤ 17 → ¬ X y := fun y h1 h2 => hX y ⟨h1, h2⟩
  have m : ∀ j i, i < (reps j nm).length → ¬ X (yB i) := fun j i hi => hY i (by rw [reps_len] at hi; exact hi)
  exact ⟨(g.block h.lt h.bp (n 17 (by omega) (by omega))).trans h.box, g.tag h.lt h.bp, h.l0.gro g (n _ (by omega) (by omega)) (m _), h.l1.gro g (n _ (by omega) (by omega)) (m _), h.l2.gro g (n _ (by omega) (by omega)) (m _), h.l3.gro g (n _ (by omega) (by omega)) (m _), h.l4.gro g (n _ (by omega) (by omega)) (m _), h.ms.gro g (n _ (by omega) (by omega))⟩
theorem Bq.far (h : Bq w lab p v0 v1 v2 v3 v4 v5 nm xs0 xs1 xs2 xs3 xs4) (g : Gro lab lab' w w' X) (hX : ∀ y, X y → ¬ isB y) : Bq w' lab' p v0 v1 v2 v3 v4 v5 nm xs0 xs1 xs2 xs3 xs4 :=
  h.gro g (fun y hy hx => hX y hx (.inl hy)) (fun i _ hx => hX _ hx (.inr ⟨yB_ge i, yB_even i⟩))
theorem Bq.later (h : Bq w lab p v0 v1 v2 v3 v4 v5 nm xs0 xs1 xs2 xs3 xs4) (hz : LZ lab w) (hb : Below w.heap.size w w') : Bq w' lab p v0 v1 v2 v3 v4 v5 nm xs0 xs1 xs2 xs3 xs4 :=
  h.far (Gro.below hz hb (fun _ => False)) (fun _ h => h.elim)
theorem LX.rep {yr j : Nat} {yb : Nat → Nat} (h : LX w lab yr yb v (reps j nm) []) {i : Nat} (hi : i < nm.length) : ∃ g cap a c m, m = (nm[i]).1 + j ∧ v = .slice (some ⟨g, 0, none⟩) nm.length cap ∧ w.cell? ⟨g, i, none⟩ = some (.slice a m c) ∧ Src w a m (List.replicate m (nm[i]).2) := by
  obtain ⟨g, cap, a, c, e1, e2, e3⟩ := h.at (i := i) (by rw [reps_len]; exact hi)
  have e : (reps j nm)[i]'(by rw [reps_len]; exact hi) = List.replicate ((nm[i]).1 + j) (nm[i]).2 := by simp [reps]
  rw [e, List.length_replicate] at e2 e3
  rw [reps_len] at e1
  exact ⟨g, cap, a, c, _, rfl, e1, e2, e3.1⟩
theorem Bq.mark (h : Bq w lab p v0 v1 v2 v3 v4 v5 nm xs0 xs1 xs2 xs3 xs4) {i : Nat} (hi : i < nm.length) : ∃ g cap, v5 = .slice (some ⟨g, 0, none⟩) nm.length cap ∧ w.cell? ⟨g, i, none⟩ = some (.int .u8 (nm[i]).2) := by
  obtain ⟨g, c, e1, hr, _, _⟩ := h.ms.row (by omega)
  exact ⟨g, c, e1, hr.cell (by simp [bs, hi])⟩
/-- One more value at the end of list 0. -/
theorem Bq.push0 (h : Bq w lab p v0 v1 v2 v3 v4 v5 nm [] xs1 xs2 xs3 xs4) (hz : LZ lab w) (hN : nm.length ≤ 7000000000000) (u : Value) (hu : u.oneCell' = true) :
    ∃ g cap w1, (Builtin.append_ #[28, 28] 28 #[v0, .slice (some ⟨w.heap.size, 0, none⟩) 1 1]).run Try.prog (w.alloc (.cells #[u] 22)) = .ok (.slice (some ⟨g, 0, none⟩) (nm.length + 1) cap) w1 ∧ w1.cell? ⟨p, 0, none⟩ = some v0 ∧ w1.frozen? ⟨p, 0, none⟩ = false ∧ ∃ lab', Gro lab lab' w (w1.setCell ⟨p, 0, none⟩ (.slice (some ⟨g, 0, none⟩) (nm.length + 1) cap)) (fun y => y = 11 ∨ y = 17) ∧ Bq (w1.setCell ⟨p, 0, none⟩ (.slice (some ⟨g, 0, none⟩) (nm.length + 1) cap)) lab' p (.slice (some ⟨g, 0, none⟩) (nm.length + 1) cap) v1 v2 v3 v4 v5 nm [u] xs1 xs2 xs3 xs4 := by
  obtain ⟨g, cap, w1, hrun, lab', G, hl⟩ := h.l0.push hz (fun i e => by have := yB_ge i; omega) (by rw [reps_len]; exact hN) u hu
  simp only [reps_len, List.length_nil, Nat.add_zero, List.nil_append] at hrun hl
  have hbx : w1.heap[p]? = some (.cells (bkC v0 v1 v2 v3 v4 v5) 58 (0, 0)) := (G.block h.lt h.bp (fun e => by omega)).trans h.box
  have hlp := G.tag h.lt h.bp
  have G2 : Gro lab' lab' w1 (w1.setCell ⟨p, 0, none⟩ (.slice (some ⟨g, 0, none⟩) (nm.length + 1) cap)) (fun y => y = 17) := Gro.plain G.lz (Keeps.setCell (F := fun k => k = p) w1 (p := ⟨p, 0, none⟩) rfl _) (fun k _ e => by rw [e]; exact hlp)
  refine ⟨g, cap, w1, hrun, cell_of_block hbx rfl, frozen_of_block hbx _, lab', G.join G2 (fun y h => .inl h) (fun y h => .inr h), ⟨(heap_setCell_same _ _ 0 _ _ _ hbx).trans rfl, hlp, ?_, (h.l1.gro G (fun e => by omega) (fun i _ e => by have := yB_ge i; omega)).gro G2 (fun e => by omega) (fun i _ e => by have := yB_ge i; omega), (h.l2.gro G (fun e => by omega) (fun i _ e => by have := yB_ge i; omega)).gro G2 (fun e => by omega) (fun i _ e => by have := yB_ge i; omega), (h.l3.gro G (fun e => by omega) (fun i _ e => by have := yB_ge i; omega)).gro G2 (fun e => by omega) (fun i _ e => by have := yB_ge i; omega), (h.l4.gro G (fun e => by omega) (fun i _ e => by have := yB_ge i; omega)).gro G2 (fun e => by omega) (fun i _ e => by have := yB_ge i; omega), (h.ms.gro G (fun e => by omega)).gro G2 (fun e => by omega)⟩⟩
  exact hl.gro G2 (fun e => by omega) (fun i _ e => by have := yB_ge i; omega)
/-- One more value at the end of list 1. -/
theorem Bq.push1 (h : Bq w lab p v0 v1 v2 v3 v4 v5 nm xs0 [] xs2 xs3 xs4) (hz : LZ lab w) (hN : nm.length ≤ 7000000000000) (u : Value) (hu : u.oneCell' = true) :
    ∃ g cap w1, (Builtin.append_ #[28, 28] 28 #[v1, .slice (some ⟨w.heap.size, 0, none⟩) 1 1]).run Try.prog (w.alloc (.cells #[u] 22)) = .ok (.slice (some ⟨g, 0, none⟩) (nm.length + 1) cap) w1 ∧ w1.cell? ⟨p, 1, none⟩ = some v1 ∧ w1.frozen? ⟨p, 1, none⟩ = false ∧ ∃ lab', Gro lab lab' w (w1.setCell ⟨p, 1, none⟩ (.slice (some ⟨g, 0, none⟩) (nm.length + 1) cap)) (fun y => y = 12 ∨ y = 17) ∧ Bq (w1.setCell ⟨p, 1, none⟩ (.slice (some ⟨g, 0, none⟩) (nm.length + 1) cap)) lab' p v0 (.slice (some ⟨g, 0, none⟩) (nm.length + 1) cap) v2 v3 v4 v5 nm xs0 [u] xs2 xs3 xs4 := by
  obtain ⟨g, cap, w1, hrun, lab', G, hl⟩ := h.l1.push hz (fun i e => by have := yB_ge i; omega) (by rw [reps_len]; exact hN) u hu
  simp only [reps_len, List.length_nil, Nat.add_zero, List.nil_append] at hrun hl
  have hbx : w1.heap[p]? = some (.cells (bkC v0 v1 v2 v3 v4 v5) 58 (0, 0)) := (G.block h.lt h.bp (fun e => by omega)).trans h.box
  have hlp := G.tag h.lt h.bp
  have G2 : Gro lab' lab' w1 (w1.setCell ⟨p, 1, none⟩ (.slice (some ⟨g, 0, none⟩) (nm.length + 1) cap)) (fun y => y = 17) := Gro.plain G.lz (Keeps.setCell (F := fun k => k = p) w1 (p := ⟨p, 1, none⟩) rfl _) (fun k _ e => by rw [e]; exact hlp)
  refine ⟨g, cap, w1, hrun, cell_of_block hbx rfl, frozen_of_block hbx _, lab', G.join G2 (fun y h => .inl h) (fun y h => .inr h), ⟨(heap_setCell_same _ _ 1 _ _ _ hbx).trans rfl, hlp, (h.l0.gro G (fun e => by omega) (fun i _ e => by have := yB_ge i; omega)).gro G2 (fun e => by omega) (fun i _ e => by have := yB_ge i; omega), ?_, (h.l2.gro G (fun e => by omega) (fun i _ e => by have := yB_ge i; omega)).gro G2 (fun e => by omega) (fun i _ e => by have := yB_ge i; omega), (h.l3.gro G (fun e => by omega) (fun i _ e => by have := yB_ge i; omega)).gro G2 (fun e => by omega) (fun i _ e => by have := yB_ge i; omega), (h.l4.gro G (fun e => by omega) (fun i _ e => by have := yB_ge i; omega)).gro G2 (fun e => by omega) (fun i _ e => by have := yB_ge i; omega), (h.ms.gro G (fun e => by omega)).gro G2 (fun e => by omega)⟩⟩
  exact hl.gro G2 (fun e => by omega) (fun i _ e => by have := yB_ge i; omega)
/-- One more value at the end of list 2. -/
theorem Bq.push2 (h : Bq w lab p v0 v1 v2 v3 v4 v5 nm xs0 xs1 [] xs3 xs4) (hz : LZ lab w) (hN : nm.length ≤ 7000000000000) (u : Value) (hu : u.oneCell' = true) :
    ∃ g cap w1, (Builtin.append_ #[28, 28] 28 #[v2, .slice (some ⟨w.heap.size, 0, none⟩) 1 1]).run Try.prog (w.alloc (.cells #[u] 22)) = .ok (.slice (some ⟨g, 0, none⟩) (nm.length + 1) cap) w1 ∧ w1.cell? ⟨p, 2, none⟩ = some v2 ∧ w1.frozen? ⟨p, 2, none⟩ = false ∧ ∃ lab', Gro lab lab' w (w1.setCell ⟨p, 2, none⟩ (.slice (some ⟨g, 0, none⟩) (nm.length + 1) cap)) (fun y => y = 13 ∨ y = 17) ∧ Bq (w1.setCell ⟨p, 2, none⟩ (.slice (some ⟨g, 0, none⟩) (nm.length + 1) cap)) lab' p v0 v1 (.slice (some ⟨g, 0, none⟩) (nm.length + 1) cap) v3 v4 v5 nm xs0 xs1 [u] xs3 xs4 := by
  obtain ⟨g, cap, w1, hrun, lab', G, hl⟩ := h.l2.push hz (fun i e => by have := yB_ge i; omega) (by rw [reps_len]; exact hN) u hu
  simp only [reps_len, List.length_nil, Nat.add_zero, List.nil_append] at hrun hl
  have hbx : w1.heap[p]? = some (.cells (bkC v0 v1 v2 v3 v4 v5) 58 (0, 0)) := (G.block h.lt h.bp (fun e => by omega)).trans h.box
  have hlp := G.tag h.lt h.bp
  have G2 : Gro lab' lab' w1 (w1.setCell ⟨p, 2, none⟩ (.slice (some ⟨g, 0, none⟩) (nm.length + 1) cap)) (fun y => y = 17) := Gro.plain G.lz (Keeps.setCell (F := fun k => k = p) w1 (p := ⟨p, 2, none⟩) rfl _) (fun k _ e => by rw [e]; exact hlp)
  refine ⟨g, cap, w1, hrun, cell_of_block hbx rfl, frozen_of_block hbx _, lab', G.join G2 (fun y h => .inl h) (fun y h => .inr h), ⟨(heap_setCell_same _ _ 2 _ _ _ hbx).trans rfl, hlp, (h.l0.gro G (fun e => by omega) (fun i _ e => by have := yB_ge i; omega)).gro G2 (fun e => by omega) (fun i _ e => by have := yB_ge i; omega), (h.l1.gro G (fun e => by omega) (fun i _ e => by have := yB_ge i; omega)).gro G2 (fun e => by omega) (fun i _ e => by have := yB_ge i; omega), ?_, (h.l3.gro G (fun e => by omega) (fun i _ e => by have := yB_ge i; omega)).gro G2 (fun e => by omega) (fun i _ e => by have := yB_ge i; omega), (h.l4.gro G (fun e => by omega) (fun i _ e => by have := yB_ge i; omega)).gro G2 (fun e => by omega) (fun i _ e => by have := yB_ge i; omega), (h.ms.gro G (fun e => by omega)).gro G2 (fun e => by omega)⟩⟩
  exact hl.gro G2 (fun e => by omega) (fun i _ e => by have := yB_ge i; omega)
/-- One more value at the end of list 3. -/
theorem Bq.push3 (h : Bq w lab p v0 v1 v2 v3 v4 v5 nm xs0 xs1 xs2 [] xs4) (hz : LZ lab w) (hN : nm.length ≤ 7000000000000) (u : Value) (hu : u.oneCell' = true) :
    ∃ g cap w1, (Builtin.append_ #[28, 28] 28 #[v3, .slice (some ⟨w.heap.size, 0, none⟩) 1 1]).run Try.prog (w.alloc (.cells #[u] 22)) = .ok (.slice (some ⟨g, 0, none⟩) (nm.length + 1) cap) w1 ∧ w1.cell? ⟨p, 3, none⟩ = some v3 ∧ w1.frozen? ⟨p, 3, none⟩ = false ∧ ∃ lab', Gro lab lab' w (w1.setCell ⟨p, 3, none⟩ (.slice (some ⟨g, 0, none⟩) (nm.length + 1) cap)) (fun y => y = 14 ∨ y = 17) ∧ Bq (w1.setCell ⟨p, 3, none⟩ (.slice (some ⟨g, 0, none⟩) (nm.length + 1) cap)) lab' p v0 v1 v2 (.slice (some ⟨g, 0, none⟩) (nm.length + 1) cap) v4 v5 nm xs0 xs1 xs2 [u] xs4 := by
  obtain ⟨g, cap, w1, hrun, lab', G, hl⟩ := h.l3.push hz (fun i e => by have := yB_ge i; omega) (by rw [reps_len]; exact hN) u hu
  simp only [reps_len, List.length_nil, Nat.add_zero, List.nil_append] at hrun hl
  have hbx : w1.heap[p]? = some (.cells (bkC v0 v1 v2 v3 v4 v5) 58 (0, 0)) := (G.block h.lt h.bp (fun e => by omega)).trans h.box
  have hlp := G.tag h.lt h.bp
  have G2 : Gro lab' lab' w1 (w1.setCell ⟨p, 3, none⟩ (.slice (some ⟨g, 0, none⟩) (nm.length + 1) cap)) (fun y => y = 17) := Gro.plain G.lz (Keeps.setCell (F := fun k => k = p) w1 (p := ⟨p, 3, none⟩) rfl _) (fun k _ e => by rw [e]; exact hlp)
  refine ⟨g, cap, w1, hrun, cell_of_block hbx rfl, frozen_of_block hbx _, lab', G.join G2 (fun y h => .inl h) (fun y h => .inr h), ⟨(heap_setCell_same _ _ 3 _ _ _ hbx).trans rfl, hlp, (h.l0.gro G (fun e => by omega) (fun i _ e => by have := yB_ge i; omega)).gro G2 (fun e => by omega) (fun i _ e => by have := yB_ge i; omega), (h.l1.gro G (fun e => by omega) (fun i _ e => by have := yB_ge i; omega)).gro G2 (fun e => by omega) (fun i _ e => by have := yB_ge i; omega), (h.l2.gro G (fun e => by omega) (fun i _ e => by have := yB_ge i; omega)).gro G2 (fun e => by omega) (fun i _ e => by have := yB_ge i; omega), ?_, (h.l4.gro G (fun e => by omega) (fun i _ e => by have := yB_ge i; omega)).gro G2 (fun e => by omega) (fun i _ e => by have := yB_ge i; omega), (h.ms.gro G (fun e => by omega)).gro G2 (fun e => by omega)⟩⟩
  exact hl.gro G2 (fun e => by omega) (fun i _ e => by have := yB_ge i; omega)
/-- One more value at the end of list 4. -/
theorem Bq.push4 (h : Bq w lab p v0 v1 v2 v3 v4 v5 nm xs0 xs1 xs2 xs3 []) (hz : LZ lab w) (hN : nm.length ≤ 7000000000000) (u : Value) (hu : u.oneCell' = true) :
    ∃ g cap w1, (Builtin.append_ #[28, 28] 28 #[v4, .slice (some ⟨w.heap.size, 0, none⟩) 1 1]).run Try.prog (w.alloc (.cells #[u] 22)) = .ok (.slice (some ⟨g, 0, none⟩) (nm.length + 1) cap) w1 ∧ w1.cell? ⟨p, 4, none⟩ = some v4 ∧ w1.frozen? ⟨p, 4, none⟩ = false ∧ ∃ lab', Gro lab lab' w (w1.setCell ⟨p, 4, none⟩ (.slice (some ⟨g, 0, none⟩) (nm.length + 1) cap)) (fun y => y = 15 ∨ y = 17) ∧ Bq (w1.setCell ⟨p, 4, none⟩ (.slice (some ⟨g, 0, none⟩) (nm.length + 1) cap)) lab' p v0 v1 v2 v3 (.slice (some ⟨g, 0, none⟩) (nm.length + 1) cap) v5 nm xs0 xs1 xs2 xs3 [u] := by
  obtain ⟨g, cap, w1, hrun, lab', G, hl⟩ := h.l4.push hz (fun i e => by have := yB_ge i; omega) (by rw [reps_len]; exact hN) u hu
  simp only [reps_len, List.length_nil, Nat.add_zero, List.nil_append] at hrun hl
  have hbx : w1.heap[p]? = some (.cells (bkC v0 v1 v2 v3 v4 v5) 58 (0, 0)) := (G.block h.lt h.bp (fun e => by omega)).trans h.box
  have hlp := G.tag h.lt h.bp
  have G2 : Gro lab' lab' w1 (w1.setCell ⟨p, 4, none⟩ (.slice (some ⟨g, 0, none⟩) (nm.length + 1) cap)) (fun y => y = 17) := Gro.plain G.lz (Keeps.setCell (F := fun k => k = p) w1 (p := ⟨p, 4, none⟩) rfl _) (fun k _ e => by rw [e]; exact hlp)
  refine ⟨g, cap, w1, hrun, cell_of_block hbx rfl, frozen_of_block hbx _, lab', G.join G2 (fun y h => .inl h) (fun y h => .inr h), ⟨(heap_setCell_same _ _ 4 _ _ _ hbx).trans rfl, hlp, (h.l0.gro G (fun e => by omega) (fun i _ e => by have := yB_ge i; omega)).gro G2 (fun e => by omega) (fun i _ e => by have := yB_ge i; omega), (h.l1.gro G (fun e => by omega) (fun i _ e => by have := yB_ge i; omega)).gro G2 (fun e => by omega) (fun i _ e => by have := yB_ge i; omega), (h.l2.gro G (fun e => by omega) (fun i _ e => by have := yB_ge i; omega)).gro G2 (fun e => by omega) (fun i _ e => by have := yB_ge i; omega), (h.l3.gro G (fun e => by omega) (fun i _ e => by have := yB_ge i; omega)).gro G2 (fun e => by omega) (fun i _ e => by have := yB_ge i; omega), ?_, (h.ms.gro G (fun e => by omega)).gro G2 (fun e => by omega)⟩⟩
  exact hl.gro G2 (fun e => by omega) (fun i _ e => by have := yB_ge i; omega)
end
theorem wrapJ {n m : Nat} {c : Int} (h : (m : Int) = (n : Int) + c) (hm : m ≤ 1000000000) : IntKind.i64.wrap ((n : Int) + c) = (m : Int) ∧ wrap64 ((n : Int) + c) = (m : Int) := by
  rw [← h]
  refine ⟨?_, ?_⟩
  · rw [IntKind.wrap_i64]
    all_goals omega
  · unfold wrap64
    omega
/-- A list of the book, later. -/
theorem full_rep {w : World} {a : Option Addr} {m c q o : Nat} {x : Int} {u r : Value} (s : Src w a m (List.replicate m x)) (hm : m ≤ 1000000000) (d : w.cell? ⟨q, o, none⟩ = some u) {g i : Nat} (f : w.cell? ⟨g, i, none⟩ = some r) (w1 : World) (hb : Below w.heap.size w w1) :
    (Calls Try.prog 74 #[.slice a m c, .int .u8 x, .int .i64 (m : Int)] w1 fun e w' => e = .returned (.bool true) ∧ Below w1.heap.size w1 w') ∧ w1.cell? ⟨q, o, none⟩ = some u ∧ w1.cell? ⟨g, i, none⟩ = some r :=
  ⟨full_any a m c x w1 (by omega) (s.later hb), cell_later hb d, cell_later hb f⟩
end Go.Proofs.Ytnolpafdkaloeaa
end

section
namespace Go.Proofs.Ytnolpafdkaloeaa
open Go.RowKit Go.Maps

set_option maxRecDepth 20000 in
set_option maxHeartbeats 8000000 in
/-- A book is whole. -/
theorem whole_any {w : World} {lab : Nat → Nat} {p : Nat} {v0 v1 v2 v3 v4 v5 : Value} {nm : List (Nat × Int)} (h : Bk w lab p v0 v1 v2 v3 v4 v5 nm) (hz : LZ lab w) (hm : ∀ q ∈ nm, q.1 ≤ 100000000) (hN : nm.length ≤ 7000000000000) :
    Calls Try.prog 31 #[.pointer (some ⟨p, 0, none⟩)] w fun e w' => e = .returned (.bool true) ∧ Below w.heap.size w w' := by
  have H := Hid.mk (And.intro h hz)
  obtain ⟨la, lc, hlf⟩ := h.l0.form
  rw [reps_len] at hlf
  have hlf' := Hid.mk hlf
  clear h hz hlf
  go_enter Try.func31, Try.ntmps31
  go_wp2
  go_loopw [3] (fun i wr => ∃ k : Nat, k ≤ nm.length ∧ i = .int .i64 k ∧ Below w.heap.size w wr) (fun i _ => nm.length - (intOf i).toNat)
  case atStart => exact ⟨0, Nat.zero_le _, rfl, Below.refl _ _⟩
  case round =>
    obtain ⟨k, hk, rfl, hb⟩ := hrel
    have HB := Hid.mk hb
    have hbk := H.out.1.later H.out.2 hb
    by_cases hlt : k < nm.length
    · obtain ⟨n, hn⟩ : ∃ n, n = (nm[k]).1 := ⟨_, rfl⟩
      obtain ⟨x, hx⟩ : ∃ x, x = (nm[k]).2 := ⟨_, rfl⟩
      have hnb : n ≤ 100000000 := by rw [hn]; exact hm _ (List.getElem_mem hlt)
      obtain ⟨g0, c0, a0, b0, n0, hn0, e0, f0, s0⟩ := hbk.l0.rep hlt
      obtain ⟨g1, c1, a1, b1, n1, hn1, e1, f1, s1⟩ := hbk.l1.rep hlt
      obtain ⟨g2, c2, a2, b2, n2, hn2, e2, f2, s2⟩ := hbk.l2.rep hlt
      obtain ⟨g3, c3, a3, b3, n3, hn3, e3, f3, s3⟩ := hbk.l3.rep hlt
      obtain ⟨g4, c4, a4, b4, n4, hn4, e4, f4, s4⟩ := hbk.l4.rep hlt
      obtain ⟨g5, c5, e5, f5⟩ := hbk.mark hlt
      rw [← hn] at hn0 hn1 hn2 hn3 hn4
      obtain rfl : n0 = n := by omega
      have m1 : n1 ≤ 1000000000 := by omega
      have m2 : n2 ≤ 1000000000 := by omega
      have m3 : n3 ≤ 1000000000 := by omega
      have m4 : n4 ≤ 1000000000 := by omega
      have m0 : n0 ≤ 1000000000 := by omega
      rw [← hx] at s0 s1 s2 s3 s4 f5
      have hbox := hbk.box
      rw [e0, e1, e2, e3, e4, e5] at hbox
      obtain ⟨N, hNN⟩ : ∃ N, N = nm.length := ⟨_, rfl⟩
      rw [← hNN] at hbox hlt
      have d0 : wr.cell? ⟨p, 0, none⟩ = some (.slice (some ⟨g0, 0, none⟩) N c0) := cell_of_block hbox (j := 0) rfl
      have d1 : wr.cell? ⟨p, 1, none⟩ = some (.slice (some ⟨g1, 0, none⟩) N c1) := cell_of_block hbox (j := 1) rfl
      have d2 : wr.cell? ⟨p, 2, none⟩ = some (.slice (some ⟨g2, 0, none⟩) N c2) := cell_of_block hbox (j := 2) rfl
      have d3 : wr.cell? ⟨p, 3, none⟩ = some (.slice (some ⟨g3, 0, none⟩) N c3) := cell_of_block hbox (j := 3) rfl
      have d4 : wr.cell? ⟨p, 4, none⟩ = some (.slice (some ⟨g4, 0, none⟩) N c4) := cell_of_block hbox (j := 4) rfl
      have d5 : wr.cell? ⟨p, 5, none⟩ = some (.slice (some ⟨g5, 0, none⟩) N c5) := cell_of_block hbox (j := 5) rfl
      have F0 := (full_rep (c := b0) s0 m0 d0 f0 wr (Below.refl _ wr)).1
      have F1 := Hid.mk (full_rep (c := b1) s1 m1 d1 f1)
      have F2 := Hid.mk (full_rep (c := b2) s2 m2 d2 f2)
      have F3 := Hid.mk (full_rep (c := b3) s3 m3 d3 f3)
      have F4 := Hid.mk (full_rep (c := b4) s4 m4 d4 f4)
      obtain ⟨xa, ya⟩ := wrapJ (n := n0) (m := n1) (c := 1) (by omega) m1
      obtain ⟨xb, yb⟩ := wrapJ (n := n0) (m := n2) (c := 2) (by omega) m2
      obtain ⟨xc, yc⟩ := wrapJ (n := n0) (m := n3) (c := 3) (by omega) m3
      obtain ⟨xd, yd⟩ := wrapJ (n := n0) (m := n4) (c := 96) (by omega) m4
      have hlt' : (k : Int) < (N : Int) := by omega
      have hk0 : (0 : Int) ≤ (k : Int) := by omega
      have hkk : k + 1 < 9223372036854775807 := by omega
      have HN := Hid.mk hNN
      clear hb hbk hbox s0 s1 s2 s3 s4 e0 e1 e2 e3 e4 e5 f1 f2 f3 f4 d1 d2 d3 d4 hn hx hn0 hn1 hn2 hn3 hn4 m0 m1 m2 m3 m4 hnb hNN hlf' hm hN
      go_wp2_with fail
      refine F0.mono ?_
      rintro e w1 ⟨rfl, hb1⟩
      obtain ⟨G1, d1, f1⟩ := F1.out w1 hb1
      have HB1 := Hid.mk hb1
      clear F0 F1 hb1 d0 f0 d5 f5
      go_wp2_with fail
      refine G1.mono ?_
      rintro e w2 ⟨rfl, hb2⟩
      have HB2 := Hid.mk (HB1.out.trans (hb2.mono HB1.out.size))
      obtain ⟨G2, d2, f2⟩ := F2.out w2 HB2.out
      clear G1 F2 hb2 d1 f1 HB1
      go_wp2_with fail
      refine G2.mono ?_
      rintro e w3 ⟨rfl, hb3⟩
      have HB3 := Hid.mk (HB2.out.trans (hb3.mono HB2.out.size))
      obtain ⟨G3, d3, f3⟩ := F3.out w3 HB3.out
      clear G2 F3 hb3 d2 f2 HB2
      go_wp2_with fail
      refine G3.mono ?_
      rintro e w4 ⟨rfl, hb4⟩
      have HB4 := Hid.mk (HB3.out.trans (hb4.mono HB3.out.size))
      obtain ⟨G4, d4, f4⟩ := F4.out w4 HB4.out
      clear G3 F4 hb4 d3 f3 HB3
      go_wp2_with fail
      refine G4.mono ?_
      rintro e w5 ⟨rfl, hb5⟩
      have HB5 := Hid.mk (HB4.out.trans (hb5.mono HB4.out.size))
      clear G4 hb5 d4 f4 HB4
      go_wp2
      go_roundw
      case rel => exact ⟨k + 1, by have := HN.out; omega, by go_num, HB.out.trans (HB5.out.mono HB.out.size)⟩
      case measure => have := HN.out; simp [intOf]; omega
    · have hlt' : ¬ (k : Int) < (nm.length : Int) := by omega
      have hbox := hbk.box
      rw [hlf'.out] at hbox
      have d0 := cell_of_block hbox (j := 0) rfl
      clear hb hbk hbox hm hN
      go_wp2
      go_ret
      exact ⟨rfl, HB.out⟩
end Go.Proofs.Ytnolpafdkaloeaa
end

section
namespace Go.Proofs.Ytnolpafdkaloeaa
open Go.RowKit Go.Maps

/-- Where a mark stood in y's blocks, it stands. -/
def Stay (x : Int) (y : Nat) (L L' : Nat → Nat) (w w' : World) : Prop := ∀ k o, L k = y → w.cell? ⟨k, o, none⟩ = some (.int .u8 x) → L' k = y ∧ w'.cell? ⟨k, o, none⟩ = some (.int .u8 x)
/-- The first n bytes of a block of y's are the mark. -/
def Xs (x : Int) (y : Nat) (L : Nat → Nat) (w : World) (g n : Nat) : Prop := ∀ o, o < n → L g = y ∧ w.cell? ⟨g, o, none⟩ = some (.int .u8 x)

section
variable {x : Int} {y n : Nat} {L L' L2 lab lab' : Nat → Nat} {w w' w2 : World} {X : Nat → Prop}
theorem Stay.refl (x : Int) (y : Nat) (L : Nat → Nat) (w : World) : Stay x y L L w w := fun _ _ h1 h2 => ⟨h1, h2⟩
theorem Stay.trans (h : Stay x y L L' w w') (h2 : Stay x y L' L2 w' w2) : Stay x y L L2 w w2 := fun k o h3 h4 => h2 k o (h k o h3 h4).1 (h k o h3 h4).2
theorem Stay.gro (g : Gro L L' w w' X) (hX : ¬ X y) : Stay x y L L' w w' := fun k o h1 h2 => by
  have hlt := World.block_lt_of_cell? _ _ h2
  exact ⟨g.tag hlt h1, (World.cell?_of_block (w := w) (a := ⟨k, o, none⟩) (g.block hlt h1 hX)).trans h2⟩
theorem Xs.stay {g : Nat} (h : Xs x y L w g n) (s : Stay x y L L' w w') : Xs x y L' w' g n := fun o ho => s g o (h o ho).1 (h o ho).2
theorem Xs.of {g c : Nat} (h : OR w L y 5 (.slice (some ⟨g, 0, none⟩) n c) n (bs (List.replicate n x))) : Xs x y L w g n := fun o ho => by
  obtain ⟨g2, c2, e, hr, hl, _⟩ := h.row (by omega)
  injection e with e1 e2 e3
  injection e1 with e4
  injection e4 with e5
  subst e5
  exact ⟨hl, hr.cell (by simp [bs, ho])⟩
theorem Xs.sl {g : Nat} (h : Xs x y L w g n) : SL w L y (some ⟨g, 0, none⟩) n (List.replicate n x) := by
  refine ⟨⟨by simp, (fun e => by cases e), fun z hz i hi => ?_⟩, fun z hz hp => ?_⟩
  · cases hz
    rw [addr_add, Nat.zero_add, (h i hi).2]
    simp [List.getD, hi]
  · cases hz
    exact (h 0 hp).1
theorem Gro.drew (hz : LZ lab w) (X : Nat → Prop) : Gro lab lab w w.drew X := Gro.plain hz (Keeps.drew (fun _ => False) w) (fun _ _ h => h.elim)
theorem Gro.boxed (hz : LZ lab w) (o : Obj) (X : Nat → Prop) : Gro lab lab w (w.alloc o) X := Gro.below hz (below_box w o) X
theorem yB_ne {i j : Nat} (h : i < j) : yB i ≠ yB j := by show 40 + 2 * i ≠ 40 + 2 * j; omega
end

section
variable {w : World} {lab : Nat → Nat} {p n : Nat} {v v0 v1 v2 v3 v4 v5 : Value} {nm : List (Nat × Int)} {xs0 xs1 xs2 xs3 xs4 : List Value} {l : List Int}
/-- The list with bytes behind it joins list 1. -/
theorem Bq.note1 (h : Bq w lab p v0 v1 v2 v3 v4 v5 nm xs0 [] xs2 xs3 xs4) (hz : LZ lab w) (hN : nm.length ≤ 7000000000000) (ho : OR w lab (yB nm.length) 5 v n (bs l)) (ad : Addr) (m c : Nat) (nw : List Int) (hm : nw.length = m) (hnw : ∀ j u, (bs nw)[j]? = some u → w.cell? (ad.add j) = some u) (h0 : 0 < m) (hb : n + m ≤ 1000000000) :
    ∃ g1 c1 F g2 c2 w2, (Builtin.append_ #[22, 22] 22 #[v, .slice (some ad) m c]).run Try.prog w = .ok (.slice (some ⟨g1, 0, none⟩) (n + m) c1) F ∧ F.cell? ⟨p, 1, none⟩ = some v1 ∧ (F.alloc (.cells #[.slice (some ⟨g1, 0, none⟩) (n + m) c1] 22)).cell? ⟨p, 1, none⟩ = some v1 ∧ (Builtin.append_ #[28, 28] 28 #[v1, .slice (some ⟨F.heap.size, 0, none⟩) 1 1]).run Try.prog (F.alloc (.cells #[.slice (some ⟨g1, 0, none⟩) (n + m) c1] 22)) = .ok (.slice (some ⟨g2, 0, none⟩) (nm.length + 1) c2) w2 ∧ w2.cell? ⟨p, 1, none⟩ = some v1 ∧ w2.frozen? ⟨p, 1, none⟩ = false ∧
      ∃ lab', Gro lab lab' w (w2.setCell ⟨p, 1, none⟩ (.slice (some ⟨g2, 0, none⟩) (nm.length + 1) c2)) (fun y => y = yB nm.length ∨ y = 12 ∨ y = 17) ∧ Bq (w2.setCell ⟨p, 1, none⟩ (.slice (some ⟨g2, 0, none⟩) (nm.length + 1) c2)) lab' p v0 (.slice (some ⟨g2, 0, none⟩) (nm.length + 1) c2) v2 v3 v4 v5 nm xs0 [.slice (some ⟨g1, 0, none⟩) (n + m) c1] xs2 xs3 xs4 ∧ OR (w2.setCell ⟨p, 1, none⟩ (.slice (some ⟨g2, 0, none⟩) (nm.length + 1) c2)) lab' (yB nm.length) 5 (.slice (some ⟨g1, 0, none⟩) (n + m) c1) (n + m) (bs (l ++ nw)) ∧ OR (w2.setCell ⟨p, 1, none⟩ (.slice (some ⟨g2, 0, none⟩) (nm.length + 1) c2)) lab' (yB nm.length) 5 v n (bs l) ∧ ∀ x, (∀ z ∈ nw, z = x) → Stay x (yB nm.length) lab lab' w (w2.setCell ⟨p, 1, none⟩ (.slice (some ⟨g2, 0, none⟩) (nm.length + 1) c2)) := by
  obtain ⟨g1, c1, F, hrun, lab1, G1, o1, o2⟩ := ho.app hz ad m c nw hm hnw h0 (by omega)
  have h1 := h.gro G1 (fun y hy e => by have := yB_ge nm.length; omega) (fun i hi e => yB_ne hi e)
  obtain ⟨g2, c2, w2, hrun2, hc, hf, lab2, G2, h2⟩ := h1.push1 G1.lz hN (.slice (some ⟨g1, 0, none⟩) (n + m) c1) rfl
  have hx : ¬ ((yB nm.length) = 12 ∨ (yB nm.length) = 17) := by have := yB_ge nm.length; omega
  have d1 : F.cell? ⟨p, 1, none⟩ = some v1 := cell_of_block h1.box rfl
  refine ⟨g1, c1, F, g2, c2, w2, hrun, d1, cell_later (below_box F _) d1, hrun2, hc, hf, lab2, G1.join G2 (fun y h => .inl h) (fun y h => .inr h), h2, o1.gro G2 hx, o2.gro G2 hx, fun x hxx => ?_⟩
  refine Stay.trans (L' := lab1) (w' := F) (fun k o hk hq => ⟨G1.tag (World.block_lt_of_cell? _ _ hq) hk, ho.stay ad m c nw hm hnw h0 hb hrun hxx hq⟩) (Stay.gro G2 hx)
/-- The list with bytes behind it joins list 2. -/
theorem Bq.note2 (h : Bq w lab p v0 v1 v2 v3 v4 v5 nm xs0 xs1 [] xs3 xs4) (hz : LZ lab w) (hN : nm.length ≤ 7000000000000) (ho : OR w lab (yB nm.length) 5 v n (bs l)) (ad : Addr) (m c : Nat) (nw : List Int) (hm : nw.length = m) (hnw : ∀ j u, (bs nw)[j]? = some u → w.cell? (ad.add j) = some u) (h0 : 0 < m) (hb : n + m ≤ 1000000000) :
    ∃ g1 c1 F g2 c2 w2, (Builtin.append_ #[22, 22] 22 #[v, .slice (some ad) m c]).run Try.prog w = .ok (.slice (some ⟨g1, 0, none⟩) (n + m) c1) F ∧ F.cell? ⟨p, 2, none⟩ = some v2 ∧ (F.alloc (.cells #[.slice (some ⟨g1, 0, none⟩) (n + m) c1] 22)).cell? ⟨p, 2, none⟩ = some v2 ∧ (Builtin.append_ #[28, 28] 28 #[v2, .slice (some ⟨F.heap.size, 0, none⟩) 1 1]).run Try.prog (F.alloc (.cells #[.slice (some ⟨g1, 0, none⟩) (n + m) c1] 22)) = .ok (.slice (some ⟨g2, 0, none⟩) (nm.length + 1) c2) w2 ∧ w2.cell? ⟨p, 2, none⟩ = some v2 ∧ w2.frozen? ⟨p, 2, none⟩ = false ∧
      ∃ lab', Gro lab lab' w (w2.setCell ⟨p, 2, none⟩ (.slice (some ⟨g2, 0, none⟩) (nm.length + 1) c2)) (fun y => y = yB nm.length ∨ y = 13 ∨ y = 17) ∧ Bq (w2.setCell ⟨p, 2, none⟩ (.slice (some ⟨g2, 0, none⟩) (nm.length + 1) c2)) lab' p v0 v1 (.slice (some ⟨g2, 0, none⟩) (nm.length + 1) c2) v3 v4 v5 nm xs0 xs1 [.slice (some ⟨g1, 0, none⟩) (n + m) c1] xs3 xs4 ∧ OR (w2.setCell ⟨p, 2, none⟩ (.slice (some ⟨g2, 0, none⟩) (nm.length + 1) c2)) lab' (yB nm.length) 5 (.slice (some ⟨g1, 0, none⟩) (n + m) c1) (n + m) (bs (l ++ nw)) ∧ OR (w2.setCell ⟨p, 2, none⟩ (.slice (some ⟨g2, 0, none⟩) (nm.length + 1) c2)) lab' (yB nm.length) 5 v n (bs l) ∧ ∀ x, (∀ z ∈ nw, z = x) → Stay x (yB nm.length) lab lab' w (w2.setCell ⟨p, 2, none⟩ (.slice (some ⟨g2, 0, none⟩) (nm.length + 1) c2)) := by
  obtain ⟨g1, c1, F, hrun, lab1, G1, o1, o2⟩ := ho.app hz ad m c nw hm hnw h0 (by omega)
  have h1 := h.gro G1 (fun y hy e => by have := yB_ge nm.length; omega) (fun i hi e => yB_ne hi e)
  obtain ⟨g2, c2, w2, hrun2, hc, hf, lab2, G2, h2⟩ := h1.push2 G1.lz hN (.slice (some ⟨g1, 0, none⟩) (n + m) c1) rfl
  have hx : ¬ ((yB nm.length) = 13 ∨ (yB nm.length) = 17) := by have := yB_ge nm.length; omega
  have d1 : F.cell? ⟨p, 2, none⟩ = some v2 := cell_of_block h1.box rfl
  refine ⟨g1, c1, F, g2, c2, w2, hrun, d1, cell_later (below_box F _) d1, hrun2, hc, hf, lab2, G1.join G2 (fun y h => .inl h) (fun y h => .inr h), h2, o1.gro G2 hx, o2.gro G2 hx, fun x hxx => ?_⟩
  refine Stay.trans (L' := lab1) (w' := F) (fun k o hk hq => ⟨G1.tag (World.block_lt_of_cell? _ _ hq) hk, ho.stay ad m c nw hm hnw h0 hb hrun hxx hq⟩) (Stay.gro G2 hx)
/-- The list with bytes behind it joins list 3. -/
theorem Bq.note3 (h : Bq w lab p v0 v1 v2 v3 v4 v5 nm xs0 xs1 xs2 [] xs4) (hz : LZ lab w) (hN : nm.length ≤ 7000000000000) (ho : OR w lab (yB nm.length) 5 v n (bs l)) (ad : Addr) (m c : Nat) (nw : List Int) (hm : nw.length = m) (hnw : ∀ j u, (bs nw)[j]? = some u → w.cell? (ad.add j) = some u) (h0 : 0 < m) (hb : n + m ≤ 1000000000) :
    ∃ g1 c1 F g2 c2 w2, (Builtin.append_ #[22, 22] 22 #[v, .slice (some ad) m c]).run Try.prog w = .ok (.slice (some ⟨g1, 0, none⟩) (n + m) c1) F ∧ F.cell? ⟨p, 3, none⟩ = some v3 ∧ (F.alloc (.cells #[.slice (some ⟨g1, 0, none⟩) (n + m) c1] 22)).cell? ⟨p, 3, none⟩ = some v3 ∧ (Builtin.append_ #[28, 28] 28 #[v3, .slice (some ⟨F.heap.size, 0, none⟩) 1 1]).run Try.prog (F.alloc (.cells #[.slice (some ⟨g1, 0, none⟩) (n + m) c1] 22)) = .ok (.slice (some ⟨g2, 0, none⟩) (nm.length + 1) c2) w2 ∧ w2.cell? ⟨p, 3, none⟩ = some v3 ∧ w2.frozen? ⟨p, 3, none⟩ = false ∧
      ∃ lab', Gro lab lab' w (w2.setCell ⟨p, 3, none⟩ (.slice (some ⟨g2, 0, none⟩) (nm.length + 1) c2)) (fun y => y = yB nm.length ∨ y = 14 ∨ y = 17) ∧ Bq (w2.setCell ⟨p, 3, none⟩ (.slice (some ⟨g2, 0, none⟩) (nm.length + 1) c2)) lab' p v0 v1 v2 (.slice (some ⟨g2, 0, none⟩) (nm.length + 1) c2) v4 v5 nm xs0 xs1 xs2 [.slice (some ⟨g1, 0, none⟩) (n + m) c1] xs4 ∧ OR (w2.setCell ⟨p, 3, none⟩ (.slice (some ⟨g2, 0, none⟩) (nm.length + 1) c2)) lab' (yB nm.length) 5 (.slice (some ⟨g1, 0, none⟩) (n + m) c1) (n + m) (bs (l ++ nw)) ∧ OR (w2.setCell ⟨p, 3, none⟩ (.slice (some ⟨g2, 0, none⟩) (nm.length + 1) c2)) lab' (yB nm.length) 5 v n (bs l) ∧ ∀ x, (∀ z ∈ nw, z = x) → Stay x (yB nm.length) lab lab' w (w2.setCell ⟨p, 3, none⟩ (.slice (some ⟨g2, 0, none⟩) (nm.length + 1) c2)) := by
  obtain ⟨g1, c1, F, hrun, lab1, G1, o1, o2⟩ := ho.app hz ad m c nw hm hnw h0 (by omega)
  have h1 := h.gro G1 (fun y hy e => by have := yB_ge nm.length; omega) (fun i hi e => yB_ne hi e)
  obtain ⟨g2, c2, w2, hrun2, hc, hf, lab2, G2, h2⟩ := h1.push3 G1.lz hN (.slice (some ⟨g1, 0, none⟩) (n + m) c1) rfl
  have hx : ¬ ((yB nm.length) = 14 ∨ (yB nm.length) = 17) := by have := yB_ge nm.length; omega
  have d1 : F.cell? ⟨p, 3, none⟩ = some v3 := cell_of_block h1.box rfl
  refine ⟨g1, c1, F, g2, c2, w2, hrun, d1, cell_later (below_box F _) d1, hrun2, hc, hf, lab2, G1.join G2 (fun y h => .inl h) (fun y h => .inr h), h2, o1.gro G2 hx, o2.gro G2 hx, fun x hxx => ?_⟩
  refine Stay.trans (L' := lab1) (w' := F) (fun k o hk hq => ⟨G1.tag (World.block_lt_of_cell? _ _ hq) hk, ho.stay ad m c nw hm hnw h0 hb hrun hxx hq⟩) (Stay.gro G2 hx)
/-- The list with bytes behind it joins list 4. -/
theorem Bq.note4 (h : Bq w lab p v0 v1 v2 v3 v4 v5 nm xs0 xs1 xs2 xs3 []) (hz : LZ lab w) (hN : nm.length ≤ 7000000000000) (ho : OR w lab (yB nm.length) 5 v n (bs l)) (ad : Addr) (m c : Nat) (nw : List Int) (hm : nw.length = m) (hnw : ∀ j u, (bs nw)[j]? = some u → w.cell? (ad.add j) = some u) (h0 : 0 < m) (hb : n + m ≤ 1000000000) :
    ∃ g1 c1 F g2 c2 w2, (Builtin.append_ #[22, 22] 22 #[v, .slice (some ad) m c]).run Try.prog w = .ok (.slice (some ⟨g1, 0, none⟩) (n + m) c1) F ∧ F.cell? ⟨p, 4, none⟩ = some v4 ∧ (F.alloc (.cells #[.slice (some ⟨g1, 0, none⟩) (n + m) c1] 22)).cell? ⟨p, 4, none⟩ = some v4 ∧ (Builtin.append_ #[28, 28] 28 #[v4, .slice (some ⟨F.heap.size, 0, none⟩) 1 1]).run Try.prog (F.alloc (.cells #[.slice (some ⟨g1, 0, none⟩) (n + m) c1] 22)) = .ok (.slice (some ⟨g2, 0, none⟩) (nm.length + 1) c2) w2 ∧ w2.cell? ⟨p, 4, none⟩ = some v4 ∧ w2.frozen? ⟨p, 4, none⟩ = false ∧
      ∃ lab', Gro lab lab' w (w2.setCell ⟨p, 4, none⟩ (.slice (some ⟨g2, 0, none⟩) (nm.length + 1) c2)) (fun y => y = yB nm.length ∨ y = 15 ∨ y = 17) ∧ Bq (w2.setCell ⟨p, 4, none⟩ (.slice (some ⟨g2, 0, none⟩) (nm.length + 1) c2)) lab' p v0 v1 v2 v3 (.slice (some ⟨g2, 0, none⟩) (nm.length + 1) c2) v5 nm xs0 xs1 xs2 xs3 [.slice (some ⟨g1, 0, none⟩) (n + m) c1] ∧ OR (w2.setCell ⟨p, 4, none⟩ (.slice (some ⟨g2, 0, none⟩) (nm.length + 1) c2)) lab' (yB nm.length) 5 (.slice (some ⟨g1, 0, none⟩) (n + m) c1) (n + m) (bs (l ++ nw)) ∧ OR (w2.setCell ⟨p, 4, none⟩ (.slice (some ⟨g2, 0, none⟩) (nm.length + 1) c2)) lab' (yB nm.length) 5 v n (bs l) ∧ ∀ x, (∀ z ∈ nw, z = x) → Stay x (yB nm.length) lab lab' w (w2.setCell ⟨p, 4, none⟩ (.slice (some ⟨g2, 0, none⟩) (nm.length + 1) c2)) := by
  obtain ⟨g1, c1, F, hrun, lab1, G1, o1, o2⟩ := ho.app hz ad m c nw hm hnw h0 (by omega)
  have h1 := h.gro G1 (fun y hy e => by have := yB_ge nm.length; omega) (fun i hi e => yB_ne hi e)
  obtain ⟨g2, c2, w2, hrun2, hc, hf, lab2, G2, h2⟩ := h1.push4 G1.lz hN (.slice (some ⟨g1, 0, none⟩) (n + m) c1) rfl
  have hx : ¬ ((yB nm.length) = 15 ∨ (yB nm.length) = 17) := by have := yB_ge nm.length; omega
  have d1 : F.cell? ⟨p, 4, none⟩ = some v4 := cell_of_block h1.box rfl
  refine ⟨g1, c1, F, g2, c2, w2, hrun, d1, cell_later (below_box F _) d1, hrun2, hc, hf, lab2, G1.join G2 (fun y h => .inl h) (fun y h => .inr h), h2, o1.gro G2 hx, o2.gro G2 hx, fun x hxx => ?_⟩
  refine Stay.trans (L' := lab1) (w' := F) (fun k o hk hq => ⟨G1.tag (World.block_lt_of_cell? _ _ hq) hk, ho.stay ad m c nw hm hnw h0 hb hrun hxx hq⟩) (Stay.gro G2 hx)
/-- The mark joins the marks. -/
theorem Bq.marked (h : Bq w lab p v0 v1 v2 v3 v4 v5 nm xs0 xs1 xs2 xs3 xs4) (hz : LZ lab w) (hN : nm.length ≤ 140000000000000) (x : Int) :
    ∃ g cap w1, (Builtin.append_ #[22, 22] 22 #[v5, .slice (some ⟨w.heap.size, 0, none⟩) 1 1]).run Try.prog (w.alloc (.cells #[.int .u8 x] 5)) = .ok (.slice (some ⟨g, 0, none⟩) (nm.length + 1) cap) w1 ∧ w1.cell? ⟨p, 5, none⟩ = some v5 ∧ w1.frozen? ⟨p, 5, none⟩ = false ∧ ∃ lab', Gro lab lab' w (w1.setCell ⟨p, 5, none⟩ (.slice (some ⟨g, 0, none⟩) (nm.length + 1) cap)) (fun y => y = 16 ∨ y = 17) ∧
      (w1.setCell ⟨p, 5, none⟩ (.slice (some ⟨g, 0, none⟩) (nm.length + 1) cap)).heap[p]? = some (.cells (bkC v0 v1 v2 v3 v4 (.slice (some ⟨g, 0, none⟩) (nm.length + 1) cap)) 58 (0, 0)) ∧ OR (w1.setCell ⟨p, 5, none⟩ (.slice (some ⟨g, 0, none⟩) (nm.length + 1) cap)) lab' 16 5 (.slice (some ⟨g, 0, none⟩) (nm.length + 1) cap) (nm.length + 1) (bs (nm.map (·.2) ++ [x])) := by
  obtain ⟨i0, hi, hz0, hz1, hz2⟩ := info_parts infoU8
  have hown := (h.ms.gro (Gro.boxed hz (.cells #[.int .u8 x] 5) (fun _ => False)) (fun e => e)).1
  obtain ⟨g, cap, w1, hr, hw, hg, hat, hlt⟩ := run_append_lies (P := Try.prog) (w.alloc (.cells #[.int .u8 x] 5)) 22 22 0 5 i0 (.int .u8 0) 1 1 Try.underlying22 hi hz0 hz1 hz2 rfl (by decide) v5 nm.length _ hown ⟨w.heap.size, 0, none⟩ 1 1 [.int .u8 x] rfl (World.news_of_block (cs := #[.int .u8 x]) (t := 5) (fr := (0, 0)) (heap_alloc_new w _)) (by simp [Value.oneCell']) (by omega) (by unfold maxLen; omega) (by omega) (Nat.zero_le _) _ rfl
  have hbx := below_box w (.cells #[.int .u8 x] 5)
  have hk : Keeps (fun k => v5.ownBlock = some k) w w1 := ⟨hg.os.trans hbx.os, hg.tape.trans hbx.tape, hg.output.trans hbx.output, Nat.le_trans hbx.size hg.size, fun k hk hq => (hg.block k (Nat.lt_of_lt_of_le hk hbx.size) (fun e => hq e.symm)).trans (hbx.block k hk)⟩
  have G := Gro.keeps hz hk 16 (fun k _ hf => h.ms.2 k hf)
  have hb1 : w1.heap[p]? = some (.cells (bkC v0 v1 v2 v3 v4 v5) 58 (0, 0)) := (G.block h.lt h.bp (fun e => by omega)).trans h.box
  have hlp := G.tag h.lt h.bp
  have G2 : Gro (relab lab w.heap.size w1.heap.size 16) (relab lab w.heap.size w1.heap.size 16) w1 (w1.setCell ⟨p, 5, none⟩ (.slice (some ⟨g, 0, none⟩) (nm.length + 1) cap)) (fun y => y = 17) := Gro.plain G.lz (Keeps.setCell (F := fun k => k = p) w1 (p := ⟨p, 5, none⟩) rfl _) (fun k _ e => by rw [e]; exact hlp)
  refine ⟨g, cap, w1, hr, cell_of_block hb1 rfl, frozen_of_block hb1 _, _, G.join G2 (fun y h => .inl h) (fun y h => .inr h), (heap_setCell_same _ _ 5 _ _ _ hb1).trans rfl, OR.gro ⟨by simpa [bs] using hw, fun k hk' => ?_⟩ G2 (fun e => by omega)⟩
  have e : k = g := by simpa [Value.ownBlock] using hk'.symm
  subst e
  rcases hat with e | e
  · exact G.tag (rowLt h.ms.1 e) (h.ms.2 _ e)
  · exact relab_new (by rw [e]; simp) hlt
end
end Go.Proofs.Ytnolpafdkaloeaa
end

section
namespace Go.Proofs.Ytnolpafdkaloeaa
open Go.RowKit Go.Maps

section
variable {P : Program} {ops : Array Oper} {Q : Exit → Act → World → Prop} {md : Region.Mode} {S : World → Prop} {k : Nat}

/-- Whatever order is picked from here on, and S holds behind every operation that is carried out, till number k is. -/
def wpAnyS (P : Program) (md : Region.Mode) (ops : Array Oper) (Q : Exit → Act → World → Prop) (S : World → Prop) (k : Nat) : Nat → Array Bool → Act → World → Prop
  | 0, listed, a, w => Region.ready md ops listed = [] ∧ Q .normal a w
  | fuel + 1, listed, a, w =>
    (Region.ready md ops listed = [] → Q .normal a w) ∧
    ∀ i ∈ Region.ready md ops listed, wpOp P ops Q i (fun a' w' => ((listed.setIfInBounds i true).getD k true = true ∨ S w') ∧ wpAnyS P md ops Q S k fuel (listed.setIfInBounds i true) a' w') a w

theorem wpAny_of_sw : ∀ (fuel : Nat) (listed : Array Bool) (a : Act) (w : World), wpAnyS P md ops Q S k fuel listed a w → wpAny P md ops Q fuel listed a w
  | 0, _, _, _, h => h
  | fuel + 1, _, _, _, h => ⟨h.1, fun i hi => wpOp_mono (fun a' w' h' => wpAny_of_sw fuel _ a' w' h'.2) (h.2 i hi)⟩

/-- Number k waits for number i. -/
def waitsOn (md : Region.Mode) (ops : Array Oper) (k i : Nat) : Bool :=
  match ops[k]? with
  | some o => o.after.any (fun e => Region.binds md e && e.on == i)
  | none => false

theorem waits_not {i : Nat} {ok : Oper} (hw : waitsOn md ops k i = true) (hk : ops[k]? = some ok) (hn : ∀ e ∈ ok.after, Region.binds md e = true → e.on ≠ i) : False := by
  unfold waitsOn at hw
  rw [hk] at hw
  obtain ⟨j, hj, hb⟩ := Array.any_eq_true.1 hw
  rw [Bool.and_eq_true] at hb
  exact hn _ (Array.getElem_mem hj) hb.1 (by simpa using hb.2)

theorem wpAnyS_first {i : Nat} {oi : Oper} {v : Value} {T : World → Prop} (hi : ops[i]? = some oi) (hsel : ∀ (j : Nat) (o : Oper) cs b, ops[j]? = some o → o.op ≠ .select cs b)
    (hQ : ∀ c a w, Q (.panic c) (a.put oi.dst v) w → Q (.panic c) a w) (hik : i ≠ k) (hT : (∀ w, T w) ∨ ((∀ w, S w → T w) ∧ waitsOn md ops k i = true)) :
    ∀ (fuel : Nat) (listed : Array Bool) (a : Act) (w : World),
      (∀ j oj, ops[j]? = some oj → j ≠ i → listed.getD j true = false → (∀ e ∈ oj.after, Region.binds md e = true → e.on ≠ i) → oi.apart ops oj = true) →
      i ∈ Region.ready md ops listed → YieldsIf P ops T oi v a → (listed.getD k true = true ∨ S w) → ((∀ w, T w) ∨ listed.getD k true = false) →
      wpAnyS P md ops Q S k fuel (listed.setIfInBounds i true) (a.put oi.dst v) w → wpAnyS P md ops Q S k (fuel + 1) listed a w := by
  intro fuel
  have tw : ∀ (listed : Array Bool) (w : World), (listed.getD k true = true ∨ S w) → ((∀ w, T w) ∨ listed.getD k true = false) → T w := by
    intro listed w h1 h2
    rcases h2 with h2 | h2
    · exact h2 w
    · rcases hT with h3 | h3
      · exact h3 w
      · rcases h1 with h1 | h1
        · rw [h1] at h2
          cases h2
        · exact h3.1 w h1
  induction fuel with
  | zero =>
    intro listed a w _ hr hy hI hk H
    refine ⟨fun h => (by rw [h] at hr; cases hr), fun j hj => ?_⟩
    by_cases hji : j = i
    · subst hji
      exact hy.wpOp hi (tw listed w hI hk) ⟨by rw [getD_set_ne true hik]; exact hI, H⟩
    · have := ready_mono hj hji
      rw [H.1] at this
      cases this
  | succ fuel ih =>
    intro listed a w hfree hr hy hI hk H
    refine ⟨fun h => (by rw [h] at hr; cases hr), fun j hj => ?_⟩
    by_cases hji : j = i
    · subst hji
      exact hy.wpOp hi (tw listed w hI hk) ⟨by rw [getD_set_ne true hik]; exact hI, H⟩
    · have h1 := H.2 j (ready_mono hj hji)
      obtain ⟨hjun, oj, hoj, hall⟩ := mem_ready.1 hj
      have hnot : ∀ e ∈ oj.after, Region.binds md e = true → e.on ≠ i := fun e he hb heq => by
        have h1 := hall e he hb
        have h0 := (mem_ready.1 hr).1
        rw [heq] at h1
        rcases Nat.lt_or_ge i listed.size with h' | h'
        · simp [h'] at h0 h1; rw [h0] at h1; cases h1
        · simp [Array.getElem?_eq_none h'] at h1
      have h2 := wpOp_putIf hoj (hfree j oj hoj hji hjun hnot) (fun cs b => hsel i oi cs b hi) (fun cs b => hsel j oj cs b hoj) hQ hy h1
      have hfree' : ∀ k ok, ops[k]? = some ok → k ≠ i → (listed.setIfInBounds j true).getD k true = false →
          (∀ e ∈ ok.after, Region.binds md e = true → e.on ≠ i) → oi.apart ops ok = true := fun k ok hk hki hun hno => by
        refine hfree k ok hk hki ?_ hno
        by_cases hjk : j = k
        · subst hjk; exact hjun
        · rw [getD_set_ne true hjk] at hun; exact hun
      have hk' : (∀ w, T w) ∨ (listed.setIfInBounds j true).getD k true = false := by
        rcases hT with h3 | h3
        · exact .inl h3
        · rcases hk with hk | hk
          · exact .inl hk
          · refine .inr ?_
            have hjk : j ≠ k := by
              rintro rfl
              exact waits_not h3.2 hoj hnot
            rw [getD_set_ne true hjk]
            exact hk
      refine wpOp_mono (fun a' w' h3 => ⟨?_, ih (listed.setIfInBounds j true) a' w' hfree' (ready_mono hr (Ne.symm hji)) h3.1 ?_ hk' ?_⟩) h2
      · have := h3.2.1
        rw [Array.setIfInBounds_comm _ _ (Ne.symm hji), getD_set_ne true hik] at this
        exact this
      · have := h3.2.1
        rw [Array.setIfInBounds_comm _ _ (Ne.symm hji), getD_set_ne true hik] at this
        exact this
      · rw [Array.setIfInBounds_comm _ _ hji]
        exact h3.2.2

/-- An operation that yields in whatever world. -/
theorem wpAnyS_pure {i : Nat} {oi : Oper} {v : Value} {fuel : Nat} {listed : Array Bool} {a : Act} {w : World} (hi : ops[i]? = some oi) (hik : i ≠ k)
    (hs : Region.noSelect ops = true) (hf : Region.free md ops listed i = true) (hr : (Region.ready md ops listed).contains i = true)
    (hQ : ∀ c a w, Q (.panic c) (a.put oi.dst v) w → Q (.panic c) a w) (hy : YieldsIf P ops (fun _ => True) oi v a) (hI : listed.getD k true = true ∨ S w)
    (h : wpAnyS P md ops Q S k fuel (listed.setIfInBounds i true) (a.put oi.dst v) w) : wpAnyS P md ops Q S k (fuel + 1) listed a w :=
  wpAnyS_first hi (Region.noSelect_spec hs) hQ hik (.inl (fun _ => trivial)) fuel listed a w (Region.free_spec hi hf) (by simpa using hr) hy hI (.inl (fun _ => trivial)) h
/-- A load of what S tells, for which number k waits. -/
theorem wpAnyS_load {i : Nat} {oi : Oper} {v : Value} {fuel : Nat} {listed : Array Bool} {a : Act} {w : World} (hi : ops[i]? = some oi) (hik : i ≠ k) (hw : waitsOn md ops k i = true)
    (hs : Region.noSelect ops = true) (hf : Region.free md ops listed i = true) (hr : (Region.ready md ops listed).contains i = true)
    (hQ : ∀ c a w, Q (.panic c) (a.put oi.dst v) w → Q (.panic c) a w) (hy : YieldsIf P ops S oi v a) (hk : listed.getD k true = false) (hS : S w)
    (h : wpAnyS P md ops Q S k fuel (listed.setIfInBounds i true) (a.put oi.dst v) w) : wpAnyS P md ops Q S k (fuel + 1) listed a w :=
  wpAnyS_first hi (Region.noSelect_spec hs) hQ hik (.inr ⟨fun _ h => h, hw⟩) fuel listed a w (Region.free_spec hi hf) (by simpa using hr) hy (.inr hS) (.inr hk) h
/-- The only one that may come up. -/
theorem wpAnyS_one {i : Nat} {o : Oper} {fuel : Nat} {listed : Array Bool} {a : Act} {w : World} (hr : Region.ready md ops listed = [i]) (ho : ops[i]? = some o)
    (h : ∀ K' : Act → World → Prop, Shut (∀ a w, ((listed.setIfInBounds i true).getD k true = true ∨ S w) → wpAnyS P md ops Q S k fuel (listed.setIfInBounds i true) a w → K' a w) → if Region.wanted o (yielded ops a.tmps) = true then Oper.wp P o a w K' Q else K' (a.put o.dst undef) w) :
    wpAnyS P md ops Q S k (fuel + 1) listed a w := by
  refine ⟨fun h0 => (by rw [hr] at h0; cases h0), fun j hj => ?_⟩
  rw [hr] at hj
  obtain rfl : j = i := by simpa using hj
  exact wpOp_step ho (fun K' hK => h K' (fun a w hS hW => hK a w ⟨hS, hW⟩))
theorem wpAnyS_done {listed : Array Bool} {a : Act} {w : World} (hr : Region.ready md ops listed = []) (h : Q .normal a w) :
    ∀ fuel, wpAnyS P md ops Q S k fuel listed a w
  | 0 => ⟨hr, h⟩
  | _ + 1 => ⟨fun _ => h, by rw [hr]; simp⟩
theorem wp_region_sw {id : Nat} {a : Act} {w : World} (k : Nat) (S : World → Prop) (hm : P.follows .mixedOrders = true) (hS : S w.drew)
    (h : S w.drew → wpAnyS P .any ops Q S k ops.size (Array.replicate ops.size false) a w.drew) : (Code.region id ops true).wp P Q a w :=
  wp_region_any hm (wpAny_of_sw _ _ _ _ (h hS))
theorem sw_append_run {o : Oper} {a : Act} {w w' : World} {K : Act → World → Prop} (s x : Operand) (t : TypeId) (ho : o.op = .call { callee := .builtin .append, args := #[s, x], argTypes := #[t, t] }) (v u r : Value) (hs : a.eval s = v) (hx : a.eval x = u)
    (hr : (Builtin.append_ #[t, t] o.type #[v, u]).run P w = .ok r w') (h : K (a.put o.dst r) w') : o.wp P a w K Q := by
  unfold Oper.wp execOp
  simp only [ho, resolve, invoke, builtin, Sem.run_bind, Sem.run_pure, Result.andThen_ok, List.map_toArray, List.map_cons, List.map_nil, hs, hx, hr]
  exact h
theorem swList_append_run {o : Oper} {rest : List Oper} {a : Act} {w w' : World} (hg : o.guard = none) (s x : Operand) (t : TypeId) (ho : o.op = .call { callee := .builtin .append, args := #[s, x], argTypes := #[t, t] }) (v u r : Value) (hs : a.eval s = v) (hx : a.eval x = u)
    (hr : (Builtin.append_ #[t, t] o.type #[v, u]).run P w = .ok r w') (h : wpList P ops Q rest (a.put o.dst r) w') : wpList P ops Q (o :: rest) a w :=
  wpList_plain hg fun _ hK => sw_append_run s x t ho v u r hs hx hr (hK _ _ h)
end
end Go.Proofs.Ytnolpafdkaloeaa
end
