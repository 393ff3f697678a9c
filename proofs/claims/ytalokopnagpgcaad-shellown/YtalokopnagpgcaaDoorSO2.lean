import Derived.Test.YtalokopnagpgcaaDoorQA2
namespace Go.Proofs.YtalokopnagpgcaaDoor
open Go.RowKit Go.Maps

/-- The marks of list i. -/
def kpt (i : Nat) : List UInt8 := [107, 101, 112, 116, 32] ++ mkd i
def mor (i : Nat) : List UInt8 := [109, 111, 114, 101, 32] ++ mkd i
/-- List i written full of its mark. -/
def kw (Z : Nat → Nat) (i : Nat) : List (List UInt8) := List.replicate (Z i) (kpt i)
theorem kw_len (Z : Nat → Nat) (i : Nat) : (kw Z i).length = Z i := by simp [kw]
/-- List i with t texts appended. -/
def lw (Z : Nat → Nat) (i t : Nat) : List (List UInt8) := kw Z i ++ List.replicate t (mor i)
theorem lw_len (Z : Nat → Nat) (i t : Nat) : (lw Z i t).length = Z i + t := by simp [lw, kw]
theorem lw_succ (Z : Nat → Nat) (i t : Nat) : lw Z i (t + 1) = lw Z i t ++ [mor i] := by simp [lw, List.replicate_succ']
theorem lw_low {Z : Nat → Nat} {i t j : Nat} (h : j < Z i) : (lw Z i t)[j]? = some (kpt i) := by
  unfold lw kw
  rw [List.getElem?_append_left (by simpa using h)]
  simp [h]
theorem lw_high {Z : Nat → Nat} {i t j : Nat} (h : Z i ≤ j) (h2 : j < Z i + t) : (lw Z i t)[j]? = some (mor i) := by
  unfold lw kw
  rw [List.getElem?_append_right (by simpa using h)]
  simp [List.getElem?_replicate]
  omega
theorem kw_low {Z : Nat → Nat} {i j : Nat} (h : j < Z i) : (kw Z i)[j]? = some (kpt i) := by
  unfold kw
  simp [h]
theorem rep_fill {x : List UInt8} {d : List (List UInt8)} {t : Nat} (ht : t < d.length) : (List.replicate t x ++ d.drop t).set t x = List.replicate (t + 1) x ++ d.drop (t + 1) := by
  rw [List.set_append_right _ _ (by rw [List.length_replicate]; exact Nat.le_refl _), List.length_replicate, Nat.sub_self, List.drop_eq_getElem_cons ht, List.set_cons_zero, List.replicate_succ', List.append_assoc]
  rfl
/-- The first k lists of a row. -/
def mv (f : Nat → List (List UInt8)) (k : Nat) : List (List (List UInt8)) := (List.range k).map f
theorem mv_len (f : Nat → List (List UInt8)) (k : Nat) : (mv f k).length = k := by simp [mv]
theorem mv_succ (f : Nat → List (List UInt8)) (k : Nat) : mv f (k + 1) = mv f k ++ [f k] := by simp [mv, List.range_succ]
theorem mv_get {f : Nat → List (List UInt8)} {k N : Nat} (h : k < (mv f N).length) : (mv f N)[k] = f k := by simp [mv]
theorem mv_split {f : Nat → List (List UInt8)} {k : Nat} : ∀ {N : Nat}, k < N → ∃ B, mv f N = mv f k ++ f k :: B
  | 0, h => by omega
  | N + 1, h => by
    rw [mv_succ]
    by_cases e : k = N
    · subst e
      exact ⟨[], rfl⟩
    · obtain ⟨B, hB⟩ := mv_split (f := f) (k := k) (N := N) (by omega)
      exact ⟨B ++ [f N], by rw [hB]; simp⟩
theorem Told.base {B B' : Nat} {w : World} {v : Value} {l : List (List UInt8)} (h : Told B w v l) (hB : B' ≤ B) : Told B' w v l := by
  obtain ⟨hl, h | ⟨g, cap, cur, rfl, hg, hbk, h1⟩⟩ := h
  · exact ⟨hl, .inl h⟩
  · exact ⟨hl, .inr ⟨g, cap, cur, rfl, by omega, hbk, h1⟩⟩
/-- A new list of texts gets an owner. -/
theorem Told.own {w w' : World} {v : Value} {l : List (List UInt8)} (h : Told w.heap.size w' v l) (hb : Below w.heap.size w w') {lab : Nat → Nat} (hz : LZ lab w) (y : Nat) : ∃ lab', Gro lab lab' w w' (fun x => x = y) ∧ OR w' lab' y 9 v l.length (strs l) := by
  have G := Gro.keeps hz (Keeps.of_below (fun _ => False) hb) y (fun _ _ h => h.elim)
  refine ⟨_, G, h.base (Nat.zero_le _), fun k hk => relab_new (rowLow h hk) (rowLt h hk)⟩
/-- A text of a list with an owner. -/
theorem OR.text {w : World} {lab : Nat → Nat} {y n : Nat} {v : Value} {l : List (List UInt8)} (h : OR w lab y 9 v n (strs l)) {k : Nat} {x : List UInt8} (hk : l[k]? = some x) : ∃ g c, v = .slice (some ⟨g, 0, none⟩) n c ∧ n ≤ c ∧ w.cell? ⟨g, k, none⟩ = some (.string ⟨x.toArray⟩) := by
  have hl : (strs l).length = n := by simpa using h.1.1
  have hkl : k < l.length := (List.getElem?_eq_some_iff.1 hk).1
  have hn : 0 < n := by
    have : (strs l).length = l.length := by simp [strs]
    omega
  obtain ⟨g, c, e, hr, _, hc⟩ := h.row hn
  exact ⟨g, c, e, hc, hr.cell (by simp [strs, hk])⟩
theorem OR.cap {w : World} {lab : Nat → Nat} {y n c : Nat} {e : TypeId} {a : Option Addr} {xs : List Value} (h : OR w lab y e (.slice a n c) n xs) : c ≤ 9223372036854775807 := by
  obtain ⟨_, ⟨h0, _⟩ | ⟨g9, cap9, cur9, h9, _, _, _, h10, _, _⟩⟩ := h.1
  · cases h0
    omega
  · injection h9 with q1 q2 q3
    unfold maxLen at h10
    omega
section
variable {w : World} {lab : Nat → Nat} {yr : Nat} {yb : Nat → Nat} {v : Value} {A B : List (List (List UInt8))} {d : List (List UInt8)}
/-- A text of one of the lists is written: where it lies is known. -/
theorem LO.putW (h : LO w lab yr yb v (A ++ d :: B)) (hz : LZ lab w) (hr : yr ≠ yb A.length) (hne : ∀ i, i ≠ A.length → yb i ≠ yb A.length) {j : Nat} (hj : j < d.length) (x : List UInt8) {gL M cL g c : Nat} (e1 : v = .slice (some ⟨gL, 0, none⟩) M cL) (e2 : w.cell? ⟨gL, A.length, none⟩ = some (.slice (some ⟨g, 0, none⟩) d.length c)) :
    (∃ y0, w.cell? ⟨g, j, none⟩ = some (.string y0)) ∧ w.frozen? ⟨g, j, none⟩ = false ∧ (w.setCell ⟨g, j, none⟩ (.string ⟨x.toArray⟩)).cell? ⟨gL, A.length, none⟩ = some (.slice (some ⟨g, 0, none⟩) d.length c) ∧ Gro lab lab w (w.setCell ⟨g, j, none⟩ (.string ⟨x.toArray⟩)) (fun y => y = yb A.length) ∧ LO (w.setCell ⟨g, j, none⟩ (.string ⟨x.toArray⟩)) lab yr yb v (A ++ d.set j x :: B) := by
  obtain ⟨gL2, cL2, g2, c2, y0, f1, f2, f3, f4, f5, G, K⟩ := h.put hz hr hne hj x
  obtain rfl : gL2 = gL := by rw [e1] at f1; injection f1 with q1 q2 q3; injection q1 with q4; injection q4 with q5; exact q5.symm
  rw [e2] at f2
  obtain ⟨rfl, rfl⟩ : g = g2 ∧ c = c2 := by
    injection f2 with q1
    injection q1 with q2 q3 q4
    injection q2 with q5
    injection q5 with q6
    exact ⟨q6, q4⟩
  refine ⟨⟨y0, f3⟩, f4, ?_, G, K⟩
  obtain ⟨vs, hl0, ho, _⟩ := h
  obtain ⟨gL3, cL3, f6, hrow, hlab, _⟩ := ho.row (by simp; omega)
  have f7 : gL2 = gL3 := by rw [e1] at f6; injection f6 with q1 q2 q3; injection q1 with q4; injection q4 with q5
  subst f7
  have hb : (w.setCell ⟨g, j, none⟩ (.string ⟨x.toArray⟩)).heap[gL2]? = w.heap[gL2]? := G.block hrow.lt hlab (fun e => hr e)
  rw [World.cell?_of_block (w := w) (a := ⟨gL2, A.length, none⟩) hb]
  exact e2
end
/-- A slice literal of one list. -/
theorem LO.one {w : World} {lab : Nat → Nat} (hz : LZ lab w) {yr : Nat} {yb : Nat → Nat} (h0 : yr ≠ yb 0) {u : Value} {d : List (List UInt8)} (hu : OR w lab (yb 0) 9 u d.length (strs d)) :
    ∃ lab', Gro lab lab' w (w.alloc (.cells #[u] 25)) (fun y => y = yr) ∧ LO (w.alloc (.cells #[u] 25)) lab' yr yb (.slice (some ⟨w.heap.size, 0, none⟩) 1 1) [d] := by
  have G := Gro.keeps hz (Keeps.of_below (fun _ => False) (below_box w (.cells #[u] 25))) yr (fun _ _ h => h.elim)
  refine ⟨_, G, [u], rfl, ⟨⟨rfl, .inr ⟨w.heap.size, 1, _, rfl, Nat.zero_le _, heap_alloc_new w _, Nat.le_refl _, by unfold maxLen; omega, rfl, rfl⟩⟩, fun g hg => ?_⟩, fun i hi => ?_⟩
  · obtain rfl : w.heap.size = g := by simpa [Value.ownBlock] using hg
    exact relab_new (Nat.le_refl _) (by simp)
  · obtain rfl : i = 0 := by simpa using hi
    exact ⟨u, rfl, hu.gro G (fun e => h0 e.symm)⟩
end Go.Proofs.YtalokopnagpgcaaDoor
