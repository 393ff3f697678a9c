import Derived.Test.YtpihehpmejicaaaQA3
namespace Go.Proofs.Ytpihehpmejicaaa
open Go.RowKit Go.Maps

/-- The first t words of list i. -/
def ww (i t : Nat) : List (List UInt8) := (List.range t).map (wd i)
theorem ww_len (i t : Nat) : (ww i t).length = t := by simp [ww]
theorem ww_succ (i t : Nat) : ww i (t + 1) = ww i t ++ [wd i t] := by simp [ww, List.range_succ]
theorem ww_get {i t k : Nat} (h : k < (ww i t).length) : (ww i t)[k] = wd i k := by simp [ww]
theorem ww_fill {d : List (List UInt8)} {k t : Nat} (ht : t < d.length) : (ww k t ++ d.drop t).set t (wd k t) = ww k (t + 1) ++ d.drop (t + 1) := by
  rw [List.set_append_right _ _ (by rw [ww_len]; exact Nat.le_refl _), ww_len, Nat.sub_self, List.drop_eq_getElem_cons ht, List.set_cons_zero, ww_succ, List.append_assoc]
  rfl
/-- The first k lists, z words in each. -/
def mw (z k : Nat) : List (List (List UInt8)) := (List.range k).map (fun i => ww i z)
theorem mw_len (z k : Nat) : (mw z k).length = k := by simp [mw]
theorem mw_succ (z k : Nat) : mw z (k + 1) = mw z k ++ [ww k z] := by simp [mw, List.range_succ]
theorem mw_get {z k N : Nat} (h : k < (mw z N).length) : (mw z N)[k] = ww k z := by simp [mw]
theorem mw_split {z k : Nat} : ∀ {N : Nat}, k < N → ∃ B, mw z N = mw z k ++ ww k z :: B
  | 0, h => by omega
  | N + 1, h => by
    rw [mw_succ]
    by_cases e : k = N
    · subst e
      exact ⟨[], rfl⟩
    · obtain ⟨B, hB⟩ := mw_split (z := z) (k := k) (N := N) (by omega)
      exact ⟨B ++ [ww N z], by rw [hB]; simp⟩
/-- A new list of texts gets an owner. -/
theorem Told.own {w w' : World} {v : Value} {l : List (List UInt8)} (h : Told w.heap.size w' v l) (hb : Below w.heap.size w w') {lab : Nat → Nat} (hz : LZ lab w) (y : Nat) : ∃ lab', Gro lab lab' w w' (fun x => x = y) ∧ OR w' lab' y 9 v l.length (strs l) := by
  have G := Gro.keeps hz (Keeps.of_below (fun _ => False) hb) y (fun _ _ h => h.elim)
  refine ⟨_, G, h.base (Nat.zero_le _), fun k hk => relab_new (rowLow h hk) (rowLt h hk)⟩
/-- A text of a list with an owner. -/
theorem OR.text {w : World} {lab : Nat → Nat} {y n : Nat} {v : Value} {l : List (List UInt8)} (h : OR w lab y 9 v n (strs l)) {k : Nat} {x : List UInt8} (hk : l[k]? = some x) : ∃ g c, v = .slice (some ⟨g, 0, none⟩) n c ∧ n ≤ c ∧ w.cell? ⟨g, k, none⟩ = some (.string ⟨x.toArray⟩) := by
  have hl : (strs l).length = n := by simpa using h.1.1
  have hkl : k < l.length := (List.getElem?_eq_some_iff.1 hk).1
  have hn : 0 < n := by
    have : (strs l).length = l.length := by simp [strs]
    omega
  obtain ⟨g, c, e, hr, _, hc⟩ := h.row hn
  exact ⟨g, c, e, hc, hr.cell (by simp [strs, hk])⟩
theorem told3 (w : World) (a b c : List UInt8) : Told w.heap.size (w.alloc (.cells #[.string ⟨a.toArray⟩, .string ⟨b.toArray⟩, .string ⟨c.toArray⟩] 9)) (.slice (some ⟨w.heap.size, 0, none⟩) 3 3) [a, b, c] :=
  ⟨rfl, .inr ⟨w.heap.size, 3, _, rfl, Nat.le_refl _, heap_alloc_new w _, Nat.le_refl _, by unfold maxLen; omega, rfl, rfl⟩⟩
theorem OR.cap {w : World} {lab : Nat → Nat} {y n c : Nat} {e : TypeId} {a : Option Addr} {xs : List Value} (h : OR w lab y e (.slice a n c) n xs) : c ≤ 9223372036854775807 := by
  obtain ⟨_, ⟨h0, _⟩ | ⟨g9, cap9, cur9, h9, _, _, _, h10, _, _⟩⟩ := h.1
  · cases h0
    omega
  · injection h9 with q1 q2 q3
    unfold maxLen at h10
    omega
section
variable {w : World} {lab : Nat → Nat} {yr : Nat} {yb : Nat → Nat} {v : Value} {A B : List (List (List UInt8))} {d : List (List UInt8)}
/-- A text of one of the lists is written: where it lies is known. -/
theorem LO.putW (h : LO w lab yr yb v (A ++ d :: B)) (hz : LZ lab w) (hr : yr ≠ yb A.length) (hne : ∀ i, i ≠ A.length → yb i ≠ yb A.length) {j : Nat} (hj : j < d.length) (x : List UInt8) {gL M cL g c : Nat} (e1 : v = .slice (some ⟨gL, 0, none⟩) M cL) (e2 : w.cell? ⟨gL, A.length, none⟩ = some (.slice (some ⟨g, 0, none⟩) d.length c)) :
    (∃ y0, w.cell? ⟨g, j, none⟩ = some (.string y0)) ∧ w.frozen? ⟨g, j, none⟩ = false ∧ (w.setCell ⟨g, j, none⟩ (.string ⟨x.toArray⟩)).cell? ⟨gL, A.length, none⟩ = some (.slice (some ⟨g, 0, none⟩) d.length c) ∧ Gro lab lab w (w.setCell ⟨g, j, none⟩ (.string ⟨x.toArray⟩)) (fun y => y = yb A.length) ∧ LO (w.setCell ⟨g, j, none⟩ (.string ⟨x.toArray⟩)) lab yr yb v (A ++ d.set j x :: B) := by
  obtain ⟨gL2, cL2, g2, c2, y0, f1, f2, f3, f4, f5, G, K⟩ := h.put hz hr hne hj x
  obtain rfl : gL2 = gL := by rw [e1] at f1; injection f1 with q1 q2 q3; injection q1 with q4; injection q4 with q5; exact q5.symm
  rw [e2] at f2
  obtain ⟨rfl, rfl⟩ : g = g2 ∧ c = c2 := by
    injection f2 with q1
    injection q1 with q2 q3 q4
    injection q2 with q5
    injection q5 with q6
    exact ⟨q6, q4⟩
  refine ⟨⟨y0, f3⟩, f4, ?_, G, K⟩
  obtain ⟨vs, hl0, ho, _⟩ := h
  obtain ⟨gL3, cL3, f6, hrow, hlab, _⟩ := ho.row (by simp; omega)
  have f7 : gL2 = gL3 := by rw [e1] at f6; injection f6 with q1 q2 q3; injection q1 with q4; injection q4 with q5
  subst f7
  have hb : (w.setCell ⟨g, j, none⟩ (.string ⟨x.toArray⟩)).heap[gL2]? = w.heap[gL2]? := G.block hrow.lt hlab (fun e => hr e)
  rw [World.cell?_of_block (w := w) (a := ⟨gL2, A.length, none⟩) hb]
  exact e2
end
end Go.Proofs.Ytpihehpmejicaaa
