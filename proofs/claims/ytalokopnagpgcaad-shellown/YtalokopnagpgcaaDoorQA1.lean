import Derived.Test.YtalokopnagpgcaaDoorSO1
import Derived.Deep.AppendLies
namespace Go.Proofs.YtalokopnagpgcaaDoor
open Go.RowKit Go.Maps

theorem infoRowS : (Tryd.prog.info? 25).map (fun i => (i.zero, i.size, i.bytes)) = some (some (.slice none 0 0), 1, 24) := by kernel_rfl
theorem app_lists {W : World} {B k : Nat} {v : Value} {vs : List Value} (hrow : W.ownsRow B 25 1 v k vs) (x : Value) (hx : x.oneCell' = true) (hk : k ≤ 100000000) (hB : B ≤ W.heap.size) :
    ∃ g cap w', (Builtin.append_ #[35, 35] 35 #[v, .slice (some ⟨W.heap.size, 0, none⟩) 1 1]).run Tryd.prog (W.alloc (.cells #[x] 25)) = .ok (.slice (some ⟨g, 0, none⟩) (k + 1) cap) w' ∧ w'.ownsRow B 25 1 (.slice (some ⟨g, 0, none⟩) (k + 1) cap) (k + 1) (vs ++ [x]) ∧ (W.alloc (.cells #[x] 25)).grownBy w' v.ownBlock ∧ (v.ownBlock = some g ∨ g = W.heap.size + 1) := by
  obtain ⟨i0, hi, hz0, hz1, hz2⟩ := info_parts infoRowS
  obtain ⟨g, cap, w', h1, h2, h3, h4, _⟩ := run_append_lies (P := Tryd.prog) (W.alloc (.cells #[x] 25)) 35 35 B 25 i0 (.slice none 0 0) 1 24 Tryd.underlying35 hi hz0 hz1 hz2 rfl (by decide) v k vs (rowAgree hrow (fun g hg => Below.heap_alloc _ _ _ (rowLt hrow hg))) ⟨W.heap.size, 0, none⟩ 1 1 [x] rfl (World.news_of_block (cs := #[x]) (t := 25) (fr := (0, 0)) (heap_alloc_new W _)) (by simpa using hx) (by omega) (by unfold maxLen; omega) (by omega) (by simp; omega) _ rfl
  exact ⟨g, cap, w', h1, h2, h3, h4.imp (fun e => e) (fun e => e.trans (by simp))⟩
/-- The blocks of one owner. -/
abbrev ofL (lab : Nat → Nat) (x : Nat) : Nat → Prop := fun k => lab k = x
/-- New blocks get an owner. -/
def relab (lab : Nat → Nat) (a b x : Nat) : Nat → Nat := fun k => if a ≤ k ∧ k < b then x else lab k
theorem relab_old {lab : Nat → Nat} {a b x k : Nat} (h : k < a) : relab lab a b x k = lab k := by
  unfold relab; rw [if_neg (by omega)]
theorem relab_new {lab : Nat → Nat} {a b x k : Nat} (h : a ≤ k) (h2 : k < b) : relab lab a b x k = x := by
  unfold relab; rw [if_pos ⟨h, h2⟩]
theorem relab_far {lab : Nat → Nat} {a b x k : Nat} (h : b ≤ k) : relab lab a b x k = lab k := by
  unfold relab; rw [if_neg (by omega)]

/-- What is not there yet is nobody's. -/
def LZ (lab : Nat → Nat) (w : World) : Prop := ∀ k, w.heap.size ≤ k → lab k = 0

/-- Blocks by owner: the blocks of X alone may change; what is new is X's or nobody's. -/
structure Gro (lab lab' : Nat → Nat) (w w' : World) (X : Nat → Prop) : Prop where
  kp : Keeps (fun k => X (lab k)) w w'
  old : ∀ k, k < w.heap.size → lab' k = lab k
  new : ∀ k, w.heap.size ≤ k → lab' k = 0 ∨ X (lab' k)
  lz : LZ lab' w'

section
variable {lab lab' lab2 : Nat → Nat} {w w' w2 : World} {X Y Z : Nat → Prop}
theorem Gro.refl (hz : LZ lab w) (X : Nat → Prop) : Gro lab lab w w X := ⟨Keeps.refl _ _, fun _ _ => rfl, fun k hk => .inl (hz k hk), hz⟩
theorem Gro.join (h : Gro lab lab' w w' X) (h2 : Gro lab' lab2 w' w2 Y) (hX : ∀ y, X y → Z y) (hY : ∀ y, Y y → Z y) : Gro lab lab2 w w2 Z := by
  refine ⟨(h.kp.mono (fun k => hX _)).trans h2.kp (fun j hj => ?_), fun k hk => ?_, fun k hk => ?_, h2.lz⟩
  · by_cases e : j < w.heap.size
    · left
      rw [h.old j e] at hj
      exact hY _ hj
    · exact .inr (by omega)
  · rw [h2.old k (Nat.lt_of_lt_of_le hk h.kp.size), h.old k hk]
  · by_cases e : k < w'.heap.size
    · rw [h2.old k e]
      exact (h.new k hk).imp id (hX _)
    · exact (h2.new k (by omega)).imp id (hY _)
theorem Gro.trans (h : Gro lab lab' w w' X) (h2 : Gro lab' lab2 w' w2 X) : Gro lab lab2 w w2 X := h.join h2 (fun _ h => h) (fun _ h => h)
theorem Gro.mono (h : Gro lab lab' w w' X) (hX : ∀ y, X y → Z y) : Gro lab lab' w w' Z := ⟨h.kp.mono (fun _ => hX _), h.old, fun k hk => (h.new k hk).imp id (hX _), h.lz⟩
theorem Gro.below (hz : LZ lab w) (hb : Below w.heap.size w w') (X : Nat → Prop) : Gro lab lab w w' X := ⟨Keeps.of_below _ hb, fun _ _ => rfl, fun k hk => .inl (hz k hk), fun k hk => hz k (Nat.le_trans hb.size hk)⟩
/-- What is new becomes x's. -/
theorem Gro.keeps (hz : LZ lab w) {F : Nat → Prop} (hk : Keeps F w w') (x : Nat) (hF : ∀ k, k < w.heap.size → F k → lab k = x) : Gro lab (relab lab w.heap.size w'.heap.size x) w w' (fun y => y = x) := by
  refine ⟨⟨hk.os, hk.tape, hk.output, hk.size, fun k h1 h2 => hk.block k h1 (fun hf => h2 (hF k h1 hf))⟩, fun k hk => relab_old hk, fun k h1 => ?_, fun k h1 => ?_⟩
  · by_cases e : k < w'.heap.size
    · exact .inr (relab_new h1 e)
    · left
      rw [relab_far (by omega)]
      exact hz k h1
  · rw [relab_far h1]
    exact hz k (Nat.le_trans hk.size h1)
/-- What is new stays nobody's. -/
theorem Gro.plain (hz : LZ lab w) {F : Nat → Prop} (hk : Keeps F w w') (hF : ∀ k, k < w.heap.size → F k → X (lab k)) : Gro lab lab w w' X :=
  ⟨⟨hk.os, hk.tape, hk.output, hk.size, fun k h1 h2 => hk.block k h1 (fun hf => h2 (hF k h1 hf))⟩, fun _ _ => rfl, fun k h1 => .inl (hz k h1), fun k h1 => hz k (Nat.le_trans hk.size h1)⟩
theorem Gro.block (h : Gro lab lab' w w' X) {k y : Nat} (hk : k < w.heap.size) (hy : lab k = y) (hX : ¬ X y) : w'.heap[k]? = w.heap[k]? := h.kp.block k hk (fun hx => hX (hy ▸ hx))
theorem Gro.tag (h : Gro lab lab' w w' X) {k y : Nat} (hk : k < w.heap.size) (hy : lab k = y) : lab' k = y := (h.old k hk).trans hy
theorem Gro.lowB (h : Gro lab lab' w w' X) {B : Nat} (hB : B ≤ w.heap.size) (hl : ∀ k, lab k ≠ 0 → B ≤ k) : ∀ k, lab' k ≠ 0 → B ≤ k := fun k hk => by
  by_cases e : k < w.heap.size
  · exact hl k (by rw [← h.old k e]; exact hk)
  · omega
theorem Gro.belowB (h : Gro lab lab' w w' X) {B : Nat} (hB : B ≤ w.heap.size) (hl : ∀ k, lab k ≠ 0 → B ≤ k) (h0 : ¬ X 0) : Below B w w' :=
  h.kp.below (fun k hx => hl k (fun e => h0 (e ▸ hx))) hB
end
/-- A row that has one owner. -/
def OR (w : World) (lab : Nat → Nat) (y : Nat) (e : TypeId) (v : Value) (n : Nat) (xs : List Value) : Prop := w.ownsRow 0 e 1 v n xs ∧ ∀ g, v.ownBlock = some g → lab g = y
section
variable {lab lab' : Nat → Nat} {w w' : World} {X : Nat → Prop} {y n : Nat} {v : Value} {e : TypeId} {xs : List Value}
theorem OR.nil (w : World) (lab : Nat → Nat) (y : Nat) (e : TypeId) : OR w lab y e (.slice none 0 0) 0 [] := ⟨World.ownsRow_nil _ _ _ _, fun g h => by simp [Value.ownBlock] at h⟩
theorem OR.gro (h : OR w lab y e v n xs) (g : Gro lab lab' w w' X) (hX : ¬ X y) : OR w' lab' y e v n xs :=
  ⟨rowAgree h.1 (fun k hk => g.block (rowLt h.1 hk) (h.2 k hk) hX), fun k hk => g.tag (rowLt h.1 hk) (h.2 k hk)⟩
theorem OR.form (h : OR w lab y e v n xs) : ∃ a c, v = .slice a n c := by
  obtain ⟨⟨hl, ⟨rfl, h3⟩ | ⟨g, cap, cur, rfl, _⟩⟩, _⟩ := h
  · exact ⟨none, 0, by rw [h3]⟩
  · exact ⟨_, _, rfl⟩
theorem OR.row (h : OR w lab y e v n xs) (hn : 0 < n) : ∃ g c, v = .slice (some ⟨g, 0, none⟩) n c ∧ RowAt w e g c xs ∧ lab g = y ∧ n ≤ c := by
  obtain ⟨g, c, rfl, _, hr, hl⟩ := RowAt.of_owns h.1 (by rintro rfl; obtain ⟨_, ⟨_, h3⟩ | ⟨g, cap, cur, h4, _⟩⟩ := h.1; omega; cases h4)
  exact ⟨g, c, rfl, hr, h.2 g rfl, by have := hr.le; omega⟩
end
section
variable {lab : Nat → Nat} {w : World} {y n : Nat} {v : Value} {l : List (List UInt8)}
/-- A byte is written. -/
theorem OR.put (h : OR w lab y 9 v n (strs l)) (hz : LZ lab w) {i : Nat} (hi : i < n) (m : List UInt8) : ∃ g c, v = .slice (some ⟨g, 0, none⟩) n c ∧ w.cell? ⟨g, i, none⟩ = some (.string ⟨(l.getD i []).toArray⟩) ∧ w.frozen? ⟨g, i, none⟩ = false ∧ n ≤ c ∧ Gro lab lab w (w.setCell ⟨g, i, none⟩ (.string ⟨m.toArray⟩)) (fun x => x = y) ∧ OR (w.setCell ⟨g, i, none⟩ (.string ⟨m.toArray⟩)) lab y 9 v n (strs (l.set i m)) := by
  obtain ⟨⟨hl, ⟨rfl, rfl⟩ | ⟨g, cap, cur, rfl, h0, hb, hn, hm, hc, ht⟩⟩, h2⟩ := h
  · omega
  · have hl' : l.length = n := by simpa using hl
    have hr : RowAt w 9 g cap (strs l) := ⟨cur, hb, by omega, by simpa [hl'] using ht, hm⟩
    refine ⟨g, cap, rfl, ?_, hr.frozen i, hn, Gro.plain hz (Keeps.setCell (F := fun k => k = g) w (p := ⟨g, i, none⟩) rfl _) (fun k _ e => by rw [e]; exact h2 g rfl), ⟨by simpa using hl, .inr ⟨g, cap, cur.setIfInBounds i (.string ⟨m.toArray⟩), rfl, h0, heap_setCell_same _ _ i _ _ _ hb, hn, hm, by simpa using hc, ?_⟩⟩, h2⟩
    · exact hr.cell (by simp [strs, List.getD, hl', hi])
    · simp only [Nat.mul_one] at ht ⊢
      simp only [Array.toList_setIfInBounds, List.take_set, ht, strs, List.map_set]
/-- Bytes are appended: the list's own stay. -/
theorem OR.app (h : OR w lab y 9 v n (strs l)) (hz : LZ lab w) (ad : Addr) (m c : Nat) (nw : List (List UInt8)) (hm : nw.length = m) (hnw : ∀ j u, (strs nw)[j]? = some u → w.cell? (ad.add j) = some u) (h0 : 0 < m) (hb : n + m ≤ 1000000000) :
    ∃ g' cap' w', (Builtin.append_ #[25, 25] 25 #[v, .slice (some ad) m c]).run Tryd.prog w = .ok (.slice (some ⟨g', 0, none⟩) (n + m) cap') w' ∧ ∃ lab', Gro lab lab' w w' (fun x => x = y) ∧ OR w' lab' y 9 (.slice (some ⟨g', 0, none⟩) (n + m) cap') (n + m) (strs (l ++ nw)) ∧ OR w' lab' y 9 v n (strs l) := by
  obtain ⟨i0, hi, hz0, hz1, hz2⟩ := info_parts infoStr
  have hlen : (strs nw).length = m * 1 := by simp [strs, hm]
  have hone : ∀ u ∈ strs nw, u.oneCell' = true := by
    intro u hu
    obtain ⟨x, _, rfl⟩ := List.mem_map.1 hu
    rfl
  obtain ⟨g', cap', w', hr, hw, hg, hat, hlt⟩ := run_append_lies (P := Tryd.prog) w 25 25 0 9 i0 (.string ⟨#[]⟩) 1 16 Tryd.underlying25 hi hz0 hz1 hz2 rfl (by decide) v n (strs l) h.1 ad m c (strs nw) hlen hnw hone h0 (by unfold maxLen; omega) (by omega) (Nat.zero_le _) _ rfl
  have hk : Keeps (fun k => v.ownBlock = some k) w w' := ⟨hg.os, hg.tape, hg.output, hg.size, fun k hk hq => hg.block k hk (fun e => hq e.symm)⟩
  have G := Gro.keeps hz hk y (fun k _ hf => h.2 k hf)
  refine ⟨g', cap', w', hr, _, G, ⟨by rw [show strs (l ++ nw) = strs l ++ strs nw by simp [strs]]; exact hw, fun k hk' => ?_⟩, ?_, fun k hk' => G.tag (rowLt h.1 hk') (h.2 k hk')⟩
  · have e : k = g' := by simpa [Value.ownBlock] using hk'.symm
    subst e
    rcases hat with e | e
    · exact G.tag (rowLt h.1 e) (h.2 _ e)
    · exact relab_new (by omega) hlt
  · obtain ⟨hl, ⟨rfl, rfl⟩ | ⟨g, cap, cur, rfl, hg0, hblk, hnc, hmc, hcs, ht⟩⟩ := h.1
    · exact ⟨hl, .inl ⟨rfl, rfl⟩⟩
    · simp only [Nat.mul_one] at hl hcs ht
      by_cases hroom : n + m ≤ cap
      · have hr2 := run_append_room (P := Tryd.prog) w 25 25 9 i0 Tryd.underlying25 hi g n cap cur hblk ad m c (strs nw) (by rw [hz1]; exact hlen) hnw hone hroom (by rw [hz1, hlen]; omega)
        rw [hr] at hr2
        injection hr2 with e1 e2
        injection e1 with e3 e4 e5
        injection e3 with e6
        injection e6 with e7
        subst e7
        subst e5
        obtain ⟨hl2, ⟨hh, _⟩ | ⟨g2, cap2, cur2, hh, _, hb2, hn2, hm2, hc2, ht2⟩⟩ := hw
        · cases hh
        · injection hh with q1 q2 q3
          injection q1 with q4
          injection q4 with q5
          subst q5
          subst q3
          simp only [Nat.mul_one] at hc2 ht2
          refine ⟨by simpa using hl, .inr ⟨_, _, cur2, rfl, Nat.zero_le _, hb2, hnc, hmc, by simpa using hc2, ?_⟩⟩
          simp only [Nat.mul_one]
          have := congrArg (List.take n) ht2
          rw [List.take_take, Nat.min_eq_left (by omega)] at this
          rw [this, List.take_left' hl]
      · have hr2 := run_append_grow (P := Tryd.prog) w 25 25 9 i0 (.string ⟨#[]⟩) Tryd.underlying25 hi hz0 ⟨g, 0, none⟩ n cap (strs l) (by rw [hz1]; simpa using hl) (h.1.cells (g := g) rfl) ad m c (strs nw) (by rw [hz1]; exact hlen) hnw (by omega) (by omega) (growslice_fits (by omega) (by rw [hz2]; omega))
        rw [hr] at hr2
        injection hr2 with e1 e2
        refine ⟨by simpa using hl, .inr ⟨g, cap, cur, rfl, Nat.zero_le _, ?_, hnc, hmc, by simpa using hcs, by simpa using ht⟩⟩
        rw [e2, Below.heap_alloc w.drew _ g (Array.getElem?_eq_some_iff.1 hblk).1]
        exact hblk
end
end Go.Proofs.YtalokopnagpgcaaDoor
