import Derived.Test.YthdgndbmecnimaaW18
section
namespace Go.Proofs.Ythdgndbmecnimaa
open Go.RowKit Go.Maps

/-- The blocks of one owner. -/
abbrev ofL (lab : Nat → Nat) (x : Nat) : Nat → Prop := fun k => lab k = x
/-- New blocks get an owner. -/
def relab (lab : Nat → Nat) (a b x : Nat) : Nat → Nat := fun k => if a ≤ k ∧ k < b then x else lab k
theorem relab_old {lab : Nat → Nat} {a b x k : Nat} (h : k < a) : relab lab a b x k = lab k := by
  unfold relab; rw [if_neg (by omega)]
theorem relab_new {lab : Nat → Nat} {a b x k : Nat} (h : a ≤ k) (h2 : k < b) : relab lab a b x k = x := by
  unfold relab; rw [if_pos ⟨h, h2⟩]
theorem relab_far {lab : Nat → Nat} {a b x k : Nat} (h : b ≤ k) : relab lab a b x k = lab k := by
  unfold relab; rw [if_neg (by omega)]

/-- What is not there yet is nobody's. -/
def LZ (lab : Nat → Nat) (w : World) : Prop := ∀ k, w.heap.size ≤ k → lab k = 0

/-- Blocks by owner: the blocks of X alone may change; what is new is X's or nobody's. -/
structure Gro (lab lab' : Nat → Nat) (w w' : World) (X : Nat → Prop) : Prop where
  kp : Keeps (fun k => X (lab k)) w w'
  old : ∀ k, k < w.heap.size → lab' k = lab k
  new : ∀ k, w.heap.size ≤ k → lab' k = 0 ∨ X (lab' k)
  lz : LZ lab' w'

section
variable {lab lab' lab2 : Nat → Nat} {w w' w2 : World} {X Y Z : Nat → Prop}
theorem Gro.refl (hz : LZ lab w) (X : Nat → Prop) : Gro lab lab w w X := ⟨Keeps.refl _ _, fun _ _ => rfl, fun k hk => .inl (hz k hk), hz⟩
theorem Gro.join (h : Gro lab lab' w w' X) (h2 : Gro lab' lab2 w' w2 Y) (hX : ∀ y, X y → Z y) (hY : ∀ y, Y y → Z y) : Gro lab lab2 w w2 Z := by
  refine ⟨(h.kp.mono (fun k => hX _)).trans h2.kp (fun j hj => ?_), fun k hk => ?_, fun k hk => ?_, h2.lz⟩
  · by_cases e : j < w.heap.size
    · left
      rw [h.old j e] at hj
      exact hY _ hj
    · exact .inr (by omega)
  · rw [h2.old k (Nat.lt_of_lt_of_le hk h.kp.size), h.old k hk]
  · by_cases e : k < w'.heap.size
    · rw [h2.old k e]
      exact (h.new k hk).imp id (hX _)
    · exact (h2.new k (by omega)).imp id (hY _)
theorem Gro.trans (h : Gro lab lab' w w' X) (h2 : Gro lab' lab2 w' w2 X) : Gro lab lab2 w w2 X := h.join h2 (fun _ h => h) (fun _ h => h)
theorem Gro.mono (h : Gro lab lab' w w' X) (hX : ∀ y, X y → Z y) : Gro lab lab' w w' Z := ⟨h.kp.mono (fun _ => hX _), h.old, fun k hk => (h.new k hk).imp id (hX _), h.lz⟩
theorem Gro.below (hz : LZ lab w) (hb : Below w.heap.size w w') (X : Nat → Prop) : Gro lab lab w w' X := ⟨Keeps.of_below _ hb, fun _ _ => rfl, fun k hk => .inl (hz k hk), fun k hk => hz k (Nat.le_trans hb.size hk)⟩
/-- What is new becomes x's. -/
theorem Gro.keeps (hz : LZ lab w) {F : Nat → Prop} (hk : Keeps F w w') (x : Nat) (hF : ∀ k, k < w.heap.size → F k → lab k = x) : Gro lab (relab lab w.heap.size w'.heap.size x) w w' (fun y => y = x) := by
  refine ⟨⟨hk.os, hk.tape, hk.output, hk.size, fun k h1 h2 => hk.block k h1 (fun hf => h2 (hF k h1 hf))⟩, fun k hk => relab_old hk, fun k h1 => ?_, fun k h1 => ?_⟩
  · by_cases e : k < w'.heap.size
    · exact .inr (relab_new h1 e)
    · left
      rw [relab_far (by omega)]
      exact hz k h1
  · rw [relab_far h1]
    exact hz k (Nat.le_trans hk.size h1)
/-- What is new stays nobody's. -/
theorem Gro.plain (hz : LZ lab w) {F : Nat → Prop} (hk : Keeps F w w') (hF : ∀ k, k < w.heap.size → F k → X (lab k)) : Gro lab lab w w' X :=
  ⟨⟨hk.os, hk.tape, hk.output, hk.size, fun k h1 h2 => hk.block k h1 (fun hf => h2 (hF k h1 hf))⟩, fun _ _ => rfl, fun k h1 => .inl (hz k h1), fun k h1 => hz k (Nat.le_trans hk.size h1)⟩
theorem Gro.block (h : Gro lab lab' w w' X) {k y : Nat} (hk : k < w.heap.size) (hy : lab k = y) (hX : ¬ X y) : w'.heap[k]? = w.heap[k]? := h.kp.block k hk (fun hx => hX (hy ▸ hx))
theorem Gro.tag (h : Gro lab lab' w w' X) {k y : Nat} (hk : k < w.heap.size) (hy : lab k = y) : lab' k = y := (h.old k hk).trans hy
theorem Gro.lowB (h : Gro lab lab' w w' X) {B : Nat} (hB : B ≤ w.heap.size) (hl : ∀ k, lab k ≠ 0 → B ≤ k) : ∀ k, lab' k ≠ 0 → B ≤ k := fun k hk => by
  by_cases e : k < w.heap.size
  · exact hl k (by rw [← h.old k e]; exact hk)
  · omega
theorem Gro.belowB (h : Gro lab lab' w w' X) {B : Nat} (hB : B ≤ w.heap.size) (hl : ∀ k, lab k ≠ 0 → B ≤ k) (h0 : ¬ X 0) : Below B w w' :=
  h.kp.below (fun k hx => hl k (fun e => h0 (e ▸ hx))) hB

theorem more_lab {x : Nat} (hz : LZ lab w) (hs : w.heap.size ≤ w'.heap.size) (hx : x ≠ 0) : (∀ k, more (ofL lab x) w w' k → ofL (relab lab w.heap.size w'.heap.size x) x k) ∧ ∀ k, ofL (relab lab w.heap.size w'.heap.size x) x k → k < w'.heap.size := by
  refine ⟨fun k hk => ?_, fun k hk => ?_⟩
  · show relab lab w.heap.size w'.heap.size x k = x
    rcases hk with hk | hk
    · unfold relab
      split
      · rfl
      · exact hk
    · exact relab_new hk.1 hk.2
  · apply Decidable.byContradiction
    intro hn
    have : relab lab w.heap.size w'.heap.size x k = x := hk
    rw [relab_far (by omega), hz k (by omega)] at this
    exact hx this.symm
end

/-- A row that has one owner. -/
def OR (w : World) (lab : Nat → Nat) (y : Nat) (e : TypeId) (v : Value) (n : Nat) (xs : List Value) : Prop := w.ownsRow 0 e 1 v n xs ∧ ∀ g, v.ownBlock = some g → lab g = y
/-- Bytes that have one owner. -/
def SL (w : World) (lab : Nat → Nat) (y : Nat) (a : Option Addr) (n : Nat) (l : List Int) : Prop := Src w a n l ∧ ∀ z, a = some z → 0 < n → lab z.block = y
/-- A list of lists of bytes: the row has the owner yr, the i-th list's bytes have yb i. Behind them more values, of which nothing is told. -/
def LX (w : World) (lab : Nat → Nat) (yr : Nat) (yb : Nat → Nat) (v : Value) (ds : List (List Int)) (xs : List Value) : Prop :=
  ∃ vs : List Value, vs.length = ds.length ∧ OR w lab yr 27 v (ds.length + xs.length) (vs ++ xs) ∧ ∀ i (hi : i < ds.length), ∃ a c, vs[i]? = some (.slice a (ds[i]).length c) ∧ SL w lab (yb i) a (ds[i]).length ds[i]

section
variable {lab lab' : Nat → Nat} {w w' : World} {X : Nat → Prop} {y yr n : Nat} {yb : Nat → Nat} {v : Value} {e : TypeId} {xs : List Value} {ds : List (List Int)}
theorem OR.nil (w : World) (lab : Nat → Nat) (y : Nat) (e : TypeId) : OR w lab y e (.slice none 0 0) 0 [] := ⟨World.ownsRow_nil _ _ _ _, fun g h => by simp [Value.ownBlock] at h⟩
theorem OR.gro (h : OR w lab y e v n xs) (g : Gro lab lab' w w' X) (hX : ¬ X y) : OR w' lab' y e v n xs :=
  ⟨rowAgree h.1 (fun k hk => g.block (rowLt h.1 hk) (h.2 k hk) hX), fun k hk => g.tag (rowLt h.1 hk) (h.2 k hk)⟩
theorem OR.form (h : OR w lab y e v n xs) : ∃ a c, v = .slice a n c := by
  obtain ⟨⟨hl, ⟨rfl, h3⟩ | ⟨g, cap, cur, rfl, _⟩⟩, _⟩ := h
  · exact ⟨none, 0, by rw [h3]⟩
  · exact ⟨_, _, rfl⟩
theorem OR.row (h : OR w lab y e v n xs) (hn : 0 < n) : ∃ g c, v = .slice (some ⟨g, 0, none⟩) n c ∧ RowAt w e g c xs ∧ lab g = y ∧ n ≤ c := by
  obtain ⟨g, c, rfl, _, hr, hl⟩ := RowAt.of_owns h.1 (by rintro rfl; obtain ⟨_, ⟨_, h3⟩ | ⟨g, cap, cur, h4, _⟩⟩ := h.1; omega; cases h4)
  exact ⟨g, c, rfl, hr, h.2 g rfl, by have := hr.le; omega⟩
theorem OR.src {l : List Int} (h : OR w lab y 5 v n (bs l)) : ∃ a c, v = .slice a n c ∧ SL w lab y a n l ∧ n ≤ c := by
  obtain ⟨⟨hl, ⟨rfl, rfl⟩ | ⟨g, cap, cur, rfl, h0, hb, hn, hm, hc, ht⟩⟩, h2⟩ := h
  · have : l = [] := by simpa using hl
    subst this
    exact ⟨none, 0, rfl, ⟨⟨rfl, fun _ => rfl, fun x hx => by cases hx⟩, fun z hz => by cases hz⟩, Nat.le_refl _⟩
  · have hl' : l.length = n := by simpa using hl
    have hr : RowAt w 5 g cap (bs l) := ⟨cur, hb, by omega, by simpa [hl'] using ht, hm⟩
    exact ⟨_, cap, rfl, ⟨hl' ▸ hr.src, fun z hz _ => by cases hz; exact h2 g rfl⟩, hn⟩
theorem SL.gro {a : Option Addr} {l : List Int} (h : SL w lab y a n l) (g : Gro lab lab' w w' X) (hX : ¬ X y) : SL w' lab' y a n l := by
  refine ⟨h.1.past g.kp (fun z hz hp hq => hX (h.2 z hz hp ▸ hq)), fun z hz hp => g.tag ?_ (h.2 z hz hp)⟩
  have h0 := World.block_lt_of_cell? _ _ (h.1.2.2 z hz 0 hp)
  rw [blockOf_add] at h0
  exact h0
theorem LX.nil (w : World) (lab : Nat → Nat) (yr : Nat) (yb : Nat → Nat) : LX w lab yr yb (.slice none 0 0) [] [] := ⟨[], rfl, OR.nil _ _ _ _, fun i hi => by cases hi⟩
theorem LX.gro (h : LX w lab yr yb v ds xs) (g : Gro lab lab' w w' X) (h1 : ¬ X yr) (h2 : ∀ i, i < ds.length → ¬ X (yb i)) : LX w' lab' yr yb v ds xs := by
  obtain ⟨vs, hl, ho, he⟩ := h
  refine ⟨vs, hl, ho.gro g h1, fun i hi => ?_⟩
  obtain ⟨a, c, e1, e2⟩ := he i hi
  exact ⟨a, c, e1, e2.gro g (h2 i hi)⟩
theorem LX.close {a : Option Addr} {d : List Int} {c : Nat} (h : LX w lab yr yb v ds (.slice a d.length c :: xs)) (hs : SL w lab (yb ds.length) a d.length d) : LX w lab yr yb v (ds ++ [d]) xs := by
  obtain ⟨vs, hl, ho, he⟩ := h
  refine ⟨vs ++ [.slice a d.length c], by simp [hl], ?_, fun i hi => ?_⟩
  · rw [List.append_assoc, List.length_append]
    have e : ds.length + (xs.length + 1) = ds.length + 1 + xs.length := by omega
    simpa [e] using ho
  · by_cases e : i < ds.length
    · obtain ⟨a2, c2, e1, e2⟩ := he i e
      refine ⟨a2, c2, ?_, ?_⟩
      · rw [List.getElem?_append_left (by omega), e1, List.getElem_append_left e]
      · rw [List.getElem_append_left e]
        exact e2
    · have ei : i = ds.length := by simp at hi; omega
      subst ei
      refine ⟨a, c, ?_, ?_⟩
      · rw [List.getElem?_append_right (by omega), hl]
        simp
      · simp only [List.getElem_append_right (Nat.le_refl _), Nat.sub_self, List.getElem_cons_zero]
        exact hs
/-- The list's i-th. -/
theorem LX.at (h : LX w lab yr yb v ds []) {i : Nat} (hi : i < ds.length) : ∃ g cap a c, v = .slice (some ⟨g, 0, none⟩) ds.length cap ∧ w.cell? ⟨g, i, none⟩ = some (.slice a (ds[i]).length c) ∧ SL w lab (yb i) a (ds[i]).length ds[i] := by
  obtain ⟨vs, hl, ho, he⟩ := h
  obtain ⟨g, c, rfl, hr, _, _⟩ := ho.row (by simp; omega)
  obtain ⟨a, c2, e1, e2⟩ := he i hi
  exact ⟨g, c, a, c2, rfl, hr.cell (by rw [List.append_nil]; exact e1), e2⟩
theorem LX.form (h : LX w lab yr yb v ds []) : ∃ a c, v = .slice a ds.length c := by
  obtain ⟨vs, hl, ho, he⟩ := h
  obtain ⟨a, c, rfl⟩ := ho.form
  exact ⟨a, c, by simp⟩
/-- One more value at the row's end. -/
theorem LX.push (h : LX w lab yr yb v ds xs) (hz : LZ lab w) (h0 : ∀ i, yr ≠ yb i) (hn : ds.length + xs.length ≤ 7000000000000) (x : Value) (hx : x.oneCell' = true) :
    ∃ g' cap' w', (Builtin.append_ #[22, 22] 22 #[v, .slice (some ⟨w.heap.size, 0, none⟩) 1 1]).run Try.prog (w.alloc (.cells #[x] 27)) = .ok (.slice (some ⟨g', 0, none⟩) (ds.length + xs.length + 1) cap') w' ∧ ∃ lab', Gro lab lab' w w' (fun y => y = yr) ∧ LX w' lab' yr yb (.slice (some ⟨g', 0, none⟩) (ds.length + xs.length + 1) cap') ds (xs ++ [x]) := by
  obtain ⟨vs, hl, ho, he⟩ := h
  obtain ⟨g', cap', w', hrun, hw, hg, hat⟩ := app_list2 ho.1 x hx hn
  have hbx := below_box w (.cells #[x] 27)
  have hk : Keeps (fun k => v.ownBlock = some k) w w' := ⟨hg.os.trans hbx.os, hg.tape.trans hbx.tape, hg.output.trans hbx.output, Nat.le_trans hbx.size hg.size, fun k hk hq => (hg.block k (Nat.lt_of_lt_of_le hk hbx.size) (fun e => hq e.symm)).trans (hbx.block k hk)⟩
  have G := Gro.keeps hz hk yr (fun k _ hf => ho.2 k hf)
  refine ⟨g', cap', w', hrun, _, G, vs, hl, ⟨?_, fun k hk' => ?_⟩, fun i hi => ?_⟩
  · rw [← List.append_assoc, List.length_append, ← Nat.add_assoc]
    exact hw
  · have e : k = g' := by simpa [Value.ownBlock] using hk'.symm
    subst e
    rcases hat with e | e
    · exact G.tag (rowLt ho.1 e) (ho.2 _ e)
    · exact relab_new (by omega) (rowLt hw rfl)
  · obtain ⟨a, c, e1, e2⟩ := he i hi
    exact ⟨a, c, e1, e2.gro G (fun e => h0 i e.symm)⟩
end
end Go.Proofs.Ythdgndbmecnimaa
end

section
namespace Go.Proofs.Ythdgndbmecnimaa
open Go.RowKit Go.Maps

section
variable {lab : Nat → Nat} {w : World} {y n : Nat} {v : Value} {l : List Int}
/-- A byte is written. -/
theorem OR.put (h : OR w lab y 5 v n (bs l)) (hz : LZ lab w) {i : Nat} (hi : i < n) (m : Int) : ∃ g c, v = .slice (some ⟨g, 0, none⟩) n c ∧ w.cell? ⟨g, i, none⟩ = some (.int .u8 (l.getD i 0)) ∧ w.frozen? ⟨g, i, none⟩ = false ∧ n ≤ c ∧ Gro lab lab w (w.setCell ⟨g, i, none⟩ (.int .u8 m)) (fun x => x = y) ∧ OR (w.setCell ⟨g, i, none⟩ (.int .u8 m)) lab y 5 v n (bs (l.set i m)) := by
  obtain ⟨⟨hl, ⟨rfl, rfl⟩ | ⟨g, cap, cur, rfl, h0, hb, hn, hm, hc, ht⟩⟩, h2⟩ := h
  · omega
  · have hl' : l.length = n := by simpa using hl
    have hr : RowAt w 5 g cap (bs l) := ⟨cur, hb, by omega, by simpa [hl'] using ht, hm⟩
    refine ⟨g, cap, rfl, ?_, hr.frozen i, hn, Gro.plain hz (Keeps.setCell (F := fun k => k = g) w (p := ⟨g, i, none⟩) rfl _) (fun k _ e => by rw [e]; exact h2 g rfl), ⟨by simpa using hl, .inr ⟨g, cap, cur.setIfInBounds i (.int .u8 m), rfl, h0, heap_setCell_same _ _ i _ _ _ hb, hn, hm, by simpa using hc, ?_⟩⟩, h2⟩
    · exact hr.cell (by simp [bs, List.getD, hl', hi])
    · simp only [Nat.mul_one] at ht ⊢
      simp only [Array.toList_setIfInBounds, List.take_set, ht, bs, List.map_set]
/-- Bytes are appended: the list's own stay. -/
theorem OR.app (h : OR w lab y 5 v n (bs l)) (hz : LZ lab w) (ad : Addr) (m c : Nat) (nw : List Int) (hm : nw.length = m) (hnw : ∀ j u, (bs nw)[j]? = some u → w.cell? (ad.add j) = some u) (h0 : 0 < m) (hb : n + m ≤ 100000000000000) :
    ∃ g' cap' w', (Builtin.append_ #[27, 27] 27 #[v, .slice (some ad) m c]).run Try.prog w = .ok (.slice (some ⟨g', 0, none⟩) (n + m) cap') w' ∧ ∃ lab', Gro lab lab' w w' (fun x => x = y) ∧ OR w' lab' y 5 (.slice (some ⟨g', 0, none⟩) (n + m) cap') (n + m) (bs (l ++ nw)) ∧ OR w' lab' y 5 v n (bs l) := by
  obtain ⟨i0, hi, hz0, hz1, hz2⟩ := info_parts infoU8
  have hlen : (bs nw).length = m * 1 := by simp [bs, hm]
  have hone : ∀ u ∈ bs nw, u.oneCell' = true := by
    intro u hu
    obtain ⟨x, _, rfl⟩ := List.mem_map.1 hu
    rfl
  obtain ⟨g', cap', w', hr, hw, hg, hat, hlt⟩ := run_append_lies (P := Try.prog) w 27 27 0 5 i0 (.int .u8 0) 1 1 Try.underlying27 hi hz0 hz1 hz2 rfl (by decide) v n (bs l) h.1 ad m c (bs nw) hlen hnw hone h0 (by unfold maxLen; omega) (by omega) (Nat.zero_le _) _ rfl
  have hk : Keeps (fun k => v.ownBlock = some k) w w' := ⟨hg.os, hg.tape, hg.output, hg.size, fun k hk hq => hg.block k hk (fun e => hq e.symm)⟩
  have G := Gro.keeps hz hk y (fun k _ hf => h.2 k hf)
  refine ⟨g', cap', w', hr, _, G, ⟨by rw [show bs (l ++ nw) = bs l ++ bs nw by simp [bs]]; exact hw, fun k hk' => ?_⟩, ?_, fun k hk' => G.tag (rowLt h.1 hk') (h.2 k hk')⟩
  · have e : k = g' := by simpa [Value.ownBlock] using hk'.symm
    subst e
    rcases hat with e | e
    · exact G.tag (rowLt h.1 e) (h.2 _ e)
    · exact relab_new (by omega) hlt
  · obtain ⟨hl, ⟨rfl, rfl⟩ | ⟨g, cap, cur, rfl, hg0, hblk, hnc, hmc, hcs, ht⟩⟩ := h.1
    · exact ⟨hl, .inl ⟨rfl, rfl⟩⟩
    · simp only [Nat.mul_one] at hl hcs ht
      by_cases hroom : n + m ≤ cap
      · have hr2 := run_append_room (P := Try.prog) w 27 27 5 i0 Try.underlying27 hi g n cap cur hblk ad m c (bs nw) (by rw [hz1]; exact hlen) hnw hone hroom (by rw [hz1, hlen]; omega)
        rw [hr] at hr2
        injection hr2 with e1 e2
        injection e1 with e3 e4 e5
        injection e3 with e6
        injection e6 with e7
        subst e7
        subst e5
        obtain ⟨hl2, ⟨hh, _⟩ | ⟨g2, cap2, cur2, hh, _, hb2, hn2, hm2, hc2, ht2⟩⟩ := hw
        · cases hh
        · injection hh with q1 q2 q3
          injection q1 with q4
          injection q4 with q5
          subst q5
          subst q3
          simp only [Nat.mul_one] at hc2 ht2
          refine ⟨by simpa using hl, .inr ⟨_, _, cur2, rfl, Nat.zero_le _, hb2, hnc, hmc, by simpa using hc2, ?_⟩⟩
          simp only [Nat.mul_one]
          have := congrArg (List.take n) ht2
          rw [List.take_take, Nat.min_eq_left (by omega)] at this
          rw [this, List.take_left' hl]
      · have hr2 := run_append_grow (P := Try.prog) w 27 27 5 i0 (.int .u8 0) Try.underlying27 hi hz0 ⟨g, 0, none⟩ n cap (bs l) (by rw [hz1]; simpa using hl) (h.1.cells (g := g) rfl) ad m c (bs nw) (by rw [hz1]; exact hlen) hnw (by omega) (by omega) (growslice_fits (by omega) (by rw [hz2]; omega))
        rw [hr] at hr2
        injection hr2 with e1 e2
        refine ⟨by simpa using hl, .inr ⟨g, cap, cur, rfl, Nat.zero_le _, ?_, hnc, hmc, by simpa using hcs, by simpa using ht⟩⟩
        rw [e2, Below.heap_alloc w.drew _ g (Array.getElem?_eq_some_iff.1 hblk).1]
        exact hblk
set_option maxRecDepth 20000 in
/-- Where the bytes that are appended are one mark, each such mark stays. -/
theorem OR.stay (h : OR w lab y 5 v n (bs l)) (ad : Addr) (m c : Nat) (nw : List Int) (hm : nw.length = m) (hnw : ∀ j u, (bs nw)[j]? = some u → w.cell? (ad.add j) = some u) (h0 : 0 < m) (hb : n + m ≤ 1000000000) {r : Value} {w' : World}
    (hr : (Builtin.append_ #[27, 27] 27 #[v, .slice (some ad) m c]).run Try.prog w = .ok r w') {x : Int} (hx : ∀ z ∈ nw, z = x) {k o : Nat} (hc : w.cell? ⟨k, o, none⟩ = some (.int .u8 x)) : w'.cell? ⟨k, o, none⟩ = some (.int .u8 x) := by
  obtain ⟨i0, hi, hz0, hz1, hz2⟩ := info_parts infoU8
  have hlen : (bs nw).length = m * 1 := by simp [bs, hm]
  have hone : ∀ u ∈ bs nw, u.oneCell' = true := by
    intro u hu
    obtain ⟨x, _, rfl⟩ := List.mem_map.1 hu
    rfl
  obtain ⟨g', cap', w2, hr2, hw, hg, hat, hlt⟩ := run_append_lies (P := Try.prog) w 27 27 0 5 i0 (.int .u8 0) 1 1 Try.underlying27 hi hz0 hz1 hz2 rfl (by decide) v n (bs l) h.1 ad m c (bs nw) hlen hnw hone h0 (by unfold maxLen; omega) (by omega) (Nat.zero_le _) _ rfl
  rw [hr] at hr2
  injection hr2 with e1 e2
  subst e2
  have hkl := World.block_lt_of_cell? _ _ hc
  by_cases hk : v.ownBlock = some k
  · obtain ⟨hl, ⟨rfl, rfl⟩ | ⟨g, cap, cur, rfl, hg0, hblk, hnc, hmc, hcs, ht⟩⟩ := h.1
    · cases hk
    · obtain rfl : g = k := by simpa [Value.ownBlock] using hk
      simp only [Nat.mul_one] at hl hcs ht
      by_cases hroom : n + m ≤ cap
      · have hr3 := run_append_room (P := Try.prog) w 27 27 5 i0 Try.underlying27 hi g n cap cur hblk ad m c (bs nw) (by rw [hz1]; exact hlen) hnw hone hroom (by rw [hz1, hlen]; omega)
        rw [hr] at hr3
        injection hr3 with e3 e4
        have hblk2 := setRow_heap w g cur (cur.toList.take (n * i0.size) ++ bs nw ++ cur.toList.drop (n * i0.size + (bs nw).length)).toArray _ _ hblk
        rw [← e4] at hblk2
        rw [hz1, Nat.mul_one] at hblk2
        simp only [World.cell?, hblk] at hc
        simp only [World.cell?, hblk2]
        have hc' : cur.toList[o]? = some (.int .u8 x) := by simpa using hc
        have hbl : (bs nw).length = m := by simpa using hlen
        have hn1 : (cur.toList.take n).length = n := by simp; omega
        have hgoal : (cur.toList.take n ++ bs nw ++ cur.toList.drop (n + (bs nw).length))[o]? = some (.int .u8 x) := by
          by_cases o1 : o < n
          · rw [List.getElem?_append_left (by simp [List.length_append]; omega), List.getElem?_append_left (by omega), List.getElem?_take, if_pos o1]
            exact hc'
          · by_cases o2 : o < n + m
            · rw [List.getElem?_append_left (by rw [List.length_append]; omega), List.getElem?_append_right (by omega), hn1]
              have hlt2 : o - n < nw.length := by omega
              simp only [bs, List.getElem?_map, List.getElem?_eq_getElem hlt2, Option.map_some, Option.some.injEq, Value.int.injEq, true_and]
              exact hx _ (List.getElem_mem hlt2)
            · rw [List.getElem?_append_right (by rw [List.length_append]; omega), List.length_append, hn1, hbl, List.getElem?_drop, show n + m + (o - (n + m)) = o by omega]
              exact hc'
        simpa using hgoal
      · have hr3 := run_append_grow (P := Try.prog) w 27 27 5 i0 (.int .u8 0) Try.underlying27 hi hz0 ⟨g, 0, none⟩ n cap (bs l) (by rw [hz1]; simpa using hl) (h.1.cells (g := g) rfl) ad m c (bs nw) (by rw [hz1]; exact hlen) hnw (by omega) (by omega) (growslice_fits (by omega) (by rw [hz2]; omega))
        rw [hr] at hr3
        injection hr3 with e3 e4
        refine (World.cell?_of_block (w := w) (a := ⟨g, o, none⟩) ?_).trans hc
        rw [e4]
        exact Below.heap_alloc w.drew _ g hkl
  · exact (World.cell?_of_block (w := w) (a := ⟨k, o, none⟩) (hg.block k hkl (fun e => hk e.symm))).trans hc
end
end Go.Proofs.Ythdgndbmecnimaa
end

section
namespace Go.Proofs.Ythdgndbmecnimaa
open Go.RowKit Go.Maps

abbrev bkC (v0 v1 v2 v3 v4 v5 : Value) : Array Value := #[v0, v1, v2, v3, v4, v5]
/-- The lists of a book: each its mark alone, j more than the first. -/
def reps (j : Nat) (nm : List (Nat × Int)) : List (List Int) := nm.map fun q => List.replicate (q.1 + j) q.2
theorem reps_len (j : Nat) (nm : List (Nat × Int)) : (reps j nm).length = nm.length := by simp [reps]

/-- The owner of the i-th noted list's bytes. -/
abbrev yB (i : Nat) : Nat := 40 + 2 * i
theorem yB_ge (i : Nat) : 40 ≤ yB i := Nat.le_add_right _ _
theorem yB_even (i : Nat) : yB i % 2 = 0 := by show (40 + 2 * i) % 2 = 0; omega
/-- The book's owners. -/
def isBk (y : Nat) : Prop := (11 ≤ y ∧ y ≤ 17) ∨ (40 ≤ y ∧ y % 2 = 0)

/-- A book in memory; its lists may have one value more, of which nothing is told. -/
structure Bq (w : World) (lab : Nat → Nat) (p : Nat) (v0 v1 v2 v3 v4 v5 : Value) (nm : List (Nat × Int)) (xs0 xs1 xs2 xs3 xs4 : List Value) : Prop where
  box : w.heap[p]? = some (.cells (bkC v0 v1 v2 v3 v4 v5) 43 (0, 0))
  bp : lab p = 17
  l0 : LX w lab 11 yB v0 (reps 0 nm) xs0
  l1 : LX w lab 12 yB v1 (reps 1 nm) xs1
  l2 : LX w lab 13 yB v2 (reps 2 nm) xs2
  l3 : LX w lab 14 yB v3 (reps 3 nm) xs3
  l4 : LX w lab 15 yB v4 (reps 96 nm) xs4
  ms : OR w lab 16 5 v5 nm.length (bs (nm.map (·.2)))
abbrev Bk (w : World) (lab : Nat → Nat) (p : Nat) (v0 v1 v2 v3 v4 v5 : Value) (nm : List (Nat × Int)) : Prop := Bq w lab p v0 v1 v2 v3 v4 v5 nm [] [] [] [] []

section
variable {w w' : World} {lab lab' : Nat → Nat} {p : Nat} {v v0 v1 v2 v3 v4 v5 : Value} {nm : List (Nat × Int)} {X : Nat → Prop} {xs0 xs1 xs2 xs3 xs4 : List Value}
theorem Bq.lt (h : Bq w lab p v0 v1 v2 v3 v4 v5 nm xs0 xs1 xs2 xs3 xs4) : p < w.heap.size := (Array.getElem?_eq_some_iff.1 h.box).1
theorem Bq.gro (h : Bq w lab p v0 v1 v2 v3 v4 v5 nm xs0 xs1 xs2 xs3 xs4) (g : Gro lab lab' w w' X) (hX : ∀ y, (11 ≤ y ∧ y ≤ 17) → ¬ X y) (hY : ∀ i, i < nm.length → ¬ X (yB i)) : Bq w' lab' p v0 v1 v2 v3 v4 v5 nm xs0 xs1 xs2 xs3 xs4 := by
  have n : ∀ y, 11 ≤ y → y ≤ 17 → ¬ X y := fun y h1 h2 => hX y ⟨h1, h2⟩
  have m : ∀ j i, i < (reps j nm).length → ¬ X (yB i) := fun j i hi => hY i (by rw [reps_len] at hi; exact hi)
  exact ⟨(g.block h.lt h.bp (n 17 (by omega) (by omega))).trans h.box, g.tag h.lt h.bp, h.l0.gro g (n _ (by omega) (by omega)) (m _), h.l1.gro g (n _ (by omega) (by omega)) (m _), h.l2.gro g (n _ (by omega) (by omega)) (m _), h.l3.gro g (n _ (by omega) (by omega)) (m _), h.l4.gro g (n _ (by omega) (by omega)) (m _), h.ms.gro g (n _ (by omega) (by omega))⟩
theorem Bq.far (h : Bq w lab p v0 v1 v2 v3 v4 v5 nm xs0 xs1 xs2 xs3 xs4) (g : Gro lab lab' w w' X) (hX : ∀ y, X y → ¬ isBk y) : Bq w' lab' p v0 v1 v2 v3 v4 v5 nm xs0 xs1 xs2 xs3 xs4 :=
  h.gro g (fun y hy hx => hX y hx (.inl hy)) (fun i _ hx => hX _ hx (.inr ⟨yB_ge i, yB_even i⟩))
theorem Bq.later (h : Bq w lab p v0 v1 v2 v3 v4 v5 nm xs0 xs1 xs2 xs3 xs4) (hz : LZ lab w) (hb : Below w.heap.size w w') : Bq w' lab p v0 v1 v2 v3 v4 v5 nm xs0 xs1 xs2 xs3 xs4 :=
  h.far (Gro.below hz hb (fun _ => False)) (fun _ h => h.elim)
theorem LX.rep {yr j : Nat} {yb : Nat → Nat} (h : LX w lab yr yb v (reps j nm) []) {i : Nat} (hi : i < nm.length) : ∃ g cap a c m, m = (nm[i]).1 + j ∧ v = .slice (some ⟨g, 0, none⟩) nm.length cap ∧ w.cell? ⟨g, i, none⟩ = some (.slice a m c) ∧ Src w a m (List.replicate m (nm[i]).2) := by
  obtain ⟨g, cap, a, c, e1, e2, e3⟩ := h.at (i := i) (by rw [reps_len]; exact hi)
  have e : (reps j nm)[i]'(by rw [reps_len]; exact hi) = List.replicate ((nm[i]).1 + j) (nm[i]).2 := by simp [reps]
  rw [e, List.length_replicate] at e2 e3
  rw [reps_len] at e1
  exact ⟨g, cap, a, c, _, rfl, e1, e2, e3.1⟩
theorem Bq.mark (h : Bq w lab p v0 v1 v2 v3 v4 v5 nm xs0 xs1 xs2 xs3 xs4) {i : Nat} (hi : i < nm.length) : ∃ g cap, v5 = .slice (some ⟨g, 0, none⟩) nm.length cap ∧ w.cell? ⟨g, i, none⟩ = some (.int .u8 (nm[i]).2) := by
  obtain ⟨g, c, e1, hr, _, _⟩ := h.ms.row (by omega)
  exact ⟨g, c, e1, hr.cell (by simp [bs, hi])⟩
/-- One more value at the end of list 0. -/
theorem Bq.push0 (h : Bq w lab p v0 v1 v2 v3 v4 v5 nm [] xs1 xs2 xs3 xs4) (hz : LZ lab w) (hN : nm.length ≤ 7000000000000) (u : Value) (hu : u.oneCell' = true) :
    ∃ g cap w1, (Builtin.append_ #[22, 22] 22 #[v0, .slice (some ⟨w.heap.size, 0, none⟩) 1 1]).run Try.prog (w.alloc (.cells #[u] 27)) = .ok (.slice (some ⟨g, 0, none⟩) (nm.length + 1) cap) w1 ∧ w1.cell? ⟨p, 0, none⟩ = some v0 ∧ w1.frozen? ⟨p, 0, none⟩ = false ∧ ∃ lab', Gro lab lab' w (w1.setCell ⟨p, 0, none⟩ (.slice (some ⟨g, 0, none⟩) (nm.length + 1) cap)) (fun y => y = 11 ∨ y = 17) ∧ Bq (w1.setCell ⟨p, 0, none⟩ (.slice (some ⟨g, 0, none⟩) (nm.length + 1) cap)) lab' p (.slice (some ⟨g, 0, none⟩) (nm.length + 1) cap) v1 v2 v3 v4 v5 nm [u] xs1 xs2 xs3 xs4 := by
  obtain ⟨g, cap, w1, hrun, lab', G, hl⟩ := h.l0.push hz (fun i e => by have := yB_ge i; omega) (by rw [reps_len]; exact hN) u hu
  simp only [reps_len, List.length_nil, Nat.add_zero, List.nil_append] at hrun hl
  have hbx : w1.heap[p]? = some (.cells (bkC v0 v1 v2 v3 v4 v5) 43 (0, 0)) := (G.block h.lt h.bp (fun e => by omega)).trans h.box
  have hlp := G.tag h.lt h.bp
  have G2 : Gro lab' lab' w1 (w1.setCell ⟨p, 0, none⟩ (.slice (some ⟨g, 0, none⟩) (nm.length + 1) cap)) (fun y => y = 17) := Gro.plain G.lz (Keeps.setCell (F := fun k => k = p) w1 (p := ⟨p, 0, none⟩) rfl _) (fun k _ e => by rw [e]; exact hlp)
  refine ⟨g, cap, w1, hrun, cell_of_block hbx rfl, frozen_of_block hbx _, lab', G.join G2 (fun y h => .inl h) (fun y h => .inr h), ⟨(heap_setCell_same _ _ 0 _ _ _ hbx).trans rfl, hlp, ?_, (h.l1.gro G (fun e => by omega) (fun i _ e => by have := yB_ge i; omega)).gro G2 (fun e => by omega) (fun i _ e => by have := yB_ge i; omega), (h.l2.gro G (fun e => by omega) (fun i _ e => by have := yB_ge i; omega)).gro G2 (fun e => by omega) (fun i _ e => by have := yB_ge i; omega), (h.l3.gro G (fun e => by omega) (fun i _ e => by have := yB_ge i; omega)).gro G2 (fun e => by omega) (fun i _ e => by have := yB_ge i; omega), (h.l4.gro G (fun e => by omega) (fun i _ e => by have := yB_ge i; omega)).gro G2 (fun e => by omega) (fun i _ e => by have := yB_ge i; omega), (h.ms.gro G (fun e => by omega)).gro G2 (fun e => by omega)⟩⟩
  exact hl.gro G2 (fun e => by omega) (fun i _ e => by have := yB_ge i; omega)
/-- One more value at the end of list 1. -/
theorem Bq.push1 (h : Bq w lab p v0 v1 v2 v3 v4 v5 nm xs0 [] xs2 xs3 xs4) (hz : LZ lab w) (hN : nm.length ≤ 7000000000000) (u : Value) (hu : u.oneCell' = true) :
    ∃ g cap w1, (Builtin.append_ #[22, 22] 22 #[v1, .slice (some ⟨w.heap.size, 0, none⟩) 1 1]).run Try.prog (w.alloc (.cells #[u] 27)) = .ok (.slice (some ⟨g, 0, none⟩) (nm.length + 1) cap) w1 ∧ w1.cell? ⟨p, 1, none⟩ = some v1 ∧ w1.frozen? ⟨p, 1, none⟩ = false ∧ ∃ lab', Gro lab lab' w (w1.setCell ⟨p, 1, none⟩ (.slice (some ⟨g, 0, none⟩) (nm.length + 1) cap)) (fun y => y = 12 ∨ y = 17) ∧ Bq (w1.setCell ⟨p, 1, none⟩ (.slice (some ⟨g, 0, none⟩) (nm.length + 1) cap)) lab' p v0 (.slice (some ⟨g, 0, none⟩) (nm.length + 1) cap) v2 v3 v4 v5 nm xs0 [u] xs2 xs3 xs4 := by
  obtain ⟨g, cap, w1, hrun, lab', G, hl⟩ := h.l1.push hz (fun i e => by have := yB_ge i; omega) (by rw [reps_len]; exact hN) u hu
  simp only [reps_len, List.length_nil, Nat.add_zero, List.nil_append] at hrun hl
  have hbx : w1.heap[p]? = some (.cells (bkC v0 v1 v2 v3 v4 v5) 43 (0, 0)) := (G.block h.lt h.bp (fun e => by omega)).trans h.box
  have hlp := G.tag h.lt h.bp
  have G2 : Gro lab' lab' w1 (w1.setCell ⟨p, 1, none⟩ (.slice (some ⟨g, 0, none⟩) (nm.length + 1) cap)) (fun y => y = 17) := Gro.plain G.lz (Keeps.setCell (F := fun k => k = p) w1 (p := ⟨p, 1, none⟩) rfl _) (fun k _ e => by rw [e]; exact hlp)
  refine ⟨g, cap, w1, hrun, cell_of_block hbx rfl, frozen_of_block hbx _, lab', G.join G2 (fun y h => .inl h) (fun y h => .inr h), ⟨(heap_setCell_same _ _ 1 _ _ _ hbx).trans rfl, hlp, (h.l0.gro G (fun e => by omega) (fun i _ e => by have := yB_ge i; omega)).gro G2 (fun e => by omega) (fun i _ e => by have := yB_ge i; omega), ?_, (h.l2.gro G (fun e => by omega) (fun i _ e => by have := yB_ge i; omega)).gro G2 (fun e => by omega) (fun i _ e => by have := yB_ge i; omega), (h.l3.gro G (fun e => by omega) (fun i _ e => by have := yB_ge i; omega)).gro G2 (fun e => by omega) (fun i _ e => by have := yB_ge i; omega), (h.l4.gro G (fun e => by omega) (fun i _ e => by have := yB_ge i; omega)).gro G2 (fun e => by omega) (fun i _ e => by have := yB_ge i; omega), (h.ms.gro G (fun e => by omega)).gro G2 (fun e => by omega)⟩⟩
  exact hl.gro G2 (fun e => by omega) (fun i _ e => by have := yB_ge i; omega)
/-- One more value at the end of list 2. -/
theorem Bq.push2 (h : Bq w lab p v0 v1 v2 v3 v4 v5 nm xs0 xs1 [] xs3 xs4) (hz : LZ lab w) (hN : nm.length ≤ 7000000000000) (u : Value) (hu : u.oneCell' = true) :
    ∃ g cap w1, (Builtin.append_ #[22, 22] 22 #[v2, .slice (some ⟨w.heap.size, 0, none⟩) 1 1]).run Try.prog (w.alloc (.cells #[u] 27)) = .ok (.slice (some ⟨g, 0, none⟩) (nm.length + 1) cap) w1 ∧ w1.cell? ⟨p, 2, none⟩ = some v2 ∧ w1.frozen? ⟨p, 2, none⟩ = false ∧ ∃ lab', Gro lab lab' w (w1.setCell ⟨p, 2, none⟩ (.slice (some ⟨g, 0, none⟩) (nm.length + 1) cap)) (fun y => y = 13 ∨ y = 17) ∧ Bq (w1.setCell ⟨p, 2, none⟩ (.slice (some ⟨g, 0, none⟩) (nm.length + 1) cap)) lab' p v0 v1 (.slice (some ⟨g, 0, none⟩) (nm.length + 1) cap) v3 v4 v5 nm xs0 xs1 [u] xs3 xs4 := by
  obtain ⟨g, cap, w1, hrun, lab', G, hl⟩ := h.l2.push hz (fun i e => by have := yB_ge i; omega) (by rw [reps_len]; exact hN) u hu
  simp only [reps_len, List.length_nil, Nat.add_zero, List.nil_append] at hrun hl
  have hbx : w1.heap[p]? = some (.cells (bkC v0 v1 v2 v3 v4 v5) 43 (0, 0)) := (G.block h.lt h.bp (fun e => by omega)).trans h.box
  have hlp := G.tag h.lt h.bp
  have G2 : Gro lab' lab' w1 (w1.setCell ⟨p, 2, none⟩ (.slice (some ⟨g, 0, none⟩) (nm.length + 1) cap)) (fun y => y = 17) := Gro.plain G.lz (Keeps.setCell (F := fun k => k = p) w1 (p := ⟨p, 2, none⟩) rfl _) (fun k _ e => by rw [e]; exact hlp)
  refine ⟨g, cap, w1, hrun, cell_of_block hbx rfl, frozen_of_block hbx _, lab', G.join G2 (fun y h => .inl h) (fun y h => .inr h), ⟨(heap_setCell_same _ _ 2 _ _ _ hbx).trans rfl, hlp, (h.l0.gro G (fun e => by omega) (fun i _ e => by have := yB_ge i; omega)).gro G2 (fun e => by omega) (fun i _ e => by have := yB_ge i; omega), (h.l1.gro G (fun e => by omega) (fun i _ e => by have := yB_ge i; omega)).gro G2 (fun e => by omega) (fun i _ e => by have := yB_ge i; omega), ?_, (h.l3.gro G (fun e => by omega) (fun i _ e => by have := yB_ge i; omega)).gro G2 (fun e => by omega) (fun i _ e => by have := yB_ge i; omega), (h.l4.gro G (fun e => by omega) (fun i _ e => by have := yB_ge i; omega)).gro G2 (fun e => by omega) (fun i _ e => by have := yB_ge i; omega), (h.ms.gro G (fun e => by omega)).gro G2 (fun e => by omega)⟩⟩
  exact hl.gro G2 (fun e => by omega) (fun i _ e => by have := yB_ge i; omega)
/-- One more value at the end of list 3. -/
theorem Bq.push3 (h : Bq w lab p v0 v1 v2 v3 v4 v5 nm xs0 xs1 xs2 [] xs4) (hz : LZ lab w) (hN : nm.length ≤ 7000000000000) (u : Value) (hu : u.oneCell' = true) :
    ∃ g cap w1, (Builtin.append_ #[22, 22] 22 #[v3, .slice (some ⟨w.heap.size, 0, none⟩) 1 1]).run Try.prog (w.alloc (.cells #[u] 27)) = .ok (.slice (some ⟨g, 0, none⟩) (nm.length + 1) cap) w1 ∧ w1.cell? ⟨p, 3, none⟩ = some v3 ∧ w1.frozen? ⟨p, 3, none⟩ = false ∧ ∃ lab', Gro lab lab' w (w1.setCell ⟨p, 3, none⟩ (.slice (some ⟨g, 0, none⟩) (nm.length + 1) cap)) (fun y => y = 14 ∨ y = 17) ∧ Bq (w1.setCell ⟨p, 3, none⟩ (.slice (some ⟨g, 0, none⟩) (nm.length + 1) cap)) lab' p v0 v1 v2 (.slice (some ⟨g, 0, none⟩) (nm.length + 1) cap) v4 v5 nm xs0 xs1 xs2 [u] xs4 := by
  obtain ⟨g, cap, w1, hrun, lab', G, hl⟩ := h.l3.push hz (fun i e => by have := yB_ge i; omega) (by rw [reps_len]; exact hN) u hu
  simp only [reps_len, List.length_nil, Nat.add_zero, List.nil_append] at hrun hl
  have hbx : w1.heap[p]? = some (.cells (bkC v0 v1 v2 v3 v4 v5) 43 (0, 0)) := (G.block h.lt h.bp (fun e => by omega)).trans h.box
  have hlp := G.tag h.lt h.bp
  have G2 : Gro lab' lab' w1 (w1.setCell ⟨p, 3, none⟩ (.slice (some ⟨g, 0, none⟩) (nm.length + 1) cap)) (fun y => y = 17) := Gro.plain G.lz (Keeps.setCell (F := fun k => k = p) w1 (p := ⟨p, 3, none⟩) rfl _) (fun k _ e => by rw [e]; exact hlp)
  refine ⟨g, cap, w1, hrun, cell_of_block hbx rfl, frozen_of_block hbx _, lab', G.join G2 (fun y h => .inl h) (fun y h => .inr h), ⟨(heap_setCell_same _ _ 3 _ _ _ hbx).trans rfl, hlp, (h.l0.gro G (fun e => by omega) (fun i _ e => by have := yB_ge i; omega)).gro G2 (fun e => by omega) (fun i _ e => by have := yB_ge i; omega), (h.l1.gro G (fun e => by omega) (fun i _ e => by have := yB_ge i; omega)).gro G2 (fun e => by omega) (fun i _ e => by have := yB_ge i; omega), (h.l2.gro G (fun e => by omega) (fun i _ e => by have := yB_ge i; omega)).gro G2 (fun e => by omega) (fun i _ e => by have := yB_ge i; omega), ?_, (h.l4.gro G (fun e => by omega) (fun i _ e => by have := yB_ge i; omega)).gro G2 (fun e => by omega) (fun i _ e => by have := yB_ge i; omega), (h.ms.gro G (fun e => by omega)).gro G2 (fun e => by omega)⟩⟩
  exact hl.gro G2 (fun e => by omega) (fun i _ e => by have := yB_ge i; omega)
/-- One more value at the end of list 4. -/
theorem Bq.push4 (h : Bq w lab p v0 v1 v2 v3 v4 v5 nm xs0 xs1 xs2 xs3 []) (hz : LZ lab w) (hN : nm.length ≤ 7000000000000) (u : Value) (hu : u.oneCell' = true) :
    ∃ g cap w1, (Builtin.append_ #[22, 22] 22 #[v4, .slice (some ⟨w.heap.size, 0, none⟩) 1 1]).run Try.prog (w.alloc (.cells #[u] 27)) = .ok (.slice (some ⟨g, 0, none⟩) (nm.length + 1) cap) w1 ∧ w1.cell? ⟨p, 4, none⟩ = some v4 ∧ w1.frozen? ⟨p, 4, none⟩ = false ∧ ∃ lab', Gro lab lab' w (w1.setCell ⟨p, 4, none⟩ (.slice (some ⟨g, 0, none⟩) (nm.length + 1) cap)) (fun y => y = 15 ∨ y = 17) ∧ Bq (w1.setCell ⟨p, 4, none⟩ (.slice (some ⟨g, 0, none⟩) (nm.length + 1) cap)) lab' p v0 v1 v2 v3 (.slice (some ⟨g, 0, none⟩) (nm.length + 1) cap) v5 nm xs0 xs1 xs2 xs3 [u] := by
  obtain ⟨g, cap, w1, hrun, lab', G, hl⟩ := h.l4.push hz (fun i e => by have := yB_ge i; omega) (by rw [reps_len]; exact hN) u hu
  simp only [reps_len, List.length_nil, Nat.add_zero, List.nil_append] at hrun hl
  have hbx : w1.heap[p]? = some (.cells (bkC v0 v1 v2 v3 v4 v5) 43 (0, 0)) := (G.block h.lt h.bp (fun e => by omega)).trans h.box
  have hlp := G.tag h.lt h.bp
  have G2 : Gro lab' lab' w1 (w1.setCell ⟨p, 4, none⟩ (.slice (some ⟨g, 0, none⟩) (nm.length + 1) cap)) (fun y => y = 17) := Gro.plain G.lz (Keeps.setCell (F := fun k => k = p) w1 (p := ⟨p, 4, none⟩) rfl _) (fun k _ e => by rw [e]; exact hlp)
  refine ⟨g, cap, w1, hrun, cell_of_block hbx rfl, frozen_of_block hbx _, lab', G.join G2 (fun y h => .inl h) (fun y h => .inr h), ⟨(heap_setCell_same _ _ 4 _ _ _ hbx).trans rfl, hlp, (h.l0.gro G (fun e => by omega) (fun i _ e => by have := yB_ge i; omega)).gro G2 (fun e => by omega) (fun i _ e => by have := yB_ge i; omega), (h.l1.gro G (fun e => by omega) (fun i _ e => by have := yB_ge i; omega)).gro G2 (fun e => by omega) (fun i _ e => by have := yB_ge i; omega), (h.l2.gro G (fun e => by omega) (fun i _ e => by have := yB_ge i; omega)).gro G2 (fun e => by omega) (fun i _ e => by have := yB_ge i; omega), (h.l3.gro G (fun e => by omega) (fun i _ e => by have := yB_ge i; omega)).gro G2 (fun e => by omega) (fun i _ e => by have := yB_ge i; omega), ?_, (h.ms.gro G (fun e => by omega)).gro G2 (fun e => by omega)⟩⟩
  exact hl.gro G2 (fun e => by omega) (fun i _ e => by have := yB_ge i; omega)
end
theorem wrapJ {n m : Nat} {c : Int} (h : (m : Int) = (n : Int) + c) (hm : m ≤ 1000000000) : IntKind.i64.wrap ((n : Int) + c) = (m : Int) ∧ wrap64 ((n : Int) + c) = (m : Int) := by
  rw [← h]
  refine ⟨?_, ?_⟩
  · rw [IntKind.wrap_i64]
    all_goals omega
  · unfold wrap64
    omega
/-- A list of the book, later. -/
theorem full_rep {w : World} {a : Option Addr} {m c q o : Nat} {x : Int} {u r : Value} (s : Src w a m (List.replicate m x)) (hm : m ≤ 1000000000) (d : w.cell? ⟨q, o, none⟩ = some u) {g i : Nat} (f : w.cell? ⟨g, i, none⟩ = some r) (w1 : World) (hb : Below w.heap.size w w1) :
    (Calls Try.prog 43 #[.slice a m c, .int .u8 x, .int .i64 (m : Int)] w1 fun e w' => e = .returned (.bool true) ∧ Below w1.heap.size w1 w') ∧ w1.cell? ⟨q, o, none⟩ = some u ∧ w1.cell? ⟨g, i, none⟩ = some r :=
  ⟨full_any a m c x w1 (by omega) (s.later hb), cell_later hb d, cell_later hb f⟩
end Go.Proofs.Ythdgndbmecnimaa
end

section
namespace Go.Proofs.Ythdgndbmecnimaa
open Go.RowKit Go.Maps

/-- Where a mark stood in y's blocks, it stands. -/
def Stay (x : Int) (y : Nat) (L L' : Nat → Nat) (w w' : World) : Prop := ∀ k o, L k = y → w.cell? ⟨k, o, none⟩ = some (.int .u8 x) → L' k = y ∧ w'.cell? ⟨k, o, none⟩ = some (.int .u8 x)
/-- The first n bytes of a block of y's are the mark. -/
def Xs (x : Int) (y : Nat) (L : Nat → Nat) (w : World) (g n : Nat) : Prop := ∀ o, o < n → L g = y ∧ w.cell? ⟨g, o, none⟩ = some (.int .u8 x)

section
variable {x : Int} {y n : Nat} {L L' L2 lab lab' : Nat → Nat} {w w' w2 : World} {X : Nat → Prop}
theorem Stay.refl (x : Int) (y : Nat) (L : Nat → Nat) (w : World) : Stay x y L L w w := fun _ _ h1 h2 => ⟨h1, h2⟩
theorem Stay.trans (h : Stay x y L L' w w') (h2 : Stay x y L' L2 w' w2) : Stay x y L L2 w w2 := fun k o h3 h4 => h2 k o (h k o h3 h4).1 (h k o h3 h4).2
theorem Stay.gro (g : Gro L L' w w' X) (hX : ¬ X y) : Stay x y L L' w w' := fun k o h1 h2 => by
  have hlt := World.block_lt_of_cell? _ _ h2
  exact ⟨g.tag hlt h1, (World.cell?_of_block (w := w) (a := ⟨k, o, none⟩) (g.block hlt h1 hX)).trans h2⟩
theorem Xs.stay {g : Nat} (h : Xs x y L w g n) (s : Stay x y L L' w w') : Xs x y L' w' g n := fun o ho => s g o (h o ho).1 (h o ho).2
theorem Xs.of {g c : Nat} (h : OR w L y 5 (.slice (some ⟨g, 0, none⟩) n c) n (bs (List.replicate n x))) : Xs x y L w g n := fun o ho => by
  obtain ⟨g2, c2, e, hr, hl, _⟩ := h.row (by omega)
  injection e with e1 e2 e3
  injection e1 with e4
  injection e4 with e5
  subst e5
  exact ⟨hl, hr.cell (by simp [bs, ho])⟩
theorem Xs.sl {g : Nat} (h : Xs x y L w g n) : SL w L y (some ⟨g, 0, none⟩) n (List.replicate n x) := by
  refine ⟨⟨by simp, (fun e => by cases e), fun z hz i hi => ?_⟩, fun z hz hp => ?_⟩
  · cases hz
    rw [addr_add, Nat.zero_add, (h i hi).2]
    simp [List.getD, hi]
  · cases hz
    exact (h 0 hp).1
theorem Gro.drew (hz : LZ lab w) (X : Nat → Prop) : Gro lab lab w w.drew X := Gro.plain hz (Keeps.drew (fun _ => False) w) (fun _ _ h => h.elim)
theorem Gro.boxed (hz : LZ lab w) (o : Obj) (X : Nat → Prop) : Gro lab lab w (w.alloc o) X := Gro.below hz (below_box w o) X
theorem yB_ne {i j : Nat} (h : i < j) : yB i ≠ yB j := by show 40 + 2 * i ≠ 40 + 2 * j; omega
end

section
variable {w : World} {lab : Nat → Nat} {p n : Nat} {v v0 v1 v2 v3 v4 v5 : Value} {nm : List (Nat × Int)} {xs0 xs1 xs2 xs3 xs4 : List Value} {l : List Int}
/-- The list with bytes behind it joins list 1. -/
theorem Bq.note1 (h : Bq w lab p v0 v1 v2 v3 v4 v5 nm xs0 [] xs2 xs3 xs4) (hz : LZ lab w) (hN : nm.length ≤ 7000000000000) (ho : OR w lab (yB nm.length) 5 v n (bs l)) (ad : Addr) (m c : Nat) (nw : List Int) (hm : nw.length = m) (hnw : ∀ j u, (bs nw)[j]? = some u → w.cell? (ad.add j) = some u) (h0 : 0 < m) (hb : n + m ≤ 1000000000) :
    ∃ g1 c1 F g2 c2 w2, (Builtin.append_ #[27, 27] 27 #[v, .slice (some ad) m c]).run Try.prog w = .ok (.slice (some ⟨g1, 0, none⟩) (n + m) c1) F ∧ F.cell? ⟨p, 1, none⟩ = some v1 ∧ (F.alloc (.cells #[.slice (some ⟨g1, 0, none⟩) (n + m) c1] 27)).cell? ⟨p, 1, none⟩ = some v1 ∧ (Builtin.append_ #[22, 22] 22 #[v1, .slice (some ⟨F.heap.size, 0, none⟩) 1 1]).run Try.prog (F.alloc (.cells #[.slice (some ⟨g1, 0, none⟩) (n + m) c1] 27)) = .ok (.slice (some ⟨g2, 0, none⟩) (nm.length + 1) c2) w2 ∧ w2.cell? ⟨p, 1, none⟩ = some v1 ∧ w2.frozen? ⟨p, 1, none⟩ = false ∧
      ∃ lab', Gro lab lab' w (w2.setCell ⟨p, 1, none⟩ (.slice (some ⟨g2, 0, none⟩) (nm.length + 1) c2)) (fun y => y = yB nm.length ∨ y = 12 ∨ y = 17) ∧ Bq (w2.setCell ⟨p, 1, none⟩ (.slice (some ⟨g2, 0, none⟩) (nm.length + 1) c2)) lab' p v0 (.slice (some ⟨g2, 0, none⟩) (nm.length + 1) c2) v2 v3 v4 v5 nm xs0 [.slice (some ⟨g1, 0, none⟩) (n + m) c1] xs2 xs3 xs4 ∧ OR (w2.setCell ⟨p, 1, none⟩ (.slice (some ⟨g2, 0, none⟩) (nm.length + 1) c2)) lab' (yB nm.length) 5 (.slice (some ⟨g1, 0, none⟩) (n + m) c1) (n + m) (bs (l ++ nw)) ∧ OR (w2.setCell ⟨p, 1, none⟩ (.slice (some ⟨g2, 0, none⟩) (nm.length + 1) c2)) lab' (yB nm.length) 5 v n (bs l) ∧ ∀ x, (∀ z ∈ nw, z = x) → Stay x (yB nm.length) lab lab' w (w2.setCell ⟨p, 1, none⟩ (.slice (some ⟨g2, 0, none⟩) (nm.length + 1) c2)) := by
  obtain ⟨g1, c1, F, hrun, lab1, G1, o1, o2⟩ := ho.app hz ad m c nw hm hnw h0 (by omega)
  have h1 := h.gro G1 (fun y hy e => by have := yB_ge nm.length; omega) (fun i hi e => yB_ne hi e)
  obtain ⟨g2, c2, w2, hrun2, hc, hf, lab2, G2, h2⟩ := h1.push1 G1.lz hN (.slice (some ⟨g1, 0, none⟩) (n + m) c1) rfl
  have hx : ¬ ((yB nm.length) = 12 ∨ (yB nm.length) = 17) := by have := yB_ge nm.length; omega
  have d1 : F.cell? ⟨p, 1, none⟩ = some v1 := cell_of_block h1.box rfl
  refine ⟨g1, c1, F, g2, c2, w2, hrun, d1, cell_later (below_box F _) d1, hrun2, hc, hf, lab2, G1.join G2 (fun y h => .inl h) (fun y h => .inr h), h2, o1.gro G2 hx, o2.gro G2 hx, fun x hxx => ?_⟩
  refine Stay.trans (L' := lab1) (w' := F) (fun k o hk hq => ⟨G1.tag (World.block_lt_of_cell? _ _ hq) hk, ho.stay ad m c nw hm hnw h0 hb hrun hxx hq⟩) (Stay.gro G2 hx)
/-- The list with bytes behind it joins list 2. -/
theorem Bq.note2 (h : Bq w lab p v0 v1 v2 v3 v4 v5 nm xs0 xs1 [] xs3 xs4) (hz : LZ lab w) (hN : nm.length ≤ 7000000000000) (ho : OR w lab (yB nm.length) 5 v n (bs l)) (ad : Addr) (m c : Nat) (nw : List Int) (hm : nw.length = m) (hnw : ∀ j u, (bs nw)[j]? = some u → w.cell? (ad.add j) = some u) (h0 : 0 < m) (hb : n + m ≤ 1000000000) :
    ∃ g1 c1 F g2 c2 w2, (Builtin.append_ #[27, 27] 27 #[v, .slice (some ad) m c]).run Try.prog w = .ok (.slice (some ⟨g1, 0, none⟩) (n + m) c1) F ∧ F.cell? ⟨p, 2, none⟩ = some v2 ∧ (F.alloc (.cells #[.slice (some ⟨g1, 0, none⟩) (n + m) c1] 27)).cell? ⟨p, 2, none⟩ = some v2 ∧ (Builtin.append_ #[22, 22] 22 #[v2, .slice (some ⟨F.heap.size, 0, none⟩) 1 1]).run Try.prog (F.alloc (.cells #[.slice (some ⟨g1, 0, none⟩) (n + m) c1] 27)) = .ok (.slice (some ⟨g2, 0, none⟩) (nm.length + 1) c2) w2 ∧ w2.cell? ⟨p, 2, none⟩ = some v2 ∧ w2.frozen? ⟨p, 2, none⟩ = false ∧
      ∃ lab', Gro lab lab' w (w2.setCell ⟨p, 2, none⟩ (.slice (some ⟨g2, 0, none⟩) (nm.length + 1) c2)) (fun y => y = yB nm.length ∨ y = 13 ∨ y = 17) ∧ Bq (w2.setCell ⟨p, 2, none⟩ (.slice (some ⟨g2, 0, none⟩) (nm.length + 1) c2)) lab' p v0 v1 (.slice (some ⟨g2, 0, none⟩) (nm.length + 1) c2) v3 v4 v5 nm xs0 xs1 [.slice (some ⟨g1, 0, none⟩) (n + m) c1] xs3 xs4 ∧ OR (w2.setCell ⟨p, 2, none⟩ (.slice (some ⟨g2, 0, none⟩) (nm.length + 1) c2)) lab' (yB nm.length) 5 (.slice (some ⟨g1, 0, none⟩) (n + m) c1) (n + m) (bs (l ++ nw)) ∧ OR (w2.setCell ⟨p, 2, none⟩ (.slice (some ⟨g2, 0, none⟩) (nm.length + 1) c2)) lab' (yB nm.length) 5 v n (bs l) ∧ ∀ x, (∀ z ∈ nw, z = x) → Stay x (yB nm.length) lab lab' w (w2.setCell ⟨p, 2, none⟩ (.slice (some ⟨g2, 0, none⟩) (nm.length + 1) c2)) := by
  obtain ⟨g1, c1, F, hrun, lab1, G1, o1, o2⟩ := ho.app hz ad m c nw hm hnw h0 (by omega)
  have h1 := h.gro G1 (fun y hy e => by have := yB_ge nm.length; omega) (fun i hi e => yB_ne hi e)
  obtain ⟨g2, c2, w2, hrun2, hc, hf, lab2, G2, h2⟩ := h1.push2 G1.lz hN (.slice (some ⟨g1, 0, none⟩) (n + m) c1) rfl
  have hx : ¬ ((yB nm.length) = 13 ∨ (yB nm.length) = 17) := by have := yB_ge nm.length; omega
  have d1 : F.cell? ⟨p, 2, none⟩ = some v2 := cell_of_block h1.box rfl
  refine ⟨g1, c1, F, g2, c2, w2, hrun, d1, cell_later (below_box F _) d1, hrun2, hc, hf, lab2, G1.join G2 (fun y h => .inl h) (fun y h => .inr h), h2, o1.gro G2 hx, o2.gro G2 hx, fun x hxx => ?_⟩
  refine Stay.trans (L' := lab1) (w' := F) (fun k o hk hq => ⟨G1.tag (World.block_lt_of_cell? _ _ hq) hk, ho.stay ad m c nw hm hnw h0 hb hrun hxx hq⟩) (Stay.gro G2 hx)
/-- The list with bytes behind it joins list 3. -/
theorem Bq.note3 (h : Bq w lab p v0 v1 v2 v3 v4 v5 nm xs0 xs1 xs2 [] xs4) (hz : LZ lab w) (hN : nm.length ≤ 7000000000000) (ho : OR w lab (yB nm.length) 5 v n (bs l)) (ad : Addr) (m c : Nat) (nw : List Int) (hm : nw.length = m) (hnw : ∀ j u, (bs nw)[j]? = some u → w.cell? (ad.add j) = some u) (h0 : 0 < m) (hb : n + m ≤ 1000000000) :
    ∃ g1 c1 F g2 c2 w2, (Builtin.append_ #[27, 27] 27 #[v, .slice (some ad) m c]).run Try.prog w = .ok (.slice (some ⟨g1, 0, none⟩) (n + m) c1) F ∧ F.cell? ⟨p, 3, none⟩ = some v3 ∧ (F.alloc (.cells #[.slice (some ⟨g1, 0, none⟩) (n + m) c1] 27)).cell? ⟨p, 3, none⟩ = some v3 ∧ (Builtin.append_ #[22, 22] 22 #[v3, .slice (some ⟨F.heap.size, 0, none⟩) 1 1]).run Try.prog (F.alloc (.cells #[.slice (some ⟨g1, 0, none⟩) (n + m) c1] 27)) = .ok (.slice (some ⟨g2, 0, none⟩) (nm.length + 1) c2) w2 ∧ w2.cell? ⟨p, 3, none⟩ = some v3 ∧ w2.frozen? ⟨p, 3, none⟩ = false ∧
      ∃ lab', Gro lab lab' w (w2.setCell ⟨p, 3, none⟩ (.slice (some ⟨g2, 0, none⟩) (nm.length + 1) c2)) (fun y => y = yB nm.length ∨ y = 14 ∨ y = 17) ∧ Bq (w2.setCell ⟨p, 3, none⟩ (.slice (some ⟨g2, 0, none⟩) (nm.length + 1) c2)) lab' p v0 v1 v2 (.slice (some ⟨g2, 0, none⟩) (nm.length + 1) c2) v4 v5 nm xs0 xs1 xs2 [.slice (some ⟨g1, 0, none⟩) (n + m) c1] xs4 ∧ OR (w2.setCell ⟨p, 3, none⟩ (.slice (some ⟨g2, 0, none⟩) (nm.length + 1) c2)) lab' (yB nm.length) 5 (.slice (some ⟨g1, 0, none⟩) (n + m) c1) (n + m) (bs (l ++ nw)) ∧ OR (w2.setCell ⟨p, 3, none⟩ (.slice (some ⟨g2, 0, none⟩) (nm.length + 1) c2)) lab' (yB nm.length) 5 v n (bs l) ∧ ∀ x, (∀ z ∈ nw, z = x) → Stay x (yB nm.length) lab lab' w (w2.setCell ⟨p, 3, none⟩ (.slice (some ⟨g2, 0, none⟩) (nm.length + 1) c2)) := by
  obtain ⟨g1, c1, F, hrun, lab1, G1, o1, o2⟩ := ho.app hz ad m c nw hm hnw h0 (by omega)
  have h1 := h.gro G1 (fun y hy e => by have := yB_ge nm.length; omega) (fun i hi e => yB_ne hi e)
  obtain ⟨g2, c2, w2, hrun2, hc, hf, lab2, G2, h2⟩ := h1.push3 G1.lz hN (.slice (some ⟨g1, 0, none⟩) (n + m) c1) rfl
  have hx : ¬ ((yB nm.length) = 14 ∨ (yB nm.length) = 17) := by have := yB_ge nm.length; omega
  have d1 : F.cell? ⟨p, 3, none⟩ = some v3 := cell_of_block h1.box rfl
  refine ⟨g1, c1, F, g2, c2, w2, hrun, d1, cell_later (below_box F _) d1, hrun2, hc, hf, lab2, G1.join G2 (fun y h => .inl h) (fun y h => .inr h), h2, o1.gro G2 hx, o2.gro G2 hx, fun x hxx => ?_⟩
  refine Stay.trans (L' := lab1) (w' := F) (fun k o hk hq => ⟨G1.tag (World.block_lt_of_cell? _ _ hq) hk, ho.stay ad m c nw hm hnw h0 hb hrun hxx hq⟩) (Stay.gro G2 hx)
/-- The list with bytes behind it joins list 4. -/
theorem Bq.note4 (h : Bq w lab p v0 v1 v2 v3 v4 v5 nm xs0 xs1 xs2 xs3 []) (hz : LZ lab w) (hN : nm.length ≤ 7000000000000) (ho : OR w lab (yB nm.length) 5 v n (bs l)) (ad : Addr) (m c : Nat) (nw : List Int) (hm : nw.length = m) (hnw : ∀ j u, (bs nw)[j]? = some u → w.cell? (ad.add j) = some u) (h0 : 0 < m) (hb : n + m ≤ 1000000000) :
    ∃ g1 c1 F g2 c2 w2, (Builtin.append_ #[27, 27] 27 #[v, .slice (some ad) m c]).run Try.prog w = .ok (.slice (some ⟨g1, 0, none⟩) (n + m) c1) F ∧ F.cell? ⟨p, 4, none⟩ = some v4 ∧ (F.alloc (.cells #[.slice (some ⟨g1, 0, none⟩) (n + m) c1] 27)).cell? ⟨p, 4, none⟩ = some v4 ∧ (Builtin.append_ #[22, 22] 22 #[v4, .slice (some ⟨F.heap.size, 0, none⟩) 1 1]).run Try.prog (F.alloc (.cells #[.slice (some ⟨g1, 0, none⟩) (n + m) c1] 27)) = .ok (.slice (some ⟨g2, 0, none⟩) (nm.length + 1) c2) w2 ∧ w2.cell? ⟨p, 4, none⟩ = some v4 ∧ w2.frozen? ⟨p, 4, none⟩ = false ∧
      ∃ lab', Gro lab lab' w (w2.setCell ⟨p, 4, none⟩ (.slice (some ⟨g2, 0, none⟩) (nm.length + 1) c2)) (fun y => y = yB nm.length ∨ y = 15 ∨ y = 17) ∧ Bq (w2.setCell ⟨p, 4, none⟩ (.slice (some ⟨g2, 0, none⟩) (nm.length + 1) c2)) lab' p v0 v1 v2 v3 (.slice (some ⟨g2, 0, none⟩) (nm.length + 1) c2) v5 nm xs0 xs1 xs2 xs3 [.slice (some ⟨g1, 0, none⟩) (n + m) c1] ∧ OR (w2.setCell ⟨p, 4, none⟩ (.slice (some ⟨g2, 0, none⟩) (nm.length + 1) c2)) lab' (yB nm.length) 5 (.slice (some ⟨g1, 0, none⟩) (n + m) c1) (n + m) (bs (l ++ nw)) ∧ OR (w2.setCell ⟨p, 4, none⟩ (.slice (some ⟨g2, 0, none⟩) (nm.length + 1) c2)) lab' (yB nm.length) 5 v n (bs l) ∧ ∀ x, (∀ z ∈ nw, z = x) → Stay x (yB nm.length) lab lab' w (w2.setCell ⟨p, 4, none⟩ (.slice (some ⟨g2, 0, none⟩) (nm.length + 1) c2)) := by
  obtain ⟨g1, c1, F, hrun, lab1, G1, o1, o2⟩ := ho.app hz ad m c nw hm hnw h0 (by omega)
  have h1 := h.gro G1 (fun y hy e => by have := yB_ge nm.length; omega) (fun i hi e => yB_ne hi e)
  obtain ⟨g2, c2, w2, hrun2, hc, hf, lab2, G2, h2⟩ := h1.push4 G1.lz hN (.slice (some ⟨g1, 0, none⟩) (n + m) c1) rfl
  have hx : ¬ ((yB nm.length) = 15 ∨ (yB nm.length) = 17) := by have := yB_ge nm.length; omega
  have d1 : F.cell? ⟨p, 4, none⟩ = some v4 := cell_of_block h1.box rfl
  refine ⟨g1, c1, F, g2, c2, w2, hrun, d1, cell_later (below_box F _) d1, hrun2, hc, hf, lab2, G1.join G2 (fun y h => .inl h) (fun y h => .inr h), h2, o1.gro G2 hx, o2.gro G2 hx, fun x hxx => ?_⟩
  refine Stay.trans (L' := lab1) (w' := F) (fun k o hk hq => ⟨G1.tag (World.block_lt_of_cell? _ _ hq) hk, ho.stay ad m c nw hm hnw h0 hb hrun hxx hq⟩) (Stay.gro G2 hx)
/-- The mark joins the marks. -/
theorem Bq.marked (h : Bq w lab p v0 v1 v2 v3 v4 v5 nm xs0 xs1 xs2 xs3 xs4) (hz : LZ lab w) (hN : nm.length ≤ 140000000000000) (x : Int) :
    ∃ g cap w1, (Builtin.append_ #[27, 27] 27 #[v5, .slice (some ⟨w.heap.size, 0, none⟩) 1 1]).run Try.prog (w.alloc (.cells #[.int .u8 x] 5)) = .ok (.slice (some ⟨g, 0, none⟩) (nm.length + 1) cap) w1 ∧ w1.cell? ⟨p, 5, none⟩ = some v5 ∧ w1.frozen? ⟨p, 5, none⟩ = false ∧ ∃ lab', Gro lab lab' w (w1.setCell ⟨p, 5, none⟩ (.slice (some ⟨g, 0, none⟩) (nm.length + 1) cap)) (fun y => y = 16 ∨ y = 17) ∧
      (w1.setCell ⟨p, 5, none⟩ (.slice (some ⟨g, 0, none⟩) (nm.length + 1) cap)).heap[p]? = some (.cells (bkC v0 v1 v2 v3 v4 (.slice (some ⟨g, 0, none⟩) (nm.length + 1) cap)) 43 (0, 0)) ∧ OR (w1.setCell ⟨p, 5, none⟩ (.slice (some ⟨g, 0, none⟩) (nm.length + 1) cap)) lab' 16 5 (.slice (some ⟨g, 0, none⟩) (nm.length + 1) cap) (nm.length + 1) (bs (nm.map (·.2) ++ [x])) := by
  obtain ⟨i0, hi, hz0, hz1, hz2⟩ := info_parts infoU8
  have hown := (h.ms.gro (Gro.boxed hz (.cells #[.int .u8 x] 5) (fun _ => False)) (fun e => e)).1
  obtain ⟨g, cap, w1, hr, hw, hg, hat, hlt⟩ := run_append_lies (P := Try.prog) (w.alloc (.cells #[.int .u8 x] 5)) 27 27 0 5 i0 (.int .u8 0) 1 1 Try.underlying27 hi hz0 hz1 hz2 rfl (by decide) v5 nm.length _ hown ⟨w.heap.size, 0, none⟩ 1 1 [.int .u8 x] rfl (World.news_of_block (cs := #[.int .u8 x]) (t := 5) (fr := (0, 0)) (heap_alloc_new w _)) (by simp [Value.oneCell']) (by omega) (by unfold maxLen; omega) (by omega) (Nat.zero_le _) _ rfl
  have hbx := below_box w (.cells #[.int .u8 x] 5)
  have hk : Keeps (fun k => v5.ownBlock = some k) w w1 := ⟨hg.os.trans hbx.os, hg.tape.trans hbx.tape, hg.output.trans hbx.output, Nat.le_trans hbx.size hg.size, fun k hk hq => (hg.block k (Nat.lt_of_lt_of_le hk hbx.size) (fun e => hq e.symm)).trans (hbx.block k hk)⟩
  have G := Gro.keeps hz hk 16 (fun k _ hf => h.ms.2 k hf)
  have hb1 : w1.heap[p]? = some (.cells (bkC v0 v1 v2 v3 v4 v5) 43 (0, 0)) := (G.block h.lt h.bp (fun e => by omega)).trans h.box
  have hlp := G.tag h.lt h.bp
  have G2 : Gro (relab lab w.heap.size w1.heap.size 16) (relab lab w.heap.size w1.heap.size 16) w1 (w1.setCell ⟨p, 5, none⟩ (.slice (some ⟨g, 0, none⟩) (nm.length + 1) cap)) (fun y => y = 17) := Gro.plain G.lz (Keeps.setCell (F := fun k => k = p) w1 (p := ⟨p, 5, none⟩) rfl _) (fun k _ e => by rw [e]; exact hlp)
  refine ⟨g, cap, w1, hr, cell_of_block hb1 rfl, frozen_of_block hb1 _, _, G.join G2 (fun y h => .inl h) (fun y h => .inr h), (heap_setCell_same _ _ 5 _ _ _ hb1).trans rfl, OR.gro ⟨by simpa [bs] using hw, fun k hk' => ?_⟩ G2 (fun e => by omega)⟩
  have e : k = g := by simpa [Value.ownBlock] using hk'.symm
  subst e
  rcases hat with e | e
  · exact G.tag (rowLt h.ms.1 e) (h.ms.2 _ e)
  · exact relab_new (by rw [e]; simp) hlt
end
end Go.Proofs.Ythdgndbmecnimaa
end
