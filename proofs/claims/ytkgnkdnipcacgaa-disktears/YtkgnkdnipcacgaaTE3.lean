import Derived.Test.YtkgnkdnipcacgaaTE2
namespace Go.Proofs.Ytkgnkdnipcacgaa
open Go.RowKit Go.Maps

theorem row_part {w : World} {g c s k : Nat} {im : List Int} (h : RowAt w 5 g c (bs im)) (him : im.length = s * 512) (hk : k < s) : Src w (some ⟨g, k * 512, none⟩) 512 (sec im k) := by
  have hlen : (sec im k).length = 512 := by simp [sec]; omega
  refine ⟨hlen, fun e => (by cases e), fun x hx i hi => ?_⟩
  cases hx
  rw [addr_add]
  have e : (sec im k).getD i 0 = im.getD (k * 512 + i) 0 := by
    simp only [sec, List.getD, List.getElem?_take, List.getElem?_drop]
    rw [if_pos (by omega)]
  rw [e]
  have := h.byte (i := k * 512 + i) (by omega)
  rwa [addr_add, Nat.zero_add] at this
/-- A sector's own list: what was, and what was written since. -/
def RowK (w : World) (F : Nat → Prop) (lab : Nat → Nat) (k : Nat) (v : Value) (x : List (List Int)) : Prop :=
  ∃ (g c : Nat) (us : List Value), v = .slice (some ⟨g, 0, none⟩) x.length c ∧ 0 < x.length ∧ lab g = k + 2 ∧ ¬ F g ∧ RowAt w 22 g c us ∧ us.length = x.length ∧ ∀ (i : Nat) (l : List Int), x[i]? = some l → ∃ (a : Option Addr) (c' : Nat), us[i]? = some (Value.slice a 512 c') ∧ Src w a 512 l ∧ ∀ y, a = some y → ¬ F y.block ∧ lab y.block = 0
/-- The list of the sectors' lists; whose a block is: 1 its own, k + 2 a sector's list, 0 what is read. -/
structure MayAt (B : Nat) (w : World) (F : Nat → Prop) (q cq s : Nat) (f : Nat → List (List Int)) : Prop where
  nf : ¬ F q
  r : ∃ (lab : Nat → Nat) (vs : List Value), lab q = 1 ∧ (∀ b, b < B → lab b = 0) ∧ RowAt w 28 q cq vs ∧ vs.length = s ∧ ∀ k, k < s → ∃ v, vs[k]? = some v ∧ RowK w F lab k v (f k)

theorem src_agree {w w' : World} {a : Option Addr} {n : Nat} {l : List Int} (h : Src w a n l) (ha : ∀ y, a = some y → 0 < n → w'.heap[y.block]? = w.heap[y.block]?) : Src w' a n l :=
  ⟨h.1, h.2.1, fun x hx i hi => by
    have h0 := h.2.2 x hx i hi
    have hb : (x.add i).block = x.block := by unfold Addr.add; split <;> rfl
    rw [World.cell?_of_block (w := w) (by rw [hb]; exact ha x hx (by omega))]
    exact h0⟩
theorem RowK.keep {w w' : World} {F F' : Nat → Prop} {lab lab' : Nat → Nat} {k : Nat} {v : Value} {x : List (List Int)} (h : RowK w F lab k v x) (hb : ∀ b, b < w.heap.size → ¬ F b → (lab b = 0 ∨ lab b = k + 2) → w'.heap[b]? = w.heap[b]?) (hf : ∀ b, b < w.heap.size → ¬ F b → ¬ F' b) (hl : ∀ b, b < w.heap.size → lab' b = lab b) : RowK w' F' lab' k v x := by
  obtain ⟨g, c, us, e1, e2, e3, e4, e5, e6, e7⟩ := h
  refine ⟨g, c, us, e1, e2, by rw [hl g e5.lt]; exact e3, hf g e5.lt e4, e5.agree (hb g e5.lt e4 (.inr e3)), e6, fun i l hi => ?_⟩
  obtain ⟨a, c', q1, q2, q3⟩ := e7 i l hi
  refine ⟨a, c', q1, src_agree q2 (fun y e _ => hb _ (q2.there (by omega) e) (q3 y e).1 (.inl (q3 y e).2)), fun y e => ?_⟩
  have := q2.there (by omega) e
  exact ⟨hf _ this (q3 y e).1, by rw [hl _ this]; exact (q3 y e).2⟩
section
variable {B : Nat} {w w' : World} {F F' : Nat → Prop} {q cq s : Nat} {f f' : Nat → List (List Int)}
theorem MayAt.lt (h : MayAt B w F q cq s f) : q < w.heap.size := by
  obtain ⟨_, vs, _, _, h1, _⟩ := h.r
  exact h1.lt
theorem MayAt.keep (h : MayAt B w F q cq s f) (hb : ∀ b, b < w.heap.size → ¬ F b → w'.heap[b]? = w.heap[b]?) (hf : ∀ b, b < w.heap.size → ¬ F b → ¬ F' b) (hff : ∀ k, k < s → f' k = f k) : MayAt B w' F' q cq s f' := by
  have hq := h.lt
  obtain ⟨lab, vs, a1, a2, a3, a4, a5⟩ := h.r
  refine ⟨hf q hq h.nf, lab, vs, a1, a2, a3.agree (hb q hq h.nf), a4, fun k hk => ?_⟩
  obtain ⟨v, b1, b2⟩ := a5 k hk
  exact ⟨v, b1, by rw [hff k hk]; exact b2.keep (fun b h1 h2 _ => hb b h1 h2) hf (fun _ _ => rfl)⟩
theorem MayAt.more (h : MayAt B w F q cq s f) (hk : Keeps F w w') (hff : ∀ k, k < s → f' k = f k) : MayAt B w' (more F w w') q cq s f' :=
  h.keep (fun b h1 h2 => hk.block b h1 h2) (fun b h1 h2 hm => by rcases hm with hm | hm; exact h2 hm; omega) hff
theorem MayAt.later (h : MayAt B w F q cq s f) (hb : Below w.heap.size w w') : MayAt B w' F q cq s f :=
  h.keep (fun b h1 _ => hb.block b h1) (fun _ _ h => h) (fun _ _ => rfl)
/-- A sector's list, to be read. -/
theorem MayAt.at (h : MayAt B w F q cq s f) {k : Nat} (hk : k < s) : ∃ g c, w.cell? ⟨q, k, none⟩ = some (.slice (some ⟨g, 0, none⟩) (f k).length c) ∧ 0 < (f k).length ∧ NowAt w F g c (f k).length (fun i => (f k).getD i []) := by
  obtain ⟨lab, vs, a1, a2, a3, a4, a5⟩ := h.r
  obtain ⟨v, b1, g, c, us, rfl, e2, e3, e4, e5, e6, e7⟩ := a5 k hk
  refine ⟨g, c, a3.cell b1, e2, e4, us, e5, e6, fun i hi => ?_⟩
  obtain ⟨a, c', q1, q2, q3⟩ := e7 i _ (List.getElem?_eq_getElem hi)
  refine ⟨a, c', q1, ?_, fun y e => ⟨(q3 y e).1, fun hy => ?_⟩⟩
  · rw [List.getD, List.getElem?_eq_getElem hi]; exact q2
  · have := (q3 y e).2
    rw [hy] at this
    omega
/-- A sector's list is a new one of one. -/
theorem MayAt.reset (h : MayAt B w F q cq s f) (hB : B ≤ w.heap.size) (hF : ∀ b, F b → b < w.heap.size) {k i : Nat} (hk : k < s) (hi : i < (f k).length) {g c : Nat} (hg : w.cell? ⟨q, k, none⟩ = some (.slice (some ⟨g, 0, none⟩) (f k).length c)) {v : Value} (hv : w.cell? ⟨g, i, none⟩ = some v) (hff : ∀ j, j < s → f' j = if j = k then [(f k).getD i []] else f j) :
    MayAt B ((w.alloc (.cells #[v] 22)).setCell ⟨q, k, none⟩ (.slice (some ⟨w.heap.size, 0, none⟩) 1 1)) F q cq s f' := by
  have hq := h.lt
  obtain ⟨lab, vs, a1, a2, a3, a4, a5⟩ := h.r
  have hblk : ∀ b, b < w.heap.size + 1 → b ≠ q → ((w.alloc (.cells #[v] 22)).setCell ⟨q, k, none⟩ (.slice (some ⟨w.heap.size, 0, none⟩) 1 1)).heap[b]? = (w.alloc (.cells #[v] 22)).heap[b]? := fun b h1 h2 =>
    (Keeps.setCell (F := fun j => j = q) _ (p := ⟨q, k, none⟩) rfl _).block b (by simp; omega) h2
  have hold : ∀ b, b < w.heap.size → b ≠ q → ((w.alloc (.cells #[v] 22)).setCell ⟨q, k, none⟩ (.slice (some ⟨w.heap.size, 0, none⟩) 1 1)).heap[b]? = w.heap[b]? := fun b h1 h2 =>
    (hblk b (by omega) h2).trans (heap_alloc_old _ _ h1)
  refine ⟨h.nf, fun b => if b = w.heap.size then k + 2 else lab b, vs.set k (.slice (some ⟨w.heap.size, 0, none⟩) 1 1), by show (if q = w.heap.size then k + 2 else lab q) = 1; rw [if_neg (by omega)]; exact a1, fun b hb => by show (if b = w.heap.size then k + 2 else lab b) = 0; rw [if_neg (by omega)]; exact a2 b hb, (a3.agree (heap_alloc_old _ _ hq)).put k _, by rw [List.length_set]; exact a4, fun j hj => ?_⟩
  by_cases e : j = k
  · subst e
    refine ⟨_, by rw [List.getElem?_set_self (by omega)], w.heap.size, 1, [v], by rw [hff j hj, if_pos rfl]; rfl, by rw [hff j hj, if_pos rfl]; simp, if_pos rfl, fun hf => by have := hF _ hf; omega, ?_, by rw [hff j hj, if_pos rfl]; rfl, fun i' l hi' => ?_⟩
    · exact ⟨#[v], by rw [hblk _ (by omega) (by omega)]; exact heap_alloc_new _ _, rfl, rfl, by unfold maxLen; omega⟩
    · rw [hff j hj, if_pos rfl] at hi'
      obtain ⟨v0, b1, g0, c0, us, rfl, e2, e3, e4, e5, e6, e7⟩ := a5 j hj
      have hc := a3.cell b1
      rw [hc] at hg
      cases hg
      obtain ⟨a, c', q1, q2, q3⟩ := e7 i _ (List.getElem?_eq_getElem hi)
      have hc2 := e5.cell q1
      rw [hc2] at hv
      cases hv
      have hi0 : i' = 0 := by
        have := (List.getElem?_eq_some_iff.1 hi').1
        simp at this
        omega
      subst hi0
      simp only [List.getElem?_cons_zero, Option.some.injEq] at hi'
      refine ⟨a, c', rfl, ?_, fun y e => ⟨(q3 y e).1, ?_⟩⟩
      · rw [← hi', List.getD, List.getElem?_eq_getElem hi]
        refine src_agree q2 (fun y e _ => hold _ (q2.there (by omega) e) (fun hy => ?_))
        have := (q3 y e).2
        rw [hy] at this
        omega
      · have := q2.there (by omega) e
        show (if y.block = w.heap.size then j + 2 else lab y.block) = 0
        rw [if_neg (by omega)]
        exact (q3 y e).2
  · obtain ⟨v', b1, b2⟩ := a5 j hj
    refine ⟨v', by rw [List.getElem?_set_ne (fun h => e h.symm)]; exact b1, by
      rw [hff j hj, if_neg e]
      refine b2.keep (fun b h1 h2 h3 => hold b h1 (fun hb => by rw [hb] at h3; omega)) (fun _ _ h => h) (fun b h1 => ?_)
      show (if b = w.heap.size then k + 2 else lab b) = lab b
      rw [if_neg (by omega)]⟩
/-- A sector's list is longer by one. -/
theorem MayAt.grow (h : MayAt B w F q cq s f) (hB : B ≤ w.heap.size) (hF : ∀ b, F b → b < w.heap.size) {k : Nat} (hk : k < s) {g c : Nat} (hg : w.cell? ⟨q, k, none⟩ = some (.slice (some ⟨g, 0, none⟩) (f k).length c)) {us : List Value} (hus : RowAt w 22 g c us) (hul : us.length = (f k).length) {a : Option Addr} {cd : Nat} {l : List Int} (hsrc : Src w a 512 l) (ha : ∀ y, a = some y → y.block < B ∧ ¬ F y.block) {o2 : Obj} {g2 c2 : Nat} {w1 : World}
    (hown : w1.ownsRow 0 22 1 (.slice (some ⟨g2, 0, none⟩) ((f k).length + 1) c2) ((f k).length + 1) (us ++ [.slice a 512 cd])) (hgr : (w.alloc o2).grownBy w1 (some g)) (hat : g = g2 ∨ g2 = w.heap.size + 1) (hlt : g2 < w1.heap.size) (hff : ∀ j, j < s → f' j = if j = k then f k ++ [l] else f j) :
    MayAt B (w1.setCell ⟨q, k, none⟩ (.slice (some ⟨g2, 0, none⟩) ((f k).length + 1) c2)) F q cq s f' := by
  have hq := h.lt
  obtain ⟨lab, vs, a1, a2, a3, a4, a5⟩ := h.r
  obtain ⟨v0, b1, g0, c0, us0, rfl, e2, e3, e4, e5, e6, e7⟩ := a5 k hk
  have hc := a3.cell b1
  rw [hc] at hg
  cases hg
  have hgl := e5.lt
  have hu0 : us0 = us := by
    obtain ⟨cur, p1, _, p2, _⟩ := e5
    obtain ⟨cur', p1', _, p2', _⟩ := hus
    rw [p1] at p1'
    cases p1'
    rw [← p2, ← p2', e6, hul]
  subst hu0
  have hgq : g ≠ q := fun e => by rw [e] at e3; omega
  have hg2q : g2 ≠ q := by rcases hat with h | h <;> omega
  have hw1 : ∀ b, b < w.heap.size → b ≠ g → w1.heap[b]? = w.heap[b]? := fun b h1 h2 =>
    (hgr.block b (by simp; omega) (by simpa using h2)).trans (heap_alloc_old _ _ h1)
  have hsz := hgr.size
  simp at hsz
  have hold : ∀ b, b < w.heap.size → b ≠ g → b ≠ q → (w1.setCell ⟨q, k, none⟩ (.slice (some ⟨g2, 0, none⟩) ((f k).length + 1) c2)).heap[b]? = w.heap[b]? := fun b h1 h2 h3 =>
    ((Keeps.setCell (F := fun j => j = q) w1 (p := ⟨q, k, none⟩) rfl _).block b (by omega) h3).trans (hw1 b h1 h2)
  obtain ⟨_, _, hv2, _, hr2, _⟩ := RowAt.of_owns hown (by intro h; cases h)
  cases hv2
  have hr3 := hr2.agree (w' := w1.setCell ⟨q, k, none⟩ (.slice (some ⟨g2, 0, none⟩) ((f k).length + 1) c2)) ((Keeps.setCell (F := fun j => j = q) w1 (p := ⟨q, k, none⟩) rfl _).block g2 hlt hg2q)
  have hl2 : ∀ b, b < w.heap.size → (if b = g2 then k + 2 else lab b) = lab b := fun b hb => by
    split
    · next e => rcases hat with h | h
                · rw [e, ← h, e3]
                · omega
    · rfl
  refine ⟨h.nf, fun b => if b = g2 then k + 2 else lab b, vs.set k (.slice (some ⟨g2, 0, none⟩) ((f k).length + 1) c2), (hl2 q hq).trans a1, fun b hb => (hl2 b (by omega)).trans (a2 b hb), (a3.agree (hw1 q hq (fun h => hgq h.symm))).put k _, by rw [List.length_set]; exact a4, fun j hj => ?_⟩
  by_cases e : j = k
  · subst e
    have ef : f' j = f j ++ [l] := by rw [hff j hj, if_pos rfl]
    refine ⟨_, by rw [List.getElem?_set_self (by omega)], g2, c2, us0 ++ [.slice a 512 cd], by rw [ef]; simp, by rw [ef]; simp, if_pos rfl, fun hf => ?_, hr3, by rw [ef]; simp [hul], fun i x hi => ?_⟩
    · rcases hat with h | h
      · rw [← h] at hf; exact e4 hf
      · have := hF _ hf; omega
    · rw [ef] at hi
      by_cases hij : i < (f j).length
      · rw [List.getElem?_append_left hij] at hi
        obtain ⟨a', c', q1, q2, q3⟩ := e7 i x hi
        refine ⟨a', c', by rw [List.getElem?_append_left (by omega)]; exact q1, src_agree q2 (fun y e _ => hold _ (q2.there (by omega) e) (fun hy => ?_) (fun hy => ?_)), fun y e => ⟨(q3 y e).1, (hl2 _ (q2.there (by omega) e)).trans (q3 y e).2⟩⟩
        all_goals
          have := (q3 y e).2
          rw [hy] at this
          omega
      · have hij' : i = (f j).length := by
          have := (List.getElem?_eq_some_iff.1 hi).1
          simp at this
          omega
        subst hij'
        simp at hi
        subst hi
        refine ⟨a, cd, by rw [List.getElem?_append_right (by omega), hul]; simp, src_agree hsrc (fun y e _ => hold _ (hsrc.there (by omega) e) (fun hy => ?_) (fun hy => ?_)), fun y e => ⟨(ha y e).2, (hl2 _ (hsrc.there (by omega) e)).trans (a2 _ (ha y e).1)⟩⟩
        all_goals
          have := a2 _ (ha y e).1
          rw [hy] at this
          omega
  · obtain ⟨v', b1', b2⟩ := a5 j hj
    refine ⟨v', by rw [List.getElem?_set_ne (fun h => e h.symm)]; exact b1', by
      rw [hff j hj, if_neg e]
      refine b2.keep (fun b h1 h2 h3 => hold b h1 (fun hb => by rw [hb] at h3; omega) (fun hb => by rw [hb] at h3; omega)) (fun _ _ h => h) hl2⟩
end
/-- What begin makes. -/
theorem mayAt_begin {B : Nat} {w w' : World} {F : Nat → Prop} {g c q cq s : Nat} {rs : List Nat} {im : List Int} (h : RowAt w 5 g c (bs im)) (him : im.length = s * 512) (hb : Below w.heap.size w w') (hg : ¬ F g) (hF : ∀ b, F b → b < w.heap.size) (hB : B ≤ g) (hq : w.heap.size ≤ q) (hr : RowAt w' 28 q cq (headsOf rs)) (hl : rs.length = s) (hnd : rs.Nodup) (hrs : ∀ k r, rs[k]? = some r → w.heap.size ≤ r ∧ r ≠ q ∧ RowAt w' 22 r 1 [.slice (some ⟨g, k * 512, none⟩) 512 (c - k * 512)]) :
    MayAt B w' F q cq s (fun k => [sec im k]) := by
  have hgl := h.lt
  refine ⟨fun hf => by have := hF _ hf; omega, fun b => if b = q then 1 else if b ∈ rs then rs.idxOf b + 2 else 0, headsOf rs, if_pos rfl, fun b hb' => ?_, hr, by simp [headsOf, hl], fun k hk => ?_⟩
  · show (if b = q then 1 else if b ∈ rs then rs.idxOf b + 2 else 0) = 0
    rw [if_neg (by omega), if_neg]
    intro hm
    obtain ⟨k, hk⟩ := List.getElem?_of_mem hm
    have := (hrs k b hk).1
    omega
  · have hk' : k < rs.length := by omega
    have hkr := List.getElem?_eq_getElem hk'
    obtain ⟨t1, t2, t3⟩ := hrs k _ hkr
    refine ⟨.slice (some ⟨rs[k], 0, none⟩) 1 1, by simp [headsOf, hkr], rs[k], 1, _, rfl, by simp, ?_, fun hf => by have := hF _ hf; omega, t3, rfl, fun i l hi => ?_⟩
    · show (if rs[k] = q then 1 else if rs[k] ∈ rs then rs.idxOf rs[k] + 2 else 0) = k + 2
      rw [if_neg t2, if_pos (List.getElem_mem hk'), List.Nodup.idxOf_getElem hnd]
    · have hi0 : i = 0 := by
        have := (List.getElem?_eq_some_iff.1 hi).1
        simp at this
        omega
      subst hi0
      simp at hi
      subst hi
      refine ⟨_, _, rfl, (row_part h him hk).later hb, fun y e => ?_⟩
      cases e
      refine ⟨hg, ?_⟩
      show (if g = q then 1 else if g ∈ rs then rs.idxOf g + 2 else 0) = 0
      rw [if_neg (by omega), if_neg]
      intro hm
      obtain ⟨k, hk⟩ := List.getElem?_of_mem hm
      have := (hrs k g hk).1
      omega
end Go.Proofs.Ytkgnkdnipcacgaa
