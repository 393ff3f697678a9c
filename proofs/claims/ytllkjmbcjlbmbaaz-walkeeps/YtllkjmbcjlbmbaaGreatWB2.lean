import Derived.Test.YtllkjmbcjlbmbaaGreatWB1
namespace Go.Proofs.YtllkjmbcjlbmbaaGreat
open Go.RowKit Go.Maps

/-- A list of lists of bytes that grows: the row is its own; what its lists hold is written by nobody. -/
def LL (w0 wr : World) (F : Nat → Prop) (v : Value) (ds : List (List Int)) : Prop :=
  ∃ vs, wr.ownsRow w0.heap.size 35 1 v ds.length vs ∧ (∀ g, v.ownBlock = some g → ¬ F g) ∧ ∀ i (hi : i < ds.length), ∃ a c, vs[i]? = some (.slice (some a) (ds[i]).length c) ∧ Src wr (some a) (ds[i]).length ds[i] ∧ 0 < (ds[i]).length ∧ ¬ F a.block ∧ (a.block < w0.heap.size ∨ ∃ cur fz, wr.heap[a.block]? = some (.cells cur 5 fz))

theorem app_rec2 {W : World} {B k : Nat} {v : Value} {vs : List Value} (hrow : W.ownsRow B 35 1 v k vs) (x : Value) (hx : x.oneCell' = true) (hk : k ≤ 1000000) (hB : B ≤ W.heap.size) :
    ∃ g cap w', (Builtin.append_ #[29, 29] 29 #[v, .slice (some ⟨W.heap.size, 0, none⟩) 1 1]).run Tryz.prog (W.alloc (.cells #[x] 35)) = .ok (.slice (some ⟨g, 0, none⟩) (k + 1) cap) w' ∧ w'.ownsRow B 35 1 (.slice (some ⟨g, 0, none⟩) (k + 1) cap) (k + 1) (vs ++ [x]) ∧ (W.alloc (.cells #[x] 35)).grownBy w' v.ownBlock ∧ (v.ownBlock = some g ∨ g = W.heap.size + 1) := by
  obtain ⟨i0, hi, hz0, hz1, hz2⟩ := info_parts infoRow
  obtain ⟨g, cap, w', h1, h2, h3, h4, _⟩ := run_append_lies (P := Tryz.prog) (W.alloc (.cells #[x] 35)) 29 29 B 35 i0 (.slice none 0 0) 1 24 Tryz.underlying29 hi hz0 hz1 hz2 rfl (by decide) v k vs (owns_agree hrow (fun g hg => by
      obtain ⟨cur, hc⟩ := owns_block hrow hg
      exact Below.heap_alloc _ _ _ (lt_there hc))) ⟨W.heap.size, 0, none⟩ 1 1 [x] rfl (World.news_of_block (cs := #[x]) (t := 35) (fr := (0, 0)) (heap_alloc_new W _)) (by simpa using hx) (by omega) (by unfold maxLen; omega) (by omega) (by simp; omega) _ rfl
  exact ⟨g, cap, w', h1, h2, h3, h4.imp (fun e => e) (fun e => e.trans (by simp))⟩

section
variable {w0 wr w' : World} {F F' G : Nat → Prop} {v : Value} {ds : List (List Int)}
theorem LL.nil (w0 wr : World) (F : Nat → Prop) : LL w0 wr F (.slice none 0 0) [] := ⟨[], World.ownsRow_nil _ _ _ _, (fun g h => by simp [Value.ownBlock] at h), fun i hi => by cases hi⟩
theorem LL.form (h : LL w0 wr F v ds) : ∃ la lc, v = .slice la ds.length lc ∧ ds.length ≤ lc ∧ LLs wr la ds := by
  obtain ⟨vs, h1, _, h2⟩ := h
  have hvl : vs.length = ds.length := by have := h1.1; simpa using this
  by_cases h0 : ds.length = 0
  · obtain ⟨hl, ⟨rfl, h3⟩ | ⟨g, cap, cur, rfl, hg, hb, h4⟩⟩ := h1
    · exact ⟨none, 0, by rw [h0], by omega, fun i hi => by omega⟩
    · exact ⟨_, _, rfl, by omega, fun i hi => by omega⟩
  · obtain ⟨g, c, rfl, hg, hr, _⟩ := RowAt.of_owns h1 (by
      intro e
      obtain ⟨hl, ⟨rfl, h3⟩ | ⟨g, cap, cur, rfl, hg, hb, h4⟩⟩ := h1
      · exact h0 h3
      · cases e)
    refine ⟨_, _, rfl, by have := hr.le; omega, fun i hi => ?_⟩
    obtain ⟨a, c2, e1, e2, _⟩ := h2 i hi
    exact ⟨g, _, c2, rfl, hr.cell e1, e2⟩
theorem LL.keep (h : LL w0 wr F v ds) (hk : Keeps G wr w') (hG : ∀ k, G k → F k ∨ (w0.heap.size ≤ k ∧ ∃ cur t fz, wr.heap[k]? = some (.cells cur t fz) ∧ t ≠ 5 ∧ t ≠ 35)) (hF : ∀ k, F' k → F k ∨ wr.heap.size ≤ k) : LL w0 w' F' v ds := by
  obtain ⟨vs, h1, h2, h3⟩ := h
  refine ⟨vs, owns_agree h1 (fun g hg => ?_), fun g hg hf => ?_, fun i hi => ?_⟩
  · obtain ⟨cur, hc⟩ := owns_block h1 hg
    refine hk.block g (lt_there hc) (fun hq => ?_)
    rcases hG g hq with hq | ⟨_, cur', t, fz, hc', _, ht⟩
    · exact h2 g hg hq
    · exact type_ne hc' hc ht
  · rcases hF g hf with hq | hq
    · exact h2 g hg hq
    · have := owns_lt h1 hg; omega
  · obtain ⟨a, c, e1, e2, e3, e4, e5⟩ := h3 i hi
    have hlt := e2.old a rfl e3
    have hnG : ¬ G a.block := fun hq => by
      rcases hG _ hq with hq | ⟨hl, cur', t, fz, hc', ht, _⟩
      · exact e4 hq
      · rcases e5 with h5 | ⟨cur, fz2, h5⟩
        · omega
        · exact type_ne hc' h5 ht
    refine ⟨a, c, e1, e2.avoid hk (fun y e _ => by cases e; exact hnG), e3, fun hf => ?_, ?_⟩
    · rcases hF _ hf with hq | hq
      · exact e4 hq
      · omega
    · rcases e5 with h5 | ⟨cur, fz2, h5⟩
      · exact .inl h5
      · exact .inr ⟨cur, fz2, (hk.block _ hlt hnG).trans h5⟩
theorem LL.later (h : LL w0 wr F v ds) (hb : Below wr.heap.size wr w') : LL w0 w' F v ds := h.keep (Keeps.of_below (fun _ => False) hb) (fun _ h => h.elim) (fun _ h => .inl h)
/-- One more list. -/
theorem LL.push (h : LL w0 wr F v ds) (h0 : w0.heap.size ≤ wr.heap.size) (hF : ∀ k, F k → k < wr.heap.size) (hn : ds.length ≤ 1000000) {a : Addr} {d : List Int} (c : Nat) (hs : Src wr (some a) d.length d) (hd : 0 < d.length) (hnF : ¬ F a.block) (ha : a.block < w0.heap.size) :
    ∃ g' cap' w', (Builtin.append_ #[29, 29] 29 #[v, .slice (some ⟨wr.heap.size, 0, none⟩) 1 1]).run Tryz.prog (wr.alloc (.cells #[.slice (some a) d.length c] 35)) = .ok (.slice (some ⟨g', 0, none⟩) (ds.length + 1) cap') w' ∧ LL w0 w' F (.slice (some ⟨g', 0, none⟩) (ds.length + 1) cap') (ds ++ [d]) ∧ Keeps (fun k => v.ownBlock = some k) wr w' := by
  obtain ⟨vs, h1, h2, h3⟩ := h
  obtain ⟨g', cap', w', hrun, ho, hg, hat⟩ := app_rec2 h1 (.slice (some a) d.length c) rfl hn h0
  have hbx := below_box wr (.cells #[.slice (some a) d.length c] 35)
  have hvl : vs.length = ds.length := by have := h1.1; simpa using this
  have hk : Keeps (fun k => v.ownBlock = some k) wr w' := ⟨hg.os.trans hbx.os, hg.tape.trans hbx.tape, hg.output.trans hbx.output, Nat.le_trans hbx.size hg.size, fun k hk hq => (hg.block k (Nat.lt_of_lt_of_le hk hbx.size) (fun e => hq e.symm)).trans (hbx.block k hk)⟩
  refine ⟨g', cap', w', hrun, ⟨vs ++ [.slice (some a) d.length c], by rw [List.length_append]; exact ho, fun g hq hf => ?_, fun i hi => ?_⟩, hk⟩
  · have eg : g' = g := by simpa [Value.ownBlock] using hq
    subst eg
    rcases hat with e | e
    · exact h2 _ e hf
    · have := hF _ hf; omega
  · by_cases e : i < ds.length
    · obtain ⟨a2, c2, e1, e2, e3, e4, e5⟩ := h3 i e
      have hlt := e2.old a2 rfl e3
      have hne : ¬ v.ownBlock = some a2.block := fun hq => by
        obtain ⟨cur, hc⟩ := owns_block h1 hq
        rcases e5 with h5 | ⟨cur2, fz, h5⟩
        · have := own_lo h1 hq; omega
        · exact type_ne h5 hc (by decide)
      refine ⟨a2, c2, ?_, ?_⟩
      · rw [List.getElem?_append_left (by omega), e1, List.getElem_append_left e]
      · rw [List.getElem_append_left e]
        exact ⟨e2.avoid hk (fun y ey _ => by cases ey; exact hne), e3, e4, e5.imp id (fun ⟨cur, fz, h5⟩ => ⟨cur, fz, (hk.block _ hlt hne).trans h5⟩)⟩
    · have ei : i = ds.length := by simp at hi; omega
      subst ei
      have hne : ¬ v.ownBlock = some a.block := fun hq => by have := own_lo h1 hq; omega
      refine ⟨a, c, ?_, ?_⟩
      · rw [List.getElem?_append_right (by omega), hvl]
        simp
      · simp only [List.getElem_append_right (Nat.le_refl _), Nat.sub_self, List.getElem_cons_zero]
        exact ⟨hs.avoid hk (fun y ey _ => by cases ey; exact hne), hd, hnF, .inl ha⟩
end
end Go.Proofs.YtllkjmbcjlbmbaaGreat
