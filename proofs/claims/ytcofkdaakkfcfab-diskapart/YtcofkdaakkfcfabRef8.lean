import Derived.Test.YtcofkdaakkfcfabRef3
namespace Go.Proofs.Ytcofkdaakkfcfab
open Go.RowKit Go.Maps

/-- The sectors laid so far. -/
def LS (w : World) (lo : Nat) (l : List Int) (vs : List Value) : Prop := ∀ i, i < vs.length → ∃ g c, vs[i]? = some (.slice (some ⟨g, 0, none⟩) 512 c) ∧ lo ≤ g ∧ RowAt w 5 g c (bs (sec l i))

theorem ref_fresh {w0 w : World} {r s gl cl : Nat} {vs : List Value} {l : List Int} (hb : w.heap[r]? = some (.cells (dkCells (.slice (some ⟨gl, 0, none⟩) s cl) (.slice none 0 0) (-1) 1 0 0 0 0) 86 (0, 0))) (hr : RowAt w 22 gl cl vs) (hvl : vs.length = s) (hls : LS w w0.heap.size l vs)
    (hr0 : w0.heap.size ≤ r) (hg0 : w0.heap.size ≤ gl) (hl : l.length = s * 512) (h1 : 1 ≤ s) (h2 : s ≤ 2048) : RefAt w (fun k => w0.heap.size ≤ k ∧ k < w.heap.size) r s (DS.fresh l) := by
  refine ⟨gl, cl, vs, .slice none 0 0, [], ⟨hr0, (Array.getElem?_eq_some_iff.1 hb).1⟩, ⟨hg0, hr.lt⟩, fun k hk => hk.2, hb, hr, hvl, fun k hk => ?_, World.ownsRow_nil _ _ _ _, by simp [Value.ownBlock], by simp [DS.fresh], ⟨hl, h1, h2, by simp [DS.fresh], by simp [DS.fresh]⟩⟩
  obtain ⟨g, c, e1, e2, e3⟩ := hls k (by omega)
  exact ⟨g, c, e1, ⟨e2, e3.lt⟩, e3⟩

theorem rnew_no (s : Int) (w : World) (h : s < 1 ∨ 2048 < s) :
    Calls Try.prog 45 #[.int .i64 s] w fun e w' => e = .returned (.tuple #[.pointer none, .int .i64 10]) ∧ w' = w := by
  rcases h with h | h
  · go_enter Try.func45, Try.ntmps45
    go_wp2
    go_ret2
    exact ⟨rfl, rfl⟩
  · have h' : ¬ s < 1 := by omega
    go_enter Try.func45, Try.ntmps45
    go_wp2
    go_ret2
    exact ⟨rfl, rfl⟩

theorem zeros_low (w : World) :
    Calls Try.prog 56 #[] w fun e w' => e = .returned (.slice (some ⟨w.heap.size, 0, none⟩) 512 512) ∧ RowAt w' 5 w.heap.size 512 (bs (List.replicate 512 0)) ∧ Below w.heap.size w w' := by
  obtain ⟨i0, hi, hz0, hz1, hz2⟩ := info_parts infoU8
  go_enter Try.func56, Try.ntmps56
  go_wp2_with (at_make; refine wpList_make_full _ rfl _ _ 22 rfl w.heap.size 5 i0 (.int .u8 0) 1 Try.underlying22 hi hz0 hz1 _ _ _ _ 512 rfl rfl (by omega) (by omega) (by rw [hz2]; omega) (by unfold maxLen; omega) (Nat.le_refl _) ?_)
  intro w1 hown hgrow
  have hr := made_row (by simpa [Value.cells] using hown)
  have hb : Below w.heap.size w w1 := (Below.refl _ w).grown hgrow (Nat.le_refl _) (by intro k hk; cases hk)
  have Hr := Hid.mk hr
  clear hown hgrow hr
  go_wp2
  go_ret
  exact ⟨rfl, Hr.out, hb⟩

theorem sec_zero (s k : Nat) (hk : k < s) : sec (List.replicate (s * 512) 0) k = List.replicate 512 0 := by
  unfold sec
  rw [List.drop_replicate, List.take_replicate]
  congr 1
  omega

/-- One sector joins. -/
theorem LS.snoc {w w' : World} {lo : Nat} {l : List Int} {vs : List Value} (h : LS w lo l vs) (hb : ∀ b c ys, lo ≤ b → RowAt w 5 b c ys → RowAt w' 5 b c ys) {g c : Nat} (hg : lo ≤ g) (hr : RowAt w' 5 g c (bs (sec l vs.length))) : LS w' lo l (vs ++ [.slice (some ⟨g, 0, none⟩) 512 c]) := by
  intro i hi
  by_cases hi' : i < vs.length
  · obtain ⟨g', c', e1, e2, e3⟩ := h i hi'
    exact ⟨g', c', by rw [List.getElem?_append_left hi']; exact e1, e2, hb _ _ _ e2 e3⟩
  · have ei : i = vs.length := by simp at hi; omega
    subst ei
    exact ⟨g, c, by simp, hg, hr⟩

/-- What a round leaves: the list has grown, and lies in the struct. -/
theorem last_step {w0 w1 w2 : World} {r j g2 cap2 g cg : Nat} {v : Value} {vs : List Value} {l : List Int} {o : Obj} (hr0 : w0.heap.size ≤ r) (hb1 : Below w0.heap.size w0 w1) (hst : w1.heap[r]? = some (.cells (dkCells v (.slice none 0 0) (-1) 1 0 0 0 0) 86 (0, 0)))
    (hown1 : w1.ownsRow w0.heap.size 22 1 v j vs) (hls : LS w1 w0.heap.size l vs) (hg : w0.heap.size ≤ g) (hr : RowAt w1 5 g cg (bs (sec l vs.length)))
    (hgrow : (w1.alloc o).grownBy w2 v.ownBlock) (hown : w2.ownsRow w0.heap.size 22 1 (.slice (some ⟨g2, 0, none⟩) (j + 1) cap2) (j + 1) (vs ++ [.slice (some ⟨g, 0, none⟩) 512 cg])) :
    w2.cell? ⟨r, 0, none⟩ = some v ∧ w2.frozen? ⟨r, 0, none⟩ = false ∧
    (w2.setCell ⟨r, 0, none⟩ (.slice (some ⟨g2, 0, none⟩) (j + 1) cap2)).heap[r]? = some (.cells (dkCells (.slice (some ⟨g2, 0, none⟩) (j + 1) cap2) (.slice none 0 0) (-1) 1 0 0 0 0) 86 (0, 0)) ∧
    (w2.setCell ⟨r, 0, none⟩ (.slice (some ⟨g2, 0, none⟩) (j + 1) cap2)).ownsRow w0.heap.size 22 1 (.slice (some ⟨g2, 0, none⟩) (j + 1) cap2) (j + 1) (vs ++ [.slice (some ⟨g, 0, none⟩) 512 cg]) ∧
    LS (w2.setCell ⟨r, 0, none⟩ (.slice (some ⟨g2, 0, none⟩) (j + 1) cap2)) w0.heap.size l (vs ++ [.slice (some ⟨g, 0, none⟩) 512 cg]) ∧ Below w0.heap.size w0 (w2.setCell ⟨r, 0, none⟩ (.slice (some ⟨g2, 0, none⟩) (j + 1) cap2)) ∧
    (∀ b c ys, RowAt w1 5 b c ys → RowAt (w2.setCell ⟨r, 0, none⟩ (.slice (some ⟨g2, 0, none⟩) (j + 1) cap2)) 5 b c ys) := by
  have hzs : (w1.alloc o).heap.size = w1.heap.size + 1 := by simp
  have hz2 := hgrow.size
  have hrl := (Array.getElem?_eq_some_iff.1 hst).1
  have hr2 : w2.heap[r]? = some (.cells (dkCells v (.slice none 0 0) (-1) 1 0 0 0 0) 86 (0, 0)) :=
    ((hgrow.block r (by omega) (fun e => ownsRow_ne hown1 e.symm hst (by decide) rfl)).trans (Below.heap_alloc _ _ _ hrl)).trans hst
  have keep : ∀ b c ys, RowAt w1 5 b c ys → RowAt (w2.setCell ⟨r, 0, none⟩ (.slice (some ⟨g2, 0, none⟩) (j + 1) cap2)) 5 b c ys := fun b c ys hb => by
    have h1 := hb.lt
    have hne := hb.ne hst (by decide)
    have hb2 := hb
    obtain ⟨cur, hbb, _⟩ := hb2
    exact hb.agree ((Below.heap_setCell _ _ _ _ hne).trans ((hgrow.block b (by omega) (fun e => ownsRow_ne hown1 e.symm hbb (by decide) rfl)).trans (Below.heap_alloc _ _ _ h1)))
  refine ⟨cell_of_block hr2 (j := 0) rfl, frozen_of_block hr2 0, ?_, ?_, hls.snoc (fun b c ys _ h => keep b c ys h) hg (keep _ _ _ hr), ?_, keep⟩
  · rw [heap_setCell_same _ _ _ _ _ _ hr2]; simp [dkCells]
  · exact ownsRow_agree hown (fun b e => Below.heap_setCell _ _ _ _ (ownsRow_ne hown e hr2 (by decide)))
  · exact ((hb1.alloc hb1.size o).grown hgrow (by have := hb1.size; omega) (fun b e => (hown1.lt b e).1)).setCell hr0 _

set_option maxHeartbeats 4000000 in
theorem rnew_ok (s : Nat) (w : World) (h1 : 1 ≤ s) (h2 : s ≤ 2048) :
    Calls Try.prog 45 #[.int .i64 s] w fun e w' => ∃ r, e = .returned (.tuple #[.pointer (some ⟨r, 0, none⟩), .int .i64 0]) ∧ RefAt w' (fun k => w.heap.size ≤ k ∧ k < w'.heap.size) r s (DS.fresh (List.replicate (s * 512) 0)) ∧ Below w.heap.size w w' := by
  obtain ⟨i0, hi0, hz0, hz1, hz2⟩ := info_parts infoRow
  have h1' : ¬ (s : Int) < 1 := by omega
  have h2' : ¬ (2048 : Int) < (s : Int) := by omega
  go_enter Try.func45, Try.ntmps45
  go_wp2_with (go_at_call 56; refine (zeros_low w).mono ?_; rintro e w1 ⟨rfl, hr1, hb1⟩)
  have hsz := hb1.size
  have hst : (w1.alloc (.cells (dkCells (.slice none 0 0) (.slice none 0 0) (-1) 1 0 0 0 0) 86)).heap[w1.heap.size]? = some (.cells (dkCells (.slice none 0 0) (.slice none 0 0) (-1) 1 0 0 0 0) 86 (0, 0)) := heap_alloc_new _ _
  have hz3 : RowAt (w1.alloc (.cells (dkCells (.slice none 0 0) (.slice none 0 0) (-1) 1 0 0 0 0) 86)) 5 w.heap.size 512 (bs (List.replicate 512 0)) := hr1.agree (Below.heap_alloc _ _ _ hr1.lt)
  have hb3 : Below w.heap.size w (w1.alloc (.cells (dkCells (.slice none 0 0) (.slice none 0 0) (-1) 1 0 0 0 0) 86)) := hb1.alloc hsz _
  have H0 := Hid.mk (And.intro hst (And.intro hz3 hb3))
  clear hst hz3 hb3 hr1 hb1
  go_loopw [6] (fun i wr => ∃ j : Nat, j ≤ s ∧ i = .int .i64 (j : Int) ∧ ∃ v vs, wr.heap[w1.heap.size]? = some (.cells (dkCells v (.slice none 0 0) (-1) 1 0 0 0 0) 86 (0, 0)) ∧ wr.ownsRow w.heap.size 22 1 v j vs ∧ LS wr w.heap.size (List.replicate (s * 512) 0) vs ∧
      RowAt wr 5 w.heap.size 512 (bs (List.replicate 512 0)) ∧ Below w.heap.size w wr) (fun i _ => s - (intOf i).toNat)
  case atStart => exact ⟨0, Nat.zero_le _, rfl, .slice none 0 0, [], H0.out.1, World.ownsRow_nil _ _ _ _, fun i hi => by simp at hi, H0.out.2.1, H0.out.2.2⟩
  case round =>
    clear H0
    obtain ⟨j, hj, rfl, v, vs, hst, hown, hls, hz, hb⟩ := hrel
    have c0 := cell_of_block hst (j := 0) rfl
    have hvl : vs.length = j := by simpa using hown.1
    by_cases hlt : j < s
    · have hlt' : (j : Int) < (s : Int) := by omega
      obtain ⟨av, cv, hv⟩ : ∃ a c, v = .slice a j c := by
        obtain ⟨_, ⟨e, hn⟩ | ⟨g, cap, cur, e, _⟩⟩ := hown
        · exact ⟨none, 0, by rw [e, hn]⟩
        · exact ⟨_, _, e⟩
      subst hv
      have Hall := Hid.mk (And.intro hst (And.intro hown (And.intro hls (And.intro hz hb))))
      have hrl := (Array.getElem?_eq_some_iff.1 hst).1
      have hwz := hb.size
      clear hst hls hz hb
      have Hown := Hid.mk hown
      clear hown
      go_wp2_with (at_builtin; refine wpList_append_own _ rfl _ _ 36 rfl w.heap.size 22 i0 (.slice none 0 0) 1 24 Try.underlying36 hi0 hz0 hz1 hz2 rfl (by decide) _ _ _ rfl (Hown.out.alloc _) ⟨wr.heap.size, 0, none⟩ 1 1 [.slice (some ⟨w.heap.size, 0, none⟩) 512 512] rfl rfl (cell_one_new _ _ _) (by intro u hu; simp at hu; subst hu; rfl) (by unfold maxLen; omega) (by omega) (by simp; omega) ?_)
      intro v' w3 hown' hgrow hnil
      obtain ⟨g2, cap2, rfl, _, _, _⟩ := RowAt.of_owns hown' (by rintro rfl; rcases hown'.2 with ⟨_, h⟩ | ⟨_, _, _, h, _⟩; omega; cases h)
      obtain ⟨hst, hown, hls, hz, hb⟩ := Hall.out
      obtain ⟨d1, d2, d3, d4, d5, d6, d7⟩ := last_step hsz hb hst hown hls (Nat.le_refl _) (by rw [hvl, sec_zero s j hlt]; exact hz) hgrow hown'
      have Hz := Hid.mk (And.intro d3 (And.intro d4 (And.intro d5 (And.intro (d7 _ _ _ hz) d6))))
      clear d3 d4 d5 d6 d7 hst hown hls hz hb hown' hgrow hnil Hall Hown c0
      go_wp2
      go_roundw
      case rel => exact ⟨j + 1, by omega, by go_num, _, _, Hz.out⟩
      case measure => simp [intOf]; omega
    · have hlt' : ¬ (j : Int) < (s : Int) := by omega
      have ej : j = s := by omega
      subst ej
      obtain ⟨g2, cap2, hv, hg2, hr2, _⟩ := RowAt.of_owns hown (by rintro rfl; rcases hown.2 with ⟨_, h⟩ | ⟨_, _, _, h, _⟩; omega; cases h)
      rw [hv] at hst
      have hfin := ref_fresh (w0 := w) hst hr2 hvl hls hsz hg2 (by simp) h1 h2
      have Hq := Hid.mk (And.intro hfin hb)
      clear hst hown hls hz hb hr2 hfin c0
      go_wp2
      go_ret2
      exact ⟨_, rfl, Hq.out⟩
end Go.Proofs.Ytcofkdaakkfcfab
