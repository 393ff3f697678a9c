import Derived.Test.YtcofkdaakkfcfabRef8
namespace Go.Proofs.Ytcofkdaakkfcfab
open Go.RowKit Go.Maps

theorem rload_bad (a : Option Addr) (n c : Nat) (w : World) (h : n % 512 ≠ 0) :
    Calls Try.prog 44 #[.slice a n c] w fun e w' => e = .returned (.tuple #[.pointer none, .int .i64 2]) ∧ w' = w := by
  have h' : (((n : Int) % 512) != 0) = true := by rw [bne_iff_ne]; omega
  go_enter Try.func44, Try.ntmps44
  go_wp2
  go_ret2
  exact ⟨rfl, rfl⟩

theorem rload_no (a : Option Addr) (n c : Nat) (w : World) (hn : n ≤ 140737488355328) (h : n % 512 = 0) (h0 : n = 0 ∨ 1048576 < n) :
    Calls Try.prog 44 #[.slice a n c] w fun e w' => e = .returned (.tuple #[.pointer none, .int .i64 10]) ∧ w' = w := by
  have h' : (((n : Int) % 512) != 0) = false := by rw [Bool.eq_false_iff, ne_eq, bne_iff_ne]; omega
  obtain ⟨q, hq⟩ : ∃ q : Nat, ((n : Int) / 512) = (q : Int) := ⟨n / 512, by omega⟩
  have hwq : wrap64 (q : Int) = (q : Int) := by unfold wrap64; omega
  rcases h0 with h0 | h0
  · have h1 : (q : Int) < 1 := by omega
    go_enter Try.func44, Try.ntmps44
    go_wp2
    go_ret2
    exact ⟨rfl, rfl⟩
  · have h1 : ¬ (q : Int) < 1 := by omega
    have h2 : 2048 < (q : Int) := by omega
    go_enter Try.func44, Try.ntmps44
    go_wp2
    go_ret2
    exact ⟨rfl, rfl⟩

theorem part_src {w : World} {b o n k : Nat} {l : List Int} (h : ∀ i, i < n → w.cell? ⟨b, o + i, none⟩ = some (.int .u8 (l.getD i 0))) (hl : l.length = n) (hk : k * 512 + 512 ≤ n) : Src w (some ⟨b, o + k * 512, none⟩) 512 (sec l k) := by
  refine ⟨by simp [sec]; omega, (fun h => by cases h), fun x hx i hi => ?_⟩
  cases hx
  rw [addr_add, Nat.add_assoc, h (k * 512 + i) (by omega)]
  simp [sec, List.getD, hi]

set_option maxHeartbeats 4000000 in
set_option maxRecDepth 100000 in
theorem rload_ok (b o n c s : Nat) (l : List Int) (w : World) (hc : ∀ i, i < n → w.cell? ⟨b, o + i, none⟩ = some (.int .u8 (l.getD i 0))) (hll : l.length = n) (h : n = s * 512) (hcap : n ≤ c) (h1 : 1 ≤ s) (h2 : s ≤ 2048) :
    Calls Try.prog 44 #[.slice (some ⟨b, o, none⟩) n c] w fun e w' => ∃ r, e = .returned (.tuple #[.pointer (some ⟨r, 0, none⟩), .int .i64 0]) ∧ RefAt w' (fun k => w.heap.size ≤ k ∧ k < w'.heap.size) r s (DS.fresh l) ∧ Below w.heap.size w w' := by
  obtain ⟨i0, hi0, hz0, hz1, hz2⟩ := info_parts infoRow
  have h' : (((n : Int) % 512) != 0) = false := by rw [Bool.eq_false_iff, ne_eq, bne_iff_ne]; omega
  have hq : ((n : Int) / 512) = (s : Int) := by omega
  have h1' : ¬ (s : Int) < 1 := by omega
  have h2' : ¬ (2048 : Int) < (s : Int) := by omega
  have Hc := Hid.mk hc
  have Hn := Hid.mk h
  clear hc h
  go_enter Try.func44, Try.ntmps44
  go_wp2
  have hst : (w.alloc (.cells (dkCells (.slice none 0 0) (.slice none 0 0) (-1) 1 0 0 0 0) 86)).heap[w.heap.size]? = some (.cells (dkCells (.slice none 0 0) (.slice none 0 0) (-1) 1 0 0 0 0) 86 (0, 0)) := heap_alloc_new _ _
  have hb3 : Below w.heap.size w (w.alloc (.cells (dkCells (.slice none 0 0) (.slice none 0 0) (-1) 1 0 0 0 0) 86)) := (Below.refl _ _).alloc (Nat.le_refl _) _
  have H0 := Hid.mk (And.intro hst hb3)
  clear hst hb3
  go_loopw [6] (fun i wr => ∃ j : Nat, j ≤ s ∧ i = .int .i64 (j : Int) ∧ ∃ v vs, wr.heap[w.heap.size]? = some (.cells (dkCells v (.slice none 0 0) (-1) 1 0 0 0 0) 86 (0, 0)) ∧ wr.ownsRow w.heap.size 22 1 v j vs ∧ LS wr w.heap.size l vs ∧
      Below w.heap.size w wr) (fun i _ => s - (intOf i).toNat)
  case atStart => exact ⟨0, Nat.zero_le _, rfl, .slice none 0 0, [], H0.out.1, World.ownsRow_nil _ _ _ _, fun i hi => by simp at hi, H0.out.2⟩
  case round =>
    clear H0
    obtain ⟨j, hj, rfl, v, vs, hst, hown, hls, hb⟩ := hrel
    have c0 := cell_of_block hst (j := 0) rfl
    have hvl : vs.length = j := by simpa using hown.1
    by_cases hlt : j < s
    · have hlt' : (j : Int) < (s : Int) := by omega
      obtain ⟨av, cv, hv⟩ : ∃ a c, v = .slice a j c := by
        obtain ⟨_, ⟨e, hn⟩ | ⟨g, cap, cur, e, _⟩⟩ := hown
        · exact ⟨none, 0, by rw [e, hn]⟩
        · exact ⟨_, _, e⟩
      subst hv
      have hnn := Hn.out
      have hkk : j * 512 + 512 ≤ n := by omega
      obtain ⟨m, hm⟩ : ∃ m : Nat, m = j * 512 := ⟨_, rfl⟩
      obtain ⟨m2, hm2⟩ : ∃ m2 : Nat, m2 = m + 512 := ⟨_, rfl⟩
      have x1 : IntKind.i64.wrap ((j : Int) * 512) = (m : Int) := by rw [IntKind.wrap_i64]; all_goals omega
      have x2 : IntKind.i64.wrap ((m : Int) + 512) = (m2 : Int) := by rw [IntKind.wrap_i64]; all_goals omega
      have x3 : (m2 : Int) ≤ (c : Int) := by omega
      have x4 : m ≤ m2 := by omega
      have x5 : ¬ c = m := by omega
      have x6 : m2 - m = 512 := by omega
      have hsrc : Src wr (some ⟨b, o + j * 512, none⟩) 512 (sec l j) := part_src (fun i hi => cell_later hb (Hc.out i hi)) hll hkk
      rw [← hm] at hsrc
      have hrl := (Array.getElem?_eq_some_iff.1 hst).1
      have hwz := hb.size
      have htw : ∀ cx, Calls Try.prog 55 #[.slice (some ⟨b, o + m, none⟩) 512 cx] wr.drew fun e w' => ∃ v, e = .returned v ∧ TwR wr (sec l j) v w' := fun cx =>
        (rtwin_any (some ⟨b, o + m, none⟩) 512 cx (sec l j) wr.drew (by omega) hsrc).mono (by rintro e w' ⟨g, rfl, h1, h2, h3⟩; exact ⟨_, rfl, g, rfl, h1, h2, ⟨h3.os, h3.tape, h3.output, h3.size, h3.block⟩⟩)
      have hcell : ∀ wx : World, wx.heap[w.heap.size]? = wr.heap[w.heap.size]? → wx.cell? ⟨w.heap.size, 0, none⟩ = some (.slice av j cv) := fun wx e => cell_of_block (e.trans hst) (j := 0) rfl
      have Hcell := Hid.mk hcell
      have Htw := Hid.mk htw
      have Hst := Hid.mk hst
      have Hown := Hid.mk hown
      have Hls := Hid.mk hls
      have Hb := Hid.mk hb
      clear hst hls hb hown htw hcell hsrc hnn hm hm2
      go_wp2_with fail
      go_region_law
        (first
          | (refine step_call (by rfl) 55 #[.slice (some ⟨b, o + m, none⟩) 512 (c - m)] (by simp [go_sem]) (TwR wr (sec l j)) (Htw.out _) ?_; rintro _ w1 ⟨g, rfl, hg, hr, hb1⟩; have hr1 : w1.heap[w.heap.size]? = wr.heap[w.heap.size]? := hb1.block w.heap.size hrl; have k1 := Hcell.out w1 hr1; have k2 := fun o => Hcell.out (w1.alloc o) ((Below.heap_alloc w1 o w.heap.size (Nat.lt_of_lt_of_le hrl hb1.size)).trans hr1))
          | (refine step_append_lies _ (by rfl) _ _ _ (by rfl) w.heap.size 22 i0 _ 1 24 Try.underlying36 hi0 hz0 hz1 hz2 rfl (by omega) (.slice av j cv) j vs (by rfl) (ownsRow_agree Hown.out (fun g e => (Below.heap_alloc w1 _ _ (Nat.lt_of_lt_of_le (Hown.out.lt g e).2 hb1.size)).trans (hb1.block g (Hown.out.lt g e).2)))
              ⟨w1.heap.size, 0, none⟩ 1 1 [.slice (some ⟨g, 0, none⟩) 512 512] (by rfl) (by rfl) (cell_one_new _ _ _) (by simp [Value.oneCell']) (by omega) (by unfold maxLen; omega) (by omega) (by have := hb1.size; simp; omega) (w1.heap.size + 1) (by simp) ?_; intro g2 cap2 w2 hown2 hgrow2 hat2 hlt2
             obtain ⟨d1, d2, d3, d4, d5, d6, d7⟩ := last_step (Nat.le_refl _) (Hb.out.trans (hb1.mono hwz)) (hr1.trans Hst.out) (ownsRow_agree Hown.out (fun g e => hb1.block g (Hown.out.lt g e).2)) (fun i hi => by obtain ⟨g', c', e1, e2, e3⟩ := Hls.out i hi; exact ⟨g', c', e1, e2, e3.agree (hb1.block g' e3.lt)⟩) (Nat.le_trans hwz hg) (by rw [hvl]; exact hr) hgrow2 hown2))
      all_goals
        have Hz := Hid.mk (And.intro d3 (And.intro d4 (And.intro d5 d6)))
        clear d3 d4 d5 d6 d7 hr hb1 hown2 hgrow2 hat2 hlt2 hr1 k1 k2 d1 d2 Hst Hown Hls Hb Htw Hcell c0 x1 x2 x3 x4 x5 x6
        go_wp2
        go_roundw
        case rel => exact ⟨j + 1, by omega, by go_num, _, _, Hz.out⟩
        case measure => simp [intOf]; omega
    · have hlt' : ¬ (j : Int) < (s : Int) := by omega
      have ej : j = s := by omega
      subst ej
      obtain ⟨g2, cap2, hv, hg2, hr2, _⟩ := RowAt.of_owns hown (by rintro rfl; rcases hown.2 with ⟨_, h⟩ | ⟨_, _, _, h, _⟩; omega; cases h)
      rw [hv] at hst
      have hfin := ref_fresh (w0 := w) hst hr2 hvl hls (Nat.le_refl _) hg2 (by have := Hn.out; omega) h1 h2
      have Hq := Hid.mk (And.intro hfin hb)
      clear hst hown hls hb hr2 hfin c0
      go_wp2
      go_ret2
      exact ⟨_, rfl, Hq.out⟩
end Go.Proofs.Ytcofkdaakkfcfab
