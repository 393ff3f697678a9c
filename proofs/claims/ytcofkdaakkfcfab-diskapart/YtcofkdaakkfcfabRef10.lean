import Derived.Test.YtcofkdaakkfcfabRef9
namespace Go.Proofs.Ytcofkdaakkfcfab
open Go.RowKit Go.Maps

theorem take_sec {im : List Int} (j : Nat) : im.take (j * 512) ++ sec im j = im.take ((j + 1) * 512) := by
  unfold sec
  rw [show (j + 1) * 512 = j * 512 + 512 by omega, List.take_add]

set_option maxHeartbeats 4000000 in
theorem rimage_any {w : World} {F : Nat → Prop} {r s : Nat} {S : DS} (hd : RefAt w F r s S) :
    Calls Try.prog 63 #[.pointer (some ⟨r, 0, none⟩)] w fun e w' => ∃ g c, e = .returned (.slice (some ⟨g, 0, none⟩) (s * 512) c) ∧ w.heap.size ≤ g ∧ RowAt w' 5 g c (bs S.im) ∧ Below w.heap.size w w' := by
  obtain ⟨gl, cl, ls, pv, xs, h⟩ := hd
  obtain ⟨i0, hi, hz0, hz1, hz2⟩ := info_parts infoU8
  have c0 := cell_of_block h.blk (j := 0) rfl
  have hsm := h.ok.hi
  have hlen := h.ok.len
  have H := Hid.mk h
  clear h
  obtain ⟨m, hm⟩ : ∃ m : Nat, m = s * 512 := ⟨_, rfl⟩
  have x1 : IntKind.i64.wrap ((s : Int) * 512) = (m : Int) := by rw [IntKind.wrap_i64]; all_goals omega
  have x1' : wrap64 ((s : Int) * 512) = (m : Int) := by unfold wrap64; omega
  rw [← hm] at hlen ⊢
  have Hm := Hid.mk hm
  have hm20 : m ≤ 1048576 := by omega
  clear hm
  go_enter Try.func63, Try.ntmps63
  go_wp2_with (at_make; refine wpList_make_own _ rfl _ _ 22 rfl w.heap.size 5 i0 (.int .u8 0) 1 Try.underlying22 hi hz0 hz1 _ _ _ m rfl rfl ?c1 ?c2 ?c3 (Nat.le_refl _) ?_)
  case c1 => first | rfl | omega
  case c2 => rw [hz2]; omega
  case c3 => unfold maxLen; omega
  intro w1 hown hgrow
  have hb : Below w.heap.size w w1 := (Below.refl _ w).grown hgrow (Nat.le_refl _) (by intro k hk; cases hk)
  have H0 := Hid.mk (And.intro hown hb)
  clear hown hgrow hb x1 x1'
  go_wp2
  go_loopw [3, 4] (fun v i wr => ∃ j : Nat, j ≤ s ∧ i = .int .i64 (j : Int) ∧ ∃ q, v = .slice (some ⟨q, 0, none⟩) (j * 512) m ∧ w.heap.size ≤ q ∧ wr.ownsRow w.heap.size 5 1 v (j * 512) (bs (S.im.take (j * 512))) ∧ Below w.heap.size w wr) (fun _ i _ => s - (intOf i).toNat)
  case atStart => exact ⟨0, Nat.zero_le _, rfl, _, rfl, Nat.le_refl _, H0.out.1, H0.out.2⟩
  case round =>
    clear H0
    obtain ⟨j, hj, rfl, q, rfl, hq, hown, hb⟩ := hrel
    have e0 := cell_later hb c0
    by_cases hlt : j < s
    · have hlt' : (j : Int) < (s : Int) := by omega
      obtain ⟨g, c, p1, hF, hr⟩ := H.out.secs j hlt
      have cj := cell_later hb (H.out.last.cell p1)
      have hr' := hr.agree (hb.block g hr.lt)
      have hl5 : (sec S.im j).length = 512 := by have := Hm.out; simp [sec]; omega
      have hsr := hr'.src
      rw [hl5] at hsr
      obtain ⟨k, hk⟩ : ∃ k, k = j * 512 := ⟨_, rfl⟩
      have hkm : k + 512 ≤ m := by have := Hm.out; omega
      have hjk : (j + 1) * 512 = k + 512 := by omega
      rw [← hk] at hown
      have htk : bs (S.im.take k) ++ bs (sec S.im j) = bs (S.im.take (k + 512)) := by rw [← hjk, ← take_sec, ← hk]; simp [bs]
      rw [← hk]
      have Hown := Hid.mk hown
      have Hsr := Hid.mk hsr
      have Hj := Hid.mk hjk
      have Htk := Hid.mk htk
      have hwz := hb.size
      clear hown hsr hr hr' hk hjk htk
      go_wp2_with (at_builtin; refine wpList_append_fits _ rfl _ _ 22 rfl w.heap.size 5 i0 1 Try.underlying22 hi hz1 q k m (bs (S.im.take k)) rfl Hown.out ⟨g, 0, none⟩ 512 c (bs (sec S.im j)) rfl (by simp [bs, hl5]) (fun t u hu => by obtain ⟨h1, rfl⟩ := bs_getElem hu; exact Hsr.out.2.2 _ rfl t (by omega)) (bs_one _) hkm ?_)
      intro w3 hown hgrow
      have hb3 : Below w.heap.size w w3 := hb.grown hgrow hwz (by intro x hx; cases hx; exact hq)
      have hown : w3.ownsRow w.heap.size 5 1 (.slice (some ⟨q, 0, none⟩) (k + 512) m) (k + 512) (bs (S.im.take (k + 512))) := by
        have h9 := Htk.out
        simp only [bs, List.map_take] at h9 hown ⊢
        rw [h9] at hown
        exact hown
      have Hz := Hid.mk (And.intro hown hb3)
      clear hown hgrow hb3 Hown Hsr Htk hb cj e0
      go_wp2
      go_roundw
      case rel => exact ⟨j + 1, by omega, by go_num, q, by rw [Hj.out], hq, by rw [Hj.out]; exact Hz.out.1, Hz.out.2⟩
      case measure => simp [intOf]; omega
    · have hlt' : ¬ (j : Int) < (s : Int) := by omega
      have ej : j = s := by omega
      subst ej
      rw [← Hm.out, List.take_of_length_le (by omega)] at hown
      obtain ⟨g2, cap2, hv, hg2, hr2, _⟩ := RowAt.of_owns hown (by rintro h; cases h)
      have Hq := Hid.mk (And.intro hg2 (And.intro hr2 hb))
      rw [← Hm.out]
      cases hv
      clear hown hr2 hb hg2
      go_wp2
      go_ret
      exact ⟨_, _, rfl, Hq.out⟩
end Go.Proofs.Ytcofkdaakkfcfab
