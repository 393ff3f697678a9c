import Derived.Test.YtodleeipefnadacKS17
namespace Go.Proofs.Ytodleeipefnadac
open Go.RowKit

theorem sopens_no1 {s : List Int} (h : s.length ≠ 512) : sopens s = ([], 2) := by unfold sopens; rw [if_pos h]
theorem sopens_none {s : List Int} (h : s.length = 512) (h2 : sopen s = none) : sopens s = ([], 30) := by unfold sopens; rw [if_neg (by omega), h2]
theorem sopens_some {s b : List Int} (h : s.length = 512) (h2 : sopen s = some b) : sopens s = (b, 0) := by unfold sopens; rw [if_neg (by omega), h2]
theorem sopen_yes {s : List Int} (h1 : slen s ≤ 504) (h2 : s.getD 0 0 ≤ 2) (h3 : sform (s.getD 0 0) (sbody s) = s) : sopen s = some (sbody s) := by unfold sopen; rw [if_pos ⟨h1, h2, h3⟩]
theorem sopen_no {s : List Int} (h : ¬ (slen s ≤ 504 ∧ s.getD 0 0 ≤ 2 ∧ sform (s.getD 0 0) (sbody s) = s)) : sopen s = none := by unfold sopen; rw [if_neg h]
theorem slen_eq {s : List Int} (h : Bytes s) : ((slen s : Nat) : Int) = s.getD 1 0 + 256 * s.getD 2 0 := by
  have h1 := h.getD 1
  have h2 := h.getD 2
  unfold slen
  omega

set_option maxRecDepth 20000 in
set_option maxHeartbeats 4000000 in
theorem ropen_no1 (a : Option Addr) (n c : Nat) (w : World) (hn : n ≠ 512) :
    Calls Try.prog 52 #[.slice a n c] w fun e w' => e = .returned (.tuple #[.slice none 0 0, .int .i64 2]) ∧ Below w.heap.size w w' := by
  have h1 : (((n : Int)) != 512) = true := by rw [bne_iff_ne]; omega
  have HB := Hid.mk (Below.refl w.heap.size w)
  go_enter Try.func52, Try.ntmps52
  go_wp2
  go_ret2
  exact ⟨rfl, HB.out⟩

set_option maxRecDepth 20000 in
set_option maxHeartbeats 4000000 in
theorem ropen_all (b o c : Nat) (s : List Int) (w : World) (hs : Src w (some ⟨b, o, none⟩) 512 s) (hb : Bytes s) :
    Calls Try.prog 52 #[.slice (some ⟨b, o, none⟩) 512 c] w fun e w' => ∃ v, e = .returned (.tuple #[v, .int .i64 (((sopens s).2 : Nat) : Int)]) ∧ Own w' w.heap.size v (sopens s).1 ∧ Below w.heap.size w w' := by
  have hls := hs.1
  have cell : ∀ i, i < 512 → w.cell? ⟨b, o + i, none⟩ = some (.int .u8 (s.getD i 0)) := fun i hi => by have := hs.2.2 _ rfl i hi; rwa [addr_add] at this
  have c0 := cell 0 (by omega)
  rw [Nat.add_zero] at c0
  have c1 := cell 1 (by omega)
  have c2 := cell 2 (by omega)
  have hB0 : Below w.heap.size w w := Below.refl _ w
  have hle := slen_eq hb
  have g0 := hb.getD 0
  have g1 := hb.getD 1
  have g2 := hb.getD 2
  obtain ⟨x0, hx0⟩ : ∃ x0, x0 = s.getD 0 0 := ⟨_, rfl⟩
  obtain ⟨x1, hx1⟩ : ∃ x1, x1 = s.getD 1 0 := ⟨_, rfl⟩
  obtain ⟨x2, hx2⟩ : ∃ x2, x2 = s.getD 2 0 := ⟨_, rfl⟩
  obtain ⟨N, hN⟩ : ∃ N, N = slen s := ⟨_, rfl⟩
  rw [← hx1, ← hx2, ← hN] at hle
  rw [← hx0] at c0 g0
  rw [← hx1] at c1 g1
  rw [← hx2] at c2 g2
  have h00 := g0.1
  have h01 := g0.2
  have h10 := g1.1
  have h11 := g1.2
  have h20 := g2.1
  have h21 := g2.2
  have Hc := Hid.mk cell
  have HB := Hid.mk (fun j => below_drewN hB0 j)
  have Hx0 := Hid.mk hx0
  have HN := Hid.mk hN
  have HS := Hid.mk hs
  clear cell hx0 hx1 hx2 hN hs hB0 g0 g1 g2
  by_cases hbad : 504 < N ∨ 2 < x0
  · have hno : sopens s = ([], 30) := sopens_none hls (sopen_no (fun h => by rw [← HN.out, ← Hx0.out] at h; omega))
    have Hno := Hid.mk hno
    clear hno
    by_cases hb1 : 504 < N
    · have hb1' : 504 < x1 + 256 * x2 := by omega
      go_enter Try.func52, Try.ntmps52
      go_wp2
      go_quiet (fail)
      go_wp2
      go_ret2
      exact ⟨_, by rw [Hno.out]; rfl, by rw [Hno.out]; exact Own.nil _ _, HB.out _⟩
    · have hb1' : ¬ 504 < x1 + 256 * x2 := by omega
      have hb2 : 2 < x0 := by omega
      go_enter Try.func52, Try.ntmps52
      go_wp2
      go_quiet (fail)
      go_wp2
      go_ret2
      exact ⟨_, by rw [Hno.out]; rfl, by rw [Hno.out]; exact Own.nil _ _, HB.out _⟩
  · have hb1' : ¬ 504 < x1 + 256 * x2 := by omega
    have hb2 : ¬ 2 < x0 := by omega
    go_enter Try.func52, Try.ntmps52
    go_wp2
    go_quiet (fail)
    go_wp2
    go_loopw [5, 6] (fun v i wr => ∃ k : Nat, k ≤ N ∧ i = .int .i64 k ∧ Own wr w.heap.size v ((s.drop 7).take k) ∧ Below w.heap.size w wr) (fun _ i _ => N - (intOf i).toNat)
    case atStart => exact ⟨0, Nat.zero_le _, rfl, Own.nil _ _, HB.out _⟩
    case round =>
      clear c0 c1 c2
      obtain ⟨k, hk, rfl, hown, hbr⟩ := hrel
      have Hown := Hid.mk hown
      have HBr := Hid.mk hbr
      have hz := hbr.size
      clear hown hbr
      have hdl : (s.drop 7).length = 505 := by simp; omega
      by_cases hlt : k < N
      · have hlt' : (k : Int) < x1 + 256 * x2 := by omega
        have hc := cell_later HBr.out (Hc.out (7 + k) (by omega))
        have eN := take_snoc (s.drop 7) k (by omega)
        have eX : (s.drop 7).getD k 0 = s.getD (7 + k) 0 := by simp [List.getD]
        rw [eX] at eN
        have HeN := Hid.mk eN
        have hll : ((s.drop 7).take k).length ≤ 505 := by rw [List.length_take]; omega
        clear eN eX
        generalize s.getD (7 + k) 0 = x at *
        go_wp2_with (at_builtin; refine wpList_app1 rfl _ _ rfl w.heap.size u5 _ x rfl rfl Hown.out ?b1 ?b2 ?_)
        case b1 => omega
        case b2 => exact hz
        intro v' w' ho hb'
        have HO : Hid (Own w' w.heap.size v' ((s.drop 7).take (k + 1))) := by rw [← HeN.out]; exact ho
        have HB' := Hid.mk (HBr.out.trans (hb'.mono (Nat.le_refl _)))
        clear ho hb' Hown HBr HeN
        go_wp2
        go_roundw
        case rel => exact ⟨k + 1, by omega, by go_num, HO.out, HB'.out⟩
        case measure => simp [intOf]; omega
      · obtain rfl : k = N := by omega
        have hlt' : ¬ (k : Int) < x1 + 256 * x2 := by omega
        have eb : (s.drop 7).take k = sbody s := by unfold sbody; rw [← HN.out]
        rw [eb] at Hown
        have hbl : (sbody s).length = k := by rw [← eb, List.length_take]; omega
        have hbb : Bytes (sbody s) := (hb.drop _).take _
        have Hbl := Hid.mk hbl
        obtain ⟨ab, cb', rfl, hsb, _, _⟩ := Hown.out.src
        rw [hbl] at hsb Hown ⊢
        clear hbl
        have c0 := cell_later HBr.out (Hc.out 0 (by omega))
        rw [Nat.add_zero, ← Hx0.out] at c0
        obtain ⟨t, rfl⟩ : ∃ t : Nat, x0 = (t : Int) := ⟨x0.toNat, by omega⟩
        have hf := rform_any t ab k cb' (sbody s) wr (by omega) hsb (by omega) hbb
        clear eb hsb
        go_wp2_with fail
        refine hf.mono ?_
        rintro e w2 ⟨v2, rfl, ho2, hb2⟩
        have hfl : (sform t (sbody s)).length = 512 := sform_len (by rw [Hbl.out]; omega)
        obtain ⟨p2, d2, rfl, hs2, _, _⟩ := ho2.src
        rw [hfl] at *
        have hB2 := HBr.out.trans (hb2.mono HBr.out.size)
        have hsm := rsame_any p2 (some ⟨b, o, none⟩) 512 512 d2 c (sform t (sbody s)) s w2 (by omega) hs2 (HS.out.later hB2)
        have HB2 := Hid.mk hB2
        have Hown2 := Hid.mk (Own.later Hown.out hb2)
        clear hf ho2 hb2 hs2 hB2 Hown HBr
        by_cases heq : sform t (sbody s) = s
        · rw [decide_eq_true heq] at hsm
          have hy : sopens s = (sbody s, 0) := sopens_some hls (sopen_yes (by rw [← HN.out]; omega) (by rw [← Hx0.out]; omega) (by rw [← Hx0.out]; exact heq))
          have Hy := Hid.mk hy
          clear heq hy
          go_wp2_with fail
          refine hsm.mono ?_
          rintro e w3 ⟨rfl, hb3⟩
          have HB3 := Hid.mk (HB2.out.trans (hb3.mono HB2.out.size))
          have Hown3 := Hid.mk (Own.later Hown2.out hb3)
          clear hsm hb3
          go_wp2
          go_ret2
          exact ⟨_, by rw [Hy.out]; rfl, by rw [Hy.out]; exact Hown3.out, HB3.out⟩
        · rw [decide_eq_false heq] at hsm
          have hy : sopens s = ([], 30) := sopens_none hls (sopen_no (fun h => heq (by have := h.2.2; rwa [← Hx0.out] at this)))
          have Hy := Hid.mk hy
          clear heq hy
          go_wp2_with fail
          refine hsm.mono ?_
          rintro e w3 ⟨rfl, hb3⟩
          have HB3 := Hid.mk (HB2.out.trans (hb3.mono HB2.out.size))
          clear hsm hb3
          go_wp2
          go_ret2
          exact ⟨_, by rw [Hy.out]; rfl, by rw [Hy.out]; exact Own.nil _ _, HB3.out⟩

theorem ropen_any (a : Option Addr) (n c : Nat) (s : List Int) (w : World) (hs : Src w a n s) (hb : Bytes s) :
    Calls Try.prog 52 #[.slice a n c] w fun e w' => ∃ v, e = .returned (.tuple #[v, .int .i64 (((sopens s).2 : Nat) : Int)]) ∧ Own w' w.heap.size v (sopens s).1 ∧ Below w.heap.size w w' := by
  by_cases hn : n = 512
  · subst hn
    obtain ⟨b, o, rfl⟩ := src_spot hs (by omega)
    exact ropen_all b o c s w hs hb
  · refine (ropen_no1 a n c w hn).mono ?_
    rintro e w' ⟨rfl, hbel⟩
    rw [sopens_no1 (by rw [hs.1]; exact hn)]
    exact ⟨_, rfl, Own.nil _ _, hbel⟩
end Go.Proofs.Ytodleeipefnadac
