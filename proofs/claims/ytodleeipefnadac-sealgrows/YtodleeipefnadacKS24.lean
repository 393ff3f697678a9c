import Derived.Test.YtodleeipefnadacKS22
namespace Go.Proofs.Ytodleeipefnadac
open Go.RowKit

set_option maxHeartbeats 2000000 in
theorem cutOf_any (n : Int) (w : World) : Calls Try.prog 12 #[.int .i64 n] w fun e w' => ∃ k : Nat, k ≤ 512 ∧ e = .returned (.int .i64 (k : Int)) ∧ w' = w := by
  have t1 := Int.tmod_lt_of_pos n (show (0 : Int) < 513 by omega)
  have t2 := Int.lt_tmod_of_pos n (show (0 : Int) < 513 by omega)
  by_cases h : n.tmod 513 < 0
  · obtain ⟨k, hk, hk2⟩ : ∃ k : Nat, n.tmod 513 + 513 = (k : Int) ∧ k ≤ 512 := ⟨(n.tmod 513 + 513).toNat, by omega, by omega⟩
    go_enter Try.func12, Try.ntmps12
    go_wp2
    go_ret
    exact ⟨k, hk2, by rw [← hk]; rfl, rfl⟩
  · obtain ⟨k, hk, hk2⟩ : ∃ k : Nat, n.tmod 513 = (k : Int) ∧ k ≤ 512 := ⟨(n.tmod 513).toNat, by omega, by omega⟩
    rw [hk] at h
    go_enter Try.func12, Try.ntmps12
    go_wp2
    go_ret
    exact ⟨k, hk2, rfl, rfl⟩

/-- What mix makes of its first k bytes. -/
theorem smix_getD {a b : List Int} (ha : a.length = 512) {c i : Nat} : (smix a b c).getD i 0 = if i < c ∧ i < 512 then a.getD i 0 else if c ≤ 512 then b.getD i 0 else (smix a b c).getD i 0 := by
  by_cases h : i < c ∧ i < 512
  · rw [if_pos h, smix, List.getD, List.getElem?_append_left (by simp; omega), List.getElem?_take, if_pos h.1]; rfl
  · rw [if_neg h]
    by_cases hc : c ≤ 512
    · rw [if_pos hc, smix, List.getD, List.getElem?_append_right (by simp; omega), List.getElem?_drop]
      simp only [List.length_take, ha, List.getD]
      rw [show c + (i - min c 512) = i by omega]
    · rw [if_neg hc]

set_option maxHeartbeats 4000000 in
theorem lmix_any (b1 o1 c1 b2 o2 c2 cut : Nat) (l r : List Int) (w : World) (hc : cut ≤ 512) (h1 : Src w (some ⟨b1, o1, none⟩) 512 l) (h2 : Src w (some ⟨b2, o2, none⟩) 512 r) :
    Calls Try.prog 13 #[.slice (some ⟨b1, o1, none⟩) 512 c1, .slice (some ⟨b2, o2, none⟩) 512 c2, .int .i64 (cut : Int)] w fun e w' => ∃ v, e = .returned v ∧ Own w' w.heap.size v (smix l r cut) ∧ Below w.heap.size w w' := by
  have H1 := Hid.mk h1
  have H2 := Hid.mk h2
  have hl := h1.1
  have hr := h2.1
  have hml := smix_len hl hr hc
  clear h1 h2
  go_enter Try.func13, Try.ntmps13
  go_wp2
  go_loopw [7, 8] (fun v i wr => ∃ k : Nat, k ≤ 512 ∧ i = .int .i64 k ∧ Own wr w.heap.size v ((smix l r cut).take k) ∧ Below w.heap.size w wr) (fun _ i _ => 512 - (intOf i).toNat)
  case atStart => exact ⟨0, Nat.zero_le _, rfl, Own.nil _ _, Below.refl _ _⟩
  case round =>
    obtain ⟨k, hk, rfl, hown, hbr⟩ := hrel
    have Hown := Hid.mk hown
    have HB := Hid.mk hbr
    have hz := hbr.size
    clear hown hbr
    by_cases hlt : k < 512
    · have hlt' : (k : Int) < 512 := by omega
      have hsn := take_snoc (smix l r cut) k (by omega)
      have hll : ((smix l r cut).take k).length ≤ 512 := by rw [List.length_take]; omega
      have hg := smix_getD (a := l) (b := r) hl (c := cut) (i := k)
      by_cases hkc : k < cut
      · have hkc' : (k : Int) < (cut : Int) := by omega
        rw [if_pos ⟨hkc, hlt⟩] at hg
        rw [hg] at hsn
        have hcell := H1.out.2.2 _ rfl k hlt
        rw [addr_add] at hcell
        have hcell := cell_later HB.out hcell
        have HeN := Hid.mk hsn
        clear hsn hg
        generalize l.getD k 0 = x at *
        go_wp2_with (at_builtin; refine wpList_app1 rfl _ _ rfl w.heap.size u7 _ x rfl rfl Hown.out ?b1 ?b2 ?_)
        case b1 => omega
        case b2 => exact hz
        intro v' w' ho hb'
        have HO : Hid (Own w' w.heap.size v' ((smix l r cut).take (k + 1))) := by rw [← HeN.out]; exact ho
        have HB' := Hid.mk (HB.out.trans (hb'.mono (Nat.le_refl _)))
        clear ho hb' Hown HB HeN
        go_wp2
        go_roundw
        case rel => exact ⟨k + 1, by omega, by go_num, HO.out, HB'.out⟩
        case measure => simp [intOf]; omega
      · have hkc' : ¬ (k : Int) < (cut : Int) := by omega
        rw [if_neg (by omega), if_pos hc] at hg
        rw [hg] at hsn
        have hcell := H2.out.2.2 _ rfl k hlt
        rw [addr_add] at hcell
        have hcell := cell_later HB.out hcell
        have HeN := Hid.mk hsn
        clear hsn hg
        generalize r.getD k 0 = x at *
        go_wp2_with (at_builtin; refine wpList_app1 rfl _ _ rfl w.heap.size u7 _ x rfl rfl Hown.out ?b1 ?b2 ?_)
        case b1 => omega
        intro v' w' ho hb'
        have HO : Hid (Own w' w.heap.size v' ((smix l r cut).take (k + 1))) := by rw [← HeN.out]; exact ho
        have HB' := Hid.mk (HB.out.trans (hb'.mono (Nat.le_refl _)))
        clear ho hb' Hown HB HeN
        go_wp2
        go_roundw
        case rel => exact ⟨k + 1, by omega, by go_num, HO.out, HB'.out⟩
        case measure => simp [intOf]; omega
    · have hlt' : ¬ (k : Int) < 512 := by omega
      have e : (smix l r cut).take k = smix l r cut := List.take_of_length_le (by omega)
      rw [e] at Hown
      clear e
      go_wp2
      go_ret
      exact ⟨_, rfl, Hown.out, HB.out⟩

set_option maxRecDepth 20000 in
set_option maxHeartbeats 4000000 in
theorem told_any (a1 : Option Addr) (c1 : Nat) (m : List Int) (a2 : Option Addr) (c2 : Nat) (l : List Int) (a3 : Option Addr) (c3 : Nat) (r : List Int) (w : World) (h1 : Src w a1 512 m) (h2 : Src w a2 512 l) (h3 : Src w a3 512 r) (hb : Bytes m) (hor : m = l ∨ m = r ∨ sopen m = none) :
    Calls Try.prog 14 #[.slice a1 512 c1, .slice a2 512 c2, .slice a3 512 c3] w fun e w' => e = .returned (.bool true) ∧ Below w.heap.size w w' := by
  have t1 := ltwin_any a1 512 c1 m w (by omega) h1
  have H1 := Hid.mk h1
  have H2 := Hid.mk h2
  have H3 := Hid.mk h3
  have hl := h1.1
  clear h1 h2 h3
  go_enter Try.func14, Try.ntmps14
  go_wp2_with fail
  refine t1.mono ?_
  rintro e w1 ⟨v1, rfl, ho1, hb1⟩
  obtain ⟨p1, d1, rfl, hs1, _, _⟩ := ho1.src
  rw [hl] at hs1 ⊢
  have t2 := sopen_any p1 512 d1 m w1 hs1 hb
  have HB1 := Hid.mk hb1
  have herr : m = l ∨ m = r ∨ (sopens m).2 = 30 := hor.imp id (fun h => h.imp id (fun h => by rw [sopens_none hl h]))
  clear t1 ho1 hb1 hs1
  generalize (sopens m).2 = er at *
  go_wp2_with fail
  refine t2.mono ?_
  rintro e w2 ⟨v2, rfl, _, hb2⟩
  have hB2 := HB1.out.trans (hb2.mono HB1.out.size)
  have t3 := lsame_any a1 a2 512 512 c1 c2 m l w2 (by omega) (H1.out.later hB2) (H2.out.later hB2)
  have HB2 := Hid.mk hB2
  clear t2 hb2 hB2 HB1
  by_cases e1 : m = l
  · rw [decide_eq_true e1] at t3
    go_wp2_with fail
    refine t3.mono ?_
    rintro e w3 ⟨rfl, hb3⟩
    have HB3 := Hid.mk (HB2.out.trans (hb3.mono HB2.out.size))
    clear t3 hb3 e1 herr hor
    go_wp2
    go_ret
    exact ⟨rfl, HB3.out⟩
  · rw [decide_eq_false e1] at t3
    go_wp2_with fail
    refine t3.mono ?_
    rintro e w3 ⟨rfl, hb3⟩
    have hB3 := HB2.out.trans (hb3.mono HB2.out.size)
    have t4 := lsame_any a1 a3 512 512 c1 c3 m r w3 (by omega) (H1.out.later hB3) (H3.out.later hB3)
    have HB3 := Hid.mk hB3
    clear t3 hb3 hB3
    by_cases e2 : m = r
    · rw [decide_eq_true e2] at t4
      clear e1 herr hor
      go_wp2_with fail
      refine t4.mono ?_
      rintro e w4 ⟨rfl, hb4⟩
      have HB4 := Hid.mk (HB3.out.trans (hb4.mono HB3.out.size))
      clear t4 hb4 e2
      go_wp2
      go_ret
      exact ⟨rfl, HB4.out⟩
    · rw [decide_eq_false e2] at t4
      have her : er = 30 := (herr.resolve_left e1).resolve_left e2
      subst her
      clear e1 e2 herr hor
      go_wp2_with fail
      refine t4.mono ?_
      rintro e w4 ⟨rfl, hb4⟩
      have HB4 := Hid.mk (HB3.out.trans (hb4.mono HB3.out.size))
      clear t4 hb4
      go_wp2_with fail
      refine (lnum_any _ _).mono ?_
      rintro e w' ⟨rfl, hw⟩
      have hw' := hw.symm
      subst hw'
      clear hw
      go_wp2
      go_ret
      exact ⟨rfl, HB4.out⟩
end Go.Proofs.Ytodleeipefnadac
