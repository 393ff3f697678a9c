import Derived.Test.YtllkjmbcjlbmbaaGreatWB12
namespace Go.Proofs.YtllkjmbcjlbmbaaGreat
open Go.RowKit Go.Maps

theorem start_ring {S : DS} {s t i : Nat} {ls : List LG} {L : LG} (h : Inv S s ls t) (hi : ls[i]? = some L) (hf : S.fuse = -1) (ha : L.life = S.life) (hb : L.begun = false) : ∀ j, j < L.n → (L.start S s).2.1.now (L.f + 2 + j) = S.now (L.f + 2 + j) := by
  have hd := alive_no hf ha
  have hL := (h.at hi).1
  have hs := hL.s
  have hn := hL.n1
  have ht := hL.top
  have hfit := (h.al L (List.mem_of_getElem? hi) ha (by omega)).2 hb
  have eN : (((L.top + 1 : Nat) : Int) * 4294967296 + ((0 : Nat) : Int)) = (((L.top + 1) * 4294967296 : Nat) : Int) := by omega
  have hrn := renew_ok (now_len h.ok L.f (by omega)) (now_len h.ok (L.f + 1) (by omega)) (N := (L.top + 1) * 4294967296) (by omega) hfit.2
  have hc := anew_calm hf s L.f (((L.top + 1) * 4294967296 : Nat) : Int)
  have h0 : (anew S s L.f (((L.top + 1) * 4294967296 : Nat) : Int)).1 = 0 := Decidable.byContradiction (fun e => by have := (anew_err (by omega) hrn e).1; omega)
  obtain ⟨w1, w2⟩ := anew_whole (s := s) (f := L.f) (N := (L.top + 1) * 4294967296) h.ok (by omega) (by omega) (by omega) hfit.2 h0
  unfold LG.start
  rw [if_neg (by rw [hd]; decide), if_neg (by rw [hb]; decide), eN, if_neg (by omega)]
  exact fun j hj => w2 (L.f + 2 + j) (by omega) (by omega) (by omega)
theorem start_freshK {w : World} {F : Nat → Prop} {p l t s : Nat} {S : DS} {L : LG} (h : DiskR w F p s S) (hl : LogP w l p L) (hF : ¬ F l) (hi : Inv S s [L] t) (hf : S.fuse = -1) (ha : L.life = S.life) (hb : L.begun = false) (hz : ∀ j, j < L.n → S.now (L.f + 2 + j) = zs 512) :
    Calls Tryz.prog 19 #[.pointer (some ⟨l, 0, none⟩)] w fun e w' => ∃ S', e = .returned (.int .i64 0) ∧ DiskR w' (more F w w') p s S' ∧ LogP w' l p { L with begun := true, ep := L.top + 1, tail := 0, head := 0 } ∧ Keeps (fun k => F k ∨ k = l) w w' ∧ Inv S' s [{ L with begun := true, ep := L.top + 1, tail := 0, head := 0 }] t ∧ S'.fuse = -1 ∧ S'.life = S.life ∧ Snd S' L.f L.n ((L.top + 1) * 4294967296) (L.top + 1) ∧ ∀ j, j < L.n → S'.now (L.f + 2 + j) = zs 512 := by
  obtain ⟨z1, z2, z3, z4⟩ := start_calm (i := 0) hi rfl hf ha hb
  have z5 := Snd.start (i := 0) hi rfl hf ha hb (fun j hj => by rw [hz j hj, fresh_piece.2]; exact Nat.zero_le _)
  have z6 := start_ring (i := 0) hi rfl hf ha hb
  refine (Start_any h hl (hi.at (i := 0) rfl).1 hF hi.byt (by have := hi.p6; omega)).mono ?_
  rintro e w' ⟨rfl, h2, h3, h4⟩
  have hI := hi.start (i := 0) rfl h2.ok
  rw [z4] at h3 hI
  exact ⟨_, by rw [z1], h2, h3, h4, hI, z2, z3, z5, fun j hj => (z6 j hj).trans (hz j hj)⟩

set_option maxRecDepth 20000 in
set_option maxHeartbeats 4000000 in
theorem freshK_any {n : Nat} (h18 : 18 ≤ n) (h256 : n ≤ 256) (w : World) : Calls Tryz.prog 5 #[.int .i64 (n : Int)] w fun e w' => ∃ F p l S L, e = .returned (.tuple #[.pointer (some ⟨p, 0, none⟩), .pointer (some ⟨l, 0, none⟩)]) ∧ Live w w' F p l n S L ∧ L.tail = 0 ∧ L.head = 0 ∧ Snd S 0 n (2 * 4294967296) 2 ∧ ∀ i, i < n → S.now (2 + i) = zs 512 := by
  have h1 := new_ok (n + 2) w (by omega) (by omega)
  rw [show ((n + 2 : Nat) : Int) = (n : Int) + 2 by omega] at h1
  go_enter Tryz.func5, Tryz.ntmps5
  go_wp2_with fail
  refine h1.mono ?_
  rintro e w1 ⟨p, rfl, hd1, hb1⟩
  have hd1 := hd1.r
  have i1 := inv_freshN hd1
  have hf1 : (DS.fresh (List.replicate ((n + 2) * 512) 0)).fuse = -1 := rfl
  generalize DS.fresh (List.replicate ((n + 2) * 512) 0) = S1 at *
  obtain ⟨F1, hF1⟩ : ∃ F1, F1 = (fun k => w.heap.size ≤ k ∧ k < w1.heap.size) := ⟨_, rfl⟩
  rw [← hF1] at hd1
  have hlo1 : ∀ k, F1 k → w.heap.size ≤ k := fun k hk => by rw [hF1] at hk; exact hk.1
  obtain ⟨z1, z2, z3, z4⟩ := format_calm (a := 0) (b := n) i1 (by omega) hf1 (by omega) h18 h256
  rw [show ((0 : Nat) : Int) = 0 from rfl] at z1 z2 z3 z4
  have h2 := Format_any hd1 i1.byt 0 (n : Int) (by have := i1.p6; omega)
  rw [z1] at h2
  have HI1 := Hid.mk i1
  have HLo1 := Hid.mk hlo1
  have HB1 := Hid.mk hb1
  have hz1 := hb1.size
  have HZ := Hid.mk (And.intro z2 (And.intro z3 z4))
  clear h1 hF1 z1 z2 z3 z4 hf1 i1 hd1 hb1 hlo1
  go_wp2_with fail
  refine h2.mono ?_
  rintro e w2 ⟨rfl, hd2, hk2⟩
  have i2 := HI1.out.format (by omega) 0 (n : Int) hd2.ok
  have hz2 := hk2.size
  have HB2 : Hid (Below w.heap.size w w2) := HB1.out.trans (hk2.below HLo1.out hz1)
  have hlo2 : ∀ k, more F1 w1 w2 k → w.heap.size ≤ k := fun k hk => by
    rcases hk with hk | hk
    · exact HLo1.out k hk
    · omega
  have h3 := open_freshN h18 h256 hd2 i2 (by omega) HZ.out.1 HZ.out.2.1 HZ.out.2.2
  have HLt := Hid.mk hd2.lt
  have HLo2 := Hid.mk hlo2
  clear h2 hd2 hk2 i2 hlo2
  generalize more F1 w1 w2 = F2 at *
  go_wp2_with fail
  refine h3.mono ?_
  rintro e w3 ⟨l, a, c, S3, L3, rfl, hll, hlp, hd3, hk3, i3, hf3, hl3, hb3, ht3, hn3, hf0, hzz⟩
  have hz3 := hk3.size
  have hFl : ¬ F2 l := fun hf => by have := HLt.out _ hf; omega
  have h4 := start_freshK hd3 hlp hFl i3 hf3 hl3 hb3 (by rw [hn3, hf0]; exact hzz)
  have HB3 : Hid (Below w.heap.size w w3) := HB2.out.trans (hk3.below HLo2.out (by omega))
  have HLl := Hid.mk hlp.lt
  have HA := Hid.mk (And.intro hl3 (And.intro ht3 (And.intro hn3 hf0)))
  have HFl := Hid.mk hFl
  clear h3 hd3 hk3 i3 hf3 hl3 hb3 ht3 hn3 hlp hFl hf0 hzz
  go_wp2_with fail
  refine h4.mono ?_
  rintro e w4 ⟨S4, rfl, hd4, hlp4, hk4, i4, hf4, hl4, hs4, hz4⟩
  have HF : Hid (Live w w4 (more F2 w3 w4) p l n S4 { L3 with begun := true, ep := L3.top + 1, tail := 0, head := 0 } ∧ Snd S4 0 n (2 * 4294967296) 2 ∧ ∀ i, i < n → S4.now (2 + i) = zs 512) := by
    refine ⟨⟨hd4, hlp4, fun hm => ?_, fun k hk => ?_, by omega, HB3.out.trans (hk4.below (fun k hk => ?_) (by omega)), i4, hf4, HA.out.1.trans hl4.symm, rfl, by show L3.top + 1 = 2; rw [HA.out.2.1], HA.out.2.2.1, HA.out.2.2.2⟩, ?_, fun i hi => ?_⟩
    · rcases hm with hm | hm
      · exact HFl.out hm
      · have := HLl.out; omega
    · rcases hk with hk | hk
      · exact HLo2.out k hk
      · omega
    · rcases hk with hk | hk
      · exact HLo2.out k hk
      · omega
    · rw [HA.out.2.1, HA.out.2.2.1, HA.out.2.2.2] at hs4
      exact hs4
    · have := hz4 i (by rw [HA.out.2.2.1]; exact hi)
      rw [HA.out.2.2.2, Nat.zero_add] at this
      exact this
  clear h4 hd4 hlp4 hk4 i4 hf4 hl4 hs4 hz4
  go_wp2
  go_ret2
  exact ⟨_, _, _, _, _, rfl, HF.out.1, rfl, rfl, HF.out.2⟩

theorem fresh_alive {w w1 : World} {F : Nat → Prop} {p l n : Nat} {S : DS} {L : LG} (h : Live w w1 F p l n S L) (ht : L.tail = 0) (hh : L.head = 0) (hs : Snd S 0 n (2 * 4294967296) 2) (hz : ∀ i, i < n → S.now (2 + i) = zs 512) : Alive S L n 0 [] 0 := by
  have hp0 : S.puts = [] := by
    have hfit := (h.i.al L (by simp) h.a (by rw [h.f]; decide)).1 h.g
    exact List.eq_nil_of_length_eq_zero (by omega)
  have hgd : Good 2 (2 * 4294967296) := ⟨by omega, by omega, by omega⟩
  refine ⟨h.i, h.f0, h.n', h.g, h.a, by rw [h.e]; omega, by rw [h.e]; omega, ?_, Slots.nil hp0 _ _, ⟨(fun d hd => by cases hd), Nat.zero_le _, Nat.le_refl _, fun i hi he _ => ?_, fun q hq => (by rw [hp0] at hq; cases hq), fun m X hm => (by cases hm)⟩, by rw [hh, ht]; rfl, fun m X hm => (by cases hm)⟩
  · have := Hold.still hp0 hs.1 hgd hs.2
    rw [h.e, ht]
    exact this
  · exfalso
    rw [← now_flat hp0, hz i hi, fresh_piece.2, h.e] at he
    cases he

set_option maxRecDepth 20000 in
set_option maxHeartbeats 16000000 in
theorem walKeeps_any (n0 : Int) (sa : Option Addr) (sn sc : Nat) (w : World) (hsc : Script4 w w.heap.size sa sn) (hsn : 72 * sn ≤ 140737488355328) :
    Calls Tryz.prog 3 #[.int .i64 n0, .slice sa sn sc] w fun e w' => e = .returned (.bool true) ∧ Below w.heap.size w w' := by
  by_cases hbad : n0 < 18 ∨ 256 < n0 ∨ 65536 < sn
  · have HT : Hid (Below w.heap.size w w) := Below.refl _ _
    by_cases h1 : n0 < 18
    · go_enter Tryz.func3, Tryz.ntmps3
      go_wp2
      go_ret
      exact ⟨rfl, HT.out⟩
    · by_cases h2 : 256 < n0
      · go_enter Tryz.func3, Tryz.ntmps3
        go_wp2
        go_ret
        exact ⟨rfl, HT.out⟩
      · have h3 : (65536 : Int) < (sn : Int) := by omega
        go_enter Tryz.func3, Tryz.ntmps3
        go_wp2
        go_ret
        exact ⟨rfl, HT.out⟩
  · obtain ⟨n, rfl⟩ : ∃ n : Nat, n0 = (n : Int) := ⟨n0.toNat, by omega⟩
    have h18 : 18 ≤ n := by omega
    have h256 : n ≤ 256 := by omega
    have y1 : ¬ (n : Int) < 18 := by omega
    have y2 : ¬ (256 : Int) < (n : Int) := by omega
    have y3 : ¬ (65536 : Int) < (sn : Int) := by omega
    have hs6 : sn ≤ 65536 := by omega
    have hfr := freshK_any h18 h256 w
    have HSc := Hid.mk hsc
    clear hsc hbad
    go_enter Tryz.func3, Tryz.ntmps3
    go_wp2_with fail
    refine hfr.mono ?_
    rintro e w1 ⟨F0, p, l0, S0, L0, rfl, hlv, ht0, hh0, hsnd, hz0⟩
    have hA0 := fresh_alive hlv ht0 hh0 hsnd hz0
    have hbx := below_box w1 (.cells (bkC (.slice none 0 0) 0 false) 31)
    have hby := below_box (w1.alloc (.cells (bkC (.slice none 0 0) 0 false) 31)) (.cells (pyC p l0 n w1.heap.size) 33)
    have hsz : (w1.alloc (.cells (bkC (.slice none 0 0) 0 false) 31)).heap.size = w1.heap.size + 1 := by simp
    have hbz : Below w1.heap.size w1 ((w1.alloc (.cells (bkC (.slice none 0 0) 0 false) 31)).alloc (.cells (pyC p l0 n w1.heap.size) 33)) := hbx.trans (hby.mono hbx.size)
    have hw1 := hlv.b.size
    have hl1 := hlv.lp.lt
    have hlb : w1.heap[l0]? = some (.cells (lgC p L0) 65 (0, 0)) := hlv.lp
    have HN : Hid (KAt w ((w1.alloc (.cells (bkC (.slice none 0 0) 0 false) 31)).alloc (.cells (pyC p l0 n w1.heap.size) 33)) (w1.heap.size + 1) n 0) := by
      refine ⟨F0, w1.heap.size, p, l0, S0, .slice none 0 0, [], 0, false, ⟨hlv.d.later hbz, ?_, ?_, LL.nil _ _ _, fun hf => by have := hlv.d.lt _ hf; omega, fun hf => by have := hlv.d.lt _ hf; omega, hlv.nf, ⟨_, (hbz.block l0 hl1).trans hlb⟩, hlv.fF, by omega, hw1, hlv.lo, hlv.b.trans (hbz.mono hw1)⟩, .inl ⟨L0, hlv.lp.later hbz, hA0⟩⟩
      · have := heap_alloc_new (w1.alloc (.cells (bkC (.slice none 0 0) 0 false) 31)) (.cells (pyC p l0 n w1.heap.size) 33)
        rw [hsz] at this
        exact this
      · exact (hby.block w1.heap.size (by omega)).trans (heap_alloc_new _ _)
    clear hfr hlv ht0 hh0 hsnd hz0 hA0 hbx hby hbz hlb hl1 hsz
    go_wp2
    go_loopw [8] (fun i wr => ∃ j : Nat, j ≤ sn ∧ i = .int .i64 (j : Int) ∧ KAt w wr (w1.heap.size + 1) n j) (fun i _ => sn - (intOf i).toNat)
    case atStart => exact ⟨0, Nat.zero_le _, rfl, HN.out⟩
    case round =>
      clear HN
      obtain ⟨j, hj, rfl, h⟩ := hrel
      by_cases hlt : j < sn
      · have hlt' : (j : Int) < (sn : Int) := by omega
        have hj0 : (0 : Int) ≤ (j : Int) := by omega
        obtain ⟨y, rfl⟩ : ∃ y, sa = some y := by
          cases sa with
          | none => have := HSc.out.1 rfl; omega
          | some y => exact ⟨y, rfl⟩
        obtain ⟨b, o, rfl, hbB, kd, A, B', da, dn, dc, pa, pn, pc, d, pl, c0, c1, c2, c3, c4, ho⟩ := (HSc.out.far h.below).2 y rfl j hlt
        have hone : Calls Tryz.prog 6 #[.pointer (some ⟨w1.heap.size + 1, 0, none⟩), .agg (opC4 kd A B' da dn dc pa pn pc)] wr (KOut w (w1.heap.size + 1) n (j + 1)) := by
          have up : ∀ {C : Calls Tryz.prog 6 #[.pointer (some ⟨w1.heap.size + 1, 0, none⟩), .agg (opC4 kd A B' da dn dc pa pn pc)] wr (KOut w (w1.heap.size + 1) n j)}, Calls Tryz.prog 6 #[.pointer (some ⟨w1.heap.size + 1, 0, none⟩), .agg (opC4 kd A B' da dn dc pa pn pc)] wr (KOut w (w1.heap.size + 1) n (j + 1)) := fun {C} => C.mono (fun e w' hk => ⟨hk.1, hk.2.up⟩)
          by_cases e4 : kd = 4
          · subst e4; exact up (C := one_app h (by omega) ho)
          by_cases e5 : kd = 5
          · subst e5; exact up (C := one_sync h)
          by_cases e6 : kd = 6
          · subst e6; exact up (C := one_trim h (by omega))
          by_cases e9 : kd = 9
          · subst e9; exact up (C := one_fuse h ho.A)
          by_cases e10 : kd = 10
          · subst e10; exact one_crash h (by omega) h18 h256 ho
          exact up (C := one_none h kd e4 e5 e6 e9 e10)
        clear h ho
        go_wp2_with fail
        refine hone.mono ?_
        rintro e w2 ⟨rfl, hk⟩
        have HK := Hid.mk hk
        clear hone hk c0 c1 c2 c3 c4
        go_wp2
        go_roundw
        case rel => exact ⟨j + 1, by omega, by go_num, HK.out⟩
        case measure => simp [intOf]; omega
      · have hlt' : ¬ (j : Int) < (sn : Int) := by omega
        have hla := klast_any h (by omega) h18 h256
        clear h
        go_wp2_with fail
        refine hla.mono ?_
        rintro e w2 ⟨rfl, hb⟩
        have HB := Hid.mk hb
        clear hla hb
        go_wp2
        go_ret
        exact ⟨rfl, HB.out⟩
end Go.Proofs.YtllkjmbcjlbmbaaGreat
