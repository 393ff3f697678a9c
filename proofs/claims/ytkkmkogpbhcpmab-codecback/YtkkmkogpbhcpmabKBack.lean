import Derived.Test.YtkkmkogpbhcpmabKBk3
import Derived.Laws.StructEq
namespace Go.Proofs.Ytkkmkogpbhcpmab
open Go.RowKit

theorem range_later {w w' : World} {b o : Nat} {cs : List Value} (h : w.rangeAt b o cs) (hb : Below w.heap.size w w') : w'.rangeAt b o cs := fun j v hv => cell_later hb (h j v hv)

set_option maxRecDepth 20000 in
set_option maxHeartbeats 16000000 in
theorem codecBack_any (a : Option Addr) (n c : Nat) (a2 : Option Addr) (n2 c2 : Nat) (a3 : Option Addr) (n3 c3 : Nat) (w : World) (hs : Nodes w w.heap.size a n) (hn : 136 * n ≤ 140737488355328) (hs2 : Entries w w.heap.size a2 n2) (hn2 : 40 * n2 ≤ 140737488355328) (hs3 : Supers w w.heap.size a3 n3) (hn3 : 24 * n3 ≤ 140737488355328) :
    Calls Try.prog 4 #[.slice a n c, .slice a2 n2 c2, .slice a3 n3 c3] w fun e w' => e = .returned (.bool true) ∧ Below w.heap.size w w' := by
  obtain ⟨i0, hi, hz0, hz1, hz2⟩ := info_parts infoU8
  have Hs := Hid.mk hs
  have Hs2 := Hid.mk hs2
  have Hs3 := Hid.mk hs3
  clear hs hs2 hs3
  have he := encnode_none 0 0 0 0 0 (fun _ => 0) w ⟨rfl, rfl, rfl, rfl, rfl, fun _ _ => rfl⟩
  go_enter Try.func4, Try.ntmps4
  go_wp2_with fail
  refine he.mono ?_
  rintro e w1 ⟨v1, rfl, hm1⟩
  obtain ⟨g1, cc1, rfl, hN1⟩ := hm1.newB zeros128_len (bytes_rep 128)
  have HN1 := Hid.mk hN1
  have he2 := encent_none ⟨#[]⟩ 7 w1 (by decide +kernel)
  clear he hm1 hN1
  go_wp2_with fail
  refine he2.mono ?_
  rintro e w2 ⟨v2, rfl, hm2⟩
  obtain ⟨g2, cc2, rfl, hN2⟩ := hm2.newB zeros64_len (bytes_rep 64)
  have HN2 := Hid.mk hN2
  clear he2 hm2 hN2
  go_wp2_with (at_make; refine wpList_make_guard _ ?hg _ _ 36 rfl w2.heap.size 5 i0 (.int .u8 0) 1 Try.underlying36 hi hz0 hz1 _ _ _ _ 128 rfl rfl ?c1 ?c2 ?c3 ?c4 ?c5 ?_; case hg => rfl)
  case c1 => rfl
  case c2 => rfl
  case c3 => rw [hz2]; omega
  case c4 => unfold maxLen; omega
  case c5 => exact Nat.le_refl _
  intro w3 hown hgrow
  have hr3 : RowAt w3 5 w2.heap.size 128 (bs zeros128) := made_row hown
  have hb3 : Below w2.heap.size w2 w3 := (Below.refl _ w2).grown hgrow (Nat.le_refl _) (by intro k hk; cases hk)
  have hs3' := hr3.src
  rw [zeros128_len] at hs3'
  have hsa := same_any (some ⟨g1, 0, none⟩) (some ⟨w2.heap.size, 0, none⟩) 128 cc1 128 zeros128 w3 (by omega) ((HN1.out.2.1.later HN2.out.2.2.2.2.2).later hb3) hs3'
  have HB3 : Hid (Below w.heap.size w w3) := (HN1.out.2.2.2.2.2.trans (HN2.out.2.2.2.2.2.mono HN1.out.2.2.2.2.2.size)).trans (hb3.mono (Nat.le_trans HN1.out.2.2.2.2.2.size HN2.out.2.2.2.2.2.size))
  have HE3 := Hid.mk (HN2.out.2.1.later hb3)
  clear hown hgrow hr3 hs3' hb3 HN1 HN2
  go_wp2_with fail
  refine hsa.mono ?_
  rintro e w4 ⟨rfl, hb4⟩
  have HB4 : Hid (Below w.heap.size w w4) := HB3.out.trans (hb4.mono HB3.out.size)
  have HE4 := Hid.mk (HE3.out.later hb4)
  clear hsa hb4 HB3 HE3
  go_wp2_with (at_make; refine wpList_make_guard _ ?hg _ _ 36 rfl w4.heap.size 5 i0 (.int .u8 0) 1 Try.underlying36 hi hz0 hz1 _ _ _ _ 64 rfl rfl ?c1 ?c2 ?c3 ?c4 ?c5 ?_; case hg => rfl)
  case c1 => rfl
  case c2 => rfl
  case c3 => rw [hz2]; omega
  case c4 => unfold maxLen; omega
  case c5 => exact Nat.le_refl _
  intro w5 hown hgrow
  have hr5 : RowAt w5 5 w4.heap.size 64 (bs zeros64) := made_row hown
  have hb5 : Below w4.heap.size w4 w5 := (Below.refl _ w4).grown hgrow (Nat.le_refl _) (by intro k hk; cases hk)
  have hs5' := hr5.src
  rw [zeros64_len] at hs5'
  have hsa := same_any (some ⟨g2, 0, none⟩) (some ⟨w4.heap.size, 0, none⟩) 64 cc2 64 zeros64 w5 (by omega) (HE4.out.later hb5) hs5'
  have HB5 : Hid (Below w.heap.size w w5) := HB4.out.trans (hb5.mono HB4.out.size)
  clear hown hgrow hr5 hs5' hb5 HB4 HE4
  go_wp2_with fail
  refine hsa.mono ?_
  rintro e w6 ⟨rfl, hb6⟩
  have HB6 : Hid (Below w.heap.size w w6) := HB5.out.trans (hb6.mono HB5.out.size)
  clear hsa hb6 HB5 hi hz0 hz1 hz2
  go_wp2
  go_loopw [11] (fun i wr => ∃ k : Nat, k ≤ n ∧ i = .int .i64 k ∧ Below w.heap.size w wr) (fun i _ => n - (intOf i).toNat)
  case atStart => exact ⟨0, Nat.zero_le _, rfl, HB6.out⟩
  case round =>
    clear HB6
    obtain ⟨k, hk, rfl, hbr⟩ := hrel
    by_cases hlt : k < n
    · have hlt' : (k : Int) < (n : Int) := by omega
      obtain ⟨x, rfl⟩ : ∃ x, a = some x := by
        cases a with
        | none => have := Hs.out.1 rfl; omega
        | some x => exact ⟨x, rfl⟩
      obtain ⟨b, o, rfl, hbB, K, L, P, S, Q, D, hra⟩ := (Hs.out.far hbr).2 x rfl k hlt
      have Hra := Hid.mk hra
      have ht := tame_any ⟨K, L, P, S, Q, D⟩ wr
      have HB := Hid.mk hbr
      clear hra hbr Hs2 Hs3
      go_wp2_with (refine wpList_load_mid rfl 27 _ rfl b (o + k * 17) rfl (ndl K L P S Q D) _ Hra.out Try.underlying27 rfl infoNode ?_)
      refine ht.mono ?_
      rintro e wa ⟨y, rfl, hfit, hba⟩
      obtain ⟨F, wb, hbx⟩ := boxN y wa
      have HBb : Hid (Below w.heap.size w wb) := (HB.out.trans (hba.mono HB.out.size)).trans (hbx.below.mono (Nat.le_trans HB.out.size hba.size))
      have hth := hbx.there
      have hall := hbx.all
      have hinf := hbx.info
      have hrb := hbx.range
      have he := encnode_back y wb hfit
      rw [hbx.val] at he
      have HRb := Hid.mk hrb
      rw [hbx.made] at hrb
      have Hrb := Hid.mk hrb
      have HX := Hid.mk hbx
      have HFit := Hid.mk hfit
      clear ht hba hbx hrb hfit HB Hra
      go_wp2_with (first | refine wpList_store_mid rfl 27 _ _ rfl wa.heap.size 0 F.toArray rfl (by rw [HX.out.eq]; rfl) ?h1 ?h2 hall ?_ | refine wpList_load_mid rfl 27 _ rfl wa.heap.size 0 rfl F _ Hrb.out Try.underlying27 rfl hinf ?_)
      case h1 => exact hth
      case h2 => simpa using hinf
      have hmd := HX.out.made
      rw [← hmd]
      clear hmd hth hall Hrb
      refine he.mono ?_
      rintro e wc ⟨g, cg, bb, rfl, hen, hN⟩
      have hd := decnode_any (some ⟨g, 0, none⟩) 128 cg bb wc hN.2.1 hN.2.2.1 (by omega) hN.2.2.2.1 (fun _ => hN.2.2.2.2.1)
      have HBc : Hid (Below w.heap.size w wc) := HBb.out.trans (hN.2.2.2.2.2.mono HBb.out.size)
      have HRc := Hid.mk (range_later HRb.out hN.2.2.2.2.2)
      have HEn := Hid.mk hen
      clear he hN HBb HRb hen
      go_wp2_with fail
      refine hd.mono ?_
      rintro e wd ⟨z, E', hdr, rfl, hbd⟩
      obtain ⟨_, rfl, _, _, hsame⟩ := dec_enc HFit.out HEn.out hdr
      obtain ⟨F2, we, hbx2⟩ := boxN z wd
      have HBe : Hid (Below w.heap.size w we) := (HBc.out.trans (hbd.mono HBc.out.size)).trans (hbx2.below.mono (Nat.le_trans HBc.out.size hbd.size))
      have hth2 := hbx2.there
      have hall2 := hbx2.all
      have hinf2 := hbx2.info
      have hr2 := hbx2.range
      have hr1 := range_later (range_later HRc.out hbd) hbx2.below
      rw [hbx2.made] at hr2 hr1
      have Hr2 := Hid.mk hr2
      have Hr1 := Hid.mk hr1
      have HX2 := Hid.mk hbx2
      have HS : Hid ((false = true) ↔ ¬ NSame y.k y.l y.p y.s y.o y.d z.k z.l z.p z.s z.o z.d) := ⟨fun h => (by cases h), fun h => absurd hsame h⟩
      clear hd hdr hbd hbx2 hr2 hr1 hsame HBc HRc HFit HEn
      go_wp2_with (first | refine wpList_store_mid rfl 27 _ _ rfl wd.heap.size 0 F2.toArray rfl (by rw [HX2.out.eq]; rfl) ?h1 ?h2 hall2 ?_ | (refine wpList_load_guard ?hg 27 _ rfl wa.heap.size 0 rfl F _ Hr1.out Try.underlying27 rfl hinf ?_; case hg => rfl) | (refine wpList_load_guard ?hg 27 _ rfl wd.heap.size 0 rfl F2 _ Hr2.out Try.underlying27 rfl hinf2 ?_; case hg => rfl) | (refine wpList_ne_node ?hg _ _ _ rfl y.k y.l y.p y.s y.o y.d z.k z.l z.p z.s z.o z.d (by rw [HX.out.eq]; rfl) (by rw [HX2.out.eq]; rfl) false HS.out ?_; case hg => rfl))
      case h1 => exact hth2
      case h2 => simpa using hinf2
      have hmd := HX2.out.made
      rw [← hmd]
      clear hmd hth2 hall2 Hr1 Hr2 HS HX HX2
      go_roundw
      case rel => exact ⟨k + 1, by omega, by go_num, HBe.out⟩
      case measure => simp [intOf]; omega
    have hlt' : ¬ (k : Int) < (n : Int) := by omega
    have HB := Hid.mk hbr
    clear hbr Hs
    go_wp2
    go_loopw [17] (fun i wr => ∃ k : Nat, k ≤ n2 ∧ i = .int .i64 k ∧ Below w.heap.size w wr) (fun i _ => n2 - (intOf i).toNat)
    case atStart => exact ⟨0, Nat.zero_le _, rfl, HB.out⟩
    case round =>
      clear HB
      obtain ⟨j, hj, rfl, hbr⟩ := hrel
      by_cases hltj : j < n2
      · have hltj' : (j : Int) < (n2 : Int) := by omega
        obtain ⟨x, rfl⟩ : ∃ x, a2 = some x := by
          cases a2 with
          | none => have := Hs2.out.1 rfl; omega
          | some x => exact ⟨x, rfl⟩
        obtain ⟨b, o, rfl, hbB, s, l, y, m, q0, q1, q2, q3, _⟩ := (Hs2.out.far hbr).2 x rfl j hltj
        have ht := tameEntry_any s l y m wr
        have HB := Hid.mk hbr
        clear hbr Hs3
        go_wp2_with fail
        refine ht.mono ?_
        rintro e wa ⟨N, K, S, rfl, hfit, hba⟩
        obtain ⟨wb, hwb⟩ : ∃ wb, wb = wa.alloc (.cells #[.int .i64 N, .int .i64 K, .string S, .int .i64 m] 29) := ⟨_, rfl⟩
        have hbb : Below wa.heap.size wa wb := by rw [hwb]; exact (Below.refl _ wa).alloc (Nat.le_refl _) _
        have kb : wb.heap[wa.heap.size]? = some (.cells #[.int .i64 N, .int .i64 K, .string S, .int .i64 m] 29 (0, 0)) := by rw [hwb]; exact heap_alloc_new _ _
        have HBb : Hid (Below w.heap.size w wb) := (HB.out.trans (hba.mono HB.out.size)).trans (hbb.mono (Nat.le_trans HB.out.size hba.size))
        have KB := Hid.mk kb
        have hge : w.heap.size ≤ wa.heap.size := Nat.le_trans HB.out.size hba.size
        have he := encent_back N K S m wb hfit
        clear ht hba hbb kb HB q0 q1 q2 q3
        go_wp2_with fail
        rw [← hwb]
        clear hwb
        refine he.mono ?_
        rintro e wc ⟨g, cg, bb, rfl, hdec, hN⟩
        have hd := decent_any (some ⟨g, 0, none⟩) 64 cg bb wc hN.2.1 hN.2.2.1 (by omega) hN.2.2.2.1 (fun _ => hN.2.2.2.2.1)
        rw [hdec] at hd
        have HBc : Hid (Below w.heap.size w wc) := HBb.out.trans (hN.2.2.2.2.2.mono HBb.out.size)
        have KC := Hid.mk ((hN.2.2.2.2.2.block _ (Array.getElem?_eq_some_iff.1 KB.out).1).trans KB.out)
        clear he hN HBb KB hdec
        go_wp2_with fail
        refine hd.mono ?_
        rintro e wd ⟨rfl, hbd⟩
        have hlt1 := Nat.lt_of_lt_of_le (Array.getElem?_eq_some_iff.1 KC.out).1 hbd.size
        have kd := (hbd.block _ (Array.getElem?_eq_some_iff.1 KC.out).1).trans KC.out
        obtain ⟨we, hwe⟩ : ∃ we, we = (wd.setCell ⟨wa.heap.size, 3, none⟩ (.int .i64 0)).alloc (.cells #[.int .i64 N, .int .i64 K, .string S, .int .i64 0] 29) := ⟨_, rfl⟩
        have HBd : Below w.heap.size w wd := HBc.out.trans (hbd.mono HBc.out.size)
        have hp3 := below_put (g := wa.heap.size) (i := 3) HBd hge HBd.size (.int .i64 0)
        have HBf : Hid (Below w.heap.size w we) := by
          show Below w.heap.size w we
          rw [hwe]
          exact hp3.alloc hp3.size _
        have me : we.heap[wd.heap.size]? = some (.cells #[.int .i64 N, .int .i64 K, .string S, .int .i64 0] 29 (0, 0)) := by
          have := heap_alloc_new (wd.setCell ⟨wa.heap.size, 3, none⟩ (.int .i64 0)) (.cells #[.int .i64 N, .int .i64 K, .string S, .int .i64 0] 29)
          rw [size_setCell] at this
          rw [hwe]
          exact this
        have c0 := cell_of_block kd (j := 0) (u := .int .i64 N) rfl
        have c1 := cell_of_block kd (j := 1) (u := .int .i64 K) rfl
        have c2 := cell_of_block kd (j := 2) (u := .string S) rfl
        have c3 := cell_of_block kd (j := 3) (u := .int .i64 m) rfl
        have f3 := frozen_of_block kd 3
        have d0 := cell_of_block me (j := 0) (u := .int .i64 N) rfl
        have d1 := cell_of_block me (j := 1) (u := .int .i64 K) rfl
        have d2 := cell_of_block me (j := 2) (u := .string S) rfl
        have d3 := cell_of_block me (j := 3) (u := .int .i64 0) rfl
        have hne1 : ¬ wa.heap.size = wd.heap.size := by omega
        have hne2 : ¬ wd.heap.size = wa.heap.size := by omega
        have hself : ∀ z : Int, (z != z) = false := fun z => by simp
        rw [hwe] at d0 d1 d2 d3
        clear hd hbd kd me HBd HBc KC hp3
        go_wp2
        rw [← hwe]
        clear c0 c1 c2 c3 f3 d0 d1 d2 d3 hwe
        go_roundw
        case rel => exact ⟨j + 1, by omega, by go_num, HBf.out⟩
        case measure => simp [intOf]; omega
      have hltj' : ¬ (j : Int) < (n2 : Int) := by omega
      have HB := Hid.mk hbr
      clear hbr Hs2
      go_wp2
      go_loopw [23] (fun i wr => ∃ k : Nat, k ≤ n3 ∧ i = .int .i64 k ∧ Below w.heap.size w wr) (fun i _ => n3 - (intOf i).toNat)
      case atStart => exact ⟨0, Nat.zero_le _, rfl, HB.out⟩
      case round =>
        clear HB
        obtain ⟨t, ht0, rfl, hbr⟩ := hrel
        by_cases hltt : t < n3
        · have hltt' : (t : Int) < (n3 : Int) := by omega
          obtain ⟨x, rfl⟩ : ∃ x, a3 = some x := by
            cases a3 with
            | none => have := Hs3.out.1 rfl; omega
            | some x => exact ⟨x, rfl⟩
          obtain ⟨b, o, rfl, hbB, s, l, m, q0, q1, q2, _⟩ := (Hs3.out.far hbr).2 x rfl t hltt
          have ht := tameSuper_any s l m wr
          have HB := Hid.mk hbr
          clear hbr
          go_wp2_with fail
          refine ht.mono ?_
          rintro e wa ⟨X, Y, Z, rfl, hgeo, hba⟩
          obtain ⟨wb, hwb⟩ : ∃ wb, wb = wa.alloc (.cells #[.int .i64 X, .int .i64 Y, .int .i64 Z] 31) := ⟨_, rfl⟩
          have hbb : Below wa.heap.size wa wb := by rw [hwb]; exact (Below.refl _ wa).alloc (Nat.le_refl _) _
          have kb : wb.heap[wa.heap.size]? = some (.cells #[.int .i64 X, .int .i64 Y, .int .i64 Z] 31 (0, 0)) := by rw [hwb]; exact heap_alloc_new _ _
          have HBb : Hid (Below w.heap.size w wb) := (HB.out.trans (hba.mono HB.out.size)).trans (hbb.mono (Nat.le_trans HB.out.size hba.size))
          have KB := Hid.mk kb
          have he := encsuper_back X Y Z wb hgeo
          clear ht hba hbb kb HB q0 q1 q2
          go_wp2_with fail
          rw [← hwb]
          clear hwb
          refine he.mono ?_
          rintro e wc ⟨g, cg, bb, rfl, hdec, hN⟩
          have hd := decsuper_any (some ⟨g, 0, none⟩) 512 cg bb wc hN.2.1 hN.2.2.1 (by omega) hN.2.2.2.1 (fun _ => hN.2.2.2.2.1)
          rw [hdec] at hd
          have HBc : Hid (Below w.heap.size w wc) := HBb.out.trans (hN.2.2.2.2.2.mono HBb.out.size)
          have KC := Hid.mk ((hN.2.2.2.2.2.block _ (Array.getElem?_eq_some_iff.1 KB.out).1).trans KB.out)
          clear he hN HBb KB hdec
          go_wp2_with fail
          refine hd.mono ?_
          rintro e wd ⟨rfl, hbd⟩
          have hlt1 := Nat.lt_of_lt_of_le (Array.getElem?_eq_some_iff.1 KC.out).1 hbd.size
          have kd := (hbd.block _ (Array.getElem?_eq_some_iff.1 KC.out).1).trans KC.out
          obtain ⟨we, hwe⟩ : ∃ we, we = wd.alloc (.cells #[.int .i64 X, .int .i64 Y, .int .i64 Z] 31) := ⟨_, rfl⟩
          have hbe : Below wd.heap.size wd we := by rw [hwe]; exact (Below.refl _ wd).alloc (Nat.le_refl _) _
          have ke := (hbe.block _ hlt1).trans kd
          have me : we.heap[wd.heap.size]? = some (.cells #[.int .i64 X, .int .i64 Y, .int .i64 Z] 31 (0, 0)) := by rw [hwe]; exact heap_alloc_new _ _
          have HBe : Hid (Below w.heap.size w we) := (HBc.out.trans (hbd.mono HBc.out.size)).trans (hbe.mono (Nat.le_trans HBc.out.size hbd.size))
          have c0 := cell_of_block ke (j := 0) (u := .int .i64 X) rfl
          have c1 := cell_of_block ke (j := 1) (u := .int .i64 Y) rfl
          have c2 := cell_of_block ke (j := 2) (u := .int .i64 Z) rfl
          have d0 := cell_of_block me (j := 0) (u := .int .i64 X) rfl
          have d1 := cell_of_block me (j := 1) (u := .int .i64 Y) rfl
          have d2 := cell_of_block me (j := 2) (u := .int .i64 Z) rfl
          have hself : ∀ z : Int, (z != z) = false := fun z => by simp
          rw [hwe] at c0 c1 c2 d0 d1 d2
          clear hd hbd kd hbe ke me HBc KC
          go_wp2
          rw [← hwe]
          clear c0 c1 c2 d0 d1 d2 hwe
          go_roundw
          case rel => exact ⟨t + 1, by omega, by go_num, HBe.out⟩
          case measure => simp [intOf]; omega
        · have hltt' : ¬ (t : Int) < (n3 : Int) := by omega
          have HB := Hid.mk hbr
          clear hbr
          go_wp2
          go_ret
          exact ⟨rfl, HB.out⟩
end Go.Proofs.Ytkkmkogpbhcpmab
