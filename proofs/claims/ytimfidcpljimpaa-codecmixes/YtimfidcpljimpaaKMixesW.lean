import Derived.Test.YtimfidcpljimpaaKMixes
namespace Go.Proofs.Ytimfidcpljimpaa
open Go.RowKit

set_option maxRecDepth 100000 in
set_option maxHeartbeats 8000000 in
theorem mixes_ab (a : Option Addr) (la ca : Nat) (A : List Int) (b : Option Addr) (lb cb : Nat) (B : List Int) (c : Option Addr) (lc cc : Nat) (C : List Int) (w : World)
    (ha : Src w a la A) (hA : Bytes A) (ka : la ≤ ca) (na : la ≤ 140737488351232) (hb : Src w b lb B) (hB : Bytes B) (kb : lb ≤ cb) (nb : lb ≤ 140737488351232) (hc : Src w c lc C) (hC : Bytes C) (kc : lc ≤ cc) (nc : lc ≤ 140737488351232)
    (h1 : lb < la) (h2 : lc < lb) :
    Calls Try.prog 4 #[.slice a la ca, .slice b lb cb, .slice c lc cc] w fun e w' => e = .returned (.bool true) ∧ Below w.heap.size w w' := by
  have g1 : (lb : Int) < (la : Int) := by omega
  have g2 : (lc : Int) < (lb : Int) := by omega
  have n1 : lc ≤ la := by omega
  have n2 : lc ≤ lb := by omega
  have n3 : lc ≤ lc := by omega
  have n1' : ((lc : Nat) : Int) ≤ (la : Int) := by omega
  have n2' : ((lc : Nat) : Int) ≤ (lb : Int) := by omega
  have n3' : ((lc : Nat) : Int) ≤ (lc : Int) := by omega
  have hcv := Lib.run_convert_bytes_const (P := Try.prog) w 31 5 #[.int .u8 97] 1 1 Try.underlying31 Try.underlying5
  have hs0 : ∀ (w1 : World) (fr : Nat × Nat) (g : Nat), w1.heap[g]? = some (.cells #[.int .u8 97] 5 fr) → Calls Try.prog 11 #[.slice (some ⟨g, 0, none⟩) 1 1] w1 fun e w' => e = .returned (.int .i64 3251651376) ∧ Below w1.heap.size w1 w' := by
    intro w1 fr g hg
    have := sum_any (some ⟨g, 0, none⟩) 1 1 [97] w1 (by intro x hx; simp at hx; omega) (by omega) ⟨rfl, (fun h => by cases h), fun x hx i hi => by
      cases hx
      rw [addr_add, Nat.zero_add]
      simp only [World.cell?, hg]
      match i, hi with
      | 0, _ => rfl⟩
    rw [show sumOf [97] = 3251651376 by decide +kernel] at this
    exact this
  obtain ⟨i0, hi, hz0, hz1, hz2⟩ := info_parts infoU8
  have Ha := Hid.mk ha
  have Hb := Hid.mk hb
  have Hc := Hid.mk hc
  have HA := Hid.mk hA
  have HB := Hid.mk hB
  have HC := Hid.mk hC
  have lA : (A.take lc).length = lc := by have := ha.1; simp; omega
  have lB : (B.take lc).length = lc := by have := hb.1; simp; omega
  have lC : (C.take lc).length = lc := by have := hc.1; simp; omega
  have tA : Bytes (A.take lc) := fun y hy => hA y (List.mem_of_mem_take hy)
  have tB : Bytes (B.take lc) := fun y hy => hB y (List.mem_of_mem_take hy)
  have tC : Bytes (C.take lc) := fun y hy => hC y (List.mem_of_mem_take hy)
  have HL := Hid.mk (And.intro lA (And.intro lB lC))
  have HT := Hid.mk (And.intro tA (And.intro tB tC))
  clear ha hb hc h1 h2 hA hB hC lA lB lC tA tB tC
  go_enter Try.func4, Try.ntmps4
  go_wp2_with fail
  refine (hs0 _ _ w.heap.size (heap_alloc_new _ _)).mono ?_
  rintro e w1 ⟨rfl, hb1⟩
  have hB1 : Below w.heap.size w w1 := ((Below.refl _ w).alloc (Nat.le_refl _) _).trans (hb1.mono (by simp))
  clear hb1 hcv hs0
  go_wp2_with (at_make; refine wpList_make_full _ rfl _ _ 31 rfl w1.heap.size 5 i0 (.int .u8 0) 1 Try.underlying31 hi hz0 hz1 _ _ _ _ lc rfl rfl ?c1 ?c2 ?c3 ?c4 ?c5 ?_)
  case c1 => rfl
  case c2 => rfl
  case c3 => rw [hz2]; omega
  case c4 => unfold maxLen; omega
  case c5 => exact Nat.le_refl _
  intro w2 hown hgrow
  have hr := made_row hown
  have hb2 : Below w1.heap.size w1 w2 := (Below.refl _ w1).grown hgrow (Nat.le_refl _) (by intro k hk; cases hk)
  have hB2 : Below w.heap.size w w2 := hB1.trans (hb2.mono hB1.size)
  have hf := hr.full (by simp [bs])
  have hz := hB1.size
  obtain ⟨M, hM⟩ : ∃ M, M = mix3 (A.take lc) (B.take lc) (C.take lc) := ⟨_, rfl⟩
  have lM : M.length = lc := by rw [hM]; exact mix3_len _ _ _ _ HL.out.1 HL.out.2.1 HL.out.2.2
  have aM : ∀ i, i < lc → M[i]? = some (((A.getD i 0).toNat ^^^ (B.getD i 0).toNat ^^^ (C.getD i 0).toNat : Nat) : Int) := fun i hi => by
    rw [hM, mix3_at _ _ _ _ HL.out.1 HL.out.2.1 HL.out.2.2 i hi]
    simp [List.getD, hi]
  have bM : Bytes M := by rw [hM]; exact mix3_bytes _ _ _ HT.out.1 HT.out.2.1 HT.out.2.2
  have sM : sumOf M = sumOf (A.take lc) ^^^ sumOf (B.take lc) ^^^ sumOf (C.take lc) := by
    refine sum_mix (by rw [lM]; exact HL.out.1) (by rw [lM]; exact HL.out.2.1) (by rw [lM]; exact HL.out.2.2) ?_
    rw [hM]
    exact mix3_le _ _ _ _ HL.out.1 HL.out.2.1 HL.out.2.2 HT.out.1 HT.out.2.1 HT.out.2.2
  have HaM := Hid.mk aM
  have HbM := Hid.mk bM
  have HsM := Hid.mk sM
  have HlM := Hid.mk lM
  clear hown hgrow hr hb2 hM aM bM sM lM
  go_wp2
  go_loopw [9] (fun i wr => ∃ k : Nat, k ≤ lc ∧ i = .int .i64 k ∧ Below w.heap.size w wr ∧ wr.heap[w1.heap.size]? = some (.cells (bs (M.take k ++ List.replicate (lc - k) 0)).toArray 5 (0, 0))) (fun i _ => lc - (intOf i).toNat)
  case atStart => exact ⟨0, Nat.zero_le _, rfl, hB2, by simpa using hf⟩
  case round =>
    clear hB2 hf
    obtain ⟨k, hk, rfl, hbr, hblk⟩ := hrel
    by_cases hlt : k < lc
    · have hlt' : (k : Int) < ((lc : Nat) : Int) := by omega
      have i1 : (k : Int) < (la : Int) := by omega
      have i2 : (k : Int) < (lb : Int) := by omega
      have i3 : (k : Int) < (lc : Int) := by omega
      obtain ⟨xa, rfl⟩ : ∃ x, a = some x := by
        cases a with
        | none => have := Ha.out.2.1 rfl; omega
        | some x => exact ⟨x, rfl⟩
      obtain ⟨xb, rfl⟩ : ∃ x, b = some x := by
        cases b with
        | none => have := Hb.out.2.1 rfl; omega
        | some x => exact ⟨x, rfl⟩
      obtain ⟨xc, rfl⟩ : ∃ x, c = some x := by
        cases c with
        | none => have := Hc.out.2.1 rfl; omega
        | some x => exact ⟨x, rfl⟩
      obtain ⟨ba, oa, rfl, ca'⟩ := (Ha.out.later hbr).spot (by omega)
      obtain ⟨bb, ob, rfl, cb'⟩ := (Hb.out.later hbr).spot (by omega)
      obtain ⟨bc, oc, rfl, cc'⟩ := (Hc.out.later hbr).spot (by omega)
      obtain ⟨x, ex, hx⟩ := byteOf HA.out (i := k) (by have := Ha.out.1; omega)
      obtain ⟨y, ey, hy⟩ := byteOf HB.out (i := k) (by have := Hb.out.1; omega)
      obtain ⟨z, ez, hz'⟩ := byteOf HC.out (i := k) (by have := Hc.out.1; omega)
      have q1 := ca' k (by omega)
      have q2 := cb' k (by omega)
      have q3 := cc' k (by omega)
      have hMk := HaM.out k hlt
      rw [ex, ey, ez] at hMk
      simp only [Int.toNat_natCast] at hMk
      rw [ex] at q1
      rw [ey] at q2
      rw [ez] at q3
      have hxy : x ^^^ y < 256 := by
        have : x ^^^ y < 2 ^ 8 := Nat.xor_lt_two_pow (by omega) (by omega)
        omega
      have e1 := u8_xor_nat x y hx hy
      have e2 := u8_xor_nat (x ^^^ y) z hxy hz'
      obtain ⟨u0, v0⟩ : ∃ u, wr.cell? ⟨w1.heap.size, k, none⟩ = some u := ⟨_, cell_of_block hblk (j := k) (u := (bs (M.take k ++ List.replicate (lc - k) 0))[k]'(by have : M.length = lc := HlM.out; simp [bs]; omega)) (by simp [bs])⟩
      have f0 := frozen_of_block hblk k
      have hset := set_row (i := k) ((x ^^^ y ^^^ z : Nat) : Int) hblk
      have es : (M.take k ++ List.replicate (lc - k) 0).set k ((x ^^^ y ^^^ z : Nat) : Int) = M.take (k + 1) ++ List.replicate (lc - (k + 1)) 0 := by
        have hlM : M.length = lc := HlM.out
        have hkl : (M.take k).length = k := by simp; omega
        rw [List.set_append_right _ _ (by omega), hkl, Nat.sub_self]
        obtain ⟨m, hm⟩ : ∃ m, lc - k = m + 1 := ⟨lc - k - 1, by omega⟩
        rw [hm, show lc - (k + 1) = m by omega, List.replicate_succ, List.set_cons_zero, List.take_add_one, hMk]
        simp
      rw [es] at hset
      have HS := Hid.mk hset
      have HBn : Hid (Below w.heap.size w (wr.setCell ⟨w1.heap.size, k, none⟩ (.int .u8 ((x ^^^ y ^^^ z : Nat) : Int)))) := hbr.trans ((Keeps.setCell (F := fun j => j = w1.heap.size) (p := ⟨w1.heap.size, k, none⟩) wr rfl _).below (fun j hj => by omega) hbr.size)
      clear hset hblk hbr es hMk ex ey ez ca' cb' cc' hxy
      go_wp2
      go_region
      go_wp2
      go_roundw
      case rel => exact ⟨k + 1, by omega, by go_num, below_drew HBn.out, HS.out⟩
      case measure => simp [intOf]; omega
    · have hlt' : ¬ (k : Int) < ((lc : Nat) : Int) := by omega
      have hkN : k = lc := by omega
      have hrow : RowAt wr 5 w1.heap.size lc (bs M) := by
        have hlM : M.length = lc := HlM.out
        rw [hkN, Nat.sub_self, List.take_of_length_le (by omega)] at hblk
        have := RowAt.of_full hblk (by simp [bs, maxLen]; omega)
        simpa [bs, hlM] using this
      have p1 := sum_any a la ca A wr HA.out (by omega) (Ha.out.later hbr)
      have Hrow := Hid.mk hrow
      have HBr := Hid.mk hbr
      clear hblk hrow hbr hkN
      go_wp2_with fail
      refine p1.mono ?_
      rintro e w3 ⟨rfl, hb3⟩
      have hB3 : Below w.heap.size w w3 := HBr.out.trans (hb3.mono HBr.out.size)
      have hrow3 := Hrow.out.agree (hb3.block _ Hrow.out.lt)
      have r0 : Hid (∀ q : Later w3, Calls Try.prog 11 #[.slice (some ⟨w1.heap.size, 0, none⟩) lc lc] q.to fun e w' => e = .returned (.int .i64 ((sumOf M : Nat) : Int)) ∧ Below q.to.heap.size q.to w') := fun q => sum_any _ _ _ M q.to HbM.out (by omega) (by have := (hrow3.agree (q.h.block _ hrow3.lt)).src; rw [HlM.out] at this; exact this)
      have r1 : Hid (∀ q : Later w3, Calls Try.prog 11 #[.slice a lc ca] q.to fun e w' => e = .returned (.int .i64 ((sumOf (A.take lc) : Nat) : Int)) ∧ Below q.to.heap.size q.to w') := fun q => sum_any _ _ _ _ q.to HT.out.1 (by omega) (((Ha.out.later hB3).later q.h).pre n1)
      have r2 : Hid (∀ q : Later w3, Calls Try.prog 11 #[.slice b lc cb] q.to fun e w' => e = .returned (.int .i64 ((sumOf (B.take lc) : Nat) : Int)) ∧ Below q.to.heap.size q.to w') := fun q => sum_any _ _ _ _ q.to HT.out.2.1 (by omega) (((Hb.out.later hB3).later q.h).pre n2)
      have r3 : Hid (∀ q : Later w3, Calls Try.prog 11 #[.slice c lc cc] q.to fun e w' => e = .returned (.int .i64 ((sumOf (C.take lc) : Nat) : Int)) ∧ Below q.to.heap.size q.to w') := fun q => sum_any _ _ _ _ q.to HT.out.2.2 (by omega) (((Hc.out.later hB3).later q.h).pre n3)
      have s0 := sumOf_lt HbM.out
      have s1 := sumOf_lt HT.out.1
      have s2 := sumOf_lt HT.out.2.1
      have s3 := sumOf_lt HT.out.2.2
      have sA := sumOf_lt HA.out
      have hsm := HsM.out
      have t1 := fun q : Later w3 => slice_pre a la ca lc (by omega) q.to
      have t2 := fun q : Later w3 => slice_pre b lb cb lc (by omega) q.to
      have t3 := fun q : Later w3 => slice_pre c lc cc lc (by omega) q.to
      generalize hS0 : sumOf M = S0 at *
      generalize hS1 : sumOf (A.take lc) = S1 at *
      generalize hS2 : sumOf (B.take lc) = S2 at *
      generalize hS3 : sumOf (C.take lc) = S3 at *
      have x1 : S1 ^^^ S2 < 4294967296 := by
        have : S1 ^^^ S2 < 2 ^ 32 := Nat.xor_lt_two_pow (by omega) (by omega)
        omega
      have e1 : bits .xor .i64 (S1 : Int) (S2 : Int) = ((S1 ^^^ S2 : Nat) : Int) := i64_xor_nat S1 S2 s1 s2
      have e2 : bits .xor .i64 ((S1 ^^^ S2 : Nat) : Int) (S3 : Int) = (S0 : Int) := by rw [i64_xor_nat _ _ x1 s3, hsm]
      have e3 : ((S0 : Int) != (S0 : Int)) = false := by simp
      have e4 : decide (((sumOf A : Nat) : Int) < 0) = false := by simp
      have e5 : decide (4294967295 < ((sumOf A : Nat) : Int)) = false := by simp; omega
      have hne := Later.some w3
      clear hS0 hS1 hS2 hS3 hsm s0 s1 s2 s3 x1 p1 hb3 Hrow HBr hrow3
      go_wp2_with fail
      refine wp_region_later (by kernel_rfl) (by kernel_rfl) ?_
      repeat (first | go_big_quiet_skip | (go_big_quiet_want; go_big_quiet_op; first | go_big_quiet_on | (apply Exists.intro; refine ⟨fun q => ?_, ?_⟩; (first | (go_at_call_of 11 (Value.slice (some ⟨w1.heap.size, 0, none⟩) lc lc); exact Calls.later_of (r0.out q)) | (go_at_call_of 11 (Value.slice a lc ca); exact Calls.later_of (r1.out q)) | (go_at_call_of 11 (Value.slice b lc cb); exact Calls.later_of (r2.out q)) | (go_at_call_of 11 (Value.slice c lc cc); exact Calls.later_of (r3.out q))); go_big_quiet_on)))
      refine wpQuiet_nil ?_
      rintro _ ⟨q, rfl⟩
      have hB4 : Below w.heap.size w q.to := hB3.trans (q.h.mono hB3.size)
      have Ha4 := Hid.mk (Ha.out.later hB4)
      generalize q.to = w4 at *
      clear r0 r1 r2 r3 t1 t2 t3 hB3
      go_wp2_with (at_make; refine wpList_make_full _ rfl _ _ 31 rfl w4.heap.size 5 i0 (.int .u8 0) 1 Try.underlying31 hi hz0 hz1 _ _ _ _ la rfl rfl ?d1 ?d2 ?d3 ?d4 ?d5 ?_)
      case d1 => rfl
      case d2 => rfl
      case d3 => rw [hz2]; omega
      case d4 => unfold maxLen; omega
      case d5 => exact Nat.le_refl _
      intro w5 hown hgrow
      have hr5 := made_row hown
      have hb5 : Below w4.heap.size w4 w5 := (Below.refl _ w4).grown hgrow (Nat.le_refl _) (by intro k hk; cases hk)
      have hf5 := hr5.full (by simp [bs])
      have hs5 := Ha4.out.later hb5
      have hlA := Ha4.out.1
      clear hown hgrow hr5
      obtain ⟨w6, hrun, hh, hk6, hsz6⟩ := copy_run w5 3 (some ⟨w4.heap.size, 0, none⟩) w4.heap.size 0 la la a la ca (bs (List.replicate la 0)) A hf5 hs5 (fun _ => rfl) (by simp [bs])
      have hb6 : Below w4.heap.size w4 w6 := hb5.trans (hk6.below (fun k h => by omega) hb5.size)
      have hr6 : RowAt w6 5 w4.heap.size la (bs A) := by
        have e : splice (bs (List.replicate la 0)) 0 (bs (A.take la)) = bs A := by
          rw [List.take_of_length_le (by omega)]
          simp [splice, bs]; omega
        rw [e] at hh
        have := RowAt.of_full hh (by simp [bs, maxLen]; omega)
        simpa [bs, hlA] using this
      have hown6 : w6.ownsRow w4.heap.size 5 1 (.slice (some ⟨w4.heap.size, 0, none⟩) la la) la (bs A) := by
        have h0 := hr6.le
        obtain ⟨cur, hb, hc, ht, hm⟩ := hr6
        have e : (bs A).length = la := by simp [bs, hlA]
        exact ⟨by simp [bs, hlA], .inr ⟨w4.heap.size, la, cur, rfl, Nat.le_refl _, hb, Nat.le_refl _, hm, by simpa using hc, by rw [e] at ht; simpa using ht⟩⟩
      have Hown := Hid.mk hown6
      have hB6 : Below w.heap.size w w6 := hB4.trans (hb6.mono hB4.size)
      have hS1 : ((sumOf A : Nat) : Int) < 4294967296 := by omega
      have hS0 : (0 : Int) ≤ ((sumOf A : Nat) : Int) := by omega
      have hz6 := hb6.size
      have hz4 := hB4.size
      have hfin := Hid.mk (sum_own HA.out)
      generalize sumOf A = S at *
      clear hh hf5 hs5 hb5 hk6 hr6 hown6 hsz6 e4 e5 e1 e2 e3 hne hlt' n1' n2' n3' g1 g2
      go_wp2_with (at_builtin; (refine wpList_append_own _ rfl _ _ 31 rfl w4.heap.size 5 i0 (.int .u8 0) 1 1 Try.underlying31 hi hz0 hz1 hz2 rfl (by decide) _ _ _ rfl (Hown.out.alloc _) ⟨w6.heap.size, 0, none⟩ 4 4 [.int .u8 ((S : Int) % 256), .int .u8 ((S : Int) / 256 % 256), .int .u8 ((S : Int) / 65536 % 256), .int .u8 ((S : Int) / 16777216)] rfl rfl ?n1 ?n2 ?n3 ?n4 ?n5 ?_))
      case n1 =>
        intro j u hj
        rw [addr_add, Nat.zero_add, cell_of_block (heap_alloc_new w6 _) (j := j) (u := u) (by simpa using hj)]
      case n2 =>
        intro u hu
        simp at hu
        rcases hu with rfl | rfl | rfl | rfl <;> rfl
      case n3 => unfold maxLen; omega
      case n4 => omega
      case n5 => simp; omega
      intro v' w7 hown' hgrow' hnil
      have hb7 : Below w4.heap.size w4 w7 := (hb6.alloc hz6 _).grown hgrow' (by simp; omega) (by intro k hk; simp [Value.ownBlock] at hk; omega)
      have hv : v' ≠ .slice none 0 0 := hnil
      have eN : bs A ++ [.int .u8 ((S : Int) % 256), .int .u8 ((S : Int) / 256 % 256), .int .u8 ((S : Int) / 65536 % 256), .int .u8 ((S : Int) / 16777216)] = bs (A ++ bytes4 S) := by
        have e3 : (S : Int) / 16777216 = (S : Int) / 16777216 % 256 := by omega
        rw [e3]
        simp [bs, bytes4]
      rw [eN] at hown'
      obtain ⟨g7, c7, rfl, hg7, hr7, _⟩ := RowAt.of_owns hown' hv
      have hsrc : Src w7 (some ⟨g7, 0, none⟩) (la + 4) (A ++ bytes4 S) := by
        have := hr7.src
        simpa [hlA, bytes4] using this
      have hBb : Bytes (A ++ bytes4 S) := fun x hx => by
        rcases List.mem_append.1 hx with h | h
        · exact HA.out x h
        · exact bytes4_bytes S x h
      have hp := sum_any (some ⟨g7, 0, none⟩) (la + 4) c7 _ w7 hBb (by omega) hsrc
      rw [hfin.out] at hp
      have hB7 : Below w.heap.size w w7 := hB4.trans (hb7.mono hB4.size)
      clear hown' hgrow' hnil hb7 hv eN hr7 hsrc hBb hfin Hown
      go_wp2_with fail
      refine hp.mono ?_
      rintro e w8 ⟨rfl, hb8⟩
      have hB8 : Below w.heap.size w w8 := hB7.trans (hb8.mono hB7.size)
      clear hp hb8
      go_wp2
      go_ret
      exact ⟨rfl, hB8⟩

set_option maxRecDepth 100000 in
set_option maxHeartbeats 8000000 in
theorem mixes_b (a : Option Addr) (la ca : Nat) (A : List Int) (b : Option Addr) (lb cb : Nat) (B : List Int) (c : Option Addr) (lc cc : Nat) (C : List Int) (w : World)
    (ha : Src w a la A) (hA : Bytes A) (ka : la ≤ ca) (na : la ≤ 140737488351232) (hb : Src w b lb B) (hB : Bytes B) (kb : lb ≤ cb) (nb : lb ≤ 140737488351232) (hc : Src w c lc C) (hC : Bytes C) (kc : lc ≤ cc) (nc : lc ≤ 140737488351232)
    (h1 : lb < la) (h2 : ¬ lc < lb) :
    Calls Try.prog 4 #[.slice a la ca, .slice b lb cb, .slice c lc cc] w fun e w' => e = .returned (.bool true) ∧ Below w.heap.size w w' := by
  have g1 : (lb : Int) < (la : Int) := by omega
  have g2 : ¬ (lc : Int) < (lb : Int) := by omega
  have n1 : lb ≤ la := by omega
  have n2 : lb ≤ lb := by omega
  have n3 : lb ≤ lc := by omega
  have n1' : ((lb : Nat) : Int) ≤ (la : Int) := by omega
  have n2' : ((lb : Nat) : Int) ≤ (lb : Int) := by omega
  have n3' : ((lb : Nat) : Int) ≤ (lc : Int) := by omega
  have hcv := Lib.run_convert_bytes_const (P := Try.prog) w 31 5 #[.int .u8 97] 1 1 Try.underlying31 Try.underlying5
  have hs0 : ∀ (w1 : World) (fr : Nat × Nat) (g : Nat), w1.heap[g]? = some (.cells #[.int .u8 97] 5 fr) → Calls Try.prog 11 #[.slice (some ⟨g, 0, none⟩) 1 1] w1 fun e w' => e = .returned (.int .i64 3251651376) ∧ Below w1.heap.size w1 w' := by
    intro w1 fr g hg
    have := sum_any (some ⟨g, 0, none⟩) 1 1 [97] w1 (by intro x hx; simp at hx; omega) (by omega) ⟨rfl, (fun h => by cases h), fun x hx i hi => by
      cases hx
      rw [addr_add, Nat.zero_add]
      simp only [World.cell?, hg]
      match i, hi with
      | 0, _ => rfl⟩
    rw [show sumOf [97] = 3251651376 by decide +kernel] at this
    exact this
  obtain ⟨i0, hi, hz0, hz1, hz2⟩ := info_parts infoU8
  have Ha := Hid.mk ha
  have Hb := Hid.mk hb
  have Hc := Hid.mk hc
  have HA := Hid.mk hA
  have HB := Hid.mk hB
  have HC := Hid.mk hC
  have lA : (A.take lb).length = lb := by have := ha.1; simp; omega
  have lB : (B.take lb).length = lb := by have := hb.1; simp; omega
  have lC : (C.take lb).length = lb := by have := hc.1; simp; omega
  have tA : Bytes (A.take lb) := fun y hy => hA y (List.mem_of_mem_take hy)
  have tB : Bytes (B.take lb) := fun y hy => hB y (List.mem_of_mem_take hy)
  have tC : Bytes (C.take lb) := fun y hy => hC y (List.mem_of_mem_take hy)
  have HL := Hid.mk (And.intro lA (And.intro lB lC))
  have HT := Hid.mk (And.intro tA (And.intro tB tC))
  clear ha hb hc h1 h2 hA hB hC lA lB lC tA tB tC
  go_enter Try.func4, Try.ntmps4
  go_wp2_with fail
  refine (hs0 _ _ w.heap.size (heap_alloc_new _ _)).mono ?_
  rintro e w1 ⟨rfl, hb1⟩
  have hB1 : Below w.heap.size w w1 := ((Below.refl _ w).alloc (Nat.le_refl _) _).trans (hb1.mono (by simp))
  clear hb1 hcv hs0
  go_wp2_with (at_make; refine wpList_make_full _ rfl _ _ 31 rfl w1.heap.size 5 i0 (.int .u8 0) 1 Try.underlying31 hi hz0 hz1 _ _ _ _ lb rfl rfl ?c1 ?c2 ?c3 ?c4 ?c5 ?_)
  case c1 => rfl
  case c2 => rfl
  case c3 => rw [hz2]; omega
  case c4 => unfold maxLen; omega
  case c5 => exact Nat.le_refl _
  intro w2 hown hgrow
  have hr := made_row hown
  have hb2 : Below w1.heap.size w1 w2 := (Below.refl _ w1).grown hgrow (Nat.le_refl _) (by intro k hk; cases hk)
  have hB2 : Below w.heap.size w w2 := hB1.trans (hb2.mono hB1.size)
  have hf := hr.full (by simp [bs])
  have hz := hB1.size
  obtain ⟨M, hM⟩ : ∃ M, M = mix3 (A.take lb) (B.take lb) (C.take lb) := ⟨_, rfl⟩
  have lM : M.length = lb := by rw [hM]; exact mix3_len _ _ _ _ HL.out.1 HL.out.2.1 HL.out.2.2
  have aM : ∀ i, i < lb → M[i]? = some (((A.getD i 0).toNat ^^^ (B.getD i 0).toNat ^^^ (C.getD i 0).toNat : Nat) : Int) := fun i hi => by
    rw [hM, mix3_at _ _ _ _ HL.out.1 HL.out.2.1 HL.out.2.2 i hi]
    simp [List.getD, hi]
  have bM : Bytes M := by rw [hM]; exact mix3_bytes _ _ _ HT.out.1 HT.out.2.1 HT.out.2.2
  have sM : sumOf M = sumOf (A.take lb) ^^^ sumOf (B.take lb) ^^^ sumOf (C.take lb) := by
    refine sum_mix (by rw [lM]; exact HL.out.1) (by rw [lM]; exact HL.out.2.1) (by rw [lM]; exact HL.out.2.2) ?_
    rw [hM]
    exact mix3_le _ _ _ _ HL.out.1 HL.out.2.1 HL.out.2.2 HT.out.1 HT.out.2.1 HT.out.2.2
  have HaM := Hid.mk aM
  have HbM := Hid.mk bM
  have HsM := Hid.mk sM
  have HlM := Hid.mk lM
  clear hown hgrow hr hb2 hM aM bM sM lM
  go_wp2
  go_loopw [9] (fun i wr => ∃ k : Nat, k ≤ lb ∧ i = .int .i64 k ∧ Below w.heap.size w wr ∧ wr.heap[w1.heap.size]? = some (.cells (bs (M.take k ++ List.replicate (lb - k) 0)).toArray 5 (0, 0))) (fun i _ => lb - (intOf i).toNat)
  case atStart => exact ⟨0, Nat.zero_le _, rfl, hB2, by simpa using hf⟩
  case round =>
    clear hB2 hf
    obtain ⟨k, hk, rfl, hbr, hblk⟩ := hrel
    by_cases hlt : k < lb
    · have hlt' : (k : Int) < ((lb : Nat) : Int) := by omega
      have i1 : (k : Int) < (la : Int) := by omega
      have i2 : (k : Int) < (lb : Int) := by omega
      have i3 : (k : Int) < (lc : Int) := by omega
      obtain ⟨xa, rfl⟩ : ∃ x, a = some x := by
        cases a with
        | none => have := Ha.out.2.1 rfl; omega
        | some x => exact ⟨x, rfl⟩
      obtain ⟨xb, rfl⟩ : ∃ x, b = some x := by
        cases b with
        | none => have := Hb.out.2.1 rfl; omega
        | some x => exact ⟨x, rfl⟩
      obtain ⟨xc, rfl⟩ : ∃ x, c = some x := by
        cases c with
        | none => have := Hc.out.2.1 rfl; omega
        | some x => exact ⟨x, rfl⟩
      obtain ⟨ba, oa, rfl, ca'⟩ := (Ha.out.later hbr).spot (by omega)
      obtain ⟨bb, ob, rfl, cb'⟩ := (Hb.out.later hbr).spot (by omega)
      obtain ⟨bc, oc, rfl, cc'⟩ := (Hc.out.later hbr).spot (by omega)
      obtain ⟨x, ex, hx⟩ := byteOf HA.out (i := k) (by have := Ha.out.1; omega)
      obtain ⟨y, ey, hy⟩ := byteOf HB.out (i := k) (by have := Hb.out.1; omega)
      obtain ⟨z, ez, hz'⟩ := byteOf HC.out (i := k) (by have := Hc.out.1; omega)
      have q1 := ca' k (by omega)
      have q2 := cb' k (by omega)
      have q3 := cc' k (by omega)
      have hMk := HaM.out k hlt
      rw [ex, ey, ez] at hMk
      simp only [Int.toNat_natCast] at hMk
      rw [ex] at q1
      rw [ey] at q2
      rw [ez] at q3
      have hxy : x ^^^ y < 256 := by
        have : x ^^^ y < 2 ^ 8 := Nat.xor_lt_two_pow (by omega) (by omega)
        omega
      have e1 := u8_xor_nat x y hx hy
      have e2 := u8_xor_nat (x ^^^ y) z hxy hz'
      obtain ⟨u0, v0⟩ : ∃ u, wr.cell? ⟨w1.heap.size, k, none⟩ = some u := ⟨_, cell_of_block hblk (j := k) (u := (bs (M.take k ++ List.replicate (lb - k) 0))[k]'(by have : M.length = lb := HlM.out; simp [bs]; omega)) (by simp [bs])⟩
      have f0 := frozen_of_block hblk k
      have hset := set_row (i := k) ((x ^^^ y ^^^ z : Nat) : Int) hblk
      have es : (M.take k ++ List.replicate (lb - k) 0).set k ((x ^^^ y ^^^ z : Nat) : Int) = M.take (k + 1) ++ List.replicate (lb - (k + 1)) 0 := by
        have hlM : M.length = lb := HlM.out
        have hkl : (M.take k).length = k := by simp; omega
        rw [List.set_append_right _ _ (by omega), hkl, Nat.sub_self]
        obtain ⟨m, hm⟩ : ∃ m, lb - k = m + 1 := ⟨lb - k - 1, by omega⟩
        rw [hm, show lb - (k + 1) = m by omega, List.replicate_succ, List.set_cons_zero, List.take_add_one, hMk]
        simp
      rw [es] at hset
      have HS := Hid.mk hset
      have HBn : Hid (Below w.heap.size w (wr.setCell ⟨w1.heap.size, k, none⟩ (.int .u8 ((x ^^^ y ^^^ z : Nat) : Int)))) := hbr.trans ((Keeps.setCell (F := fun j => j = w1.heap.size) (p := ⟨w1.heap.size, k, none⟩) wr rfl _).below (fun j hj => by omega) hbr.size)
      clear hset hblk hbr es hMk ex ey ez ca' cb' cc' hxy
      go_wp2
      go_region
      go_wp2
      go_roundw
      case rel => exact ⟨k + 1, by omega, by go_num, below_drew HBn.out, HS.out⟩
      case measure => simp [intOf]; omega
    · have hlt' : ¬ (k : Int) < ((lb : Nat) : Int) := by omega
      have hkN : k = lb := by omega
      have hrow : RowAt wr 5 w1.heap.size lb (bs M) := by
        have hlM : M.length = lb := HlM.out
        rw [hkN, Nat.sub_self, List.take_of_length_le (by omega)] at hblk
        have := RowAt.of_full hblk (by simp [bs, maxLen]; omega)
        simpa [bs, hlM] using this
      have p1 := sum_any a la ca A wr HA.out (by omega) (Ha.out.later hbr)
      have Hrow := Hid.mk hrow
      have HBr := Hid.mk hbr
      clear hblk hrow hbr hkN
      go_wp2_with fail
      refine p1.mono ?_
      rintro e w3 ⟨rfl, hb3⟩
      have hB3 : Below w.heap.size w w3 := HBr.out.trans (hb3.mono HBr.out.size)
      have hrow3 := Hrow.out.agree (hb3.block _ Hrow.out.lt)
      have r0 : Hid (∀ q : Later w3, Calls Try.prog 11 #[.slice (some ⟨w1.heap.size, 0, none⟩) lb lb] q.to fun e w' => e = .returned (.int .i64 ((sumOf M : Nat) : Int)) ∧ Below q.to.heap.size q.to w') := fun q => sum_any _ _ _ M q.to HbM.out (by omega) (by have := (hrow3.agree (q.h.block _ hrow3.lt)).src; rw [HlM.out] at this; exact this)
      have r1 : Hid (∀ q : Later w3, Calls Try.prog 11 #[.slice a lb ca] q.to fun e w' => e = .returned (.int .i64 ((sumOf (A.take lb) : Nat) : Int)) ∧ Below q.to.heap.size q.to w') := fun q => sum_any _ _ _ _ q.to HT.out.1 (by omega) (((Ha.out.later hB3).later q.h).pre n1)
      have r2 : Hid (∀ q : Later w3, Calls Try.prog 11 #[.slice b lb cb] q.to fun e w' => e = .returned (.int .i64 ((sumOf (B.take lb) : Nat) : Int)) ∧ Below q.to.heap.size q.to w') := fun q => sum_any _ _ _ _ q.to HT.out.2.1 (by omega) (((Hb.out.later hB3).later q.h).pre n2)
      have r3 : Hid (∀ q : Later w3, Calls Try.prog 11 #[.slice c lb cc] q.to fun e w' => e = .returned (.int .i64 ((sumOf (C.take lb) : Nat) : Int)) ∧ Below q.to.heap.size q.to w') := fun q => sum_any _ _ _ _ q.to HT.out.2.2 (by omega) (((Hc.out.later hB3).later q.h).pre n3)
      have s0 := sumOf_lt HbM.out
      have s1 := sumOf_lt HT.out.1
      have s2 := sumOf_lt HT.out.2.1
      have s3 := sumOf_lt HT.out.2.2
      have sA := sumOf_lt HA.out
      have hsm := HsM.out
      have t1 := fun q : Later w3 => slice_pre a la ca lb (by omega) q.to
      have t2 := fun q : Later w3 => slice_pre b lb cb lb (by omega) q.to
      have t3 := fun q : Later w3 => slice_pre c lc cc lb (by omega) q.to
      generalize hS0 : sumOf M = S0 at *
      generalize hS1 : sumOf (A.take lb) = S1 at *
      generalize hS2 : sumOf (B.take lb) = S2 at *
      generalize hS3 : sumOf (C.take lb) = S3 at *
      have x1 : S1 ^^^ S2 < 4294967296 := by
        have : S1 ^^^ S2 < 2 ^ 32 := Nat.xor_lt_two_pow (by omega) (by omega)
        omega
      have e1 : bits .xor .i64 (S1 : Int) (S2 : Int) = ((S1 ^^^ S2 : Nat) : Int) := i64_xor_nat S1 S2 s1 s2
      have e2 : bits .xor .i64 ((S1 ^^^ S2 : Nat) : Int) (S3 : Int) = (S0 : Int) := by rw [i64_xor_nat _ _ x1 s3, hsm]
      have e3 : ((S0 : Int) != (S0 : Int)) = false := by simp
      have e4 : decide (((sumOf A : Nat) : Int) < 0) = false := by simp
      have e5 : decide (4294967295 < ((sumOf A : Nat) : Int)) = false := by simp; omega
      have hne := Later.some w3
      clear hS0 hS1 hS2 hS3 hsm s0 s1 s2 s3 x1 p1 hb3 Hrow HBr hrow3
      go_wp2_with fail
      refine wp_region_later (by kernel_rfl) (by kernel_rfl) ?_
      repeat (first | go_big_quiet_skip | (go_big_quiet_want; go_big_quiet_op; first | go_big_quiet_on | (apply Exists.intro; refine ⟨fun q => ?_, ?_⟩; (first | (go_at_call_of 11 (Value.slice (some ⟨w1.heap.size, 0, none⟩) lb lb); exact Calls.later_of (r0.out q)) | (go_at_call_of 11 (Value.slice a lb ca); exact Calls.later_of (r1.out q)) | (go_at_call_of 11 (Value.slice b lb cb); exact Calls.later_of (r2.out q)) | (go_at_call_of 11 (Value.slice c lb cc); exact Calls.later_of (r3.out q))); go_big_quiet_on)))
      refine wpQuiet_nil ?_
      rintro _ ⟨q, rfl⟩
      have hB4 : Below w.heap.size w q.to := hB3.trans (q.h.mono hB3.size)
      have Ha4 := Hid.mk (Ha.out.later hB4)
      generalize q.to = w4 at *
      clear r0 r1 r2 r3 t1 t2 t3 hB3
      go_wp2_with (at_make; refine wpList_make_full _ rfl _ _ 31 rfl w4.heap.size 5 i0 (.int .u8 0) 1 Try.underlying31 hi hz0 hz1 _ _ _ _ la rfl rfl ?d1 ?d2 ?d3 ?d4 ?d5 ?_)
      case d1 => rfl
      case d2 => rfl
      case d3 => rw [hz2]; omega
      case d4 => unfold maxLen; omega
      case d5 => exact Nat.le_refl _
      intro w5 hown hgrow
      have hr5 := made_row hown
      have hb5 : Below w4.heap.size w4 w5 := (Below.refl _ w4).grown hgrow (Nat.le_refl _) (by intro k hk; cases hk)
      have hf5 := hr5.full (by simp [bs])
      have hs5 := Ha4.out.later hb5
      have hlA := Ha4.out.1
      clear hown hgrow hr5
      obtain ⟨w6, hrun, hh, hk6, hsz6⟩ := copy_run w5 3 (some ⟨w4.heap.size, 0, none⟩) w4.heap.size 0 la la a la ca (bs (List.replicate la 0)) A hf5 hs5 (fun _ => rfl) (by simp [bs])
      have hb6 : Below w4.heap.size w4 w6 := hb5.trans (hk6.below (fun k h => by omega) hb5.size)
      have hr6 : RowAt w6 5 w4.heap.size la (bs A) := by
        have e : splice (bs (List.replicate la 0)) 0 (bs (A.take la)) = bs A := by
          rw [List.take_of_length_le (by omega)]
          simp [splice, bs]; omega
        rw [e] at hh
        have := RowAt.of_full hh (by simp [bs, maxLen]; omega)
        simpa [bs, hlA] using this
      have hown6 : w6.ownsRow w4.heap.size 5 1 (.slice (some ⟨w4.heap.size, 0, none⟩) la la) la (bs A) := by
        have h0 := hr6.le
        obtain ⟨cur, hb, hc, ht, hm⟩ := hr6
        have e : (bs A).length = la := by simp [bs, hlA]
        exact ⟨by simp [bs, hlA], .inr ⟨w4.heap.size, la, cur, rfl, Nat.le_refl _, hb, Nat.le_refl _, hm, by simpa using hc, by rw [e] at ht; simpa using ht⟩⟩
      have Hown := Hid.mk hown6
      have hB6 : Below w.heap.size w w6 := hB4.trans (hb6.mono hB4.size)
      have hS1 : ((sumOf A : Nat) : Int) < 4294967296 := by omega
      have hS0 : (0 : Int) ≤ ((sumOf A : Nat) : Int) := by omega
      have hz6 := hb6.size
      have hz4 := hB4.size
      have hfin := Hid.mk (sum_own HA.out)
      generalize sumOf A = S at *
      clear hh hf5 hs5 hb5 hk6 hr6 hown6 hsz6 e4 e5 e1 e2 e3 hne hlt' n1' n2' n3' g1 g2
      go_wp2_with (at_builtin; (refine wpList_append_own _ rfl _ _ 31 rfl w4.heap.size 5 i0 (.int .u8 0) 1 1 Try.underlying31 hi hz0 hz1 hz2 rfl (by decide) _ _ _ rfl (Hown.out.alloc _) ⟨w6.heap.size, 0, none⟩ 4 4 [.int .u8 ((S : Int) % 256), .int .u8 ((S : Int) / 256 % 256), .int .u8 ((S : Int) / 65536 % 256), .int .u8 ((S : Int) / 16777216)] rfl rfl ?n1 ?n2 ?n3 ?n4 ?n5 ?_))
      case n1 =>
        intro j u hj
        rw [addr_add, Nat.zero_add, cell_of_block (heap_alloc_new w6 _) (j := j) (u := u) (by simpa using hj)]
      case n2 =>
        intro u hu
        simp at hu
        rcases hu with rfl | rfl | rfl | rfl <;> rfl
      case n3 => unfold maxLen; omega
      case n4 => omega
      case n5 => simp; omega
      intro v' w7 hown' hgrow' hnil
      have hb7 : Below w4.heap.size w4 w7 := (hb6.alloc hz6 _).grown hgrow' (by simp; omega) (by intro k hk; simp [Value.ownBlock] at hk; omega)
      have hv : v' ≠ .slice none 0 0 := hnil
      have eN : bs A ++ [.int .u8 ((S : Int) % 256), .int .u8 ((S : Int) / 256 % 256), .int .u8 ((S : Int) / 65536 % 256), .int .u8 ((S : Int) / 16777216)] = bs (A ++ bytes4 S) := by
        have e3 : (S : Int) / 16777216 = (S : Int) / 16777216 % 256 := by omega
        rw [e3]
        simp [bs, bytes4]
      rw [eN] at hown'
      obtain ⟨g7, c7, rfl, hg7, hr7, _⟩ := RowAt.of_owns hown' hv
      have hsrc : Src w7 (some ⟨g7, 0, none⟩) (la + 4) (A ++ bytes4 S) := by
        have := hr7.src
        simpa [hlA, bytes4] using this
      have hBb : Bytes (A ++ bytes4 S) := fun x hx => by
        rcases List.mem_append.1 hx with h | h
        · exact HA.out x h
        · exact bytes4_bytes S x h
      have hp := sum_any (some ⟨g7, 0, none⟩) (la + 4) c7 _ w7 hBb (by omega) hsrc
      rw [hfin.out] at hp
      have hB7 : Below w.heap.size w w7 := hB4.trans (hb7.mono hB4.size)
      clear hown' hgrow' hnil hb7 hv eN hr7 hsrc hBb hfin Hown
      go_wp2_with fail
      refine hp.mono ?_
      rintro e w8 ⟨rfl, hb8⟩
      have hB8 : Below w.heap.size w w8 := hB7.trans (hb8.mono hB7.size)
      clear hp hb8
      go_wp2
      go_ret
      exact ⟨rfl, hB8⟩

set_option maxRecDepth 100000 in
set_option maxHeartbeats 8000000 in
theorem mixes_c (a : Option Addr) (la ca : Nat) (A : List Int) (b : Option Addr) (lb cb : Nat) (B : List Int) (c : Option Addr) (lc cc : Nat) (C : List Int) (w : World)
    (ha : Src w a la A) (hA : Bytes A) (ka : la ≤ ca) (na : la ≤ 140737488351232) (hb : Src w b lb B) (hB : Bytes B) (kb : lb ≤ cb) (nb : lb ≤ 140737488351232) (hc : Src w c lc C) (hC : Bytes C) (kc : lc ≤ cc) (nc : lc ≤ 140737488351232)
    (h1 : ¬ lb < la) (h2 : lc < la) :
    Calls Try.prog 4 #[.slice a la ca, .slice b lb cb, .slice c lc cc] w fun e w' => e = .returned (.bool true) ∧ Below w.heap.size w w' := by
  have g1 : ¬ (lb : Int) < (la : Int) := by omega
  have g2 : (lc : Int) < (la : Int) := by omega
  have n1 : lc ≤ la := by omega
  have n2 : lc ≤ lb := by omega
  have n3 : lc ≤ lc := by omega
  have n1' : ((lc : Nat) : Int) ≤ (la : Int) := by omega
  have n2' : ((lc : Nat) : Int) ≤ (lb : Int) := by omega
  have n3' : ((lc : Nat) : Int) ≤ (lc : Int) := by omega
  have hcv := Lib.run_convert_bytes_const (P := Try.prog) w 31 5 #[.int .u8 97] 1 1 Try.underlying31 Try.underlying5
  have hs0 : ∀ (w1 : World) (fr : Nat × Nat) (g : Nat), w1.heap[g]? = some (.cells #[.int .u8 97] 5 fr) → Calls Try.prog 11 #[.slice (some ⟨g, 0, none⟩) 1 1] w1 fun e w' => e = .returned (.int .i64 3251651376) ∧ Below w1.heap.size w1 w' := by
    intro w1 fr g hg
    have := sum_any (some ⟨g, 0, none⟩) 1 1 [97] w1 (by intro x hx; simp at hx; omega) (by omega) ⟨rfl, (fun h => by cases h), fun x hx i hi => by
      cases hx
      rw [addr_add, Nat.zero_add]
      simp only [World.cell?, hg]
      match i, hi with
      | 0, _ => rfl⟩
    rw [show sumOf [97] = 3251651376 by decide +kernel] at this
    exact this
  obtain ⟨i0, hi, hz0, hz1, hz2⟩ := info_parts infoU8
  have Ha := Hid.mk ha
  have Hb := Hid.mk hb
  have Hc := Hid.mk hc
  have HA := Hid.mk hA
  have HB := Hid.mk hB
  have HC := Hid.mk hC
  have lA : (A.take lc).length = lc := by have := ha.1; simp; omega
  have lB : (B.take lc).length = lc := by have := hb.1; simp; omega
  have lC : (C.take lc).length = lc := by have := hc.1; simp; omega
  have tA : Bytes (A.take lc) := fun y hy => hA y (List.mem_of_mem_take hy)
  have tB : Bytes (B.take lc) := fun y hy => hB y (List.mem_of_mem_take hy)
  have tC : Bytes (C.take lc) := fun y hy => hC y (List.mem_of_mem_take hy)
  have HL := Hid.mk (And.intro lA (And.intro lB lC))
  have HT := Hid.mk (And.intro tA (And.intro tB tC))
  clear ha hb hc h1 h2 hA hB hC lA lB lC tA tB tC
  go_enter Try.func4, Try.ntmps4
  go_wp2_with fail
  refine (hs0 _ _ w.heap.size (heap_alloc_new _ _)).mono ?_
  rintro e w1 ⟨rfl, hb1⟩
  have hB1 : Below w.heap.size w w1 := ((Below.refl _ w).alloc (Nat.le_refl _) _).trans (hb1.mono (by simp))
  clear hb1 hcv hs0
  go_wp2_with (at_make; refine wpList_make_full _ rfl _ _ 31 rfl w1.heap.size 5 i0 (.int .u8 0) 1 Try.underlying31 hi hz0 hz1 _ _ _ _ lc rfl rfl ?c1 ?c2 ?c3 ?c4 ?c5 ?_)
  case c1 => rfl
  case c2 => rfl
  case c3 => rw [hz2]; omega
  case c4 => unfold maxLen; omega
  case c5 => exact Nat.le_refl _
  intro w2 hown hgrow
  have hr := made_row hown
  have hb2 : Below w1.heap.size w1 w2 := (Below.refl _ w1).grown hgrow (Nat.le_refl _) (by intro k hk; cases hk)
  have hB2 : Below w.heap.size w w2 := hB1.trans (hb2.mono hB1.size)
  have hf := hr.full (by simp [bs])
  have hz := hB1.size
  obtain ⟨M, hM⟩ : ∃ M, M = mix3 (A.take lc) (B.take lc) (C.take lc) := ⟨_, rfl⟩
  have lM : M.length = lc := by rw [hM]; exact mix3_len _ _ _ _ HL.out.1 HL.out.2.1 HL.out.2.2
  have aM : ∀ i, i < lc → M[i]? = some (((A.getD i 0).toNat ^^^ (B.getD i 0).toNat ^^^ (C.getD i 0).toNat : Nat) : Int) := fun i hi => by
    rw [hM, mix3_at _ _ _ _ HL.out.1 HL.out.2.1 HL.out.2.2 i hi]
    simp [List.getD, hi]
  have bM : Bytes M := by rw [hM]; exact mix3_bytes _ _ _ HT.out.1 HT.out.2.1 HT.out.2.2
  have sM : sumOf M = sumOf (A.take lc) ^^^ sumOf (B.take lc) ^^^ sumOf (C.take lc) := by
    refine sum_mix (by rw [lM]; exact HL.out.1) (by rw [lM]; exact HL.out.2.1) (by rw [lM]; exact HL.out.2.2) ?_
    rw [hM]
    exact mix3_le _ _ _ _ HL.out.1 HL.out.2.1 HL.out.2.2 HT.out.1 HT.out.2.1 HT.out.2.2
  have HaM := Hid.mk aM
  have HbM := Hid.mk bM
  have HsM := Hid.mk sM
  have HlM := Hid.mk lM
  clear hown hgrow hr hb2 hM aM bM sM lM
  go_wp2
  go_loopw [9] (fun i wr => ∃ k : Nat, k ≤ lc ∧ i = .int .i64 k ∧ Below w.heap.size w wr ∧ wr.heap[w1.heap.size]? = some (.cells (bs (M.take k ++ List.replicate (lc - k) 0)).toArray 5 (0, 0))) (fun i _ => lc - (intOf i).toNat)
  case atStart => exact ⟨0, Nat.zero_le _, rfl, hB2, by simpa using hf⟩
  case round =>
    clear hB2 hf
    obtain ⟨k, hk, rfl, hbr, hblk⟩ := hrel
    by_cases hlt : k < lc
    · have hlt' : (k : Int) < ((lc : Nat) : Int) := by omega
      have i1 : (k : Int) < (la : Int) := by omega
      have i2 : (k : Int) < (lb : Int) := by omega
      have i3 : (k : Int) < (lc : Int) := by omega
      obtain ⟨xa, rfl⟩ : ∃ x, a = some x := by
        cases a with
        | none => have := Ha.out.2.1 rfl; omega
        | some x => exact ⟨x, rfl⟩
      obtain ⟨xb, rfl⟩ : ∃ x, b = some x := by
        cases b with
        | none => have := Hb.out.2.1 rfl; omega
        | some x => exact ⟨x, rfl⟩
      obtain ⟨xc, rfl⟩ : ∃ x, c = some x := by
        cases c with
        | none => have := Hc.out.2.1 rfl; omega
        | some x => exact ⟨x, rfl⟩
      obtain ⟨ba, oa, rfl, ca'⟩ := (Ha.out.later hbr).spot (by omega)
      obtain ⟨bb, ob, rfl, cb'⟩ := (Hb.out.later hbr).spot (by omega)
      obtain ⟨bc, oc, rfl, cc'⟩ := (Hc.out.later hbr).spot (by omega)
      obtain ⟨x, ex, hx⟩ := byteOf HA.out (i := k) (by have := Ha.out.1; omega)
      obtain ⟨y, ey, hy⟩ := byteOf HB.out (i := k) (by have := Hb.out.1; omega)
      obtain ⟨z, ez, hz'⟩ := byteOf HC.out (i := k) (by have := Hc.out.1; omega)
      have q1 := ca' k (by omega)
      have q2 := cb' k (by omega)
      have q3 := cc' k (by omega)
      have hMk := HaM.out k hlt
      rw [ex, ey, ez] at hMk
      simp only [Int.toNat_natCast] at hMk
      rw [ex] at q1
      rw [ey] at q2
      rw [ez] at q3
      have hxy : x ^^^ y < 256 := by
        have : x ^^^ y < 2 ^ 8 := Nat.xor_lt_two_pow (by omega) (by omega)
        omega
      have e1 := u8_xor_nat x y hx hy
      have e2 := u8_xor_nat (x ^^^ y) z hxy hz'
      obtain ⟨u0, v0⟩ : ∃ u, wr.cell? ⟨w1.heap.size, k, none⟩ = some u := ⟨_, cell_of_block hblk (j := k) (u := (bs (M.take k ++ List.replicate (lc - k) 0))[k]'(by have : M.length = lc := HlM.out; simp [bs]; omega)) (by simp [bs])⟩
      have f0 := frozen_of_block hblk k
      have hset := set_row (i := k) ((x ^^^ y ^^^ z : Nat) : Int) hblk
      have es : (M.take k ++ List.replicate (lc - k) 0).set k ((x ^^^ y ^^^ z : Nat) : Int) = M.take (k + 1) ++ List.replicate (lc - (k + 1)) 0 := by
        have hlM : M.length = lc := HlM.out
        have hkl : (M.take k).length = k := by simp; omega
        rw [List.set_append_right _ _ (by omega), hkl, Nat.sub_self]
        obtain ⟨m, hm⟩ : ∃ m, lc - k = m + 1 := ⟨lc - k - 1, by omega⟩
        rw [hm, show lc - (k + 1) = m by omega, List.replicate_succ, List.set_cons_zero, List.take_add_one, hMk]
        simp
      rw [es] at hset
      have HS := Hid.mk hset
      have HBn : Hid (Below w.heap.size w (wr.setCell ⟨w1.heap.size, k, none⟩ (.int .u8 ((x ^^^ y ^^^ z : Nat) : Int)))) := hbr.trans ((Keeps.setCell (F := fun j => j = w1.heap.size) (p := ⟨w1.heap.size, k, none⟩) wr rfl _).below (fun j hj => by omega) hbr.size)
      clear hset hblk hbr es hMk ex ey ez ca' cb' cc' hxy
      go_wp2
      go_region
      go_wp2
      go_roundw
      case rel => exact ⟨k + 1, by omega, by go_num, below_drew HBn.out, HS.out⟩
      case measure => simp [intOf]; omega
    · have hlt' : ¬ (k : Int) < ((lc : Nat) : Int) := by omega
      have hkN : k = lc := by omega
      have hrow : RowAt wr 5 w1.heap.size lc (bs M) := by
        have hlM : M.length = lc := HlM.out
        rw [hkN, Nat.sub_self, List.take_of_length_le (by omega)] at hblk
        have := RowAt.of_full hblk (by simp [bs, maxLen]; omega)
        simpa [bs, hlM] using this
      have p1 := sum_any a la ca A wr HA.out (by omega) (Ha.out.later hbr)
      have Hrow := Hid.mk hrow
      have HBr := Hid.mk hbr
      clear hblk hrow hbr hkN
      go_wp2_with fail
      refine p1.mono ?_
      rintro e w3 ⟨rfl, hb3⟩
      have hB3 : Below w.heap.size w w3 := HBr.out.trans (hb3.mono HBr.out.size)
      have hrow3 := Hrow.out.agree (hb3.block _ Hrow.out.lt)
      have r0 : Hid (∀ q : Later w3, Calls Try.prog 11 #[.slice (some ⟨w1.heap.size, 0, none⟩) lc lc] q.to fun e w' => e = .returned (.int .i64 ((sumOf M : Nat) : Int)) ∧ Below q.to.heap.size q.to w') := fun q => sum_any _ _ _ M q.to HbM.out (by omega) (by have := (hrow3.agree (q.h.block _ hrow3.lt)).src; rw [HlM.out] at this; exact this)
      have r1 : Hid (∀ q : Later w3, Calls Try.prog 11 #[.slice a lc ca] q.to fun e w' => e = .returned (.int .i64 ((sumOf (A.take lc) : Nat) : Int)) ∧ Below q.to.heap.size q.to w') := fun q => sum_any _ _ _ _ q.to HT.out.1 (by omega) (((Ha.out.later hB3).later q.h).pre n1)
      have r2 : Hid (∀ q : Later w3, Calls Try.prog 11 #[.slice b lc cb] q.to fun e w' => e = .returned (.int .i64 ((sumOf (B.take lc) : Nat) : Int)) ∧ Below q.to.heap.size q.to w') := fun q => sum_any _ _ _ _ q.to HT.out.2.1 (by omega) (((Hb.out.later hB3).later q.h).pre n2)
      have r3 : Hid (∀ q : Later w3, Calls Try.prog 11 #[.slice c lc cc] q.to fun e w' => e = .returned (.int .i64 ((sumOf (C.take lc) : Nat) : Int)) ∧ Below q.to.heap.size q.to w') := fun q => sum_any _ _ _ _ q.to HT.out.2.2 (by omega) (((Hc.out.later hB3).later q.h).pre n3)
      have s0 := sumOf_lt HbM.out
      have s1 := sumOf_lt HT.out.1
      have s2 := sumOf_lt HT.out.2.1
      have s3 := sumOf_lt HT.out.2.2
      have sA := sumOf_lt HA.out
      have hsm := HsM.out
      have t1 := fun q : Later w3 => slice_pre a la ca lc (by omega) q.to
      have t2 := fun q : Later w3 => slice_pre b lb cb lc (by omega) q.to
      have t3 := fun q : Later w3 => slice_pre c lc cc lc (by omega) q.to
      generalize hS0 : sumOf M = S0 at *
      generalize hS1 : sumOf (A.take lc) = S1 at *
      generalize hS2 : sumOf (B.take lc) = S2 at *
      generalize hS3 : sumOf (C.take lc) = S3 at *
      have x1 : S1 ^^^ S2 < 4294967296 := by
        have : S1 ^^^ S2 < 2 ^ 32 := Nat.xor_lt_two_pow (by omega) (by omega)
        omega
      have e1 : bits .xor .i64 (S1 : Int) (S2 : Int) = ((S1 ^^^ S2 : Nat) : Int) := i64_xor_nat S1 S2 s1 s2
      have e2 : bits .xor .i64 ((S1 ^^^ S2 : Nat) : Int) (S3 : Int) = (S0 : Int) := by rw [i64_xor_nat _ _ x1 s3, hsm]
      have e3 : ((S0 : Int) != (S0 : Int)) = false := by simp
      have e4 : decide (((sumOf A : Nat) : Int) < 0) = false := by simp
      have e5 : decide (4294967295 < ((sumOf A : Nat) : Int)) = false := by simp; omega
      have hne := Later.some w3
      clear hS0 hS1 hS2 hS3 hsm s0 s1 s2 s3 x1 p1 hb3 Hrow HBr hrow3
      go_wp2_with fail
      refine wp_region_later (by kernel_rfl) (by kernel_rfl) ?_
      repeat (first | go_big_quiet_skip | (go_big_quiet_want; go_big_quiet_op; first | go_big_quiet_on | (apply Exists.intro; refine ⟨fun q => ?_, ?_⟩; (first | (go_at_call_of 11 (Value.slice (some ⟨w1.heap.size, 0, none⟩) lc lc); exact Calls.later_of (r0.out q)) | (go_at_call_of 11 (Value.slice a lc ca); exact Calls.later_of (r1.out q)) | (go_at_call_of 11 (Value.slice b lc cb); exact Calls.later_of (r2.out q)) | (go_at_call_of 11 (Value.slice c lc cc); exact Calls.later_of (r3.out q))); go_big_quiet_on)))
      refine wpQuiet_nil ?_
      rintro _ ⟨q, rfl⟩
      have hB4 : Below w.heap.size w q.to := hB3.trans (q.h.mono hB3.size)
      have Ha4 := Hid.mk (Ha.out.later hB4)
      generalize q.to = w4 at *
      clear r0 r1 r2 r3 t1 t2 t3 hB3
      go_wp2_with (at_make; refine wpList_make_full _ rfl _ _ 31 rfl w4.heap.size 5 i0 (.int .u8 0) 1 Try.underlying31 hi hz0 hz1 _ _ _ _ la rfl rfl ?d1 ?d2 ?d3 ?d4 ?d5 ?_)
      case d1 => rfl
      case d2 => rfl
      case d3 => rw [hz2]; omega
      case d4 => unfold maxLen; omega
      case d5 => exact Nat.le_refl _
      intro w5 hown hgrow
      have hr5 := made_row hown
      have hb5 : Below w4.heap.size w4 w5 := (Below.refl _ w4).grown hgrow (Nat.le_refl _) (by intro k hk; cases hk)
      have hf5 := hr5.full (by simp [bs])
      have hs5 := Ha4.out.later hb5
      have hlA := Ha4.out.1
      clear hown hgrow hr5
      obtain ⟨w6, hrun, hh, hk6, hsz6⟩ := copy_run w5 3 (some ⟨w4.heap.size, 0, none⟩) w4.heap.size 0 la la a la ca (bs (List.replicate la 0)) A hf5 hs5 (fun _ => rfl) (by simp [bs])
      have hb6 : Below w4.heap.size w4 w6 := hb5.trans (hk6.below (fun k h => by omega) hb5.size)
      have hr6 : RowAt w6 5 w4.heap.size la (bs A) := by
        have e : splice (bs (List.replicate la 0)) 0 (bs (A.take la)) = bs A := by
          rw [List.take_of_length_le (by omega)]
          simp [splice, bs]; omega
        rw [e] at hh
        have := RowAt.of_full hh (by simp [bs, maxLen]; omega)
        simpa [bs, hlA] using this
      have hown6 : w6.ownsRow w4.heap.size 5 1 (.slice (some ⟨w4.heap.size, 0, none⟩) la la) la (bs A) := by
        have h0 := hr6.le
        obtain ⟨cur, hb, hc, ht, hm⟩ := hr6
        have e : (bs A).length = la := by simp [bs, hlA]
        exact ⟨by simp [bs, hlA], .inr ⟨w4.heap.size, la, cur, rfl, Nat.le_refl _, hb, Nat.le_refl _, hm, by simpa using hc, by rw [e] at ht; simpa using ht⟩⟩
      have Hown := Hid.mk hown6
      have hB6 : Below w.heap.size w w6 := hB4.trans (hb6.mono hB4.size)
      have hS1 : ((sumOf A : Nat) : Int) < 4294967296 := by omega
      have hS0 : (0 : Int) ≤ ((sumOf A : Nat) : Int) := by omega
      have hz6 := hb6.size
      have hz4 := hB4.size
      have hfin := Hid.mk (sum_own HA.out)
      generalize sumOf A = S at *
      clear hh hf5 hs5 hb5 hk6 hr6 hown6 hsz6 e4 e5 e1 e2 e3 hne hlt' n1' n2' n3' g1 g2
      go_wp2_with (at_builtin; (refine wpList_append_own _ rfl _ _ 31 rfl w4.heap.size 5 i0 (.int .u8 0) 1 1 Try.underlying31 hi hz0 hz1 hz2 rfl (by decide) _ _ _ rfl (Hown.out.alloc _) ⟨w6.heap.size, 0, none⟩ 4 4 [.int .u8 ((S : Int) % 256), .int .u8 ((S : Int) / 256 % 256), .int .u8 ((S : Int) / 65536 % 256), .int .u8 ((S : Int) / 16777216)] rfl rfl ?n1 ?n2 ?n3 ?n4 ?n5 ?_))
      case n1 =>
        intro j u hj
        rw [addr_add, Nat.zero_add, cell_of_block (heap_alloc_new w6 _) (j := j) (u := u) (by simpa using hj)]
      case n2 =>
        intro u hu
        simp at hu
        rcases hu with rfl | rfl | rfl | rfl <;> rfl
      case n3 => unfold maxLen; omega
      case n4 => omega
      case n5 => simp; omega
      intro v' w7 hown' hgrow' hnil
      have hb7 : Below w4.heap.size w4 w7 := (hb6.alloc hz6 _).grown hgrow' (by simp; omega) (by intro k hk; simp [Value.ownBlock] at hk; omega)
      have hv : v' ≠ .slice none 0 0 := hnil
      have eN : bs A ++ [.int .u8 ((S : Int) % 256), .int .u8 ((S : Int) / 256 % 256), .int .u8 ((S : Int) / 65536 % 256), .int .u8 ((S : Int) / 16777216)] = bs (A ++ bytes4 S) := by
        have e3 : (S : Int) / 16777216 = (S : Int) / 16777216 % 256 := by omega
        rw [e3]
        simp [bs, bytes4]
      rw [eN] at hown'
      obtain ⟨g7, c7, rfl, hg7, hr7, _⟩ := RowAt.of_owns hown' hv
      have hsrc : Src w7 (some ⟨g7, 0, none⟩) (la + 4) (A ++ bytes4 S) := by
        have := hr7.src
        simpa [hlA, bytes4] using this
      have hBb : Bytes (A ++ bytes4 S) := fun x hx => by
        rcases List.mem_append.1 hx with h | h
        · exact HA.out x h
        · exact bytes4_bytes S x h
      have hp := sum_any (some ⟨g7, 0, none⟩) (la + 4) c7 _ w7 hBb (by omega) hsrc
      rw [hfin.out] at hp
      have hB7 : Below w.heap.size w w7 := hB4.trans (hb7.mono hB4.size)
      clear hown' hgrow' hnil hb7 hv eN hr7 hsrc hBb hfin Hown
      go_wp2_with fail
      refine hp.mono ?_
      rintro e w8 ⟨rfl, hb8⟩
      have hB8 : Below w.heap.size w w8 := hB7.trans (hb8.mono hB7.size)
      clear hp hb8
      go_wp2
      go_ret
      exact ⟨rfl, hB8⟩

set_option maxRecDepth 100000 in
set_option maxHeartbeats 8000000 in
theorem mixes_a (a : Option Addr) (la ca : Nat) (A : List Int) (b : Option Addr) (lb cb : Nat) (B : List Int) (c : Option Addr) (lc cc : Nat) (C : List Int) (w : World)
    (ha : Src w a la A) (hA : Bytes A) (ka : la ≤ ca) (na : la ≤ 140737488351232) (hb : Src w b lb B) (hB : Bytes B) (kb : lb ≤ cb) (nb : lb ≤ 140737488351232) (hc : Src w c lc C) (hC : Bytes C) (kc : lc ≤ cc) (nc : lc ≤ 140737488351232)
    (h1 : ¬ lb < la) (h2 : ¬ lc < la) :
    Calls Try.prog 4 #[.slice a la ca, .slice b lb cb, .slice c lc cc] w fun e w' => e = .returned (.bool true) ∧ Below w.heap.size w w' := by
  have g1 : ¬ (lb : Int) < (la : Int) := by omega
  have g2 : ¬ (lc : Int) < (la : Int) := by omega
  have n1 : la ≤ la := by omega
  have n2 : la ≤ lb := by omega
  have n3 : la ≤ lc := by omega
  have n1' : ((la : Nat) : Int) ≤ (la : Int) := by omega
  have n2' : ((la : Nat) : Int) ≤ (lb : Int) := by omega
  have n3' : ((la : Nat) : Int) ≤ (lc : Int) := by omega
  have hcv := Lib.run_convert_bytes_const (P := Try.prog) w 31 5 #[.int .u8 97] 1 1 Try.underlying31 Try.underlying5
  have hs0 : ∀ (w1 : World) (fr : Nat × Nat) (g : Nat), w1.heap[g]? = some (.cells #[.int .u8 97] 5 fr) → Calls Try.prog 11 #[.slice (some ⟨g, 0, none⟩) 1 1] w1 fun e w' => e = .returned (.int .i64 3251651376) ∧ Below w1.heap.size w1 w' := by
    intro w1 fr g hg
    have := sum_any (some ⟨g, 0, none⟩) 1 1 [97] w1 (by intro x hx; simp at hx; omega) (by omega) ⟨rfl, (fun h => by cases h), fun x hx i hi => by
      cases hx
      rw [addr_add, Nat.zero_add]
      simp only [World.cell?, hg]
      match i, hi with
      | 0, _ => rfl⟩
    rw [show sumOf [97] = 3251651376 by decide +kernel] at this
    exact this
  obtain ⟨i0, hi, hz0, hz1, hz2⟩ := info_parts infoU8
  have Ha := Hid.mk ha
  have Hb := Hid.mk hb
  have Hc := Hid.mk hc
  have HA := Hid.mk hA
  have HB := Hid.mk hB
  have HC := Hid.mk hC
  have lA : (A.take la).length = la := by have := ha.1; simp; omega
  have lB : (B.take la).length = la := by have := hb.1; simp; omega
  have lC : (C.take la).length = la := by have := hc.1; simp; omega
  have tA : Bytes (A.take la) := fun y hy => hA y (List.mem_of_mem_take hy)
  have tB : Bytes (B.take la) := fun y hy => hB y (List.mem_of_mem_take hy)
  have tC : Bytes (C.take la) := fun y hy => hC y (List.mem_of_mem_take hy)
  have HL := Hid.mk (And.intro lA (And.intro lB lC))
  have HT := Hid.mk (And.intro tA (And.intro tB tC))
  clear ha hb hc h1 h2 hA hB hC lA lB lC tA tB tC
  go_enter Try.func4, Try.ntmps4
  go_wp2_with fail
  refine (hs0 _ _ w.heap.size (heap_alloc_new _ _)).mono ?_
  rintro e w1 ⟨rfl, hb1⟩
  have hB1 : Below w.heap.size w w1 := ((Below.refl _ w).alloc (Nat.le_refl _) _).trans (hb1.mono (by simp))
  clear hb1 hcv hs0
  go_wp2_with (at_make; refine wpList_make_full _ rfl _ _ 31 rfl w1.heap.size 5 i0 (.int .u8 0) 1 Try.underlying31 hi hz0 hz1 _ _ _ _ la rfl rfl ?c1 ?c2 ?c3 ?c4 ?c5 ?_)
  case c1 => rfl
  case c2 => rfl
  case c3 => rw [hz2]; omega
  case c4 => unfold maxLen; omega
  case c5 => exact Nat.le_refl _
  intro w2 hown hgrow
  have hr := made_row hown
  have hb2 : Below w1.heap.size w1 w2 := (Below.refl _ w1).grown hgrow (Nat.le_refl _) (by intro k hk; cases hk)
  have hB2 : Below w.heap.size w w2 := hB1.trans (hb2.mono hB1.size)
  have hf := hr.full (by simp [bs])
  have hz := hB1.size
  obtain ⟨M, hM⟩ : ∃ M, M = mix3 (A.take la) (B.take la) (C.take la) := ⟨_, rfl⟩
  have lM : M.length = la := by rw [hM]; exact mix3_len _ _ _ _ HL.out.1 HL.out.2.1 HL.out.2.2
  have aM : ∀ i, i < la → M[i]? = some (((A.getD i 0).toNat ^^^ (B.getD i 0).toNat ^^^ (C.getD i 0).toNat : Nat) : Int) := fun i hi => by
    rw [hM, mix3_at _ _ _ _ HL.out.1 HL.out.2.1 HL.out.2.2 i hi]
    simp [List.getD, hi]
  have bM : Bytes M := by rw [hM]; exact mix3_bytes _ _ _ HT.out.1 HT.out.2.1 HT.out.2.2
  have sM : sumOf M = sumOf (A.take la) ^^^ sumOf (B.take la) ^^^ sumOf (C.take la) := by
    refine sum_mix (by rw [lM]; exact HL.out.1) (by rw [lM]; exact HL.out.2.1) (by rw [lM]; exact HL.out.2.2) ?_
    rw [hM]
    exact mix3_le _ _ _ _ HL.out.1 HL.out.2.1 HL.out.2.2 HT.out.1 HT.out.2.1 HT.out.2.2
  have HaM := Hid.mk aM
  have HbM := Hid.mk bM
  have HsM := Hid.mk sM
  have HlM := Hid.mk lM
  clear hown hgrow hr hb2 hM aM bM sM lM
  go_wp2
  go_loopw [9] (fun i wr => ∃ k : Nat, k ≤ la ∧ i = .int .i64 k ∧ Below w.heap.size w wr ∧ wr.heap[w1.heap.size]? = some (.cells (bs (M.take k ++ List.replicate (la - k) 0)).toArray 5 (0, 0))) (fun i _ => la - (intOf i).toNat)
  case atStart => exact ⟨0, Nat.zero_le _, rfl, hB2, by simpa using hf⟩
  case round =>
    clear hB2 hf
    obtain ⟨k, hk, rfl, hbr, hblk⟩ := hrel
    by_cases hlt : k < la
    · have hlt' : (k : Int) < ((la : Nat) : Int) := by omega
      have i1 : (k : Int) < (la : Int) := by omega
      have i2 : (k : Int) < (lb : Int) := by omega
      have i3 : (k : Int) < (lc : Int) := by omega
      obtain ⟨xa, rfl⟩ : ∃ x, a = some x := by
        cases a with
        | none => have := Ha.out.2.1 rfl; omega
        | some x => exact ⟨x, rfl⟩
      obtain ⟨xb, rfl⟩ : ∃ x, b = some x := by
        cases b with
        | none => have := Hb.out.2.1 rfl; omega
        | some x => exact ⟨x, rfl⟩
      obtain ⟨xc, rfl⟩ : ∃ x, c = some x := by
        cases c with
        | none => have := Hc.out.2.1 rfl; omega
        | some x => exact ⟨x, rfl⟩
      obtain ⟨ba, oa, rfl, ca'⟩ := (Ha.out.later hbr).spot (by omega)
      obtain ⟨bb, ob, rfl, cb'⟩ := (Hb.out.later hbr).spot (by omega)
      obtain ⟨bc, oc, rfl, cc'⟩ := (Hc.out.later hbr).spot (by omega)
      obtain ⟨x, ex, hx⟩ := byteOf HA.out (i := k) (by have := Ha.out.1; omega)
      obtain ⟨y, ey, hy⟩ := byteOf HB.out (i := k) (by have := Hb.out.1; omega)
      obtain ⟨z, ez, hz'⟩ := byteOf HC.out (i := k) (by have := Hc.out.1; omega)
      have q1 := ca' k (by omega)
      have q2 := cb' k (by omega)
      have q3 := cc' k (by omega)
      have hMk := HaM.out k hlt
      rw [ex, ey, ez] at hMk
      simp only [Int.toNat_natCast] at hMk
      rw [ex] at q1
      rw [ey] at q2
      rw [ez] at q3
      have hxy : x ^^^ y < 256 := by
        have : x ^^^ y < 2 ^ 8 := Nat.xor_lt_two_pow (by omega) (by omega)
        omega
      have e1 := u8_xor_nat x y hx hy
      have e2 := u8_xor_nat (x ^^^ y) z hxy hz'
      obtain ⟨u0, v0⟩ : ∃ u, wr.cell? ⟨w1.heap.size, k, none⟩ = some u := ⟨_, cell_of_block hblk (j := k) (u := (bs (M.take k ++ List.replicate (la - k) 0))[k]'(by have : M.length = la := HlM.out; simp [bs]; omega)) (by simp [bs])⟩
      have f0 := frozen_of_block hblk k
      have hset := set_row (i := k) ((x ^^^ y ^^^ z : Nat) : Int) hblk
      have es : (M.take k ++ List.replicate (la - k) 0).set k ((x ^^^ y ^^^ z : Nat) : Int) = M.take (k + 1) ++ List.replicate (la - (k + 1)) 0 := by
        have hlM : M.length = la := HlM.out
        have hkl : (M.take k).length = k := by simp; omega
        rw [List.set_append_right _ _ (by omega), hkl, Nat.sub_self]
        obtain ⟨m, hm⟩ : ∃ m, la - k = m + 1 := ⟨la - k - 1, by omega⟩
        rw [hm, show la - (k + 1) = m by omega, List.replicate_succ, List.set_cons_zero, List.take_add_one, hMk]
        simp
      rw [es] at hset
      have HS := Hid.mk hset
      have HBn : Hid (Below w.heap.size w (wr.setCell ⟨w1.heap.size, k, none⟩ (.int .u8 ((x ^^^ y ^^^ z : Nat) : Int)))) := hbr.trans ((Keeps.setCell (F := fun j => j = w1.heap.size) (p := ⟨w1.heap.size, k, none⟩) wr rfl _).below (fun j hj => by omega) hbr.size)
      clear hset hblk hbr es hMk ex ey ez ca' cb' cc' hxy
      go_wp2
      go_region
      go_wp2
      go_roundw
      case rel => exact ⟨k + 1, by omega, by go_num, below_drew HBn.out, HS.out⟩
      case measure => simp [intOf]; omega
    · have hlt' : ¬ (k : Int) < ((la : Nat) : Int) := by omega
      have hkN : k = la := by omega
      have hrow : RowAt wr 5 w1.heap.size la (bs M) := by
        have hlM : M.length = la := HlM.out
        rw [hkN, Nat.sub_self, List.take_of_length_le (by omega)] at hblk
        have := RowAt.of_full hblk (by simp [bs, maxLen]; omega)
        simpa [bs, hlM] using this
      have p1 := sum_any a la ca A wr HA.out (by omega) (Ha.out.later hbr)
      have Hrow := Hid.mk hrow
      have HBr := Hid.mk hbr
      clear hblk hrow hbr hkN
      go_wp2_with fail
      refine p1.mono ?_
      rintro e w3 ⟨rfl, hb3⟩
      have hB3 : Below w.heap.size w w3 := HBr.out.trans (hb3.mono HBr.out.size)
      have hrow3 := Hrow.out.agree (hb3.block _ Hrow.out.lt)
      have r0 : Hid (∀ q : Later w3, Calls Try.prog 11 #[.slice (some ⟨w1.heap.size, 0, none⟩) la la] q.to fun e w' => e = .returned (.int .i64 ((sumOf M : Nat) : Int)) ∧ Below q.to.heap.size q.to w') := fun q => sum_any _ _ _ M q.to HbM.out (by omega) (by have := (hrow3.agree (q.h.block _ hrow3.lt)).src; rw [HlM.out] at this; exact this)
      have r1 : Hid (∀ q : Later w3, Calls Try.prog 11 #[.slice a la ca] q.to fun e w' => e = .returned (.int .i64 ((sumOf (A.take la) : Nat) : Int)) ∧ Below q.to.heap.size q.to w') := fun q => sum_any _ _ _ _ q.to HT.out.1 (by omega) (((Ha.out.later hB3).later q.h).pre n1)
      have r2 : Hid (∀ q : Later w3, Calls Try.prog 11 #[.slice b la cb] q.to fun e w' => e = .returned (.int .i64 ((sumOf (B.take la) : Nat) : Int)) ∧ Below q.to.heap.size q.to w') := fun q => sum_any _ _ _ _ q.to HT.out.2.1 (by omega) (((Hb.out.later hB3).later q.h).pre n2)
      have r3 : Hid (∀ q : Later w3, Calls Try.prog 11 #[.slice c la cc] q.to fun e w' => e = .returned (.int .i64 ((sumOf (C.take la) : Nat) : Int)) ∧ Below q.to.heap.size q.to w') := fun q => sum_any _ _ _ _ q.to HT.out.2.2 (by omega) (((Hc.out.later hB3).later q.h).pre n3)
      have s0 := sumOf_lt HbM.out
      have s1 := sumOf_lt HT.out.1
      have s2 := sumOf_lt HT.out.2.1
      have s3 := sumOf_lt HT.out.2.2
      have sA := sumOf_lt HA.out
      have hsm := HsM.out
      have t1 := fun q : Later w3 => slice_pre a la ca la (by omega) q.to
      have t2 := fun q : Later w3 => slice_pre b lb cb la (by omega) q.to
      have t3 := fun q : Later w3 => slice_pre c lc cc la (by omega) q.to
      generalize hS0 : sumOf M = S0 at *
      generalize hS1 : sumOf (A.take la) = S1 at *
      generalize hS2 : sumOf (B.take la) = S2 at *
      generalize hS3 : sumOf (C.take la) = S3 at *
      have x1 : S1 ^^^ S2 < 4294967296 := by
        have : S1 ^^^ S2 < 2 ^ 32 := Nat.xor_lt_two_pow (by omega) (by omega)
        omega
      have e1 : bits .xor .i64 (S1 : Int) (S2 : Int) = ((S1 ^^^ S2 : Nat) : Int) := i64_xor_nat S1 S2 s1 s2
      have e2 : bits .xor .i64 ((S1 ^^^ S2 : Nat) : Int) (S3 : Int) = (S0 : Int) := by rw [i64_xor_nat _ _ x1 s3, hsm]
      have e3 : ((S0 : Int) != (S0 : Int)) = false := by simp
      have e4 : decide (((sumOf A : Nat) : Int) < 0) = false := by simp
      have e5 : decide (4294967295 < ((sumOf A : Nat) : Int)) = false := by simp; omega
      have hne := Later.some w3
      clear hS0 hS1 hS2 hS3 hsm s0 s1 s2 s3 x1 p1 hb3 Hrow HBr hrow3
      go_wp2_with fail
      refine wp_region_later (by kernel_rfl) (by kernel_rfl) ?_
      repeat (first | go_big_quiet_skip | (go_big_quiet_want; go_big_quiet_op; first | go_big_quiet_on | (apply Exists.intro; refine ⟨fun q => ?_, ?_⟩; (first | (go_at_call_of 11 (Value.slice (some ⟨w1.heap.size, 0, none⟩) la la); exact Calls.later_of (r0.out q)) | (go_at_call_of 11 (Value.slice a la ca); exact Calls.later_of (r1.out q)) | (go_at_call_of 11 (Value.slice b la cb); exact Calls.later_of (r2.out q)) | (go_at_call_of 11 (Value.slice c la cc); exact Calls.later_of (r3.out q))); go_big_quiet_on)))
      refine wpQuiet_nil ?_
      rintro _ ⟨q, rfl⟩
      have hB4 : Below w.heap.size w q.to := hB3.trans (q.h.mono hB3.size)
      have Ha4 := Hid.mk (Ha.out.later hB4)
      generalize q.to = w4 at *
      clear r0 r1 r2 r3 t1 t2 t3 hB3
      go_wp2_with (at_make; refine wpList_make_full _ rfl _ _ 31 rfl w4.heap.size 5 i0 (.int .u8 0) 1 Try.underlying31 hi hz0 hz1 _ _ _ _ la rfl rfl ?d1 ?d2 ?d3 ?d4 ?d5 ?_)
      case d1 => rfl
      case d2 => rfl
      case d3 => rw [hz2]; omega
      case d4 => unfold maxLen; omega
      case d5 => exact Nat.le_refl _
      intro w5 hown hgrow
      have hr5 := made_row hown
      have hb5 : Below w4.heap.size w4 w5 := (Below.refl _ w4).grown hgrow (Nat.le_refl _) (by intro k hk; cases hk)
      have hf5 := hr5.full (by simp [bs])
      have hs5 := Ha4.out.later hb5
      have hlA := Ha4.out.1
      clear hown hgrow hr5
      obtain ⟨w6, hrun, hh, hk6, hsz6⟩ := copy_run w5 3 (some ⟨w4.heap.size, 0, none⟩) w4.heap.size 0 la la a la ca (bs (List.replicate la 0)) A hf5 hs5 (fun _ => rfl) (by simp [bs])
      have hb6 : Below w4.heap.size w4 w6 := hb5.trans (hk6.below (fun k h => by omega) hb5.size)
      have hr6 : RowAt w6 5 w4.heap.size la (bs A) := by
        have e : splice (bs (List.replicate la 0)) 0 (bs (A.take la)) = bs A := by
          rw [List.take_of_length_le (by omega)]
          simp [splice, bs]; omega
        rw [e] at hh
        have := RowAt.of_full hh (by simp [bs, maxLen]; omega)
        simpa [bs, hlA] using this
      have hown6 : w6.ownsRow w4.heap.size 5 1 (.slice (some ⟨w4.heap.size, 0, none⟩) la la) la (bs A) := by
        have h0 := hr6.le
        obtain ⟨cur, hb, hc, ht, hm⟩ := hr6
        have e : (bs A).length = la := by simp [bs, hlA]
        exact ⟨by simp [bs, hlA], .inr ⟨w4.heap.size, la, cur, rfl, Nat.le_refl _, hb, Nat.le_refl _, hm, by simpa using hc, by rw [e] at ht; simpa using ht⟩⟩
      have Hown := Hid.mk hown6
      have hB6 : Below w.heap.size w w6 := hB4.trans (hb6.mono hB4.size)
      have hS1 : ((sumOf A : Nat) : Int) < 4294967296 := by omega
      have hS0 : (0 : Int) ≤ ((sumOf A : Nat) : Int) := by omega
      have hz6 := hb6.size
      have hz4 := hB4.size
      have hfin := Hid.mk (sum_own HA.out)
      generalize sumOf A = S at *
      clear hh hf5 hs5 hb5 hk6 hr6 hown6 hsz6 e4 e5 e1 e2 e3 hne hlt' n1' n2' n3' g1 g2
      go_wp2_with (at_builtin; (refine wpList_append_own _ rfl _ _ 31 rfl w4.heap.size 5 i0 (.int .u8 0) 1 1 Try.underlying31 hi hz0 hz1 hz2 rfl (by decide) _ _ _ rfl (Hown.out.alloc _) ⟨w6.heap.size, 0, none⟩ 4 4 [.int .u8 ((S : Int) % 256), .int .u8 ((S : Int) / 256 % 256), .int .u8 ((S : Int) / 65536 % 256), .int .u8 ((S : Int) / 16777216)] rfl rfl ?n1 ?n2 ?n3 ?n4 ?n5 ?_))
      case n1 =>
        intro j u hj
        rw [addr_add, Nat.zero_add, cell_of_block (heap_alloc_new w6 _) (j := j) (u := u) (by simpa using hj)]
      case n2 =>
        intro u hu
        simp at hu
        rcases hu with rfl | rfl | rfl | rfl <;> rfl
      case n3 => unfold maxLen; omega
      case n4 => omega
      case n5 => simp; omega
      intro v' w7 hown' hgrow' hnil
      have hb7 : Below w4.heap.size w4 w7 := (hb6.alloc hz6 _).grown hgrow' (by simp; omega) (by intro k hk; simp [Value.ownBlock] at hk; omega)
      have hv : v' ≠ .slice none 0 0 := hnil
      have eN : bs A ++ [.int .u8 ((S : Int) % 256), .int .u8 ((S : Int) / 256 % 256), .int .u8 ((S : Int) / 65536 % 256), .int .u8 ((S : Int) / 16777216)] = bs (A ++ bytes4 S) := by
        have e3 : (S : Int) / 16777216 = (S : Int) / 16777216 % 256 := by omega
        rw [e3]
        simp [bs, bytes4]
      rw [eN] at hown'
      obtain ⟨g7, c7, rfl, hg7, hr7, _⟩ := RowAt.of_owns hown' hv
      have hsrc : Src w7 (some ⟨g7, 0, none⟩) (la + 4) (A ++ bytes4 S) := by
        have := hr7.src
        simpa [hlA, bytes4] using this
      have hBb : Bytes (A ++ bytes4 S) := fun x hx => by
        rcases List.mem_append.1 hx with h | h
        · exact HA.out x h
        · exact bytes4_bytes S x h
      have hp := sum_any (some ⟨g7, 0, none⟩) (la + 4) c7 _ w7 hBb (by omega) hsrc
      rw [hfin.out] at hp
      have hB7 : Below w.heap.size w w7 := hB4.trans (hb7.mono hB4.size)
      clear hown' hgrow' hnil hb7 hv eN hr7 hsrc hBb hfin Hown
      go_wp2_with fail
      refine hp.mono ?_
      rintro e w8 ⟨rfl, hb8⟩
      have hB8 : Below w.heap.size w w8 := hB7.trans (hb8.mono hB7.size)
      clear hp hb8
      go_wp2
      go_ret
      exact ⟨rfl, hB8⟩

theorem codecMixes_any (a : Option Addr) (la ca : Nat) (A : List Int) (b : Option Addr) (lb cb : Nat) (B : List Int) (c : Option Addr) (lc cc : Nat) (C : List Int) (w : World)
    (ha : Src w a la A) (hA : Bytes A) (ka : la ≤ ca) (na : la ≤ 140737488351232) (hb : Src w b lb B) (hB : Bytes B) (kb : lb ≤ cb) (nb : lb ≤ 140737488351232) (hc : Src w c lc C) (hC : Bytes C) (kc : lc ≤ cc) (nc : lc ≤ 140737488351232) :
    Calls Try.prog 4 #[.slice a la ca, .slice b lb cb, .slice c lc cc] w fun e w' => e = .returned (.bool true) ∧ Below w.heap.size w w' := by
  by_cases h1 : lb < la
  · by_cases h2 : lc < lb
    · exact mixes_ab a la ca A b lb cb B c lc cc C w ha hA ka na hb hB kb nb hc hC kc nc h1 h2
    · exact mixes_b a la ca A b lb cb B c lc cc C w ha hA ka na hb hB kb nb hc hC kc nc h1 h2
  · by_cases h2 : lc < la
    · exact mixes_c a la ca A b lb cb B c lc cc C w ha hA ka na hb hB kb nb hc hC kc nc h1 h2
    · exact mixes_a a la ca A b lb cb B c lc cc C w ha hA ka na hb hB kb nb hc hC kc nc h1 h2
end Go.Proofs.Ytimfidcpljimpaa
