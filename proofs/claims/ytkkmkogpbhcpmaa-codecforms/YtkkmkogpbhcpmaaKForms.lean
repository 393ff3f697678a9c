import Derived.Test.YtkkmkogpbhcpmaaKFo1
namespace Go.Proofs.Ytkkmkogpbhcpmaa
open Go.RowKit

set_option maxRecDepth 20000 in
set_option maxHeartbeats 16000000 in
theorem codecForms_any (a : Option Addr) (n c : Nat) (w : World) (hs : ListsC w w.heap.size a n) (hn : 24 * n ≤ 140737488355328) :
    Calls Try.prog 8 #[.slice a n c] w fun e w' => e = .returned (.bool true) ∧ Below w.heap.size w w' := by
  obtain ⟨i0, hi, hz0, hz1, hz2⟩ := info_parts infoU8
  have Hs := Hid.mk hs
  clear hs
  go_enter Try.func8, Try.ntmps8
  go_wp2_with (at_make; refine wpList_make_full _ rfl _ _ 27 rfl w.heap.size 5 i0 (.int .u8 0) 1 Try.underlying27 hi hz0 hz1 _ _ _ _ 128 rfl rfl ?c1 ?c2 ?c3 ?c4 ?c5 ?_)
  case c1 => rfl
  case c2 => rfl
  case c3 => rw [hz2]; omega
  case c4 => unfold maxLen; omega
  case c5 => exact Nat.le_refl _
  intro w1 hown hgrow
  have hr1 : RowAt w1 5 w.heap.size 128 (bs zeros128) := made_row hown
  have hb1 : Below w.heap.size w w1 := (Below.refl _ w).grown hgrow (Nat.le_refl _) (by intro k hk; cases hk)
  have hs1 := hr1.src
  rw [zeros128_len] at hs1
  have hd := decnode_any (some ⟨w.heap.size, 0, none⟩) 128 128 zeros128 w1 hs1 (bytes_rep 128) (by omega) (Nat.le_refl _) (fun _ => by omega)
  have HB1 := Hid.mk hb1
  clear hown hgrow hr1 hb1 hs1
  go_wp2_with fail
  refine hd.mono ?_
  rintro e w2 ⟨x, E, hdr, rfl, hb2⟩
  obtain ⟨rfl, rfl⟩ := dec_zeros hdr
  obtain ⟨F, w3, hbx⟩ := boxN nv0 w2
  have HB3 : Hid (Below w.heap.size w w3) := (HB1.out.trans (hb2.mono HB1.out.size)).trans (hbx.below.mono (Nat.le_trans HB1.out.size hb2.size))
  have hth := hbx.there
  have hall := hbx.all
  have hinf := hbx.info
  have hra := hbx.range
  have hsz3 : w3.heap.size = w2.heap.size + 1 := by rw [hbx.made, size_setCells]; simp
  rw [hbx.made] at hra hsz3
  have Hra := Hid.mk hra
  have HX := Hid.mk hbx
  have HS : Hid ((false = true) ↔ ¬ NSame 0 0 0 0 0 (fun _ => 0) 0 0 0 0 0 (fun _ => 0)) := ⟨fun h => (by cases h), fun h => absurd (NV.same nv0) h⟩
  clear hd hdr hb2 hbx hra HB1
  go_wp2_with (first | refine wpList_store_mid rfl 76 _ _ rfl w2.heap.size 0 F.toArray rfl (by rw [HX.out.eq]; rfl) ?h1 ?h2 hall ?_ | (refine wpList_load_guard ?hg 76 _ rfl w2.heap.size 0 rfl F _ Hra.out Try.underlying76 rfl hinf ?_; case hg => rfl) | (refine wpList_ne_node ?hg _ _ _ rfl 0 0 0 0 0 (fun _ => 0) 0 0 0 0 0 (fun _ => 0) (by rw [HX.out.eq]; rfl) rfl false HS.out ?_; case hg => rfl) | (at_make; refine wpList_make_full _ rfl _ _ 27 rfl (w2.heap.size + 1) 5 i0 (.int .u8 0) 1 Try.underlying27 hi hz0 hz1 _ _ _ _ 512 rfl rfl ?c1 ?c2 ?c3 ?c4 ?c5 ?_))
  case h1 => exact hth
  case h2 => simpa using hinf
  case c1 => rfl
  case c2 => rfl
  case c3 => rw [hz2]; omega
  case c4 => unfold maxLen; omega
  case c5 => exact Nat.le_of_eq hsz3.symm
  intro w4 hown4 hgrow4
  have hgrow4' : w3.grownBy w4 none := by rw [HX.out.made]; exact hgrow4
  have hr4 : RowAt w4 5 (w2.heap.size + 1) 512 (bs zeros512) := made_row hown4
  have hb4 : Below w.heap.size w w4 := HB3.out.grown hgrow4' HB3.out.size (by intro k hk; cases hk)
  have hs4 := hr4.src
  rw [zeros512_len] at hs4
  have hd := decsuper_any (some ⟨w2.heap.size + 1, 0, none⟩) 512 512 zeros512 w4 hs4 (bytes_rep 512) (by omega) (Nat.le_refl _) (fun _ => by omega)
  rw [sup_zeros] at hd
  have HB4 := Hid.mk hb4
  clear hown4 hgrow4 hgrow4' hr4 hb4 hs4 HX Hra hth hall hinf hsz3 HS HB3
  go_wp2_with fail
  refine hd.mono ?_
  rintro e w5 ⟨rfl, hb5⟩
  have HB5 : Hid (Below w.heap.size w w5) := HB4.out.trans (hb5.mono HB4.out.size)
  clear hd hb5 HB4 hi hz0 hz1 hz2
  go_wp2
  go_loopw [5] (fun i wr => ∃ k : Nat, k ≤ n ∧ i = .int .i64 k ∧ Below w.heap.size w wr) (fun i _ => n - (intOf i).toNat)
  case atStart => exact ⟨0, Nat.zero_le _, rfl, HB5.out⟩
  case round =>
    clear HB5
    obtain ⟨k, hk, rfl, hbr⟩ := hrel
    by_cases hlt : k < n
    rotate_left
    · have hlt' : ¬ (k : Int) < (n : Int) := by omega
      have HB := Hid.mk hbr
      clear hbr
      go_wp2
      go_ret
      exact ⟨rfl, HB.out⟩
    have hlt' : (k : Int) < (n : Int) := by omega
    obtain ⟨x, rfl⟩ : ∃ x, a = some x := by
      cases a with
      | none => have := Hs.out.1 rfl; omega
      | some x => exact ⟨x, rfl⟩
    obtain ⟨b, o, rfl, hbB, a', n', c', l, q0, hsrc, hby, hold, hn', hcap, hcm⟩ := (Hs.out.far hbr).2 x rfl k hlt
    have hll := hsrc.1
    have HS0 := Hid.mk (And.intro hbr hsrc)
    clear hbr hsrc Hs
    have hd1 := decnode_any a' n' c' l wr HS0.out.2 hby hn' hcap (fun _ => hcm)
    go_wp2_with fail
    refine hd1.mono ?_
    rintro e wa1 ⟨x1, E1, hdr1, rfl, hba1⟩
    obtain ⟨F1, wb1, hbx1⟩ := boxN x1 wa1
    have HS2 : Hid (Below w.heap.size w wa1 ∧ Src wa1 a' n' l) := ⟨HS0.out.1.trans (hba1.mono HS0.out.1.size), HS0.out.2.later hba1⟩
    have HS3 : Hid (Below w.heap.size w wb1 ∧ Src wb1 a' n' l) := ⟨HS2.out.1.trans (hbx1.below.mono HS2.out.1.size), HS2.out.2.later hbx1.below⟩
    have hth1 := hbx1.there
    have hall1 := hbx1.all
    have hinf1 := hbx1.info
    have hra1 := hbx1.range
    rw [hbx1.made] at hra1
    have Hra1 := Hid.mk hra1
    have HX1 := Hid.mk hbx1
    clear hd1 hba1 hbx1 hra1 HS0 HS2
    by_cases hE1 : E1 = 0
    · subst hE1
      have he1 := encnode_any x1 wb1
      rw [HX1.out.val] at he1
      have HDR1 := Hid.mk hdr1
      clear hdr1
      go_wp2_with (first | refine wpList_store_mid rfl 76 _ _ rfl wa1.heap.size 0 F1.toArray rfl (by rw [HX1.out.eq]; rfl) ?h1 ?h2 hall1 ?_ | refine wpList_load_mid rfl 76 _ rfl wa1.heap.size 0 rfl F1 _ Hra1.out Try.underlying76 rfl hinf1 ?_)
      case h1 => exact hth1
      case h2 => simpa using hinf1
      have hmade1 := HX1.out.made
      rw [← hmade1]
      clear hmade1 hth1 hall1 hinf1 Hra1 HX1
      refine he1.mono ?_
      rintro e wc1 ⟨v1, b1, E'1, hen1, rfl, hm1, _, hbc1⟩
      obtain ⟨hbl1, rfl⟩ := back_form hby HDR1.out hen1
      rw [hbl1] at hm1
      obtain ⟨g1, cg1, rfl, _, hrow1, _⟩ := hm1 rfl
      have HS4 : Hid (Below w.heap.size w wc1 ∧ Src wc1 a' n' l) := ⟨HS3.out.1.trans (hbc1.mono HS3.out.1.size), HS3.out.2.later hbc1⟩
      have hrs1 := hrow1.src
      rw [hll] at hrs1 ⊢
      clear he1 hen1 hbc1 HS3 HDR1 hm1 hbl1
      have hsa5 := same_any a' (some ⟨g1, 0, none⟩) n' c' cg1 l wc1 hn' HS4.out.2 hrs1
      go_wp2_with fail
      refine hsa5.mono ?_
      rintro e ws5 ⟨rfl, hbs5⟩
      have HS6 : Hid (Below w.heap.size w ws5 ∧ Src ws5 a' n' l) := ⟨HS4.out.1.trans (hbs5.mono HS4.out.1.size), HS4.out.2.later hbs5⟩
      clear hsa5 hbs5 HS4
      have hd7 := decent_any a' n' c' l ws5 HS6.out.2 hby hn' hcap (fun _ => hcm)
      go_wp2_with fail
      refine hd7.mono ?_
      rintro e wa7 ⟨rfl, hba7⟩
      have hbk7 := fun X Y Z E (h : entDec l = (X, Y, Z, E)) (h0 : E = 0) => ent_back (h0 ▸ h : entDec l = (X, Y, Z, 0))
      generalize hD7 : entDec l = D7 at *
      obtain ⟨X7, Y7, Z7, E7⟩ := D7
      have hbk7 := hbk7 X7 Y7 Z7 E7 rfl
      obtain ⟨wb7, hwb7⟩ : ∃ wb, wb = wa7.alloc (.cells #[.int .i64 X7, .int .i64 Y7, .string Z7, .int .i64 0] 89) := ⟨_, rfl⟩
      have hbb7 : Below wa7.heap.size wa7 wb7 := by rw [hwb7]; exact (Below.refl _ wa7).alloc (Nat.le_refl _) _
      have kb7 : wb7.heap[wa7.heap.size]? = some (.cells #[.int .i64 X7, .int .i64 Y7, .string Z7, .int .i64 0] 89 (0, 0)) := by rw [hwb7]; exact heap_alloc_new _ _
      have HS8 : Hid (Below w.heap.size w wa7 ∧ Src wa7 a' n' l) := ⟨HS6.out.1.trans (hba7.mono HS6.out.1.size), HS6.out.2.later hba7⟩
      have HS9 : Hid (Below w.heap.size w wb7 ∧ Src wb7 a' n' l) := ⟨HS8.out.1.trans (hbb7.mono HS8.out.1.size), HS8.out.2.later hbb7⟩
      have KB7 := Hid.mk kb7
      have HD7 := Hid.mk hD7
      clear hd7 hba7 hbb7 HS6 HS8 hD7 kb7
      by_cases hE7 : E7 = 0
      · have hen7 := hbk7 hE7
        subst hE7
        have he7 := encent_any X7 Y7 Z7 0 wb7
        rw [hen7] at he7
        clear hbk7 hen7
        go_wp2_with fail
        rw [← hwb7]
        clear hwb7
        refine he7.mono ?_
        rintro e wc7 ⟨v7, rfl, ae7, ce7, rfl, hrs7, hbc7⟩
        have hsl7 := cell_later hbc7 (cell_of_block KB7.out (j := 3) rfl)
        have HS10 : Hid (Below w.heap.size w wc7 ∧ Src wc7 a' n' l) := ⟨HS9.out.1.trans (hbc7.mono HS9.out.1.size), HS9.out.2.later hbc7⟩
        rw [hll] at hrs7 ⊢
        have HSL7 := Hid.mk hsl7
        clear he7 hbc7 HS9 HD7 KB7 hsl7
        have hsa11 := same_any a' ae7 n' c' ce7 l wc7 hn' HS10.out.2 hrs7
        go_wp2_with fail
        refine hsa11.mono ?_
        rintro e ws11 ⟨rfl, hbs11⟩
        have hsl11 := cell_later hbs11 HSL7.out
        have HS12 : Hid (Below w.heap.size w ws11 ∧ Src ws11 a' n' l) := ⟨HS10.out.1.trans (hbs11.mono HS10.out.1.size), HS10.out.2.later hbs11⟩
        clear hsa11 hbs11 HS10 HSL7 hrs7
        have hd13 := decsuper_any a' n' c' l ws11 HS12.out.2 hby hn' hcap (fun _ => hcm)
        go_wp2_with fail
        clear hsl11
        refine hd13.mono ?_
        rintro e wa13 ⟨rfl, hba13⟩
        have hbk13 := fun X Y Z E (h : supDec l = (X, Y, Z, E)) (h0 : E = 0) => sup_back (h0 ▸ h : supDec l = (X, Y, Z, 0))
        generalize hD13 : supDec l = D13 at *
        obtain ⟨X13, Y13, Z13, E13⟩ := D13
        have hbk13 := hbk13 X13 Y13 Z13 E13 rfl
        obtain ⟨wb13, hwb13⟩ : ∃ wb, wb = wa13.alloc (.cells #[.int .i64 X13, .int .i64 Y13, .int .i64 Z13] 85) := ⟨_, rfl⟩
        have hbb13 : Below wa13.heap.size wa13 wb13 := by rw [hwb13]; exact (Below.refl _ wa13).alloc (Nat.le_refl _) _
        have HS14 : Hid (Below w.heap.size w wa13 ∧ Src wa13 a' n' l) := ⟨HS12.out.1.trans (hba13.mono HS12.out.1.size), HS12.out.2.later hba13⟩
        have HS15 : Hid (Below w.heap.size w wb13 ∧ Src wb13 a' n' l) := ⟨HS14.out.1.trans (hbb13.mono HS14.out.1.size), HS14.out.2.later hbb13⟩
        have HD13 := Hid.mk hD13
        clear hd13 hba13 hbb13 HS12 HS14 hD13
        by_cases hE13 : E13 = 0
        · have hen13 := hbk13 hE13
          subst hE13
          have he13 := encsuper_any X13 Y13 Z13 wb13
          rw [hen13] at he13
          clear hbk13 hen13 HD13
          go_wp2_with fail
          rw [← hwb13]
          clear hwb13
          refine he13.mono ?_
          rintro e wc13 ⟨v13, rfl, ae13, ce13, rfl, hrs13, hbc13⟩
          have HS16 : Hid (Below w.heap.size w wc13 ∧ Src wc13 a' n' l) := ⟨HS15.out.1.trans (hbc13.mono HS15.out.1.size), HS15.out.2.later hbc13⟩
          rw [hll] at hrs13 ⊢
          clear he13 hbc13 HS15
          have hsa17 := same_any a' ae13 n' c' ce13 l wc13 hn' HS16.out.2 hrs13
          go_wp2_with fail
          refine hsa17.mono ?_
          rintro e ws17 ⟨rfl, hbs17⟩
          have HS18 : Hid (Below w.heap.size w ws17 ∧ Src ws17 a' n' l) := ⟨HS16.out.1.trans (hbs17.mono HS16.out.1.size), HS16.out.2.later hbs17⟩
          clear hsa17 hbs17 HS16
          go_wp2
          go_roundw
          case rel => exact ⟨k + 1, by omega, by go_num, HS18.out.1⟩
          case measure => simp [intOf]; omega
        · have hEf13 : (E13 == 0) = false := by rw [Bool.eq_false_iff, ne_eq, beq_iff_eq]; exact hE13
          clear hbk13 hE13 HD13
          go_wp2
          rw [← hwb13]
          go_roundw
          case rel => exact ⟨k + 1, by omega, by go_num, HS15.out.1⟩
          case measure => simp [intOf]; omega
      · have hEf7 : (E7 == 0) = false := by rw [Bool.eq_false_iff, ne_eq, beq_iff_eq]; exact hE7
        clear hbk7 hE7 KB7 HD7
        have hd19 := decsuper_any a' n' c' l wb7 HS9.out.2 hby hn' hcap (fun _ => hcm)
        go_wp2_with fail
        rw [← hwb7]
        clear hwb7
        refine hd19.mono ?_
        rintro e wa19 ⟨rfl, hba19⟩
        have hbk19 := fun X Y Z E (h : supDec l = (X, Y, Z, E)) (h0 : E = 0) => sup_back (h0 ▸ h : supDec l = (X, Y, Z, 0))
        generalize hD19 : supDec l = D19 at *
        obtain ⟨X19, Y19, Z19, E19⟩ := D19
        have hbk19 := hbk19 X19 Y19 Z19 E19 rfl
        obtain ⟨wb19, hwb19⟩ : ∃ wb, wb = wa19.alloc (.cells #[.int .i64 X19, .int .i64 Y19, .int .i64 Z19] 85) := ⟨_, rfl⟩
        have hbb19 : Below wa19.heap.size wa19 wb19 := by rw [hwb19]; exact (Below.refl _ wa19).alloc (Nat.le_refl _) _
        have HS20 : Hid (Below w.heap.size w wa19 ∧ Src wa19 a' n' l) := ⟨HS9.out.1.trans (hba19.mono HS9.out.1.size), HS9.out.2.later hba19⟩
        have HS21 : Hid (Below w.heap.size w wb19 ∧ Src wb19 a' n' l) := ⟨HS20.out.1.trans (hbb19.mono HS20.out.1.size), HS20.out.2.later hbb19⟩
        have HD19 := Hid.mk hD19
        clear hd19 hba19 hbb19 HS9 HS20 hD19
        by_cases hE19 : E19 = 0
        · have hen19 := hbk19 hE19
          subst hE19
          have he19 := encsuper_any X19 Y19 Z19 wb19
          rw [hen19] at he19
          clear hbk19 hen19 HD19
          go_wp2_with fail
          rw [← hwb19]
          clear hwb19
          refine he19.mono ?_
          rintro e wc19 ⟨v19, rfl, ae19, ce19, rfl, hrs19, hbc19⟩
          have HS22 : Hid (Below w.heap.size w wc19 ∧ Src wc19 a' n' l) := ⟨HS21.out.1.trans (hbc19.mono HS21.out.1.size), HS21.out.2.later hbc19⟩
          rw [hll] at hrs19 ⊢
          clear he19 hbc19 HS21
          have hsa23 := same_any a' ae19 n' c' ce19 l wc19 hn' HS22.out.2 hrs19
          go_wp2_with fail
          refine hsa23.mono ?_
          rintro e ws23 ⟨rfl, hbs23⟩
          have HS24 : Hid (Below w.heap.size w ws23 ∧ Src ws23 a' n' l) := ⟨HS22.out.1.trans (hbs23.mono HS22.out.1.size), HS22.out.2.later hbs23⟩
          clear hsa23 hbs23 HS22
          go_wp2
          go_roundw
          case rel => exact ⟨k + 1, by omega, by go_num, HS24.out.1⟩
          case measure => simp [intOf]; omega
        · have hEf19 : (E19 == 0) = false := by rw [Bool.eq_false_iff, ne_eq, beq_iff_eq]; exact hE19
          clear hbk19 hE19 HD19
          go_wp2
          rw [← hwb19]
          go_roundw
          case rel => exact ⟨k + 1, by omega, by go_num, HS21.out.1⟩
          case measure => simp [intOf]; omega
    · have hEf1 : (E1 == 0) = false := by rw [Bool.eq_false_iff, ne_eq, beq_iff_eq]; exact hE1
      clear hdr1 hE1
      have hd25 := decent_any a' n' c' l wb1 HS3.out.2 hby hn' hcap (fun _ => hcm)
      go_wp2_with (first | refine wpList_store_mid rfl 76 _ _ rfl wa1.heap.size 0 F1.toArray rfl (by rw [HX1.out.eq]; rfl) ?h1 ?h2 hall1 ?_)
      case h1 => exact hth1
      case h2 => simpa using hinf1
      have hmade1 := HX1.out.made
      rw [← hmade1]
      clear hmade1 hth1 hall1 hinf1 Hra1 HX1
      refine hd25.mono ?_
      rintro e wa25 ⟨rfl, hba25⟩
      have hbk25 := fun X Y Z E (h : entDec l = (X, Y, Z, E)) (h0 : E = 0) => ent_back (h0 ▸ h : entDec l = (X, Y, Z, 0))
      generalize hD25 : entDec l = D25 at *
      obtain ⟨X25, Y25, Z25, E25⟩ := D25
      have hbk25 := hbk25 X25 Y25 Z25 E25 rfl
      obtain ⟨wb25, hwb25⟩ : ∃ wb, wb = wa25.alloc (.cells #[.int .i64 X25, .int .i64 Y25, .string Z25, .int .i64 0] 89) := ⟨_, rfl⟩
      have hbb25 : Below wa25.heap.size wa25 wb25 := by rw [hwb25]; exact (Below.refl _ wa25).alloc (Nat.le_refl _) _
      have kb25 : wb25.heap[wa25.heap.size]? = some (.cells #[.int .i64 X25, .int .i64 Y25, .string Z25, .int .i64 0] 89 (0, 0)) := by rw [hwb25]; exact heap_alloc_new _ _
      have HS26 : Hid (Below w.heap.size w wa25 ∧ Src wa25 a' n' l) := ⟨HS3.out.1.trans (hba25.mono HS3.out.1.size), HS3.out.2.later hba25⟩
      have HS27 : Hid (Below w.heap.size w wb25 ∧ Src wb25 a' n' l) := ⟨HS26.out.1.trans (hbb25.mono HS26.out.1.size), HS26.out.2.later hbb25⟩
      have KB25 := Hid.mk kb25
      have HD25 := Hid.mk hD25
      clear hd25 hba25 hbb25 HS3 HS26 hD25 kb25
      by_cases hE25 : E25 = 0
      · have hen25 := hbk25 hE25
        subst hE25
        have he25 := encent_any X25 Y25 Z25 0 wb25
        rw [hen25] at he25
        clear hbk25 hen25
        go_wp2_with fail
        rw [← hwb25]
        clear hwb25
        refine he25.mono ?_
        rintro e wc25 ⟨v25, rfl, ae25, ce25, rfl, hrs25, hbc25⟩
        have hsl25 := cell_later hbc25 (cell_of_block KB25.out (j := 3) rfl)
        have HS28 : Hid (Below w.heap.size w wc25 ∧ Src wc25 a' n' l) := ⟨HS27.out.1.trans (hbc25.mono HS27.out.1.size), HS27.out.2.later hbc25⟩
        rw [hll] at hrs25 ⊢
        have HSL25 := Hid.mk hsl25
        clear he25 hbc25 HS27 HD25 KB25 hsl25
        have hsa29 := same_any a' ae25 n' c' ce25 l wc25 hn' HS28.out.2 hrs25
        go_wp2_with fail
        refine hsa29.mono ?_
        rintro e ws29 ⟨rfl, hbs29⟩
        have hsl29 := cell_later hbs29 HSL25.out
        have HS30 : Hid (Below w.heap.size w ws29 ∧ Src ws29 a' n' l) := ⟨HS28.out.1.trans (hbs29.mono HS28.out.1.size), HS28.out.2.later hbs29⟩
        clear hsa29 hbs29 HS28 HSL25 hrs25
        have hd31 := decsuper_any a' n' c' l ws29 HS30.out.2 hby hn' hcap (fun _ => hcm)
        go_wp2_with fail
        clear hsl29
        refine hd31.mono ?_
        rintro e wa31 ⟨rfl, hba31⟩
        have hbk31 := fun X Y Z E (h : supDec l = (X, Y, Z, E)) (h0 : E = 0) => sup_back (h0 ▸ h : supDec l = (X, Y, Z, 0))
        generalize hD31 : supDec l = D31 at *
        obtain ⟨X31, Y31, Z31, E31⟩ := D31
        have hbk31 := hbk31 X31 Y31 Z31 E31 rfl
        obtain ⟨wb31, hwb31⟩ : ∃ wb, wb = wa31.alloc (.cells #[.int .i64 X31, .int .i64 Y31, .int .i64 Z31] 85) := ⟨_, rfl⟩
        have hbb31 : Below wa31.heap.size wa31 wb31 := by rw [hwb31]; exact (Below.refl _ wa31).alloc (Nat.le_refl _) _
        have HS32 : Hid (Below w.heap.size w wa31 ∧ Src wa31 a' n' l) := ⟨HS30.out.1.trans (hba31.mono HS30.out.1.size), HS30.out.2.later hba31⟩
        have HS33 : Hid (Below w.heap.size w wb31 ∧ Src wb31 a' n' l) := ⟨HS32.out.1.trans (hbb31.mono HS32.out.1.size), HS32.out.2.later hbb31⟩
        have HD31 := Hid.mk hD31
        clear hd31 hba31 hbb31 HS30 HS32 hD31
        by_cases hE31 : E31 = 0
        · have hen31 := hbk31 hE31
          subst hE31
          have he31 := encsuper_any X31 Y31 Z31 wb31
          rw [hen31] at he31
          clear hbk31 hen31 HD31
          go_wp2_with fail
          rw [← hwb31]
          clear hwb31
          refine he31.mono ?_
          rintro e wc31 ⟨v31, rfl, ae31, ce31, rfl, hrs31, hbc31⟩
          have HS34 : Hid (Below w.heap.size w wc31 ∧ Src wc31 a' n' l) := ⟨HS33.out.1.trans (hbc31.mono HS33.out.1.size), HS33.out.2.later hbc31⟩
          rw [hll] at hrs31 ⊢
          clear he31 hbc31 HS33
          have hsa35 := same_any a' ae31 n' c' ce31 l wc31 hn' HS34.out.2 hrs31
          go_wp2_with fail
          refine hsa35.mono ?_
          rintro e ws35 ⟨rfl, hbs35⟩
          have HS36 : Hid (Below w.heap.size w ws35 ∧ Src ws35 a' n' l) := ⟨HS34.out.1.trans (hbs35.mono HS34.out.1.size), HS34.out.2.later hbs35⟩
          clear hsa35 hbs35 HS34
          go_wp2
          go_roundw
          case rel => exact ⟨k + 1, by omega, by go_num, HS36.out.1⟩
          case measure => simp [intOf]; omega
        · have hEf31 : (E31 == 0) = false := by rw [Bool.eq_false_iff, ne_eq, beq_iff_eq]; exact hE31
          clear hbk31 hE31 HD31
          go_wp2
          rw [← hwb31]
          go_roundw
          case rel => exact ⟨k + 1, by omega, by go_num, HS33.out.1⟩
          case measure => simp [intOf]; omega
      · have hEf25 : (E25 == 0) = false := by rw [Bool.eq_false_iff, ne_eq, beq_iff_eq]; exact hE25
        clear hbk25 hE25 KB25 HD25
        have hd37 := decsuper_any a' n' c' l wb25 HS27.out.2 hby hn' hcap (fun _ => hcm)
        go_wp2_with fail
        rw [← hwb25]
        clear hwb25
        refine hd37.mono ?_
        rintro e wa37 ⟨rfl, hba37⟩
        have hbk37 := fun X Y Z E (h : supDec l = (X, Y, Z, E)) (h0 : E = 0) => sup_back (h0 ▸ h : supDec l = (X, Y, Z, 0))
        generalize hD37 : supDec l = D37 at *
        obtain ⟨X37, Y37, Z37, E37⟩ := D37
        have hbk37 := hbk37 X37 Y37 Z37 E37 rfl
        obtain ⟨wb37, hwb37⟩ : ∃ wb, wb = wa37.alloc (.cells #[.int .i64 X37, .int .i64 Y37, .int .i64 Z37] 85) := ⟨_, rfl⟩
        have hbb37 : Below wa37.heap.size wa37 wb37 := by rw [hwb37]; exact (Below.refl _ wa37).alloc (Nat.le_refl _) _
        have HS38 : Hid (Below w.heap.size w wa37 ∧ Src wa37 a' n' l) := ⟨HS27.out.1.trans (hba37.mono HS27.out.1.size), HS27.out.2.later hba37⟩
        have HS39 : Hid (Below w.heap.size w wb37 ∧ Src wb37 a' n' l) := ⟨HS38.out.1.trans (hbb37.mono HS38.out.1.size), HS38.out.2.later hbb37⟩
        have HD37 := Hid.mk hD37
        clear hd37 hba37 hbb37 HS27 HS38 hD37
        by_cases hE37 : E37 = 0
        · have hen37 := hbk37 hE37
          subst hE37
          have he37 := encsuper_any X37 Y37 Z37 wb37
          rw [hen37] at he37
          clear hbk37 hen37 HD37
          go_wp2_with fail
          rw [← hwb37]
          clear hwb37
          refine he37.mono ?_
          rintro e wc37 ⟨v37, rfl, ae37, ce37, rfl, hrs37, hbc37⟩
          have HS40 : Hid (Below w.heap.size w wc37 ∧ Src wc37 a' n' l) := ⟨HS39.out.1.trans (hbc37.mono HS39.out.1.size), HS39.out.2.later hbc37⟩
          rw [hll] at hrs37 ⊢
          clear he37 hbc37 HS39
          have hsa41 := same_any a' ae37 n' c' ce37 l wc37 hn' HS40.out.2 hrs37
          go_wp2_with fail
          refine hsa41.mono ?_
          rintro e ws41 ⟨rfl, hbs41⟩
          have HS42 : Hid (Below w.heap.size w ws41 ∧ Src ws41 a' n' l) := ⟨HS40.out.1.trans (hbs41.mono HS40.out.1.size), HS40.out.2.later hbs41⟩
          clear hsa41 hbs41 HS40
          go_wp2
          go_roundw
          case rel => exact ⟨k + 1, by omega, by go_num, HS42.out.1⟩
          case measure => simp [intOf]; omega
        · have hEf37 : (E37 == 0) = false := by rw [Bool.eq_false_iff, ne_eq, beq_iff_eq]; exact hE37
          clear hbk37 hE37 HD37
          go_wp2
          rw [← hwb37]
          go_roundw
          case rel => exact ⟨k + 1, by omega, by go_num, HS39.out.1⟩
          case measure => simp [intOf]; omega
end Go.Proofs.Ytkkmkogpbhcpmaa
