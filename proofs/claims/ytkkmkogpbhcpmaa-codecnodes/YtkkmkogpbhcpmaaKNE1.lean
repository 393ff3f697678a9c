import Derived.Test.YtkkmkogpbhcpmaaKNodZ
import Derived.Test.YtkkmkogpbhcpmaaKTake
import Derived.Test.YtkkmkogpbhcpmaaKNodY
namespace Go.Proofs.Ytkkmkogpbhcpmaa
open Go.RowKit

/-- The document's encoder under way: the node's box, and the bytes at g. -/
structure EAt (w wr : World) (cs : Array Value) (g : Nat) (l : List Int) : Prop where
  below : Below w.heap.size w wr
  par : wr.heap[w.heap.size]? = some (.cells cs 76 (0, 0))
  row : Full wr g l
  far : w.heap.size < g
theorem EAt.lay {w wr w2 : World} {cs : Array Value} {g : Nat} {l l' : List Int} (h : EAt w wr cs g l) (hk : Keeps (fun j => j = g) wr w2) (hf : Full w2 g l') : EAt w w2 cs g l' := by
  have hg := h.far
  exact ⟨h.below.trans (hk.below (fun j hj => by omega) h.below.size), (hk.block _ (Array.getElem?_eq_some_iff.1 h.par).1 (by omega)).trans h.par, hf, hg⟩
theorem EAt.later {w wr w2 : World} {cs : Array Value} {g : Nat} {l : List Int} (h : EAt w wr cs g l) (hb : Below wr.heap.size wr w2) : EAt w w2 cs g l :=
  ⟨h.below.trans (hb.mono h.below.size), (hb.block _ (Array.getElem?_eq_some_iff.1 h.par).1).trans h.par, h.row.far hb, h.far⟩
theorem rep_zs (n : Nat) : List.replicate n (0 : Int) = zs n := rfl

set_option maxRecDepth 20000 in
set_option maxHeartbeats 4000000 in
theorem rencnode_bad (k l p s o : Int) (d : Nat → Int) (w : World) (h : ¬ (NNone k l p s o d ∨ NFits k l p s o d)) :
    Calls Try.prog 47 #[nd k l p s o d] w fun e w' => e = .returned (.tuple #[.slice none 0 0, .int .i64 20]) ∧ Below w.heap.size w w' := by
  obtain ⟨w1, hw1⟩ : ∃ w1, w1 = w.alloc (.cells (ndc k l p s o d) 76) := ⟨_, rfl⟩
  have hB1 : Below w.heap.size w w1 := by rw [hw1]; exact (Below.refl _ w).alloc (Nat.le_refl _) _
  have hq1 : w1.heap[w.heap.size]? = some (.cells (ndc k l p s o d) 76 (0, 0)) := by rw [hw1]; exact heap_alloc_new _ _
  have hl1 := range_of (cs := ndl k l p s o d) hq1
  have hfit := rnfit_any k l p s o d w1
  rw [hw1] at hl1
  have Hl1 := Hid.mk hl1
  have Hf := Hid.mk h
  have HB := Hid.mk hB1
  clear hl1 hq1 h hB1
  go_enter Try.func47, Try.ntmps47
  go_wp2_with (refine wpList_load_mid rfl 76 _ rfl w.heap.size 0 rfl (ndl k l p s o d) _ Hl1.out Try.underlying76 rfl infoNode ?_)
  rw [← hw1]
  clear hw1 Hl1
  refine hfit.mono ?_
  rintro e w2 ⟨⟨b, rfl, hb⟩, hb2⟩
  have eb : b = false := Bool.eq_false_iff.2 (fun h => Hf.out (hb.1 h))
  subst eb
  have HB2 : Hid (Below w.heap.size w w2) := HB.out.trans (hb2.mono HB.out.size)
  clear hfit hb hb2 HB Hf
  go_wp2
  go_ret2
  exact ⟨rfl, HB2.out⟩

theorem kind0 {k l p s o : Int} {d : Nat → Int} (h : NNone k l p s o d) : k = 0 := h.1

set_option maxRecDepth 20000 in
set_option maxHeartbeats 4000000 in
theorem rencnode_none (l p s o : Int) (d : Nat → Int) (w : World) (h : NNone 0 l p s o d) :
    Calls Try.prog 47 #[nd 0 l p s o d] w fun e w' => ∃ v, e = .returned (.tuple #[v, .int .i64 0]) ∧ Made w w' v zeros128 := by
  obtain ⟨i0, hi, hz0, hz1, hz2⟩ := info_parts infoU8
  obtain ⟨w1, hw1⟩ : ∃ w1, w1 = w.alloc (.cells (ndc 0 l p s o d) 76) := ⟨_, rfl⟩
  have hB1 : Below w.heap.size w w1 := by rw [hw1]; exact (Below.refl _ w).alloc (Nat.le_refl _) _
  have hq1 : w1.heap[w.heap.size]? = some (.cells (ndc 0 l p s o d) 76 (0, 0)) := by rw [hw1]; exact heap_alloc_new _ _
  have hz1' : w1.heap.size = w.heap.size + 1 := by rw [hw1]; simp
  have hl1 := range_of (cs := ndl 0 l p s o d) hq1
  have hfit := rnfit_any 0 l p s o d w1
  rw [hw1] at hl1
  have Hl1 := Hid.mk hl1
  have HB := Hid.mk (And.intro hB1 hq1)
  clear hl1 hq1 hB1
  go_enter Try.func47, Try.ntmps47
  go_wp2_with (refine wpList_load_mid rfl 76 _ rfl w.heap.size 0 rfl (ndl 0 l p s o d) _ Hl1.out Try.underlying76 rfl infoNode ?_)
  rw [← hw1]
  clear hw1 Hl1
  refine hfit.mono ?_
  rintro e w2 ⟨⟨b, rfl, hb⟩, hb2⟩
  have eb : b = true := hb.2 (.inl h)
  subst eb
  have HB2 : Hid (Below w.heap.size w w2) := HB.out.1.trans (hb2.mono HB.out.1.size)
  have hq2 := (hb2.block _ (Array.getElem?_eq_some_iff.1 HB.out.2).1).trans HB.out.2
  have HQ2 := Hid.mk hq2
  have hz2' : w.heap.size + 1 ≤ w2.heap.size := by have := hb2.size; omega
  clear hfit hb hb2 HB hq2
  go_wp2_with (at_make; refine wpList_make_full _ rfl _ _ 27 rfl w2.heap.size 5 i0 (.int .u8 0) 1 Try.underlying27 hi hz0 hz1 _ _ _ _ 128 rfl rfl ?c1 ?c2 ?c3 ?c4 ?c5 ?_)
  case c1 => rfl
  case c2 => rfl
  case c3 => rw [hz2]; omega
  case c4 => unfold maxLen; omega
  case c5 => exact Nat.le_refl _
  intro w3 hown hgrow
  have hr3 : RowAt w3 5 w2.heap.size 128 (bs zeros128) := made_row hown
  have hb3 : Below w2.heap.size w2 w3 := (Below.refl _ w2).grown hgrow (Nat.le_refl _) (by intro k hk; cases hk)
  have c0 := cell_of_block ((hb3.block _ (by omega)).trans HQ2.out) (j := 0) (u := .int .i64 0) rfl
  have HM : Hid (Made w w3 (.slice (some ⟨w2.heap.size, 0, none⟩) 128 128) zeros128) := ⟨w2.heap.size, 128, by rw [zeros128_len], by omega, hr3, HB2.out.trans (hb3.mono HB2.out.size)⟩
  clear hown hgrow hr3 hb3 HQ2 HB2
  go_wp2
  go_ret2
  exact ⟨_, rfl, HM.out⟩
theorem zs_cut (a b : Nat) : zs (a + b) = zs a ++ zs b := zs_add a b
theorem nb2_zs (k : Nat) (n : Nat) : nb1 k ++ zs (1 + n) = nb2 k ++ zs n := by rw [zs_add, nb2, rep_zs, List.append_assoc]
theorem nb7_zs (k l p s o : Nat) (n : Nat) : nb6 k l p s o ++ zs (4 + n) = nb7 k l p s o ++ zs n := by rw [zs_add, nb7, rep_zs, List.append_assoc]
theorem body_zs (k l p s o : Nat) (d : Nat → Nat) : nb7 k l p s o ++ ptrs d 12 ++ zs 56 = nodeBody k l p s o d ++ zs 4 := by
  rw [show (56 : Nat) = 52 + 4 from rfl, zs_add, nodeBody, nb10, nb9, nb8, rep_zs]
  show nb7 k l p s o ++ ((ptrs d 10 ++ leb 4 (d 10)) ++ leb 4 (d 11)) ++ (zs 52 ++ zs 4) = _
  simp only [List.append_assoc]
/-- One number is laid. -/
theorem lay_step {w wr : World} {cs : Array Value} {g : Nat} {A l : List Int} (at_ n m v : Nat) (h : EAt w wr cs g l) (hl : l = A ++ zs (n + m)) (ha : A.length = at_) (hN : at_ + n + m = 128) (hv : v ≤ 9223372036854775807) :
    Calls Try.prog 91 #[.slice (some ⟨g, 0, none⟩) 128 128, .int .i64 (at_ : Int), .int .i64 (n : Int), .int .i64 (v : Int)] wr fun e w' => e = .returned (.tuple #[]) ∧ EAt w w' cs g ((A ++ leb n v) ++ zs m) := by
  have hr := h.row
  rw [hl, zs_add] at hr
  refine (rlay_any g 128 128 A (zs n) (zs m) at_ n v wr hr ha (zs_len n) (by rw [List.length_append, List.length_append, zs_len, zs_len]; omega) (by omega) hv).mono ?_
  rintro e w' ⟨rfl, hf, hk⟩
  rw [← List.append_assoc] at hf
  exact ⟨rfl, h.lay hk hf⟩

set_option maxRecDepth 20000 in
set_option maxHeartbeats 8000000 in
theorem rencnode_ok (k l p s o : Nat) (d : Nat → Nat) (w : World) (hf : NFits k l p s o (fun i => (d i : Int))) :
    Calls Try.prog 47 #[nd (k : Int) (l : Int) (p : Int) (s : Int) (o : Int) (fun i => (d i : Int))] w fun e w' => ∃ v, e = .returned (.tuple #[v, .int .i64 0]) ∧ Made w w' v (sealed (nodeBody k l p s o d)) := by
  have hk1 := hf.1.1
  have hk2 := hf.1.2
  have hl2 := hf.2.1.2
  have hp2 : (p : Int) ≤ 1024 := by rcases hf.2.2.1 with h | h <;> omega
  have hs2 := hf.2.2.2.1.2
  have ho2 := hf.2.2.2.2.1.2
  have hd2 : ∀ i, i < 12 → d i ≤ 2047 := fun i hi => by have := (pf_iff (d i : Int)).1 (hf.2.2.2.2.2 i hi); omega
  have hkz : ((k : Int) == 0) = false := by rw [Bool.eq_false_iff, ne_eq, beq_iff_eq]; omega
  have HD := Hid.mk hd2
  obtain ⟨i0, hi, hz0, hz1, hz2⟩ := info_parts infoU8
  obtain ⟨w1, hw1⟩ : ∃ w1, w1 = w.alloc (.cells (ndc (k : Int) (l : Int) (p : Int) (s : Int) (o : Int) (fun i => (d i : Int))) 76) := ⟨_, rfl⟩
  have hB1 : Below w.heap.size w w1 := by rw [hw1]; exact (Below.refl _ w).alloc (Nat.le_refl _) _
  have hq1 : w1.heap[w.heap.size]? = some (.cells (ndc (k : Int) (l : Int) (p : Int) (s : Int) (o : Int) (fun i => (d i : Int))) 76 (0, 0)) := by rw [hw1]; exact heap_alloc_new _ _
  have hz1' : w1.heap.size = w.heap.size + 1 := by rw [hw1]; simp
  have hl1 := range_of (cs := ndl (k : Int) (l : Int) (p : Int) (s : Int) (o : Int) (fun i => (d i : Int))) hq1
  have hfit := rnfit_any (k : Int) (l : Int) (p : Int) (s : Int) (o : Int) (fun i => (d i : Int)) w1
  rw [hw1] at hl1
  have Hl1 := Hid.mk hl1
  have HB := Hid.mk (And.intro hB1 hq1)
  clear hl1 hq1 hB1
  go_enter Try.func47, Try.ntmps47
  go_wp2_with (refine wpList_load_mid rfl 76 _ rfl w.heap.size 0 rfl (ndl (k : Int) (l : Int) (p : Int) (s : Int) (o : Int) (fun i => (d i : Int))) _ Hl1.out Try.underlying76 rfl infoNode ?_)
  rw [← hw1]
  clear hw1 Hl1
  refine hfit.mono ?_
  rintro e w2 ⟨⟨b, rfl, hb⟩, hb2⟩
  have eb : b = true := hb.2 (.inr hf)
  subst eb
  have HB2 : Hid (Below w.heap.size w w2) := HB.out.1.trans (hb2.mono HB.out.1.size)
  have hq2 := (hb2.block _ (Array.getElem?_eq_some_iff.1 HB.out.2).1).trans HB.out.2
  have HQ2 := Hid.mk hq2
  have hz2' : w.heap.size + 1 ≤ w2.heap.size := by have := hb2.size; omega
  clear hfit hb hb2 HB hq2
  clear hf hd2
  go_wp2_with (at_make; refine wpList_make_full _ rfl _ _ 27 rfl w2.heap.size 5 i0 (.int .u8 0) 1 Try.underlying27 hi hz0 hz1 _ _ _ _ 128 rfl rfl ?c1 ?c2 ?c3 ?c4 ?c5 ?_)
  case c1 => rfl
  case c2 => rfl
  case c3 => rw [hz2]; omega
  case c4 => unfold maxLen; omega
  case c5 => exact Nat.le_refl _
  intro w3 hown hgrow
  have hr3 : RowAt w3 5 w2.heap.size 128 (bs (zs 128)) := made_row hown
  have hb3 : Below w2.heap.size w2 w3 := (Below.refl _ w2).grown hgrow (Nat.le_refl _) (by intro k hk; cases hk)
  have HE0 : Hid (EAt w w3 (ndc (k : Int) (l : Int) (p : Int) (s : Int) (o : Int) (fun i => (d i : Int))) w2.heap.size (zs 128)) := ⟨HB2.out.trans (hb3.mono HB2.out.size), (hb3.block _ (by omega)).trans HQ2.out, hr3.full (by simp only [bs, List.length_map, zs_len]), by omega⟩
  have hgn : ¬ w.heap.size = w2.heap.size := by omega
  clear hown hgrow hr3 hb3 HQ2 HB2 hi hz0 hz1 hz2
  have c0 := cell_of_block HE0.out.par (j := 0) (u := .int .i64 (k : Int)) rfl
  have y0 := lay_step (A := []) 0 1 127 k HE0.out (by rw [List.nil_append]) rfl rfl (by omega)
  rw [List.nil_append] at y0
  go_wp2_with fail
  clear c0
  refine y0.mono ?_
  rintro e wl0 ⟨rfl, hE1⟩
  rw [show leb 1 k ++ zs 127 = nb2 k ++ zs 126 from nb2_zs k 126] at hE1
  have HE1 := Hid.mk hE1
  clear y0 hE1 HE0
  have c1 := cell_of_block HE1.out.par (j := 1) (u := .int .i64 (l : Int)) rfl
  have y1 := lay_step (A := nb2 k) 2 2 124 l HE1.out rfl (nb2_len k) rfl (by omega)
  go_wp2_with fail
  clear c1
  refine y1.mono ?_
  rintro e wl1 ⟨rfl, hE2⟩
  rw [show nb2 k ++ leb 2 l = nb3 k l from rfl] at hE2
  have HE2 := Hid.mk hE2
  clear y1 hE2 HE1
  have c2 := cell_of_block HE2.out.par (j := 2) (u := .int .i64 (p : Int)) rfl
  have y2 := lay_step (A := nb3 k l) 4 4 120 p HE2.out rfl (nb3_len k l) rfl (by omega)
  go_wp2_with fail
  clear c2
  refine y2.mono ?_
  rintro e wl2 ⟨rfl, hE3⟩
  rw [show nb3 k l ++ leb 4 p = nb4 k l p from rfl] at hE3
  have HE3 := Hid.mk hE3
  clear y2 hE3 HE2
  have c3 := cell_of_block HE3.out.par (j := 3) (u := .int .i64 (s : Int)) rfl
  have y3 := lay_step (A := nb4 k l p) 8 8 112 s HE3.out rfl (nb4_len k l p) rfl (by omega)
  go_wp2_with fail
  clear c3
  refine y3.mono ?_
  rintro e wl3 ⟨rfl, hE4⟩
  rw [show nb4 k l p ++ leb 8 s = nb5 k l p s from rfl] at hE4
  have HE4 := Hid.mk hE4
  clear y3 hE4 HE3
  have c4 := cell_of_block HE4.out.par (j := 4) (u := .int .i64 (o : Int)) rfl
  have y4 := lay_step (A := nb5 k l p s) 16 4 108 o HE4.out rfl (nb5_len k l p s) rfl (by omega)
  go_wp2_with fail
  clear c4
  refine y4.mono ?_
  rintro e wl4 ⟨rfl, hE5⟩
  rw [show nb5 k l p s ++ leb 4 o = nb6 k l p s o from rfl, show nb6 k l p s o ++ zs 108 = nb7 k l p s o ++ zs 104 from nb7_zs k l p s o 104] at hE5
  have HE5 := Hid.mk hE5
  clear y4 hE5 HE4
  go_wp2
  go_loopw [5] (fun i wr => ∃ j : Nat, j ≤ 12 ∧ i = .int .i64 j ∧ EAt w wr (ndc (k : Int) (l : Int) (p : Int) (s : Int) (o : Int) (fun i => (d i : Int))) w2.heap.size (nb7 k l p s o ++ ptrs d j ++ zs (104 - 4 * j))) (fun i _ => 12 - (intOf i).toNat)
  case atStart => exact ⟨0, Nat.zero_le _, rfl, by simpa [ptrs] using HE5.out⟩
  case round =>
    clear HE5
    obtain ⟨j, hj, rfl, hE⟩ := hrel
    have HE := Hid.mk hE
    by_cases hlt : j < 12
    · have hlt' : (j : Int) < 12 := by omega
      have hl2 := range_of (cs := ndl (k : Int) (l : Int) (p : Int) (s : Int) (o : Int) (fun i => (d i : Int))) hE.par
      have HL2 := Hid.mk hl2
      have hpt := rptr_any (k : Int) (l : Int) (p : Int) (s : Int) (o : Int) (fun i => (d i : Int)) j hlt wr
      clear hE hl2
      go_wp2_with (refine wpList_load_mid rfl 76 _ rfl w.heap.size 0 rfl (ndl (k : Int) (l : Int) (p : Int) (s : Int) (o : Int) (fun i => (d i : Int))) _ HL2.out Try.underlying76 rfl infoNode ?_)
      refine hpt.mono ?_
      rintro e wp ⟨rfl, hbp⟩
      have hEp := HE.out.later hbp
      have y := lay_step (A := nb7 k l p s o ++ ptrs d j) (24 + 4 * j) 4 (100 - 4 * j) (d j) hEp (by congr 2; omega) (by rw [List.length_append, nb7_len, ptrs_len]) (by omega) (by have := HD.out j hlt; omega)
      rw [show (((24 + 4 * j : Nat)) : Int) = 24 + 4 * (j : Int) by omega] at y
      clear hpt hbp HE HL2 hEp
      go_wp2_with fail
      refine y.mono ?_
      rintro e wq ⟨rfl, hEq⟩
      have HEq : Hid (EAt w wq (ndc (k : Int) (l : Int) (p : Int) (s : Int) (o : Int) (fun i => (d i : Int))) w2.heap.size (nb7 k l p s o ++ ptrs d (j + 1) ++ zs (104 - 4 * (j + 1)))) := by
        show EAt w wq (ndc (k : Int) (l : Int) (p : Int) (s : Int) (o : Int) (fun i => (d i : Int))) w2.heap.size (nb7 k l p s o ++ (ptrs d j ++ leb 4 (d j)) ++ zs (104 - 4 * (j + 1)))
        rw [← List.append_assoc, show 104 - 4 * (j + 1) = 100 - 4 * j by omega]
        exact hEq
      clear y hEq
      go_wp2
      go_roundw
      case rel => exact ⟨j + 1, by omega, by go_num, HEq.out⟩
      case measure => simp [intOf]; omega
    · have hlt' : ¬ (j : Int) < 12 := by omega
      have hj12 : j = 12 := by omega
      subst hj12
      have hbl := nodeBody_len k l p s o d
      have hEb : EAt w wr (ndc (k : Int) (l : Int) (p : Int) (s : Int) (o : Int) (fun i => (d i : Int))) w2.heap.size (nodeBody k l p s o d ++ zs 4) := by
        have := hE
        rw [show 104 - 4 * 12 = 56 from rfl, body_zs] at this
        exact this
      have hsum : Calls Try.prog 93 #[.slice (some ⟨w2.heap.size, 0, none⟩) 124 128] wr fun e w' => e = .returned (.int .i64 ((sumOf (nodeBody k l p s o d) : Nat) : Int)) ∧ Below wr.heap.size wr w' := by
        refine rsum_any _ _ _ _ wr (nodeBody_bytes k l p s o d) (by omega) ?_
        have := hEb.row.src (by rw [List.length_append, hbl, zs_len]; omega) (n := 124) (by rw [List.length_append, hbl]; omega)
        rw [List.take_left' hbl] at this
        exact this
      have hsl := sumOf_lt (nodeBody_bytes k l p s o d)
      have HEb := Hid.mk hEb
      clear hE HE hEb
      go_wp2_with fail
      refine hsum.mono ?_
      rintro e ws ⟨rfl, hbs⟩
      have y := lay_step (A := nodeBody k l p s o d) 124 4 0 (sumOf (nodeBody k l p s o d)) (HEb.out.later hbs) rfl hbl rfl (by omega)
      clear hsum hbs HEb
      go_wp2_with fail
      refine y.mono ?_
      rintro e wz ⟨rfl, hEz⟩
      have HM : Hid (Made w wz (.slice (some ⟨w2.heap.size, 0, none⟩) 128 128) (sealed (nodeBody k l p s o d))) := by
        have hr := hEz.row
        rw [show zs 0 = [] from rfl, List.append_nil] at hr
        have hlen : (sealed (nodeBody k l p s o d)).length = 128 := by rw [sealed_len, hbl]
        have := RowAt.of_list hr (show (nodeBody k l p s o d ++ leb 4 (sumOf (nodeBody k l p s o d))).length ≤ 1000000 by rw [List.length_append, hbl, leb_len]; omega)
        exact ⟨w2.heap.size, 128, by rw [hlen], by omega, by rw [← hlen]; exact this, hEz.below⟩
      clear y hEz
      go_wp2
      go_ret2
      exact ⟨_, rfl, HM.out⟩
end Go.Proofs.Ytkkmkogpbhcpmaa
