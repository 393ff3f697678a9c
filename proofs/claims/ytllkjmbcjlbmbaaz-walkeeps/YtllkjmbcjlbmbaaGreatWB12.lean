import Derived.Test.YtllkjmbcjlbmbaaGreatWB11
namespace Go.Proofs.YtllkjmbcjlbmbaaGreat
open Go.RowKit Go.Maps

section
variable {w wr w' : World} {F F' : Nat → Prop} {pb bb p l n j low low' : Nat} {S S' X : DS} {v v' : Value} {ds ds' : List (List Int)} {nn nn' : Bool} {L L' : LG}
set_option maxRecDepth 20000 in
set_option maxHeartbeats 8000000 in
theorem klast_any (h : KAt w wr pb n j) (hj : j ≤ 90000) (h18 : 18 ≤ n) (h256 : n ≤ 256) :
    Calls Tryz.prog 7 #[.pointer (some ⟨pb, 0, none⟩)] wr (fun e w' => e = .returned (.bool true) ∧ Below w.heap.size w w') := by
  obtain ⟨F, bb, p, l, S, v, ds, low, nn, hm, ha⟩ := h
  have hp6 : S.puts.length ≤ 600 := ha.elim (fun ⟨L, _, h2⟩ => h2.i.p6) (fun ⟨h1, _⟩ => h1.p6)
  have c0 := cell_of_block hm.pk (j := 0) rfl
  have hcr := dcrash hm.d (by omega) none 0 0 [] ⟨rfl, fun _ => rfl, (fun x hx => by cases hx), fun q hq => by cases hq⟩ (by omega) (fun x e => by cases e)
  have HM := Hid.mk hm
  have HA := Hid.mk ha
  clear hm ha
  go_enter Tryz.func7, Tryz.ntmps7
  go_wp2_with fail
  refine hcr.mono ?_
  rintro e w1 ⟨rfl, hd1, hk1⟩
  obtain ⟨F1, bb1, l1, X, v1, ds1, low1, nn1, x1, x2, x3, x4, x5⟩ := HM.out.cut HA.out (by omega) (by omega) [] hd1 hk1
  have hre := reopen_full x1 x2 x3 hj h18 h256
  clear hcr hd1 hk1 x1 x2 x3 x4 x5 HM HA c0
  go_wp2_with fail
  refine hre.mono ?_
  rintro e w2 ⟨rfl, F2, bb2, p2, l2, S2, v2, L2, h2, hl2, hA2, hf2, ht2⟩
  have c1 := cell_of_block h2.pk (j := 1) rfl
  obtain ⟨a1, a2, a3⟩ := app_three hA2 (by omega) hf2 ht2
  have hbx := below_box w2 (.cells #[.int .u8 1, .int .u8 2, .int .u8 3] 5)
  have h3 := h2.later hbx
  have hl3 := hl2.later hbx
  have hrw : RowAt (w2.alloc (.cells #[.int .u8 1, .int .u8 2, .int .u8 3] 5)) 5 w2.heap.size 3 (bs [1, 2, 3]) := ⟨_, heap_alloc_new _ _, rfl, rfl, by unfold maxLen; omega⟩
  have hp2 := hA2.i.p6
  have hap := Append_any h3.d hl3 (hA2.i.at (i := 0) rfl).1 h3.fl (some ⟨w2.heap.size, 0, none⟩) 3 3 [1, 2, 3] hrw.src (fun y e _ hf => by cases e; have h9 : w2.heap.size < w2.heap.size := h2.d.lt _ hf; omega) (by intro x hx; simp at hx; omega) (Nat.le_refl _) (by omega) (by omega)
  rw [a1] at hap
  have H3 := Hid.mk h3
  clear hre h2 hl2 hl3 hrw h3 hbx
  go_wp2_with fail
  refine hap.mono ?_
  rintro e w4 ⟨rfl, hd4, hl4, hk4⟩
  have h4 := H3.out.step hd4 ⟨_, hl4⟩ hk4
  generalize (L2.append S2 (n + 2) [1, 2, 3]).2.1 = S4 at *
  generalize (L2.append S2 (n + 2) [1, 2, 3]).2.2 = L4 at *
  generalize w2.alloc (.cells #[.int .u8 1, .int .u8 2, .int .u8 3] 5) = w3 at *
  generalize more F2 w3 w4 = F4 at *
  have hp4 := a3.i.p6
  have hsy := Sync_any h4.d hl4 h4.fl (by omega)
  rcases a3.sync with ⟨y1, _⟩ | ⟨y1, y2, y3⟩
  · rw [a2] at y1; cases y1
  rw [y2] at hsy
  have c41 := cell_of_block h4.pk (j := 1) rfl
  have H4 := Hid.mk h4
  clear hap hd4 hl4 hk4 h4 H3 c1
  go_wp2_with fail
  refine hsy.mono ?_
  rintro e w5 ⟨rfl, hd5, hl5, hk5⟩
  have h5 := H4.out.same hd5 hk5
  generalize (L4.sync S4 (n + 2)).2 = S5 at *
  have hp5 := y3.i.p6
  have c50 := cell_of_block h5.pk (j := 0) rfl
  have hcr := dcrash h5.d (by omega) none 0 0 [] ⟨rfl, fun _ => rfl, (fun x hx => by cases hx), fun q hq => by cases hq⟩ (by omega) (fun x e => by cases e)
  have H5 := Hid.mk h5
  clear hsy hd5 hl5 hk5 h5 H4 c41
  go_wp2_with fail
  refine hcr.mono ?_
  rintro e w6 ⟨rfl, hd6, hk6⟩
  have h6 := H5.out.same hd6 hk6
  have hF := (flat_cut (nn := false) y3.i.byt y3.i.ok y3.i.l0 y3.i.lt ⟨_, y3.ho⟩ (y3.fut (by omega) false) (by omega) (by omega) [] hd6.ok).1
  have hfu : (S5.crash (n + 2) []).fuse ≠ 0 := by show (-1 : Int) ≠ 0; decide
  obtain ⟨o1, o2, o3, o4⟩ := hF.open (by omega) h18 h256 hfu
  have hdr := below_drew (Below.refl w6.heap.size w6)
  have hop := open_yesF (h6.later hdr).d hF.byt ((0 : Nat) : Int) (n : Int) (by rw [hF.p]; exact Nat.zero_le _) o1
  have c60 := cell_of_block h6.pk (j := 0) rfl
  have c62 := cell_of_block h6.pk (j := 2) rfl
  have H6 := Hid.mk (h6.later hdr)
  clear hcr hd6 hk6 h6 hdr H5 c50
  generalize S5.crash (n + 2) [] = X at *
  go_wp2_with fail
  go_region_held3 (fun w' => w'.cell? ⟨pb, 0, none⟩ = some (.pointer (some ⟨p2, 0, none⟩)) ∧ w'.cell? ⟨pb, 2, none⟩ = some (.int .i64 (n : Int)))
    (first | exact ⟨c60, c62⟩ | exact ⟨c70, c72⟩)
    ((go_at_call 18; refine hop.mono ?_; rintro e w7 ⟨lo, vo, rs, hd, rfl, ⟨hlo, hto⟩, hd7, hk7⟩; have h7 := H6.out.same hd7 hk7; have c70 := cell_of_block h7.pk (j := 0) rfl; have c72 := cell_of_block h7.pk (j := 2) rfl))
  obtain ⟨b1, _⟩ := o4 rs hd hto.t hto.x hd7.ok
  obtain rfl : rs = [[1, 2, 3]] := by
    rcases b1 with ⟨b, _⟩ | ⟨b, b', b''⟩
    · cases b
    · have e1 : rs.length = 1 := by simp at b b'; omega
      rw [b'', e1]
      rfl
  obtain ⟨vs, ho, he⟩ := hto.r
  obtain ⟨gv, cv, e0, e1, e2, _⟩ := he 0 (by simp)
  obtain ⟨g9, cap9, hv, hg9, hr9, _⟩ := RowAt.of_owns ho (by rintro rfl; rcases ho.2 with ⟨_, h⟩ | ⟨_, _, _, h, _⟩; cases h; cases h)
  subst hv
  have k9 : w7.cell? ⟨g9, 0, none⟩ = some (.slice (some ⟨gv, 0, none⟩) 3 cv) := hr9.cell e0
  have hbx := below_box w7 (.cells #[.int .u8 1, .int .u8 2, .int .u8 3] 5)
  have hrw : RowAt (w7.alloc (.cells #[.int .u8 1, .int .u8 2, .int .u8 3] 5)) 5 w7.heap.size 3 (bs [1, 2, 3]) := ⟨_, heap_alloc_new _ _, rfl, rfl, by unfold maxLen; omega⟩
  have hsm := sm_any (some ⟨gv, 0, none⟩) (some ⟨w7.heap.size, 0, none⟩) 3 3 cv 3 [1, 2, 3] [1, 2, 3] _ (by omega) (e1.src.later hbx) hrw.src
  rw [decide_eq_true rfl] at hsm
  have HB := Hid.mk (h7.later hbx).b
  clear hop hto hd7 hk7 h7 c60 c62 c70 c72 ho he hr9 hrw hbx H6 e1
  go_wp2_with fail
  refine hsm.mono ?_
  rintro e w8 ⟨rfl, hb8⟩
  have HB8 := Hid.mk (HB.out.trans (hb8.mono HB.out.size))
  clear hsm hb8
  go_wp2
  go_ret
  exact ⟨rfl, HB8.out⟩
end
end Go.Proofs.YtllkjmbcjlbmbaaGreat
