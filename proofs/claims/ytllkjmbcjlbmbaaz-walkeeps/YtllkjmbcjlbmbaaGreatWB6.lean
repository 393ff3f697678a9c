import Derived.Test.YtllkjmbcjlbmbaaGreatWB5
namespace Go.Proofs.YtllkjmbcjlbmbaaGreat
open Go.RowKit Go.Maps

section
variable {w wr w' : World} {F F' : Nat → Prop} {pb bb p l n j low low' : Nat} {S S' X : DS} {v v' : Value} {ds ds' : List (List Int)} {nn nn' : Bool} {L L' : LG}

set_option maxRecDepth 20000 in
set_option maxHeartbeats 4000000 in
/-- Behind a cut, with no power. -/
theorem reopen_zero (h : KMem w wr F pb bb p l n X v ds low nn) (hX : Flat X n j ds low nn) (hfu : X.fuse = -1) (hD : KDead w wr F pb bb p l n X) (hdl : ds.length ≤ 600) :
    Calls Tryz.prog 26 #[.pointer (some ⟨pb, 0, none⟩), .int .i64 0] wr (KOut w pb n (j + 1)) := by
  have c0 := cell_of_block h.pk (j := 0) rfl
  have hfs := dfuse h.d 0 (by omega)
  have H := Hid.mk h
  have HD := Hid.mk hD
  clear h hD
  go_enter Tryz.func26, Tryz.ntmps26
  go_wp2_with fail
  refine hfs.mono ?_
  rintro e w1 ⟨rfl, hd1, hk1⟩
  have h1 := H.out.same hd1 hk1
  have hX1 := hX.lay 0 hd1.ok
  have hz : (X.lay 0).fuse = 0 := by
    unfold DS.lay
    rw [if_neg (by rw [hfu]; decide)]
    rfl
  obtain ⟨l1, l2, l3⟩ := lay_im X 0
  have hD1 := HD.out.keep (S' := X.lay 0) hk1 H.out.fl (by rw [l3]; omega)
  have hlo : lopen (X.lay 0) (n + 2) 0 (n : Int) = (3, X.lay 0) := by
    unfold lopen
    have : lrefuse (X.lay 0) (n + 2) 0 (n : Int) = 3 := by unfold lrefuse; rw [if_pos hz]
    rw [this, if_pos (by decide)]
  have c10 := cell_of_block h1.pk (j := 0) rfl
  have c12 := cell_of_block h1.pk (j := 2) rfl
  have hdr := below_drew (Below.refl w1.heap.size w1)
  have hop := Open_any (h1.later hdr).d hX1.byt 0 (n : Int) (by rw [hX1.p]; simp)
  rw [hlo] at hop
  have hB : KB (X.lay 0) n (j + 1) ds low nn := by
    obtain ⟨N, ho⟩ := hX1.ho
    exact ⟨hz, hX1.ok, hX1.byt, by rw [hX1.p]; exact Nat.zero_le _, hX1.l0, by have := hX1.lt; omega, ⟨N, ho.up (by omega)⟩, hX1.fu, hdl⟩
  have H1 := Hid.mk (h1.later hdr)
  have HD1 := Hid.mk (hD1.later hdr)
  clear hfs hd1 hk1 h1 hD1 hdr
  go_wp2_with fail
  go_region_held3 (fun w' => w'.cell? ⟨pb, 0, none⟩ = some (.pointer (some ⟨p, 0, none⟩)) ∧ w'.cell? ⟨pb, 2, none⟩ = some (.int .i64 (n : Int)))
    (first | exact ⟨c10, c12⟩ | exact ⟨c20, c22⟩)
    ((go_at_call 18; refine hop.mono ?_; rintro e w2 ⟨ho2, hd2, hk2⟩; have ho3 : e = .returned (.tuple #[.pointer none, .slice none 0 0, .int .i64 3]) := (by unfold Opened at ho2; rw [hlo, if_pos (by show (3 : Int) ≠ 0; decide)] at ho2; exact ho2); subst ho3; have h2 := H1.out.same hd2 hk2; have c20 := cell_of_block h2.pk (j := 0) rfl; have c22 := cell_of_block h2.pk (j := 2) rfl))
  have HZ : Hid (KAt w w2 pb n (j + 1)) := ⟨_, _, _, _, _, _, _, _, _, h2, .inr ⟨hB, HD1.out.keep hk2 H1.out.fl (Int.le_refl _)⟩⟩
  clear hop ho2 hd2 hk2 h2 c20 c22 c10 c12 c0
  go_wp2
  go_ret
  exact ⟨rfl, HZ.out⟩

set_option maxRecDepth 20000 in
set_option maxHeartbeats 8000000 in
/-- Behind a cut, with power. -/
theorem reopen_go (h : KMem w wr F pb bb p l n X v ds low nn) (hX : Flat X n j ds low nn) (hfu : X.fuse = -1) (hj : j ≤ 90000) (h18 : 18 ≤ n) (h256 : n ≤ 256) (calls : Int) (hc0 : calls ≠ 0) (hcm : calls ≤ 9223372036854775807) :
    Calls Tryz.prog 26 #[.pointer (some ⟨pb, 0, none⟩), .int .i64 calls] wr (KOut w pb n (j + 1)) := by
  have c0 := cell_of_block h.pk (j := 0) rfl
  have hfs := dfuse h.d calls hcm
  have H := Hid.mk h
  have hcz : (calls == 0) = false := by rw [beq_eq_false_iff_ne]; exact hc0
  clear h
  go_enter Tryz.func26, Tryz.ntmps26
  go_wp2_with fail
  refine hfs.mono ?_
  rintro e w1 ⟨rfl, hd1, hk1⟩
  have h1 := H.out.same hd1 hk1
  have hX1 := hX.lay calls hd1.ok
  have hz : (X.lay calls).fuse = max calls (-1) := by
    unfold DS.lay
    rw [if_neg (by rw [hfu]; decide)]
  have hzf : (X.lay calls).fuse ≠ 0 := by rw [hz]; omega
  obtain ⟨o1, o2, o3, o4⟩ := hX1.open (by omega) h18 h256 hzf
  have c10 := cell_of_block h1.pk (j := 0) rfl
  have c12 := cell_of_block h1.pk (j := 2) rfl
  have hdr := below_drew (Below.refl w1.heap.size w1)
  have hop := open_yesF (h1.later hdr).d hX1.byt ((0 : Nat) : Int) (n : Int) (by rw [hX1.p]; exact Nat.zero_le _) o1
  have H1 := Hid.mk (h1.later hdr)
  have HX1 := Hid.mk hX1
  generalize X.lay calls = Y at *
  clear hfs hd1 hk1 h1 hdr hX1
  go_wp2_with fail
  go_region_held3 (fun w' => w'.cell? ⟨pb, 0, none⟩ = some (.pointer (some ⟨p, 0, none⟩)) ∧ w'.cell? ⟨pb, 2, none⟩ = some (.int .i64 (n : Int)))
    (first | exact ⟨c10, c12⟩ | exact ⟨c20, c22⟩)
    ((go_at_call 18; refine hop.mono ?_; rintro e w2 ⟨lo, vo, rs, hd, rfl, ⟨hlo, hto⟩, hd2, hk2⟩; have h2 := H1.out.same hd2 hk2; have c20 := cell_of_block h2.pk (j := 0) rfl; have c22 := cell_of_block h2.pk (j := 2) rfl))
  obtain ⟨b1, b2, b3, b4, b5, b6, b7, b8⟩ := o4 rs hd hto.t hto.x hd2.ok
  have hz1 : w1.heap.size ≤ w2.heap.size := hk2.size
  have hFl1 : ∀ k, F k → k < w1.heap.size := fun k hf => H1.out.d.lt k hf
  have hlo' : w1.heap.size ≤ lo := hlo
  have hFo : ¬ F lo := fun hf => by have := hFl1 _ hf; omega
  have hw01 : w.heap.size ≤ w1.heap.size := H1.out.b.size
  have hlp : LogP w2 lo p (LG.opened Y 0 n hd) := hto.p
  have hll : LL w w2 F vo rs := hto.r.ll (B := w1.heap.size) hw01 hFl1 (Tells.pos hto.t)
  obtain ⟨la, lc, hv, hlc, hLs⟩ := hll.form
  obtain ⟨lb, lcb, hvb, hlcb, hLb⟩ := h2.ls.form
  have hrn : rs.length ≤ 256 := by
    have := Tells.length hto.t
    have := Tells.round (by omega) (Rp_round (oRing Y 0) n) hto.t
    have e : (LG.new Y ((0 : Nat) : Int).toNat (n : Int).toNat).n = n := by simp [LG.new]
    omega
  have hrl : ∀ i (hi : i < rs.length), (rs[i]).length ≤ 1000000 := fun i hi => by
    have := Tells.small (fun q => (pcOf_small (HX1.out.byt.now (0 + 2 + q % n))).2.2.2.2.1) hto.t _ (List.getElem_mem hi)
    omega
  have hbk := h2.bk
  rw [hvb] at hbk
  have hmay := may_any (a := la) (c := lc) hbk hLb hlcb hLs b1 (by omega) hrl
  have k23 := cell_of_block h2.pk (j := 3) rfl
  have H2 := Hid.mk h2
  have HLP := Hid.mk hlp
  have HLL := Hid.mk hll
  subst hv
  clear hop hto hd2 hk2 h2 c20 c22 c10 c12 c0 hlp hll hbk hLs hLb hrl o1 o4
  go_wp2_with fail
  refine hmay.mono ?_
  rintro e w3 ⟨rfl, hb3⟩
  have h3 := H2.out.later hb3
  have hlp3 := HLP.out.later hb3
  obtain ⟨h4, hk4⟩ := h3.relog (l' := lo) ⟨_, hlp3⟩ hFo (by omega)
  have hnl : lo ≠ pb := fun e => by have := h3.pk; rw [← e] at this; exact type_ne this hlp3 (by decide)
  have hll4 : LL w (w3.setCell ⟨pb, 1, none⟩ (.pointer (some ⟨lo, 0, none⟩))) F (.slice la rs.length lc) rs := (HLL.out.later hb3).keep hk4 (fun k e => .inr ⟨by rw [e]; exact h3.lp, pyC p l n bb, 33, (0, 0), by rw [e]; exact h3.pk, by decide, by decide⟩) (fun k hf => .inl hf)
  have hlp4 := hlp3.keep hk4 hnl
  obtain ⟨w4, hw4⟩ : ∃ w4, w4 = w3.setCell ⟨pb, 1, none⟩ (.pointer (some ⟨lo, 0, none⟩)) := ⟨_, rfl⟩
  have k31 := cell_of_block h3.pk (j := 1) rfl
  have f31 := frozen_of_block h3.pk 1
  rw [← hw4] at h4 hk4 hll4 hlp4
  obtain ⟨h6, hk6⟩ := h4.rebook hll4 rs.length false
  have hlp6 := hlp4.keep hk6 hnl
  have k43 := cell_of_block h4.pk (j := 3) rfl
  have f43 := frozen_of_block h4.pk 3
  have hbx4 := below_box w4 (.cells #[.slice la rs.length lc, .int .i64 (rs.length : Int), .bool false] 31)
  have k53 : (w4.alloc (.cells #[.slice la rs.length lc, .int .i64 (rs.length : Int), .bool false] 31)).cell? ⟨pb, 3, none⟩ = some (.pointer (some ⟨bb, 0, none⟩)) := cell_later hbx4 k43
  have f53 := frozen_of_block ((hbx4.block pb (lt_there h4.pk)).trans h4.pk) 3
  obtain ⟨w6, hw6⟩ : ∃ w6, w6 = (w4.alloc (.cells #[.slice la rs.length lc, .int .i64 (rs.length : Int), .bool false] 31)).setCell ⟨pb, 3, none⟩ (.pointer (some ⟨w4.heap.size, 0, none⟩)) := ⟨_, rfl⟩
  have h6' : KMem w w6 F pb w4.heap.size p lo n (lopen Y (n + 2) ((0 : Nat) : Int) (n : Int)).2 (.slice la rs.length lc) rs rs.length false := by rw [hw6]; exact h6
  have hlp6' : LogP w6 lo p (LG.opened Y 0 n hd) := by rw [hw6]; exact hlp6
  have hokL := (b2.at (i := 0) rfl).1
  have hst := Start_any h6'.d hlp6' hokL hFo b2.byt (by rw [b5]; simp)
  have hout := start_out (hd := hd) (rs := rs) b2 (by omega) rfl rfl rfl b6 b5 b4 b3 b7 b8 rfl (start_Ok b2.ok hokL)
  have H6 := Hid.mk h6'
  rw [hw4] at k43 f43 k53 f53
  have hz4 : w4.heap.size = w3.heap.size := by rw [hw4]; simp
  have HWW : Hid (((w3.setCell ⟨pb, 1, none⟩ (.pointer (some ⟨lo, 0, none⟩))).alloc (.cells #[.slice la rs.length lc, .int .i64 (rs.length : Int), .bool false] 31)).setCell ⟨pb, 3, none⟩ (.pointer (some ⟨w3.heap.size, 0, none⟩)) = w6) := by
    show _ = w6
    rw [hw6, hz4, hw4]
  clear hz4
  generalize (lopen Y (n + 2) ((0 : Nat) : Int) (n : Int)).2 = Z at *
  clear h3 hb3 hlp3 h4 hk4 hll4 hlp4 h6 hk6 hlp6 h6' hlp6' hbx4 hmay HLL HLP H2 b1 b2 b3 b4 b5 b6 b7 b8 hw4 hw6
  go_wp2_with fail
  rw [HWW.out]
  refine hst.mono ?_
  rintro e w7 ⟨rfl, hd7, hl7, hk7⟩
  have h7 := H6.out.step hd7 ⟨_, hl7⟩ hk7
  have k73 := cell_of_block h7.pk (j := 3) rfl
  have f73 := frozen_of_block h7.pk 3
  rcases hout with ⟨a1, a2, a3⟩ | ⟨a1, a2, a3, a4, a5, a6, a7⟩
  · rw [a1]
    obtain ⟨h8, hk8⟩ := h7.rebook (LL.nil w w7 _) 0 false
    have HZ : Hid (KAt w ((w7.alloc (.cells (bkC (.slice none 0 0) 0 false) 31)).setCell ⟨pb, 3, none⟩ (.pointer (some ⟨w7.heap.size, 0, none⟩))) pb n (j + 1)) := ⟨_, _, _, _, _, _, _, _, _, h8, .inl ⟨_, hl7.keep hk8 hnl, a3⟩⟩
    have hbx := below_box w7 (.cells #[.slice none 0 0, .int .i64 0, .bool false] 31)
    have kA : (w7.alloc (.cells #[.slice none 0 0, .int .i64 0, .bool false] 31)).cell? ⟨pb, 3, none⟩ = some (.pointer (some ⟨w4.heap.size, 0, none⟩)) := cell_later hbx k73
    have fA := frozen_of_block ((hbx.block pb (lt_there h7.pk)).trans h7.pk) 3
    clear hst hd7 hl7 hk7 h7 h8 hk8 hbx H6 HWW
    go_wp2
    go_ret
    exact ⟨rfl, HZ.out⟩
  · rw [a1]
    obtain ⟨h8, hk8⟩ := h7.setNone
    rw [a4] at hl7
    have hc1 : 0 < calls ∧ calls < 3 := by
      rw [o2, hz] at a2
      split at a2 <;> omega
    have hc2 := hc1.1
    have hc3 := hc1.2
    have HZ : Hid (KAt w (w7.setCell ⟨w4.heap.size, 2, none⟩ (.bool true)) pb n (j + 1)) := ⟨_, _, _, _, _, _, _, _, _, h8, .inr ⟨⟨a3, a5.ok, a5.byt, a5.p6, a5.l0, a5.lt, a6, a7, by omega⟩, .inl ⟨_, hl7.keep hk8 (fun e => h7.bbl e.symm), (a5.at (i := 0) rfl).1, (a5.at (i := 0) rfl).2⟩⟩⟩
    have k72 := cell_of_block h7.bk (j := 2) rfl
    have f72 := frozen_of_block h7.bk 2
    clear hst hd7 hl7 hk7 h7 h8 hk8 H6 HWW hc1
    go_wp2
    go_ret
    exact ⟨rfl, HZ.out⟩
end
end Go.Proofs.YtllkjmbcjlbmbaaGreat
