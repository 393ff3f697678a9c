import Derived.Test.YtllkjmbcjlbmbaaGreatWB6
import Derived.Test.YtllkjmbcjlbmbaaGreatWT4
namespace Go.Proofs.YtllkjmbcjlbmbaaGreat
open Go.RowKit Go.Maps

section
variable {w wr w' : World} {F F' : Nat → Prop} {pb bb p l n j low low' : Nat} {S S' X : DS} {v v' : Value} {ds ds' : List (List Int)} {nn nn' : Bool} {L L' : LG}
theorem KAt.later (h : KAt w wr pb n j) (hb : Below wr.heap.size wr w') : KAt w w' pb n j := by
  obtain ⟨F, bb, p, l, S, v, ds, low, nn, hm, ⟨L, hl, hA⟩ | ⟨hB, hD⟩⟩ := h
  · exact ⟨F, bb, p, l, S, v, ds, low, nn, hm.later hb, .inl ⟨L, hl.later hb, hA⟩⟩
  · exact ⟨F, bb, p, l, S, v, ds, low, nn, hm.later hb, .inr ⟨hB, hD.later hb⟩⟩
theorem KB.up (h : KB S n j ds low nn) : KB S n (j + 1) ds low nn := by
  obtain ⟨N, ho⟩ := h.ho
  exact ⟨h.fz, h.ok, h.byt, h.p6, h.l0, by have := h.lt; omega, ⟨N, ho.up (by omega)⟩, h.fu, h.dl⟩
theorem KAt.up (h : KAt w wr pb n j) : KAt w wr pb n (j + 1) := by
  obtain ⟨F, bb, p, l, S, v, ds, low, nn, hm, ⟨L, hl, hA⟩ | ⟨hB, hD⟩⟩ := h
  · exact ⟨F, bb, p, l, S, v, ds, low, nn, hm, .inl ⟨L, hl, hA.up⟩⟩
  · exact ⟨F, bb, p, l, S, v, ds, low, nn, hm, .inr ⟨hB.up, hD⟩⟩
theorem KAt.below (h : KAt w wr pb n j) : Below w.heap.size w wr := by
  obtain ⟨F, bb, p, l, S, v, ds, low, nn, hm, _⟩ := h
  exact hm.b

section
variable {A B' : Int} {da : Option Addr} {dn dc : Nat} {pa : Option Addr} {pn pc : Nat} {d : List Int} {pl : List P3}
set_option maxRecDepth 20000 in
set_option maxHeartbeats 4000000 in
theorem one_app (h : KAt w wr pb n j) (hj : j ≤ 100000) (ho : OpIn wr w.heap.size A da dn dc pa pn d pl) :
    Calls Tryz.prog 6 #[.pointer (some ⟨pb, 0, none⟩), .agg (opC4 4 A B' da dn dc pa pn pc)] wr (KOut w pb n j) := by
  obtain rfl : dn = d.length := ho.s.1.symm
  have hbx := below_box wr (.cells (opC4 4 A B' da d.length dc pa pn pc) 38)
  have h5 := h.later hbx
  have hap := papp_all h5 hj da dc d (ho.s.later hbx) ho.b ho.l ho.n
  have hq : (wr.alloc (.cells (opC4 4 A B' da d.length dc pa pn pc) 38)).heap[wr.heap.size]? = some (.cells (opC4 4 A B' da d.length dc pa pn pc) 38 (0, 0)) := heap_alloc_new _ _
  have k0 := cell_of_block hq (j := 0) rfl
  have k3 := cell_of_block hq (j := 3) rfl
  clear h h5 ho hbx hq
  go_enter Tryz.func6, Tryz.ntmps6
  go_wp2_with fail
  refine hap.mono ?_
  rintro e w7 ⟨rfl, hk⟩
  have HZ := Hid.mk hk
  clear hap hk
  go_wp2
  go_ret
  exact ⟨rfl, HZ.out⟩
set_option maxRecDepth 20000 in
set_option maxHeartbeats 4000000 in
theorem one_trim (h : KAt w wr pb n j) (hj : j ≤ 100000) :
    Calls Tryz.prog 6 #[.pointer (some ⟨pb, 0, none⟩), .agg (opC4 6 A B' da dn dc pa pn pc)] wr (KOut w pb n j) := by
  have hbx := below_box wr (.cells (opC4 6 A B' da dn dc pa pn pc) 38)
  have h5 := h.later hbx
  have hap := ptrim_all h5 hj
  have hq : (wr.alloc (.cells (opC4 6 A B' da dn dc pa pn pc) 38)).heap[wr.heap.size]? = some (.cells (opC4 6 A B' da dn dc pa pn pc) 38 (0, 0)) := heap_alloc_new _ _
  have k0 := cell_of_block hq (j := 0) rfl
  clear h h5 hbx hq
  go_enter Tryz.func6, Tryz.ntmps6
  go_wp2_with fail
  refine hap.mono ?_
  rintro e w7 ⟨rfl, hk⟩
  have HZ := Hid.mk hk
  clear hap hk
  go_wp2
  go_ret
  exact ⟨rfl, HZ.out⟩
set_option maxRecDepth 20000 in
set_option maxHeartbeats 4000000 in
theorem one_none (h : KAt w wr pb n j) (kd : Int) (h4 : kd ≠ 4) (h5 : kd ≠ 5) (h6 : kd ≠ 6) (h9 : kd ≠ 9) (h10 : kd ≠ 10) :
    Calls Tryz.prog 6 #[.pointer (some ⟨pb, 0, none⟩), .agg (opC4 kd A B' da dn dc pa pn pc)] wr (KOut w pb n j) := by
  have hbx := below_box wr (.cells (opC4 kd A B' da dn dc pa pn pc) 38)
  have HZ := Hid.mk (h.later hbx)
  have hq : (wr.alloc (.cells (opC4 kd A B' da dn dc pa pn pc) 38)).heap[wr.heap.size]? = some (.cells (opC4 kd A B' da dn dc pa pn pc) 38 (0, 0)) := heap_alloc_new _ _
  have k0 := cell_of_block hq (j := 0) rfl
  have g4 : (kd == 4) = false := by rw [beq_eq_false_iff_ne]; exact h4
  have g5 : (kd == 5) = false := by rw [beq_eq_false_iff_ne]; exact h5
  have g6 : (kd == 6) = false := by rw [beq_eq_false_iff_ne]; exact h6
  have g9 : (kd == 9) = false := by rw [beq_eq_false_iff_ne]; exact h9
  have g10 : (kd == 10) = false := by rw [beq_eq_false_iff_ne]; exact h10
  clear h hbx hq h4 h5 h6 h9 h10
  go_enter Tryz.func6, Tryz.ntmps6
  go_wp2
  go_ret
  exact ⟨rfl, HZ.out⟩
set_option maxRecDepth 20000 in
set_option maxHeartbeats 4000000 in
theorem one_fuse (h : KAt w wr pb n j) (hA : A ≤ 9223372036854775807) :
    Calls Tryz.prog 6 #[.pointer (some ⟨pb, 0, none⟩), .agg (opC4 9 A B' da dn dc pa pn pc)] wr (KOut w pb n j) := by
  have hbx := below_box wr (.cells (opC4 9 A B' da dn dc pa pn pc) 38)
  have hq : (wr.alloc (.cells (opC4 9 A B' da dn dc pa pn pc) 38)).heap[wr.heap.size]? = some (.cells (opC4 9 A B' da dn dc pa pn pc) 38 (0, 0)) := heap_alloc_new _ _
  have k0 := cell_of_block hq (j := 0) rfl
  have k1 := cell_of_block hq (j := 1) rfl
  obtain ⟨F, bb, p, l, S, v, ds, low, nn, hm0, ha0⟩ := h
  have hqo : ¬ F wr.heap.size := fun hf => by have := hm0.d.lt _ hf; omega
  have hdr := below_drew hbx
  have hm := hm0.later hdr
  have c0 := cell_of_block (hm0.later hbx).pk (j := 0) rfl
  have hfs := dfuse hm.d A hA
  have hq' := ((below_drew (Below.refl _ _)).block wr.heap.size (lt_there hq)).trans hq
  have HM := Hid.mk hm
  have HA : Hid ((∃ L, LogP (wr.alloc (.cells (opC4 9 A B' da dn dc pa pn pc) 38)).drew l p L ∧ Alive S L n j ds low) ∨ (KB S n j ds low nn ∧ KDead w (wr.alloc (.cells (opC4 9 A B' da dn dc pa pn pc) 38)).drew F pb bb p l n S)) := ha0.imp (fun ⟨L, h1, h2⟩ => ⟨L, h1.later hdr, h2⟩) (fun ⟨h1, h2⟩ => ⟨h1, h2.later hdr⟩)
  have HQ := Hid.mk hq'
  clear hm ha0 hm0 hbx hq hdr hq'
  go_enter Tryz.func6, Tryz.ntmps6
  go_wp2_with fail
  generalize wr.alloc (.cells (opC4 9 A B' da dn dc pa pn pc) 38) = w5 at *
  go_region_held3 (fun w' => w'.cell? ⟨pb, 0, none⟩ = some (.pointer (some ⟨p, 0, none⟩)) ∧ w'.cell? ⟨wr.heap.size, 1, none⟩ = some (.int .i64 A))
    (first | exact ⟨c0, k1⟩ | exact ⟨c10, k11⟩)
    ((go_at_call 12; refine hfs.mono ?_; rintro e w2 ⟨rfl, hd2, hk2⟩; have h2 := HM.out.same hd2 hk2; have c10 := cell_of_block h2.pk (j := 0) rfl; have k11 := cell_of_block ((hk2.block wr.heap.size (lt_there HQ.out) hqo).trans HQ.out) (j := 1) rfl))
  have HZ : Hid (KAt w w2 pb n j) := by
    rcases HA.out with ⟨L, x1, x2⟩ | ⟨x1, x2⟩
    · exact ⟨_, _, _, _, _, _, _, _, _, h2, .inl ⟨L, x1.keep hk2 h2.fl, x2.lay A hd2.ok⟩⟩
    · have e : S.lay A = S := by unfold DS.lay; rw [if_pos x1.fz]
      rw [e] at h2
      exact ⟨_, _, _, _, _, _, _, _, _, h2, .inr ⟨x1, x2.keep hk2 h2.fl (Int.le_refl _)⟩⟩
  clear hfs hd2 hk2 h2 c0 c10 k11 HM HA
  go_wp2
  go_ret
  exact ⟨rfl, HZ.out⟩
end
end
end Go.Proofs.YtllkjmbcjlbmbaaGreat
