import Derived.Test.YtllkjmbcjlbmbaaGreatWB7
namespace Go.Proofs.YtllkjmbcjlbmbaaGreat
open Go.RowKit Go.Maps

section
variable {w wr w' : World} {F F' : Nat → Prop} {pb bb p l n j low low' : Nat} {S S' X : DS} {v v' : Value} {ds ds' : List (List Int)} {nn nn' : Bool} {L L' : LG}
variable {A B' : Int} {da : Option Addr} {dn dc : Nat} {pa : Option Addr} {pn pc : Nat} {d : List Int} {pl : List P3}
set_option maxRecDepth 20000 in
set_option maxHeartbeats 8000000 in
theorem one_sync (h : KAt w wr pb n j) :
    Calls Tryz.prog 6 #[.pointer (some ⟨pb, 0, none⟩), .agg (opC4 5 A B' da dn dc pa pn pc)] wr (KOut w pb n j) := by
  have hbx := below_box wr (.cells (opC4 5 A B' da dn dc pa pn pc) 38)
  have hq : (wr.alloc (.cells (opC4 5 A B' da dn dc pa pn pc) 38)).heap[wr.heap.size]? = some (.cells (opC4 5 A B' da dn dc pa pn pc) 38 (0, 0)) := heap_alloc_new _ _
  have k0 := cell_of_block hq (j := 0) rfl
  obtain ⟨F, bb, p, l, S, v, ds, low, nn, hm, ha⟩ := h.later hbx
  have c1 := cell_of_block hm.pk (j := 1) rfl
  clear hbx hq h
  rcases ha with ⟨L, hl, hA⟩ | ⟨hB, hD⟩
  · have hp6 := hA.i.p6
    have hsy := Sync_any hm.d hl hm.fl (by omega)
    rcases hA.sync with ⟨a1, a2⟩ | ⟨a1, a2, a3⟩
    · rw [a2] at hsy
      have HM := Hid.mk hm
      clear hm hl
      go_enter Tryz.func6, Tryz.ntmps6
      go_wp2_with fail
      refine hsy.mono ?_
      rintro e w7 ⟨rfl, hd7, hl7, hk7⟩
      have HZ : Hid (KAt w w7 pb n j) := ⟨_, _, _, _, _, _, _, _, _, HM.out.same hd7 hk7, .inl ⟨L, hl7, hA⟩⟩
      clear hsy hd7 hl7 hk7 HM
      go_wp2
      go_ret
      exact ⟨rfl, HZ.out⟩
    · rw [a2] at hsy
      have HM := Hid.mk hm
      clear hm hl
      go_enter Tryz.func6, Tryz.ntmps6
      go_wp2_with fail
      refine hsy.mono ?_
      rintro e w7 ⟨rfl, hd7, hl7, hk7⟩
      have h7 := HM.out.same hd7 hk7
      generalize wr.alloc (.cells (opC4 5 A B' da dn dc pa pn pc) 38) = w5 at *
      obtain ⟨la, lc, hv, hlc, hLs⟩ := h7.ls.form
      subst hv
      obtain ⟨h8, hk8⟩ := h7.setLow ds.length
      have hdr := below_drew (Below.refl (w7.setCell ⟨bb, 1, none⟩ (.int .i64 (ds.length : Int))).heap.size (w7.setCell ⟨bb, 1, none⟩ (.int .i64 (ds.length : Int))))
      have h9 := h8.later hdr
      have HZ : Hid (KAt w (w7.setCell ⟨bb, 1, none⟩ (.int .i64 (ds.length : Int))).drew pb n j) := ⟨_, _, _, _, _, _, _, _, _, h9, .inl ⟨L, (hl7.keep hk8 (fun e => h7.bbl e.symm)).later hdr, a3⟩⟩
      have k3 := cell_of_block h7.pk (j := 3) rfl
      have kb0 := cell_of_block h7.bk (j := 0) rfl
      have kb1 := cell_of_block h7.bk (j := 1) rfl
      have fb1 := frozen_of_block h7.bk 1
      have k93 := cell_of_block h9.pk (j := 3) rfl
      have k90 := cell_of_block h9.bk (j := 0) rfl
      clear hsy hd7 hl7 hk7 HM h7 h8 h9 hk8 hdr hLs k0 c1
      go_wp2_with fail
      go_region_held3 (fun w' => w'.cell? ⟨pb, 3, none⟩ = some (.pointer (some ⟨bb, 0, none⟩)) ∧ w'.cell? ⟨bb, 0, none⟩ = some (.slice la ds.length lc))
        (first | exact ⟨k3, kb0⟩ | exact ⟨k93, k90⟩)
        (fail)
      go_wp2
      go_ret
      exact ⟨rfl, HZ.out⟩
  · obtain ⟨q, L, G, t, X, x1, x2, x3, x4⟩ := hD.dead hm.d hB.fz
    have hsy := sync_dead x2 x1 x3
    have HM := Hid.mk hm
    have HD := Hid.mk hD
    clear hm hD x1 x2
    go_enter Tryz.func6, Tryz.ntmps6
    go_wp2_with fail
    refine hsy.mono ?_
    rintro e w7 ⟨rfl, hb7⟩
    have HZ : Hid (KAt w w7 pb n j) := ⟨_, _, _, _, _, _, _, _, _, HM.out.later hb7, .inr ⟨hB, HD.out.later hb7⟩⟩
    clear hsy hb7 HM HD
    go_wp2
    go_ret
    exact ⟨rfl, HZ.out⟩
end
end Go.Proofs.YtllkjmbcjlbmbaaGreat
