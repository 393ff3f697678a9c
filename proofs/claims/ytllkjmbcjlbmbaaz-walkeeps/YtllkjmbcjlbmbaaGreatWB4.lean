import Derived.Test.YtllkjmbcjlbmbaaGreatWB3
namespace Go.Proofs.YtllkjmbcjlbmbaaGreat
open Go.RowKit Go.Maps

section
variable {w wr w' : World} {F F' : Nat → Prop} {pb bb p l n j low low' : Nat} {S S' : DS} {v v' : Value} {ds ds' : List (List Int)} {nn nn' : Bool} {L L' : LG}

/-- Another book. -/
theorem KMem.rebook (h : KMem w wr F pb bb p l n S v ds low nn) (hll : LL w wr F v' ds') (low' : Nat) (nn' : Bool) :
    KMem w ((wr.alloc (.cells (bkC v' low' nn') 31)).setCell ⟨pb, 3, none⟩ (.pointer (some ⟨wr.heap.size, 0, none⟩))) F pb wr.heap.size p l n S v' ds' low' nn' ∧ Keeps (fun k => k = pb) wr ((wr.alloc (.cells (bkC v' low' nn') 31)).setCell ⟨pb, 3, none⟩ (.pointer (some ⟨wr.heap.size, 0, none⟩))) := by
  obtain ⟨cl, hcl⟩ := h.lk
  have h0 := h.b.size
  have hbx := below_box wr (.cells (bkC v' low' nn') 31)
  have hks := Keeps.setCell (F := fun k => k = pb) (wr.alloc (.cells (bkC v' low' nn') 31)) (p := ⟨pb, 3, none⟩) rfl (.pointer (some ⟨wr.heap.size, 0, none⟩))
  have hk : Keeps (fun k => k = pb) wr ((wr.alloc (.cells (bkC v' low' nn') 31)).setCell ⟨pb, 3, none⟩ (.pointer (some ⟨wr.heap.size, 0, none⟩))) := (Keeps.of_below (fun k => k = pb) hbx).trans hks (fun k e => .inl e)
  have hp1 := (hbx.block pb (lt_there h.pk)).trans h.pk
  have hpn : pb ≠ wr.heap.size := by have := lt_there h.pk; omega
  have hFn : ¬ F wr.heap.size := fun hf => by have := h.d.lt _ hf; omega
  refine ⟨⟨h.d.keep hk (fun k hf e => by rw [e] at hf; exact h.fp hf), (heap_setCell_same _ _ 3 _ _ _ hp1).trans (by simp), (hks.block wr.heap.size (lt_there (heap_alloc_new wr (.cells (bkC v' low' nn') 31))) (fun e => hpn e.symm)).trans (heap_alloc_new wr _), hll.keep hk (fun k e => .inr ⟨by rw [e]; exact h.lp, pyC p l n bb, 33, (0, 0), by rw [e]; exact h.pk, by decide, by decide⟩) (fun k hf => .inl hf), h.fp, hFn, h.fl, ⟨cl, (hk.block l (lt_there hcl) (fun e => h.pbl e.symm)).trans hcl⟩, h.fF, h.lp, h0, h.ll, h.b.trans (hk.below (fun k e => by rw [e]; exact h.lp) h.b.size)⟩, hk⟩
theorem KMem.setNone (h : KMem w wr F pb bb p l n S v ds low nn) : KMem w (wr.setCell ⟨bb, 2, none⟩ (.bool true)) F pb bb p l n S v ds low true ∧ Keeps (fun k => k = bb) wr (wr.setCell ⟨bb, 2, none⟩ (.bool true)) := by
  obtain ⟨cl, hcl⟩ := h.lk
  have hk := Keeps.setCell (F := fun k => k = bb) wr (p := ⟨bb, 2, none⟩) rfl (.bool true)
  exact ⟨⟨h.d.keep hk (fun k hf e => by rw [e] at hf; exact h.fb hf), (hk.block pb (lt_there h.pk) h.pbb).trans h.pk, (heap_setCell_same _ _ 2 _ _ _ h.bk).trans (by simp), h.ls.keep hk (fun k e => .inr ⟨by rw [e]; exact h.lb, bkC v low nn, 31, (0, 0), by rw [e]; exact h.bk, by decide, by decide⟩) (fun k hf => .inl hf), h.fp, h.fb, h.fl, ⟨cl, (hk.block l (lt_there hcl) (fun e => h.bbl e.symm)).trans hcl⟩, h.fF, h.lp, h.lb, h.ll, h.b.trans (hk.below (fun k e => by rw [e]; exact h.lb) h.b.size)⟩, hk⟩
theorem KMem.setLow (h : KMem w wr F pb bb p l n S v ds low nn) (k : Nat) : KMem w (wr.setCell ⟨bb, 1, none⟩ (.int .i64 (k : Int))) F pb bb p l n S v ds k nn ∧ Keeps (fun k => k = bb) wr (wr.setCell ⟨bb, 1, none⟩ (.int .i64 (k : Int))) := by
  obtain ⟨cl, hcl⟩ := h.lk
  have hk := Keeps.setCell (F := fun k => k = bb) wr (p := ⟨bb, 1, none⟩) rfl (.int .i64 (k : Int))
  exact ⟨⟨h.d.keep hk (fun k hf e => by rw [e] at hf; exact h.fb hf), (hk.block pb (lt_there h.pk) h.pbb).trans h.pk, (heap_setCell_same _ _ 1 _ _ _ h.bk).trans (by simp), h.ls.keep hk (fun k e => .inr ⟨by rw [e]; exact h.lb, bkC v low nn, 31, (0, 0), by rw [e]; exact h.bk, by decide, by decide⟩) (fun k hf => .inl hf), h.fp, h.fb, h.fl, ⟨cl, (hk.block l (lt_there hcl) (fun e => h.bbl e.symm)).trans hcl⟩, h.fF, h.lp, h.lb, h.ll, h.b.trans (hk.below (fun k e => by rw [e]; exact h.lb) h.b.size)⟩, hk⟩

set_option maxRecDepth 20000 in
set_option maxHeartbeats 4000000 in
theorem papp_dead (h : KMem w wr F pb bb p l n S v ds low nn) (hB : KB S n j ds low nn) (hD : KDead w wr F pb bb p l n S) (da : Option Addr) (dc : Nat) (d : List Int) (hs : Src wr da d.length d) (hdn : d.length ≤ 140737488355328) :
    Calls Tryz.prog 22 #[.pointer (some ⟨pb, 0, none⟩), .slice da d.length dc] wr (KOut w pb n j) := by
  have hbu := dburnt h.d
  have c0 := cell_of_block h.pk (j := 0) rfl
  have c1 := cell_of_block h.pk (j := 1) rfl
  have hdr := below_drew (Below.refl wr.heap.size wr)
  have htw := twin_any da d.length dc d wr.drew hdn (hs.later hdr)
  obtain ⟨q, L, G, t, X, x1, x2, x3, x4⟩ := hD.dead h.d hB.fz
  have hf' : (S.fuse == 0) = true := by rw [beq_iff_eq]; exact hB.fz
  rw [hf'] at hbu
  have H := Hid.mk h
  have HD := Hid.mk hD
  have HDr := Hid.mk hdr
  have HX := Hid.mk (And.intro x1 x2)
  clear h hdr hs x1 x2 hD
  go_enter Tryz.func22, Tryz.ntmps22
  go_wp2_with fail
  refine hbu.mono ?_
  rintro e w1 ⟨rfl, hw⟩
  have hw' := hw.symm
  subst hw'
  clear hw hbu
  go_wp2_with fail
  go_region_held3 (fun w' => w'.cell? ⟨pb, 1, none⟩ = some (.pointer (some ⟨l, 0, none⟩)))
    (first | exact c1 | exact c16 | exact c17)
    (first
      | (go_at_call 9; refine htw.mono ?_; rintro e w6 ⟨g6, rfl, hg6, hr6, hb6⟩; have hb06 : Below wr.heap.size wr w6 := HDr.out.trans (hb6.mono (Nat.le_refl _)); have h6 := H.out.later hb06; have c16 := cell_of_block h6.pk (j := 1) rfl)
      | (go_at_call 8; refine (append_dead (HX.out.2.later hb06) (HX.out.1.later hb06) x4 x3 (some ⟨g6, 0, none⟩) d.length d.length hdn).mono ?_; rintro e w7 ⟨rfl, hb7⟩; have hb07 := hb06.trans (hb7.mono hb06.size); have h7 := H.out.later hb07; have c17 := cell_of_block h7.pk (j := 1) rfl))
  have HZ : Hid (KAt w w7 pb n j) := ⟨_, _, _, _, _, _, _, _, _, h7, .inr ⟨hB, HD.out.later hb07⟩⟩
  clear htw hr6 hb6 c1 c16 c17 hb06 h6 hb7 hb07 h7
  go_wp2
  go_ret
  exact ⟨rfl, HZ.out⟩

theorem papp_any (h : KAt w wr pb n j) (hj : j ≤ 100000) (da : Option Addr) (dc : Nat) (d : List Int) (hs : Src wr da d.length d) (hd : Bytes d) (hda : ∀ y, da = some y → 0 < d.length → y.block < w.heap.size) (hdn : d.length ≤ 140737488355328) (hok : ∀ (L : LG) (S : DS), S.Ok (n + 2) → L.Ok (n + 2) → S.Byt → (L.append S (n + 2) d).2.1.Ok (n + 2)) :
    Calls Tryz.prog 22 #[.pointer (some ⟨pb, 0, none⟩), .slice da d.length dc] wr (KOut w pb n j) := by
  obtain ⟨F, bb, p, l, S, v, ds, low, nn, hm, ⟨L, hl, hA⟩ | ⟨hB, hD⟩⟩ := h
  · rcases hA.append hj hd (hok L S hA.i.ok (hA.i.at (i := 0) rfl).1 hA.i.byt) with ⟨a1, a2, a3⟩ | ⟨a1, a2, a3, a4, _⟩ | ⟨a1, a2, a3, a4, a5, a6, a7⟩
    · exact papp_no hm hl hA hj da dc d hs hd hda hdn a1 a2 a3
    · exact papp_yes hm hl hA hj da dc d hs hd hda hdn a1 a2 a3 a4
    · have h1 : 1 ≤ d.length := by
        apply Decidable.byContradiction
        intro hz
        have hz' : d.length = 0 := by omega
        have hu := hA.ready a2
        unfold LG.append at a1
        have : L.refuses S d.length = 2 := by unfold LG.refuses; rw [if_neg (by omega), if_pos hz']
        rw [this, if_pos (by decide)] at a1
        cases a1
      exact papp_cut hm hl hA hj da dc d hs hd hda hdn a1 a2 a3 a4 a6 a7 a5 h1
  · exact papp_dead hm hB hD da dc d hs hdn

set_option maxRecDepth 20000 in
set_option maxHeartbeats 4000000 in
/-- Trim of a log that lives. -/
theorem ptrim_live (h : KMem w wr F pb bb p l n S v ds low nn) (hlp : LogP wr l p L) (hA : Alive S L n j ds low) (hj : j ≤ 100000) (hok : (L.trim S (n + 2)).2.1.Ok (n + 2)) :
    Calls Tryz.prog 23 #[.pointer (some ⟨pb, 0, none⟩)] wr (KOut w pb n j) := by
  have hbu := dburnt h.d
  have c0 := cell_of_block h.pk (j := 0) rfl
  have c1 := cell_of_block h.pk (j := 1) rfl
  have hokL := (hA.i.at (i := 0) rfl).1
  have hp6 := hA.i.p6
  have htr := Trim_any h.d hlp hokL h.fl hA.i.byt (by omega)
  have H := Hid.mk h
  clear h hlp
  rcases hA.trim hj hok with ⟨a1, a2⟩ | ⟨a1, a2, a3⟩ | ⟨a1, a2, a3, a4, a5, a6, a7⟩
  · have hf' : (S.fuse == 0) = true := by rw [beq_iff_eq]; exact a1
    rw [a2] at htr
    rw [hf'] at hbu
    go_enter Tryz.func23, Tryz.ntmps23
    go_wp2_with fail
    refine hbu.mono ?_
    rintro e w1 ⟨rfl, hw⟩
    have hw' := hw.symm
    subst hw'
    clear hw hbu
    go_wp2_with fail
    refine htr.mono ?_
    rintro e w7 ⟨rfl, hd7, hl7, hk7⟩
    have HZ : Hid (KAt w w7 pb n j) := ⟨_, _, _, _, _, _, _, _, _, H.out.step hd7 ⟨_, hl7⟩ hk7, .inl ⟨L, hl7, hA⟩⟩
    clear htr hd7 hl7 hk7
    go_wp2
    go_ret
    exact ⟨rfl, HZ.out⟩
  · have hf' : (S.fuse == 0) = false := by rw [beq_eq_false_iff_ne]; exact a1
    rw [a2] at htr
    rw [hf'] at hbu
    go_enter Tryz.func23, Tryz.ntmps23
    go_wp2_with fail
    refine hbu.mono ?_
    rintro e w1 ⟨rfl, hw⟩
    have hw' := hw.symm
    subst hw'
    clear hw hbu
    go_wp2_with fail
    refine htr.mono ?_
    rintro e w7 ⟨rfl, hd7, hl7, hk7⟩
    have h7 := H.out.step hd7 ⟨_, hl7⟩ hk7
    obtain ⟨h8, hk8⟩ := h7.rebook (LL.nil w w7 _) 0 false
    have HZ : Hid (KAt w ((w7.alloc (.cells (bkC (.slice none 0 0) 0 false) 31)).setCell ⟨pb, 3, none⟩ (.pointer (some ⟨w7.heap.size, 0, none⟩))) pb n j) := ⟨_, _, _, _, _, _, _, _, _, h8, .inl ⟨_, hl7.keep hk8 (fun e => h7.pbl e.symm), a3⟩⟩
    have hbx := below_box w7 (.cells #[.slice none 0 0, .int .i64 0, .bool false] 31)
    have k3 := cell_of_block h7.pk (j := 3) rfl
    have f3 := frozen_of_block h7.pk 3
    have kA : (w7.alloc (.cells #[.slice none 0 0, .int .i64 0, .bool false] 31)).cell? ⟨pb, 3, none⟩ = some (.pointer (some ⟨bb, 0, none⟩)) := cell_later hbx k3
    have fA := frozen_of_block ((hbx.block pb (lt_there h7.pk)).trans h7.pk) 3
    clear htr hd7 hl7 hk7 h7 h8 hk8 hbx
    go_wp2
    go_ret
    exact ⟨rfl, HZ.out⟩
  · have hf' : (S.fuse == 0) = false := by rw [beq_eq_false_iff_ne]; exact a1
    rw [a2] at htr
    rw [hf'] at hbu
    go_enter Tryz.func23, Tryz.ntmps23
    go_wp2_with fail
    refine hbu.mono ?_
    rintro e w1 ⟨rfl, hw⟩
    have hw' := hw.symm
    subst hw'
    clear hw hbu
    go_wp2_with fail
    refine htr.mono ?_
    rintro e w7 ⟨rfl, hd7, hl7, hk7⟩
    have h7 := H.out.step hd7 ⟨_, hl7⟩ hk7
    obtain ⟨h8, hk8⟩ := h7.setNone
    rw [a4] at hl7
    have HZ : Hid (KAt w (w7.setCell ⟨bb, 2, none⟩ (.bool true)) pb n j) := ⟨_, _, _, _, _, _, _, _, _, h8, .inr ⟨⟨a3, a5.ok, a5.byt, a5.p6, a5.l0, a5.lt, a6, a7, by have := hA.few; omega⟩, .inl ⟨L, hl7.keep hk8 (fun e => h7.bbl e.symm), (a5.at (i := 0) rfl).1, (a5.at (i := 0) rfl).2⟩⟩⟩
    have k3 := cell_of_block h7.pk (j := 3) rfl
    have k2 := cell_of_block h7.bk (j := 2) rfl
    have f2 := frozen_of_block h7.bk 2
    clear htr hd7 hl7 hk7 h7 h8 hk8
    go_wp2
    go_ret
    exact ⟨rfl, HZ.out⟩
set_option maxRecDepth 20000 in
set_option maxHeartbeats 4000000 in
theorem ptrim_dead (h : KMem w wr F pb bb p l n S v ds low nn) (hB : KB S n j ds low nn) (hD : KDead w wr F pb bb p l n S) :
    Calls Tryz.prog 23 #[.pointer (some ⟨pb, 0, none⟩)] wr (KOut w pb n j) := by
  have hbu := dburnt h.d
  have c0 := cell_of_block h.pk (j := 0) rfl
  have c1 := cell_of_block h.pk (j := 1) rfl
  obtain ⟨q, L, G, t, X, x1, x2, x3, x4⟩ := hD.dead h.d hB.fz
  have htr := trim_dead x2 x1 x3
  have hf' : (S.fuse == 0) = true := by rw [beq_iff_eq]; exact hB.fz
  rw [hf'] at hbu
  have H := Hid.mk h
  have HD := Hid.mk hD
  clear h x1 x2 hD
  go_enter Tryz.func23, Tryz.ntmps23
  go_wp2_with fail
  refine hbu.mono ?_
  rintro e w1 ⟨rfl, hw⟩
  have hw' := hw.symm
  subst hw'
  clear hw hbu
  go_wp2_with fail
  refine htr.mono ?_
  rintro e w7 ⟨rfl, hb7⟩
  have HZ : Hid (KAt w w7 pb n j) := ⟨_, _, _, _, _, _, _, _, _, H.out.later hb7, .inr ⟨hB, HD.out.later hb7⟩⟩
  clear htr hb7
  go_wp2
  go_ret
  exact ⟨rfl, HZ.out⟩
end
end Go.Proofs.YtllkjmbcjlbmbaaGreat
