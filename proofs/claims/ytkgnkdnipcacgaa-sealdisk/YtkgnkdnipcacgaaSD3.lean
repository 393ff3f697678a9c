import Derived.Test.YtkgnkdnipcacgaaSD2
namespace Go.Proofs.Ytkgnkdnipcacgaa
open Go.RowKit

section
variable {w0 w w' w1 w2 : World} {F F' : Nat → Prop} {kb p n m : Nat} {S S' : DS} {su ma su' ma' : NwT} {op op' : Bool} {sp mp sp' mp' : Option Addr} {sc mc sc' mc' : Nat}

/-- The disk is asked, then the bench's own cells are written. -/
theorem BenchAt.put (h : BenchAt w0 w F kb p S su ma op n sp mp sc mc) (hd : DiskAt w1 F' p 5 S') (hF : ∀ k, F' k → F k ∨ w.heap.size ≤ k) (hk : Keeps F w w1) (hk2 : Keeps (fun j => j = kb) w1 w2) (bl : w2.heap[kb]? = some (.cells (bnC p su' ma' sp' mp' sc' mc' op') 78 (0, 0))) (kn : S'.fuse = -1 ∧ S'.Byt) (pu : S'.puts.length ≤ m)
    (ss : Src w1 sp' su'.2.2.1.length su'.2.2.1) (ms : Src w1 mp' ma'.2.2.1.length ma'.2.2.1) (sa : ∀ x, sp' = some x → 0 < su'.2.2.1.length → ¬ F' x.block ∧ x.block ≠ kb) (mq : ∀ x, mp' = some x → 0 < ma'.2.2.1.length → ¬ F' x.block ∧ x.block ≠ kb) : BenchAt w0 w2 F' kb p S' su' ma' op' m sp' mp' sc' mc' := by
  have hkl := h.kbl
  have h0 := h.bel.size
  have hnf : ¬ F' kb := fun hf => by
    rcases hF kb hf with h1 | h1
    · exact h.nf h1
    · omega
  have hb1 := h.bel.trans (hk.below h.lo h.bel.size)
  exact ⟨hd.keep hk2 (fun k hf e => by rw [e] at hf; exact hnf hf), fun k hf => (hF k hf).elim (h.lo k) (fun h1 => by omega), hb1.trans (hk2.below (fun k e => by rw [e]; exact h.kb0) hb1.size), h.kb0, hnf, kn, pu, bl, ss.stays hk2 (fun x e hx => (sa x e hx).2), ms.stays hk2 (fun x e hx => (mq x e hx).2), sa, mq⟩

theorem setSure {g : Nat} {T : TypeId} {c0 c1 c2 c3 c4 c5 c6 c7 c8 c9 x y z u v : Value} (h : w.heap[g]? = some (.cells #[c0, c1, c2, c3, c4, c5, c6, c7, c8, c9] T (0, 0))) :
    (((((w.setCell ⟨g, 1, none⟩ x).setCell ⟨g, 2, none⟩ y).setCell ⟨g, 3, none⟩ z).setCell ⟨g, 4, none⟩ u).setCell ⟨g, 9, none⟩ v).heap[g]? = some (.cells #[c0, x, y, z, u, c5, c6, c7, c8, v] T (0, 0)) := by
  rw [heap_setCell_same _ _ _ _ _ _ (heap_setCell_same _ _ _ _ _ _ (heap_setCell_same _ _ _ _ _ _ (heap_setCell_same _ _ _ _ _ _ (heap_setCell_same _ _ _ _ _ _ h))))]
  rfl
theorem setMaybe {g : Nat} {T : TypeId} {c0 c1 c2 c3 c4 c5 c6 c7 c8 c9 x y z u v : Value} (h : w.heap[g]? = some (.cells #[c0, c1, c2, c3, c4, c5, c6, c7, c8, c9] T (0, 0))) :
    (((((w.setCell ⟨g, 5, none⟩ x).setCell ⟨g, 6, none⟩ y).setCell ⟨g, 7, none⟩ z).setCell ⟨g, 8, none⟩ u).setCell ⟨g, 9, none⟩ v).heap[g]? = some (.cells #[c0, c1, c2, c3, c4, x, y, z, u, v] T (0, 0)) := by
  rw [heap_setCell_same _ _ _ _ _ _ (heap_setCell_same _ _ _ _ _ _ (heap_setCell_same _ _ _ _ _ _ (heap_setCell_same _ _ _ _ _ _ (heap_setCell_same _ _ _ _ _ _ h))))]
  rfl
theorem keepsC {g : Nat} (h : Keeps (fun j => j = g) w w') (i : Nat) (v : Value) : Keeps (fun j => j = g) w (w'.setCell ⟨g, i, none⟩ v) :=
  h.trans (Keeps.setCell (F := fun j => j = g) (p := ⟨g, i, none⟩) _ rfl v) (fun _ h => .inl h)
theorem keepsFive (w : World) (g : Nat) (i0 i1 i2 i3 i4 : Nat) (x y z u v : Value) : Keeps (fun j => j = g) w (((((w.setCell ⟨g, i0, none⟩ x).setCell ⟨g, i1, none⟩ y).setCell ⟨g, i2, none⟩ z).setCell ⟨g, i3, none⟩ u).setCell ⟨g, i4, none⟩ v) :=
  keepsC (keepsC (keepsC (keepsC (keepsC (Keeps.refl _ _) _ _) _ _) _ _) _ _) _ _

/-- What flush leaves. -/
def FlushOut (w0 w : World) (F : Nat → Prop) (kb p : Nat) (S : DS) (ma : NwT) (n : Nat) (mp : Option Addr) (mc : Nat) (e : Ending) (w' : World) : Prop :=
  e = .returned (.bool true) ∧ BenchAt w0 w' F kb p (S.fl 5).2 ma ma false n mp mp mc mc ∧ Keeps (fun k => F k ∨ k = kb) w w'

set_option maxRecDepth 20000 in
set_option maxHeartbeats 4000000 in
theorem bflush_any (h : BenchAt w0 w F kb p S su ma op n sp mp sc mc) (hn : n + 5 ≤ 4000000000000) :
    Calls Try.prog 78 #[.pointer (some ⟨kb, 0, none⟩)] w (FlushOut w0 w F kb p S ma n mp mc) := by
  have hpu := h.pu
  have hfl := flush_all h.dk (by omega)
  have hf0 : S.fuse ≠ 0 := by rw [h.kn.1]; decide
  have h0 : (S.fl 5).1 = 0 := by unfold DS.fl; rw [if_neg hf0]
  have hkn : (S.fl 5).2.fuse = -1 ∧ (S.fl 5).2.Byt := ⟨fl_calm h.kn.1 5, h.kn.2.fl 5⟩
  have hp0 : (S.fl 5).2.puts.length = 0 := by
    unfold DS.fl
    rw [if_neg hf0]
    rfl
  rw [h0] at hfl
  have kd := cell_of_block h.bl (j := 0) rfl
  have HB := Hid.mk h
  have HK := Hid.mk hkn
  clear h hkn
  go_enter Try.func78, Try.ntmps78
  go_wp2_with fail
  refine hfl.mono ?_
  rintro e w1 ⟨rfl, hd1, hk1⟩
  have hb := (hk1.block kb HB.out.kbl HB.out.nf).trans HB.out.bl
  have hms := HB.out.ms.stays hk1 (fun x e hx => (HB.out.mq x e hx).1)
  have hfin := fun w2 hk2 bl => HB.out.put (w2 := w2) (su' := ma) (ma' := ma) (op' := false) (sp' := mp) (mp' := mp) (sc' := mc) (mc' := mc) (m := n) hd1 (fun k hf => .inl hf) hk1 hk2 bl HK.out (by omega) hms hms HB.out.mq HB.out.mq
  obtain ⟨A, B, D, E⟩ := ma
  simp only at *
  have c1 := cell_of_block hb (j := 1) rfl
  have c2 := cell_of_block hb (j := 2) rfl
  have c3 := cell_of_block hb (j := 3) rfl
  have c4 := cell_of_block hb (j := 4) rfl
  have c5 := cell_of_block hb (j := 5) rfl
  have c6 := cell_of_block hb (j := 6) rfl
  have c7 := cell_of_block hb (j := 7) rfl
  have c8 := cell_of_block hb (j := 8) rfl
  have c9 := cell_of_block hb (j := 9) rfl
  have f1 := frozen_of_block hb 1
  have f2 := frozen_of_block hb 2
  have f3 := frozen_of_block hb 3
  have f4 := frozen_of_block hb 4
  have f9 := frozen_of_block hb 9
  have hset := setSure (x := .int .i64 (A : Int)) (y := .int .i64 (B : Int)) (z := .slice mp D.length mc) (u := .int .i64 (E : Int)) (v := .bool false) hb
  have HKp := Hid.mk ((hk1.mono (G := fun k => F k ∨ k = kb) (fun k h => .inl h)).trans (keepsFive w1 kb 1 2 3 4 9 (.int .i64 (A : Int)) (.int .i64 (B : Int)) (.slice mp D.length mc) (.int .i64 (E : Int)) (.bool false)) (fun j hj => .inl (.inr hj)))
  have HFin := Hid.mk (hfin _ (keepsFive w1 kb 1 2 3 4 9 (.int .i64 (A : Int)) (.int .i64 (B : Int)) (.slice mp D.length mc) (.int .i64 (E : Int)) (.bool false)) hset)
  clear hfl hd1 hk1 hb hms hfin hset HB HK
  go_wp2_with fail
  refine (lnum_any _ _).mono ?_
  rintro e w' ⟨rfl, hw⟩
  have hw' := hw.symm
  subst hw'
  clear hw
  go_wp2
  go_ret
  exact ⟨rfl, HFin.out, HKp.out⟩
end
end Go.Proofs.Ytkgnkdnipcacgaa
