import Derived.Test.YtkkmkogpbhcpmaaKNodF
namespace Go.Proofs.Ytkkmkogpbhcpmaa
open Go.RowKit

theorem none_iff (k l p s o : Int) (d : Nat → Int) : NSame k l p s o d 0 0 0 0 0 (fun _ => 0) ↔ NNone k l p s o d := Iff.rfl
/-- 128 zeros. -/
def zeros128 : List Int := List.replicate 128 0
theorem zeros128_len : zeros128.length = 128 := List.length_replicate

set_option maxRecDepth 20000 in
set_option maxHeartbeats 4000000 in
theorem encnode_bad (k l p s o : Int) (d : Nat → Int) (w : World) (h0 : ¬ NNone k l p s o d) (hf : ¬ NFits k l p s o d) :
    Calls Try.prog 46 #[nd k l p s o d] w fun e w' => e = .returned (.tuple #[.slice none 0 0, .int .i64 20]) ∧ Below w.heap.size w w' := by
  obtain ⟨w1, hw1⟩ : ∃ w1, w1 = w.alloc (.cells (ndc k l p s o d) 76) := ⟨_, rfl⟩
  have hB1 : Below w.heap.size w w1 := by rw [hw1]; exact (Below.refl _ w).alloc (Nat.le_refl _) _
  have hq1 : w1.heap[w.heap.size]? = some (.cells (ndc k l p s o d) 76 (0, 0)) := by rw [hw1]; exact heap_alloc_new _ _
  have hl1 := range_of (cs := ndl k l p s o d) hq1
  have hfit := nfit_any k l p s o d w1
  rw [hw1] at hl1
  have Hl1 := Hid.mk hl1
  have He : Hid ((false = true) ↔ NSame k l p s o d 0 0 0 0 0 (fun _ => 0)) := ⟨fun h => (by cases h), fun h => absurd h h0⟩
  have Hf := Hid.mk hf
  have HB := Hid.mk hB1
  clear hl1 hq1 h0 hf hB1
  go_enter Try.func46, Try.ntmps46
  go_wp2_with (first | refine wpList_load_guard rfl 76 _ rfl w.heap.size 0 rfl (ndl k l p s o d) _ Hl1.out Try.underlying76 rfl infoNode ?_ | refine wpList_eq_node rfl _ _ _ rfl k l p s o d 0 0 0 0 0 (fun _ => 0) rfl rfl false He.out ?_)
  rw [← hw1]
  clear hw1 Hl1 He
  refine hfit.mono ?_
  rintro e w2 ⟨⟨b, rfl, hb⟩, hb2⟩
  have eb : b = false := Bool.eq_false_iff.2 (fun h => Hf.out (hb.1 h))
  subst eb
  have HB2 : Hid (Below w.heap.size w w2) := HB.out.trans (hb2.mono HB.out.size)
  clear hfit hb hb2 HB Hf
  go_wp2
  go_ret2
  exact ⟨rfl, HB2.out⟩

set_option maxRecDepth 20000 in
set_option maxHeartbeats 4000000 in
theorem encnode_none (k l p s o : Int) (d : Nat → Int) (w : World) (h0 : NNone k l p s o d) :
    Calls Try.prog 46 #[nd k l p s o d] w fun e w' => ∃ v, e = .returned (.tuple #[v, .int .i64 0]) ∧ Made w w' v zeros128 := by
  obtain ⟨i0, hi, hz0, hz1, hz2⟩ := info_parts infoU8
  have hl1 := range_of (w := w.alloc (.cells (ndc k l p s o d) 76)) (cs := ndl k l p s o d) (heap_alloc_new _ _)
  have Hl1 := Hid.mk hl1
  have He : Hid ((true = true) ↔ NSame k l p s o d 0 0 0 0 0 (fun _ => 0)) := ⟨fun _ => h0, fun _ => rfl⟩
  clear hl1 h0
  go_enter Try.func46, Try.ntmps46
  go_wp2_with (first | refine wpList_load_guard rfl 76 _ rfl w.heap.size 0 rfl (ndl k l p s o d) _ Hl1.out Try.underlying76 rfl infoNode ?_ | refine wpList_eq_node rfl _ _ _ rfl k l p s o d 0 0 0 0 0 (fun _ => 0) rfl rfl true He.out ?_ | (at_make; refine wpList_make_full _ rfl _ _ 27 rfl (w.heap.size + 1) 5 i0 (.int .u8 0) 1 Try.underlying27 hi hz0 hz1 _ _ _ _ 128 rfl rfl ?c1 ?c2 ?c3 ?c4 ?c5 ?_))
  case c4 => unfold maxLen; omega
  intro w3 hown hgrow
  have hr3 : RowAt w3 5 (w.heap.size + 1) 128 (bs zeros128) := made_row hown
  have hb3 : Below w.heap.size w w3 := ((Below.refl _ w).alloc (Nat.le_refl _) _).grown hgrow (by simp) (by intro k hk; cases hk)
  have HM : Hid (Made w w3 (.slice (some ⟨w.heap.size + 1, 0, none⟩) 128 128) zeros128) := ⟨w.heap.size + 1, 128, by rw [zeros128_len], by omega, hr3, hb3⟩
  clear hown hgrow hr3 hb3
  go_wp2
  go_ret2
  exact ⟨_, rfl, HM.out⟩
end Go.Proofs.Ytkkmkogpbhcpmaa
