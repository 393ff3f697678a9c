import Derived.Test.YtcpmapknmkholaaW07
section
namespace Go.Proofs.Ytcpmapknmkholaa
open Go.RowKit

/-- The empty entry's value. -/
abbrev ent0 : Value := ent 0 0 ⟨#[]⟩ 0

theorem ecatch_panic (g1 g2 : Nat) (a0 a1 a2 a3 : Value) (x : Value) (w : World) (h1 : w.heap[g1]? = some (.cells #[a0, a1, a2, a3] 29 (0, 0))) (h2 : w.heap[g2]? = some (.cells #[x] 37 (0, 0))) (hne : g1 ≠ g2) :
    CallsD Try.prog 32 #[.pointer (some ⟨g1, 0, none⟩), .pointer (some ⟨g2, 0, none⟩)] (.panicking gaveUp) w fun e u' w' =>
      e = .returned (.tuple #[]) ∧ u' = .panicking [{ v := .iface 37 (.int .i64 6), recovered := true }] ∧ w' = ((((w.setCell ⟨g1, 0, none⟩ (.int .i64 0)).setCell ⟨g1, 1, none⟩ (.int .i64 0)).setCell ⟨g1, 2, none⟩ (.string ⟨#[]⟩)).setCell ⟨g1, 3, none⟩ (.int .i64 0)).setCell ⟨g2, 0, none⟩ (.int .i64 6) := by
  have c0 := cell_of_block h1 (j := 0) rfl
  have c1 := cell_of_block h1 (j := 1) rfl
  have c2 := cell_of_block h1 (j := 2) rfl
  have c3 := cell_of_block h1 (j := 3) rfl
  have f0 := frozen_of_block h1 0
  have f1 := frozen_of_block h1 1
  have f2 := frozen_of_block h1 2
  have f3 := frozen_of_block h1 3
  have d0 := cell_of_block h2 (j := 0) rfl
  have e0 := frozen_of_block h2 0
  have hne' : ¬ g2 = g1 := fun e => hne e.symm
  refine callsD_of_wpS Try.func32 rfl fun c₀ cs hu => ?_
  apply wpS_seq
  apply wpS_region
  simp [wpOpsS, go_sem, recoverD, hu, Try.ntmps32, Exit.thenS]
  refine wpS_cond (t := true) (by simp [Act.eval, Array.replicate]) ?_
  simp only [if_true]
  apply wpS_region
  simp [wpOpsS, go_sem, c0, c1, c2, c3, f0, f1, f2, f3, d0, e0, bodyPostS, results, Try.results32]

theorem ecatch_idle (g1 g2 : Nat) (w : World) :
    CallsD Try.prog 32 #[.pointer (some ⟨g1, 0, none⟩), .pointer (some ⟨g2, 0, none⟩)] .returning w fun e u' w' => e = .returned (.tuple #[]) ∧ u' = .returning ∧ w' = w := by
  refine callsD_of_wpS Try.func32 rfl fun c₀ cs hu => ?_
  apply wpS_seq
  apply wpS_region
  simp [wpOpsS, go_sem, recoverD, hu, Try.ntmps32, Exit.thenS]
  refine wpS_cond (t := false) (by simp [Act.eval, Array.replicate]) ?_
  simp only [Bool.false_eq_true, if_false]
  refine wpS_of_wp (wp_skip ?_)
  cases c₀
  simp_all [bodyPostS, results, Try.results32]

set_option maxRecDepth 20000 in
set_option maxHeartbeats 2000000 in
theorem decent_len (a : Option Addr) (n c : Nat) (w : World) (hn : n ≠ 64) (_hb : n ≤ 140737488355328) :
    Calls Try.prog 15 #[.slice a n c] w fun e w' => e = .returned (.tuple #[ent0, .int .i64 2]) ∧ Below w.heap.size w w' := by
  have hne : ((n : Int) != 64) = true := by rw [bne_iff_ne]; omega
  go_enter_defers Try.func15, Try.ntmps15
  go_wp2
  simp [bodyPostD, Leaves, results, Try.results15, go_sem]
  exact below_two w _ _

theorem below5 {B : Nat} {w wx : World} (h : Below B w wx) {g1 g2 : Nat} (h1 : B ≤ g1) (h2 : B ≤ g2) (hB : B ≤ wx.heap.size) (x y z t u : Value) :
    Below B w (((((wx.setCell ⟨g1, 0, none⟩ x).setCell ⟨g1, 1, none⟩ y).setCell ⟨g1, 2, none⟩ z).setCell ⟨g1, 3, none⟩ t).setCell ⟨g2, 0, none⟩ u) :=
  below_put (below_put (below_put (below_put (below_put h h1 hB x) h1 (by rw [size_setCell]; exact hB) y) h1 (by rw [size_setCell, size_setCell]; exact hB) z) h1 (by rw [size_setCell, size_setCell, size_setCell]; exact hB) t) h2 (by rw [size_setCell, size_setCell, size_setCell, size_setCell]; exact hB) u

/-- An entry's bytes are right (of one that is not empty). -/
def EntryOk (l : List Int) : Prop := SumOk l ∧ EntOk (part l 0 60)
theorem part_low' {l : List Int} {a q m : Nat} (h : q + m ≤ a) : part (part l 0 a) q m = part l q m := by
  unfold part
  rw [List.drop_zero, List.drop_take, List.take_take]
  congr 1
  omega
theorem u8_part (l : List Int) (k : Nat) (h : k + 1 ≤ 60) : u8 (part l 0 60) k = u8 l k := by unfold u8; rw [part_low' h]
theorem u32_part (l : List Int) (k : Nat) (h : k + 4 ≤ 60) : u32 (part l 0 60) k = u32 l k := by unfold u32; rw [part_low' h]
theorem nm_part (l : List Int) (h : u8 l 5 ≤ 54) : nm (part l 0 60) = nm l := by unfold nm; rw [u8_part l 5 (by omega), part_low' (by omega)]

set_option maxRecDepth 20000 in
set_option maxHeartbeats 4000000 in
theorem decent_zero (b o c : Nat) (l : List Int) (w : World) (hl : l.length = 64) (_hc : 64 ≤ c) (_hcc : c ≤ 9223372036854775807) (_hb : Bytes l) (hs : ∀ i, i < 64 → w.cell? ⟨b, o + i, none⟩ = some (.int .u8 (l.getD i 0))) (hz : Zeros l) :
    Calls Try.prog 15 #[.slice (some ⟨b, o, none⟩) 64 c] w fun e w' => e = .returned (.tuple #[ent0, .int .i64 0]) ∧ Below w.heap.size w w' := by
  have hmf : ∀ (fn : Fn) (first cap : Array Value) (w : World), (Instr.makeFunc fn first cap).run Try.prog w = .ok (.func fn first cap) w := fun _ _ _ _ => rfl
  obtain ⟨w1, hw1⟩ : ∃ w1, w1 = (w.alloc (.cells #[.int .i64 0, .int .i64 0, .string ⟨#[]⟩, .int .i64 0] 29)).alloc (.cells #[.int .i64 0] 37) := ⟨_, rfl⟩
  have hB1 : Below w.heap.size w w1 := by rw [hw1]; exact below_two w _ _
  have hsz1 : w1.heap.size = w.heap.size + 2 := by rw [hw1]; simp
  have hg1 : w1.heap[w.heap.size]? = some (.cells #[.int .i64 0, .int .i64 0, .string ⟨#[]⟩, .int .i64 0] 29 (0, 0)) := by rw [hw1]; exact heap_alloc2_old _ _ _
  have hg2 : w1.heap[w.heap.size + 1]? = some (.cells #[.int .i64 0] 37 (0, 0)) := by rw [hw1]; exact heap_alloc2_new _ _ _
  have hem := empty_low b o 64 c l w1 hl (by omega) (fun i hi => cell_later hB1 (hs i hi))
  have HZ := Hid.mk hz
  clear hs hz
  go_enter_defers Try.func15, Try.ntmps15
  go_wp2_with fail
  rw [← hw1]
  clear hw1
  refine hem.mono ?_
  rintro e wx ⟨⟨x, rfl, hx⟩, hw⟩
  have hw' := hw.symm
  subst hw'
  clear hw hem
  have hx' : x = true := hx.2 HZ.out
  subst hx'
  clear hx
  have c0 := cell_of_block hg1 (j := 0) rfl
  have c1 := cell_of_block hg1 (j := 1) rfl
  have c2 := cell_of_block hg1 (j := 2) rfl
  have c3 := cell_of_block hg1 (j := 3) rfl
  have f0 := frozen_of_block hg1 0
  have f1 := frozen_of_block hg1 1
  have f2 := frozen_of_block hg1 2
  have f3 := frozen_of_block hg1 3
  have d0 := cell_of_block hg2 (j := 0) rfl
  have e0 := frozen_of_block hg2 0
  have hB4 := Hid.mk (below5 hB1 (Nat.le_refl w.heap.size) (show w.heap.size ≤ w.heap.size + 1 by omega) hB1.size (.int .i64 0) (.int .i64 0) (.string ⟨#[]⟩) (.int .i64 0) (.int .i64 0))
  clear hg1 hg2 hB1
  go_wp2
  simp [bodyPostD, Leaves, results, Try.results15, go_sem, c0, c1, c2, c3, d0]
  exact hB4.out

set_option maxRecDepth 20000 in
set_option maxHeartbeats 4000000 in
theorem decent_ok (b o c : Nat) (l : List Int) (w : World) (hl : l.length = 64) (hc : 64 ≤ c) (hcc : c ≤ 9223372036854775807) (hb : Bytes l) (hs : ∀ i, i < 64 → w.cell? ⟨b, o + i, none⟩ = some (.int .u8 (l.getD i 0))) (hz : ¬ Zeros l) (hok : EntryOk l) :
    Calls Try.prog 15 #[.slice (some ⟨b, o, none⟩) 64 c] w fun e w' => e = .returned (.tuple #[ent ((u32 l 0 : Nat) : Int) ((u8 l 4 : Nat) : Int) (nm l) 0, .int .i64 0]) ∧ Below w.heap.size w w' := by
  have hmf : ∀ (fn : Fn) (first cap : Array Value) (w : World), (Instr.makeFunc fn first cap).run Try.prog w = .ok (.func fn first cap) w := fun _ _ _ _ => rfl
  obtain ⟨w1, hw1⟩ : ∃ w1, w1 = (w.alloc (.cells #[.int .i64 0, .int .i64 0, .string ⟨#[]⟩, .int .i64 0] 29)).alloc (.cells #[.int .i64 0] 37) := ⟨_, rfl⟩
  have hB1 : Below w.heap.size w w1 := by rw [hw1]; exact below_two w _ _
  have hsz1 : w1.heap.size = w.heap.size + 2 := by rw [hw1]; simp
  have hg1 : w1.heap[w.heap.size]? = some (.cells #[.int .i64 0, .int .i64 0, .string ⟨#[]⟩, .int .i64 0] 29 (0, 0)) := by rw [hw1]; exact heap_alloc2_old _ _ _
  have hg2 : w1.heap[w.heap.size + 1]? = some (.cells #[.int .i64 0] 37 (0, 0)) := by rw [hw1]; exact heap_alloc2_new _ _ _
  have hem := empty_low b o 64 c l w1 hl (by omega) (fun i hi => cell_later hB1 (hs i hi))
  have h1 := hok.1
  have hsm := summed_ok b o 64 c l w1 hl (by omega) (by omega) hc hcc hb (fun i hi => cell_later hB1 (hs i hi)) h1
  have HOK := Hid.mk hok.2
  have HZ := Hid.mk hz
  clear hs hok hz h1
  go_enter_defers Try.func15, Try.ntmps15
  go_wp2_with fail
  rw [← hw1]
  clear hw1
  refine hem.mono ?_
  rintro e wx ⟨⟨x, rfl, hx⟩, hw⟩
  have hw' := hw.symm
  subst hw'
  clear hw hem
  have hx' : x = false := by
    cases x with
    | false => rfl
    | true => exact absurd (hx.1 rfl) HZ.out
  subst hx'
  clear hx
  go_wp2_with fail
  refine hsm.mono ?_
  rintro e w2 ⟨p, rfl, hp, hrd, hb2⟩
  have hrs := readent_ok p b o c (part l 0 60) w2 hrd (part_len (by omega)) (by omega) HOK.out
  have h54 : u8 l 5 ≤ 54 := by have := HOK.out.len; rwa [u8_part l 5 (by omega)] at this
  rw [u32_part l 0 (by omega), u8_part l 4 (by omega), nm_part l h54] at hrs
  have HB2 : Hid (Below w.heap.size w w2) := hB1.trans (hb2.mono hB1.size)
  have HG1 := Hid.mk ((hb2.block w.heap.size (by omega)).trans hg1)
  have HG2 := Hid.mk ((hb2.block (w.heap.size + 1) (by omega)).trans hg2)
  clear hsm hrd hb2 hB1 hg1 hg2 HOK
  go_wp2_with fail
  refine hrs.mono ?_
  rintro e w3 ⟨rfl, hk3⟩
  have hg1 := (hk3.block w.heap.size (Array.getElem?_eq_some_iff.1 HG1.out).1 (by omega)).trans HG1.out
  have hg2 := (hk3.block (w.heap.size + 1) (Array.getElem?_eq_some_iff.1 HG2.out).1 (by omega)).trans HG2.out
  have HB3 : Hid (Below w.heap.size w w3) := HB2.out.trans (hk3.below (fun j hj => by omega) HB2.out.size)
  have c0 := cell_of_block hg1 (j := 0) rfl
  have c1 := cell_of_block hg1 (j := 1) rfl
  have c2 := cell_of_block hg1 (j := 2) rfl
  have c3 := cell_of_block hg1 (j := 3) rfl
  have f0 := frozen_of_block hg1 0
  have f1 := frozen_of_block hg1 1
  have f2 := frozen_of_block hg1 2
  have f3 := frozen_of_block hg1 3
  have d0 := cell_of_block hg2 (j := 0) rfl
  have e0 := frozen_of_block hg2 0
  clear hrs hk3 HG1 HG2 HB2 hg1 hg2
  have hB4 := Hid.mk (below5 HB3.out (Nat.le_refl w.heap.size) (show w.heap.size ≤ w.heap.size + 1 by omega) HB3.out.size (.int .i64 ((u32 l 0 : Nat) : Int)) (.int .i64 ((u8 l 4 : Nat) : Int)) (.string (nm l)) (.int .i64 0) (.int .i64 0))
  go_wp2
  refine leaves_cons (f := 32) (args := #[.pointer (some ⟨w.heap.size, 0, none⟩), .pointer (some ⟨w.heap.size + 1, 0, none⟩)]) (by simp) (by simp [go_sem]) ?_
  refine (ecatch_idle _ _ _).mono ?_
  rintro e u' w'' ⟨rfl, rfl, rfl⟩
  simp [Leaves, settle, results, Try.results15, go_sem, c0, c1, c2, c3, d0]
  exact hB4.out

set_option maxRecDepth 20000 in
set_option maxHeartbeats 4000000 in
theorem decent_no1 (b o c : Nat) (l : List Int) (w : World) (hl : l.length = 64) (hc : 64 ≤ c) (hcc : c ≤ 9223372036854775807) (hb : Bytes l) (hs : ∀ i, i < 64 → w.cell? ⟨b, o + i, none⟩ = some (.int .u8 (l.getD i 0))) (hz : ¬ Zeros l) (h1 : ¬ SumOk l) :
    Calls Try.prog 15 #[.slice (some ⟨b, o, none⟩) 64 c] w fun e w' => e = .returned (.tuple #[ent0, .int .i64 6]) ∧ Below w.heap.size w w' := by
  have hmf : ∀ (fn : Fn) (first cap : Array Value) (w : World), (Instr.makeFunc fn first cap).run Try.prog w = .ok (.func fn first cap) w := fun _ _ _ _ => rfl
  obtain ⟨w1, hw1⟩ : ∃ w1, w1 = (w.alloc (.cells #[.int .i64 0, .int .i64 0, .string ⟨#[]⟩, .int .i64 0] 29)).alloc (.cells #[.int .i64 0] 37) := ⟨_, rfl⟩
  have hB1 : Below w.heap.size w w1 := by rw [hw1]; exact below_two w _ _
  have hsz1 : w1.heap.size = w.heap.size + 2 := by rw [hw1]; simp
  have hg1 : w1.heap[w.heap.size]? = some (.cells #[.int .i64 0, .int .i64 0, .string ⟨#[]⟩, .int .i64 0] 29 (0, 0)) := by rw [hw1]; exact heap_alloc2_old _ _ _
  have hg2 : w1.heap[w.heap.size + 1]? = some (.cells #[.int .i64 0] 37 (0, 0)) := by rw [hw1]; exact heap_alloc2_new _ _ _
  have hem := empty_low b o 64 c l w1 hl (by omega) (fun i hi => cell_later hB1 (hs i hi))
  have hsm := summed_no b o 64 c l w1 hl (by omega) (by omega) hc hcc hb (fun i hi => cell_later hB1 (hs i hi)) h1
  have HZ := Hid.mk hz
  clear hs h1 hz
  go_enter_defers Try.func15, Try.ntmps15
  go_wp2_with fail
  rw [← hw1]
  clear hw1
  refine hem.mono ?_
  rintro e wx ⟨⟨x, rfl, hx⟩, hw⟩
  have hw' := hw.symm
  subst hw'
  clear hw hem
  have hx' : x = false := by
    cases x with
    | false => rfl
    | true => exact absurd (hx.1 rfl) HZ.out
  subst hx'
  clear hx
  go_wp2_with fail
  refine hsm.mono ?_
  rintro e w2 ⟨rfl, hb2⟩
  have HB2 : Below w.heap.size w w2 := hB1.trans (hb2.mono hB1.size)
  have HG := Hid.mk (And.intro ((hb2.block w.heap.size (by omega)).trans hg1) ((hb2.block (w.heap.size + 1) (by omega)).trans hg2))
  have hB4 := Hid.mk (below5 HB2 (Nat.le_refl w.heap.size) (show w.heap.size ≤ w.heap.size + 1 by omega) HB2.size (.int .i64 0) (.int .i64 0) (.string ⟨#[]⟩) (.int .i64 0) (.int .i64 6))
  clear hsm hb2 hB1 hg1 hg2 HB2
  go_wp2
  refine leaves_cons (f := 32) (args := #[.pointer (some ⟨w.heap.size, 0, none⟩), .pointer (some ⟨w.heap.size + 1, 0, none⟩)]) (by simp) (by simp [go_sem]) ?_
  refine (ecatch_panic w.heap.size (w.heap.size + 1) _ _ _ _ _ _ HG.out.1 HG.out.2 (by omega)).mono ?_
  rintro e u' w'' ⟨rfl, rfl, rfl⟩
  have c0 := cell_of_block HG.out.1 (j := 0) rfl
  have c1 := cell_of_block HG.out.1 (j := 1) rfl
  have c2 := cell_of_block HG.out.1 (j := 2) rfl
  have c3 := cell_of_block HG.out.1 (j := 3) rfl
  have d0 := cell_of_block HG.out.2 (j := 0) rfl
  simp [Leaves, settle, results, Try.results15, go_sem, c0, c1, c2, c3, d0]
  exact hB4.out

set_option maxRecDepth 20000 in
set_option maxHeartbeats 4000000 in
theorem decent_no2 (b o c : Nat) (l : List Int) (w : World) (hl : l.length = 64) (hc : 64 ≤ c) (hcc : c ≤ 9223372036854775807) (hb : Bytes l) (hs : ∀ i, i < 64 → w.cell? ⟨b, o + i, none⟩ = some (.int .u8 (l.getD i 0))) (hz : ¬ Zeros l) (h1 : SumOk l) (h2 : ¬ EntOk (part l 0 60)) :
    Calls Try.prog 15 #[.slice (some ⟨b, o, none⟩) 64 c] w fun e w' => e = .returned (.tuple #[ent0, .int .i64 6]) ∧ Below w.heap.size w w' := by
  have hmf : ∀ (fn : Fn) (first cap : Array Value) (w : World), (Instr.makeFunc fn first cap).run Try.prog w = .ok (.func fn first cap) w := fun _ _ _ _ => rfl
  obtain ⟨w1, hw1⟩ : ∃ w1, w1 = (w.alloc (.cells #[.int .i64 0, .int .i64 0, .string ⟨#[]⟩, .int .i64 0] 29)).alloc (.cells #[.int .i64 0] 37) := ⟨_, rfl⟩
  have hB1 : Below w.heap.size w w1 := by rw [hw1]; exact below_two w _ _
  have hsz1 : w1.heap.size = w.heap.size + 2 := by rw [hw1]; simp
  have hg1 : w1.heap[w.heap.size]? = some (.cells #[.int .i64 0, .int .i64 0, .string ⟨#[]⟩, .int .i64 0] 29 (0, 0)) := by rw [hw1]; exact heap_alloc2_old _ _ _
  have hg2 : w1.heap[w.heap.size + 1]? = some (.cells #[.int .i64 0] 37 (0, 0)) := by rw [hw1]; exact heap_alloc2_new _ _ _
  have hem := empty_low b o 64 c l w1 hl (by omega) (fun i hi => cell_later hB1 (hs i hi))
  have hsm := summed_ok b o 64 c l w1 hl (by omega) (by omega) hc hcc hb (fun i hi => cell_later hB1 (hs i hi)) h1
  have HOK := Hid.mk h2
  have HZ := Hid.mk hz
  clear hs h1 h2 hz
  go_enter_defers Try.func15, Try.ntmps15
  go_wp2_with fail
  rw [← hw1]
  clear hw1
  refine hem.mono ?_
  rintro e wx ⟨⟨x, rfl, hx⟩, hw⟩
  have hw' := hw.symm
  subst hw'
  clear hw hem
  have hx' : x = false := by
    cases x with
    | false => rfl
    | true => exact absurd (hx.1 rfl) HZ.out
  subst hx'
  clear hx
  go_wp2_with fail
  refine hsm.mono ?_
  rintro e w2 ⟨p, rfl, hp, hrd, hb2⟩
  have hrs := readent_no p b o c (part l 0 60) w2 hrd (part_len (by omega)) (by omega) HOK.out
  have HB2 : Hid (Below w.heap.size w w2) := hB1.trans (hb2.mono hB1.size)
  have HG1 := Hid.mk ((hb2.block w.heap.size (by omega)).trans hg1)
  have HG2 := Hid.mk ((hb2.block (w.heap.size + 1) (by omega)).trans hg2)
  clear hsm hrd hb2 hB1 hg1 hg2 HOK
  go_wp2_with fail
  refine hrs.mono ?_
  rintro e w3 ⟨rfl, hk3⟩
  have hg1 := (hk3.block w.heap.size (Array.getElem?_eq_some_iff.1 HG1.out).1 (by omega)).trans HG1.out
  have hg2 := (hk3.block (w.heap.size + 1) (Array.getElem?_eq_some_iff.1 HG2.out).1 (by omega)).trans HG2.out
  have HB3 : Hid (Below w.heap.size w w3) := HB2.out.trans (hk3.below (fun j hj => by omega) HB2.out.size)
  have HG := Hid.mk (And.intro hg1 hg2)
  have hB4 := Hid.mk (below5 HB3.out (Nat.le_refl w.heap.size) (show w.heap.size ≤ w.heap.size + 1 by omega) HB3.out.size (.int .i64 0) (.int .i64 0) (.string ⟨#[]⟩) (.int .i64 0) (.int .i64 6))
  clear hrs hk3 HG1 HG2 HB2 hg1 hg2
  go_wp2
  refine leaves_cons (f := 32) (args := #[.pointer (some ⟨w.heap.size, 0, none⟩), .pointer (some ⟨w.heap.size + 1, 0, none⟩)]) (by simp) (by simp [go_sem]) ?_
  refine (ecatch_panic w.heap.size (w.heap.size + 1) _ _ _ _ _ _ HG.out.1 HG.out.2 (by omega)).mono ?_
  rintro e u' w'' ⟨rfl, rfl, rfl⟩
  have c0 := cell_of_block HG.out.1 (j := 0) rfl
  have c1 := cell_of_block HG.out.1 (j := 1) rfl
  have c2 := cell_of_block HG.out.1 (j := 2) rfl
  have c3 := cell_of_block HG.out.1 (j := 3) rfl
  have d0 := cell_of_block HG.out.2 (j := 0) rfl
  simp [Leaves, settle, results, Try.results15, go_sem, c0, c1, c2, c3, d0]
  exact hB4.out

theorem decent_no (b o c : Nat) (l : List Int) (w : World) (hl : l.length = 64) (hc : 64 ≤ c) (hcc : c ≤ 9223372036854775807) (hb : Bytes l) (hs : ∀ i, i < 64 → w.cell? ⟨b, o + i, none⟩ = some (.int .u8 (l.getD i 0))) (hz : ¬ Zeros l) (hok : ¬ EntryOk l) :
    Calls Try.prog 15 #[.slice (some ⟨b, o, none⟩) 64 c] w fun e w' => e = .returned (.tuple #[ent0, .int .i64 6]) ∧ Below w.heap.size w w' := by
  by_cases h1 : SumOk l
  · exact decent_no2 b o c l w hl hc hcc hb hs hz h1 (fun h2 => hok ⟨h1, h2⟩)
  · exact decent_no1 b o c l w hl hc hcc hb hs hz h1
end Go.Proofs.Ytcpmapknmkholaa
end

section
namespace Go.Proofs.Ytcpmapknmkholaa
open Go.RowKit

/-- The empty node's cells. -/
abbrev nl0 : List Value := ndl 0 0 0 0 0 (fun _ => 0)
abbrev nd0 : Value := nd 0 0 0 0 0 (fun _ => 0)
theorem nl_one (k l p s o : Int) (d : Nat → Int) : ∀ v ∈ ndl k l p s o d, v.oneCell' = true := by simp [Value.oneCell']
theorem there_node {w : World} {g : Nat} {cs : Array Value} (h : w.heap[g]? = some (.cells cs 27 (0, 0))) (hc : cs.size = 17) : w.there g 0 17 := by
  intro j hj
  rw [Nat.zero_add]
  exact ⟨by rw [cell_of_block h (j := j) (u := cs[j]'(by omega)) (Array.getElem?_eq_getElem (by omega))]; rfl, frozen_of_block h _⟩
theorem cell_puts {w : World} {g h i : Nat} {v : Value} (hne : g ≠ h) (hv : w.cell? ⟨g, i, none⟩ = some v) (hg : g < w.heap.size) (q : Nat) (vs : List Value) : (w.setCells h q vs).cell? ⟨g, i, none⟩ = some v :=
  (World.cell?_of_block (w := w) (a := ⟨g, i, none⟩) ((Keeps.setCells (F := fun j => j = h) rfl vs q w).block g hg hne)).trans hv
theorem frozen_puts {w : World} {g h i : Nat} {cs : Array Value} {t : TypeId} (hne : g ≠ h) (hb : w.heap[g]? = some (.cells cs t (0, 0))) (q : Nat) (vs : List Value) : (w.setCells h q vs).frozen? ⟨g, i, none⟩ = false :=
  frozen_of_block (((Keeps.setCells (F := fun j => j = h) rfl vs q w).block g (Array.getElem?_eq_some_iff.1 hb).1 hne).trans hb) i
theorem results_cell_err {fn : Func} {p q : Tmp} {ty : TypeId} (h : fn.results = #[.cell p ty, .cell q 37]) (tmps : Array Value) (w : World) (g g2 : Nat) (cs : List Value) (d : TypeDesc) (v : Int)
    (hp : tmps.getD p undef = .pointer (some ⟨g, 0, none⟩)) (hq : tmps.getD q undef = .pointer (some ⟨g2, 0, none⟩)) (hg : w.rangeAt g 0 cs) (hv : w.cell? ⟨g2, 0, none⟩ = some (.int .i64 v)) (hu : Try.prog.underlying ty = some d) (hd : d.isRow = true) (hi : (Try.prog.info? ty).map (·.size) = some cs.length) :
    (results fn tmps).run Try.prog w = .ok (.tuple #[.agg cs.toArray, .int .i64 v]) w := by
  have hp' : tmps[p]?.getD undef = .pointer (some ⟨g, 0, none⟩) := by simpa using hp
  have hq' : tmps[q]?.getD undef = .pointer (some ⟨g2, 0, none⟩) := by simpa using hq
  have h2 : (loadVar 37 ⟨g2, 0, none⟩).run Try.prog w = .ok (.int .i64 v) w := by simp [go_sem, hv]
  simp [results, h, hp', hq', asAddr, run_loadVar_mid w g 0 ty cs d hg hu hd hi, h2]

set_option maxRecDepth 20000 in
set_option maxHeartbeats 4000000 in
theorem ncatch_panic (g1 g2 : Nat) (cs : Array Value) (x : Value) (w : World) (h1 : w.heap[g1]? = some (.cells cs 27 (0, 0))) (hcs : cs.size = 17) (h2 : w.heap[g2]? = some (.cells #[x] 37 (0, 0))) (hne : g1 ≠ g2) :
    CallsD Try.prog 29 #[.pointer (some ⟨g1, 0, none⟩), .pointer (some ⟨g2, 0, none⟩)] (.panicking gaveUp) w fun e u' w' =>
      e = .returned (.tuple #[]) ∧ u' = .panicking [{ v := .iface 37 (.int .i64 6), recovered := true }] ∧ w' = (w.setCells g1 0 nl0).setCell ⟨g2, 0, none⟩ (.int .i64 6) := by
  obtain ⟨F, hF⟩ : ∃ F, F = nl0 := ⟨_, rfl⟩
  rw [← hF]
  have hlen : F.length = 17 := by rw [hF]; rfl
  have hth : w.there g1 0 F.length := by rw [hlen]; exact there_node h1 hcs
  have hall : F.toArray.all (·.oneCell') = true := by rw [hF]; exact all_oneCell_toArray (nl_one 0 0 0 0 0 (fun _ => 0))
  have hinf : (Try.prog.info? 27).map (·.size) = some F.length := by rw [hlen]; exact infoNode
  have d0 := cell_puts (g := g2) (h := g1) (i := 0) (fun e => hne e.symm) (cell_of_block h2 (j := 0) (u := x) rfl) (Array.getElem?_eq_some_iff.1 h2).1 0 F
  have e0 := frozen_puts (g := g2) (h := g1) (i := 0) (fun e => hne e.symm) h2 0 F
  have HF := Hid.mk hF
  clear h1 h2 hF hlen hcs
  refine callsD_of_wpS Try.func29 rfl fun c₀ cs hu => ?_
  apply wpS_seq
  apply wpS_region
  simp [wpOpsS, go_sem, recoverD, hu, Try.ntmps29, Exit.thenS]
  refine wpS_cond (t := true) (by simp [Act.eval, Array.replicate]) ?_
  simp only [if_true]
  refine wpS_of_wp ?_
  have htm : (#[.pointer (some ⟨g1, 0, none⟩), .pointer (some ⟨g2, 0, none⟩)] ++ ((Array.replicate 3 undef).setIfInBounds 0 (Value.iface 37 (Value.int IntKind.i64 6))).setIfInBounds 1 (Value.bool true) : Array Value) = #[.pointer (some ⟨g1, 0, none⟩), .pointer (some ⟨g2, 0, none⟩), .iface 37 (.int .i64 6), .bool true, undef] := rfl
  rw [htm]
  go_wp2_with (refine wpList_store_mid rfl 27 _ _ rfl g1 0 F.toArray rfl (by rw [HF.out]; rfl) ?h1 ?h2 hall ?_)
  case h1 => exact hth
  case h2 => simpa using hinf
  simp [bodyPostS, results, Try.results29]

theorem ncatch_idle (g1 g2 : Nat) (w : World) :
    CallsD Try.prog 29 #[.pointer (some ⟨g1, 0, none⟩), .pointer (some ⟨g2, 0, none⟩)] .returning w fun e u' w' => e = .returned (.tuple #[]) ∧ u' = .returning ∧ w' = w := by
  refine callsD_of_wpS Try.func29 rfl fun c₀ cs hu => ?_
  apply wpS_seq
  apply wpS_region
  simp [wpOpsS, go_sem, recoverD, hu, Try.ntmps29, Exit.thenS]
  refine wpS_cond (t := false) (by simp [Act.eval, Array.replicate]) ?_
  simp only [Bool.false_eq_true, if_false]
  refine wpS_of_wp (wp_skip ?_)
  cases c₀
  simp_all [bodyPostS, results, Try.results29]

/-- Both boxes of DecodeNode. -/
structure Boxes (w w1 : World) : Prop where
  below : Below w.heap.size w w1
  lt : w.heap.size + 2 ≤ w1.heap.size
  node : w1.heap[w.heap.size]? = some (.cells (ndc 0 0 0 0 0 (fun _ => 0)) 27 (0, 0))
  err : w1.heap[w.heap.size + 1]? = some (.cells #[.int .i64 0] 37 (0, 0))
theorem boxes_new (w : World) : Boxes w ((w.alloc (.cells (ndc 0 0 0 0 0 (fun _ => 0)) 27)).alloc (.cells #[.int .i64 0] 37)) :=
  ⟨below_two w _ _, by simp, heap_alloc2_old _ _ _, heap_alloc2_new _ _ _⟩
theorem Boxes.keep {w w1 w2 : World} {p : Nat} (h : Boxes w w1) (hk : Keeps (fun j => j = p) w1 w2) (hp : w.heap.size + 2 ≤ p) : Boxes w w2 :=
  ⟨h.below.trans (hk.below (fun j hj => by omega) h.below.size), Nat.le_trans h.lt hk.size, (hk.block _ (by have := h.lt; omega) (by omega)).trans h.node, (hk.block _ (by have := h.lt; omega) (by omega)).trans h.err⟩
theorem Boxes.far {w w1 w2 : World} (h : Boxes w w1) (hb : Below w1.heap.size w1 w2) : Boxes w w2 :=
  ⟨h.below.trans (hb.mono h.below.size), Nat.le_trans h.lt hb.size, (hb.block _ (by have := h.lt; omega)).trans h.node, (hb.block _ (by have := h.lt; omega)).trans h.err⟩
/-- The answer is laid into both boxes. -/
theorem Boxes.laid {w w1 : World} (h : Boxes w w1) (k l p s o : Int) (d : Nat → Int) (v : Int) :
    ((w1.setCells w.heap.size 0 (ndl k l p s o d)).setCell ⟨w.heap.size + 1, 0, none⟩ (.int .i64 v)).rangeAt w.heap.size 0 (ndl k l p s o d) ∧ ((w1.setCells w.heap.size 0 (ndl k l p s o d)).setCell ⟨w.heap.size + 1, 0, none⟩ (.int .i64 v)).cell? ⟨w.heap.size + 1, 0, none⟩ = some (.int .i64 v) ∧ Below w.heap.size w ((w1.setCells w.heap.size 0 (ndl k l p s o d)).setCell ⟨w.heap.size + 1, 0, none⟩ (.int .i64 v)) := by
  have hth := there_node h.node rfl
  have hlt := h.lt
  have hr := World.rangeAt_setCells_same w1 w.heap.size 0 (ndl k l p s o d) hth
  have hks := Keeps.setCells (F := fun j => j = w.heap.size) rfl (ndl k l p s o d) 0 w1
  have hb2 := (hks.block (w.heap.size + 1) (by omega) (by omega)).trans h.err
  refine ⟨fun j v' hv => ?_, ?_, ?_⟩
  · refine (World.cell?_of_block (w := w1.setCells w.heap.size 0 (ndl k l p s o d)) (a := ⟨w.heap.size, 0 + j, none⟩) (Below.heap_setCell _ _ _ _ (by simp))).trans (hr j v' hv)
  · exact cell_of_block (heap_setCell_same _ _ _ _ _ _ hb2) (j := 0) rfl
  · exact below_put (h.below.trans (hks.below (fun j hj => by omega) h.below.size)) (by omega) (by rw [size_setCells]; omega) _
/-- How DecodeNode leaves: both boxes are written, and read. -/
theorem leave_ok {w w1 : World} (h : Boxes w w1) (k l p s o : Int) (d : Nat → Int) (v : Int) (tmps : Array Value) (R : Ending → World → Prop)
    (h0 : tmps.getD 2 undef = .pointer (some ⟨w.heap.size, 0, none⟩)) (h1 : tmps.getD 3 undef = .pointer (some ⟨w.heap.size + 1, 0, none⟩))
    (hR : ∀ w', Below w.heap.size w w' → R (.returned (.tuple #[nd k l p s o d, .int .i64 v])) w') :
    Leaves Try.prog Try.f14 tmps R [] .returning ((w1.setCells w.heap.size 0 (ndl k l p s o d)).setCell ⟨w.heap.size + 1, 0, none⟩ (.int .i64 v)) := by
  obtain ⟨hr, hc, hb⟩ := h.laid k l p s o d v
  exact ⟨_, results_cell_err (p := 2) (q := 3) (ty := 27) rfl tmps _ w.heap.size (w.heap.size + 1) (ndl k l p s o d) _ v h0 h1 hr hc Try.underlying27 rfl infoNode, hR _ hb⟩
end Go.Proofs.Ytcpmapknmkholaa
end

section
namespace Go.Proofs.Ytcpmapknmkholaa
open Go.RowKit

set_option maxRecDepth 20000 in
set_option maxHeartbeats 4000000 in
theorem decnode_len (a : Option Addr) (n c : Nat) (w : World) (hn : n ≠ 128) (_hb : n ≤ 140737488355328) :
    Calls Try.prog 14 #[.slice a n c] w fun e w' => e = .returned (.tuple #[nd0, .int .i64 2]) ∧ Below w.heap.size w w' := by
  have hne : ((n : Int) != 128) = true := by rw [bne_iff_ne]; omega
  have hmf : ∀ (fn : Fn) (first cap : Array Value) (w : World), (Instr.makeFunc fn first cap).run Try.prog w = .ok (.func fn first cap) w := fun _ _ _ _ => rfl
  have hbx := boxes_new w
  obtain ⟨w1, hw1⟩ : ∃ w1, w1 = (w.alloc (.cells (ndc 0 0 0 0 0 (fun _ => 0)) 27)).alloc (.cells #[.int .i64 0] 37) := ⟨_, rfl⟩
  rw [← hw1] at hbx
  obtain ⟨F, hF⟩ : ∃ F, F = nl0 := ⟨_, rfl⟩
  have hlen : F.length = 17 := by rw [hF]; rfl
  have hth : w1.there w.heap.size 0 F.length := by rw [hlen]; exact there_node hbx.node rfl
  have hall : F.toArray.all (·.oneCell') = true := by rw [hF]; exact all_oneCell_toArray (nl_one 0 0 0 0 0 (fun _ => 0))
  have hinf : (Try.prog.info? 27).map (·.size) = some F.length := by rw [hlen]; exact infoNode
  have d0 := cell_puts (g := w.heap.size + 1) (h := w.heap.size) (i := 0) (by omega) (cell_of_block hbx.err (j := 0) (u := .int .i64 0) rfl) (Array.getElem?_eq_some_iff.1 hbx.err).1 0 F
  have e0 := frozen_puts (g := w.heap.size + 1) (h := w.heap.size) (i := 0) (by omega) hbx.err 0 F
  have HF := Hid.mk hF
  clear hF hlen
  rw [hw1] at hth d0 e0
  have HX := Hid.mk hbx
  clear hbx
  go_enter_defers Try.func14, Try.ntmps14
  go_wp2_with (refine wpList_store_mid rfl 27 _ _ rfl w.heap.size 0 F.toArray rfl (by rw [HF.out]; rfl) ?h1 ?h2 hall ?_)
  case h1 => exact hth
  case h2 => simpa using hinf
  rw [← hw1]
  rw [HF.out]
  simp only [bodyPostD]
  exact leave_ok HX.out 0 0 0 0 0 (fun _ => 0) 2 _ _ rfl rfl (fun w' hb => ⟨rfl, hb⟩)

set_option maxRecDepth 20000 in
set_option maxHeartbeats 4000000 in
theorem decnode_zero (b o c : Nat) (l : List Int) (w : World) (hl : l.length = 128) (_hc : 128 ≤ c) (_hcc : c ≤ 9223372036854775807) (_hb : Bytes l) (hs : ∀ i, i < 128 → w.cell? ⟨b, o + i, none⟩ = some (.int .u8 (l.getD i 0))) (hz : Zeros l) :
    Calls Try.prog 14 #[.slice (some ⟨b, o, none⟩) 128 c] w fun e w' => e = .returned (.tuple #[nd0, .int .i64 0]) ∧ Below w.heap.size w w' := by
  have hmf : ∀ (fn : Fn) (first cap : Array Value) (w : World), (Instr.makeFunc fn first cap).run Try.prog w = .ok (.func fn first cap) w := fun _ _ _ _ => rfl
  have hbx := boxes_new w
  obtain ⟨w1, hw1⟩ : ∃ w1, w1 = (w.alloc (.cells (ndc 0 0 0 0 0 (fun _ => 0)) 27)).alloc (.cells #[.int .i64 0] 37) := ⟨_, rfl⟩
  rw [← hw1] at hbx
  have hem := empty_low b o 128 c l w1 hl (by omega) (fun i hi => cell_later hbx.below (hs i hi))
  have HZ := Hid.mk hz
  have HX := Hid.mk hbx
  clear hs hz hbx
  go_enter_defers Try.func14, Try.ntmps14
  go_wp2_with fail
  rw [← hw1]
  clear hw1
  refine hem.mono ?_
  rintro e wx ⟨⟨x, rfl, hx⟩, hw⟩
  have hw' := hw.symm
  subst hw'
  clear hw hem
  have hx' : x = true := hx.2 HZ.out
  subst hx'
  clear hx
  have hbx := HX.out
  obtain ⟨F, hF⟩ : ∃ F, F = nl0 := ⟨_, rfl⟩
  have hlen : F.length = 17 := by rw [hF]; rfl
  have hth : w1.there w.heap.size 0 F.length := by rw [hlen]; exact there_node hbx.node rfl
  have hall : F.toArray.all (·.oneCell') = true := by rw [hF]; exact all_oneCell_toArray (nl_one 0 0 0 0 0 (fun _ => 0))
  have hinf : (Try.prog.info? 27).map (·.size) = some F.length := by rw [hlen]; exact infoNode
  have d0 := cell_puts (g := w.heap.size + 1) (h := w.heap.size) (i := 0) (by omega) (cell_of_block hbx.err (j := 0) (u := .int .i64 0) rfl) (Array.getElem?_eq_some_iff.1 hbx.err).1 0 F
  have e0 := frozen_puts (g := w.heap.size + 1) (h := w.heap.size) (i := 0) (by omega) hbx.err 0 F
  have HF := Hid.mk hF
  clear hF hlen
  clear hbx
  go_wp2_with (refine wpList_store_mid rfl 27 _ _ rfl w.heap.size 0 F.toArray rfl (by rw [HF.out]; rfl) ?h1 ?h2 hall ?_)
  case h1 => exact hth
  case h2 => simpa using hinf
  rw [HF.out]
  simp only [bodyPostD]
  exact leave_ok HX.out 0 0 0 0 0 (fun _ => 0) 0 _ _ rfl rfl (fun w' hb => ⟨rfl, hb⟩)

/-- A node's bytes are right (of one that is not empty). -/
def NodeOk (l : List Int) : Prop := SumOk l ∧ NodOk (part l 0 124)
/-- What DecodeNode answers to bytes that are not all zeros. -/
def DecN (l : List Int) (e : Ending) : Prop := (NodeOk l ∧ e = .returned (.tuple #[ndOf (part l 0 124), .int .i64 0])) ∨ (¬ NodeOk l ∧ e = .returned (.tuple #[nd0, .int .i64 6]))

theorem leave_no {w w1 : World} (h : Boxes w w1) (tmps : Array Value) (R : Ending → World → Prop) (d : Deferred) (fv : Fn) (cap dargs : Array Value) (hd : d = ⟨.fn fv cap, dargs⟩)
    (hi : (invoke (.fn fv cap) dargs).run Try.prog w1 = .ok (.enter 29 #[.pointer (some ⟨w.heap.size, 0, none⟩), .pointer (some ⟨w.heap.size + 1, 0, none⟩)]) w1)
    (h0 : tmps.getD 2 undef = .pointer (some ⟨w.heap.size, 0, none⟩)) (h1 : tmps.getD 3 undef = .pointer (some ⟨w.heap.size + 1, 0, none⟩))
    (hR : ∀ w', Below w.heap.size w w' → R (.returned (.tuple #[nd0, .int .i64 6])) w') :
    Leaves Try.prog Try.f14 tmps R [d] (.panicking gaveUp) w1 := by
  subst hd
  refine leaves_cons (f := 29) (args := #[.pointer (some ⟨w.heap.size, 0, none⟩), .pointer (some ⟨w.heap.size + 1, 0, none⟩)]) (by simp) hi ?_
  refine (ncatch_panic w.heap.size (w.heap.size + 1) _ _ _ h.node rfl h.err (by omega)).mono ?_
  rintro e u' w'' ⟨rfl, rfl, rfl⟩
  exact leave_ok h 0 0 0 0 0 (fun _ => 0) 6 _ _ h0 h1 hR

set_option maxRecDepth 20000 in
set_option maxHeartbeats 8000000 in
theorem decnode_some (b o c : Nat) (l : List Int) (w : World) (hl : l.length = 128) (hc : 128 ≤ c) (hcc : c ≤ 9223372036854775807) (hb : Bytes l) (hs : ∀ i, i < 128 → w.cell? ⟨b, o + i, none⟩ = some (.int .u8 (l.getD i 0))) (hz : ¬ Zeros l) :
    Calls Try.prog 14 #[.slice (some ⟨b, o, none⟩) 128 c] w fun e w' => DecN l e ∧ Below w.heap.size w w' := by
  have hmf : ∀ (fn : Fn) (first cap : Array Value) (w : World), (Instr.makeFunc fn first cap).run Try.prog w = .ok (.func fn first cap) w := fun _ _ _ _ => rfl
  have hbx := boxes_new w
  obtain ⟨w1, hw1⟩ : ∃ w1, w1 = (w.alloc (.cells (ndc 0 0 0 0 0 (fun _ => 0)) 27)).alloc (.cells #[.int .i64 0] 37) := ⟨_, rfl⟩
  rw [← hw1] at hbx
  have hem := empty_low b o 128 c l w1 hl (by omega) (fun i hi => cell_later hbx.below (hs i hi))
  have hsrc1 : ∀ i, i < 128 → w1.cell? ⟨b, o + i, none⟩ = some (.int .u8 (l.getD i 0)) := fun i hi => cell_later hbx.below (hs i hi)
  have Hsrc := Hid.mk hsrc1
  have HZ := Hid.mk hz
  have HX := Hid.mk hbx
  clear hs hz hbx hsrc1
  go_enter_defers Try.func14, Try.ntmps14
  go_wp2_with fail
  rw [← hw1]
  clear hw1
  refine hem.mono ?_
  rintro e wx ⟨⟨x, rfl, hx⟩, hw⟩
  have hw' := hw.symm
  subst hw'
  clear hw hem
  have hx' : x = false := by
    cases x with
    | false => rfl
    | true => exact absurd (hx.1 rfl) HZ.out
  subst hx'
  clear hx
  by_cases h1 : SumOk l
  · have hsm := summed_ok b o 128 c l w1 hl (by omega) (by omega) hc hcc hb Hsrc.out h1
    have HS := Hid.mk h1
    clear h1 Hsrc
    go_wp2_with fail
    refine hsm.mono ?_
    rintro e w2 ⟨p, rfl, hp, hrd, hb2⟩
    have hrs := readnode_any p b o c (part l 0 124) w2 hrd (part_len (by omega)) (by omega)
    have HX2 := Hid.mk (HX.out.far hb2)
    have hp2 : w.heap.size + 2 ≤ p := Nat.le_trans HX.out.lt hp
    clear hsm hrd hb2
    go_wp2_with fail
    refine hrs.mono ?_
    rintro e w3 ⟨hout, hk3⟩
    have HX3 := Hid.mk (HX2.out.keep hk3 hp2)
    clear hrs hk3 HX2 HX
    rcases hout with ⟨hok, rfl⟩ | ⟨hno, rfl⟩
    · have HO : Hid (NodeOk l) := ⟨HS.out, hok⟩
      clear hok HS
      have hbx := HX3.out
      generalize hq : part l 0 124 = q at *
      obtain ⟨F, hF⟩ : ∃ F, F = (ndl ((u8 q 0 : Nat) : Int) ((u16 q 2 : Nat) : Int) ((u32 q 4 : Nat) : Int) (s64 q 8) ((u32 q 16 : Nat) : Int) (fun i => ((u32 q (24 + 4 * i) : Nat) : Int))) := ⟨_, rfl⟩
      have hlen : F.length = 17 := by rw [hF]; rfl
      have hth : w3.there w.heap.size 0 F.length := by rw [hlen]; exact there_node hbx.node rfl
      have hall : F.toArray.all (·.oneCell') = true := by rw [hF]; exact all_oneCell_toArray (nl_one ((u8 q 0 : Nat) : Int) ((u16 q 2 : Nat) : Int) ((u32 q 4 : Nat) : Int) (s64 q 8) ((u32 q 16 : Nat) : Int) (fun i => ((u32 q (24 + 4 * i) : Nat) : Int)))
      have hinf : (Try.prog.info? 27).map (·.size) = some F.length := by rw [hlen]; exact infoNode
      have d0 := cell_puts (g := w.heap.size + 1) (h := w.heap.size) (i := 0) (by omega) (cell_of_block hbx.err (j := 0) (u := .int .i64 0) rfl) (Array.getElem?_eq_some_iff.1 hbx.err).1 0 F
      have e0 := frozen_puts (g := w.heap.size + 1) (h := w.heap.size) (i := 0) (by omega) hbx.err 0 F
      have HF := Hid.mk hF
      clear hF hlen
      clear hbx
      go_wp2_with (refine wpList_store_mid rfl 27 _ _ rfl w.heap.size 0 F.toArray rfl (by rw [HF.out]; rfl) ?h1 ?h2 hall ?_)
      case h1 => exact hth
      case h2 => simpa using hinf
      refine leaves_cons (f := 29) (args := #[.pointer (some ⟨w.heap.size, 0, none⟩), .pointer (some ⟨w.heap.size + 1, 0, none⟩)]) (by simp) (by simp [go_sem]) ?_
      refine (ncatch_idle _ _ _).mono ?_
      rintro e u' w'' ⟨rfl, rfl, rfl⟩
      rw [HF.out]
      exact leave_ok HX3.out ((u8 q 0 : Nat) : Int) ((u16 q 2 : Nat) : Int) ((u32 q 4 : Nat) : Int) (s64 q 8) ((u32 q 16 : Nat) : Int) (fun i => ((u32 q (24 + 4 * i) : Nat) : Int)) 0 _ _ rfl rfl (fun w' hb => ⟨.inl ⟨HO.out, by rw [hq]⟩, hb⟩)
    · have HO : Hid (¬ NodeOk l) := fun h => hno h.2
      clear hno HS
      go_wp2
      exact leave_no HX3.out _ _ _ _ _ _ rfl (by simp [go_sem]) rfl rfl (fun w' hb => ⟨.inr ⟨HO.out, rfl⟩, hb⟩)
  · have hsm := summed_no b o 128 c l w1 hl (by omega) (by omega) hc hcc hb Hsrc.out h1
    have HO : Hid (¬ NodeOk l) := fun h => h1 h.1
    clear h1 Hsrc
    go_wp2_with fail
    refine hsm.mono ?_
    rintro e w2 ⟨rfl, hb2⟩
    have HX2 := Hid.mk (HX.out.far hb2)
    clear hsm hb2 HX
    go_wp2
    exact leave_no HX2.out _ _ _ _ _ _ rfl (by simp [go_sem]) rfl rfl (fun w' hb => ⟨.inr ⟨HO.out, rfl⟩, hb⟩)
end Go.Proofs.Ytcpmapknmkholaa
end

section
namespace Go.Proofs.Ytcpmapknmkholaa

theorem leb_le : ∀ {xs : List Int}, Bytes xs → leb xs.length (le xs) = xs
  | [], _ => rfl
  | x :: t, h => by
    have h1 := h x (by simp)
    have ih := leb_le (xs := t) (fun y hy => h y (by simp [hy]))
    rw [List.length_cons, leb, le]
    have e1 : (x.toNat + 256 * le t) / 256 = le t := by omega
    have e2 : (((x.toNat + 256 * le t) % 256 : Nat) : Int) = x := by omega
    rw [e1, e2, ih]
theorem le_leb : ∀ (k m : Nat), m < 256 ^ k → le (leb k m) = m
  | 0, m, h => by simp at h; simp [leb, le, h]
  | k + 1, m, h => by
    have h2 : m / 256 < 256 ^ k := by rw [Nat.pow_succ] at h; exact Nat.div_lt_of_lt_mul (by rw [Nat.mul_comm]; exact h)
    rw [leb, le, le_leb k _ h2]
    omega
theorem zeros_rep {l : List Int} (h : ∀ x ∈ l, x = 0) : l = List.replicate l.length 0 := List.eq_replicate_iff.2 ⟨rfl, h⟩
theorem part_take {l : List Int} {a q m : Nat} (h : q + m ≤ a) : part (part l 0 a) q m = part l q m := by
  unfold part
  rw [List.drop_zero, List.drop_take, List.take_take]
  congr 1
  omega
theorem part_split (l : List Int) (q m k : Nat) : part l q (m + k) = part l q m ++ part l (q + m) k := by
  unfold part
  rw [List.take_add, List.drop_drop]
theorem part_all (l : List Int) : part l 0 l.length = l := by simp [part]
theorem part_app (A B : List Int) (q m : Nat) (h : q = A.length) : part (A ++ B) q m = B.take m := by
  subst h
  simp [part]
theorem part_appl (A B : List Int) (q m : Nat) (h : q + m ≤ A.length) : part (A ++ B) q m = part A q m := by
  unfold part
  rw [List.drop_append_of_le_length (by omega), List.take_append_of_le_length (by simp; omega)]
theorem leb_part {l : List Int} (hb : Bytes l) {q : Nat} (hq : q + 4 ≤ l.length) : leb 4 (u32 l q) = part l q 4 := by
  have := leb_le (part_bytes hb q 4)
  rw [part_len hq] at this
  exact this

/-- The document's way to say that a sector is a superblock. -/
def SuperRef (l : List Int) : Prop := Geo (u32 l 8) (u32 l 12) (u32 l 16) ∧ sealed (supBody (u32 l 8) (u32 l 12) (u32 l 16)) = l

theorem super_iff {l : List Int} (hb : Bytes l) (hl : l.length = 512) : (SumOk l ∧ SupOk (part l 0 508)) ↔ SuperRef l := by
  have u1 : u32 (part l 0 508) 8 = u32 l 8 := by unfold u32; rw [part_take (by omega)]
  have u2 : u32 (part l 0 508) 12 = u32 l 12 := by unfold u32; rw [part_take (by omega)]
  have u3 : u32 (part l 0 508) 16 = u32 l 16 := by unfold u32; rw [part_take (by omega)]
  have hbody : part l 0 508 = part l 0 8 ++ part l 8 4 ++ part l 12 4 ++ part l 16 4 ++ part l 20 488 := by
    rw [show (508 : Nat) = 8 + 4 + 4 + 4 + 488 from rfl, part_split, part_split, part_split, part_split]
  have hwhole : l = part l 0 508 ++ part l 508 4 := by
    have := part_split l 0 508 4
    rw [show 508 + 4 = l.length by omega, part_all] at this
    exact this
  constructor
  · rintro ⟨hs, hh, hz, hg⟩
    rw [u1, u2, u3] at hg
    rw [part_take (by omega)] at hh hz
    refine ⟨hg, ?_⟩
    have e : supBody (u32 l 8) (u32 l 12) (u32 l 16) = part l 0 508 := by
      rw [hbody, hh, ← leb_part hb (q := 8) (by omega), ← leb_part hb (q := 12) (by omega), ← leb_part hb (q := 16) (by omega)]
      have := zeros_rep hz
      rw [part_len (by omega)] at this
      rw [this]
      rfl
    unfold sealed
    rw [e]
    unfold SumOk at hs
    rw [hl] at hs
    have h4 := leb_part hb (q := 508) (by omega)
    have h5 : u32 l 508 = sumOf (part l 0 508) := hs
    rw [← h5, h4]
    exact hwhole.symm
  · rintro ⟨hg, he⟩
    have hlen := supBody_len (u32 l 8) (u32 l 12) (u32 l 16)
    have hb508 : part l 0 508 = supBody (u32 l 8) (u32 l 12) (u32 l 16) := by
      conv => lhs; rw [← he]
      unfold sealed
      rw [part_appl _ _ _ _ (by omega)]
      have := part_all (supBody (u32 l 8) (u32 l 12) (u32 l 16))
      rw [hlen] at this
      exact this
    have hsum : part l 508 4 = leb 4 (sumOf (supBody (u32 l 8) (u32 l 12) (u32 l 16))) := by
      conv => lhs; rw [← he]
      unfold sealed
      rw [part_app _ _ _ _ hlen.symm, List.take_of_length_le (by rw [leb_len]; omega)]
    refine ⟨?_, ?_, ?_, ?_⟩
    · unfold SumOk
      rw [hl]
      show le (part l 508 4) = sumOf (part l 0 508)
      rw [hsum, hb508, le_leb _ _ (by have := sumOf_lt (supBody_bytes (u32 l 8) (u32 l 12) (u32 l 16)); omega)]
    · rw [hb508]
      unfold supBody
      rw [List.append_assoc, List.append_assoc, List.append_assoc, part_appl _ _ _ _ (by decide)]
      rfl
    · rw [hb508]
      unfold supBody
      have h20 : (headL ++ leb 4 (u32 l 8) ++ leb 4 (u32 l 12) ++ leb 4 (u32 l 16)).length = 20 := by rw [List.length_append, List.length_append, List.length_append, leb_len, leb_len, leb_len]; rfl
      rw [part_app _ _ _ _ h20.symm]
      intro x hx
      exact List.eq_of_mem_replicate (List.mem_of_mem_take hx)
    · rw [u1, u2, u3]
      exact hg
end Go.Proofs.Ytcpmapknmkholaa
end

section
namespace Go.Proofs.Ytcpmapknmkholaa
open Go.RowKit

theorem lebn_part {l : List Int} (hb : Bytes l) {q n : Nat} (hq : q + n ≤ l.length) : leb n (le (part l q n)) = part l q n := by
  have := leb_le (part_bytes hb q n)
  rw [part_len hq] at this
  exact this
theorem ptrs_part {l : List Int} (hb : Bytes l) : ∀ n, 24 + 4 * n ≤ l.length → ptrs (fun i => u32 l (24 + 4 * i)) n = part l 24 (4 * n)
  | 0, _ => by simp [ptrs, part]
  | n + 1, h => by
    rw [ptrs, ptrs_part hb n (by omega), leb_part hb (by omega), show 4 * (n + 1) = 4 * n + 4 by omega, part_split]
theorem s64_nonneg {l : List Int} (hb : Bytes l) {k : Nat} (hk : k + 8 ≤ l.length) (h : 0 ≤ s64 l k) : (s64 l k).toNat = le (part l k 8) ∧ s64 l k = ((le (part l k 8) : Nat) : Int) := by
  have h1 := le_lt (part_bytes hb k 8)
  rw [part_len hk] at h1
  have h2 : (2 : Nat) ^ (8 * 8) = 18446744073709551616 := rfl
  unfold s64 wrap64 at *
  omega
/-- The body that the fields of a node make is the body. -/
theorem body_form {q : List Int} (hb : Bytes q) (hl : q.length = 124) (h : NodOk q) : nodeBody (u8 q 0) (u16 q 2) (u32 q 4) (s64 q 8).toNat (u32 q 16) (fun i => u32 q (24 + 4 * i)) = q := by
  obtain ⟨z1, z2, z3, hf⟩ := h
  have e1 := zeros_rep z1
  have e2 := zeros_rep z2
  have e3 := zeros_rep z3
  rw [part_len (by omega)] at e1 e2 e3
  have e8 := (s64_nonneg hb (k := 8) (by omega) hf.2.2.2.1.1).1
  have a1 : nb1 (u8 q 0) = part q 0 1 := lebn_part hb (by omega)
  have a2 : nb2 (u8 q 0) = part q 0 2 := by rw [nb2, a1, ← e1, ← part_split]
  have a3 : nb3 (u8 q 0) (u16 q 2) = part q 0 4 := by rw [nb3, a2, show leb 2 (u16 q 2) = part q 2 2 from lebn_part hb (by omega), ← part_split]
  have a4 : nb4 (u8 q 0) (u16 q 2) (u32 q 4) = part q 0 8 := by rw [nb4, a3, leb_part hb (by omega), ← part_split]
  have a5 : nb5 (u8 q 0) (u16 q 2) (u32 q 4) (s64 q 8).toNat = part q 0 16 := by rw [nb5, a4, e8, lebn_part hb (by omega), ← part_split]
  have a6 : nb6 (u8 q 0) (u16 q 2) (u32 q 4) (s64 q 8).toNat (u32 q 16) = part q 0 20 := by rw [nb6, a5, leb_part hb (by omega), ← part_split]
  have a7 : nb7 (u8 q 0) (u16 q 2) (u32 q 4) (s64 q 8).toNat (u32 q 16) = part q 0 24 := by rw [nb7, a6, ← e2, ← part_split]
  have a8 : nb8 (u8 q 0) (u16 q 2) (u32 q 4) (s64 q 8).toNat (u32 q 16) (fun i => u32 q (24 + 4 * i)) = part q 0 64 := by rw [nb8, a7, ptrs_part hb 10 (by omega), ← part_split]
  have a9 : nb9 (u8 q 0) (u16 q 2) (u32 q 4) (s64 q 8).toNat (u32 q 16) (fun i => u32 q (24 + 4 * i)) = part q 0 68 := by rw [nb9, a8, leb_part hb (by omega), ← part_split]
  have a10 : nb10 (u8 q 0) (u16 q 2) (u32 q 4) (s64 q 8).toNat (u32 q 16) (fun i => u32 q (24 + 4 * i)) = part q 0 72 := by rw [nb10, a9, leb_part hb (by omega), ← part_split]
  rw [nodeBody, a10, ← e3, ← part_split, show 72 + 52 = q.length by omega]
  exact part_all q
theorem node_form {l : List Int} (hb : Bytes l) (hl : l.length = 128) (h : NodeOk l) : sealed (nodeBody (u8 (part l 0 124) 0) (u16 (part l 0 124) 2) (u32 (part l 0 124) 4) (s64 (part l 0 124) 8).toNat (u32 (part l 0 124) 16) (fun i => u32 (part l 0 124) (24 + 4 * i))) = l := by
  rw [body_form (part_bytes hb 0 124) (part_len (by omega)) h.2]
  have hs := h.1
  unfold SumOk at hs
  rw [hl] at hs
  have h5 : u32 l 124 = sumOf (part l 0 124) := hs
  unfold sealed
  rw [← h5, leb_part hb (by omega), ← part_split, show 124 + 4 = l.length by omega]
  exact part_all l

/-- A node's value. -/
structure NV where
  k : Int
  l : Int
  p : Int
  s : Int
  o : Int
  d : Nat → Int
abbrev NV.v (x : NV) : Value := nd x.k x.l x.p x.s x.o x.d
def nv0 : NV := ⟨0, 0, 0, 0, 0, fun _ => 0⟩
def nvOf (q : List Int) : NV := ⟨((u8 q 0 : Nat) : Int), ((u16 q 2 : Nat) : Int), ((u32 q 4 : Nat) : Int), s64 q 8, ((u32 q 16 : Nat) : Int), fun i => ((u32 q (24 + 4 * i) : Nat) : Int)⟩
/-- What a decoder of nodes answers. -/
def DecR (l : List Int) (x : NV) (E : Int) : Prop :=
  (l.length ≠ 128 ∧ x = nv0 ∧ E = 2) ∨ (l.length = 128 ∧ Zeros l ∧ x = nv0 ∧ E = 0) ∨ (l.length = 128 ∧ ¬ Zeros l ∧ NodeOk l ∧ x = nvOf (part l 0 124) ∧ E = 0) ∨ (l.length = 128 ∧ ¬ Zeros l ∧ ¬ NodeOk l ∧ x = nv0 ∧ E = 6)
/-- What an encoder of nodes answers. -/
def EncR (x : NV) (b : List Int) (E : Int) : Prop :=
  (NNone x.k x.l x.p x.s x.o x.d ∧ b = zeros128 ∧ E = 0) ∨ (¬ NNone x.k x.l x.p x.s x.o x.d ∧ NFits x.k x.l x.p x.s x.o x.d ∧ b = sealed (nodeBody x.k.toNat x.l.toNat x.p.toNat x.s.toNat x.o.toNat (fun i => (x.d i).toNat)) ∧ E = 0) ∨ (¬ NNone x.k x.l x.p x.s x.o x.d ∧ ¬ NFits x.k x.l x.p x.s x.o x.d ∧ b = [] ∧ E = 20)

theorem decnode_any (a : Option Addr) (n c : Nat) (l : List Int) (w : World) (hs : Src w a n l) (hb : Bytes l) (hn : n ≤ 140737488355328) (hc : n ≤ c) (hcc : n = 128 → c ≤ 9223372036854775807) :
    Calls Try.prog 14 #[.slice a n c] w fun e w' => ∃ x E, DecR l x E ∧ e = .returned (.tuple #[x.v, .int .i64 E]) ∧ Below w.heap.size w w' := by
  have hl := hs.1
  by_cases h : n = 128
  · cases a with
    | none => have := hs.2.1 rfl; omega
    | some x =>
      obtain ⟨b, o, rfl, hcell⟩ := hs.spot (by omega)
      subst h
      by_cases hz : Zeros l
      · refine (decnode_zero b o c l w hl hc (hcc rfl) hb hcell hz).mono ?_
        rintro e w' ⟨rfl, hbb⟩
        exact ⟨nv0, 0, .inr (.inl ⟨hl, hz, rfl, rfl⟩), rfl, hbb⟩
      · refine (decnode_some b o c l w hl hc (hcc rfl) hb hcell hz).mono ?_
        rintro e w' ⟨⟨hk, rfl⟩ | ⟨hk, rfl⟩, hbb⟩
        · exact ⟨nvOf (part l 0 124), 0, .inr (.inr (.inl ⟨hl, hz, hk, rfl, rfl⟩)), rfl, hbb⟩
        · exact ⟨nv0, 6, .inr (.inr (.inr ⟨hl, hz, hk, rfl, rfl⟩)), rfl, hbb⟩
  · refine (decnode_len a n c w h hn).mono ?_
    rintro e w' ⟨rfl, hbb⟩
    exact ⟨nv0, 2, .inl ⟨by omega, rfl, rfl⟩, rfl, hbb⟩

theorem ndc_nat {k l p s o : Int} {d : Nat → Int} (h : NFits k l p s o d) : nd k l p s o d = nd (k.toNat : Int) (l.toNat : Int) (p.toNat : Int) (s.toNat : Int) (o.toNat : Int) (fun i => ((d i).toNat : Int)) := by
  obtain ⟨hk, hl, hp, hs, ho, hd⟩ := h
  have e : ∀ i, i < 12 → ((d i).toNat : Int) = d i := fun i hi => by have := (pf_iff (d i)).1 (hd i hi); omega
  have hp0 : 0 ≤ p := by rcases hp with hp | hp <;> omega
  rw [Int.toNat_of_nonneg (by omega), Int.toNat_of_nonneg (by omega), Int.toNat_of_nonneg hp0, Int.toNat_of_nonneg (by omega), Int.toNat_of_nonneg (by omega)]
  show _ = nd k l p s o (fun i => ((d i).toNat : Int))
  simp only [nd, ndc]
  rw [e 0 (by omega), e 1 (by omega), e 2 (by omega), e 3 (by omega), e 4 (by omega), e 5 (by omega), e 6 (by omega), e 7 (by omega), e 8 (by omega), e 9 (by omega), e 10 (by omega), e 11 (by omega)]
theorem nfits_nat {k l p s o : Int} {d : Nat → Int} (h : NFits k l p s o d) : NFits (k.toNat : Int) (l.toNat : Int) (p.toNat : Int) (s.toNat : Int) (o.toNat : Int) (fun i => ((d i).toNat : Int)) := by
  have h' := h
  obtain ⟨hk, hl, hp, hs, ho, hd⟩ := h
  have hp0 : 0 ≤ p := by rcases hp with hp | hp <;> omega
  rw [Int.toNat_of_nonneg (by omega), Int.toNat_of_nonneg (by omega), Int.toNat_of_nonneg hp0, Int.toNat_of_nonneg (by omega), Int.toNat_of_nonneg (by omega)]
  refine ⟨hk, hl, hp, hs, ho, fun i hi => ?_⟩
  have := (pf_iff (d i)).1 (hd i hi)
  show PF ((d i).toNat : Int)
  rw [pf_iff]
  omega
theorem encnode_any (x : NV) (w : World) :
    Calls Try.prog 12 #[x.v] w fun e w' => ∃ v b E, EncR x b E ∧ e = .returned (.tuple #[v, .int .i64 E]) ∧ (E = 0 → Made w w' v b) ∧ (E ≠ 0 → v = .slice none 0 0) ∧ Below w.heap.size w w' := by
  by_cases h0 : NNone x.k x.l x.p x.s x.o x.d
  · refine (encnode_none x.k x.l x.p x.s x.o x.d w h0).mono ?_
    rintro e w' ⟨v, rfl, hm⟩
    exact ⟨v, _, 0, .inl ⟨h0, rfl, rfl⟩, rfl, fun _ => hm, fun h => absurd rfl h, hm.choose_spec.choose_spec.2.2.2⟩
  · by_cases hf : NFits x.k x.l x.p x.s x.o x.d
    · have he := encnode_ok x.k.toNat x.l.toNat x.p.toNat x.s.toNat x.o.toNat (fun i => (x.d i).toNat) w (nfits_nat hf)
      rw [← ndc_nat hf] at he
      refine he.mono ?_
      rintro e w' ⟨v, rfl, hm⟩
      exact ⟨v, _, 0, .inr (.inl ⟨h0, hf, rfl, rfl⟩), rfl, fun _ => hm, fun h => absurd rfl h, hm.choose_spec.choose_spec.2.2.2⟩
    · refine (encnode_bad x.k x.l x.p x.s x.o x.d w h0 hf).mono ?_
      rintro e w' ⟨rfl, hbb⟩
      exact ⟨_, [], 20, .inr (.inr ⟨h0, hf, rfl, rfl⟩), rfl, fun h => absurd h (by decide), fun _ => rfl, hbb⟩
/-- What is decoded is encoded to just these bytes. -/
theorem back_form {l : List Int} {x : NV} {b : List Int} {E : Int} (hb : Bytes l) (h : DecR l x 0) (h' : EncR x b E) : b = l ∧ E = 0 := by
  rcases h with ⟨_, _, h⟩ | ⟨hl, hz, rfl, _⟩ | ⟨hl, hz, hk, rfl, _⟩ | ⟨_, _, _, _, h⟩
  · exact absurd h (by decide)
  · have hn : NNone nv0.k nv0.l nv0.p nv0.s nv0.o nv0.d := ⟨rfl, rfl, rfl, rfl, rfl, fun _ _ => rfl⟩
    rcases h' with ⟨_, rfl, rfl⟩ | ⟨h0, _⟩ | ⟨h0, _⟩
    · have := zeros_rep hz
      rw [hl] at this
      exact ⟨this.symm, rfl⟩
    · exact absurd hn h0
    · exact absurd hn h0
  · have hf := hk.2.fits
    rcases h' with ⟨h0, _⟩ | ⟨_, _, rfl, rfl⟩ | ⟨_, hf', _⟩
    · have h1 := hf.1.1
      have h2 := h0.1
      exact absurd h1 (by simp only [nvOf] at h2; omega)
    · exact ⟨node_form hb hl hk, rfl⟩
    · exact absurd hf hf'
  · exact absurd h (by decide)
end Go.Proofs.Ytcpmapknmkholaa
end
