import Derived.Test.YtkkmkogpbhcpmaaKDecS
namespace Go.Proofs.Ytkkmkogpbhcpmaa
open Go.RowKit

theorem scatch_panic (g1 g2 : Nat) (a0 a1 a2 : Value) (x : Value) (w : World) (h1 : w.heap[g1]? = some (.cells #[a0, a1, a2] 85 (0, 0))) (h2 : w.heap[g2]? = some (.cells #[x] 32 (0, 0))) (hne : g1 ≠ g2) :
    CallsD Try.prog 96 #[.pointer (some ⟨g1, 0, none⟩), .pointer (some ⟨g2, 0, none⟩)] (.panicking gaveUp) w fun e u' w' =>
      e = .returned (.tuple #[]) ∧ u' = .panicking [{ v := .iface 32 (.int .i64 6), recovered := true }] ∧ w' = (((w.setCell ⟨g1, 0, none⟩ (.int .i64 0)).setCell ⟨g1, 1, none⟩ (.int .i64 0)).setCell ⟨g1, 2, none⟩ (.int .i64 0)).setCell ⟨g2, 0, none⟩ (.int .i64 6) := by
  have c0 := cell_of_block h1 (j := 0) rfl
  have c1 := cell_of_block h1 (j := 1) rfl
  have c2 := cell_of_block h1 (j := 2) rfl
  have f0 := frozen_of_block h1 0
  have f1 := frozen_of_block h1 1
  have f2 := frozen_of_block h1 2
  have d0 := cell_of_block h2 (j := 0) rfl
  have e0 := frozen_of_block h2 0
  have hne' : ¬ g2 = g1 := fun e => hne e.symm
  refine callsD_of_wpS Try.func96 rfl fun c₀ cs hu => ?_
  apply wpS_seq
  apply wpS_region
  simp [wpOpsS, go_sem, recoverD, hu, Try.ntmps96, Exit.thenS]
  refine wpS_cond (t := true) (by simp [Act.eval, Array.replicate]) ?_
  simp only [if_true]
  apply wpS_region
  simp [wpOpsS, go_sem, c0, c1, c2, f0, f1, f2, d0, e0, bodyPostS, results, Try.results96]

theorem scatch_idle (g1 g2 : Nat) (w : World) :
    CallsD Try.prog 96 #[.pointer (some ⟨g1, 0, none⟩), .pointer (some ⟨g2, 0, none⟩)] .returning w fun e u' w' => e = .returned (.tuple #[]) ∧ u' = .returning ∧ w' = w := by
  refine callsD_of_wpS Try.func96 rfl fun c₀ cs hu => ?_
  apply wpS_seq
  apply wpS_region
  simp [wpOpsS, go_sem, recoverD, hu, Try.ntmps96, Exit.thenS]
  refine wpS_cond (t := false) (by simp [Act.eval, Array.replicate]) ?_
  simp only [Bool.false_eq_true, if_false]
  refine wpS_of_wp (wp_skip ?_)
  cases c₀
  simp_all [bodyPostS, results, Try.results96]

set_option maxRecDepth 20000 in
set_option maxHeartbeats 2000000 in
theorem decsuper_len (a : Option Addr) (n c : Nat) (w : World) (hn : n ≠ 512) (_hb : n ≤ 140737488355328) :
    Calls Try.prog 54 #[.slice a n c] w fun e w' => e = .returned (.tuple #[.agg #[.int .i64 0, .int .i64 0, .int .i64 0], .int .i64 2]) ∧ Below w.heap.size w w' := by
  have hne : ((n : Int) != 512) = true := by rw [bne_iff_ne]; omega
  go_enter_defers Try.func54, Try.ntmps54
  go_wp2
  simp [bodyPostD, Leaves, results, Try.results54, go_sem]
  exact below_two w _ _

theorem below_put {B : Nat} {w wx : World} (h : Below B w wx) {g i : Nat} (hg : B ≤ g) (hB : B ≤ wx.heap.size) (v : Value) : Below B w (wx.setCell ⟨g, i, none⟩ v) :=
  h.trans ((Keeps.setCell (F := fun j => j = g) (p := ⟨g, i, none⟩) wx rfl v).below (fun j hj => by omega) hB)
theorem size_setCell (w : World) (a : Addr) (v : Value) : (w.setCell a v).heap.size = w.heap.size := by simp [World.setCell]
theorem below4 {B : Nat} {w wx : World} (h : Below B w wx) {g1 g2 : Nat} (h1 : B ≤ g1) (h2 : B ≤ g2) (hB : B ≤ wx.heap.size) (x y z u : Value) :
    Below B w ((((wx.setCell ⟨g1, 0, none⟩ x).setCell ⟨g1, 1, none⟩ y).setCell ⟨g1, 2, none⟩ z).setCell ⟨g2, 0, none⟩ u) :=
  below_put (below_put (below_put (below_put h h1 hB x) h1 (by rw [size_setCell]; exact hB) y) h1 (by rw [size_setCell, size_setCell]; exact hB) z) h2 (by rw [size_setCell, size_setCell, size_setCell]; exact hB) u

/-- A superblock's bytes are right. -/
def SuperOk (l : List Int) : Prop := SumOk l ∧ SupOk (part l 0 508)

set_option maxRecDepth 20000 in
set_option maxHeartbeats 4000000 in
theorem decsuper_ok (b o c : Nat) (l : List Int) (w : World) (hl : l.length = 512) (hc : 512 ≤ c) (hcc : c ≤ 9223372036854775807) (hb : Bytes l) (hs : ∀ i, i < 512 → w.cell? ⟨b, o + i, none⟩ = some (.int .u8 (l.getD i 0))) (hok : SuperOk l) :
    Calls Try.prog 54 #[.slice (some ⟨b, o, none⟩) 512 c] w fun e w' => e = .returned (.tuple #[.agg #[.int .i64 ((u32 l 8 : Nat) : Int), .int .i64 ((u32 l 12 : Nat) : Int), .int .i64 ((u32 l 16 : Nat) : Int)], .int .i64 0]) ∧ Below w.heap.size w w' := by
  have hmf : ∀ (fn : Fn) (first cap : Array Value) (w : World), (Instr.makeFunc fn first cap).run Try.prog w = .ok (.func fn first cap) w := fun _ _ _ _ => rfl
  obtain ⟨w1, hw1⟩ : ∃ w1, w1 = (w.alloc (.cells #[.int .i64 0, .int .i64 0, .int .i64 0] 85)).alloc (.cells #[.int .i64 0] 32) := ⟨_, rfl⟩
  have hB1 : Below w.heap.size w w1 := by rw [hw1]; exact below_two w _ _
  have hsz1 : w1.heap.size = w.heap.size + 2 := by rw [hw1]; simp
  have hg1 : w1.heap[w.heap.size]? = some (.cells #[.int .i64 0, .int .i64 0, .int .i64 0] 85 (0, 0)) := by rw [hw1]; exact heap_alloc2_old _ _ _
  have hg2 : w1.heap[w.heap.size + 1]? = some (.cells #[.int .i64 0] 32 (0, 0)) := by rw [hw1]; exact heap_alloc2_new _ _ _
  have hsm := summed_ok b o 512 c l w1 hl (by omega) (by omega) hc hcc hb (fun i hi => cell_later hB1 (hs i hi)) hok.1
  have HOK := Hid.mk hok.2
  clear hs hok
  go_enter_defers Try.func54, Try.ntmps54
  go_wp2_with fail
  rw [← hw1]
  clear hw1
  refine hsm.mono ?_
  rintro e w2 ⟨p, rfl, hp, hrd, hb2⟩
  have hrs := readsuper_ok p b o c (part l 0 508) w2 hrd (part_len (by omega)) HOK.out
  have HB2 : Hid (Below w.heap.size w w2) := hB1.trans (hb2.mono hB1.size)
  have HG1 := Hid.mk ((hb2.block w.heap.size (by omega)).trans hg1)
  have HG2 := Hid.mk ((hb2.block (w.heap.size + 1) (by omega)).trans hg2)
  have u8' : u32 (part l 0 508) 8 = u32 l 8 := by unfold u32; congr 1; simp [part, List.drop_take, List.take_take]
  have u12' : u32 (part l 0 508) 12 = u32 l 12 := by unfold u32; congr 1; simp [part, List.drop_take, List.take_take]
  have u16' : u32 (part l 0 508) 16 = u32 l 16 := by unfold u32; congr 1; simp [part, List.drop_take, List.take_take]
  rw [u8', u12', u16'] at hrs
  clear hsm hrd hb2 hB1 hg1 hg2 u8' u12' u16' HOK
  go_wp2_with fail
  refine hrs.mono ?_
  rintro e w3 ⟨rfl, hk3⟩
  have hg1 := (hk3.block w.heap.size (Array.getElem?_eq_some_iff.1 HG1.out).1 (by omega)).trans HG1.out
  have hg2 := (hk3.block (w.heap.size + 1) (Array.getElem?_eq_some_iff.1 HG2.out).1 (by omega)).trans HG2.out
  have HB3 : Hid (Below w.heap.size w w3) := HB2.out.trans (hk3.below (fun j hj => by omega) HB2.out.size)
  have c0 := cell_of_block hg1 (j := 0) rfl
  have c1 := cell_of_block hg1 (j := 1) rfl
  have c2 := cell_of_block hg1 (j := 2) rfl
  have f0 := frozen_of_block hg1 0
  have f1 := frozen_of_block hg1 1
  have f2 := frozen_of_block hg1 2
  have d0 := cell_of_block hg2 (j := 0) rfl
  have e0 := frozen_of_block hg2 0
  clear hrs hk3 HG1 HG2 HB2 hg1 hg2
  have hB4 := Hid.mk (below4 HB3.out (Nat.le_refl w.heap.size) (show w.heap.size ≤ w.heap.size + 1 by omega) HB3.out.size (.int .i64 ((u32 l 8 : Nat) : Int)) (.int .i64 ((u32 l 12 : Nat) : Int)) (.int .i64 ((u32 l 16 : Nat) : Int)) (.int .i64 0))
  go_wp2
  refine leaves_cons (f := 96) (args := #[.pointer (some ⟨w.heap.size, 0, none⟩), .pointer (some ⟨w.heap.size + 1, 0, none⟩)]) (by simp) (by simp [go_sem]) ?_
  refine (scatch_idle _ _ _).mono ?_
  rintro e u' w'' ⟨rfl, rfl, rfl⟩
  simp [Leaves, settle, results, Try.results54, go_sem, c0, c1, c2, d0]
  exact hB4.out

set_option maxRecDepth 20000 in
set_option maxHeartbeats 4000000 in
theorem decsuper_no1 (b o c : Nat) (l : List Int) (w : World) (hl : l.length = 512) (hc : 512 ≤ c) (hcc : c ≤ 9223372036854775807) (hb : Bytes l) (hs : ∀ i, i < 512 → w.cell? ⟨b, o + i, none⟩ = some (.int .u8 (l.getD i 0))) (h1 : ¬ SumOk l) :
    Calls Try.prog 54 #[.slice (some ⟨b, o, none⟩) 512 c] w fun e w' => e = .returned (.tuple #[.agg #[.int .i64 0, .int .i64 0, .int .i64 0], .int .i64 6]) ∧ Below w.heap.size w w' := by
  have hmf : ∀ (fn : Fn) (first cap : Array Value) (w : World), (Instr.makeFunc fn first cap).run Try.prog w = .ok (.func fn first cap) w := fun _ _ _ _ => rfl
  obtain ⟨w1, hw1⟩ : ∃ w1, w1 = (w.alloc (.cells #[.int .i64 0, .int .i64 0, .int .i64 0] 85)).alloc (.cells #[.int .i64 0] 32) := ⟨_, rfl⟩
  have hB1 : Below w.heap.size w w1 := by rw [hw1]; exact below_two w _ _
  have hsz1 : w1.heap.size = w.heap.size + 2 := by rw [hw1]; simp
  have hg1 : w1.heap[w.heap.size]? = some (.cells #[.int .i64 0, .int .i64 0, .int .i64 0] 85 (0, 0)) := by rw [hw1]; exact heap_alloc2_old _ _ _
  have hg2 : w1.heap[w.heap.size + 1]? = some (.cells #[.int .i64 0] 32 (0, 0)) := by rw [hw1]; exact heap_alloc2_new _ _ _
  have hsm := summed_no b o 512 c l w1 hl (by omega) (by omega) hc hcc hb (fun i hi => cell_later hB1 (hs i hi)) h1
  clear hs h1
  go_enter_defers Try.func54, Try.ntmps54
  go_wp2_with fail
  rw [← hw1]
  clear hw1
  refine hsm.mono ?_
  rintro e w2 ⟨rfl, hb2⟩
  have HB2 : Below w.heap.size w w2 := hB1.trans (hb2.mono hB1.size)
  have HG := Hid.mk (And.intro ((hb2.block w.heap.size (by omega)).trans hg1) ((hb2.block (w.heap.size + 1) (by omega)).trans hg2))
  have hB4 := Hid.mk (below4 HB2 (Nat.le_refl w.heap.size) (show w.heap.size ≤ w.heap.size + 1 by omega) HB2.size (.int .i64 0) (.int .i64 0) (.int .i64 0) (.int .i64 6))
  clear hsm hb2 hB1 hg1 hg2 HB2
  go_wp2
  refine leaves_cons (f := 96) (args := #[.pointer (some ⟨w.heap.size, 0, none⟩), .pointer (some ⟨w.heap.size + 1, 0, none⟩)]) (by simp) (by simp [go_sem]) ?_
  refine (scatch_panic w.heap.size (w.heap.size + 1) _ _ _ _ _ HG.out.1 HG.out.2 (by omega)).mono ?_
  rintro e u' w'' ⟨rfl, rfl, rfl⟩
  have c0 := cell_of_block HG.out.1 (j := 0) rfl
  have c1 := cell_of_block HG.out.1 (j := 1) rfl
  have c2 := cell_of_block HG.out.1 (j := 2) rfl
  have d0 := cell_of_block HG.out.2 (j := 0) rfl
  simp [Leaves, settle, results, Try.results54, go_sem, c0, c1, c2, d0]
  exact hB4.out

set_option maxRecDepth 20000 in
set_option maxHeartbeats 4000000 in
theorem decsuper_no2 (b o c : Nat) (l : List Int) (w : World) (hl : l.length = 512) (hc : 512 ≤ c) (hcc : c ≤ 9223372036854775807) (hb : Bytes l) (hs : ∀ i, i < 512 → w.cell? ⟨b, o + i, none⟩ = some (.int .u8 (l.getD i 0))) (h1 : SumOk l) (h2 : ¬ SupOk (part l 0 508)) :
    Calls Try.prog 54 #[.slice (some ⟨b, o, none⟩) 512 c] w fun e w' => e = .returned (.tuple #[.agg #[.int .i64 0, .int .i64 0, .int .i64 0], .int .i64 6]) ∧ Below w.heap.size w w' := by
  have hmf : ∀ (fn : Fn) (first cap : Array Value) (w : World), (Instr.makeFunc fn first cap).run Try.prog w = .ok (.func fn first cap) w := fun _ _ _ _ => rfl
  obtain ⟨w1, hw1⟩ : ∃ w1, w1 = (w.alloc (.cells #[.int .i64 0, .int .i64 0, .int .i64 0] 85)).alloc (.cells #[.int .i64 0] 32) := ⟨_, rfl⟩
  have hB1 : Below w.heap.size w w1 := by rw [hw1]; exact below_two w _ _
  have hsz1 : w1.heap.size = w.heap.size + 2 := by rw [hw1]; simp
  have hg1 : w1.heap[w.heap.size]? = some (.cells #[.int .i64 0, .int .i64 0, .int .i64 0] 85 (0, 0)) := by rw [hw1]; exact heap_alloc2_old _ _ _
  have hg2 : w1.heap[w.heap.size + 1]? = some (.cells #[.int .i64 0] 32 (0, 0)) := by rw [hw1]; exact heap_alloc2_new _ _ _
  have hsm := summed_ok b o 512 c l w1 hl (by omega) (by omega) hc hcc hb (fun i hi => cell_later hB1 (hs i hi)) h1
  have HOK := Hid.mk h2
  clear hs h1 h2
  go_enter_defers Try.func54, Try.ntmps54
  go_wp2_with fail
  rw [← hw1]
  clear hw1
  refine hsm.mono ?_
  rintro e w2 ⟨p, rfl, hp, hrd, hb2⟩
  have hrs := readsuper_no p b o c (part l 0 508) w2 hrd (part_len (by omega)) HOK.out
  have HB2 : Hid (Below w.heap.size w w2) := hB1.trans (hb2.mono hB1.size)
  have HG1 := Hid.mk ((hb2.block w.heap.size (by omega)).trans hg1)
  have HG2 := Hid.mk ((hb2.block (w.heap.size + 1) (by omega)).trans hg2)
  clear hsm hrd hb2 hB1 hg1 hg2 HOK
  go_wp2_with fail
  refine hrs.mono ?_
  rintro e w3 ⟨rfl, hk3⟩
  have hg1 := (hk3.block w.heap.size (Array.getElem?_eq_some_iff.1 HG1.out).1 (by omega)).trans HG1.out
  have hg2 := (hk3.block (w.heap.size + 1) (Array.getElem?_eq_some_iff.1 HG2.out).1 (by omega)).trans HG2.out
  have HB3 : Hid (Below w.heap.size w w3) := HB2.out.trans (hk3.below (fun j hj => by omega) HB2.out.size)
  have HG := Hid.mk (And.intro hg1 hg2)
  have hB4 := Hid.mk (below4 HB3.out (Nat.le_refl w.heap.size) (show w.heap.size ≤ w.heap.size + 1 by omega) HB3.out.size (.int .i64 0) (.int .i64 0) (.int .i64 0) (.int .i64 6))
  clear hrs hk3 HG1 HG2 HB2 hg1 hg2
  go_wp2
  refine leaves_cons (f := 96) (args := #[.pointer (some ⟨w.heap.size, 0, none⟩), .pointer (some ⟨w.heap.size + 1, 0, none⟩)]) (by simp) (by simp [go_sem]) ?_
  refine (scatch_panic w.heap.size (w.heap.size + 1) _ _ _ _ _ HG.out.1 HG.out.2 (by omega)).mono ?_
  rintro e u' w'' ⟨rfl, rfl, rfl⟩
  have c0 := cell_of_block HG.out.1 (j := 0) rfl
  have c1 := cell_of_block HG.out.1 (j := 1) rfl
  have c2 := cell_of_block HG.out.1 (j := 2) rfl
  have d0 := cell_of_block HG.out.2 (j := 0) rfl
  simp [Leaves, settle, results, Try.results54, go_sem, c0, c1, c2, d0]
  exact hB4.out

theorem decsuper_no (b o c : Nat) (l : List Int) (w : World) (hl : l.length = 512) (hc : 512 ≤ c) (hcc : c ≤ 9223372036854775807) (hb : Bytes l) (hs : ∀ i, i < 512 → w.cell? ⟨b, o + i, none⟩ = some (.int .u8 (l.getD i 0))) (hok : ¬ SuperOk l) :
    Calls Try.prog 54 #[.slice (some ⟨b, o, none⟩) 512 c] w fun e w' => e = .returned (.tuple #[.agg #[.int .i64 0, .int .i64 0, .int .i64 0], .int .i64 6]) ∧ Below w.heap.size w w' := by
  by_cases h1 : SumOk l
  · exact decsuper_no2 b o c l w hl hc hcc hb hs h1 (fun h2 => hok ⟨h1, h2⟩)
  · exact decsuper_no1 b o c l w hl hc hcc hb hs h1
end Go.Proofs.Ytkkmkogpbhcpmaa
