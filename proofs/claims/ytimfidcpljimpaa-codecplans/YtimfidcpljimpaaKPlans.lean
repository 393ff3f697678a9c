import Derived.Test.YtimfidcpljimpaaKRPlan
import Derived.Test.YtimfidcpljimpaaKOpenS
import Derived.Laws.StructEq
namespace Go.Proofs.Ytimfidcpljimpaa
open Go.RowKit

/-- A box of five numbers. -/
def Box5 (w : World) (g : Nat) : Prop := ∃ a0 a1 a2 a3 a4 : Value, w.heap[g]? = some (.cells #[a0, a1, a2, a3, a4] 24 (0, 0))

theorem set5 {w : World} {b : Nat} {t : TypeId} {a0 a1 a2 a3 a4 v0 v1 v2 v3 v4 : Value} (h : w.heap[b]? = some (.cells #[a0, a1, a2, a3, a4] t (0, 0))) :
    (((((w.setCell ⟨b, 0, none⟩ v0).setCell ⟨b, 1, none⟩ v1).setCell ⟨b, 2, none⟩ v2).setCell ⟨b, 3, none⟩ v3).setCell ⟨b, 4, none⟩ v4).heap[b]? = some (.cells #[v0, v1, v2, v3, v4] t (0, 0)) := by
  refine heap_setCell_same _ _ _ _ _ _ (heap_setCell_same _ _ _ _ _ _ (heap_setCell_same _ _ _ _ _ _ (heap_setCell_same _ _ _ _ _ _ (heap_setCell_same _ _ _ _ _ _ h))))
theorem keep5 (w : World) (b : Nat) (v0 v1 v2 v3 v4 : Value) :
    Keeps (fun k => k = b) w (((((w.setCell ⟨b, 0, none⟩ v0).setCell ⟨b, 1, none⟩ v1).setCell ⟨b, 2, none⟩ v2).setCell ⟨b, 3, none⟩ v3).setCell ⟨b, 4, none⟩ v4) := by
  have e : ∀ (w : World) (i : Nat) (v : Value), Keeps (fun k => k = b) w (w.setCell ⟨b, i, none⟩ v) := fun w i v => Keeps.setCell (F := fun k => k = b) w (p := ⟨b, i, none⟩) rfl v
  exact ((((e w 0 v0).trans (e _ 1 v1) (fun _ h => .inl h)).trans (e _ 2 v2) (fun _ h => .inl h)).trans (e _ 3 v3) (fun _ h => .inl h)).trans (e _ 4 v4) (fun _ h => .inl h)
theorem rplan_bad (s l n : Int) (w : World) (h : ¬ Geo s l n) :
    Calls Try.prog 10 #[.agg #[.int .i64 s, .int .i64 l, .int .i64 n]] w fun e w' => e = .returned (.tuple #[.agg #[.int .i64 0, .int .i64 0, .int .i64 0, .int .i64 0, .int .i64 0], .int .i64 22]) ∧ Below w.heap.size w w' := by
  refine (rplan_any s l n w).mono ?_
  rintro e w' ⟨v, x, rfl, ⟨hg, _⟩ | ⟨_, rfl, rfl⟩, hb⟩
  · exact absurd hg h
  · exact ⟨rfl, hb⟩

set_option maxHeartbeats 4000000 in
theorem codecPlans_any (a : Option Addr) (n c : Nat) (w : World) (hs : Supers w w.heap.size a n) (hn : 24 * n ≤ 140737488355328) :
    Calls Try.prog 3 #[.slice a n c] w fun e w' => e = .returned (.bool true) ∧ Below w.heap.size w w' := by
  have h0 := plan_good 25 18 4 w (by decide) (by decide) (by decide) (by decide) (by decide) (by decide) (by decide)
  have Hs := Hid.mk hs
  clear hs
  go_enter Try.func3, Try.ntmps3
  go_wp2_with fail
  refine h0.mono ?_
  rintro e w1 ⟨rfl, hb1⟩
  clear h0
  go_wp2
  go_loopw [5] (fun i wr => ∃ k : Nat, k ≤ n ∧ i = .int .i64 k ∧ Below w.heap.size w wr ∧ w1.heap.size < wr.heap.size ∧ Box5 wr w1.heap.size) (fun i _ => n - (intOf i).toNat)
  case atStart => exact ⟨0, Nat.zero_le _, rfl, hb1.alloc hb1.size _, by simp, _, _, _, _, _, heap_alloc_new _ _⟩
  case round =>
    obtain ⟨k, hk, rfl, hbr, hlt1, a0, a1, a2, a3, a4, hbox⟩ := hrel
    by_cases hlt : k < n
    · have hlt' : (k : Int) < (n : Int) := by omega
      obtain ⟨x, rfl⟩ : ∃ x, a = some x := by
        cases a with
        | none => have := Hs.out.1 rfl; omega
        | some x => exact ⟨x, rfl⟩
      obtain ⟨b, o, rfl, hbB, s, l, m, q0, q1, q2, _⟩ := (Hs.out.far hbr).2 x rfl k hlt
      have hp := plan_any s l m wr
      have HB := Hid.mk hbr
      have HX := Hid.mk hbox
      clear hbr hbox
      go_wp2_with fail
      refine hp.mono ?_
      rintro e w2 ⟨v, x, rfl, hpo, hb2⟩
      have hz := hb1.size
      have q0' := cell_later hb2 q0
      have q1' := cell_later hb2 q1
      have q2' := cell_later hb2 q2
      have hx2 : w2.heap[w1.heap.size]? = some (.cells #[a0, a1, a2, a3, a4] 24 (0, 0)) := (hb2.block _ hlt1).trans HX.out
      have k0 := cell_of_block hx2 (j := 0) rfl
      have k1 := cell_of_block hx2 (j := 1) rfl
      have k2 := cell_of_block hx2 (j := 2) rfl
      have k3 := cell_of_block hx2 (j := 3) rfl
      have k4 := cell_of_block hx2 (j := 4) rfl
      have f0 := frozen_of_block hx2 0
      have f1 := frozen_of_block hx2 1
      have f2 := frozen_of_block hx2 2
      have f3 := frozen_of_block hx2 3
      have f4 := frozen_of_block hx2 4
      have HX2 := Hid.mk hx2
      have HB2 := Hid.mk hb2
      have hbne : ¬ b = w1.heap.size := by omega
      clear hx2 hb2 HX hp q0 q1 q2
      rcases hpo with ⟨hg, rfl, rfl⟩ | ⟨hg, rfl, rfl⟩
      · have hp := fun w => rplan_good s l m w hg.1.1 hg.1.2 hg.2.1.1 hg.2.1.2 hg.2.2.1 hg.2.2.2.1 hg.2.2.2.2
        obtain ⟨w3, hw3⟩ : ∃ w3, w3 = (((((w2.setCell ⟨w1.heap.size, 0, none⟩ (.int .i64 l)).setCell ⟨w1.heap.size, 1, none⟩ (.int .i64 (3 + l))).setCell ⟨w1.heap.size, 2, none⟩ (.int .i64 (s - (3 + l)))).setCell ⟨w1.heap.size, 3, none⟩ (.int .i64 m)).setCell ⟨w1.heap.size, 4, none⟩ (.int .i64 (2 + m / 4))) := ⟨_, rfl⟩
        have hx3 : w3.heap[w1.heap.size]? = some (.cells #[.int .i64 l, .int .i64 (3 + l), .int .i64 (s - (3 + l)), .int .i64 m, .int .i64 (2 + m / 4)] 24 (0, 0)) := by rw [hw3]; exact set5 HX2.out
        have hk3 : Keeps (fun k => k = w1.heap.size) w2 w3 := by rw [hw3]; exact keep5 _ _ _ _ _ _ _
        go_wp2_with fail
        rw [← hw3]
        refine (hp _).mono ?_
        rintro e w4 ⟨rfl, hb4⟩
        have hx4 : w4.heap[w1.heap.size]? = some (.cells #[.int .i64 l, .int .i64 (3 + l), .int .i64 (s - (3 + l)), .int .i64 m, .int .i64 (2 + m / 4)] 24 (0, 0)) := (hb4.block _ (Array.getElem?_eq_some_iff.1 hx3).1).trans hx3
        have j0 := cell_of_block hx4 (j := 0) rfl
        have j1 := cell_of_block hx4 (j := 1) rfl
        have j2 := cell_of_block hx4 (j := 2) rfl
        have j3 := cell_of_block hx4 (j := 3) rfl
        have j4 := cell_of_block hx4 (j := 4) rfl
        have hlt4 : w1.heap.size < w4.heap.size := (Array.getElem?_eq_some_iff.1 hx4).1
        have hne4 : ¬ w1.heap.size = w4.heap.size := by omega
        have HX4 := Hid.mk hx4
        have HB4 : Hid (Below w.heap.size w w4) := ((HB.out.trans (HB2.out.mono HB.out.size)).trans (hk3.below (fun k h => by omega) (by have := HB.out.size; have := HB2.out.size; omega))).trans (hb4.mono (by have := HB.out.size; have := HB2.out.size; have := hk3.size; omega))
        clear hp hw3 hx3 hk3 hb4 hx4 k0 k1 k2 k3 k4 f0 f1 f2 f3 f4 q0' q1' q2'
        go_wp2
        go_roundw
        case rel => exact ⟨k + 1, by omega, by go_num, HB4.out.alloc HB4.out.size _, by simp; omega, _, _, _, _, _, (Below.heap_alloc _ _ _ hlt4).trans HX4.out⟩
        case measure => simp [intOf]; omega
      · have hp := fun w => rplan_bad s l m w hg
        obtain ⟨w3, hw3⟩ : ∃ w3, w3 = (((((w2.setCell ⟨w1.heap.size, 0, none⟩ (.int .i64 0)).setCell ⟨w1.heap.size, 1, none⟩ (.int .i64 0)).setCell ⟨w1.heap.size, 2, none⟩ (.int .i64 0)).setCell ⟨w1.heap.size, 3, none⟩ (.int .i64 0)).setCell ⟨w1.heap.size, 4, none⟩ (.int .i64 0)) := ⟨_, rfl⟩
        have hx3 : w3.heap[w1.heap.size]? = some (.cells #[.int .i64 0, .int .i64 0, .int .i64 0, .int .i64 0, .int .i64 0] 24 (0, 0)) := by rw [hw3]; exact set5 HX2.out
        have hk3 : Keeps (fun k => k = w1.heap.size) w2 w3 := by rw [hw3]; exact keep5 _ _ _ _ _ _ _
        go_wp2_with fail
        rw [← hw3]
        refine (hp _).mono ?_
        rintro e w4 ⟨rfl, hb4⟩
        have hx4 : w4.heap[w1.heap.size]? = some (.cells #[.int .i64 0, .int .i64 0, .int .i64 0, .int .i64 0, .int .i64 0] 24 (0, 0)) := (hb4.block _ (Array.getElem?_eq_some_iff.1 hx3).1).trans hx3
        have j0 := cell_of_block hx4 (j := 0) rfl
        have j1 := cell_of_block hx4 (j := 1) rfl
        have j2 := cell_of_block hx4 (j := 2) rfl
        have j3 := cell_of_block hx4 (j := 3) rfl
        have j4 := cell_of_block hx4 (j := 4) rfl
        have hlt4 : w1.heap.size < w4.heap.size := (Array.getElem?_eq_some_iff.1 hx4).1
        have hne4 : ¬ w1.heap.size = w4.heap.size := by omega
        have HX4 := Hid.mk hx4
        have HB4 : Hid (Below w.heap.size w w4) := ((HB.out.trans (HB2.out.mono HB.out.size)).trans (hk3.below (fun k h => by omega) (by have := HB.out.size; have := HB2.out.size; omega))).trans (hb4.mono (by have := HB.out.size; have := HB2.out.size; have := hk3.size; omega))
        clear hp hw3 hx3 hk3 hb4 hx4 k0 k1 k2 k3 k4 f0 f1 f2 f3 f4 q0' q1' q2'
        go_wp2
        go_roundw
        case rel => exact ⟨k + 1, by omega, by go_num, HB4.out.alloc HB4.out.size _, by simp; omega, _, _, _, _, _, (Below.heap_alloc _ _ _ hlt4).trans HX4.out⟩
        case measure => simp [intOf]; omega
    · have hlt' : ¬ (k : Int) < (n : Int) := by omega
      go_wp2
      go_ret
      exact ⟨rfl, hbr⟩
end Go.Proofs.Ytimfidcpljimpaa
