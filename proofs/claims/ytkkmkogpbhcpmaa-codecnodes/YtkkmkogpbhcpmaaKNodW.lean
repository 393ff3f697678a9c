import Derived.Test.YtkkmkogpbhcpmaaKNodV
import Derived.Test.YtkkmkogpbhcpmaaKEntT
namespace Go.Proofs.Ytkkmkogpbhcpmaa
open Go.RowKit

/-- The empty node's cells. -/
abbrev nl0 : List Value := ndl 0 0 0 0 0 (fun _ => 0)
abbrev nd0 : Value := nd 0 0 0 0 0 (fun _ => 0)
theorem nl_one (k l p s o : Int) (d : Nat → Int) : ∀ v ∈ ndl k l p s o d, v.oneCell' = true := by simp [Value.oneCell']
theorem there_node {w : World} {g : Nat} {cs : Array Value} (h : w.heap[g]? = some (.cells cs 76 (0, 0))) (hc : cs.size = 17) : w.there g 0 17 := by
  intro j hj
  rw [Nat.zero_add]
  exact ⟨by rw [cell_of_block h (j := j) (u := cs[j]'(by omega)) (Array.getElem?_eq_getElem (by omega))]; rfl, frozen_of_block h _⟩
theorem cell_puts {w : World} {g h i : Nat} {v : Value} (hne : g ≠ h) (hv : w.cell? ⟨g, i, none⟩ = some v) (hg : g < w.heap.size) (q : Nat) (vs : List Value) : (w.setCells h q vs).cell? ⟨g, i, none⟩ = some v :=
  (World.cell?_of_block (w := w) (a := ⟨g, i, none⟩) ((Keeps.setCells (F := fun j => j = h) rfl vs q w).block g hg hne)).trans hv
theorem frozen_puts {w : World} {g h i : Nat} {cs : Array Value} {t : TypeId} (hne : g ≠ h) (hb : w.heap[g]? = some (.cells cs t (0, 0))) (q : Nat) (vs : List Value) : (w.setCells h q vs).frozen? ⟨g, i, none⟩ = false :=
  frozen_of_block (((Keeps.setCells (F := fun j => j = h) rfl vs q w).block g (Array.getElem?_eq_some_iff.1 hb).1 hne).trans hb) i
theorem results_cell_err {fn : Func} {p q : Tmp} {ty : TypeId} (h : fn.results = #[.cell p ty, .cell q 32]) (tmps : Array Value) (w : World) (g g2 : Nat) (cs : List Value) (d : TypeDesc) (v : Int)
    (hp : tmps.getD p undef = .pointer (some ⟨g, 0, none⟩)) (hq : tmps.getD q undef = .pointer (some ⟨g2, 0, none⟩)) (hg : w.rangeAt g 0 cs) (hv : w.cell? ⟨g2, 0, none⟩ = some (.int .i64 v)) (hu : Try.prog.underlying ty = some d) (hd : d.isRow = true) (hi : (Try.prog.info? ty).map (·.size) = some cs.length) :
    (results fn tmps).run Try.prog w = .ok (.tuple #[.agg cs.toArray, .int .i64 v]) w := by
  have hp' : tmps[p]?.getD undef = .pointer (some ⟨g, 0, none⟩) := by simpa using hp
  have hq' : tmps[q]?.getD undef = .pointer (some ⟨g2, 0, none⟩) := by simpa using hq
  have h2 : (loadVar 32 ⟨g2, 0, none⟩).run Try.prog w = .ok (.int .i64 v) w := by simp [go_sem, hv]
  simp [results, h, hp', hq', asAddr, run_loadVar_mid w g 0 ty cs d hg hu hd hi, h2]

set_option maxRecDepth 20000 in
set_option maxHeartbeats 4000000 in
theorem ncatch_panic (g1 g2 : Nat) (cs : Array Value) (x : Value) (w : World) (h1 : w.heap[g1]? = some (.cells cs 76 (0, 0))) (hcs : cs.size = 17) (h2 : w.heap[g2]? = some (.cells #[x] 32 (0, 0))) (hne : g1 ≠ g2) :
    CallsD Try.prog 83 #[.pointer (some ⟨g1, 0, none⟩), .pointer (some ⟨g2, 0, none⟩)] (.panicking gaveUp) w fun e u' w' =>
      e = .returned (.tuple #[]) ∧ u' = .panicking [{ v := .iface 32 (.int .i64 6), recovered := true }] ∧ w' = (w.setCells g1 0 nl0).setCell ⟨g2, 0, none⟩ (.int .i64 6) := by
  obtain ⟨F, hF⟩ : ∃ F, F = nl0 := ⟨_, rfl⟩
  rw [← hF]
  have hlen : F.length = 17 := by rw [hF]; rfl
  have hth : w.there g1 0 F.length := by rw [hlen]; exact there_node h1 hcs
  have hall : F.toArray.all (·.oneCell') = true := by rw [hF]; exact all_oneCell_toArray (nl_one 0 0 0 0 0 (fun _ => 0))
  have hinf : (Try.prog.info? 76).map (·.size) = some F.length := by rw [hlen]; exact infoNode
  have d0 := cell_puts (g := g2) (h := g1) (i := 0) (fun e => hne e.symm) (cell_of_block h2 (j := 0) (u := x) rfl) (Array.getElem?_eq_some_iff.1 h2).1 0 F
  have e0 := frozen_puts (g := g2) (h := g1) (i := 0) (fun e => hne e.symm) h2 0 F
  have HF := Hid.mk hF
  clear h1 h2 hF hlen hcs
  refine callsD_of_wpS Try.func83 rfl fun c₀ cs hu => ?_
  apply wpS_seq
  apply wpS_region
  simp [wpOpsS, go_sem, recoverD, hu, Try.ntmps83, Exit.thenS]
  refine wpS_cond (t := true) (by simp [Act.eval, Array.replicate]) ?_
  simp only [if_true]
  refine wpS_of_wp ?_
  have htm : (#[.pointer (some ⟨g1, 0, none⟩), .pointer (some ⟨g2, 0, none⟩)] ++ ((Array.replicate 3 undef).setIfInBounds 0 (Value.iface 32 (Value.int IntKind.i64 6))).setIfInBounds 1 (Value.bool true) : Array Value) = #[.pointer (some ⟨g1, 0, none⟩), .pointer (some ⟨g2, 0, none⟩), .iface 32 (.int .i64 6), .bool true, undef] := rfl
  rw [htm]
  go_wp2_with (refine wpList_store_mid rfl 76 _ _ rfl g1 0 F.toArray rfl (by rw [HF.out]; rfl) ?h1 ?h2 hall ?_)
  case h1 => exact hth
  case h2 => simpa using hinf
  simp [bodyPostS, results, Try.results83]

theorem ncatch_idle (g1 g2 : Nat) (w : World) :
    CallsD Try.prog 83 #[.pointer (some ⟨g1, 0, none⟩), .pointer (some ⟨g2, 0, none⟩)] .returning w fun e u' w' => e = .returned (.tuple #[]) ∧ u' = .returning ∧ w' = w := by
  refine callsD_of_wpS Try.func83 rfl fun c₀ cs hu => ?_
  apply wpS_seq
  apply wpS_region
  simp [wpOpsS, go_sem, recoverD, hu, Try.ntmps83, Exit.thenS]
  refine wpS_cond (t := false) (by simp [Act.eval, Array.replicate]) ?_
  simp only [Bool.false_eq_true, if_false]
  refine wpS_of_wp (wp_skip ?_)
  cases c₀
  simp_all [bodyPostS, results, Try.results83]

/-- Both boxes of DecodeNode. -/
structure Boxes (w w1 : World) : Prop where
  below : Below w.heap.size w w1
  lt : w.heap.size + 2 ≤ w1.heap.size
  node : w1.heap[w.heap.size]? = some (.cells (ndc 0 0 0 0 0 (fun _ => 0)) 76 (0, 0))
  err : w1.heap[w.heap.size + 1]? = some (.cells #[.int .i64 0] 32 (0, 0))
theorem boxes_new (w : World) : Boxes w ((w.alloc (.cells (ndc 0 0 0 0 0 (fun _ => 0)) 76)).alloc (.cells #[.int .i64 0] 32)) :=
  ⟨below_two w _ _, by simp, heap_alloc2_old _ _ _, heap_alloc2_new _ _ _⟩
theorem Boxes.keep {w w1 w2 : World} {p : Nat} (h : Boxes w w1) (hk : Keeps (fun j => j = p) w1 w2) (hp : w.heap.size + 2 ≤ p) : Boxes w w2 :=
  ⟨h.below.trans (hk.below (fun j hj => by omega) h.below.size), Nat.le_trans h.lt hk.size, (hk.block _ (by have := h.lt; omega) (by omega)).trans h.node, (hk.block _ (by have := h.lt; omega) (by omega)).trans h.err⟩
theorem Boxes.far {w w1 w2 : World} (h : Boxes w w1) (hb : Below w1.heap.size w1 w2) : Boxes w w2 :=
  ⟨h.below.trans (hb.mono h.below.size), Nat.le_trans h.lt hb.size, (hb.block _ (by have := h.lt; omega)).trans h.node, (hb.block _ (by have := h.lt; omega)).trans h.err⟩
/-- The answer is laid into both boxes. -/
theorem Boxes.laid {w w1 : World} (h : Boxes w w1) (k l p s o : Int) (d : Nat → Int) (v : Int) :
    ((w1.setCells w.heap.size 0 (ndl k l p s o d)).setCell ⟨w.heap.size + 1, 0, none⟩ (.int .i64 v)).rangeAt w.heap.size 0 (ndl k l p s o d) ∧ ((w1.setCells w.heap.size 0 (ndl k l p s o d)).setCell ⟨w.heap.size + 1, 0, none⟩ (.int .i64 v)).cell? ⟨w.heap.size + 1, 0, none⟩ = some (.int .i64 v) ∧ Below w.heap.size w ((w1.setCells w.heap.size 0 (ndl k l p s o d)).setCell ⟨w.heap.size + 1, 0, none⟩ (.int .i64 v)) := by
  have hth := there_node h.node rfl
  have hlt := h.lt
  have hr := World.rangeAt_setCells_same w1 w.heap.size 0 (ndl k l p s o d) hth
  have hks := Keeps.setCells (F := fun j => j = w.heap.size) rfl (ndl k l p s o d) 0 w1
  have hb2 := (hks.block (w.heap.size + 1) (by omega) (by omega)).trans h.err
  refine ⟨fun j v' hv => ?_, ?_, ?_⟩
  · refine (World.cell?_of_block (w := w1.setCells w.heap.size 0 (ndl k l p s o d)) (a := ⟨w.heap.size, 0 + j, none⟩) (Below.heap_setCell _ _ _ _ (by simp))).trans (hr j v' hv)
  · exact cell_of_block (heap_setCell_same _ _ _ _ _ _ hb2) (j := 0) rfl
  · exact below_put (h.below.trans (hks.below (fun j hj => by omega) h.below.size)) (by omega) (by rw [size_setCells]; omega) _
/-- How DecodeNode leaves: both boxes are written, and read. -/
theorem leave_ok {w w1 : World} (h : Boxes w w1) (k l p s o : Int) (d : Nat → Int) (v : Int) (tmps : Array Value) (R : Ending → World → Prop)
    (h0 : tmps.getD 2 undef = .pointer (some ⟨w.heap.size, 0, none⟩)) (h1 : tmps.getD 3 undef = .pointer (some ⟨w.heap.size + 1, 0, none⟩))
    (hR : ∀ w', Below w.heap.size w w' → R (.returned (.tuple #[nd k l p s o d, .int .i64 v])) w') :
    Leaves Try.prog Try.f45 tmps R [] .returning ((w1.setCells w.heap.size 0 (ndl k l p s o d)).setCell ⟨w.heap.size + 1, 0, none⟩ (.int .i64 v)) := by
  obtain ⟨hr, hc, hb⟩ := h.laid k l p s o d v
  exact ⟨_, results_cell_err (p := 2) (q := 3) (ty := 76) rfl tmps _ w.heap.size (w.heap.size + 1) (ndl k l p s o d) _ v h0 h1 hr hc Try.underlying76 rfl infoNode, hR _ hb⟩
end Go.Proofs.Ytkkmkogpbhcpmaa
