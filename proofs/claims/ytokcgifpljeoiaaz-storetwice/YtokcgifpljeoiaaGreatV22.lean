import Derived.Test.YtokcgifpljeoiaaGreatV03
import Derived.Test.YtokcgifpljeoiaaGreatV21
import Derived.ProofKit
import Derived.OpenShut
import Derived.ChangeOld
import Derived.Deep.Slices
section
namespace Go.Proofs.YtokcgifpljeoiaaGreat
open Go.ChangeShapes Go.WideShapes Go.ChangeAt Go.RowKit Go.Deep

theorem bytesPick : Tryz.prog.bytesOf 111 = 24 := by kernel_rfl
theorem cellsPicks : Tryz.prog.cellsOf 41 = 1 := by kernel_rfl
theorem cellsPick : Tryz.prog.cellsOf 111 = 3 := by kernel_rfl
theorem cellsCut5 : Tryz.prog.cellsOf 43 = 2 := by kernel_rfl
theorem bytesCut5 : Tryz.prog.bytesOf 43 = 32 := by kernel_rfl
theorem int_le {n : Int} (h : (Lit.int .i64 n).wf = true) : n ≤ 9223372036854775807 := by
  have := h
  simp [Lit.wf] at this
  omega
section
variable {H : Type} {enc : TypeId × Value → H} {W : World} {base : Nat} {spare : Nat → Bool} {held : Bool}
theorem open_picks {fuel : Nat} {v : Value} {d : DataW H} {pl : List MemPlace} (h : DataW.trod enc Tryz.prog W base spare held fuel 41 [v] = some (d, pl)) (hw : ∀ n ∈ d.weights Tryz.prog 41, n ≤ reachBytes) :
    ∃ a n c l, v = .slice a n c ∧ PSrc W a n l ∧ 24 * n ≤ 140737488355328 := by
  rcases open_slice Tryz.underlying41 h with ⟨hcs, _⟩ | ⟨x, len, cap, m, k, D, Pl, hcs, _, hl, hm, hmm, hd, hx⟩
  · simp only [List.cons.injEq, and_true] at hcs
    exact ⟨none, 0, 0, [], hcs, ⟨rfl, fun _ => rfl, (fun x hx => by cases hx), fun q hq => by cases hq⟩, Nat.zero_le _⟩
  · simp only [List.cons.injEq, and_true] at hcs
    simp only [Prod.mk.injEq] at hd
    replace hd := hd.1
    subst hd
    have hlm : len ≤ m := by rw [hmm]; split <;> omega
    have h1 := hw ((((List.range len).map D).length + ((List.range (m - len)).map fun j => D (len + j)).length) * Tryz.prog.bytesOf 111) (by simp [DataW.weights, Tryz.underlying41])
    rw [bytesPick] at h1
    simp only [List.length_map, List.length_range, reachBytes] at h1
    rw [cellsPick] at hx
    have each : ∀ i, i < len → ∃ q : P3, W.cell? (x.add (i * 3)) = some (.int .i64 q.1) ∧ W.cell? (x.add (i * 3 + 1)) = some (.int .i64 q.2.1) ∧ W.cell? (x.add (i * 3 + 2)) = some (.int .i64 q.2.2) ∧ q.1 ≤ 9223372036854775807 ∧ q.2.1 ≤ 9223372036854775807 ∧ q.2.2 ≤ 9223372036854775807 := by
      intro i hi
      obtain ⟨cs', e1, e2⟩ := hx i (by omega)
      obtain ⟨_, hlen, hcell⟩ := World.cells?_some e1
      obtain ⟨v0, v1, v2, y0, y1, y2, k', rfl, _, g0, g1, g2⟩ := trod3 Tryz.underlying111 cellsPick rfl rfl rfl cellsInt cellsInt cellsInt e2
      obtain ⟨n0, q0, _, w0⟩ := DataW.trod_int Tryz.underlying3 g0
      obtain ⟨n1, q1, _, w1⟩ := DataW.trod_int Tryz.underlying3 g1
      obtain ⟨n2, q2, _, w2⟩ := DataW.trod_int Tryz.underlying3 g2
      simp only [List.cons.injEq, and_true] at q0 q1 q2
      subst q0 q1 q2
      have c0 := hcell 0 (by omega)
      have c1 := hcell 1 (by omega)
      have c2 := hcell 2 (by omega)
      rw [add_add] at c0 c1 c2
      exact ⟨(n0, n1, n2), by simpa using c0, by simpa using c1, by simpa using c2, int_le w0, int_le w1, int_le w2⟩
    obtain ⟨f, hf⟩ := choose_lt each
    refine ⟨some x, len, cap, (List.range len).map f, hcs, ⟨by simp, (fun h => by cases h), fun y hy i hi => ?_, fun q hq => ?_⟩, by omega⟩
    · cases hy
      have hi' : i < len := by simpa using hi
      obtain ⟨a0, a1, a2, _⟩ := hf i hi'
      obtain ⟨z0, _⟩ := hf 0 (by omega)
      obtain ⟨b, o, spot⟩ := x
      have hspot : spot = none := by simpa [Addr.add] using World.cell?_spot z0
      subst hspot
      rw [addr_add] at a0 a1 a2
      exact ⟨b, o, rfl, by simpa using a0, by simpa [Nat.add_assoc] using a1, by simpa [Nat.add_assoc] using a2⟩
    · obtain ⟨i, hi, rfl⟩ := List.mem_map.1 hq
      exact (hf i (List.mem_range.1 hi)).2.2.2

theorem PSrc.old {W : World} {a : Option Addr} {n : Nat} {l : List P3} (h : PSrc W a n l) : ∀ x, a = some x → 0 < n → x.block < W.heap.size := fun x hx hn => by
  obtain ⟨b, o, rfl, h1, _⟩ := h.2.2.1 x hx 0 (by rw [h.1]; exact hn)
  exact World.block_lt_of_cell? _ _ h1

theorem trodC2 {P : Program} {e : TypeId} {f0 f1 : Field} {n : Nat} {cs : List Value} {x : DataW H × List MemPlace} (he : P.underlying e = some (.struct #[f0, f1])) (ce : P.cellsOf e = 2) (o0 : f0.offset = 0) (o1 : f1.offset = 1)
    (c0 : P.cellsOf f0.type = 1) (c1 : P.cellsOf f1.type = 1) (h : DataW.trod enc P W base spare held n e cs = some x) :
    ∃ v0 v1 y0 y1 k, cs = [v0, v1] ∧ DataW.trod enc P W base spare held k f0.type [v0] = some y0 ∧ DataW.trod enc P W base spare held k f1.type [v1] = some y1 ∧ (∀ m ∈ y1.1.weights P f1.type, m ∈ x.1.weights P e) := by
  obtain ⟨xs, k, _, hxy, hlen, hxl, hf⟩ := DataW.trod_struct he h
  rw [ce] at hlen
  match xs, hxl, cs, hlen with
  | [y0, y1], _, [v0, v1], _ =>
    have g0 := hf 0 f0 rfl
    have g1 := hf 1 f1 rfl
    simp [o0, o1, c0, c1] at g0 g1
    have ex : x.1 = .agg [y0.1, y1.1] := by rw [hxy]; rfl
    refine ⟨v0, v1, y0, y1, k, rfl, g0, g1, fun m hm => ?_⟩
    rw [ex]
    simp [DataW.weights, he, DataW.weightsEach, hm]
theorem open_cuts {fuel : Nat} {v : Value} {d : DataW H} {pl : List MemPlace} (h : DataW.trod enc Tryz.prog W base spare held fuel 23 [v] = some (d, pl)) (hw : ∀ n ∈ d.weights Tryz.prog 23, n ≤ reachBytes) :
    ∃ a n c, v = .slice a n c ∧ CutsIn W W.heap.size a n ∧ n ≤ 140737488355328 := by
  rcases open_slice Tryz.underlying23 h with ⟨hcs, _⟩ | ⟨x, len, cap, m, k, D, Pl, hcs, _, hl, hm, hmm, hd, hx⟩
  · simp only [List.cons.injEq, and_true] at hcs
    exact ⟨none, 0, 0, hcs, ⟨fun _ => rfl, (fun x hx => by cases hx)⟩, Nat.zero_le _⟩
  · simp only [List.cons.injEq, and_true] at hcs
    simp only [Prod.mk.injEq] at hd
    replace hd := hd.1
    subst hd
    have hlm : len ≤ m := by rw [hmm]; split <;> omega
    have h1 := hw ((((List.range len).map D).length + ((List.range (m - len)).map fun j => D (len + j)).length) * Tryz.prog.bytesOf 43) (by simp [DataW.weights, Tryz.underlying23])
    rw [bytesCut5] at h1
    simp only [List.length_map, List.length_range, reachBytes] at h1
    have hlen : len ≤ 140737488355328 := by omega
    rw [cellsCut5] at hx
    have hwe : ∀ i, i < len → ∀ n ∈ (D i).weights Tryz.prog 43, n ≤ reachBytes := fun i hi n hn => hw n (by
      simp only [DataW.weights, Tryz.underlying23]
      exact List.mem_cons_of_mem _ (List.mem_append_left _ (weightsAll_mem (List.mem_map.2 ⟨i, List.mem_range.2 hi, rfl⟩) hn)))
    refine ⟨some x, len, cap, hcs, ⟨(fun h => by cases h), fun y hy i hi => ?_⟩, hlen⟩
    cases hy
    obtain ⟨cs', e1, e2⟩ := hx i (by omega)
    obtain ⟨_, hlen', hcell⟩ := World.cells?_some e1
    obtain ⟨v0, v1, y0, y1, k', rfl, g0, g1, hwt⟩ := trodC2 Tryz.underlying43 cellsCut5 rfl rfl cellsI5 cellsPicks e2
    obtain ⟨n0, q0, _, w0⟩ := DataW.trod_int Tryz.underlying3 g0
    obtain ⟨pa, pn, pc, pl, rfl, hp, hpn⟩ := open_picks g1 (fun m hm => hwe i hi m (hwt m hm))
    simp only [List.cons.injEq, and_true] at q0
    subst q0
    have c0 := hcell 0 (by omega)
    have c1 := hcell 1 (by omega)
    rw [add_add] at c0 c1
    obtain ⟨b, o, spot⟩ := x
    obtain ⟨cs0, z1, z2⟩ := hx 0 (by omega)
    obtain ⟨b0, b1, _, _, _, rfl, _⟩ := trodC2 Tryz.underlying43 cellsCut5 rfl rfl cellsI5 cellsPicks z2
    obtain ⟨_, _, zcell⟩ := World.cells?_some z1
    have z0 := zcell 0 (by omega)
    rw [add_add] at z0
    have hspot : spot = none := by simpa [Addr.add] using World.cell?_spot z0
    subst hspot
    rw [addr_add] at c0 c1
    simp at c0
    have c1' : W.cell? ⟨b, o + i * 2 + 1, none⟩ = some (.slice pa pn pc) := by simpa [Nat.add_assoc] using c1
    exact ⟨b, o, rfl, World.block_lt_of_cell? _ _ c0, n0, pa, pn, pc, pl, c0, c1', by have := int_wf w0; exact ⟨this.1, this.2⟩, hp, hp.old, hpn⟩
end
end Go.Proofs.YtokcgifpljeoiaaGreat
end
