import Derived.Test.YtkgnkdnipcacgaaSD7
import Derived.ProofKit
import Derived.OpenShut
import Derived.ShutString
import Derived.ChangeOld
import Derived.SizedLaws
import Derived.Deep.Slices
namespace Go.Proofs.Ytkgnkdnipcacgaa
open Go.ChangeShapes Go.WideShapes Go.ChangeAt Go.RowKit Go.Deep

theorem bytesPick : Try.prog.bytesOf 50 = 24 := by kernel_rfl
theorem bytesBeat : Try.prog.bytesOf 81 = 64 := by kernel_rfl
theorem cellsPicks : Try.prog.cellsOf 31 = 1 := by kernel_rfl
theorem cellsPick : Try.prog.cellsOf 50 = 3 := by kernel_rfl
theorem cellsBeat : Try.prog.cellsOf 81 = 4 := by kernel_rfl

section
variable {H : Type} {enc : TypeId × Value → H} {W : World} {base : Nat} {spare : Nat → Bool} {held : Bool}

theorem trod4 {P : Program} {e : TypeId} {f0 f1 f2 f3 : Field} {n : Nat} {cs : List Value} {x : DataW H × List MemPlace} (he : P.underlying e = some (.struct #[f0, f1, f2, f3])) (ce : P.cellsOf e = 4) (o0 : f0.offset = 0) (o1 : f1.offset = 1) (o2 : f2.offset = 2) (o3 : f3.offset = 3)
    (c0 : P.cellsOf f0.type = 1) (c1 : P.cellsOf f1.type = 1) (c2 : P.cellsOf f2.type = 1) (c3 : P.cellsOf f3.type = 1) (h : DataW.trod enc P W base spare held n e cs = some x) :
    ∃ v0 v1 v2 v3 y0 y1 y2 y3 k, cs = [v0, v1, v2, v3] ∧ x.1 = .agg [y0.1, y1.1, y2.1, y3.1] ∧ DataW.trod enc P W base spare held k f0.type [v0] = some y0 ∧ DataW.trod enc P W base spare held k f1.type [v1] = some y1 ∧ DataW.trod enc P W base spare held k f2.type [v2] = some y2 ∧ DataW.trod enc P W base spare held k f3.type [v3] = some y3 := by
  obtain ⟨xs, k, _, hxy, hlen, hxl, hf⟩ := DataW.trod_struct he h
  rw [ce] at hlen
  match xs, hxl, cs, hlen with
  | [y0, y1, y2, y3], _, [v0, v1, v2, v3], _ =>
    have g0 := hf 0 f0 rfl
    have g1 := hf 1 f1 rfl
    have g2 := hf 2 f2 rfl
    have g3 := hf 3 f3 rfl
    simp [o0, o1, o2, o3, c0, c1, c2, c3] at g0 g1 g2 g3
    exact ⟨v0, v1, v2, v3, y0, y1, y2, y3, k, rfl, by rw [hxy]; rfl, g0, g1, g2, g3⟩

theorem weights4 {P : Program} {e : TypeId} {f0 f1 f2 f3 : Field} (he : P.underlying e = some (.struct #[f0, f1, f2, f3])) {d0 d1 d2 d3 : DataW H} {n : Nat} (hn : n ∈ d2.weights P f2.type ∨ n ∈ d3.weights P f3.type) : n ∈ (DataW.agg [d0, d1, d2, d3]).weights P e := by
  simp only [DataW.weights, he, List.map, DataW.weightsEach]
  rcases hn with h | h <;> simp [h]

theorem int_le {n : Int} (h : (Lit.int .i64 n).wf = true) : n ≤ 9223372036854775807 := by
  have := h
  simp [Lit.wf] at this
  omega

theorem open_picks {fuel : Nat} {v : Value} {d : DataW H} {pl : List MemPlace} (h : DataW.trod enc Try.prog W base spare held fuel 31 [v] = some (d, pl)) (hw : ∀ n ∈ d.weights Try.prog 31, n ≤ reachBytes) :
    ∃ a n c l, v = .slice a n c ∧ PSrc W a n l ∧ 24 * n ≤ 140737488355328 := by
  rcases open_slice Try.underlying31 h with ⟨hcs, _⟩ | ⟨x, len, cap, m, k, D, Pl, hcs, _, hl, hm, hmm, hd, hx⟩
  · simp only [List.cons.injEq, and_true] at hcs
    exact ⟨none, 0, 0, [], hcs, ⟨rfl, fun _ => rfl, (fun x hx => by cases hx), fun q hq => by cases hq⟩, Nat.zero_le _⟩
  · simp only [List.cons.injEq, and_true] at hcs
    simp only [Prod.mk.injEq] at hd
    replace hd := hd.1
    subst hd
    have hlm : len ≤ m := by rw [hmm]; split <;> omega
    have h1 := hw ((((List.range len).map D).length + ((List.range (m - len)).map fun j => D (len + j)).length) * Try.prog.bytesOf 50) (by simp [DataW.weights, Try.underlying31])
    rw [bytesPick] at h1
    simp only [List.length_map, List.length_range, reachBytes] at h1
    rw [cellsPick] at hx
    have each : ∀ i, i < len → ∃ q : P3, W.cell? (x.add (i * 3)) = some (.int .i64 q.1) ∧ W.cell? (x.add (i * 3 + 1)) = some (.int .i64 q.2.1) ∧ W.cell? (x.add (i * 3 + 2)) = some (.int .i64 q.2.2) ∧ q.1 ≤ 9223372036854775807 ∧ q.2.1 ≤ 9223372036854775807 ∧ q.2.2 ≤ 9223372036854775807 := by
      intro i hi
      obtain ⟨cs', e1, e2⟩ := hx i (by omega)
      obtain ⟨_, hlen, hcell⟩ := World.cells?_some e1
      obtain ⟨v0, v1, v2, y0, y1, y2, k', rfl, _, g0, g1, g2⟩ := trod3 Try.underlying50 cellsPick rfl rfl rfl cellsInt cellsInt cellsInt e2
      obtain ⟨n0, q0, _, w0⟩ := DataW.trod_int Try.underlying3 g0
      obtain ⟨n1, q1, _, w1⟩ := DataW.trod_int Try.underlying3 g1
      obtain ⟨n2, q2, _, w2⟩ := DataW.trod_int Try.underlying3 g2
      simp only [List.cons.injEq, and_true] at q0 q1 q2
      subst q0 q1 q2
      have c0 := hcell 0 (by omega)
      have c1 := hcell 1 (by omega)
      have c2 := hcell 2 (by omega)
      rw [add_add] at c0 c1 c2
      exact ⟨(n0, n1, n2), by simpa using c0, by simpa using c1, by simpa using c2, int_le w0, int_le w1, int_le w2⟩
    obtain ⟨f, hf⟩ := choose_lt each
    refine ⟨some x, len, cap, (List.range len).map f, hcs, ⟨by simp, (fun h => by cases h), fun y hy i hi => ?_, fun q hq => ?_⟩, by omega⟩
    · cases hy
      have hi' : i < len := by simpa using hi
      obtain ⟨a0, a1, a2, _⟩ := hf i hi'
      obtain ⟨z0, _⟩ := hf 0 (by omega)
      obtain ⟨b, o, spot⟩ := x
      have hspot : spot = none := by simpa [Addr.add] using World.cell?_spot z0
      subst hspot
      rw [addr_add] at a0 a1 a2
      exact ⟨b, o, rfl, by simpa using a0, by simpa [Nat.add_assoc] using a1, by simpa [Nat.add_assoc] using a2⟩
    · obtain ⟨i, hi, rfl⟩ := List.mem_map.1 hq
      exact (hf i (List.mem_range.1 hi)).2.2.2

theorem PSrc.old {W : World} {a : Option Addr} {n : Nat} {l : List P3} (h : PSrc W a n l) : ∀ x, a = some x → 0 < n → x.block < W.heap.size := fun x hx hn => by
  obtain ⟨b, o, rfl, h1, _⟩ := h.2.2.1 x hx 0 (by rw [h.1]; exact hn)
  exact World.block_lt_of_cell? _ _ h1

theorem open_beats {fuel : Nat} {v : Value} {d : DataW H} {pl : List MemPlace} (h : DataW.trod enc Try.prog W base spare held fuel 71 [v] = some (d, pl)) (hw : ∀ n ∈ d.weights Try.prog 71, n ≤ reachBytes) :
    ∃ a n c, v = .slice a n c ∧ Beats W W.heap.size a n ∧ 64 * n ≤ 140737488355328 := by
  rcases open_slice Try.underlying71 h with ⟨hcs, _⟩ | ⟨x, len, cap, m, k, D, Pl, hcs, _, hl, hm, hmm, hd, hx⟩
  · simp only [List.cons.injEq, and_true] at hcs
    exact ⟨none, 0, 0, hcs, ⟨fun _ => rfl, (fun x hx => by cases hx)⟩, Nat.zero_le _⟩
  · simp only [List.cons.injEq, and_true] at hcs
    simp only [Prod.mk.injEq] at hd
    replace hd := hd.1
    subst hd
    have hlm : len ≤ m := by rw [hmm]; split <;> omega
    have h1 := hw ((((List.range len).map D).length + ((List.range (m - len)).map fun j => D (len + j)).length) * Try.prog.bytesOf 81) (by simp [DataW.weights, Try.underlying71])
    rw [bytesBeat] at h1
    simp only [List.length_map, List.length_range, reachBytes] at h1
    rw [cellsBeat] at hx
    have hwe : ∀ i, i < len → ∀ n ∈ (D i).weights Try.prog 81, n ≤ reachBytes := fun i hi n hn => hw n (by
      simp only [DataW.weights, Try.underlying71]
      exact List.mem_cons_of_mem _ (List.mem_append_left _ (weightsAll_mem (List.mem_map.2 ⟨i, List.mem_range.2 hi, rfl⟩) hn)))
    refine ⟨some x, len, cap, hcs, ⟨(fun h => by cases h), fun y hy i hi => ?_⟩, by omega⟩
    cases hy
    obtain ⟨cs', e1, e2⟩ := hx i (by omega)
    obtain ⟨_, hlen, hcell⟩ := World.cells?_some e1
    obtain ⟨v0, v1, v2, v3, y0, y1, y2, y3, k', rfl, hxy, g0, g1, g2, g3⟩ := trod4 Try.underlying81 cellsBeat rfl rfl rfl rfl cellsInt cellsInt cellsBytes cellsPicks e2
    have hwi := hwe i hi
    have hxy' : D i = .agg [y0.1, y1.1, y2.1, y3.1] := hxy
    rw [hxy'] at hwi
    obtain ⟨n0, q0, _, w0⟩ := DataW.trod_int Try.underlying3 g0
    obtain ⟨n1, q1, _, w1⟩ := DataW.trod_int Try.underlying3 g1
    obtain ⟨a, na, ca, l, q2, hs, hby, _, hsn⟩ := open_bytes g2 (fun z hz => hwi z (weights4 Try.underlying81 (.inl hz)))
    obtain ⟨pa, pn, pc, pl, q3, hp, hpn⟩ := open_picks g3 (fun z hz => hwi z (weights4 Try.underlying81 (.inr hz)))
    simp only [List.cons.injEq, and_true] at q0 q1
    subst q0 q1 q2 q3
    have c0 := hcell 0 (by omega)
    have c1 := hcell 1 (by omega)
    have c2 := hcell 2 (by omega)
    have c3 := hcell 3 (by omega)
    rw [add_add] at c0 c1 c2 c3
    obtain ⟨cs0, z1, z2⟩ := hx 0 (by omega)
    obtain ⟨u0, u1, u2, u3, _, _, _, _, _, rfl, _⟩ := trod4 Try.underlying81 cellsBeat rfl rfl rfl rfl cellsInt cellsInt cellsBytes cellsPicks z2
    obtain ⟨_, _, zcell⟩ := World.cells?_some z1
    have z0 := zcell 0 (by omega)
    rw [add_add] at z0
    obtain ⟨b, o, spot⟩ := x
    have hspot : spot = none := by simpa [Addr.add] using World.cell?_spot z0
    subst hspot
    rw [addr_add] at c0 c1 c2 c3
    simp at c0 c1 c2 c3
    exact ⟨b, o, rfl, World.block_lt_of_cell? _ _ c0, n0, n1, a, na, ca, pa, pn, pc, l, pl, c0, by simpa [Nat.add_assoc] using c1, by simpa [Nat.add_assoc] using c2, by simpa [Nat.add_assoc] using c3, ⟨int_le w1, hs, hs.old, hsn, hp, hp.old, hpn⟩, hby⟩
end
end Go.Proofs.Ytkgnkdnipcacgaa
