import Derived.Test.YthohoicgidjpfabGreatPDD
import Derived.ProofKit
import Derived.OpenShut
import Derived.ShutString
import Derived.ChangeOld
import Derived.SizedLaws
import Derived.Deep.Slices
namespace Go.Proofs.YthohoicgidjpfabGreat
open Go.ChangeShapes Go.WideShapes Go.ChangeAt Go.RowKit Go.Deep

theorem bytesU8 : Tryz.prog.bytesOf 5 = 1 := by kernel_rfl
theorem cellsU8 : Tryz.prog.cellsOf 5 = 1 := by kernel_rfl
theorem cellsBytes : Tryz.prog.cellsOf 44 = 1 := by kernel_rfl
theorem cellsBool : Tryz.prog.cellsOf 4 = 1 := by kernel_rfl
theorem bytesStep : Tryz.prog.bytesOf 46 = 48 := by kernel_rfl
theorem cellsStep : Tryz.prog.cellsOf 46 = 5 := by kernel_rfl
theorem u8_wf {n : Int} (h : (Lit.int .u8 n).wf = true) : 0 ≤ n ∧ n < 256 := by
  have := h
  simp [Lit.wf, IntKind.min, IntKind.max, IntKind.bits, IntKind.signed] at this
  omega

theorem Src.far {w w' : World} {B : Nat} {a : Option Addr} {n : Nat} {l : List Int} (h : Src w a n l) (hb : Below B w w') (ha : ∀ x, a = some x → 0 < n → x.block < B) : Src w' a n l :=
  ⟨h.1, h.2.1, fun x hx i hi => (World.cell?_of_block (w := w) (by rw [blockOf_add]; exact hb.block _ (ha x hx (by omega)))).trans (h.2.2 x hx i hi)⟩
/-- A script of steps that is only read. -/
def Steps6 (w : World) (B : Nat) (sa : Option Addr) (n : Nat) : Prop :=
  (sa = none → n = 0) ∧ ∀ y, sa = some y → ∀ i, i < n → ∃ b o, y = ⟨b, o, none⟩ ∧ b < B ∧ ∃ (kd N : Int) (who two : Bool) (da : Option Addr) (dn dc : Nat) (dl : List Int), w.cell? ⟨b, o + i * 5, none⟩ = some (.int .i64 kd) ∧ w.cell? ⟨b, o + i * 5 + 1, none⟩ = some (.int .i64 N) ∧ w.cell? ⟨b, o + i * 5 + 2, none⟩ = some (.bool who) ∧ w.cell? ⟨b, o + i * 5 + 3, none⟩ = some (.bool two) ∧ w.cell? ⟨b, o + i * 5 + 4, none⟩ = some (.slice da dn dc) ∧ I64 N ∧ Src w da dn dl ∧ Bytes dl ∧ dn ≤ 140737488355328 ∧ ∀ x, da = some x → 0 < dn → x.block < B
theorem Steps6.far {w w' : World} {B : Nat} {sa : Option Addr} {n : Nat} (h : Steps6 w B sa n) (hb : Below B w w') : Steps6 w' B sa n := by
  refine ⟨h.1, fun y hy i hi => ?_⟩
  obtain ⟨b, o, rfl, hbB, kd, N, who, two, da, dn, dc, dl, c0, c1, c2, c3, c4, h5, h6, h7, h8, h9⟩ := h.2 y hy i hi
  have e := hb.block b hbB
  exact ⟨b, o, rfl, hbB, kd, N, who, two, da, dn, dc, dl, (World.cell?_of_block (w := w) (a := ⟨b, _, none⟩) e).trans c0, (World.cell?_of_block (w := w) (a := ⟨b, _, none⟩) e).trans c1, (World.cell?_of_block (w := w) (a := ⟨b, _, none⟩) e).trans c2, (World.cell?_of_block (w := w) (a := ⟨b, _, none⟩) e).trans c3, (World.cell?_of_block (w := w) (a := ⟨b, _, none⟩) e).trans c4, h5, h6.far hb h9, h7, h8, h9⟩
section
variable {H : Type} {enc : TypeId × Value → H} {W : World} {base : Nat} {spare : Nat → Bool} {held : Bool}

theorem weightsAll_mem {P : Program} {e : TypeId} {n : Nat} : ∀ {ds : List (DataW H)} {d : DataW H}, d ∈ ds → n ∈ d.weights P e → n ∈ DataW.weightsAll P e ds
  | d :: r, d', hd, hn => by
    rw [DataW.weightsAll]
    rcases List.mem_cons.1 hd with rfl | h
    · exact List.mem_append_left _ hn
    · exact List.mem_append_right _ (weightsAll_mem h hn)

theorem trod5 {P : Program} {e : TypeId} {f0 f1 f2 f3 f4 : Field} {n : Nat} {cs : List Value} {x : DataW H × List MemPlace} (he : P.underlying e = some (.struct #[f0, f1, f2, f3, f4])) (ce : P.cellsOf e = 5) (o0 : f0.offset = 0) (o1 : f1.offset = 1) (o2 : f2.offset = 2) (o3 : f3.offset = 3) (o4 : f4.offset = 4)
    (c0 : P.cellsOf f0.type = 1) (c1 : P.cellsOf f1.type = 1) (c2 : P.cellsOf f2.type = 1) (c3 : P.cellsOf f3.type = 1) (c4 : P.cellsOf f4.type = 1) (h : DataW.trod enc P W base spare held n e cs = some x) :
    ∃ v0 v1 v2 v3 v4 y0 y1 y2 y3 y4 k, cs = [v0, v1, v2, v3, v4] ∧ x.1 = .agg [y0.1, y1.1, y2.1, y3.1, y4.1] ∧ DataW.trod enc P W base spare held k f0.type [v0] = some y0 ∧ DataW.trod enc P W base spare held k f1.type [v1] = some y1 ∧ DataW.trod enc P W base spare held k f2.type [v2] = some y2 ∧ DataW.trod enc P W base spare held k f3.type [v3] = some y3 ∧ DataW.trod enc P W base spare held k f4.type [v4] = some y4 ∧ (∀ m ∈ y4.1.weights P f4.type, m ∈ x.1.weights P e) := by
  obtain ⟨xs, k, _, hxy, hlen, hxl, hf⟩ := DataW.trod_struct he h
  rw [ce] at hlen
  match xs, hxl, cs, hlen with
  | [y0, y1, y2, y3, y4], _, [v0, v1, v2, v3, v4], _ =>
    have g0 := hf 0 f0 rfl
    have g1 := hf 1 f1 rfl
    have g2 := hf 2 f2 rfl
    have g3 := hf 3 f3 rfl
    have g4 := hf 4 f4 rfl
    simp [o0, o1, o2, o3, o4, c0, c1, c2, c3, c4] at g0 g1 g2 g3 g4
    have ex : x.1 = .agg [y0.1, y1.1, y2.1, y3.1, y4.1] := by rw [hxy]; rfl
    refine ⟨v0, v1, v2, v3, v4, y0, y1, y2, y3, y4, k, rfl, ex, g0, g1, g2, g3, g4, fun m hm => ?_⟩
    rw [ex]
    simp [DataW.weights, he, DataW.weightsEach, hm]
theorem open_bytes {fuel : Nat} {v : Value} {d : DataW H} {pl : List MemPlace} (h : DataW.trod enc Tryz.prog W base spare held fuel 44 [v] = some (d, pl)) (hw : ∀ n ∈ d.weights Tryz.prog 44, n ≤ reachBytes) :
    ∃ a n c l, v = .slice a n c ∧ Src W a n l ∧ Bytes l ∧ n ≤ c ∧ n ≤ 140737488355328 := by
  rcases open_ints Tryz.underlying44 Tryz.underlying5 cellsU8 h with ⟨hcs, _⟩ | ⟨x, l, c, zs, hcs, _, hl, hm, hz, hd, hcell, hwz⟩
  · simp only [List.cons.injEq, and_true] at hcs
    exact ⟨none, 0, 0, [], hcs, ⟨rfl, fun _ => rfl, fun x hx => by cases hx⟩, (fun x hx => by cases hx), Nat.le_refl _, Nat.zero_le _⟩
  · simp only [List.cons.injEq, and_true] at hcs
    simp only [Prod.mk.injEq] at hd
    obtain ⟨rfl, rfl⟩ := hd
    have hzl : l ≤ zs.length := by rw [hz]; split <;> omega
    have h1 := hw ((((lits IntKind.u8 (zs.take l) : List (DataW H))).length + ((lits IntKind.u8 (zs.drop l) : List (DataW H))).length) * Tryz.prog.bytesOf 5) (by simp [DataW.weights, Tryz.underlying44])
    rw [bytesU8] at h1
    simp only [lits, List.length_map, List.length_take, List.length_drop, reachBytes] at h1
    refine ⟨some x, l, c, zs.take l, hcs, ⟨by simp; omega, (fun h => by cases h), fun y hy i hi => ?_⟩, fun z hz => u8_wf (hwz z (List.mem_of_mem_take hz)), hl, by omega⟩
    cases hy
    rw [hcell i (by omega)]
    simp [List.getD, hi]
theorem open_steps {fuel : Nat} {v : Value} {d : DataW H} {pl : List MemPlace} (h : DataW.trod enc Tryz.prog W base spare held fuel 24 [v] = some (d, pl)) (hw : ∀ n ∈ d.weights Tryz.prog 24, n ≤ reachBytes) :
    ∃ a n c, v = .slice a n c ∧ Steps6 W W.heap.size a n ∧ 48 * n ≤ 140737488355328 := by
  rcases open_slice Tryz.underlying24 h with ⟨hcs, _⟩ | ⟨x, len, cap, m, k, D, Pl, hcs, _, hl, hm, hmm, hd, hx⟩
  · simp only [List.cons.injEq, and_true] at hcs
    exact ⟨none, 0, 0, hcs, ⟨fun _ => rfl, (fun x hx => by cases hx)⟩, Nat.zero_le _⟩
  · simp only [List.cons.injEq, and_true] at hcs
    simp only [Prod.mk.injEq] at hd
    replace hd := hd.1
    subst hd
    have hlm : len ≤ m := by rw [hmm]; split <;> omega
    have h1 := hw ((((List.range len).map D).length + ((List.range (m - len)).map fun j => D (len + j)).length) * Tryz.prog.bytesOf 46) (by simp [DataW.weights, Tryz.underlying24])
    rw [bytesStep] at h1
    simp only [List.length_map, List.length_range, reachBytes] at h1
    rw [cellsStep] at hx
    have hwe : ∀ i, i < len → ∀ n ∈ (D i).weights Tryz.prog 46, n ≤ reachBytes := fun i hi n hn => hw n (by
      simp only [DataW.weights, Tryz.underlying24]
      exact List.mem_cons_of_mem _ (List.mem_append_left _ (weightsAll_mem (List.mem_map.2 ⟨i, List.mem_range.2 hi, rfl⟩) hn)))
    refine ⟨some x, len, cap, hcs, ⟨(fun h => by cases h), fun y hy i hi => ?_⟩, by omega⟩
    cases hy
    obtain ⟨cs', e1, e2⟩ := hx i (by omega)
    obtain ⟨_, hlen, hcell⟩ := World.cells?_some e1
    obtain ⟨v0, v1, v2, v3, v4, y0, y1, y2, y3, y4, k', rfl, _, g0, g1, g2, g3, g4, hwt⟩ := trod5 Tryz.underlying46 cellsStep rfl rfl rfl rfl rfl cellsInt cellsInt cellsBool cellsBool cellsBytes e2
    obtain ⟨a, na, ca, l, rfl, hs, hb, hc, hsn⟩ := open_bytes g4 (fun m hm => hwe i hi m (hwt m hm))
    obtain ⟨n0, q0, _, w0⟩ := DataW.trod_int Tryz.underlying3 g0
    obtain ⟨n1, q1, _, w1⟩ := DataW.trod_int Tryz.underlying3 g1
    obtain ⟨n2, q2, _⟩ := DataW.trod_bool Tryz.underlying4 g2
    obtain ⟨n3, q3, _⟩ := DataW.trod_bool Tryz.underlying4 g3
    simp only [List.cons.injEq, and_true] at q0 q1 q2 q3
    subst q0 q1 q2 q3
    have c0 := hcell 0 (by omega)
    have c1 := hcell 1 (by omega)
    have c2 := hcell 2 (by omega)
    have c3 := hcell 3 (by omega)
    have c4 := hcell 4 (by omega)
    rw [add_add] at c0 c1 c2 c3 c4
    obtain ⟨cs0, z1, z2⟩ := hx 0 (by omega)
    obtain ⟨b0, b1, b2, b3, b4, _, _, _, _, _, _, rfl, _⟩ := trod5 Tryz.underlying46 cellsStep rfl rfl rfl rfl rfl cellsInt cellsInt cellsBool cellsBool cellsBytes z2
    obtain ⟨_, _, zcell⟩ := World.cells?_some z1
    have z0 := zcell 0 (by omega)
    rw [add_add] at z0
    obtain ⟨b, o, spot⟩ := x
    have hspot : spot = none := by simpa [Addr.add] using World.cell?_spot z0
    subst hspot
    rw [addr_add] at c0 c1 c2 c3 c4
    simp at c0 c1 c2 c3 c4
    exact ⟨b, o, rfl, World.block_lt_of_cell? _ _ c0, n0, n1, n2, n3, a, na, ca, l, c0, by simpa [Nat.add_assoc] using c1, by simpa [Nat.add_assoc] using c2, by simpa [Nat.add_assoc] using c3, by simpa [Nat.add_assoc] using c4, int_wf w1, hs, hb, hsn, hs.old⟩
end
end Go.Proofs.YthohoicgidjpfabGreat
