import Derived.Test.YtkgnkdnipcacgaaW05
import Derived.ProofKit
import Derived.OpenShut
import Derived.ShutString
import Derived.ChangeOld
import Derived.SizedLaws
import Derived.Deep.Slices
section
namespace Go.Proofs.Ytkgnkdnipcacgaa
open Go.ChangeShapes Go.WideShapes Go.ChangeAt Go.RowKit Go.Deep

theorem ownKnobs : ownKnob Try.prog.godebug = none := by kernel_rfl
theorem laidOut : laidOutB Try.prog = true := by kernel_rfl
theorem bytesU8 : Try.prog.bytesOf 5 = 1 := by kernel_rfl
theorem bytesPick : Try.prog.bytesOf 50 = 24 := by kernel_rfl
theorem bytesOp : Try.prog.bytesOf 33 = 64 := by kernel_rfl
theorem cellsU8 : Try.prog.cellsOf 5 = 1 := by kernel_rfl
theorem cellsInt : Try.prog.cellsOf 3 = 1 := by kernel_rfl
theorem cellsBytes : Try.prog.cellsOf 22 = 1 := by kernel_rfl
theorem cellsPicks : Try.prog.cellsOf 31 = 1 := by kernel_rfl
theorem cellsPick : Try.prog.cellsOf 50 = 3 := by kernel_rfl
theorem cellsOp : Try.prog.cellsOf 33 = 4 := by kernel_rfl

section
variable {H : Type} {enc : TypeId × Value → H} {W : World} {base : Nat} {spare : Nat → Bool} {held : Bool}

theorem weightsAll_mem {P : Program} {e : TypeId} {n : Nat} : ∀ {ds : List (DataW H)} {d : DataW H}, d ∈ ds → n ∈ d.weights P e → n ∈ DataW.weightsAll P e ds
  | d :: r, d', hd, hn => by
    rw [DataW.weightsAll]
    rcases List.mem_cons.1 hd with rfl | h
    · exact List.mem_append_left _ hn
    · exact List.mem_append_right _ (weightsAll_mem h hn)

theorem trod3 {P : Program} {e : TypeId} {f0 f1 f2 : Field} {n : Nat} {cs : List Value} {x : DataW H × List MemPlace} (he : P.underlying e = some (.struct #[f0, f1, f2])) (ce : P.cellsOf e = 3) (o0 : f0.offset = 0) (o1 : f1.offset = 1) (o2 : f2.offset = 2)
    (c0 : P.cellsOf f0.type = 1) (c1 : P.cellsOf f1.type = 1) (c2 : P.cellsOf f2.type = 1) (h : DataW.trod enc P W base spare held n e cs = some x) :
    ∃ v0 v1 v2 y0 y1 y2 k, cs = [v0, v1, v2] ∧ x.1 = .agg [y0.1, y1.1, y2.1] ∧ DataW.trod enc P W base spare held k f0.type [v0] = some y0 ∧ DataW.trod enc P W base spare held k f1.type [v1] = some y1 ∧ DataW.trod enc P W base spare held k f2.type [v2] = some y2 := by
  obtain ⟨xs, k, _, hxy, hlen, hxl, hf⟩ := DataW.trod_struct he h
  rw [ce] at hlen
  match xs, hxl, cs, hlen with
  | [y0, y1, y2], _, [v0, v1, v2], _ =>
    have g0 := hf 0 f0 rfl
    have g1 := hf 1 f1 rfl
    have g2 := hf 2 f2 rfl
    simp [o0, o1, o2, c0, c1, c2] at g0 g1 g2
    exact ⟨v0, v1, v2, y0, y1, y2, k, rfl, by rw [hxy]; rfl, g0, g1, g2⟩

theorem trod4 {P : Program} {e : TypeId} {f0 f1 f2 f3 : Field} {n : Nat} {cs : List Value} {x : DataW H × List MemPlace} (he : P.underlying e = some (.struct #[f0, f1, f2, f3])) (ce : P.cellsOf e = 4) (o0 : f0.offset = 0) (o1 : f1.offset = 1) (o2 : f2.offset = 2) (o3 : f3.offset = 3)
    (c0 : P.cellsOf f0.type = 1) (c1 : P.cellsOf f1.type = 1) (c2 : P.cellsOf f2.type = 1) (c3 : P.cellsOf f3.type = 1) (h : DataW.trod enc P W base spare held n e cs = some x) :
    ∃ v0 v1 v2 v3 y0 y1 y2 y3 k, cs = [v0, v1, v2, v3] ∧ x.1 = .agg [y0.1, y1.1, y2.1, y3.1] ∧ DataW.trod enc P W base spare held k f0.type [v0] = some y0 ∧ DataW.trod enc P W base spare held k f1.type [v1] = some y1 ∧ DataW.trod enc P W base spare held k f2.type [v2] = some y2 ∧ DataW.trod enc P W base spare held k f3.type [v3] = some y3 := by
  obtain ⟨xs, k, _, hxy, hlen, hxl, hf⟩ := DataW.trod_struct he h
  rw [ce] at hlen
  match xs, hxl, cs, hlen with
  | [y0, y1, y2, y3], _, [v0, v1, v2, v3], _ =>
    have g0 := hf 0 f0 rfl
    have g1 := hf 1 f1 rfl
    have g2 := hf 2 f2 rfl
    have g3 := hf 3 f3 rfl
    simp [o0, o1, o2, o3, c0, c1, c2, c3] at g0 g1 g2 g3
    exact ⟨v0, v1, v2, v3, y0, y1, y2, y3, k, rfl, by rw [hxy]; rfl, g0, g1, g2, g3⟩

theorem weights4 {P : Program} {e : TypeId} {f0 f1 f2 f3 : Field} (he : P.underlying e = some (.struct #[f0, f1, f2, f3])) {d0 d1 d2 d3 : DataW H} {n : Nat} (hn : n ∈ d2.weights P f2.type ∨ n ∈ d3.weights P f3.type) : n ∈ (DataW.agg [d0, d1, d2, d3]).weights P e := by
  simp only [DataW.weights, he, List.map, DataW.weightsEach]
  rcases hn with h | h <;> simp [h]

theorem open_bytes {fuel : Nat} {v : Value} {d : DataW H} {pl : List MemPlace} (h : DataW.trod enc Try.prog W base spare held fuel 22 [v] = some (d, pl)) (hw : ∀ n ∈ d.weights Try.prog 22, n ≤ reachBytes) :
    ∃ a n c l, v = .slice a n c ∧ Src W a n l ∧ n ≤ c ∧ n ≤ 140737488355328 := by
  rcases open_ints Try.underlying22 Try.underlying5 cellsU8 h with ⟨hcs, _⟩ | ⟨x, l, c, zs, hcs, _, hl, hm, hz, hd, hcell, hwz⟩
  · simp only [List.cons.injEq, and_true] at hcs
    exact ⟨none, 0, 0, [], hcs, ⟨rfl, fun _ => rfl, fun x hx => by cases hx⟩, Nat.le_refl _, Nat.zero_le _⟩
  · simp only [List.cons.injEq, and_true] at hcs
    simp only [Prod.mk.injEq] at hd
    obtain ⟨rfl, rfl⟩ := hd
    have hzl : l ≤ zs.length := by rw [hz]; split <;> omega
    have h1 := hw ((((lits IntKind.u8 (zs.take l) : List (DataW H))).length + ((lits IntKind.u8 (zs.drop l) : List (DataW H))).length) * Try.prog.bytesOf 5) (by simp [DataW.weights, Try.underlying22])
    rw [bytesU8] at h1
    simp only [lits, List.length_map, List.length_take, List.length_drop, reachBytes] at h1
    refine ⟨some x, l, c, zs.take l, hcs, ⟨by simp; omega, (fun h => by cases h), fun y hy i hi => ?_⟩, hl, by omega⟩
    cases hy
    rw [hcell i (by omega)]
    simp [List.getD, hi]

theorem int_le {n : Int} (h : (Lit.int .i64 n).wf = true) : n ≤ 9223372036854775807 := by
  have := h
  simp [Lit.wf] at this
  omega

theorem open_picks {fuel : Nat} {v : Value} {d : DataW H} {pl : List MemPlace} (h : DataW.trod enc Try.prog W base spare held fuel 31 [v] = some (d, pl)) (hw : ∀ n ∈ d.weights Try.prog 31, n ≤ reachBytes) :
    ∃ a n c l, v = .slice a n c ∧ PSrc W a n l ∧ 24 * n ≤ 140737488355328 := by
  rcases open_slice Try.underlying31 h with ⟨hcs, _⟩ | ⟨x, len, cap, m, k, D, Pl, hcs, _, hl, hm, hmm, hd, hx⟩
  · simp only [List.cons.injEq, and_true] at hcs
    exact ⟨none, 0, 0, [], hcs, ⟨rfl, fun _ => rfl, (fun x hx => by cases hx), fun q hq => by cases hq⟩, Nat.zero_le _⟩
  · simp only [List.cons.injEq, and_true] at hcs
    simp only [Prod.mk.injEq] at hd
    replace hd := hd.1
    subst hd
    have hlm : len ≤ m := by rw [hmm]; split <;> omega
    have h1 := hw ((((List.range len).map D).length + ((List.range (m - len)).map fun j => D (len + j)).length) * Try.prog.bytesOf 50) (by simp [DataW.weights, Try.underlying31])
    rw [bytesPick] at h1
    simp only [List.length_map, List.length_range, reachBytes] at h1
    rw [cellsPick] at hx
    have each : ∀ i, i < len → ∃ q : P3, W.cell? (x.add (i * 3)) = some (.int .i64 q.1) ∧ W.cell? (x.add (i * 3 + 1)) = some (.int .i64 q.2.1) ∧ W.cell? (x.add (i * 3 + 2)) = some (.int .i64 q.2.2) ∧ q.1 ≤ 9223372036854775807 ∧ q.2.1 ≤ 9223372036854775807 ∧ q.2.2 ≤ 9223372036854775807 := by
      intro i hi
      obtain ⟨cs', e1, e2⟩ := hx i (by omega)
      obtain ⟨_, hlen, hcell⟩ := World.cells?_some e1
      obtain ⟨v0, v1, v2, y0, y1, y2, k', rfl, _, g0, g1, g2⟩ := trod3 Try.underlying50 cellsPick rfl rfl rfl cellsInt cellsInt cellsInt e2
      obtain ⟨n0, q0, _, w0⟩ := DataW.trod_int Try.underlying3 g0
      obtain ⟨n1, q1, _, w1⟩ := DataW.trod_int Try.underlying3 g1
      obtain ⟨n2, q2, _, w2⟩ := DataW.trod_int Try.underlying3 g2
      simp only [List.cons.injEq, and_true] at q0 q1 q2
      subst q0 q1 q2
      have c0 := hcell 0 (by omega)
      have c1 := hcell 1 (by omega)
      have c2 := hcell 2 (by omega)
      rw [add_add] at c0 c1 c2
      exact ⟨(n0, n1, n2), by simpa using c0, by simpa using c1, by simpa using c2, int_le w0, int_le w1, int_le w2⟩
    obtain ⟨f, hf⟩ := choose_lt each
    refine ⟨some x, len, cap, (List.range len).map f, hcs, ⟨by simp, (fun h => by cases h), fun y hy i hi => ?_, fun q hq => ?_⟩, by omega⟩
    · cases hy
      have hi' : i < len := by simpa using hi
      obtain ⟨a0, a1, a2, _⟩ := hf i hi'
      obtain ⟨z0, _⟩ := hf 0 (by omega)
      obtain ⟨b, o, spot⟩ := x
      have hspot : spot = none := by simpa [Addr.add] using World.cell?_spot z0
      subst hspot
      rw [addr_add] at a0 a1 a2
      exact ⟨b, o, rfl, by simpa using a0, by simpa [Nat.add_assoc] using a1, by simpa [Nat.add_assoc] using a2⟩
    · obtain ⟨i, hi, rfl⟩ := List.mem_map.1 hq
      exact (hf i (List.mem_range.1 hi)).2.2.2

theorem Src.old {W : World} {a : Option Addr} {n : Nat} {l : List Int} (h : Src W a n l) : ∀ x, a = some x → 0 < n → x.block < W.heap.size := fun x hx hn => by
  have := World.block_lt_of_cell? _ _ (h.2.2 x hx 0 hn)
  rwa [blockOf_add] at this
theorem PSrc.old {W : World} {a : Option Addr} {n : Nat} {l : List P3} (h : PSrc W a n l) : ∀ x, a = some x → 0 < n → x.block < W.heap.size := fun x hx hn => by
  obtain ⟨b, o, rfl, h1, _⟩ := h.2.2.1 x hx 0 (by rw [h.1]; exact hn)
  exact World.block_lt_of_cell? _ _ h1

theorem open_ops {fuel : Nat} {v : Value} {d : DataW H} {pl : List MemPlace} (h : DataW.trod enc Try.prog W base spare held fuel 23 [v] = some (d, pl)) (hw : ∀ n ∈ d.weights Try.prog 23, n ≤ reachBytes) :
    ∃ a n c, v = .slice a n c ∧ Script W W.heap.size a n ∧ 64 * n ≤ 140737488355328 := by
  rcases open_slice Try.underlying23 h with ⟨hcs, _⟩ | ⟨x, len, cap, m, k, D, Pl, hcs, _, hl, hm, hmm, hd, hx⟩
  · simp only [List.cons.injEq, and_true] at hcs
    exact ⟨none, 0, 0, hcs, ⟨fun _ => rfl, (fun x hx => by cases hx)⟩, Nat.zero_le _⟩
  · simp only [List.cons.injEq, and_true] at hcs
    simp only [Prod.mk.injEq] at hd
    replace hd := hd.1
    subst hd
    have hlm : len ≤ m := by rw [hmm]; split <;> omega
    have h1 := hw ((((List.range len).map D).length + ((List.range (m - len)).map fun j => D (len + j)).length) * Try.prog.bytesOf 33) (by simp [DataW.weights, Try.underlying23])
    rw [bytesOp] at h1
    simp only [List.length_map, List.length_range, reachBytes] at h1
    rw [cellsOp] at hx
    have hwe : ∀ i, i < len → ∀ n ∈ (D i).weights Try.prog 33, n ≤ reachBytes := fun i hi n hn => hw n (by
      simp only [DataW.weights, Try.underlying23]
      exact List.mem_cons_of_mem _ (List.mem_append_left _ (weightsAll_mem (List.mem_map.2 ⟨i, List.mem_range.2 hi, rfl⟩) hn)))
    refine ⟨some x, len, cap, hcs, ⟨(fun h => by cases h), fun y hy i hi => ?_⟩, by omega⟩
    cases hy
    obtain ⟨cs', e1, e2⟩ := hx i (by omega)
    obtain ⟨_, hlen, hcell⟩ := World.cells?_some e1
    obtain ⟨v0, v1, v2, v3, y0, y1, y2, y3, k', rfl, hxy, g0, g1, g2, g3⟩ := trod4 Try.underlying33 cellsOp rfl rfl rfl rfl cellsInt cellsInt cellsBytes cellsPicks e2
    have hwi := hwe i hi
    have hxy' : D i = .agg [y0.1, y1.1, y2.1, y3.1] := hxy
    rw [hxy'] at hwi
    obtain ⟨n0, q0, _, w0⟩ := DataW.trod_int Try.underlying3 g0
    obtain ⟨n1, q1, _, w1⟩ := DataW.trod_int Try.underlying3 g1
    obtain ⟨a, na, ca, l, q2, hs, _, hsn⟩ := open_bytes g2 (fun z hz => hwi z (weights4 Try.underlying33 (.inl hz)))
    obtain ⟨pa, pn, pc, pl, q3, hp, hpn⟩ := open_picks g3 (fun z hz => hwi z (weights4 Try.underlying33 (.inr hz)))
    simp only [List.cons.injEq, and_true] at q0 q1
    subst q0 q1 q2 q3
    have c0 := hcell 0 (by omega)
    have c1 := hcell 1 (by omega)
    have c2 := hcell 2 (by omega)
    have c3 := hcell 3 (by omega)
    rw [add_add] at c0 c1 c2 c3
    obtain ⟨cs0, z1, z2⟩ := hx 0 (by omega)
    obtain ⟨u0, u1, u2, u3, _, _, _, _, _, rfl, _⟩ := trod4 Try.underlying33 cellsOp rfl rfl rfl rfl cellsInt cellsInt cellsBytes cellsPicks z2
    obtain ⟨_, _, zcell⟩ := World.cells?_some z1
    have z0 := zcell 0 (by omega)
    rw [add_add] at z0
    obtain ⟨b, o, spot⟩ := x
    have hspot : spot = none := by simpa [Addr.add] using World.cell?_spot z0
    subst hspot
    rw [addr_add] at c0 c1 c2 c3
    simp at c0 c1 c2 c3
    exact ⟨b, o, rfl, World.block_lt_of_cell? _ _ c0, n0, n1, a, na, ca, pa, pn, pc, l, pl, c0, by simpa [Nat.add_assoc] using c1, by simpa [Nat.add_assoc] using c2, by simpa [Nat.add_assoc] using c3, ⟨int_le w1, hs, hs.old, hsn, hp, hp.old, hpn⟩⟩
end
end Go.Proofs.Ytkgnkdnipcacgaa
end

section
namespace Go.Proofs.Ytkgnkdnipcacgaa
open Go.RowKit Go.Maps

theorem cut_nil {S : DS} {k : Nat} : cutOf S [] k = sec S.im k := by
  unfold cutOf
  split
  · rfl
  · simp [tornBy, pickN, tornOf, DS.cand]
theorem crash_nil_im {S : DS} {s : Nat} (h : S.Ok s) : (S.crash s []).im = S.im := by
  show imOf s (cutOf S []) = S.im
  refine im_ext s (imOf_len s _ (cut_len h [])) h.len (fun k hk => ?_)
  rw [sec_imOf s _ (cut_len h []) k hk, cut_nil]
theorem PSrc.nil (w : World) : PSrc w none 0 [] := ⟨rfl, fun _ => rfl, (fun x hx => by cases hx), fun q hq => by cases hq⟩
theorem now_flat {S : DS} (h : S.puts = []) (k : Nat) : S.now k = sec S.im k := by simp [DS.now, DS.cand, h, pendOf]

/-- A disk on which nothing is pending, not fused, that holds im. -/
def Calm (w : World) (F : Nat → Prop) (p s : Nat) (im : List Int) : Prop := ∃ S, DiskAt w F p s S ∧ S.im = im ∧ S.puts = [] ∧ S.fuse = -1

theorem Calm.keep {w w' : World} {F G : Nat → Prop} {p s : Nat} {im : List Int} (h : Calm w F p s im) (hk : Keeps G w w') (hd : ∀ k, F k → ¬ G k) : Calm w' F p s im := by
  obtain ⟨S, h1, h2⟩ := h
  exact ⟨S, h1.keep hk hd, h2⟩
theorem Calm.read {w : World} {F : Nat → Prop} {p s : Nat} {im : List Int} (h : Calm w F p s im) (k : Nat) (hk : k < s) :
    Calls Try.prog 13 #[.pointer (some ⟨p, 0, none⟩), .int .i64 (k : Int)] w fun e w' => ∃ g c, e = .returned (.tuple #[.slice (some ⟨g, 0, none⟩) 512 c, .int .i64 0]) ∧ w.heap.size ≤ g ∧ Src w' (some ⟨g, 0, none⟩) 512 (sec im k) ∧ Calm w' F p s im ∧ Keeps F w w' := by
  obtain ⟨S, h1, h2, h3, h4⟩ := h
  refine (read_ok h1 k (by rw [h4]; decide) hk (by rw [h3]; simp)).mono ?_
  rintro e w' ⟨g, c, rfl, hg, hr, hd, hke⟩
  have hsr := hr.src
  rw [now_len h1.ok k hk, now_flat h3, h2] at hsr
  exact ⟨g, c, rfl, hg, hsr, ⟨S.read, hd, h2, h3, h4⟩, hke⟩

theorem Calm.image {w : World} {F : Nat → Prop} {p s : Nat} {im : List Int} (h : Calm w F p s im) :
    Calls Try.prog 8 #[.pointer (some ⟨p, 0, none⟩)] w fun e w' => ∃ g c, e = .returned (.slice (some ⟨g, 0, none⟩) (s * 512) c) ∧ RowAt w' 5 g c (bs im) ∧ Below w.heap.size w w' ∧ w.heap.size ≤ g := by
  obtain ⟨S, h1, h2, _⟩ := h
  refine (image_any _ _ _ _ _ h1).mono ?_
  rintro e w' ⟨g, c, rfl, hg, hr, hb⟩
  rw [h2] at hr
  exact ⟨g, c, rfl, hr, hb, hg⟩

/-- The two disks, and the image that was told. -/
structure Re (w0 w : World) (F F' : Nat → Prop) (p p' s g c : Nat) (im : List Int) : Prop where
  one : Calm w F p s im
  two : Calm w F' p' s im
  src : Src w (some ⟨g, 0, none⟩) (s * 512) im
  bel : Below w0.heap.size w0 w

structure Sets (w0 : World) (F F' : Nat → Prop) (g : Nat) : Prop where
  dis : ∀ k, F k → ¬ F' k
  lo : ∀ k, F k → w0.heap.size ≤ k
  lo' : ∀ k, F' k → w0.heap.size ≤ k
  ng : ¬ F g
  ng' : ¬ F' g

theorem Src.keepsG {w w' : World} {g n : Nat} {l : List Int} {F : Nat → Prop} (h : Src w (some ⟨g, 0, none⟩) n l) (hk : Keeps F w w') (hg : ¬ F g) : Src w' (some ⟨g, 0, none⟩) n l :=
  ⟨h.1, h.2.1, fun x hx i hi => by
    have h1 := h.2.2 x hx i hi
    have hb := World.block_lt_of_cell? _ _ h1
    refine (World.cell?_of_block (w := w) (hk.block _ hb (fun hf => ?_))).trans h1
    cases hx
    rw [addr_add] at hf
    exact hg hf⟩

theorem Re.readTwo {w0 w : World} {F F' : Nat → Prop} {p p' s g c : Nat} {im : List Int} (h : Re w0 w F F' p p' s g c im) (hs : Sets w0 F F' g) (k : Nat) (hk : k < s) :
    Calls Try.prog 13 #[.pointer (some ⟨p', 0, none⟩), .int .i64 (k : Int)] w fun e w' => ∃ g1 c1, e = .returned (.tuple #[.slice (some ⟨g1, 0, none⟩) 512 c1, .int .i64 0]) ∧ w.heap.size ≤ g1 ∧ Src w' (some ⟨g1, 0, none⟩) 512 (sec im k) ∧ Re w0 w' F F' p p' s g c im ∧ ∀ j, F j → j < w.heap.size := by
  obtain ⟨S, hS, _⟩ := h.one
  refine (h.two.read k hk).mono ?_
  rintro e w' ⟨g1, c1, rfl, hg, hsr, hc, hke⟩
  exact ⟨g1, c1, rfl, hg, hsr, ⟨h.one.keep hke (fun j hf hf' => hs.dis j hf hf'), hc, h.src.keepsG hke hs.ng', h.bel.trans (hke.below hs.lo' h.bel.size)⟩, hS.lt⟩
theorem Re.readOne {w0 w : World} {F F' : Nat → Prop} {p p' s g c : Nat} {im : List Int} (h : Re w0 w F F' p p' s g c im) (hs : Sets w0 F F' g) (k : Nat) (hk : k < s) :
    Calls Try.prog 13 #[.pointer (some ⟨p, 0, none⟩), .int .i64 (k : Int)] w fun e w' => ∃ g1 c1, e = .returned (.tuple #[.slice (some ⟨g1, 0, none⟩) 512 c1, .int .i64 0]) ∧ w.heap.size ≤ g1 ∧ Src w' (some ⟨g1, 0, none⟩) 512 (sec im k) ∧ Re w0 w' F F' p p' s g c im ∧ Keeps F w w' := by
  refine (h.one.read k hk).mono ?_
  rintro e w' ⟨g1, c1, rfl, hg, hsr, hc, hke⟩
  exact ⟨g1, c1, rfl, hg, hsr, ⟨hc, h.two.keep hke (fun j hf' hf => hs.dis j hf hf'), h.src.keepsG hke hs.ng, h.bel.trans (hke.below hs.lo h.bel.size)⟩, hke⟩
theorem Re.later {w0 w w' : World} {F F' : Nat → Prop} {p p' s g c : Nat} {im : List Int} (h : Re w0 w F F' p p' s g c im) (hb : Below w.heap.size w w') : Re w0 w' F F' p p' s g c im :=
  ⟨h.one.keep (Keeps.of_below (fun _ => False) hb) (fun _ _ h => h), h.two.keep (Keeps.of_below (fun _ => False) hb) (fun _ _ h => h), h.src.later hb, h.bel.trans (hb.mono h.bel.size)⟩

end Go.Proofs.Ytkgnkdnipcacgaa
end

section
namespace Go.Proofs.Ytkgnkdnipcacgaa
open Go.RowKit Go.Maps

def secOf (l : List Int) : List Int := splice (List.replicate 512 0) 0 (l.take 512)
theorem secOf_len (l : List Int) : (secOf l).length = 512 := by
  simp only [secOf, splice, List.length_append, List.length_take, List.length_drop, List.length_replicate]
  omega

set_option maxHeartbeats 2000000 in
theorem sector_any (a : Option Addr) (n c : Nat) (l : List Int) (w : World) (hs : Src w a n l) :
    Calls Try.prog 18 #[.slice a n c] w fun e w' => ∃ g, e = .returned (.slice (some ⟨g, 0, none⟩) 512 512) ∧ w.heap.size ≤ g ∧ Src w' (some ⟨g, 0, none⟩) 512 (secOf l) ∧ Below w.heap.size w w' := by
  obtain ⟨i0, hi, hz0, hz1, hz2⟩ := info_parts infoU8
  have H := Hid.mk hs
  clear hs
  go_enter Try.func18, Try.ntmps18
  go_wp2_with (at_make; refine wpList_make_full _ rfl _ _ 22 rfl w.heap.size 5 i0 (.int .u8 0) 1 Try.underlying22 hi hz0 hz1 _ _ _ _ 512 rfl rfl (by omega) (by omega) (by rw [hz2]; omega) (by unfold maxLen; omega) (Nat.le_refl _) ?_)
  intro w1 hown hgrow
  have hr := made_row (n := 512) hown
  have hb : Below w.heap.size w w1 := (Below.refl _ w).grown hgrow (Nat.le_refl _) (by intro k hk; cases hk)
  have hf := hr.full (by simp only [bs, List.length_map, List.length_replicate])
  have hs1 := H.out.later hb
  clear hown hgrow
  obtain ⟨w2, hrun, hh, hk, _⟩ := copy_run w1 3 (some ⟨w.heap.size, 0, none⟩) w.heap.size 0 512 512 a n c (bs (List.replicate 512 0)) l hf hs1 (fun _ => rfl) (by simp only [bs, List.length_map, List.length_replicate]; omega)
  have hb2 : Below w.heap.size w w2 := hb.trans (hk.below (fun k h => by omega) hb.size)
  have hr2 : Src w2 (some ⟨w.heap.size, 0, none⟩) 512 (secOf l) := by
    have e : splice (bs (List.replicate 512 0)) 0 (bs (l.take 512)) = bs (secOf l) := by
      simp only [splice, bs, secOf, List.map_append, List.map_take, List.map_drop, List.length_take, List.length_map]
    rw [e] at hh
    have := (RowAt.of_full hh (by simp [bs, maxLen, secOf_len])).src
    rwa [secOf_len] at this
  clear hh hf hr hs1 hb hk
  go_wp2
  go_ret
  exact ⟨w.heap.size, rfl, Nat.le_refl _, hr2, hb2⟩

theorem now_put (S : DS) (k : Nat) (l : List Int) : (S.put k l).now k = l := by
  have e : pendOf (S.put k l).puts k = pendOf S.puts k ++ [l] := by simp [DS.put, pendOf]
  simp [DS.now, DS.cand, e]

/-- A disk and what has been told since w0. -/
structure Dk (w0 w : World) (F : Nat → Prop) (p s : Nat) (S : DS) : Prop where
  d : DiskAt w F p s S
  lo : ∀ k, F k → w0.heap.size ≤ k
  bel : Below w0.heap.size w0 w

theorem Dk.step {w0 w w' : World} {F : Nat → Prop} {p s : Nat} {S S' : DS} (h : Dk w0 w F p s S) (hd : DiskAt w' (more F w w') p s S') (hk : Keeps F w w') : Dk w0 w' (more F w w') p s S' :=
  ⟨hd, fun k hk' => by rcases hk' with h1 | h1; exact h.lo k h1; have := h.bel.size; omega, h.bel.trans (hk.below h.lo h.bel.size)⟩
theorem Dk.same {w0 w w' : World} {F : Nat → Prop} {p s : Nat} {S S' : DS} (h : Dk w0 w F p s S) (hd : DiskAt w' F p s S') (hk : Keeps F w w') : Dk w0 w' F p s S' :=
  ⟨hd, h.lo, h.bel.trans (hk.below h.lo h.bel.size)⟩
theorem Dk.later {w0 w w' : World} {F : Nat → Prop} {p s : Nat} {S : DS} (h : Dk w0 w F p s S) (hb : Below w.heap.size w w') : Dk w0 w' F p s S :=
  ⟨h.d.keep (Keeps.of_below (fun _ => False) hb) (fun _ _ h => h), h.lo, h.bel.trans (hb.mono h.bel.size)⟩

/-- A list of bytes of the caller's own. -/
structure Own (w : World) (F : Nat → Prop) (g n : Nat) (l : List Int) : Prop where
  src : Src w (some ⟨g, 0, none⟩) n l
  lt : g < w.heap.size
  nf : ¬ F g
theorem Own.keeps {w w' : World} {F : Nat → Prop} {g n : Nat} {l : List Int} (h : Own w F g n l) (hk : Keeps F w w') : Own w' F g n l := ⟨h.src.keepsG hk h.nf, Nat.lt_of_lt_of_le h.lt hk.size, h.nf⟩
theorem Own.more {w w' : World} {F : Nat → Prop} {g n : Nat} {l : List Int} (h : Own w F g n l) (hk : Keeps F w w') : Own w' (more F w w') g n l := ⟨h.src.keepsG hk h.nf, Nat.lt_of_lt_of_le h.lt hk.size, fun hm => by rcases hm with h1 | h1; exact h.nf h1; have := h.lt; omega⟩
theorem Own.later {w w' : World} {F : Nat → Prop} {g n : Nat} {l : List Int} (h : Own w F g n l) (hb : Below w.heap.size w w') : Own w' F g n l := ⟨h.src.later hb, Nat.lt_of_lt_of_le h.lt hb.size, h.nf⟩
theorem Own.new {w0 w w' : World} {F : Nat → Prop} {p s : Nat} {S : DS} {g n : Nat} {l : List Int} (h : Dk w0 w F p s S) (hs : Src w' (some ⟨g, 0, none⟩) n l) (hn : 0 < n) (hg : w.heap.size ≤ g) : Own w' F g n l :=
  ⟨hs, by have := World.block_lt_of_cell? _ _ (hs.2.2 _ rfl 0 hn); rw [addr_add] at this; exact this, fun hf => by have := h.d.lt g hf; omega⟩

theorem flush_im {S : DS} {s : Nat} (h : S.Ok s) {k : Nat} (hk : k < s) : sec (S.flush s).im k = S.now k := sec_imOf s _ (now_len h) k hk
theorem crash_flat {S : DS} {s : Nat} (h : S.Ok s) (hp : S.puts = []) (pl : List P3) : (S.crash s pl).im = S.im := by
  show imOf s (cutOf S pl) = S.im
  refine im_ext s (imOf_len s _ (cut_len h pl)) h.len (fun k hk => ?_)
  rw [sec_imOf s _ (cut_len h pl) k hk]
  simp [cutOf, hp, pendOf]

/-- Behind the script: the disk has power, and no fuse. -/
theorem lay_off (S : DS) (hf : S.fuse ≠ 0) : (S.lay (-1)).fuse = -1 := by simp [DS.lay, hf]
theorem spend_off {S : DS} (h : S.fuse = -1) : S.spend.fuse = -1 := by simp [DS.spend, h]

end Go.Proofs.Ytkgnkdnipcacgaa
end

section
namespace Go.Proofs.Ytkgnkdnipcacgaa
open Go.RowKit Go.Maps

/-- The sectors of an image, as slices of it. -/
def cutsOf (g c : Nat) (j : Nat) : List Value := (List.range j).map fun k => .slice (some ⟨g, k * 512, none⟩) 512 (c - k * 512)

theorem cutsOf_succ (g c j : Nat) : cutsOf g c j ++ [.slice (some ⟨g, j * 512, none⟩) 512 (c - j * 512)] = cutsOf g c (j + 1) := by
  simp [cutsOf, List.range_succ]
theorem cutsOf_len (g c j : Nat) : (cutsOf g c j).length = j := by simp [cutsOf]

set_option maxHeartbeats 4000000 in
theorem cut_any (g c s : Nat) (w : World) (hc : s * 512 ≤ c) (h1 : 1 ≤ s) (h2 : s ≤ 2048) :
    Calls Try.prog 9 #[.slice (some ⟨g, 0, none⟩) (s * 512) c] w fun e w' => ∃ q cq, e = .returned (.slice (some ⟨q, 0, none⟩) s cq) ∧ w.heap.size ≤ q ∧ RowAt w' 22 q cq (cutsOf g c s) ∧ Below w.heap.size w w' := by
  obtain ⟨i0, hi0, hz0, hz1, hz2⟩ := info_parts infoRow
  obtain ⟨n, hn⟩ : ∃ n, n = s * 512 := ⟨_, rfl⟩
  rw [← hn]
  have Hn := Hid.mk hn
  rw [← hn] at hc
  have hn20 : n ≤ 1048576 := by omega
  clear hn
  go_enter Try.func9, Try.ntmps9
  go_wp2
  go_loopw [3, 4] (fun v i wr => ∃ j : Nat, j ≤ s ∧ i = .int .i64 ((j * 512 : Nat) : Int) ∧ wr.ownsRow w.heap.size 22 1 v j (cutsOf g c j) ∧ Below w.heap.size w wr) (fun _ i _ => n - (intOf i).toNat)
  case atStart => exact ⟨0, Nat.zero_le _, rfl, World.ownsRow_nil _ _ _ _, Below.refl _ _⟩
  case round =>
    obtain ⟨j, hj, rfl, hown, hb⟩ := hrel
    obtain ⟨m, hm⟩ : ∃ m : Nat, m = j * 512 := ⟨_, rfl⟩
    obtain ⟨m2, hm2⟩ : ∃ m2 : Nat, m2 = m + 512 := ⟨_, rfl⟩
    rw [← hm]
    have x2 : IntKind.i64.wrap ((m : Int) + 512) = (m2 : Int) := by have := Hn.out; rw [IntKind.wrap_i64]; all_goals omega
    have x3 : wrap64 ((m : Int) + 512) = (m2 : Int) := by have := Hn.out; unfold wrap64; omega
    by_cases hlt : j < s
    · have hnn := Hn.out
      have y1 : (m2 : Int) ≤ (n : Int) := by omega
      have y2 : (m2 : Int) ≤ (c : Int) := by omega
      have y3 : m ≤ m2 := by omega
      have y4 : ¬ c = m := by omega
      have y5 : m2 - m = 512 := by omega
      have hwz := hb.size
      have hms : m2 = (j + 1) * 512 := by omega
      have Hms := Hid.mk hms
      have Hm := Hid.mk hm
      have hnew := cutsOf_succ g c j
      rw [← hm] at hnew
      have Hnew := Hid.mk hnew
      have Hown := Hid.mk hown
      obtain ⟨av, cv, hv⟩ : ∃ a c, u3 = .slice a j c := by
        obtain ⟨_, ⟨e, hn⟩ | ⟨g, cap, cur, e, _⟩⟩ := hown
        · exact ⟨none, 0, by rw [e, hn]⟩
        · exact ⟨_, _, e⟩
      subst hv
      clear hown hnn hms hm hm2 hnew
      go_wp2_with (at_builtin; refine wpList_append_own _ rfl _ _ 28 rfl w.heap.size 22 i0 (.slice none 0 0) 1 24 Try.underlying28 hi0 hz0 hz1 hz2 rfl (by decide) _ _ _ rfl (Hown.out.alloc _) ⟨wr.heap.size, 0, none⟩ 1 1 [.slice (some ⟨g, m, none⟩) 512 (c - m)] rfl rfl ?qa (by intro u hu; simp at hu; subst hu; rfl) (by unfold maxLen; omega) (by omega) (by simp; omega) ?_)
      case qa => first | exact cell_one_new _ _ _ | (simp only [Nat.zero_add]; exact cell_one_new _ _ _)
      intro v' w3 hown' hgrow hnil
      have hb3 : Below w.heap.size w w3 := (hb.alloc hwz _).grown hgrow (by simp; omega) (fun k e => (Hown.out.lt k e).1)
      have hown3 : w3.ownsRow w.heap.size 22 1 v' (j + 1) (cutsOf g c (j + 1)) := by rw [← Hnew.out]; exact hown'
      have Hz := Hid.mk (And.intro hown3 hb3)
      have hmn : m < n := by omega
      clear hown' hgrow hnil hown3 hb3 Hown Hnew hb
      go_wp2
      go_roundw
      case rel => exact ⟨j + 1, by omega, by rw [← Hms.out], Hz.out⟩
      case measure => simp [intOf]; omega
    · have y1 : ¬ (m2 : Int) ≤ (n : Int) := by have := Hn.out; omega
      have ej : j = s := by omega
      subst ej
      obtain ⟨g2, cap2, hv, hg2, hr2, _⟩ := RowAt.of_owns hown (by rintro rfl; rcases hown.2 with ⟨_, h⟩ | ⟨_, _, _, h, _⟩; omega; cases h)
      have Hq := Hid.mk (And.intro hg2 (And.intro hr2 hb))
      subst hv
      clear hown hr2 hb hg2 hm hm2
      go_wp2
      go_ret
      exact ⟨_, _, rfl, Hq.out⟩
end Go.Proofs.Ytkgnkdnipcacgaa
end

section
namespace Go.Proofs.Ytkgnkdnipcacgaa
open Go.RowKit Go.Maps

/-- A list of sectors that the law holds: what each reads as. -/
structure NowAt (w : World) (F : Nat → Prop) (q cq s : Nat) (f : Nat → List Int) : Prop where
  nf : ¬ F q
  r : ∃ vs, RowAt w 22 q cq vs ∧ vs.length = s ∧ ∀ k, k < s → ∃ a c, vs[k]? = some (.slice a 512 c) ∧ Src w a 512 (f k) ∧ ∀ y, a = some y → ¬ F y.block ∧ y.block ≠ q

theorem RowAt.put {w : World} {e : TypeId} {g c : Nat} {xs : List Value} (h : RowAt w e g c xs) (k : Nat) (v : Value) : RowAt (w.setCell ⟨g, k, none⟩ v) e g c (xs.set k v) := by
  obtain ⟨cur, hb, hc, ht, hm⟩ := h
  refine ⟨cur.setIfInBounds k v, heap_setCell_same _ _ k _ _ _ hb, by simpa using hc, ?_, hm⟩
  rw [List.length_set, Array.toList_setIfInBounds, List.take_set, ht]

section
variable {w w' : World} {F : Nat → Prop} {q cq s : Nat} {f f' : Nat → List Int}

theorem Src.there {a : Option Addr} {n : Nat} {l : List Int} (h : Src w a n l) (hn : 0 < n) {y : Addr} (e : a = some y) : y.block < w.heap.size := by
  have h0 := h.2.2 y e 0 hn
  have hb : (y.add 0).block = y.block := by unfold Addr.add; split <;> rfl
  rw [← hb]
  exact World.block_lt_of_cell? _ _ h0
theorem Src.aside {a : Option Addr} {n : Nat} {l : List Int} (h : Src w a n l) (hk : Keeps F w w') (ha : ∀ y, a = some y → 0 < n → ¬ F y.block) : Src w' a n l :=
  ⟨h.1, h.2.1, fun x hx i hi => by
    have h0 := h.2.2 x hx i hi
    have hb : (x.add i).block = x.block := by unfold Addr.add; split <;> rfl
    rw [World.cell?_of_block (w := w) (hk.block _ (World.block_lt_of_cell? _ _ h0) (fun hf => by rw [hb] at hf; exact ha x hx (by omega) hf))]
    exact h0⟩
theorem NowAt.lt (h : NowAt w F q cq s f) : q < w.heap.size := by
  obtain ⟨vs, h1, _⟩ := h.r
  exact h1.lt
theorem NowAt.more (h : NowAt w F q cq s f) (hk : Keeps F w w') (hf : ∀ k, k < s → f' k = f k) : NowAt w' (more F w w') q cq s f' := by
  have hq := h.lt
  obtain ⟨vs, h1, h2, h3⟩ := h.r
  refine ⟨fun hm => ?_, vs, h1.agree (hk.block q hq h.nf), h2, fun k hk' => ?_⟩
  · rcases hm with hm | hm
    · exact h.nf hm
    · omega
  · obtain ⟨a, c, e1, e2, e3⟩ := h3 k hk'
    refine ⟨a, c, e1, ?_, fun y e => ⟨fun hm => ?_, (e3 y e).2⟩⟩
    · rw [hf k hk']
      exact e2.aside hk (fun y e _ => (e3 y e).1)
    · have := e2.there (by omega) e
      rcases hm with hm | hm
      · exact (e3 y e).1 hm
      · omega
theorem NowAt.same (h : NowAt w F q cq s f) (hk : Keeps F w w') (hf : ∀ k, k < s → f' k = f k) : NowAt w' F q cq s f' := by
  have hq := h.lt
  obtain ⟨vs, h1, h2, h3⟩ := h.r
  refine ⟨h.nf, vs, h1.agree (hk.block q hq h.nf), h2, fun k hk' => ?_⟩
  obtain ⟨a, c, e1, e2, e3⟩ := h3 k hk'
  exact ⟨a, c, e1, by rw [hf k hk']; exact e2.aside hk (fun y e _ => (e3 y e).1), e3⟩
theorem NowAt.later (h : NowAt w F q cq s f) (hb : Below w.heap.size w w') : NowAt w' F q cq s f := h.same (Keeps.of_below F hb) (fun _ _ => rfl)
theorem NowAt.at (h : NowAt w F q cq s f) {k : Nat} (hk : k < s) : ∃ a c, w.cell? ⟨q, k, none⟩ = some (.slice a 512 c) ∧ Src w a 512 (f k) := by
  obtain ⟨vs, h1, h2, h3⟩ := h.r
  obtain ⟨a, c, e1, e2, _⟩ := h3 k hk
  exact ⟨a, c, h1.cell e1, e2⟩
theorem NowAt.cap (h : NowAt w F q cq s f) : s ≤ cq := by
  obtain ⟨vs, h1, h2, _⟩ := h.r
  rw [← h2]
  exact h1.le
/-- A sector's list is another one. -/
theorem NowAt.set (h : NowAt w F q cq s f) {k : Nat} (hk : k < s) {a : Option Addr} {c : Nat} {l : List Int} (hs : Src w a 512 l) (ha : ∀ y, a = some y → ¬ F y.block ∧ y.block ≠ q) (hf : ∀ j, j < s → f' j = if j = k then l else f j) : NowAt (w.setCell ⟨q, k, none⟩ (.slice a 512 c)) F q cq s f' := by
  obtain ⟨vs, h1, h2, h3⟩ := h.r
  have hks : Keeps (fun j => j = q) w (w.setCell ⟨q, k, none⟩ (.slice a 512 c)) := Keeps.setCell (F := fun j => j = q) w (p := ⟨q, k, none⟩) rfl _
  refine ⟨h.nf, vs.set k (.slice a 512 c), h1.put k _, by rw [List.length_set]; exact h2, fun j hj => ?_⟩
  by_cases e : j = k
  · subst e
    exact ⟨a, c, by rw [List.getElem?_set_self (by omega)], by rw [hf j hj, if_pos rfl]; exact hs.aside hks (fun y e _ => (ha y e).2), ha⟩
  · obtain ⟨a', c', e1, e2, e3⟩ := h3 j hj
    exact ⟨a', c', by rw [List.getElem?_set_ne (fun h => e h.symm)]; exact e1, by rw [hf j hj, if_neg e]; exact e2.aside hks (fun y e _ => (e3 y e).2), e3⟩
end

theorem act_now {S : DS} {s : Nat} (hok : S.Ok s) {kind x : Int} {n : Nat} {l : List Int} {pl : List P3} (h1 : kind ≠ 1) (h2 : kind ≠ 2) (h6 : kind ≠ 6) {k : Nat} (hk : k < s) : (S.act s kind x n l pl).now k = S.now k := by
  unfold DS.act
  rw [if_neg h1, if_neg h2]
  split
  · unfold DS.fl
    split
    · rfl
    · show (S.flush s).now k = S.now k
      rw [now_none _ _ rfl]
      exact flush_im hok hk
  · split
    · unfold DS.lay
      split <;> rfl
    · split <;> rfl
theorem crash_now0 {S : DS} {s : Nat} (pl : List P3) {k : Nat} : (S.crash s pl).now k = sec (S.crash s pl).im k := now_none _ _ rfl
theorem wr_now1 {S : DS} {s k : Nat} (hf : S.fuse ≠ 0) (hk : k < s) (l : List Int) (j : Nat) : (S.wr s (k : Int) 512 l).2.now j = if j = k then l else S.now j := by
  have e : (S.wr s (k : Int) 512 l).2 = (S.put k l).wrote.spend := by
    have hx : ¬ ((k : Int) < 0 ∨ (s : Int) ≤ (k : Int)) := by omega
    simp only [DS.wr, hf, if_false, hx, ne_eq, not_true_eq_false, Int.toNat_natCast]
  rw [e]
  show (S.put k l).now j = _
  have e1 : pendOf (S.put k l).puts j = if j = k then pendOf S.puts k ++ [l] else pendOf S.puts j := pendOf_snoc _ _ _ _
  by_cases h : j = k
  · subst h
    simp [DS.now, DS.cand, e1]
  · have e2 : pendOf (S.put k l).puts j = pendOf S.puts j := by rw [e1, if_neg h]
    have e3 : (S.put k l).im = S.im := rfl
    rw [if_neg h]
    unfold DS.now DS.cand
    rw [e2, e3]
end Go.Proofs.Ytkgnkdnipcacgaa
end
