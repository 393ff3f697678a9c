import Derived.Test.YthdgndbmecnimaaW21
import Derived.Deep.LoopGhost
section
namespace Go.Proofs.Ythdgndbmecnimaa
open Go.ChangeShapes Go.WideShapes Go.ChangeAt Go.RowKit Go.Deep

theorem bytesLs : Try.prog.bytesOf 27 = 24 := by kernel_rfl

/-- A list of lists of bytes that is only read. -/
def Lists (w : World) (B : Nat) (a : Option Addr) (n : Nat) : Prop :=
  (a = none → n = 0) ∧ ∀ x, a = some x → ∀ i, i < n → ∃ b o, x = ⟨b, o, none⟩ ∧ b < B ∧ ∃ a' n' c' l, w.cell? ⟨b, o + i, none⟩ = some (.slice a' n' c') ∧ Src w a' n' l ∧ Bytes l ∧ (∀ y, a' = some y → 0 < n' → y.block < B) ∧ n' ≤ 140737488355328 ∧ n' ≤ c'

theorem Lists.far {w w' : World} {B : Nat} {a : Option Addr} {n : Nat} (h : Lists w B a n) (hb : Below B w w') : Lists w' B a n :=
  ⟨h.1, fun x hx i hi => by
    obtain ⟨b, o, rfl, h0, a', n', c', l, h1, h2, h3, h4, h5⟩ := h.2 x hx i hi
    exact ⟨b, o, rfl, h0, a', n', c', l, (World.cell?_of_block (w := w) (a := ⟨b, _, none⟩) (hb.block b h0)).trans h1, h2.far hb h4, h3, h4, h5⟩⟩

section
variable {H : Type} {enc : TypeId × Value → H} {W : World} {base : Nat} {spare : Nat → Bool} {held : Bool}
theorem open_lists {fuel : Nat} {v : Value} {d : DataW H} {pl : List MemPlace} (h : DataW.trod enc Try.prog W base spare held fuel 22 [v] = some (d, pl)) (hw : ∀ n ∈ d.weights Try.prog 22, n ≤ reachBytes) :
    ∃ a n c, v = .slice a n c ∧ Lists W W.heap.size a n ∧ 24 * n ≤ 140737488355328 := by
  rcases open_slice Try.underlying22 h with ⟨hcs, _⟩ | ⟨x, len, cap, m, k, D, Pl, hcs, _, hl, hm, hmm, hd, hx⟩
  · simp only [List.cons.injEq, and_true] at hcs
    exact ⟨none, 0, 0, hcs, ⟨fun _ => rfl, (fun x hx => by cases hx)⟩, Nat.zero_le _⟩
  · simp only [List.cons.injEq, and_true] at hcs
    simp only [Prod.mk.injEq] at hd
    replace hd := hd.1
    subst hd
    have hlm : len ≤ m := by rw [hmm]; split <;> omega
    have h1 := hw ((((List.range len).map D).length + ((List.range (m - len)).map fun j => D (len + j)).length) * Try.prog.bytesOf 27) (by simp [DataW.weights, Try.underlying22])
    rw [bytesLs] at h1
    simp only [List.length_map, List.length_range, reachBytes] at h1
    rw [cellsBytes] at hx
    have hwe : ∀ i, i < len → ∀ n ∈ (D i).weights Try.prog 27, n ≤ reachBytes := fun i hi n hn => hw n (by
      simp only [DataW.weights, Try.underlying22]
      exact List.mem_cons_of_mem _ (List.mem_append_left _ (weightsAll_mem (List.mem_map.2 ⟨i, List.mem_range.2 hi, rfl⟩) hn)))
    refine ⟨some x, len, cap, hcs, ⟨(fun h => by cases h), fun y hy i hi => ?_⟩, by omega⟩
    cases hy
    obtain ⟨cs', e1, e2⟩ := hx i (by omega)
    obtain ⟨_, hlen, hcell⟩ := World.cells?_some e1
    obtain ⟨v0, rfl⟩ : ∃ v0, cs' = [v0] := by
      match cs', hlen with
      | [v0], _ => exact ⟨v0, rfl⟩
    obtain ⟨a, na, ca, l, rfl, hs, hb, hc, hsn⟩ := open_bytes e2 (hwe i hi)
    have c0 := hcell 0 (by omega)
    rw [add_add] at c0
    obtain ⟨cs0, z1, z2⟩ := hx 0 (by omega)
    obtain ⟨_, zlen, zcell⟩ := World.cells?_some z1
    obtain ⟨u0, rfl⟩ : ∃ u0, cs0 = [u0] := by
      match cs0, zlen with
      | [u0], _ => exact ⟨u0, rfl⟩
    have z0 := zcell 0 (by omega)
    rw [add_add] at z0
    obtain ⟨b, o, spot⟩ := x
    have hspot : spot = none := by simpa [Addr.add] using World.cell?_spot z0
    subst hspot
    rw [addr_add] at c0
    simp at c0
    exact ⟨b, o, rfl, World.block_lt_of_cell? _ _ c0, a, na, ca, l, c0, hs, hb, hs.old, hsn, hc⟩
end
end Go.Proofs.Ythdgndbmecnimaa
end

section
namespace Go.Proofs.Ythdgndbmecnimaa
open Go.RowKit Go.Maps

/-- One of the new blocks gets an owner. -/
theorem Gro.give {lab : Nat → Nat} {w w' : World} (hz : LZ lab w) (hk : Below w.heap.size w w') {g : Nat} (hg : w.heap.size ≤ g) (hlt : g < w'.heap.size) (y : Nat) : Gro lab (fun k => if k = g then y else lab k) w w' (fun z => z = y) := by
  refine ⟨Keeps.of_below _ hk, fun k h1 => ?_, fun k h1 => ?_, fun k h1 => ?_⟩
  · show (if k = g then y else lab k) = lab k
    rw [if_neg (by omega)]
  · show (if k = g then y else lab k) = 0 ∨ _
    split
    · exact .inr rfl
    · exact .inl (hz k h1)
  · show (if k = g then y else lab k) = 0
    rw [if_neg (by omega)]
    exact hz k (Nat.le_trans hk.size h1)
/-- While records are appended: the log has ds, the list of what was taken ks. -/
structure PB (w wr : World) (lab : Nat → Nat) (p l n : Nat) (S : DS) (L : LG) (ds ks : List (List Int)) (kv : Value) : Prop where
  d : Dl wr lab p l n S L
  a : Alive S L n 0 ds 0
  f : S.fuse = -1
  k : LX wr lab 5 (fun _ => 0) kv ks []
  g : Gro (fun _ => 0) lab w wr (fun y => y ≠ 0)
section
variable {w wr w' : World} {lab lab' : Nat → Nat} {p l n : Nat} {S : DS} {L : LG} {ds ks : List (List Int)} {kv : Value} {X : Nat → Prop}
theorem PB.gro (h : PB w wr lab p l n S L ds ks kv) (g : Gro lab lab' wr w' X) (h0 : ¬ X 0) (h1 : ¬ X 1) (h2 : ¬ X 2) (h5 : ¬ X 5) : PB w w' lab' p l n S L ds ks kv :=
  ⟨h.d.gro g h1 h2, h.a, h.f, h.k.gro g h5 (fun _ _ => h0), h.g.join g (Z := fun _y => _y ≠ 0) (fun _ h => h) (fun _y hy e => h0 (e ▸ hy))⟩
theorem PB.later (h : PB w wr lab p l n S L ds ks kv) (hb : Below wr.heap.size wr w') : PB w w' lab p l n S L ds ks kv :=
  h.gro (Gro.below h.g.lz hb (fun _ => False)) (fun h => h) (fun h => h) (fun h => h) (fun h => h)
theorem PB.below (h : PB w wr lab p l n S L ds ks kv) : Below w.heap.size w wr := h.g.belowB (Nat.le_refl _) (fun _k hk => absurd rfl hk) (fun h => h rfl)
/-- A new list. -/
theorem PB.temp (h : PB w wr lab p l n S L ds ks kv) (hb : Below wr.heap.size wr w') {r : List Int} (hF : Full w' wr.heap.size r) : ∃ lab', PB w w' lab' p l n S L ds ks kv ∧ lab' wr.heap.size = 4 := by
  have G := Gro.give h.g.lz hb (Nat.le_refl _) hF.lt 4
  exact ⟨_, h.gro G (by omega) (by omega) (by omega) (by omega), by show (if wr.heap.size = wr.heap.size then 4 else _) = 4; rw [if_pos rfl]⟩
/-- The new list is written over. -/
theorem PB.over (h : PB w wr lab p l n S L ds ks kv) {g : Nat} (hk : Keeps (fun k => k = g) wr w') (hg : lab g = 4) : PB w w' lab p l n S L ds ks kv :=
  h.gro (Gro.plain h.g.lz hk (X := fun y => y = 4) (fun k _ e => by rw [e]; exact hg)) (by omega) (by omega) (by omega) (by omega)
theorem PB.append (h : PB w wr lab p l n S L ds ds kv) {g x k : Nat} {d : List Int} (hs : Src wr (some ⟨g, 0, none⟩) x d) (hg : lab g = 4) (hlt : g < wr.heap.size) (hd : Bytes d) (hxk : x ≤ k) (hx : x ≤ 140737488355328) :
    Calls Try.prog 7 #[.pointer (some ⟨l, 0, none⟩), .slice (some ⟨g, 0, none⟩) x k] wr fun e w' => ∃ lab' E S' L', e = .returned (.int .i64 E) ∧ ((E = 0 ∧ PB w w' lab' p l n S' L' (ds ++ [d]) ds kv) ∨ (E ≠ 0 ∧ PB w w' lab' p l n S' L' ds ds kv)) ∧ w'.heap[g]? = wr.heap[g]? ∧ lab' g = 4 ∧ Below w.heap.size w w' ∧ ∀ (a : Option Addr) (m : Nat) (r : List Int), SL wr lab 0 a m r → SL w' lab' 0 a m r := by
  refine (h.d.append h.g.lz h.a (some ⟨g, 0, none⟩) x k d hs (fun y hy _ => by cases hy; show lab g ≠ 1; omega) hd hxk hx h.f).mono ?_
  rintro e w' ⟨lab', E, S', L', rfl, G, D, hf, hE⟩
  have hk := h.k.gro G (by omega) (fun _ _ => by omega)
  have hG := h.g.join G (Z := fun y => y ≠ 0) (fun _ h => h) (fun y hy => by omega)
  refine ⟨lab', E, S', L', rfl, ?_, G.block hlt hg (by omega), G.tag hlt hg, hG.belowB (Nat.le_refl _) (fun k hk => absurd rfl hk) (fun h => h rfl), fun _ _ _ h => h.gro G (by omega)⟩
  rcases hE with ⟨e0, hA⟩ | ⟨e0, hA⟩
  · exact .inl ⟨e0, D, hA, hf, hk, hG⟩
  · exact .inr ⟨e0, D, hA, hf, hk, hG⟩
/-- What was taken joins the list. -/
theorem PB.push {d : List Int} (h : PB w wr lab p l n S L (ks ++ [d]) ks kv) {a : Option Addr} (hs : SL wr lab 0 a d.length d) (c : Nat) : ∃ g' cap' w', (Builtin.append_ #[22, 22] 22 #[kv, .slice (some ⟨wr.heap.size, 0, none⟩) 1 1]).run Try.prog (wr.alloc (.cells #[.slice a d.length c] 27)) = .ok (.slice (some ⟨g', 0, none⟩) (ks.length + 1) cap') w' ∧ ∃ lab', PB w w' lab' p l n S L (ks ++ [d]) (ks ++ [d]) (.slice (some ⟨g', 0, none⟩) (ks.length + 1) cap') ∧ Gro lab lab' wr w' (fun y => y = 5) := by
  have hf := h.a.few
  rw [List.length_append] at hf
  obtain ⟨g', cap', w', hrun, lab', G, hl⟩ := h.k.push h.g.lz (fun _ => by omega) (by simp only [List.length_nil]; omega) (.slice a d.length c) rfl
  simp only [List.length_nil, Nat.add_zero, List.nil_append] at hrun hl
  exact ⟨g', cap', w', hrun, lab', ⟨h.d.gro G (by omega) (by omega), h.a, h.f, hl.close (hs.gro G (by omega)), h.g.join G (Z := fun y => y ≠ 0) (fun _ h => h) (fun y hy => by omega)⟩, G⟩
theorem src_arg (h : PB w wr lab p l n S L ds ks kv) {a : Option Addr} {m : Nat} {r : List Int} (hs : Src wr a m r) (ha : ∀ y, a = some y → 0 < m → y.block < w.heap.size) : SL wr lab 0 a m r :=
  ⟨hs, fun z hz hp => (h.g.old _ (ha z hz hp)).trans rfl⟩
end
end Go.Proofs.Ythdgndbmecnimaa
end

section
namespace Go.Proofs.Ythdgndbmecnimaa
open Go.RowKit Go.Maps

set_option maxRecDepth 20000 in
set_option maxHeartbeats 8000000 in
/-- A book is whole. -/
theorem whole_any {w : World} {lab : Nat → Nat} {p : Nat} {v0 v1 v2 v3 v4 v5 : Value} {nm : List (Nat × Int)} (h : Bk w lab p v0 v1 v2 v3 v4 v5 nm) (hz : LZ lab w) (hm : ∀ q ∈ nm, q.1 ≤ 100000000) (hN : nm.length ≤ 7000000000000) :
    Calls Try.prog 16 #[.pointer (some ⟨p, 0, none⟩)] w fun e w' => e = .returned (.bool true) ∧ Below w.heap.size w w' := by
  have H := Hid.mk (And.intro h hz)
  obtain ⟨la, lc, hlf⟩ := h.l0.form
  rw [reps_len] at hlf
  have hlf' := Hid.mk hlf
  clear h hz hlf
  go_enter Try.func16, Try.ntmps16
  go_wp2
  go_loopw [3] (fun i wr => ∃ k : Nat, k ≤ nm.length ∧ i = .int .i64 k ∧ Below w.heap.size w wr) (fun i _ => nm.length - (intOf i).toNat)
  case atStart => exact ⟨0, Nat.zero_le _, rfl, Below.refl _ _⟩
  case round =>
    obtain ⟨k, hk, rfl, hb⟩ := hrel
    have HB := Hid.mk hb
    have hbk := H.out.1.later H.out.2 hb
    by_cases hlt : k < nm.length
    · obtain ⟨n, hn⟩ : ∃ n, n = (nm[k]).1 := ⟨_, rfl⟩
      obtain ⟨x, hx⟩ : ∃ x, x = (nm[k]).2 := ⟨_, rfl⟩
      have hnb : n ≤ 100000000 := by rw [hn]; exact hm _ (List.getElem_mem hlt)
      obtain ⟨g0, c0, a0, b0, n0, hn0, e0, f0, s0⟩ := hbk.l0.rep hlt
      obtain ⟨g1, c1, a1, b1, n1, hn1, e1, f1, s1⟩ := hbk.l1.rep hlt
      obtain ⟨g2, c2, a2, b2, n2, hn2, e2, f2, s2⟩ := hbk.l2.rep hlt
      obtain ⟨g3, c3, a3, b3, n3, hn3, e3, f3, s3⟩ := hbk.l3.rep hlt
      obtain ⟨g4, c4, a4, b4, n4, hn4, e4, f4, s4⟩ := hbk.l4.rep hlt
      obtain ⟨g5, c5, e5, f5⟩ := hbk.mark hlt
      rw [← hn] at hn0 hn1 hn2 hn3 hn4
      obtain rfl : n0 = n := by omega
      have m1 : n1 ≤ 1000000000 := by omega
      have m2 : n2 ≤ 1000000000 := by omega
      have m3 : n3 ≤ 1000000000 := by omega
      have m4 : n4 ≤ 1000000000 := by omega
      have m0 : n0 ≤ 1000000000 := by omega
      rw [← hx] at s0 s1 s2 s3 s4 f5
      have hbox := hbk.box
      rw [e0, e1, e2, e3, e4, e5] at hbox
      obtain ⟨N, hNN⟩ : ∃ N, N = nm.length := ⟨_, rfl⟩
      rw [← hNN] at hbox hlt
      have d0 : wr.cell? ⟨p, 0, none⟩ = some (.slice (some ⟨g0, 0, none⟩) N c0) := cell_of_block hbox (j := 0) rfl
      have d1 : wr.cell? ⟨p, 1, none⟩ = some (.slice (some ⟨g1, 0, none⟩) N c1) := cell_of_block hbox (j := 1) rfl
      have d2 : wr.cell? ⟨p, 2, none⟩ = some (.slice (some ⟨g2, 0, none⟩) N c2) := cell_of_block hbox (j := 2) rfl
      have d3 : wr.cell? ⟨p, 3, none⟩ = some (.slice (some ⟨g3, 0, none⟩) N c3) := cell_of_block hbox (j := 3) rfl
      have d4 : wr.cell? ⟨p, 4, none⟩ = some (.slice (some ⟨g4, 0, none⟩) N c4) := cell_of_block hbox (j := 4) rfl
      have d5 : wr.cell? ⟨p, 5, none⟩ = some (.slice (some ⟨g5, 0, none⟩) N c5) := cell_of_block hbox (j := 5) rfl
      have F0 := (full_rep (c := b0) s0 m0 d0 f0 wr (Below.refl _ wr)).1
      have F1 := Hid.mk (full_rep (c := b1) s1 m1 d1 f1)
      have F2 := Hid.mk (full_rep (c := b2) s2 m2 d2 f2)
      have F3 := Hid.mk (full_rep (c := b3) s3 m3 d3 f3)
      have F4 := Hid.mk (full_rep (c := b4) s4 m4 d4 f4)
      obtain ⟨xa, ya⟩ := wrapJ (n := n0) (m := n1) (c := 1) (by omega) m1
      obtain ⟨xb, yb⟩ := wrapJ (n := n0) (m := n2) (c := 2) (by omega) m2
      obtain ⟨xc, yc⟩ := wrapJ (n := n0) (m := n3) (c := 3) (by omega) m3
      obtain ⟨xd, yd⟩ := wrapJ (n := n0) (m := n4) (c := 96) (by omega) m4
      have hlt' : (k : Int) < (N : Int) := by omega
      have hk0 : (0 : Int) ≤ (k : Int) := by omega
      have hkk : k + 1 < 9223372036854775807 := by omega
      have HN := Hid.mk hNN
      clear hb hbk hbox s0 s1 s2 s3 s4 e0 e1 e2 e3 e4 e5 f1 f2 f3 f4 d1 d2 d3 d4 hn hx hn0 hn1 hn2 hn3 hn4 m0 m1 m2 m3 m4 hnb hNN hlf' hm hN
      go_wp2_with fail
      refine F0.mono ?_
      rintro e w1 ⟨rfl, hb1⟩
      obtain ⟨G1, d1, f1⟩ := F1.out w1 hb1
      have HB1 := Hid.mk hb1
      clear F0 F1 hb1 d0 f0 d5 f5
      go_wp2_with fail
      refine G1.mono ?_
      rintro e w2 ⟨rfl, hb2⟩
      have HB2 := Hid.mk (HB1.out.trans (hb2.mono HB1.out.size))
      obtain ⟨G2, d2, f2⟩ := F2.out w2 HB2.out
      clear G1 F2 hb2 d1 f1 HB1
      go_wp2_with fail
      refine G2.mono ?_
      rintro e w3 ⟨rfl, hb3⟩
      have HB3 := Hid.mk (HB2.out.trans (hb3.mono HB2.out.size))
      obtain ⟨G3, d3, f3⟩ := F3.out w3 HB3.out
      clear G2 F3 hb3 d2 f2 HB2
      go_wp2_with fail
      refine G3.mono ?_
      rintro e w4 ⟨rfl, hb4⟩
      have HB4 := Hid.mk (HB3.out.trans (hb4.mono HB3.out.size))
      obtain ⟨G4, d4, f4⟩ := F4.out w4 HB4.out
      clear G3 F4 hb4 d3 f3 HB3
      go_wp2_with fail
      refine G4.mono ?_
      rintro e w5 ⟨rfl, hb5⟩
      have HB5 := Hid.mk (HB4.out.trans (hb5.mono HB4.out.size))
      clear G4 hb5 d4 f4 HB4
      go_wp2
      go_roundw
      case rel => exact ⟨k + 1, by have := HN.out; omega, by go_num, HB.out.trans (HB5.out.mono HB.out.size)⟩
      case measure => have := HN.out; simp [intOf]; omega
    · have hlt' : ¬ (k : Int) < (nm.length : Int) := by omega
      have hbox := hbk.box
      rw [hlf'.out] at hbox
      have d0 := cell_of_block hbox (j := 0) rfl
      clear hb hbk hbox hm hN
      go_wp2
      go_ret
      exact ⟨rfl, HB.out⟩
end Go.Proofs.Ythdgndbmecnimaa
end
