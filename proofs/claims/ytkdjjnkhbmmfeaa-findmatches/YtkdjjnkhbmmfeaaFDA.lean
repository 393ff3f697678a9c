import Derived.Test.YtkdjjnkhbmmfeaaFD9
namespace Go.Proofs.Ytkdjjnkhbmmfeaa
open Go.RowKit Go.Maps

/-- What an entry is behind one byte more. -/
def newAt (ps : List Pc) (R : List Bool) (b : Int) (j : Nat) : Bool := R.getD (if manyAt ps j = true then j + 1 else j) false && (ps[j]?.map (fun p => takesP p b)).getD false
/-- The entries, those above k by the byte. -/
def takeTo (ps : List Pc) (R : List Bool) (b : Int) (k : Nat) : List Bool := (List.range R.length).map (fun j => if k < j then newAt ps R b (j - 1) else R.getD j false)
/-- All entries behind one byte more. -/
def takeL (ps : List Pc) (R : List Bool) (b : Int) : List Bool := (takeTo ps R b 0).set 0 false
theorem takeTo_len (ps : List Pc) (R : List Bool) (b : Int) (k : Nat) : (takeTo ps R b k).length = R.length := by simp [takeTo]
theorem takeTo_at (ps : List Pc) (R : List Bool) (b : Int) (k : Nat) {j : Nat} (hj : j < R.length) (hk : j ≤ k) : (takeTo ps R b k).getD j false = R.getD j false := by
  simp [takeTo, List.getD, hj, show ¬ k < j by omega]
theorem takeTo_top (ps : List Pc) (R : List Bool) (b : Int) (k : Nat) (hk : R.length ≤ k + 1) : takeTo ps R b k = R := by
  refine List.ext_getElem (by simp [takeTo]) (fun i h1 h2 => ?_)
  simp [takeTo, List.getD, h2, show ¬ k < i by omega]
theorem takeTo_set (ps : List Pc) (R : List Bool) (b : Int) (k : Nat) : (takeTo ps R b (k + 1)).set (k + 1) (newAt ps R b k) = takeTo ps R b k := by
  refine List.ext_getElem (by simp [takeTo]) (fun i h1 h2 => ?_)
  simp only [takeTo, List.getElem_set, List.getElem_map, List.getElem_range]
  by_cases e : k + 1 = i
  · subst e
    simp
  · rw [if_neg e]
    by_cases e2 : k < i
    · rw [if_pos (by omega), if_pos e2]
    · rw [if_neg (by omega), if_neg e2]
section
variable {w w' w0 : World} {B rb : Nat} {a : Option Addr} {n c : Nat} {R : List Bool} {ps : List Pc}
set_option maxRecDepth 20000 in
set_option maxHeartbeats 16000000 in
theorem take_any (s : ByteArray) (cr : Nat) (b : Int) (hP : PSv w0 B (.slice a n c) ps) (hb : Below w0.heap.size w0 w) (hr : BL w rb R) (hrb : w0.heap.size ≤ rb) (hR : R.length = ps.length + 1) (hps : ps.length ≤ 100000) (hpm : ∀ p ∈ ps, p.mem.length ≤ 1000000) :
    Calls Try.prog 23 #[.agg #[.string s, .slice a n c], .slice (some ⟨rb, 0, none⟩) (ps.length + 1) cr, .int .u8 b] w fun e w' => e = .returned (.tuple #[]) ∧ BL w' rb (takeL ps R b) ∧ Keeps (fun k => k = rb) w w' := by
  obtain ⟨rfl, hat⟩ := hP.at
  obtain ⟨W0, hW0⟩ : ∃ W0, W0 = w.alloc (.cells #[.string s, .slice a ps.length c] 44) := ⟨_, rfl⟩
  have hb1 : Below w.heap.size w W0 := by rw [hW0]; exact (Below.refl _ _).alloc (Nat.le_refl _) _
  have g0 : W0.heap[w.heap.size]? = some (.cells #[.string s, .slice a ps.length c] 44 (0, 0)) := by rw [hW0]; exact heap_alloc_new w _
  have c1 : W0.cell? ⟨w.heap.size, 1, none⟩ = some (.slice a ps.length c) := cell_of_block g0 (j := 1) rfl
  have HA := Hid.mk hat
  have hrl := lt_there hr
  have H0 := Hid.mk (And.intro (hr.keep (Keeps.of_below (fun k => False) hb1) (fun h => h)) (And.intro (Keeps.of_below (fun k => k = rb) hb1) g0))
  have HB := Hid.mk hb
  have hz := hb.size
  have hw1 : wrap64 ((ps.length : Int) - 1) = (ps.length : Int) - 1 := by unfold wrap64; omega
  clear hP hat g0 hr hb hb1
  go_enter Try.func23, Try.ntmps23
  go_wp2_with fail
  rw [← hW0]
  clear hW0
  go_wp2
  go_loopw [6] (fun iv wr => ∃ k : Nat, iv = .int .i64 ((k : Int) - 1) ∧ k ≤ ps.length ∧ BL wr rb (takeTo ps R b k) ∧ Keeps (fun k => k = rb) w wr ∧ wr.heap[w.heap.size]? = some (.cells #[.string s, .slice a ps.length c] 44 (0, 0))) (fun iv _ => (intOf iv + 1).toNat)
  case atStart => exact ⟨ps.length, by first | rfl | simp, Nat.le_refl _, by rw [takeTo_top _ _ _ _ (by omega)]; exact H0.out.1, H0.out.2.1, H0.out.2.2⟩
  case round =>
    obtain ⟨k, rfl, hk, hbl, hkp, gz⟩ := hrel
    cases k with
    | zero =>
      have hneg : ¬ (0 : Int) ≤ (((0 : Nat) : Int) - 1) := by omega
      have r0 := hbl.cell (i := 0) (by rw [takeTo_len]; omega)
      have f0 : wr.frozen? ⟨rb, 0, none⟩ = false := frozen_of_block hbl _
      have l0 : (0 : Int) < ((ps.length + 1 : Nat) : Int) := by omega
      have HR : Hid (BL (wr.setCell ⟨rb, 0, none⟩ (.bool false)) rb (takeL ps R b) ∧ Keeps (fun k => k = rb) w (wr.setCell ⟨rb, 0, none⟩ (.bool false))) := Hid.mk ⟨hbl.set 0 false, hkp.trans (Keeps.setCell (F := fun k => k = rb) _ (p := ⟨rb, 0, none⟩) rfl _) (fun k e => .inl e)⟩
      clear hbl hkp gz
      go_wp2
      go_end0
      exact ⟨rfl, HR.out.1, HR.out.2⟩
    | succ i =>
      have hii : (((i + 1 : Nat) : Int) - 1) = (i : Int) := by omega
      rw [hii]
      have hpos : (0 : Int) ≤ (i : Int) := by omega
      have hlt : i < ps.length := by omega
      have hlt' : (i : Int) < (ps.length : Int) := by omega
      have hw2 : wrap64 ((i : Int) - 1) = (i : Int) - 1 := by unfold wrap64; omega
      obtain ⟨g, am, k, cm, rfl, p0, p1, p2, p3, ho⟩ := HA.out i hlt
      have hbw : Below w0.heap.size w0 wr := HB.out.trans (hkp.low (by omega) (fun k e => by omega))
      have p0 := cell_later hbw p0
      have p1 := cell_later hbw p1
      have p2 := cell_later hbw p2
      have p3 := cell_later hbw p3
      have hml := hpm _ (List.getElem_mem hlt)
      have ho := rowA ho (fun g hg => hbw.block g (rowL ho hg).1)
      have kt := takes_any ps[i] b ho hml
      have c1 : wr.cell? ⟨w.heap.size, 1, none⟩ = some (.slice (some ⟨g, 0, none⟩) ps.length c) := cell_of_block gz (j := 1) rfl
      have hm : manyAt ps i = ps[i].many := by simp [manyAt, hlt]
      have hnew : newAt ps R b i = (R.getD (if ps[i].many = true then i + 1 else i) false && takesP ps[i] b) := by simp [newAt, hm, hlt]
      have hset := takeTo_set ps R b i
      rw [hnew] at hset
      have hlen := takeTo_len ps R b (i + 1)
      have r0 := hbl.cell (i := i) (by omega)
      have r1 := hbl.cell (i := i + 1) (by omega)
      rw [takeTo_at ps R b (i + 1) (by omega) (by omega)] at r0 r1
      have f1 : wr.frozen? ⟨rb, i + 1, none⟩ = false := frozen_of_block hbl _
      have l1 : (i : Int) < ((ps.length + 1 : Nat) : Int) := by omega
      have l2 : ((i + 1 : Nat) : Int) < ((ps.length + 1 : Nat) : Int) := by omega
      have l3 : (0 : Int) ≤ ((i + 1 : Nat) : Int) := by omega
      have HI := Hid.mk (And.intro hbl (And.intro hkp (And.intro gz hset)))
      have hgw : w.heap.size ≠ rb := by omega
      have hrW := lt_there hbl
      generalize takesP ps[i] b = tk at *
      generalize ps[i] = p at *
      obtain ⟨mem, oth, sl, many⟩ := p
      dsimp only at p0 p1 p2 p3 kt HI
      clear hbl hkp gz hset hbw ho hm hnew hlen hml hii
      have hE : ∀ (W : World) (x : Bool), Keeps (fun k => False) wr W → (R.getD (if many = true then i + 1 else i) false && tk) = x → Hid (BL (W.setCell ⟨rb, i + 1, none⟩ (.bool x)) rb (takeTo ps R b i) ∧ Keeps (fun k => k = rb) w (W.setCell ⟨rb, i + 1, none⟩ (.bool x)) ∧ (W.setCell ⟨rb, i + 1, none⟩ (.bool x)).heap[w.heap.size]? = some (.cells #[.string s, .slice (some ⟨g, 0, none⟩) ps.length c] 44 (0, 0))) := fun W x hkW hx => by
        have hks := Keeps.setCell (F := fun k => k = rb) W (p := ⟨rb, i + 1, none⟩) rfl (.bool x)
        have hs := HI.out.2.2.2
        rw [hx] at hs
        refine ⟨?_, (HI.out.2.1.trans hkW (fun k e => e.elim)).trans hks (fun k e => .inl e), ?_⟩
        · rw [← hs]; exact (HI.out.1.keep hkW (fun h => h)).set (i + 1) x
        · have g1 := (hkW.block _ (lt_there HI.out.2.2.1) (fun h => h)).trans HI.out.2.2.1
          exact (hks.block _ (lt_there g1) hgw).trans g1
      have HEE := Hid.mk hE
      clear hE HI
      generalize hra : R.getD i false = ra at *
      generalize hrc : R.getD (i + 1) false = rc at *
      cases many with
      | true =>
        cases rc with
        | true =>
          have HE2 := HEE
          clear HEE
          go_wp2_with fail
          refine kt.mono ?_
          rintro e W ⟨rfl, hbW⟩
          have HF := HE2.out W tk (Keeps.of_below (fun k => False) hbW) (by first | (rw [if_pos rfl, hrc]; rfl) | (simp only [if_true, hrc, Bool.true_and]))
          have r1 := cell_later hbW r1
          have f1 : W.frozen? ⟨rb, i + 1, none⟩ = false := (World.frozen?_of_block (hbW.block rb hrW)).trans f1
          clear kt HE2 hbW c1 p0 p1 p2 p3 r0
          go_wp2
          go_roundw
          case rel => exact ⟨i, by first | rfl | (rw [hw2]) | go_num, by omega, HF.out.1, HF.out.2.1, HF.out.2.2⟩
          case measure => first | (simp [intOf]; done) | (simp [intOf]; omega)
        | false =>
          have HF := HEE.out wr false (Keeps.refl _ _) (by first | (rw [if_pos rfl, hrc]; rfl) | (simp only [if_true, hrc, Bool.true_and]))
          clear HEE kt
          go_wp2
          go_roundw
          case rel => exact ⟨i, by first | rfl | (rw [hw2]) | go_num, by omega, HF.out.1, HF.out.2.1, HF.out.2.2⟩
          case measure => first | (simp [intOf]; done) | (simp [intOf]; omega)
      | false =>
        cases ra with
        | true =>
          have HE2 := HEE
          clear HEE
          go_wp2_with fail
          refine kt.mono ?_
          rintro e W ⟨rfl, hbW⟩
          have HF := HE2.out W tk (Keeps.of_below (fun k => False) hbW) (by rw [if_neg (by decide), hra]; rfl)
          have r1 := cell_later hbW r1
          have f1 : W.frozen? ⟨rb, i + 1, none⟩ = false := (World.frozen?_of_block (hbW.block rb hrW)).trans f1
          clear kt HE2 hbW c1 p0 p1 p2 p3 r0
          go_wp2
          go_roundw
          case rel => exact ⟨i, by first | rfl | (rw [hw2]) | go_num, by omega, HF.out.1, HF.out.2.1, HF.out.2.2⟩
          case measure => first | (simp [intOf]; done) | (simp [intOf]; omega)
        | false =>
          have HF := HEE.out wr false (Keeps.refl _ _) (by rw [if_neg (by decide), hra]; rfl)
          clear HEE kt
          go_wp2
          go_roundw
          case rel => exact ⟨i, by first | rfl | (rw [hw2]) | go_num, by omega, HF.out.1, HF.out.2.1, HF.out.2.2⟩
          case measure => first | (simp [intOf]; done) | (simp [intOf]; omega)
end
end Go.Proofs.Ytkdjjnkhbmmfeaa
