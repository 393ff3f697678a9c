import Derived.Test.YtkdjjnkhbmmfeaaFD8
namespace Go.Proofs.Ytkdjjnkhbmmfeaa
open Go.RowKit Go.Maps

/-- A row of bools in memory. -/
def BL (w : World) (rb : Nat) (R : List Bool) : Prop := w.heap[rb]? = some (.cells (R.map Value.bool).toArray 4 (0, 0))
def manyAt (ps : List Pc) (i : Nat) : Bool := (ps[i]?.map Pc.many).getD false
def passTo (ps : List Pc) (R : List Bool) : Nat → List Bool
  | 0 => R
  | i + 1 => if (manyAt ps i && (passTo ps R i).getD i false) = true then (passTo ps R i).set (i + 1) true else passTo ps R i
theorem passTo_len (ps : List Pc) (R : List Bool) : ∀ i, (passTo ps R i).length = R.length
  | 0 => rfl
  | i + 1 => by
    have := passTo_len ps R i
    unfold passTo
    split
    · rw [List.length_set]; exact this
    · exact this
section
variable {w w' w0 : World} {B rb : Nat} {a : Option Addr} {n c : Nat} {R : List Bool} {ps : List Pc}
theorem BL.cell (h : BL w rb R) {i : Nat} (hi : i < R.length) : w.cell? ⟨rb, i, none⟩ = some (.bool (R.getD i false)) := cell_of_block h (by simp [List.getD, hi])
theorem BL.set (h : BL w rb R) (i : Nat) (x : Bool) : BL (w.setCell ⟨rb, i, none⟩ (.bool x)) rb (R.set i x) := (heap_setCell_same _ _ i _ _ _ h).trans (by simp [List.map_set])
theorem BL.keep {G : Nat → Prop} (h : BL w rb R) (hk : Keeps G w w') (hg : ¬ G rb) : BL w' rb R := (hk.block _ (lt_there h) hg).trans h
set_option maxRecDepth 20000 in
set_option maxHeartbeats 8000000 in
theorem passOver_any (s : ByteArray) (cr : Nat) (hP : PSv w0 B (.slice a n c) ps) (hb : Below w0.heap.size w0 w) (hr : BL w rb R) (hrb : w0.heap.size ≤ rb) (hR : R.length = ps.length + 1) (hps : ps.length ≤ 100000) :
    Calls Try.prog 22 #[.agg #[.string s, .slice a n c], .slice (some ⟨rb, 0, none⟩) (ps.length + 1) cr] w fun e w' => e = .returned (.tuple #[]) ∧ BL w' rb (passTo ps R ps.length) ∧ Keeps (fun k => k = rb) w w' := by
  obtain ⟨rfl, hat⟩ := hP.at
  obtain ⟨W0, hW0⟩ : ∃ W0, W0 = w.alloc (.cells #[.string s, .slice a ps.length c] 44) := ⟨_, rfl⟩
  have hb1 : Below w.heap.size w W0 := by rw [hW0]; exact (Below.refl _ _).alloc (Nat.le_refl _) _
  have g0 : W0.heap[w.heap.size]? = some (.cells #[.string s, .slice a ps.length c] 44 (0, 0)) := by rw [hW0]; exact heap_alloc_new w _
  have c1 : W0.cell? ⟨w.heap.size, 1, none⟩ = some (.slice a ps.length c) := cell_of_block g0 (j := 1) rfl
  have HA := Hid.mk hat
  have hrl := lt_there hr
  have H0 := Hid.mk (And.intro (hr.keep (Keeps.of_below (fun k => False) hb1) (fun h => h)) (Keeps.of_below (fun k => k = rb) hb1))
  have HB := Hid.mk hb
  have hz := hb.size
  clear hP hat g0 hr hb hb1
  go_enter Try.func22, Try.ntmps22
  go_wp2_with fail
  rw [← hW0]
  clear hW0
  go_wp2
  go_loopw [9] (fun iv wr => ∃ i : Nat, iv = .int .i64 i ∧ i ≤ ps.length ∧ BL wr rb (passTo ps R i) ∧ Keeps (fun k => k = rb) w wr) (fun iv _ => ps.length - (intOf iv).toNat)
  case atStart => exact ⟨0, rfl, Nat.zero_le _, H0.out.1, H0.out.2⟩
  case round =>
    obtain ⟨i, rfl, hi, hbl, hk⟩ := hrel
    by_cases hlt : i < ps.length
    · have hlt' : (i : Int) < (ps.length : Int) := by omega
      obtain ⟨g, am, k, cm, rfl, p0, p1, p2, p3, _⟩ := HA.out i hlt
      have hbw : Below w0.heap.size w0 wr := HB.out.trans (hk.low (by omega) (fun k e => by omega))
      have p0 := cell_later hbw p0
      have p1 := cell_later hbw p1
      have p2 := cell_later hbw p2
      have p3 := cell_later hbw p3
      have hm : manyAt ps i = ps[i].many := by simp [manyAt, hlt]
      have hps1 : passTo ps R (i + 1) = if (manyAt ps i && (passTo ps R i).getD i false) = true then (passTo ps R i).set (i + 1) true else passTo ps R i := rfl
      rw [hm] at hps1
      have hlen := passTo_len ps R i
      generalize ps[i] = p at *
      obtain ⟨mem, oth, sl, many⟩ := p
      dsimp only at p0 p1 p2 p3 hps1
      have hbA : Below wr.heap.size wr (wr.alloc (.cells #[.slice am k cm, .bool oth, .bool sl, .bool many] 68)) := (Below.refl _ _).alloc (Nat.le_refl _) _
      have g9 := heap_alloc_new wr (.cells #[.slice am k cm, .bool oth, .bool sl, .bool many] 68)
      have e3 : (wr.alloc (.cells #[.slice am k cm, .bool oth, .bool sl, .bool many] 68)).cell? ⟨wr.heap.size, 3, none⟩ = some (.bool many) := cell_of_block g9 (j := 3) rfl
      obtain ⟨W5, hW5⟩ : ∃ W5, W5 = wr.alloc (.cells #[.slice am k cm, .bool oth, .bool sl, .bool many] 68) := ⟨_, rfl⟩
      have hbl5 : BL W5 rb (passTo ps R i) := by rw [hW5]; exact hbl.keep (Keeps.of_below (fun k => False) hbA) (fun h => h)
      have hk5 : Keeps (fun k => k = rb) w W5 := by rw [hW5]; exact hk.trans (Keeps.of_below (fun k => k = rb) hbA) (fun k e => .inl e)
      have r0 := hbl5.cell (i := i) (by omega)
      have r1 := hbl5.cell (i := i + 1) (by omega)
      have f1 : W5.frozen? ⟨rb, i + 1, none⟩ = false := frozen_of_block hbl5 _
      have l1 : (i : Int) < ((ps.length + 1 : Nat) : Int) := by omega
      have l2 : ((i + 1 : Nat) : Int) < ((ps.length + 1 : Nat) : Int) := by omega
      rw [← hW5] at e3
      rw [hW5] at r0 r1 f1 e3
      have HI := Hid.mk (And.intro hW5 (And.intro hbl5 (And.intro hk5 hps1)))
      generalize (passTo ps R i).getD i false = rv at *
      clear hbl hk hbw hbA g9 hbl5 hk5 hps1 hm hlen hW5
      cases many with
      | true =>
        cases rv with
        | true =>
          go_wp2
          go_roundw
          case rel =>
            refine ⟨i + 1, by go_num, by omega, ?_, ?_⟩
            · rw [← HI.out.1, HI.out.2.2.2]
              exact HI.out.2.1.set (i + 1) true
            · rw [← HI.out.1]
              exact HI.out.2.2.1.trans (Keeps.setCell (F := fun k => k = rb) _ (p := ⟨rb, i + 1, none⟩) rfl _) (fun k e => .inl e)
          case measure => simp [intOf]; omega
        | false =>
          go_wp2
          go_roundw
          case rel => exact ⟨i + 1, by go_num, by omega, by rw [← HI.out.1, HI.out.2.2.2]; exact HI.out.2.1, by rw [← HI.out.1]; exact HI.out.2.2.1⟩
          case measure => simp [intOf]; omega
      | false =>
        go_wp2
        go_roundw
        case rel => exact ⟨i + 1, by go_num, by omega, by rw [← HI.out.1, HI.out.2.2.2]; exact HI.out.2.1, by rw [← HI.out.1]; exact HI.out.2.2.1⟩
        case measure => simp [intOf]; omega
    · obtain rfl : i = ps.length := by omega
      have hge : ¬ (ps.length : Int) < (ps.length : Int) := by omega
      have HR := Hid.mk (And.intro hbl hk)
      clear hbl hk
      go_wp2
      go_end0
      exact ⟨rfl, HR.out.1, HR.out.2⟩
end
end Go.Proofs.Ytkdjjnkhbmmfeaa
