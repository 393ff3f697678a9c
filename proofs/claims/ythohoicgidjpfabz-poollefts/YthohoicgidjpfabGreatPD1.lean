import Derived.Test.YthohoicgidjpfabGreatW24
import Derived.Test.YthohoicgidjpfabGreatPZ0
namespace Go.Proofs.YthohoicgidjpfabGreat
open Go.RowKit

/-- A bitmap's truths. -/
def blOf (d : List Int) : List Bool := (List.range 4096).map fun i => bitOf d i
theorem blOf_len (d : List Int) : (blOf d).length = 4096 := by simp [blOf]
theorem blOf_get (d : List Int) {i : Nat} (hi : i < 4096) : (blOf d).getD i false = bitOf d i := by simp [blOf, List.getD, hi]
theorem bm_bytes (l : List Bool) : Bytes (bmOf l) := fun x hx => by
  obtain ⟨i, _, rfl⟩ := List.mem_map.1 hx
  have := accB_lt l (8 * i) 8
  exact ⟨by omega, by omega⟩
theorem acc_bit (l : List Bool) (a : Nat) {k : Nat} (hk : k < 8) : decide (accB l a 8 / 2 ^ k % 2 = 1) = l.getD (a + k) false := by
  have e : accB l a 8 = 2 * (2 * (2 * (2 * (2 * (2 * (2 * (2 * 0 + (if l.getD (a + 7) false then 1 else 0)) + (if l.getD (a + 6) false then 1 else 0)) + (if l.getD (a + 5) false then 1 else 0)) + (if l.getD (a + 4) false then 1 else 0)) + (if l.getD (a + 3) false then 1 else 0)) + (if l.getD (a + 2) false then 1 else 0)) + (if l.getD (a + 1) false then 1 else 0)) + (if l.getD (a + 0) false then 1 else 0) := rfl
  rw [e]
  have hh : ∀ (b0 b1 b2 b3 b4 b5 b6 b7 : Bool), ((List.range 8).all fun k => decide ((2 * (2 * (2 * (2 * (2 * (2 * (2 * (2 * 0 + (if b7 then 1 else 0)) + (if b6 then 1 else 0)) + (if b5 then 1 else 0)) + (if b4 then 1 else 0)) + (if b3 then 1 else 0)) + (if b2 then 1 else 0)) + (if b1 then 1 else 0)) + (if b0 then 1 else 0)) / 2 ^ k % 2 = 1) == [b0, b1, b2, b3, b4, b5, b6, b7].getD k false) = true := by decide +kernel
  have h9 := hh (l.getD (a + 0) false) (l.getD (a + 1) false) (l.getD (a + 2) false) (l.getD (a + 3) false) (l.getD (a + 4) false) (l.getD (a + 5) false) (l.getD (a + 6) false) (l.getD (a + 7) false)
  rw [List.all_eq_true] at h9
  have h8 := eq_of_beq (h9 k (List.mem_range.2 hk))
  rw [h8]
  match k, hk with
  | 0, _ => rfl
  | 1, _ => rfl
  | 2, _ => rfl
  | 3, _ => rfl
  | 4, _ => rfl
  | 5, _ => rfl
  | 6, _ => rfl
  | 7, _ => rfl
theorem bm_bit (l : List Bool) {i : Nat} (hi : i < 4096) : bitOf (bmOf l) i = l.getD i false := by
  unfold bitOf
  rw [bmOf_getD l _ (by omega), bitIn_nat, acc_bit l _ (by omega)]
  congr 1
  omega
theorem bm_of_bl {d : List Int} (h : Bytes d) (hl : d.length = 512) : bmOf (blOf d) = d :=
  bits_same (bm_bytes _) h ((bmOf_len _).trans hl.symm) (fun i hi => by rw [bmOf_len] at hi; rw [bm_bit _ (by omega), blOf_get d (by omega)])
theorem bl_of_bm {l : List Bool} (hl : l.length = 4096) : blOf (bmOf l) = l := by
  apply List.ext_getElem ((blOf_len _).trans hl.symm)
  intro i h1 h2
  have e1 := blOf_get (bmOf l) (i := i) (by omega)
  rw [bm_bit l (by omega)] at e1
  simp only [List.getD, List.getElem?_eq_getElem h1, List.getElem?_eq_getElem h2, Option.getD_some] at e1
  exact e1
theorem bm_inj {l l' : List Bool} (hl : l.length = 4096) (hl' : l'.length = 4096) (h : bmOf l = bmOf l') : l = l' := by
  rw [← bl_of_bm hl, ← bl_of_bm hl', h]
/-- The first n are true. -/
def lowB (n : Nat) : List Bool := (List.range 4096).map fun i => decide (i < n)
theorem lowB_len (n : Nat) : (lowB n).length = 4096 := by simp [lowB]
theorem lowB_get (n : Nat) {i : Nat} (hi : i < 4096) : (lowB n).getD i false = decide (i < n) := by simp [lowB, List.getD, hi]
theorem bm_low {n : Nat} (hn : n ≤ 4096) : bmOf (lowB n) = ebm n :=
  bits_same (bm_bytes _) (ebm_bytes n) ((bmOf_len _).trans (ebm_len n).symm) (fun i hi => by rw [bmOf_len] at hi; rw [bm_bit _ (by omega), lowB_get n (by omega), ebm_bit n hn])
section
variable {w : World} {g c g' c' : Nat} {l l' : List Bool}
theorem RowAt.setTruth (h : RowAt w 4 g c (bls l)) (i : Nat) (x : Bool) : RowAt (w.setCell ⟨g, i, none⟩ (.bool x)) 4 g c (bls (l.set i x)) := by
  obtain ⟨cur, hb, hc, ht, hm⟩ := h
  refine ⟨cur.setIfInBounds i (.bool x), heap_setCell_same _ _ _ _ _ _ hb, by simpa using hc, ?_, hm⟩
  have e : (bls (l.set i x)).length = (bls l).length := by simp [bls]
  rw [e, Array.toList_setIfInBounds, List.take_set, ht, bls, bls, List.map_set]
theorem takeB_next {k : Nat} (h : l.take k = l'.take k) (h1 : k < l.length) (h2 : k < l'.length) (e : l.getD k false = l'.getD k false) : l.take (k + 1) = l'.take (k + 1) := by
  rw [List.take_succ_eq_append_getElem h1, List.take_succ_eq_append_getElem h2, h]
  simp [List.getD, h1, h2] at e
  rw [e]
set_option maxRecDepth 20000 in
set_option maxHeartbeats 2000000 in
theorem alike_any (h1 : RowAt w 4 g c (bls l)) (h2 : RowAt w 4 g' c' (bls l')) (hl : l.length = 4096) (hl' : l'.length = 4096) :
    Calls Tryz.prog 62 #[.slice (some ⟨g, 0, none⟩) 4096 c, .slice (some ⟨g', 0, none⟩) 4096 c'] w fun e w' => e = .returned (.bool (decide (l = l'))) ∧ Below w.heap.size w w' := by
  have H1 := Hid.mk h1
  have H2 := Hid.mk h2
  clear h1 h2
  go_enter Tryz.func62, Tryz.ntmps62
  go_wp2
  go_loopw [5] (fun i wr => ∃ k : Nat, k ≤ 4096 ∧ i = .int .i64 (k : Int) ∧ l.take k = l'.take k ∧ Below w.heap.size w wr) (fun i _ => 4096 - (intOf i).toNat)
  case atStart => exact ⟨0, Nat.zero_le _, rfl, by simp, Below.refl _ _⟩
  case round =>
    obtain ⟨k, hk, rfl, htk, hb⟩ := hrel
    have Htk := Hid.mk htk
    clear htk
    by_cases hlt : k < 4096
    · have c1 := cell_later hb (H1.out.truth (i := k) (by omega))
      have c2 := cell_later hb (H2.out.truth (i := k) (by omega))
      have hlt' : (k : Int) < 4096 := by omega
      by_cases hx : l.getD k false = l'.getD k false
      · have Hnx := Hid.mk (takeB_next Htk.out (by omega) (by omega) hx)
        rw [hx] at c1
        generalize l'.getD k false = x at *
        clear hx
        go_wp2
        go_quiet (fail)
        go_wp2
        go_roundw
        case rel => exact ⟨k + 1, by omega, by go_num, Hnx.out, below_drewN hb _⟩
        case measure => simp [intOf]; omega
      · have hne : l ≠ l' := fun h => hx (by rw [h])
        have hd : Hid (decide (l = l') = false) := by show decide (l = l') = false; simp [hne]
        generalize l'.getD k false = x at *
        generalize l.getD k false = y at *
        clear hne
        cases x <;> cases y
        · exact absurd rfl hx
        · clear hx
          go_wp2
          go_quiet (fail)
          go_wp2
          go_ret
          exact ⟨by rw [hd.out]; rfl, below_drewN hb _⟩
        · clear hx
          go_wp2
          go_quiet (fail)
          go_wp2
          go_ret
          exact ⟨by rw [hd.out]; rfl, below_drewN hb _⟩
        · exact absurd rfl hx
    · have hlt' : ¬ (k : Int) < 4096 := by omega
      have hd : Hid (decide (l = l') = true) := by
        have := Htk.out
        rw [List.take_of_length_le (by omega), List.take_of_length_le (by omega)] at this
        show decide (l = l') = true
        simp [this]
      go_wp2
      go_ret
      exact ⟨by rw [hd.out]; rfl, hb⟩
end
end Go.Proofs.YthohoicgidjpfabGreat
