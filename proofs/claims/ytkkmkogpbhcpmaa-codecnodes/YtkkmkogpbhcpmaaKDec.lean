import Derived.Test.YtkkmkogpbhcpmaaKReader
import Derived.Test.YtkkmkogpbhcpmaaKEnc
import Derived.Deep.RegionWith
import Derived.Deep.RegionLaw
import Derived.Laws.BytesArg
namespace Go.Proofs.Ytkkmkogpbhcpmaa
open Go.RowKit

theorem txt_str {xs : List Int} (h : Bytes xs) : txt (strOfNums xs) = xs := by
  unfold txt strOfNums
  simp only [List.map_map]
  apply List.ext_getElem
  · simp
  · intro i h1 h2
    have := h xs[i] (List.getElem_mem h2)
    simp
    omega

set_option maxRecDepth 20000 in
set_option maxHeartbeats 2000000 in
theorem rtext_ok (p b o c k m : Nat) (l : List Int) (w : World) (h : Rd w p b o c k l) (hk : k + m ≤ l.length) (hkc : k < c) :
    Calls Try.prog 117 #[.pointer (some ⟨p, 0, none⟩), .int .i64 (m : Int)] w fun e w' => e = .returned (.string (strOfNums (part l k m))) ∧ Rd w' p b o c (k + m) l ∧ Keeps (fun j => j = p) w w' := by
  have ht := take_ok p b o l.length c k m w h.rd hk h.cap hkc h.small h.huge
  have H := Hid.mk h
  clear h
  go_enter Try.func117, Try.ntmps117
  go_wp2_with fail
  refine ht.mono ?_
  rintro e w1 ⟨rfl, hr1, hk1⟩
  have h1 := H.out.keep hr1 hk1
  have hcv := run_convert_bytes_arg (P := Try.prog) w1 27 5 Try.underlying27 Try.underlying5 b (o + k) m (c - k) (part l k m) (part_len hk) (h1.part hk) 9 Try.underlying9
  have H1 := Hid.mk (And.intro h1 hk1)
  clear ht hr1 hk1 h1
  go_wp2
  go_ret
  exact ⟨rfl, H1.out⟩

/-- The sum that stands behind the bytes is right. -/
def SumOk (l : List Int) : Prop := le (part l (l.length - 4) 4) = sumOf (part l 0 (l.length - 4))

theorem part_low {l : List Int} {k : Nat} (_hk : k ≤ l.length) (i : Nat) (hi : i < k) : (part l 0 k).getD i 0 = l.getD i 0 := by
  rw [part_at hi, Nat.zero_add]

set_option maxRecDepth 20000 in
set_option maxHeartbeats 4000000 in
theorem summed_ok (b o n c : Nat) (l : List Int) (w : World) (hl : l.length = n) (h4 : 4 < n) (hn : n ≤ 1000000) (hc : n ≤ c) (hcc : c ≤ 9223372036854775807) (hb : Bytes l) (hs : ∀ i, i < n → w.cell? ⟨b, o + i, none⟩ = some (.int .u8 (l.getD i 0))) (hok : SumOk l) :
    Calls Try.prog 85 #[.slice (some ⟨b, o, none⟩) n c] w fun e w' => ∃ p, e = .returned (.pointer (some ⟨p, 0, none⟩)) ∧ w.heap.size ≤ p ∧ Rd w' p b o c 0 (part l 0 (n - 4)) ∧ Below w.heap.size w w' := by
  have hbw : b < w.heap.size := World.block_lt_of_cell? _ _ (hs 0 (by omega))
  have esub : (n : Int) - 4 = ((n - 4 : Nat) : Int) := by omega
  have i1 : (0 : Int) ≤ (((n - 4 : Nat)) : Int) := by omega
  have i2 : (((n - 4 : Nat)) : Int) ≤ (n : Int) := by omega
  have i3 : (((n - 4 : Nat)) : Int) ≤ (c : Int) := by omega
  obtain ⟨w1, hw1⟩ : ∃ w1, w1 = w.alloc (.cells #[.slice (some ⟨b, o + (n - 4), none⟩) 4 (c - (n - 4)), .int .i64 0] 144) := ⟨_, rfl⟩
  have hB1 : Below w.heap.size w w1 := by rw [hw1]; exact (Below.refl _ w).alloc (Nat.le_refl _) _
  have hp1 : w1.heap[w.heap.size]? = some (.cells #[.slice (some ⟨b, o + (n - 4), none⟩) 4 (c - (n - 4)), .int .i64 0] 144 (0, 0)) := by rw [hw1]; exact heap_alloc_new _ _
  have hsz1 : w1.heap.size = w.heap.size + 1 := by rw [hw1]; simp
  have e4 : (part l (n - 4) 4).length = 4 := part_len (by omega)
  have hrd : ∀ wx : World, Below w1.heap.size w1 wx → Rd wx w.heap.size b (o + (n - 4)) (c - (n - 4)) 0 (part l (n - 4) 4) := fun wx hx =>
    ⟨by show RdAt _ _ _ _ _ _ _; unfold RdAt; rw [e4]; exact (hx.block _ (by omega)).trans hp1, by omega, fun i hi => by
      rw [e4] at hi
      rw [part_at hi, Nat.add_assoc]
      exact cell_later (hB1.trans (hx.mono (by omega))) (hs (n - 4 + i) (by omega)), part_bytes hb _ _, by omega, by omega, by omega, fun _ => by have := hx.size; omega⟩
  have hnum : ∀ wx : World, Below w1.heap.size w1 wx → Calls Try.prog 109 #[.pointer (some ⟨w.heap.size, 0, none⟩), .int .i64 4] wx fun e w' => e = .returned (.int .i64 ((le (part l (n - 4) 4) : Nat) : Int)) ∧ Below w.heap.size w w' := fun wx hx => by
    refine (rnumber_any _ _ _ _ 0 4 _ wx (hrd wx hx) (by omega) (by omega) (by omega)).mono ?_
    rintro e w' ⟨rfl, _, hk⟩
    have e0 : part (part l (n - 4) 4) 0 4 = part l (n - 4) 4 := by
      show ((part l (n - 4) 4).drop 0).take 4 = _
      rw [List.drop_zero, List.take_of_length_le (by omega)]
    have hle := le_lt (part_bytes hb (n - 4) 4)
    rw [e4] at hle
    refine ⟨?_, (hB1.trans (hx.mono (by omega))).trans (hk.below (fun j hj => by omega) (by have := hx.size; omega))⟩
    rw [e0]
    congr 2
    unfold wrap64
    have : (2 : Nat) ^ (8 * 4) = 4294967296 := rfl
    omega
  have hsrc : ∀ wx : World, Below w.heap.size w wx → Calls Try.prog 113 #[.slice (some ⟨b, o, none⟩) (n - 4) c] wx fun e w' => e = .returned (.int .i64 ((sumOf (part l 0 (n - 4)) : Nat) : Int)) ∧ Below w.heap.size w w' ∧ (Below w1.heap.size w1 wx → Below w1.heap.size w1 w') := fun wx hx =>
    (sum_any (some ⟨b, o, none⟩) (n - 4) c _ wx (part_bytes hb _ _) (by omega) ⟨part_len (l := l) (k := 0) (m := n - 4) (by omega), (fun h => by cases h), fun x hx' i hi => by
      cases hx'
      rw [addr_add, part_low (by omega) i hi]
      exact cell_later hx (hs i (by omega))⟩).mono (by rintro e w' ⟨rfl, hbb⟩; exact ⟨rfl, hx.trans (hbb.mono hx.size), fun h => h.trans (hbb.mono h.size)⟩)
  have heq : le (part l (n - 4) 4) = sumOf (part l 0 (n - 4)) := by have := hok; unfold SumOk at this; rw [hl] at this; exact this
  rw [heq] at hnum
  have hm := must_t
  have HB1 := Hid.mk hB1
  have Hfin : Hid (∀ wx : World, Below w.heap.size w wx → Rd (wx.alloc (.cells #[.slice (some ⟨b, o, none⟩) (n - 4) c, .int .i64 0] 144)) wx.heap.size b o c 0 (part l 0 (n - 4)) ∧ Below w.heap.size w (wx.alloc (.cells #[.slice (some ⟨b, o, none⟩) (n - 4) c, .int .i64 0] 144))) := fun wx hx => by
    have ep : (part l 0 (n - 4)).length = n - 4 := part_len (by omega)
    have hz := hx.size
    refine ⟨⟨by show RdAt _ _ _ _ _ _ _; unfold RdAt; rw [ep]; exact heap_alloc_new _ _, by omega, fun i hi => ?_, part_bytes hb _ _, by omega, by omega, by omega, fun _ => by simp; omega⟩, hx.alloc hz _⟩
    rw [ep] at hi
    rw [part_low (by omega) i hi]
    exact Lib.cell?_alloc_some _ (cell_later hx (hs i (by omega)))
  have Hnum := Hid.mk hnum
  have Hsrc := Hid.mk hsrc
  have hself : (((sumOf (part l 0 (n - 4)) : Nat) : Int) == ((sumOf (part l 0 (n - 4)) : Nat) : Int)) = true := by simp
  generalize sumOf (part l 0 (n - 4)) = S at *
  have h44 : n - (n - 4) = 4 := by omega
  have hcne : ¬ c = n - 4 := by omega
  clear hs hrd hp1 e4 hok heq hnum hsrc hB1
  go_enter Try.func85, Try.ntmps85
  go_wp2_with fail
  rw [← hw1]
  clear hw1
  have hP1 := Hid.mk (below_drew (Below.refl w1.heap.size w1))
  have hP0 := Hid.mk (below_drew HB1.out)
  go_region_with (first
    | (go_at_call 109; refine (Hnum.out _ ?_).mono ?_; (first | exact hP1.out | exact hP3.out); rintro e w2 ⟨rfl, hb2⟩; have hP2 := Hid.mk hb2; clear hb2)
    | (go_at_call 113; refine (Hsrc.out _ ?_).mono ?_; (first | exact hP0.out | exact hP2.out); rintro e w3 ⟨rfl, hb3, hi3⟩; have hP4 := Hid.mk hb3; (try have hP3 := Hid.mk (hi3 hP1.out)); clear hb3 hi3)
    | (go_at_call 112; refine (hm _).mono ?_; rintro e w4 ⟨rfl, rfl⟩))
  all_goals
    go_wp2
    go_ret
    first
      | exact ⟨_, rfl, hP4.out.size, (Hfin.out _ hP4.out).1, (Hfin.out _ hP4.out).2⟩
      | exact ⟨_, rfl, hP2.out.size, (Hfin.out _ hP2.out).1, (Hfin.out _ hP2.out).2⟩
/-- A call of a Go function at a step of a region that draws its order. -/
theorem step_call {P : Program} {w : World} {ops : Array Oper} {o : Oper} {a : Act} {K : Act → World → Prop} {Q : Exit → Act → World → Prop} {E : Prop} (hgd : o.guard = none) (f : FuncId) (args : Array Value)
    (hen : (execOp a.eval o).run P w = .ok (.enter f args) w) (R : Value → World → Prop) (hc : Calls P f args w fun e w' => ∃ v, e = .returned v ∧ R v w') (h : ∀ v w', R v w' → K (a.put o.dst v) w') :
    if Region.wanted o (yielded ops a.tmps) = true then Oper.wp P o a w K Q else E := by
  have hw : Region.wanted o (yielded ops a.tmps) = true := by simp [Region.wanted, hgd]
  rw [if_pos hw]
  unfold Oper.wp
  rw [hen, Oper.upon_enter]
  refine hc.mono ?_
  rintro e w' ⟨v, rfl, hr⟩
  exact h v w' hr
/-- A call that gives up, at such a step: nothing follows. -/
theorem step_dies {P : Program} {w : World} {ops : Array Oper} {o : Oper} {a : Act} {K : Act → World → Prop} {Q : Exit → Act → World → Prop} {E : Prop} (hgd : o.guard = none) (f : FuncId) (args : Array Value)
    (hen : (execOp a.eval o).run P w = .ok (.enter f args) w) (chain : List PanicEntry) (hc : Calls P f args w fun e w' => e = .panicked chain ∧ w' = w) (hq : Q (.panic chain) a w) (_ : False → K (a.put o.dst undef) w) :
    if Region.wanted o (yielded ops a.tmps) = true then Oper.wp P o a w K Q else E := by
  have hw : Region.wanted o (yielded ops a.tmps) = true := by simp [Region.wanted, hgd]
  rw [if_pos hw]
  unfold Oper.wp
  rw [hen, Oper.upon_enter]
  refine hc.mono ?_
  rintro e w' ⟨rfl, rfl⟩
  exact hq

set_option maxRecDepth 20000 in
set_option maxHeartbeats 4000000 in
theorem summed_no (b o n c : Nat) (l : List Int) (w : World) (hl : l.length = n) (h4 : 4 < n) (hn : n ≤ 1000000) (hc : n ≤ c) (hcc : c ≤ 9223372036854775807) (hb : Bytes l) (hs : ∀ i, i < n → w.cell? ⟨b, o + i, none⟩ = some (.int .u8 (l.getD i 0))) (hok : ¬ SumOk l) :
    Calls Try.prog 85 #[.slice (some ⟨b, o, none⟩) n c] w fun e w' => e = .panicked gaveUp ∧ Below w.heap.size w w' := by
  have hbw : b < w.heap.size := World.block_lt_of_cell? _ _ (hs 0 (by omega))
  have esub : (n : Int) - 4 = ((n - 4 : Nat) : Int) := by omega
  have i1 : (0 : Int) ≤ (((n - 4 : Nat)) : Int) := by omega
  have i2 : (((n - 4 : Nat)) : Int) ≤ (n : Int) := by omega
  have i3 : (((n - 4 : Nat)) : Int) ≤ (c : Int) := by omega
  obtain ⟨w1, hw1⟩ : ∃ w1, w1 = w.alloc (.cells #[.slice (some ⟨b, o + (n - 4), none⟩) 4 (c - (n - 4)), .int .i64 0] 144) := ⟨_, rfl⟩
  have hB1 : Below w.heap.size w w1 := by rw [hw1]; exact (Below.refl _ w).alloc (Nat.le_refl _) _
  have hp1 : w1.heap[w.heap.size]? = some (.cells #[.slice (some ⟨b, o + (n - 4), none⟩) 4 (c - (n - 4)), .int .i64 0] 144 (0, 0)) := by rw [hw1]; exact heap_alloc_new _ _
  have hsz1 : w1.heap.size = w.heap.size + 1 := by rw [hw1]; simp
  have e4 : (part l (n - 4) 4).length = 4 := part_len (by omega)
  have hrd : ∀ wx : World, Below w1.heap.size w1 wx → Rd wx w.heap.size b (o + (n - 4)) (c - (n - 4)) 0 (part l (n - 4) 4) := fun wx hx =>
    ⟨by show RdAt _ _ _ _ _ _ _; unfold RdAt; rw [e4]; exact (hx.block _ (by omega)).trans hp1, by omega, fun i hi => by
      rw [e4] at hi
      rw [part_at hi, Nat.add_assoc]
      exact cell_later (hB1.trans (hx.mono (by omega))) (hs (n - 4 + i) (by omega)), part_bytes hb _ _, by omega, by omega, by omega, fun _ => by have := hx.size; omega⟩
  have hnum : ∀ wx : World, Below w1.heap.size w1 wx → Calls Try.prog 109 #[.pointer (some ⟨w.heap.size, 0, none⟩), .int .i64 4] wx fun e w' => e = .returned (.int .i64 ((le (part l (n - 4) 4) : Nat) : Int)) ∧ Below w.heap.size w w' := fun wx hx => by
    refine (rnumber_any _ _ _ _ 0 4 _ wx (hrd wx hx) (by omega) (by omega) (by omega)).mono ?_
    rintro e w' ⟨rfl, _, hk⟩
    have e0 : part (part l (n - 4) 4) 0 4 = part l (n - 4) 4 := by
      show ((part l (n - 4) 4).drop 0).take 4 = _
      rw [List.drop_zero, List.take_of_length_le (by omega)]
    have hle := le_lt (part_bytes hb (n - 4) 4)
    rw [e4] at hle
    refine ⟨?_, (hB1.trans (hx.mono (by omega))).trans (hk.below (fun j hj => by omega) (by have := hx.size; omega))⟩
    rw [e0]
    congr 2
    unfold wrap64
    have : (2 : Nat) ^ (8 * 4) = 4294967296 := rfl
    omega
  have hsrc : ∀ wx : World, Below w.heap.size w wx → Calls Try.prog 113 #[.slice (some ⟨b, o, none⟩) (n - 4) c] wx fun e w' => e = .returned (.int .i64 ((sumOf (part l 0 (n - 4)) : Nat) : Int)) ∧ Below w.heap.size w w' ∧ (Below w1.heap.size w1 wx → Below w1.heap.size w1 w') := fun wx hx =>
    (sum_any (some ⟨b, o, none⟩) (n - 4) c _ wx (part_bytes hb _ _) (by omega) ⟨part_len (l := l) (k := 0) (m := n - 4) (by omega), (fun h => by cases h), fun x hx' i hi => by
      cases hx'
      rw [addr_add, part_low (by omega) i hi]
      exact cell_later hx (hs i (by omega))⟩).mono (by rintro e w' ⟨rfl, hbb⟩; exact ⟨rfl, hx.trans (hbb.mono hx.size), fun h => h.trans (hbb.mono h.size)⟩)
  have heq : le (part l (n - 4) 4) ≠ sumOf (part l 0 (n - 4)) := by have := hok; unfold SumOk at this; rw [hl] at this; exact this
  have hm := must_f
  have HB1 := Hid.mk hB1
  have Hnum := Hid.mk hnum
  have Hsrc := Hid.mk hsrc
  have hself : (((le (part l (n - 4) 4) : Nat) : Int) == ((sumOf (part l 0 (n - 4)) : Nat) : Int)) = false := by rw [Bool.eq_false_iff, ne_eq, beq_iff_eq]; omega
  generalize sumOf (part l 0 (n - 4)) = S at *
  generalize le (part l (n - 4) 4) = L at *
  have h44 : n - (n - 4) = 4 := by omega
  have hcne : ¬ c = n - 4 := by omega
  clear hs hrd hp1 e4 hok heq hnum hsrc hB1
  go_enter Try.func85, Try.ntmps85
  go_wp2_with fail
  rw [← hw1]
  clear hw1
  have hP1 := Hid.mk (below_drew (Below.refl w1.heap.size w1))
  have hP0 := Hid.mk (below_drew HB1.out)
  have Hnum2 : Hid (∀ wx : World, Below w1.heap.size w1 wx → Calls Try.prog 109 #[.pointer (some ⟨w.heap.size, 0, none⟩), .int .i64 4] wx fun e w' => ∃ v, e = .returned v ∧ (v = .int .i64 (L : Int) ∧ Below w.heap.size w w')) := fun wx hx => (Hnum.out wx hx).mono (by rintro e w' ⟨rfl, h⟩; exact ⟨_, rfl, rfl, h⟩)
  have Hsrc2 : Hid (∀ wx : World, Below w.heap.size w wx → Calls Try.prog 113 #[.slice (some ⟨b, o, none⟩) (n - 4) c] wx fun e w' => ∃ v, e = .returned v ∧ (v = .int .i64 (S : Int) ∧ Below w.heap.size w w' ∧ (Below w1.heap.size w1 wx → Below w1.heap.size w1 w'))) := fun wx hx => (Hsrc.out wx hx).mono (by rintro e w' ⟨rfl, h⟩; exact ⟨_, rfl, rfl, h⟩)
  clear Hnum Hsrc
  go_region_law
    (first
      | (refine step_call (by rfl) 109 #[.pointer (some ⟨w.heap.size, 0, none⟩), .int .i64 4] (by simp [go_sem]) _ (Hnum2.out _ ?_) ?_; (first | exact hP1.out | exact hP3.out); rintro _ w2 ⟨rfl, hb2⟩; have hP2 := Hid.mk hb2; clear hb2)
      | (refine step_call (by rfl) 113 #[.slice (some ⟨b, o, none⟩) (n - 4) c] (by simp [go_sem]) _ (Hsrc2.out _ ?_) ?_; (first | exact hP0.out | exact hP2.out); rintro _ w3 ⟨rfl, hb3, hi3⟩; have hP4 := Hid.mk hb3; (try have hP3 := Hid.mk (hi3 hP1.out)); clear hb3 hi3)
      | (refine step_dies (by rfl) 112 #[.bool false] (by simp [go_sem]) gaveUp (hm _) ?_ ?_; (first | exact ⟨rfl, rfl, hP4.out⟩ | exact ⟨rfl, rfl, hP2.out⟩); intro hF))
  all_goals exact hF.elim
end Go.Proofs.Ytkkmkogpbhcpmaa
