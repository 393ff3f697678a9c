import Derived.Test.YtcpmapknmkholaaW05
import Derived.Deep.RegionWith
import Derived.Deep.RegionLaw
import Derived.Laws.BytesArg
import Derived.Defers
import Derived.Recover
import Derived.Lib.Bytealg
import Derived.Lib.IndexLaws
import Derived.Deep.Light
import Derived.Laws.StructEq
section
namespace Go.Proofs.Ytcpmapknmkholaa
open Go.RowKit

theorem txt_str {xs : List Int} (h : Bytes xs) : txt (strOfNums xs) = xs := by
  unfold txt strOfNums
  simp only [List.map_map]
  apply List.ext_getElem
  · simp
  · intro i h1 h2
    have := h xs[i] (List.getElem_mem h2)
    simp
    omega

set_option maxRecDepth 20000 in
set_option maxHeartbeats 2000000 in
theorem rtext_ok (p b o c k m : Nat) (l : List Int) (w : World) (h : Rd w p b o c k l) (hk : k + m ≤ l.length) (hkc : k < c) :
    Calls Try.prog 46 #[.pointer (some ⟨p, 0, none⟩), .int .i64 (m : Int)] w fun e w' => e = .returned (.string (strOfNums (part l k m))) ∧ Rd w' p b o c (k + m) l ∧ Keeps (fun j => j = p) w w' := by
  have ht := take_ok p b o l.length c k m w h.rd hk h.cap hkc h.small h.huge
  have H := Hid.mk h
  clear h
  go_enter Try.func46, Try.ntmps46
  go_wp2_with fail
  refine ht.mono ?_
  rintro e w1 ⟨rfl, hr1, hk1⟩
  have h1 := H.out.keep hr1 hk1
  have hcv := run_convert_bytes_arg (P := Try.prog) w1 36 5 Try.underlying36 Try.underlying5 b (o + k) m (c - k) (part l k m) (part_len hk) (h1.part hk) 9 Try.underlying9
  have H1 := Hid.mk (And.intro h1 hk1)
  clear ht hr1 hk1 h1
  go_wp2
  go_ret
  exact ⟨rfl, H1.out⟩

/-- The sum that stands behind the bytes is right. -/
def SumOk (l : List Int) : Prop := le (part l (l.length - 4) 4) = sumOf (part l 0 (l.length - 4))

theorem part_low {l : List Int} {k : Nat} (_hk : k ≤ l.length) (i : Nat) (hi : i < k) : (part l 0 k).getD i 0 = l.getD i 0 := by
  rw [part_at hi, Nat.zero_add]

set_option maxRecDepth 20000 in
set_option maxHeartbeats 4000000 in
theorem summed_ok (b o n c : Nat) (l : List Int) (w : World) (hl : l.length = n) (h4 : 4 < n) (hn : n ≤ 1000000) (hc : n ≤ c) (hcc : c ≤ 9223372036854775807) (hb : Bytes l) (hs : ∀ i, i < n → w.cell? ⟨b, o + i, none⟩ = some (.int .u8 (l.getD i 0))) (hok : SumOk l) :
    Calls Try.prog 31 #[.slice (some ⟨b, o, none⟩) n c] w fun e w' => ∃ p, e = .returned (.pointer (some ⟨p, 0, none⟩)) ∧ w.heap.size ≤ p ∧ Rd w' p b o c 0 (part l 0 (n - 4)) ∧ Below w.heap.size w w' := by
  have hbw : b < w.heap.size := World.block_lt_of_cell? _ _ (hs 0 (by omega))
  have esub : (n : Int) - 4 = ((n - 4 : Nat) : Int) := by omega
  have i1 : (0 : Int) ≤ (((n - 4 : Nat)) : Int) := by omega
  have i2 : (((n - 4 : Nat)) : Int) ≤ (n : Int) := by omega
  have i3 : (((n - 4 : Nat)) : Int) ≤ (c : Int) := by omega
  obtain ⟨w1, hw1⟩ : ∃ w1, w1 = w.alloc (.cells #[.slice (some ⟨b, o + (n - 4), none⟩) 4 (c - (n - 4)), .int .i64 0] 84) := ⟨_, rfl⟩
  have hB1 : Below w.heap.size w w1 := by rw [hw1]; exact (Below.refl _ w).alloc (Nat.le_refl _) _
  have hp1 : w1.heap[w.heap.size]? = some (.cells #[.slice (some ⟨b, o + (n - 4), none⟩) 4 (c - (n - 4)), .int .i64 0] 84 (0, 0)) := by rw [hw1]; exact heap_alloc_new _ _
  have hsz1 : w1.heap.size = w.heap.size + 1 := by rw [hw1]; simp
  have e4 : (part l (n - 4) 4).length = 4 := part_len (by omega)
  have hrd : ∀ wx : World, Below w1.heap.size w1 wx → Rd wx w.heap.size b (o + (n - 4)) (c - (n - 4)) 0 (part l (n - 4) 4) := fun wx hx =>
    ⟨by show RdAt _ _ _ _ _ _ _; unfold RdAt; rw [e4]; exact (hx.block _ (by omega)).trans hp1, by omega, fun i hi => by
      rw [e4] at hi
      rw [part_at hi, Nat.add_assoc]
      exact cell_later (hB1.trans (hx.mono (by omega))) (hs (n - 4 + i) (by omega)), part_bytes hb _ _, by omega, by omega, by omega, fun _ => by have := hx.size; omega⟩
  have hnum : ∀ wx : World, Below w1.heap.size w1 wx → Calls Try.prog 42 #[.pointer (some ⟨w.heap.size, 0, none⟩), .int .i64 4] wx fun e w' => e = .returned (.int .i64 ((le (part l (n - 4) 4) : Nat) : Int)) ∧ Below w.heap.size w w' := fun wx hx => by
    refine (rnumber_any _ _ _ _ 0 4 _ wx (hrd wx hx) (by omega) (by omega) (by omega)).mono ?_
    rintro e w' ⟨rfl, _, hk⟩
    have e0 : part (part l (n - 4) 4) 0 4 = part l (n - 4) 4 := by
      show ((part l (n - 4) 4).drop 0).take 4 = _
      rw [List.drop_zero, List.take_of_length_le (by omega)]
    have hle := le_lt (part_bytes hb (n - 4) 4)
    rw [e4] at hle
    refine ⟨?_, (hB1.trans (hx.mono (by omega))).trans (hk.below (fun j hj => by omega) (by have := hx.size; omega))⟩
    rw [e0]
    congr 2
    unfold wrap64
    have : (2 : Nat) ^ (8 * 4) = 4294967296 := rfl
    omega
  have hsrc : ∀ wx : World, Below w.heap.size w wx → Calls Try.prog 40 #[.slice (some ⟨b, o, none⟩) (n - 4) c] wx fun e w' => e = .returned (.int .i64 ((sumOf (part l 0 (n - 4)) : Nat) : Int)) ∧ Below w.heap.size w w' ∧ (Below w1.heap.size w1 wx → Below w1.heap.size w1 w') := fun wx hx =>
    (sum_any (some ⟨b, o, none⟩) (n - 4) c _ wx (part_bytes hb _ _) (by omega) ⟨part_len (l := l) (k := 0) (m := n - 4) (by omega), (fun h => by cases h), fun x hx' i hi => by
      cases hx'
      rw [addr_add, part_low (by omega) i hi]
      exact cell_later hx (hs i (by omega))⟩).mono (by rintro e w' ⟨rfl, hbb⟩; exact ⟨rfl, hx.trans (hbb.mono hx.size), fun h => h.trans (hbb.mono h.size)⟩)
  have heq : le (part l (n - 4) 4) = sumOf (part l 0 (n - 4)) := by have := hok; unfold SumOk at this; rw [hl] at this; exact this
  rw [heq] at hnum
  have hm := must_t
  have HB1 := Hid.mk hB1
  have Hfin : Hid (∀ wx : World, Below w.heap.size w wx → Rd (wx.alloc (.cells #[.slice (some ⟨b, o, none⟩) (n - 4) c, .int .i64 0] 84)) wx.heap.size b o c 0 (part l 0 (n - 4)) ∧ Below w.heap.size w (wx.alloc (.cells #[.slice (some ⟨b, o, none⟩) (n - 4) c, .int .i64 0] 84))) := fun wx hx => by
    have ep : (part l 0 (n - 4)).length = n - 4 := part_len (by omega)
    have hz := hx.size
    refine ⟨⟨by show RdAt _ _ _ _ _ _ _; unfold RdAt; rw [ep]; exact heap_alloc_new _ _, by omega, fun i hi => ?_, part_bytes hb _ _, by omega, by omega, by omega, fun _ => by simp; omega⟩, hx.alloc hz _⟩
    rw [ep] at hi
    rw [part_low (by omega) i hi]
    exact Lib.cell?_alloc_some _ (cell_later hx (hs i (by omega)))
  have Hnum := Hid.mk hnum
  have Hsrc := Hid.mk hsrc
  have hself : (((sumOf (part l 0 (n - 4)) : Nat) : Int) == ((sumOf (part l 0 (n - 4)) : Nat) : Int)) = true := by simp
  generalize sumOf (part l 0 (n - 4)) = S at *
  have h44 : n - (n - 4) = 4 := by omega
  have hcne : ¬ c = n - 4 := by omega
  clear hs hrd hp1 e4 hok heq hnum hsrc hB1
  go_enter Try.func31, Try.ntmps31
  go_wp2_with fail
  rw [← hw1]
  clear hw1
  have hP1 := Hid.mk (below_drew (Below.refl w1.heap.size w1))
  have hP0 := Hid.mk (below_drew HB1.out)
  go_region_with (first
    | (go_at_call 42; refine (Hnum.out _ ?_).mono ?_; (first | exact hP1.out | exact hP3.out); rintro e w2 ⟨rfl, hb2⟩; have hP2 := Hid.mk hb2; clear hb2)
    | (go_at_call 40; refine (Hsrc.out _ ?_).mono ?_; (first | exact hP0.out | exact hP2.out); rintro e w3 ⟨rfl, hb3, hi3⟩; have hP4 := Hid.mk hb3; (try have hP3 := Hid.mk (hi3 hP1.out)); clear hb3 hi3)
    | (go_at_call 45; refine (hm _).mono ?_; rintro e w4 ⟨rfl, rfl⟩))
  all_goals
    go_wp2
    go_ret
    first
      | exact ⟨_, rfl, hP4.out.size, (Hfin.out _ hP4.out).1, (Hfin.out _ hP4.out).2⟩
      | exact ⟨_, rfl, hP2.out.size, (Hfin.out _ hP2.out).1, (Hfin.out _ hP2.out).2⟩
/-- A call of a Go function at a step of a region that draws its order. -/
theorem step_call {P : Program} {w : World} {ops : Array Oper} {o : Oper} {a : Act} {K : Act → World → Prop} {Q : Exit → Act → World → Prop} {E : Prop} (hgd : o.guard = none) (f : FuncId) (args : Array Value)
    (hen : (execOp a.eval o).run P w = .ok (.enter f args) w) (R : Value → World → Prop) (hc : Calls P f args w fun e w' => ∃ v, e = .returned v ∧ R v w') (h : ∀ v w', R v w' → K (a.put o.dst v) w') :
    if Region.wanted o (yielded ops a.tmps) = true then Oper.wp P o a w K Q else E := by
  have hw : Region.wanted o (yielded ops a.tmps) = true := by simp [Region.wanted, hgd]
  rw [if_pos hw]
  unfold Oper.wp
  rw [hen, Oper.upon_enter]
  refine hc.mono ?_
  rintro e w' ⟨v, rfl, hr⟩
  exact h v w' hr
/-- A call that gives up, at such a step: nothing follows. -/
theorem step_dies {P : Program} {w : World} {ops : Array Oper} {o : Oper} {a : Act} {K : Act → World → Prop} {Q : Exit → Act → World → Prop} {E : Prop} (hgd : o.guard = none) (f : FuncId) (args : Array Value)
    (hen : (execOp a.eval o).run P w = .ok (.enter f args) w) (chain : List PanicEntry) (hc : Calls P f args w fun e w' => e = .panicked chain ∧ w' = w) (hq : Q (.panic chain) a w) (_ : False → K (a.put o.dst undef) w) :
    if Region.wanted o (yielded ops a.tmps) = true then Oper.wp P o a w K Q else E := by
  have hw : Region.wanted o (yielded ops a.tmps) = true := by simp [Region.wanted, hgd]
  rw [if_pos hw]
  unfold Oper.wp
  rw [hen, Oper.upon_enter]
  refine hc.mono ?_
  rintro e w' ⟨rfl, rfl⟩
  exact hq

set_option maxRecDepth 20000 in
set_option maxHeartbeats 4000000 in
theorem summed_no (b o n c : Nat) (l : List Int) (w : World) (hl : l.length = n) (h4 : 4 < n) (hn : n ≤ 1000000) (hc : n ≤ c) (hcc : c ≤ 9223372036854775807) (hb : Bytes l) (hs : ∀ i, i < n → w.cell? ⟨b, o + i, none⟩ = some (.int .u8 (l.getD i 0))) (hok : ¬ SumOk l) :
    Calls Try.prog 31 #[.slice (some ⟨b, o, none⟩) n c] w fun e w' => e = .panicked gaveUp ∧ Below w.heap.size w w' := by
  have hbw : b < w.heap.size := World.block_lt_of_cell? _ _ (hs 0 (by omega))
  have esub : (n : Int) - 4 = ((n - 4 : Nat) : Int) := by omega
  have i1 : (0 : Int) ≤ (((n - 4 : Nat)) : Int) := by omega
  have i2 : (((n - 4 : Nat)) : Int) ≤ (n : Int) := by omega
  have i3 : (((n - 4 : Nat)) : Int) ≤ (c : Int) := by omega
  obtain ⟨w1, hw1⟩ : ∃ w1, w1 = w.alloc (.cells #[.slice (some ⟨b, o + (n - 4), none⟩) 4 (c - (n - 4)), .int .i64 0] 84) := ⟨_, rfl⟩
  have hB1 : Below w.heap.size w w1 := by rw [hw1]; exact (Below.refl _ w).alloc (Nat.le_refl _) _
  have hp1 : w1.heap[w.heap.size]? = some (.cells #[.slice (some ⟨b, o + (n - 4), none⟩) 4 (c - (n - 4)), .int .i64 0] 84 (0, 0)) := by rw [hw1]; exact heap_alloc_new _ _
  have hsz1 : w1.heap.size = w.heap.size + 1 := by rw [hw1]; simp
  have e4 : (part l (n - 4) 4).length = 4 := part_len (by omega)
  have hrd : ∀ wx : World, Below w1.heap.size w1 wx → Rd wx w.heap.size b (o + (n - 4)) (c - (n - 4)) 0 (part l (n - 4) 4) := fun wx hx =>
    ⟨by show RdAt _ _ _ _ _ _ _; unfold RdAt; rw [e4]; exact (hx.block _ (by omega)).trans hp1, by omega, fun i hi => by
      rw [e4] at hi
      rw [part_at hi, Nat.add_assoc]
      exact cell_later (hB1.trans (hx.mono (by omega))) (hs (n - 4 + i) (by omega)), part_bytes hb _ _, by omega, by omega, by omega, fun _ => by have := hx.size; omega⟩
  have hnum : ∀ wx : World, Below w1.heap.size w1 wx → Calls Try.prog 42 #[.pointer (some ⟨w.heap.size, 0, none⟩), .int .i64 4] wx fun e w' => e = .returned (.int .i64 ((le (part l (n - 4) 4) : Nat) : Int)) ∧ Below w.heap.size w w' := fun wx hx => by
    refine (rnumber_any _ _ _ _ 0 4 _ wx (hrd wx hx) (by omega) (by omega) (by omega)).mono ?_
    rintro e w' ⟨rfl, _, hk⟩
    have e0 : part (part l (n - 4) 4) 0 4 = part l (n - 4) 4 := by
      show ((part l (n - 4) 4).drop 0).take 4 = _
      rw [List.drop_zero, List.take_of_length_le (by omega)]
    have hle := le_lt (part_bytes hb (n - 4) 4)
    rw [e4] at hle
    refine ⟨?_, (hB1.trans (hx.mono (by omega))).trans (hk.below (fun j hj => by omega) (by have := hx.size; omega))⟩
    rw [e0]
    congr 2
    unfold wrap64
    have : (2 : Nat) ^ (8 * 4) = 4294967296 := rfl
    omega
  have hsrc : ∀ wx : World, Below w.heap.size w wx → Calls Try.prog 40 #[.slice (some ⟨b, o, none⟩) (n - 4) c] wx fun e w' => e = .returned (.int .i64 ((sumOf (part l 0 (n - 4)) : Nat) : Int)) ∧ Below w.heap.size w w' ∧ (Below w1.heap.size w1 wx → Below w1.heap.size w1 w') := fun wx hx =>
    (sum_any (some ⟨b, o, none⟩) (n - 4) c _ wx (part_bytes hb _ _) (by omega) ⟨part_len (l := l) (k := 0) (m := n - 4) (by omega), (fun h => by cases h), fun x hx' i hi => by
      cases hx'
      rw [addr_add, part_low (by omega) i hi]
      exact cell_later hx (hs i (by omega))⟩).mono (by rintro e w' ⟨rfl, hbb⟩; exact ⟨rfl, hx.trans (hbb.mono hx.size), fun h => h.trans (hbb.mono h.size)⟩)
  have heq : le (part l (n - 4) 4) ≠ sumOf (part l 0 (n - 4)) := by have := hok; unfold SumOk at this; rw [hl] at this; exact this
  have hm := must_f
  have HB1 := Hid.mk hB1
  have Hnum := Hid.mk hnum
  have Hsrc := Hid.mk hsrc
  have hself : (((le (part l (n - 4) 4) : Nat) : Int) == ((sumOf (part l 0 (n - 4)) : Nat) : Int)) = false := by rw [Bool.eq_false_iff, ne_eq, beq_iff_eq]; omega
  generalize sumOf (part l 0 (n - 4)) = S at *
  generalize le (part l (n - 4) 4) = L at *
  have h44 : n - (n - 4) = 4 := by omega
  have hcne : ¬ c = n - 4 := by omega
  clear hs hrd hp1 e4 hok heq hnum hsrc hB1
  go_enter Try.func31, Try.ntmps31
  go_wp2_with fail
  rw [← hw1]
  clear hw1
  have hP1 := Hid.mk (below_drew (Below.refl w1.heap.size w1))
  have hP0 := Hid.mk (below_drew HB1.out)
  have Hnum2 : Hid (∀ wx : World, Below w1.heap.size w1 wx → Calls Try.prog 42 #[.pointer (some ⟨w.heap.size, 0, none⟩), .int .i64 4] wx fun e w' => ∃ v, e = .returned v ∧ (v = .int .i64 (L : Int) ∧ Below w.heap.size w w')) := fun wx hx => (Hnum.out wx hx).mono (by rintro e w' ⟨rfl, h⟩; exact ⟨_, rfl, rfl, h⟩)
  have Hsrc2 : Hid (∀ wx : World, Below w.heap.size w wx → Calls Try.prog 40 #[.slice (some ⟨b, o, none⟩) (n - 4) c] wx fun e w' => ∃ v, e = .returned v ∧ (v = .int .i64 (S : Int) ∧ Below w.heap.size w w' ∧ (Below w1.heap.size w1 wx → Below w1.heap.size w1 w'))) := fun wx hx => (Hsrc.out wx hx).mono (by rintro e w' ⟨rfl, h⟩; exact ⟨_, rfl, rfl, h⟩)
  clear Hnum Hsrc
  go_region_law
    (first
      | (refine step_call (by rfl) 42 #[.pointer (some ⟨w.heap.size, 0, none⟩), .int .i64 4] (by simp [go_sem]) _ (Hnum2.out _ ?_) ?_; (first | exact hP1.out | exact hP3.out); rintro _ w2 ⟨rfl, hb2⟩; have hP2 := Hid.mk hb2; clear hb2)
      | (refine step_call (by rfl) 40 #[.slice (some ⟨b, o, none⟩) (n - 4) c] (by simp [go_sem]) _ (Hsrc2.out _ ?_) ?_; (first | exact hP0.out | exact hP2.out); rintro _ w3 ⟨rfl, hb3, hi3⟩; have hP4 := Hid.mk hb3; (try have hP3 := Hid.mk (hi3 hP1.out)); clear hb3 hi3)
      | (refine step_dies (by rfl) 45 #[.bool false] (by simp [go_sem]) gaveUp (hm _) ?_ ?_; (first | exact ⟨rfl, rfl, hP4.out⟩ | exact ⟨rfl, rfl, hP2.out⟩); intro hF))
  all_goals exact hF.elim
end Go.Proofs.Ytcpmapknmkholaa
end

section
namespace Go.Proofs.Ytcpmapknmkholaa
open Go.RowKit

theorem str_eq {xs : List Int} (hx : xs = headL) : ((strOfNums xs).toList == [118, 101, 108, 108, 117, 109, 0, 1]) = true := by
  subst hx
  decide +kernel
theorem str_ne {xs : List Int} (h : Bytes xs) (hx : xs ≠ headL) : ((strOfNums xs).toList == [118, 101, 108, 108, 117, 109, 0, 1]) = false := by
  rw [Bool.eq_false_iff, ne_eq, beq_iff_eq]
  intro e
  apply hx
  have := txt_str h
  rw [← this]
  unfold txt
  rw [← ByteArray.toList_eq, e]
  rfl

/-- A number of four bytes at k. -/
def u32 (l : List Int) (k : Nat) : Nat := le (part l k 4)
theorem u32_lt {l : List Int} (h : Bytes l) {k : Nat} (hk : k + 4 ≤ l.length) : u32 l k < 4294967296 := by
  have := le_lt (part_bytes h k 4)
  rw [part_len hk] at this
  exact this
theorem u32_wrap {l : List Int} (h : Bytes l) {k : Nat} (hk : k + 4 ≤ l.length) : wrap64 ((le (part l k 4) : Nat) : Int) = ((u32 l k : Nat) : Int) := by
  have := u32_lt h hk
  unfold u32 at *
  unfold wrap64
  omega

theorem rnum4 (p b o c k : Nat) (l : List Int) (w : World) (h : Rd w p b o c k l) (hk : k + 4 ≤ l.length) (hkc : k < c) :
    Calls Try.prog 42 #[.pointer (some ⟨p, 0, none⟩), .int .i64 4] w fun e w' => e = .returned (.int .i64 ((u32 l k : Nat) : Int)) ∧ Rd w' p b o c (k + 4) l ∧ Keeps (fun j => j = p) w w' := by
  refine (rnumber_any p b o c k 4 l w h hk hkc (by omega)).mono ?_
  rintro e w' ⟨rfl, h1, h2⟩
  exact ⟨by rw [u32_wrap h.bytes hk], h1, h2⟩

/-- What is kept while a reader reads: all but the reader. -/
structure Reads (p g : Nat) (w w' : World) (cs : Array Value) (t : TypeId) : Prop where
  k : Keeps (fun j => j = p) w w'
  blk : w'.heap[g]? = some (.cells cs t (0, 0))
  ne : g ≠ p
theorem Reads.step {p g : Nat} {w w1 w2 : World} {cs : Array Value} {t : TypeId} (h : Reads p g w w1 cs t) (hk : Keeps (fun j => j = p) w1 w2) : Reads p g w w2 cs t :=
  ⟨h.k.trans hk (fun _ h => .inl h), (hk.block g (Array.getElem?_eq_some_iff.1 h.blk).1 h.ne).trans h.blk, h.ne⟩
theorem Reads.below {p g : Nat} {w w1 w2 : World} {cs : Array Value} {t : TypeId} (h : Reads p g w w1 cs t) (hb : Below w1.heap.size w1 w2) : Reads p g w w2 cs t := h.step (Keeps.of_below _ hb)

theorem Keeps.put {F : Nat → Prop} {w wx : World} (h : Keeps F w wx) {g i : Nat} (hg : w.heap.size ≤ g) (v : Value) : Keeps F w (wx.setCell ⟨g, i, none⟩ v) :=
  h.trans (Keeps.setCell (F := fun j => j = g) (p := ⟨g, i, none⟩) wx rfl v) (fun j hj => .inr (by omega))
theorem Keeps.more {F : Nat → Prop} {w wx : World} (h : Keeps F w wx) (o : Obj) : Keeps F w (wx.alloc o) := h.trans (Keeps.alloc F wx o) (fun _ h => .inl h)

/-- The layout of a superblock's body is right. -/
structure SupOk (l : List Int) : Prop where
  head : part l 0 8 = headL
  zeros : Zeros (part l 20 488)
  geo : Geo (u32 l 8) (u32 l 12) (u32 l 16)

set_option maxRecDepth 20000 in
set_option maxHeartbeats 4000000 in
theorem readsuper_ok (p b o c : Nat) (l : List Int) (w : World) (h : Rd w p b o c 0 l) (hl : l.length = 508) (hok : SupOk l) :
    Calls Try.prog 36 #[.pointer (some ⟨p, 0, none⟩)] w fun e w' => e = .returned (.agg #[.int .i64 ((u32 l 8 : Nat) : Int), .int .i64 ((u32 l 12 : Nat) : Int), .int .i64 ((u32 l 16 : Nat) : Int)]) ∧ Keeps (fun j => j = p) w w' := by
  have hc := h.cap
  have hseq := str_eq hok.head
  have hpl : p < w.heap.size := (Array.getElem?_eq_some_iff.1 h.rd).1
  obtain ⟨w1, hw1⟩ : ∃ w1, w1 = w.alloc (.cells #[.int .i64 0, .int .i64 0, .int .i64 0] 31) := ⟨_, rfl⟩
  have hB1 : Below w.heap.size w w1 := by rw [hw1]; exact (Below.refl _ w).alloc (Nat.le_refl _) _
  have R1 : Reads p w.heap.size w w1 #[.int .i64 0, .int .i64 0, .int .i64 0] 31 := ⟨Keeps.of_below _ hB1, by rw [hw1]; exact heap_alloc_new _ _, by omega⟩
  have ht : Calls Try.prog 46 #[.pointer (some ⟨p, 0, none⟩), .int .i64 8] w1 fun e w' => e = .returned (.string (strOfNums (part l 0 8))) ∧ Rd w' p b o c 8 l ∧ Keeps (fun j => j = p) w1 w' := rtext_ok p b o c 0 8 l w1 (h.far hB1) (by omega) (by omega)
  have hm := must_t
  have hby := h.bytes
  have HOK := Hid.mk hok
  have HR1 := Hid.mk R1
  generalize strOfNums (part l 0 8) = str at *
  clear h hok hB1 R1
  go_enter Try.func36, Try.ntmps36
  go_wp2_with fail
  rw [← hw1]
  clear hw1
  refine ht.mono ?_
  rintro e w2 ⟨rfl, hr2, hk2⟩
  have HR2 := Hid.mk (HR1.out.step hk2)
  have hn2 := rnum4 p b o c 8 l w2 hr2 (by omega) (by omega)
  clear ht hr2 hk2 HR1
  go_wp2_with fail
  refine (hm _).mono ?_
  rintro e w3 ⟨rfl, hw⟩
  have hw' := hw.symm
  subst hw'
  clear hw
  go_wp2_with fail
  refine hn2.mono ?_
  rintro e w4 ⟨rfl, hr4, hk4⟩
  have HR4 := Hid.mk (HR2.out.step hk4)
  have hn4 := rnum4 p b o c 12 l w4 hr4 (by omega) (by omega)
  clear hn2 hr4 hk4 HR2 hseq
  go_wp2_with fail
  refine hn4.mono ?_
  rintro e w5 ⟨rfl, hr5, hk5⟩
  have HR5 := Hid.mk (HR4.out.step hk5)
  have hn5 := rnum4 p b o c 16 l w5 hr5 (by omega) (by omega)
  clear hn4 hr5 hk5 HR4
  go_wp2_with fail
  refine hn5.mono ?_
  rintro e w6 ⟨rfl, hr6, hk6⟩
  have HR6 := Hid.mk (HR5.out.step hk6)
  have hpg : p < w6.heap.size := (Array.getElem?_eq_some_iff.1 hr6.rd).1
  have hz6 := HR6.out.k.size
  have hsz6 : w.heap.size < w6.heap.size := (Array.getElem?_eq_some_iff.1 HR6.out.blk).1
  have hz : ∀ wx : World, Below w6.heap.size w6 wx → Calls Try.prog 43 #[.pointer (some ⟨p, 0, none⟩), .int .i64 508] wx fun e w' => e = .returned (.tuple #[]) ∧ Rd w' p b o c 508 l ∧ Keeps (fun j => j = p) wx w' := fun wx hx => rzeros_ok p b o c 20 488 l wx (hr6.far hx) (by omega) (by omega) HOK.out.zeros
  have HZ := Hid.mk hz
  have hal : ∀ o, Below w6.heap.size w6 (w6.alloc o) := fun o => (Below.refl _ w6).alloc (Nat.le_refl _) _
  have Hal := Hid.mk hal
  clear hn5 hk6 HR5 hr6 hz hal
  go_wp2_with fail
  refine (HZ.out _ (Hal.out _)).mono ?_
  rintro e w7 ⟨rfl, _, hk7⟩
  have hs7 : w7.heap[w6.heap.size]? = some (.cells #[.int .i64 ((u32 l 8 : Nat) : Int), .int .i64 ((u32 l 12 : Nat) : Int), .int .i64 ((u32 l 16 : Nat) : Int)] 31 (0, 0)) := (hk7.block _ (by simp) (by omega)).trans (heap_alloc_new _ _)
  have HR7 := Hid.mk ((HR6.out.below (Hal.out _)).step hk7)
  have hg := HOK.out.geo
  have hpl2 := plan_good (u32 l 8) (u32 l 12) (u32 l 16) w7 hg.1.1 hg.1.2 hg.2.1.1 hg.2.1.2 hg.2.2.1 hg.2.2.2.1 hg.2.2.2.2
  have s0 := cell_of_block hs7 (j := 0) rfl
  have s1 := cell_of_block hs7 (j := 1) rfl
  have s2 := cell_of_block hs7 (j := 2) rfl
  have HS7 := Hid.mk hs7
  clear HZ hk7 HR6 Hal hs7 hg HOK
  go_wp2_with fail
  refine hpl2.mono ?_
  rintro e w8 ⟨rfl, hb8⟩
  have HR8 := Hid.mk (HR7.out.below hb8)
  have t0 := cell_later hb8 s0
  have t1 := cell_later hb8 s1
  have t2 := cell_later hb8 s2
  have hl8 : w6.heap.size < w8.heap.size := Nat.lt_of_lt_of_le (Array.getElem?_eq_some_iff.1 HS7.out).1 hb8.size
  have hbk := HR8.out.blk
  have hbo : ∀ o, (w8.alloc o).heap[w.heap.size]? = some (.cells #[.int .i64 0, .int .i64 0, .int .i64 0] 31 (0, 0)) := fun o => (Below.heap_alloc w8 o _ (Array.getElem?_eq_some_iff.1 hbk).1).trans hbk
  have d0 := fun o => cell_of_block (hbo o) (j := 0) rfl
  have d1 := fun o => cell_of_block (hbo o) (j := 1) rfl
  have d2 := fun o => cell_of_block (hbo o) (j := 2) rfl
  have f0 := fun o => frozen_of_block (hbo o) 0
  have f1 := fun o => frozen_of_block (hbo o) 1
  have f2 := fun o => frozen_of_block (hbo o) 2
  have hne1 : ¬ w6.heap.size = w8.heap.size := by omega
  have hne2 : ¬ w.heap.size = w8.heap.size := by have := (Array.getElem?_eq_some_iff.1 hbk).1; omega
  clear hpl2 s0 s1 s2 HR7 hb8 hbk HS7 hbo
  go_wp2_with fail
  refine (hm _).mono ?_
  rintro e w9 ⟨rfl, hw⟩
  have hw' := hw.symm
  subst hw'
  clear hw
  go_wp2
  refine bodyPost_ret (v := .agg #[.int .i64 ((u32 l 8 : Nat) : Int), .int .i64 ((u32 l 12 : Nat) : Int), .int .i64 ((u32 l 16 : Nat) : Int)]) (by simp [results, Try.results36, go_sem, d0, d1, d2]) rfl ⟨rfl, ?_⟩
  exact (((HR8.out.k.more _).put (Nat.le_refl _) _).put (Nat.le_refl _) _).put (Nat.le_refl _) _
set_option maxRecDepth 20000 in
set_option maxHeartbeats 4000000 in
theorem readsuper_no1 (p b o c : Nat) (l : List Int) (w : World) (h : Rd w p b o c 0 l) (hl : l.length = 508) (hok : part l 0 8 ≠ headL) :
    Calls Try.prog 36 #[.pointer (some ⟨p, 0, none⟩)] w fun e w' => e = .panicked gaveUp ∧ Keeps (fun j => j = p) w w' := by
  have hc := h.cap
  have hseq := str_ne (part_bytes h.bytes 0 8) hok
  have hpl : p < w.heap.size := (Array.getElem?_eq_some_iff.1 h.rd).1
  obtain ⟨w1, hw1⟩ : ∃ w1, w1 = w.alloc (.cells #[.int .i64 0, .int .i64 0, .int .i64 0] 31) := ⟨_, rfl⟩
  have hB1 : Below w.heap.size w w1 := by rw [hw1]; exact (Below.refl _ w).alloc (Nat.le_refl _) _
  have R1 : Reads p w.heap.size w w1 #[.int .i64 0, .int .i64 0, .int .i64 0] 31 := ⟨Keeps.of_below _ hB1, by rw [hw1]; exact heap_alloc_new _ _, by omega⟩
  have ht : Calls Try.prog 46 #[.pointer (some ⟨p, 0, none⟩), .int .i64 8] w1 fun e w' => e = .returned (.string (strOfNums (part l 0 8))) ∧ Rd w' p b o c 8 l ∧ Keeps (fun j => j = p) w1 w' := rtext_ok p b o c 0 8 l w1 (h.far hB1) (by omega) (by omega)
  have hm := must_f
  have hby := h.bytes
  have HR1 := Hid.mk R1
  generalize strOfNums (part l 0 8) = str at *
  clear h hok hB1 R1
  go_enter Try.func36, Try.ntmps36
  go_wp2_with fail
  rw [← hw1]
  clear hw1
  refine ht.mono ?_
  rintro e w2 ⟨rfl, hr2, hk2⟩
  have HR2 := Hid.mk (HR1.out.step hk2)
  clear ht hr2 hk2 HR1
  go_wp2_with fail
  refine (hm _).mono ?_
  rintro e w3 ⟨rfl, hw⟩
  have hw' := hw.symm
  subst hw'
  clear hw
  go_wp2
  exact ⟨rfl, rfl, HR2.out.k⟩

set_option maxRecDepth 20000 in
set_option maxHeartbeats 4000000 in
theorem readsuper_no2 (p b o c : Nat) (l : List Int) (w : World) (h : Rd w p b o c 0 l) (hl : l.length = 508) (h1 : part l 0 8 = headL) (h2 : ¬ Zeros (part l 20 488)) :
    Calls Try.prog 36 #[.pointer (some ⟨p, 0, none⟩)] w fun e w' => e = .panicked gaveUp ∧ Keeps (fun j => j = p) w w' := by
  have hc := h.cap
  have hseq := str_eq h1
  have hpl : p < w.heap.size := (Array.getElem?_eq_some_iff.1 h.rd).1
  obtain ⟨w1, hw1⟩ : ∃ w1, w1 = w.alloc (.cells #[.int .i64 0, .int .i64 0, .int .i64 0] 31) := ⟨_, rfl⟩
  have hB1 : Below w.heap.size w w1 := by rw [hw1]; exact (Below.refl _ w).alloc (Nat.le_refl _) _
  have R1 : Reads p w.heap.size w w1 #[.int .i64 0, .int .i64 0, .int .i64 0] 31 := ⟨Keeps.of_below _ hB1, by rw [hw1]; exact heap_alloc_new _ _, by omega⟩
  have ht : Calls Try.prog 46 #[.pointer (some ⟨p, 0, none⟩), .int .i64 8] w1 fun e w' => e = .returned (.string (strOfNums (part l 0 8))) ∧ Rd w' p b o c 8 l ∧ Keeps (fun j => j = p) w1 w' := rtext_ok p b o c 0 8 l w1 (h.far hB1) (by omega) (by omega)
  have hm := must_t
  have hby := h.bytes
  have H2 := Hid.mk h2
  have HR1 := Hid.mk R1
  generalize strOfNums (part l 0 8) = str at *
  clear h h1 h2 hB1 R1
  go_enter Try.func36, Try.ntmps36
  go_wp2_with fail
  rw [← hw1]
  clear hw1
  refine ht.mono ?_
  rintro e w2 ⟨rfl, hr2, hk2⟩
  have HR2 := Hid.mk (HR1.out.step hk2)
  have hn2 := rnum4 p b o c 8 l w2 hr2 (by omega) (by omega)
  clear ht hr2 hk2 HR1
  go_wp2_with fail
  refine (hm _).mono ?_
  rintro e w3 ⟨rfl, hw⟩
  have hw' := hw.symm
  subst hw'
  clear hw
  go_wp2_with fail
  refine hn2.mono ?_
  rintro e w4 ⟨rfl, hr4, hk4⟩
  have HR4 := Hid.mk (HR2.out.step hk4)
  have hn4 := rnum4 p b o c 12 l w4 hr4 (by omega) (by omega)
  clear hn2 hr4 hk4 HR2 hseq
  go_wp2_with fail
  refine hn4.mono ?_
  rintro e w5 ⟨rfl, hr5, hk5⟩
  have HR5 := Hid.mk (HR4.out.step hk5)
  have hn5 := rnum4 p b o c 16 l w5 hr5 (by omega) (by omega)
  clear hn4 hr5 hk5 HR4
  go_wp2_with fail
  refine hn5.mono ?_
  rintro e w6 ⟨rfl, hr6, hk6⟩
  have HR6 := Hid.mk (HR5.out.step hk6)
  have hpg : p < w6.heap.size := (Array.getElem?_eq_some_iff.1 hr6.rd).1
  have hz6 := HR6.out.k.size
  have hsz6 : w.heap.size < w6.heap.size := (Array.getElem?_eq_some_iff.1 HR6.out.blk).1
  have hz : ∀ wx : World, Below w6.heap.size w6 wx → Calls Try.prog 43 #[.pointer (some ⟨p, 0, none⟩), .int .i64 508] wx fun e w' => e = .panicked gaveUp ∧ Keeps (fun j => j = p) wx w' := fun wx hx => rzeros_no p b o c 20 488 l wx (hr6.far hx) (by omega) (by omega) H2.out
  have HZ := Hid.mk hz
  have hal : ∀ o, Below w6.heap.size w6 (w6.alloc o) := fun o => (Below.refl _ w6).alloc (Nat.le_refl _) _
  have Hal := Hid.mk hal
  clear hn5 hk6 HR5 hr6 hz hal
  go_wp2_with fail
  refine (HZ.out _ (Hal.out _)).mono ?_
  rintro e w7 ⟨rfl, hk7⟩
  have HR7 := Hid.mk ((HR6.out.below (Hal.out _)).step hk7)
  clear HZ hk7 HR6 Hal
  go_wp2
  exact ⟨rfl, rfl, HR7.out.k⟩

set_option maxRecDepth 20000 in
set_option maxHeartbeats 4000000 in
theorem readsuper_no3 (p b o c : Nat) (l : List Int) (w : World) (h : Rd w p b o c 0 l) (hl : l.length = 508) (h1 : part l 0 8 = headL) (h2 : Zeros (part l 20 488)) (h3 : ¬ Geo (u32 l 8) (u32 l 12) (u32 l 16)) :
    Calls Try.prog 36 #[.pointer (some ⟨p, 0, none⟩)] w fun e w' => e = .panicked gaveUp ∧ Keeps (fun j => j = p) w w' := by
  have hc := h.cap
  have hseq := str_eq h1
  have hpl : p < w.heap.size := (Array.getElem?_eq_some_iff.1 h.rd).1
  obtain ⟨w1, hw1⟩ : ∃ w1, w1 = w.alloc (.cells #[.int .i64 0, .int .i64 0, .int .i64 0] 31) := ⟨_, rfl⟩
  have hB1 : Below w.heap.size w w1 := by rw [hw1]; exact (Below.refl _ w).alloc (Nat.le_refl _) _
  have R1 : Reads p w.heap.size w w1 #[.int .i64 0, .int .i64 0, .int .i64 0] 31 := ⟨Keeps.of_below _ hB1, by rw [hw1]; exact heap_alloc_new _ _, by omega⟩
  have ht : Calls Try.prog 46 #[.pointer (some ⟨p, 0, none⟩), .int .i64 8] w1 fun e w' => e = .returned (.string (strOfNums (part l 0 8))) ∧ Rd w' p b o c 8 l ∧ Keeps (fun j => j = p) w1 w' := rtext_ok p b o c 0 8 l w1 (h.far hB1) (by omega) (by omega)
  have hm := must_t
  have hby := h.bytes
  have H2 := Hid.mk h2
  have H3 := Hid.mk h3
  have HR1 := Hid.mk R1
  generalize strOfNums (part l 0 8) = str at *
  clear h h1 h2 h3 hB1 R1
  go_enter Try.func36, Try.ntmps36
  go_wp2_with fail
  rw [← hw1]
  clear hw1
  refine ht.mono ?_
  rintro e w2 ⟨rfl, hr2, hk2⟩
  have HR2 := Hid.mk (HR1.out.step hk2)
  have hn2 := rnum4 p b o c 8 l w2 hr2 (by omega) (by omega)
  clear ht hr2 hk2 HR1
  go_wp2_with fail
  refine (hm _).mono ?_
  rintro e w3 ⟨rfl, hw⟩
  have hw' := hw.symm
  subst hw'
  clear hw
  go_wp2_with fail
  refine hn2.mono ?_
  rintro e w4 ⟨rfl, hr4, hk4⟩
  have HR4 := Hid.mk (HR2.out.step hk4)
  have hn4 := rnum4 p b o c 12 l w4 hr4 (by omega) (by omega)
  clear hn2 hr4 hk4 HR2 hseq
  go_wp2_with fail
  refine hn4.mono ?_
  rintro e w5 ⟨rfl, hr5, hk5⟩
  have HR5 := Hid.mk (HR4.out.step hk5)
  have hn5 := rnum4 p b o c 16 l w5 hr5 (by omega) (by omega)
  clear hn4 hr5 hk5 HR4
  go_wp2_with fail
  refine hn5.mono ?_
  rintro e w6 ⟨rfl, hr6, hk6⟩
  have HR6 := Hid.mk (HR5.out.step hk6)
  have hpg : p < w6.heap.size := (Array.getElem?_eq_some_iff.1 hr6.rd).1
  have hz6 := HR6.out.k.size
  have hsz6 : w.heap.size < w6.heap.size := (Array.getElem?_eq_some_iff.1 HR6.out.blk).1
  have hz : ∀ wx : World, Below w6.heap.size w6 wx → Calls Try.prog 43 #[.pointer (some ⟨p, 0, none⟩), .int .i64 508] wx fun e w' => e = .returned (.tuple #[]) ∧ Rd w' p b o c 508 l ∧ Keeps (fun j => j = p) wx w' := fun wx hx => rzeros_ok p b o c 20 488 l wx (hr6.far hx) (by omega) (by omega) H2.out
  have HZ := Hid.mk hz
  have hal : ∀ o, Below w6.heap.size w6 (w6.alloc o) := fun o => (Below.refl _ w6).alloc (Nat.le_refl _) _
  have Hal := Hid.mk hal
  clear hn5 hk6 HR5 hr6 hz hal
  go_wp2_with fail
  refine (HZ.out _ (Hal.out _)).mono ?_
  rintro e w7 ⟨rfl, _, hk7⟩
  have hs7 : w7.heap[w6.heap.size]? = some (.cells #[.int .i64 ((u32 l 8 : Nat) : Int), .int .i64 ((u32 l 12 : Nat) : Int), .int .i64 ((u32 l 16 : Nat) : Int)] 31 (0, 0)) := (hk7.block _ (by simp) (by omega)).trans (heap_alloc_new _ _)
  have HR7 := Hid.mk ((HR6.out.below (Hal.out _)).step hk7)
  have hpl2 : Calls Try.prog 34 #[.agg #[.int .i64 ((u32 l 8 : Nat) : Int), .int .i64 ((u32 l 12 : Nat) : Int), .int .i64 ((u32 l 16 : Nat) : Int)]] w7 fun e w' => e = .returned (.tuple #[.agg #[.int .i64 0, .int .i64 0, .int .i64 0, .int .i64 0, .int .i64 0], .int .i64 22]) ∧ Below w7.heap.size w7 w' := by
    refine (plan_any _ _ _ w7).mono ?_
    rintro e w' ⟨v, x, rfl, ⟨hg, _⟩ | ⟨_, rfl, rfl⟩, hb⟩
    · exact absurd hg H3.out
    · exact ⟨rfl, hb⟩
  have s0 := cell_of_block hs7 (j := 0) rfl
  have s1 := cell_of_block hs7 (j := 1) rfl
  have s2 := cell_of_block hs7 (j := 2) rfl
  have hmf := must_f
  clear HZ hk7 HR6 Hal hs7 H2 H3
  go_wp2_with fail
  refine hpl2.mono ?_
  rintro e w8 ⟨rfl, hb8⟩
  have HR8 := Hid.mk (HR7.out.below hb8)
  clear hpl2 s0 s1 s2 HR7 hb8 hm
  go_wp2_with fail
  refine (hmf _).mono ?_
  rintro e w9 ⟨rfl, hw⟩
  have hw' := hw.symm
  subst hw'
  clear hw
  go_wp2
  exact ⟨rfl, rfl, HR8.out.k.more _⟩

theorem readsuper_no (p b o c : Nat) (l : List Int) (w : World) (h : Rd w p b o c 0 l) (hl : l.length = 508) (hok : ¬ SupOk l) :
    Calls Try.prog 36 #[.pointer (some ⟨p, 0, none⟩)] w fun e w' => e = .panicked gaveUp ∧ Keeps (fun j => j = p) w w' := by
  by_cases h1 : part l 0 8 = headL
  · by_cases h2 : Zeros (part l 20 488)
    · exact readsuper_no3 p b o c l w h hl h1 h2 (fun h3 => hok ⟨h1, h2, h3⟩)
    · exact readsuper_no2 p b o c l w h hl h1 h2
  · exact readsuper_no1 p b o c l w h hl h1
end Go.Proofs.Ytcpmapknmkholaa
end

section
namespace Go.Proofs.Ytcpmapknmkholaa
open Go.RowKit

theorem ix_run (s : ByteArray) (c : Int) (w : World) : (callFunc 53 #[.string s, .int .u8 c]).run Try.prog w = .ok (.value (.int .i64 (Lib.indexByte s.data.toList c.toNat.toUInt8))) w := by
  rw [run_callFunc_extern Try.func53 (by kernel_rfl) (by kernel_rfl) (by kernel_rfl) (e := Extern.BytealgIndexByte.indexByte) (by kernel_rfl), Lib.run_indexByteString]
  rfl

/-- What Name answers. -/
def nameErr (l : List UInt8) : Int := if 54 < l.length then 7 else if l = [] ∨ l = [46] ∨ l = [46, 46] then 21 else if 47 ∈ l ∨ 0 ∈ l then 21 else 0

theorem ix_mem (l : List UInt8) (c : UInt8) : 0 ≤ Lib.indexByte l c ↔ c ∈ l := by
  have hge := Lib.indexByte_ge l c
  constructor
  · intro h
    obtain ⟨o, ho⟩ := Int.eq_ofNat_of_zero_le h
    have := (Lib.indexByte_some ho).1
    exact List.mem_of_getElem? this
  · intro h
    by_cases h0 : Lib.indexByte l c = -1
    · obtain ⟨k, hk⟩ := List.mem_iff_getElem?.1 h
      exact absurd hk (Lib.indexByte_none h0 k)
    · omega
theorem len_size (s : ByteArray) : s.data.toList.length = s.size := by simp
theorem n_long (s : ByteArray) (h : 54 < (s.size : Int)) : nameErr s.data.toList = 7 := by
  unfold nameErr
  rw [len_size, if_pos (by omega)]
theorem n_dots (s : ByteArray) (h : (s.size : Int) ≤ 54) (hd : s.toList = [] ∨ s.toList = [46] ∨ s.toList = [46, 46]) : nameErr s.data.toList = 21 := by
  unfold nameErr
  rw [ByteArray.toList_eq] at hd
  rw [len_size, if_neg (by omega), if_pos hd]
theorem n_bad (s : ByteArray) (h : (s.size : Int) ≤ 54) (hd : 0 ≤ Lib.indexByte s.data.toList 47 ∨ 0 ≤ Lib.indexByte s.data.toList 0) : nameErr s.data.toList = 21 := by
  unfold nameErr
  rw [ix_mem, ix_mem] at hd
  rw [len_size, if_neg (by omega)]
  by_cases h0 : s.data.toList = [] ∨ s.data.toList = [46] ∨ s.data.toList = [46, 46]
  · rw [if_pos h0]
  · rw [if_neg h0, if_pos hd]
theorem n_ok (s : ByteArray) (h : (s.size : Int) ≤ 54) (h0 : ¬ (s.toList = [] ∨ s.toList = [46] ∨ s.toList = [46, 46])) (hd : ¬ (0 ≤ Lib.indexByte s.data.toList 47 ∨ 0 ≤ Lib.indexByte s.data.toList 0)) : nameErr s.data.toList = 0 := by
  unfold nameErr
  rw [ix_mem, ix_mem] at hd
  rw [ByteArray.toList_eq] at h0
  rw [len_size, if_neg (by omega), if_neg h0, if_neg hd]

set_option maxHeartbeats 1000000 in
theorem name_any (s : ByteArray) (w : World) :
    Calls Try.prog 41 #[.string s] w fun e w' => e = .returned (.int .i64 (nameErr s.data.toList)) ∧ w' = w := by
  have hix := ix_run
  by_cases h1 : 54 < (s.size : Int)
  · rw [n_long s h1]
    go_enter Try.func41, Try.ntmps41
    go_wp2
    go_ret
    exact ⟨rfl, rfl⟩
  · have h1' : (s.size : Int) ≤ 54 := by omega
    by_cases h2 : s.toList = [] ∨ s.toList = [46] ∨ s.toList = [46, 46]
    · rw [n_dots s h1' h2]
      rcases h2 with h2 | h2 | h2
      all_goals
        go_enter Try.func41, Try.ntmps41
        go_wp2
        go_ret
        exact ⟨rfl, rfl⟩
    · have e1 : s.toList.isEmpty = false := by simp; intro h; exact h2 (.inl h)
      have e2 : (s.toList == [46]) = false := by simp; intro h; exact h2 (.inr (.inl h))
      have e3 : (s.toList == [46, 46]) = false := by simp; intro h; exact h2 (.inr (.inr h))
      by_cases h3 : 0 ≤ Lib.indexByte s.data.toList 47
      · rw [n_bad s h1' (.inl h3)]
        clear h2
        go_enter Try.func41, Try.ntmps41
        go_wp2
        go_ret
        exact ⟨rfl, rfl⟩
      · by_cases h4 : 0 ≤ Lib.indexByte s.data.toList 0
        · rw [n_bad s h1' (.inr h4)]
          clear h2
          go_enter Try.func41, Try.ntmps41
          go_wp2
          go_ret
          exact ⟨rfl, rfl⟩
        · rw [n_ok s h1' h2 (by omega)]
          clear h2
          go_enter Try.func41, Try.ntmps41
          go_wp2
          go_ret
          exact ⟨rfl, rfl⟩
end Go.Proofs.Ytcpmapknmkholaa
end

section
namespace Go.Proofs.Ytcpmapknmkholaa
open Go.RowKit

abbrev ent (n k : Int) (s : ByteArray) (t : Int) : Value := .agg #[.int .i64 n, .int .i64 k, .string s, .int .i64 t]
/-- An entry's fields fit (of one that is not empty). -/
def EFits (n k : Int) (s : ByteArray) : Prop := (1 ≤ n ∧ n ≤ 1024) ∧ (1 ≤ k ∧ k ≤ 3) ∧ nameErr s.data.toList = 0

set_option maxRecDepth 20000 in
set_option maxHeartbeats 2000000 in
theorem efits_t (n k : Int) (s : ByteArray) (t : Int) (w : World) (h : EFits n k s) :
    Calls Try.prog 26 #[ent n k s t] w fun e w' => e = .returned (.bool true) ∧ Below w.heap.size w w' := by
  obtain ⟨⟨n1, n2⟩, ⟨k1, k2⟩, hn⟩ := h
  have hna := fun w => name_any s w
  rw [hn] at hna
  have HB := Hid.mk (fun o => (Below.refl _ w).alloc (Nat.le_refl _) o)
  clear hn
  go_enter Try.func26, Try.ntmps26
  go_wp2_with (first | (go_at_call 37; go_in) | (go_at_call 41; refine (hna _).mono ?_; rintro e w' ⟨rfl, rfl⟩))
  go_ret
  exact ⟨rfl, HB.out _⟩
set_option maxRecDepth 20000 in
set_option maxHeartbeats 2000000 in
theorem efits_f (n k : Int) (s : ByteArray) (t : Int) (w : World) (h : ¬ EFits n k s) :
    Calls Try.prog 26 #[ent n k s t] w fun e w' => e = .returned (.bool false) ∧ Below w.heap.size w w' := by
  have HB := Hid.mk (fun o => (Below.refl _ w).alloc (Nat.le_refl _) o)
  by_cases h1 : 1 ≤ n
  · by_cases h2 : n ≤ 1024
    · by_cases h3 : 1 ≤ k
      · by_cases h4 : k ≤ 3
        · have h5 : nameErr s.data.toList ≠ 0 := fun h5 => h ⟨⟨h1, h2⟩, ⟨h3, h4⟩, h5⟩
          have h6 : (nameErr s.data.toList == 0) = false := by rw [Bool.eq_false_iff, ne_eq, beq_iff_eq]; exact h5
          have hna := fun w => name_any s w
          generalize nameErr s.data.toList = E at *
          clear h h5
          go_enter Try.func26, Try.ntmps26
          go_wp2_with (first | (go_at_call 37; go_in) | (go_at_call 41; refine (hna _).mono ?_; rintro e w' ⟨rfl, rfl⟩))
          go_ret
          exact ⟨rfl, HB.out _⟩
        · clear h
          go_enter Try.func26, Try.ntmps26
          go_wp2
          go_ret
          exact ⟨rfl, HB.out _⟩
      · clear h
        go_enter Try.func26, Try.ntmps26
        go_wp2
        go_ret
        exact ⟨rfl, HB.out _⟩
    · clear h
      go_enter Try.func26, Try.ntmps26
      go_wp2
      go_ret
      exact ⟨rfl, HB.out _⟩
  · clear h
    go_enter Try.func26, Try.ntmps26
    go_wp2
    go_ret
    exact ⟨rfl, HB.out _⟩

/-- What an entry holds ahead of its sum. -/
def entBody (n k : Nat) (s : ByteArray) : List Int := leb 4 n ++ leb 1 k ++ leb 1 s.size ++ txt s ++ List.replicate (54 - s.size) 0
theorem entBody_len (n k : Nat) {s : ByteArray} (h : s.size ≤ 54) : (entBody n k s).length = 60 := by
  simp only [entBody, List.length_append, leb_len, List.length_replicate, txt_len]
  omega
theorem entBody_bytes (n k : Nat) (s : ByteArray) : Bytes (entBody n k s) := by
  intro x hx
  simp only [entBody, List.mem_append] at hx
  rcases hx with (((h | h) | h) | h) | h
  · exact leb_bytes _ _ x h
  · exact leb_bytes _ _ x h
  · exact leb_bytes _ _ x h
  · exact txt_bytes s x h
  · have := List.eq_of_mem_replicate h; omega
theorem name_ok {s : ByteArray} (h : nameErr s.data.toList = 0) : 0 < s.size ∧ s.size ≤ 54 := by
  unfold nameErr at h
  rw [len_size] at h
  split at h
  · simp at h
  · split at h
    · simp at h
    · rename_i h1 h2
      refine ⟨?_, by omega⟩
      rcases Nat.eq_zero_or_pos s.size with h0 | h0
      · exact absurd (.inl (List.eq_nil_of_length_eq_zero (by rw [len_size]; exact h0))) h2
      · exact h0
end Go.Proofs.Ytcpmapknmkholaa
end

section
namespace Go.Proofs.Ytcpmapknmkholaa
open Go.RowKit

set_option maxRecDepth 20000 in
set_option maxHeartbeats 2000000 in
theorem take_no (p b o n c k m : Nat) (w : World) (h : RdAt w p b o n c k) (hk : n < k + m) (hkn : k ≤ n) (_hc : n ≤ 1000000) (hm : m ≤ 1000000) :
    Calls Try.prog 51 #[.pointer (some ⟨p, 0, none⟩), .int .i64 (m : Int)] w fun e w' => e = .panicked gaveUp ∧ Keeps (fun j => j = p) w w' := by
  have c0 := cell_of_block h (j := 0) rfl
  have c1 := cell_of_block h (j := 1) rfl
  have hle : decide ((m : Int) ≤ (n : Int) - (k : Int)) = false := by simp; omega
  have hw1 : IntKind.i64.wrap ((n : Int) - (k : Int)) = (n : Int) - (k : Int) := by rw [IntKind.wrap_i64]; omega
  have hle' : ¬ (m : Int) ≤ (n : Int) - (k : Int) := by omega
  have hmf := must_f
  have HK := Hid.mk (Keeps.refl (fun j => j = p) w)
  clear h
  go_enter Try.func51, Try.ntmps51
  go_wp2_with fail
  go_region_law
    (first
      | (refine step_dies (by rfl) 45 #[.bool false] (by simp [go_sem]) gaveUp (hmf _) ?_ ?_; exact ⟨rfl, rfl, ⟨HK.out.os, HK.out.tape, HK.out.output, HK.out.size, HK.out.block⟩⟩; intro hF))
  all_goals exact hF.elim

set_option maxRecDepth 20000 in
set_option maxHeartbeats 2000000 in
theorem rtext_no (p b o c k m : Nat) (l : List Int) (w : World) (h : Rd w p b o c k l) (hk : l.length < k + m) (hkl : k ≤ l.length) (hm : m ≤ 1000000) :
    Calls Try.prog 46 #[.pointer (some ⟨p, 0, none⟩), .int .i64 (m : Int)] w fun e w' => e = .panicked gaveUp ∧ Keeps (fun j => j = p) w w' := by
  have ht := take_no p b o l.length c k m w h.rd hk hkl h.small hm
  clear h
  go_enter Try.func46, Try.ntmps46
  go_wp2_with fail
  refine ht.mono ?_
  rintro e w1 ⟨rfl, hk1⟩
  clear ht
  go_wp2
  exact ⟨rfl, rfl, hk1⟩

/-- One byte at k. -/
def u8 (l : List Int) (k : Nat) : Nat := le (part l k 1)
theorem u8_lt {l : List Int} (h : Bytes l) {k : Nat} (hk : k + 1 ≤ l.length) : u8 l k < 256 := by
  have := le_lt (part_bytes h k 1)
  rw [part_len hk] at this
  exact this
theorem rnum1 (p b o c k : Nat) (l : List Int) (w : World) (h : Rd w p b o c k l) (hk : k + 1 ≤ l.length) (hkc : k < c) :
    Calls Try.prog 42 #[.pointer (some ⟨p, 0, none⟩), .int .i64 1] w fun e w' => e = .returned (.int .i64 ((u8 l k : Nat) : Int)) ∧ Rd w' p b o c (k + 1) l ∧ Keeps (fun j => j = p) w w' := by
  refine (rnumber_any p b o c k 1 l w h hk hkc (by omega)).mono ?_
  rintro e w' ⟨rfl, h1, h2⟩
  refine ⟨?_, h1, h2⟩
  have := u8_lt h.bytes hk
  unfold u8 at *
  congr 2
  unfold wrap64
  omega

/-- The name that a record holds. -/
def nm (l : List Int) : ByteArray := strOfNums (part l 6 (u8 l 5))
/-- The layout of an entry's body is right. -/
structure EntOk (l : List Int) : Prop where
  len : u8 l 5 ≤ 54
  zeros : Zeros (part l (6 + u8 l 5) (54 - u8 l 5))
  fits : EFits (u32 l 0) (u8 l 4) (nm l)
end Go.Proofs.Ytcpmapknmkholaa
end
