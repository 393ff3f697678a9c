import Derived.Test.YtcpmapknmkholaaW09
import Derived.Lib.ConvBytes
import Derived.ProofKit
import Derived.OpenShut
import Derived.ShutString
import Derived.ChangeOld
import Derived.SizedLaws
import Derived.Deep.Slices
import Derived.Deep.Strs
section
namespace Go.Proofs.Ytcpmapknmkholaa
open Go.RowKit

/-- An entry's name is made to fit: the boxes, and the name's bytes at g. -/
structure NAt (w wr : World) (N K : Int) (s : ByteArray) (t : Int) (g m : Nat) (l : List Int) : Prop where
  below : Below w.heap.size w wr
  par : wr.heap[w.heap.size]? = some (.cells #[.int .i64 N, .int .i64 K, .string s, .int .i64 t] 29 (0, 0))
  res : wr.heap[w.heap.size + 1]? = some (.cells #[.int .i64 0, .int .i64 0, .string ⟨#[]⟩, .int .i64 0] 29 (0, 0))
  far : w.heap.size + 2 ≤ g
  len : l.length = m
  bytes : Bytes l
  cell : ∀ i, i < m → wr.cell? ⟨g, i, none⟩ = some (.int .u8 (l.getD i 0))
  open_ : ∀ i, i < m → wr.frozen? ⟨g, i, none⟩ = false
theorem NAt.put {w wr : World} {N K : Int} {s : ByteArray} {t : Int} {g m : Nat} {l : List Int} (h : NAt w wr N K s t g m l) (j : Nat) (hj : j < m) : NAt w (wr.setCell ⟨g, j, none⟩ (.int .u8 95)) N K s t g m (l.set j 95) := by
  have hg := h.far
  refine ⟨below_put h.below (by omega) h.below.size _, (Below.heap_setCell _ _ _ _ (by simp; omega)).trans h.par, (Below.heap_setCell _ _ _ _ (by simp; omega)).trans h.res, hg, by rw [List.length_set]; exact h.len, ?_, ?_, ?_⟩
  · intro x hx
    rcases List.mem_or_eq_of_mem_set hx with hx | hx
    · exact h.bytes x hx
    · rw [hx]; omega
  · intro i hi
    by_cases e : i = j
    · subst e
      rw [World.cell?_setCell_same _ _ _ (h.cell i hi)]
      simp [List.getD, h.len, hi]
    · have hne : (⟨g, j, none⟩ : Addr) ≠ ⟨g, i, none⟩ := fun h => e (by injection h with _ h2; exact h2.symm)
      rw [World.cell?_setCell_other _ _ _ _ hne, h.cell i hi]
      simp [List.getD, show ¬ j = i by omega]
  · intro i hi
    rw [World.frozen?_setCell]
    exact h.open_ i hi
/-- Good so far. -/
def Good (l : List Int) (j : Nat) : Prop := ∀ q, q < j → l.getD q 0 ≠ 47 ∧ l.getD q 0 ≠ 0
theorem Good.next {l : List Int} {j : Nat} (h : Good l j) (h1 : l.getD j 0 ≠ 47) (h2 : l.getD j 0 ≠ 0) : Good l (j + 1) := fun q hq => by
  by_cases e : q = j
  · rw [e]; exact ⟨h1, h2⟩
  · exact h q (by omega)
theorem Good.set {l : List Int} {j : Nat} (h : Good l j) (hj : j < l.length) : Good (l.set j 95) (j + 1) := fun q hq => by
  by_cases e : q = j
  · subst e; simp [List.getD, hj]
  · have := h q (by omega)
    simpa [List.getD, List.getElem?_set, show ¬ j = q by omega] using this
theorem name_good {l : List Int} (hb : Bytes l) (hl : l.length ≤ 54) (hg : Good l l.length) (h0 : ¬ ((strOfNums l).toList = [] ∨ (strOfNums l).toList = [46] ∨ (strOfNums l).toList = [46, 46])) : nameErr (strOfNums l).data.toList = 0 := by
  have key : ∀ x : UInt8, x ∈ (strOfNums l).data.toList → x ≠ 47 ∧ x ≠ 0 := by
    intro x hx
    simp only [strOfNums, List.mem_map] at hx
    obtain ⟨n, hn, rfl⟩ := hx
    obtain ⟨i, hi, e⟩ := List.mem_iff_getElem.1 hn
    have h1 := hg i hi
    have h2 := hb n hn
    have e' : l.getD i 0 = n := by rw [← e]; simp [List.getD, hi]
    rw [e'] at h1
    constructor
    · intro h
      have := congrArg UInt8.toNat h
      simp at this
      omega
    · intro h
      have := congrArg UInt8.toNat h
      simp at this
      omega
  have hsz : (strOfNums l).data.toList.length = l.length := by simp [strOfNums]
  unfold nameErr
  rw [ByteArray.toList_eq] at h0
  rw [hsz, if_neg (by omega), if_neg h0, if_neg]
  rintro (h | h)
  · exact (key 47 h).1 rfl
  · exact (key 0 h).2 rfl

end Go.Proofs.Ytcpmapknmkholaa
end

section
namespace Go.Proofs.Ytcpmapknmkholaa
open Go.RowKit

theorem NAt.new {w w2 : World} {N K : Int} {s : ByteArray} {t : Int} (hB : Below w.heap.size w w2) (hp : w2.heap[w.heap.size]? = some (.cells #[.int .i64 N, .int .i64 K, .string s, .int .i64 t] 29 (0, 0)))
    (hr : w2.heap[w.heap.size + 1]? = some (.cells #[.int .i64 0, .int .i64 0, .string ⟨#[]⟩, .int .i64 0] 29 (0, 0))) (m : Nat) (hm : m ≤ s.size) : NAt w (Lib.bytesWorld w2 5 s) N K s t w2.heap.size m ((txt s).take m) := by
  have hsz := (Array.getElem?_eq_some_iff.1 hr).1
  have hold : ∀ j, j < w2.heap.size → (Lib.bytesWorld w2 5 s).heap[j]? = w2.heap[j]? := fun j hj => Lib.bytesWorld_at_old w2 5 s j hj
  refine ⟨⟨?_, ?_, ?_, ?_, ?_⟩, (hold _ (by omega)).trans hp, (hold _ (by omega)).trans hr, by omega, by rw [List.length_take, txt_len]; omega, fun x hx => txt_bytes s x (List.mem_of_mem_take hx), ?_, ?_⟩
  · exact hB.os
  · exact hB.tape
  · exact hB.output
  · rw [Lib.bytesWorld_size]; have := hB.size; omega
  · intro j hj
    exact (hold j (Nat.lt_of_lt_of_le hj hB.size)).trans (hB.block j hj)
  · intro i hi
    rw [Lib.bytesWorld_cell w2 5 s i (by omega)]
    simp [txt, List.getD, hi, show i < s.size by omega]
  · intro i hi
    simp [World.frozen?, Lib.bytesWorld_at_new, Lib.bytesCells]
    omega
set_option maxRecDepth 20000 in
set_option maxHeartbeats 8000000 in
theorem tameEntry_any (n k : Int) (s : ByteArray) (t : Int) (w : World) :
    Calls Try.prog 6 #[ent n k s t] w fun e w' => ∃ N K S, e = .returned (ent N K S t) ∧ EFits N K S ∧ Below w.heap.size w w' := by
  obtain ⟨w0, hw0⟩ : ∃ w0, w0 = (w.alloc (.cells #[.int .i64 n, .int .i64 k, .string s, .int .i64 t] 29)).alloc (.cells #[.int .i64 0, .int .i64 0, .string ⟨#[]⟩, .int .i64 0] 29) := ⟨_, rfl⟩
  have hB0 : Below w.heap.size w w0 := by rw [hw0]; exact below_two w _ _
  have hp : w0.heap[w.heap.size]? = some (.cells #[.int .i64 n, .int .i64 k, .string s, .int .i64 t] 29 (0, 0)) := by rw [hw0]; exact heap_alloc2_old _ _ _
  have hr : w0.heap[w.heap.size + 1]? = some (.cells #[.int .i64 0, .int .i64 0, .string ⟨#[]⟩, .int .i64 0] 29 (0, 0)) := by rw [hw0]; exact heap_alloc2_new _ _ _
  have b0 := bring_any n 1 1024 w0 (by omega) (by omega)
  have H0 := Hid.mk (And.intro hB0 (And.intro hp hr))
  clear hB0 hp hr
  go_enter Try.func6, Try.ntmps6
  go_wp2_with fail
  rw [← hw0]
  clear hw0
  refine b0.mono ?_
  rintro e wx ⟨⟨N, rfl, N1, N2⟩, hw⟩
  have hw' := hw.symm
  subst hw'
  clear hw b0
  obtain ⟨hB0, hp, hr⟩ := H0.out
  clear H0
  obtain ⟨w1, hw1⟩ : ∃ w1, w1 = w0.setCell ⟨w.heap.size, 0, none⟩ (.int .i64 N) := ⟨_, rfl⟩
  have hp1 : w1.heap[w.heap.size]? = some (.cells #[.int .i64 N, .int .i64 k, .string s, .int .i64 t] 29 (0, 0)) := by rw [hw1]; exact heap_setCell_same _ _ _ _ _ _ hp
  have hr1 : w1.heap[w.heap.size + 1]? = some (.cells #[.int .i64 0, .int .i64 0, .string ⟨#[]⟩, .int .i64 0] 29 (0, 0)) := by rw [hw1]; exact (Below.heap_setCell _ _ _ _ (by simp)).trans hr
  have hB1 : Below w.heap.size w w1 := by rw [hw1]; exact below_put hB0 (Nat.le_refl _) hB0.size _
  have c1 := cell_of_block hp (j := 0) rfl
  have f1 := frozen_of_block hp 0
  have n1 := cell_of_block hp (j := 1) (u := .int .i64 k) rfl
  have b1 := bring_any k 1 3 w1 (by omega) (by omega)
  have H1 := Hid.mk (And.intro hB1 (And.intro hp1 hr1))
  clear hB0 hp hr hB1 hp1 hr1
  go_wp2_with fail
  rw [← hw1]
  clear hw1 c1 f1 n1
  refine b1.mono ?_
  rintro e wx ⟨⟨K, rfl, K1, K2⟩, hw⟩
  have hw' := hw.symm
  subst hw'
  clear hw b1
  obtain ⟨hB1, hp1, hr1⟩ := H1.out
  clear H1
  obtain ⟨w2, hw2⟩ : ∃ w2, w2 = w1.setCell ⟨w.heap.size, 1, none⟩ (.int .i64 K) := ⟨_, rfl⟩
  have hp2 : w2.heap[w.heap.size]? = some (.cells #[.int .i64 N, .int .i64 K, .string s, .int .i64 t] 29 (0, 0)) := by rw [hw2]; exact heap_setCell_same _ _ _ _ _ _ hp1
  have hr2 : w2.heap[w.heap.size + 1]? = some (.cells #[.int .i64 0, .int .i64 0, .string ⟨#[]⟩, .int .i64 0] 29 (0, 0)) := by rw [hw2]; exact (Below.heap_setCell _ _ _ _ (by simp)).trans hr1
  have hB2 : Below w.heap.size w w2 := by rw [hw2]; exact below_put hB1 (Nat.le_refl _) hB1.size _
  have c2 := cell_of_block hp1 (j := 1) rfl
  have f2 := frozen_of_block hp1 1
  have n2 := cell_of_block hp1 (j := 2) (u := .string s) rfl
  have hcv := Lib.run_convert_string_bytes (P := Try.prog) w2 9 36 5 s Try.underlying9 Try.underlying36 Try.underlying5
  have hge := grownCap_ge w2 s.size 0 5
  have HNew := Hid.mk (fun m hm => NAt.new hB2 hp2 hr2 m hm)
  have hz2 : w2.heap.size = w1.heap.size := by rw [hw2, size_setCell]
  generalize hC : grownCap w2 s.size 0 5 = C at *
  generalize hw3 : Lib.bytesWorld w2 5 s = w3 at *
  rw [hz2] at hcv HNew
  rw [hw2] at hcv
  clear hB1 hp1 hr1 hB2 hp2 hr2 hw2 hC hw3 hz2
  by_cases hgt : 54 < s.size
  · have hgt' : 54 < (s.size : Int) := by omega
    have hC54 : (54 : Int) ≤ (C : Int) := by omega
    have HN := Hid.mk (HNew.out 54 (by omega))
    clear HNew
    go_wp2
    clear hcv c2 f2 n2
    go_loopw [4] (fun i wr => ∃ j : Nat, j ≤ 54 ∧ i = .int .i64 j ∧ ∃ l, NAt w wr N K s t w1.heap.size 54 l ∧ Good l j) (fun i _ => 54 - (intOf i).toNat)
    case atStart => exact ⟨0, Nat.zero_le _, rfl, _, HN.out, fun q hq => by omega⟩
    case round =>
      clear HN
      obtain ⟨j, hj, rfl, l, hN, hG⟩ := hrel
      have hlen := hN.len
      by_cases hlt : j < 54
      · have hlt' : (j : Int) < (54 : Int) := by omega
        have cj := hN.cell j hlt
        have fj := hN.open_ j hlt
        have HNj := Hid.mk hN
        have HGj := Hid.mk hG
        have hx0 := hN.bytes
        generalize hX : l.getD j 0 = x at *
        clear hN hG hx0
        by_cases h47 : x = 47
        · have e47 : (x == 47) = true := by rw [beq_iff_eq]; exact h47
          have HNn := Hid.mk (HNj.out.put j hlt)
          have HGn := Hid.mk (HGj.out.set (by omega))
          clear HNj HGj h47 hX
          go_wp2
          go_roundw
          case rel => exact ⟨j + 1, by omega, by go_num, _, HNn.out, HGn.out⟩
          case measure => simp [intOf]; omega
        · have e47 : (x == 47) = false := by rw [Bool.eq_false_iff, ne_eq, beq_iff_eq]; exact h47
          by_cases h0 : x = 0
          · have e0 : (x == 0) = true := by rw [beq_iff_eq]; exact h0
            have HNn := Hid.mk (HNj.out.put j hlt)
            have HGn := Hid.mk (HGj.out.set (by omega))
            clear HNj HGj h47 hX h0
            go_wp2
            go_roundw
            case rel => exact ⟨j + 1, by omega, by go_num, _, HNn.out, HGn.out⟩
            case measure => simp [intOf]; omega
          · have e0 : (x == 0) = false := by rw [Bool.eq_false_iff, ne_eq, beq_iff_eq]; exact h0
            have HGn := Hid.mk (HGj.out.next (by rw [hX]; exact h47) (by rw [hX]; exact h0))
            clear HGj h47 hX h0
            go_wp2
            go_roundw
            case rel => exact ⟨j + 1, by omega, by go_num, _, HNj.out, HGn.out⟩
            case measure => simp [intOf]; omega
      · have hlt' : ¬ (j : Int) < (54 : Int) := by omega
        have hjm : j = 54 := by omega
        subst hjm
        have hcv2 := run_convert_bytes_arg (P := Try.prog) wr 36 5 Try.underlying36 Try.underlying5 w1.heap.size 0 54 C l hN.len (fun i hi => by rw [Nat.zero_add]; exact hN.cell i hi) 9 Try.underlying9
        have hnm := fun h0 => name_good hN.bytes (by omega) (by rw [hlen]; exact hG) h0
        generalize strOfNums l = X at *
        have c0 := cell_of_block hN.par (j := 0) (u := .int .i64 N) rfl
        have c1 := cell_of_block hN.par (j := 1) (u := .int .i64 K) rfl
        have c2 := cell_of_block hN.par (j := 2) (u := .string s) rfl
        have c3 := cell_of_block hN.par (j := 3) (u := .int .i64 t) rfl
        have f2 := frozen_of_block hN.par 2
        have d0 := cell_of_block hN.res (j := 0) (u := .int .i64 0) rfl
        have d1 := cell_of_block hN.res (j := 1) (u := .int .i64 0) rfl
        have d2 := cell_of_block hN.res (j := 2) (u := .string ⟨#[]⟩) rfl
        have d3 := cell_of_block hN.res (j := 3) (u := .int .i64 0) rfl
        have g0 := frozen_of_block hN.res 0
        have g1 := frozen_of_block hN.res 1
        have g2 := frozen_of_block hN.res 2
        have g3 := frozen_of_block hN.res 3
        have HE := Hid.mk (show (1 ≤ N ∧ N ≤ 1024) ∧ (1 ≤ K ∧ K ≤ 3) from ⟨⟨N1, N2⟩, ⟨K1, K2⟩⟩)
        have hsz := (Array.getElem?_eq_some_iff.1 hN.res).1
        have HB1 : Hid (∀ S : ByteArray, Below w.heap.size w (((((wr.setCell ⟨w.heap.size, 2, none⟩ (.string S)).setCell ⟨w.heap.size + 1, 0, none⟩ (.int .i64 N)).setCell ⟨w.heap.size + 1, 1, none⟩ (.int .i64 K)).setCell ⟨w.heap.size + 1, 2, none⟩ (.string S)).setCell ⟨w.heap.size + 1, 3, none⟩ (.int .i64 t))) := fun S =>
          below_put (below_put (below_put (below_put (below_put hN.below (Nat.le_refl _) (by omega) _) (by omega) (by rw [size_setCell]; omega) _) (by omega) (by rw [size_setCell, size_setCell]; omega) _) (by omega) (by rw [size_setCell, size_setCell, size_setCell]; omega) _) (by omega) (by rw [size_setCell, size_setCell, size_setCell, size_setCell]; omega) _
        have HB2 : Hid (∀ S S' : ByteArray, Below w.heap.size w ((((((wr.setCell ⟨w.heap.size, 2, none⟩ (.string S)).setCell ⟨w.heap.size, 2, none⟩ (.string S')).setCell ⟨w.heap.size + 1, 0, none⟩ (.int .i64 N)).setCell ⟨w.heap.size + 1, 1, none⟩ (.int .i64 K)).setCell ⟨w.heap.size + 1, 2, none⟩ (.string S')).setCell ⟨w.heap.size + 1, 3, none⟩ (.int .i64 t))) := fun S S' =>
          below_put (below_put (below_put (below_put (below_put (below_put hN.below (Nat.le_refl _) (by omega) _) (Nat.le_refl _) (by rw [size_setCell]; omega) _) (by omega) (by rw [size_setCell, size_setCell]; omega) _) (by omega) (by rw [size_setCell, size_setCell, size_setCell]; omega) _) (by omega) (by rw [size_setCell, size_setCell, size_setCell, size_setCell]; omega) _) (by omega) (by rw [size_setCell, size_setCell, size_setCell, size_setCell, size_setCell]; omega) _
        clear hN hG hlen
        by_cases hd : X.toList = [] ∨ X.toList = [46] ∨ X.toList = [46, 46]
        · have HEx : Hid (EFits N K ⟨#[120]⟩) := ⟨HE.out.1, HE.out.2, by decide +kernel⟩
          clear hnm HE
          rcases hd with hd | hd | hd
          all_goals
            go_wp2
            refine bodyPost_ret (v := ent N K ⟨#[120]⟩ t) (by simp [results, Try.results6, go_sem, d0, d1, d2, d3]) rfl ⟨N, K, _, rfl, HEx.out, HB2.out _ _⟩
        · have HEx : Hid (EFits N K X) := ⟨HE.out.1, HE.out.2, hnm hd⟩
          have e1 : X.toList.isEmpty = false := by simp; intro h; exact hd (.inl h)
          have e2 : (X.toList == [46]) = false := by simp; intro h; exact hd (.inr (.inl h))
          have e3 : (X.toList == [46, 46]) = false := by simp; intro h; exact hd (.inr (.inr h))
          clear hnm HE hd
          go_wp2
          refine bodyPost_ret (v := ent N K X t) (by simp [results, Try.results6, go_sem, d0, d1, d2, d3]) rfl ⟨N, K, _, rfl, HEx.out, HB1.out _⟩
  · have hgt' : ¬ 54 < (s.size : Int) := by omega
    have HN := Hid.mk (HNew.out s.size (Nat.le_refl _))
    have hs54 : s.size ≤ 54 := by omega
    clear HNew
    go_wp2
    clear hcv c2 f2 n2
    go_loopw [4] (fun i wr => ∃ j : Nat, j ≤ s.size ∧ i = .int .i64 j ∧ ∃ l, NAt w wr N K s t w1.heap.size s.size l ∧ Good l j) (fun i _ => s.size - (intOf i).toNat)
    case atStart => exact ⟨0, Nat.zero_le _, rfl, _, HN.out, fun q hq => by omega⟩
    case round =>
      clear HN
      obtain ⟨j, hj, rfl, l, hN, hG⟩ := hrel
      have hlen := hN.len
      by_cases hlt : j < s.size
      · have hlt' : (j : Int) < (s.size : Int) := by omega
        have cj := hN.cell j hlt
        have fj := hN.open_ j hlt
        have HNj := Hid.mk hN
        have HGj := Hid.mk hG
        have hx0 := hN.bytes
        generalize hX : l.getD j 0 = x at *
        clear hN hG hx0
        by_cases h47 : x = 47
        · have e47 : (x == 47) = true := by rw [beq_iff_eq]; exact h47
          have HNn := Hid.mk (HNj.out.put j hlt)
          have HGn := Hid.mk (HGj.out.set (by omega))
          clear HNj HGj h47 hX
          go_wp2
          go_roundw
          case rel => exact ⟨j + 1, by omega, by go_num, _, HNn.out, HGn.out⟩
          case measure => simp [intOf]; omega
        · have e47 : (x == 47) = false := by rw [Bool.eq_false_iff, ne_eq, beq_iff_eq]; exact h47
          by_cases h0 : x = 0
          · have e0 : (x == 0) = true := by rw [beq_iff_eq]; exact h0
            have HNn := Hid.mk (HNj.out.put j hlt)
            have HGn := Hid.mk (HGj.out.set (by omega))
            clear HNj HGj h47 hX h0
            go_wp2
            go_roundw
            case rel => exact ⟨j + 1, by omega, by go_num, _, HNn.out, HGn.out⟩
            case measure => simp [intOf]; omega
          · have e0 : (x == 0) = false := by rw [Bool.eq_false_iff, ne_eq, beq_iff_eq]; exact h0
            have HGn := Hid.mk (HGj.out.next (by rw [hX]; exact h47) (by rw [hX]; exact h0))
            clear HGj h47 hX h0
            go_wp2
            go_roundw
            case rel => exact ⟨j + 1, by omega, by go_num, _, HNj.out, HGn.out⟩
            case measure => simp [intOf]; omega
      · have hlt' : ¬ (j : Int) < (s.size : Int) := by omega
        have hjm : j = s.size := by omega
        subst hjm
        have hcv2 := run_convert_bytes_arg (P := Try.prog) wr 36 5 Try.underlying36 Try.underlying5 w1.heap.size 0 s.size C l hN.len (fun i hi => by rw [Nat.zero_add]; exact hN.cell i hi) 9 Try.underlying9
        have hnm := fun h0 => name_good hN.bytes (by omega) (by rw [hlen]; exact hG) h0
        generalize strOfNums l = X at *
        have c0 := cell_of_block hN.par (j := 0) (u := .int .i64 N) rfl
        have c1 := cell_of_block hN.par (j := 1) (u := .int .i64 K) rfl
        have c2 := cell_of_block hN.par (j := 2) (u := .string s) rfl
        have c3 := cell_of_block hN.par (j := 3) (u := .int .i64 t) rfl
        have f2 := frozen_of_block hN.par 2
        have d0 := cell_of_block hN.res (j := 0) (u := .int .i64 0) rfl
        have d1 := cell_of_block hN.res (j := 1) (u := .int .i64 0) rfl
        have d2 := cell_of_block hN.res (j := 2) (u := .string ⟨#[]⟩) rfl
        have d3 := cell_of_block hN.res (j := 3) (u := .int .i64 0) rfl
        have g0 := frozen_of_block hN.res 0
        have g1 := frozen_of_block hN.res 1
        have g2 := frozen_of_block hN.res 2
        have g3 := frozen_of_block hN.res 3
        have HE := Hid.mk (show (1 ≤ N ∧ N ≤ 1024) ∧ (1 ≤ K ∧ K ≤ 3) from ⟨⟨N1, N2⟩, ⟨K1, K2⟩⟩)
        have hsz := (Array.getElem?_eq_some_iff.1 hN.res).1
        have HB1 : Hid (∀ S : ByteArray, Below w.heap.size w (((((wr.setCell ⟨w.heap.size, 2, none⟩ (.string S)).setCell ⟨w.heap.size + 1, 0, none⟩ (.int .i64 N)).setCell ⟨w.heap.size + 1, 1, none⟩ (.int .i64 K)).setCell ⟨w.heap.size + 1, 2, none⟩ (.string S)).setCell ⟨w.heap.size + 1, 3, none⟩ (.int .i64 t))) := fun S =>
          below_put (below_put (below_put (below_put (below_put hN.below (Nat.le_refl _) (by omega) _) (by omega) (by rw [size_setCell]; omega) _) (by omega) (by rw [size_setCell, size_setCell]; omega) _) (by omega) (by rw [size_setCell, size_setCell, size_setCell]; omega) _) (by omega) (by rw [size_setCell, size_setCell, size_setCell, size_setCell]; omega) _
        have HB2 : Hid (∀ S S' : ByteArray, Below w.heap.size w ((((((wr.setCell ⟨w.heap.size, 2, none⟩ (.string S)).setCell ⟨w.heap.size, 2, none⟩ (.string S')).setCell ⟨w.heap.size + 1, 0, none⟩ (.int .i64 N)).setCell ⟨w.heap.size + 1, 1, none⟩ (.int .i64 K)).setCell ⟨w.heap.size + 1, 2, none⟩ (.string S')).setCell ⟨w.heap.size + 1, 3, none⟩ (.int .i64 t))) := fun S S' =>
          below_put (below_put (below_put (below_put (below_put (below_put hN.below (Nat.le_refl _) (by omega) _) (Nat.le_refl _) (by rw [size_setCell]; omega) _) (by omega) (by rw [size_setCell, size_setCell]; omega) _) (by omega) (by rw [size_setCell, size_setCell, size_setCell]; omega) _) (by omega) (by rw [size_setCell, size_setCell, size_setCell, size_setCell]; omega) _) (by omega) (by rw [size_setCell, size_setCell, size_setCell, size_setCell, size_setCell]; omega) _
        clear hN hG hlen
        by_cases hd : X.toList = [] ∨ X.toList = [46] ∨ X.toList = [46, 46]
        · have HEx : Hid (EFits N K ⟨#[120]⟩) := ⟨HE.out.1, HE.out.2, by decide +kernel⟩
          clear hnm HE
          rcases hd with hd | hd | hd
          all_goals
            go_wp2
            refine bodyPost_ret (v := ent N K ⟨#[120]⟩ t) (by simp [results, Try.results6, go_sem, d0, d1, d2, d3]) rfl ⟨N, K, _, rfl, HEx.out, HB2.out _ _⟩
        · have HEx : Hid (EFits N K X) := ⟨HE.out.1, HE.out.2, hnm hd⟩
          have e1 : X.toList.isEmpty = false := by simp; intro h; exact hd (.inl h)
          have e2 : (X.toList == [46]) = false := by simp; intro h; exact hd (.inr (.inl h))
          have e3 : (X.toList == [46, 46]) = false := by simp; intro h; exact hd (.inr (.inr h))
          clear hnm HE hd
          go_wp2
          refine bodyPost_ret (v := ent N K X t) (by simp [results, Try.results6, go_sem, d0, d1, d2, d3]) rfl ⟨N, K, _, rfl, HEx.out, HB1.out _⟩
end Go.Proofs.Ytcpmapknmkholaa
end

section
namespace Go.Proofs.Ytcpmapknmkholaa
open Go.RowKit

theorem part_appr (A B : List Int) (q m : Nat) : part (A ++ B) (A.length + q) m = part B q m := by
  unfold part
  rw [List.drop_append, List.drop_eq_nil_of_le (by omega)]
  simp
theorem part_low0 (A B : List Int) (m : Nat) (h : m = A.length) : part (A ++ B) 0 m = A := by
  subst h
  simp [part]
theorem leb_take (n k : Nat) : (leb n k).take n = leb n k := List.take_of_length_le (by rw [leb_len]; omega)
theorem ptrs_at (d : Nat → Nat) : ∀ (n i : Nat), i < n → part (ptrs d n) (4 * i) 4 = leb 4 (d i)
  | 0, _, h => by omega
  | n + 1, i, h => by
    by_cases e : i = n
    · subst e
      rw [ptrs, part_app _ _ _ _ (by rw [ptrs_len]), leb_take]
    · rw [ptrs, part_appl _ _ _ _ (by rw [ptrs_len]; omega)]
      exact ptrs_at d n i (by omega)
section
variable (k l p s o : Nat) (d : Nat → Nat)
theorem b10 {q m : Nat} (h : q + m ≤ 72) : part (nodeBody k l p s o d) q m = part (nb10 k l p s o d) q m := part_appl _ _ _ _ (by rw [nb10_len]; exact h)
theorem b9 {q m : Nat} (h : q + m ≤ 68) : part (nodeBody k l p s o d) q m = part (nb9 k l p s o d) q m := (b10 k l p s o d (by omega)).trans (part_appl _ _ _ _ (by rw [nb9_len]; exact h))
theorem b8 {q m : Nat} (h : q + m ≤ 64) : part (nodeBody k l p s o d) q m = part (nb8 k l p s o d) q m := (b9 k l p s o d (by omega)).trans (part_appl _ _ _ _ (by rw [nb8_len]; exact h))
theorem b7 {q m : Nat} (h : q + m ≤ 24) : part (nodeBody k l p s o d) q m = part (nb7 k l p s o) q m := (b8 k l p s o d (by omega)).trans (part_appl _ _ _ _ (by rw [nb7_len]; exact h))
theorem b6 {q m : Nat} (h : q + m ≤ 20) : part (nodeBody k l p s o d) q m = part (nb6 k l p s o) q m := (b7 k l p s o d (by omega)).trans (part_appl _ _ _ _ (by rw [nb6_len]; exact h))
theorem b5 {q m : Nat} (h : q + m ≤ 16) : part (nodeBody k l p s o d) q m = part (nb5 k l p s) q m := (b6 k l p s o d (by omega)).trans (part_appl _ _ _ _ (by rw [nb5_len]; exact h))
theorem b4 {q m : Nat} (h : q + m ≤ 8) : part (nodeBody k l p s o d) q m = part (nb4 k l p) q m := (b5 k l p s o d (by omega)).trans (part_appl _ _ _ _ (by rw [nb4_len]; exact h))
theorem b3 {q m : Nat} (h : q + m ≤ 4) : part (nodeBody k l p s o d) q m = part (nb3 k l) q m := (b4 k l p s o d (by omega)).trans (part_appl _ _ _ _ (by rw [nb3_len]; exact h))
theorem b2 {q m : Nat} (h : q + m ≤ 2) : part (nodeBody k l p s o d) q m = part (nb2 k) q m := (b3 k l p s o d (by omega)).trans (part_appl _ _ _ _ (by rw [nb2_len]; exact h))
theorem fk (h : k < 256) : u8 (nodeBody k l p s o d) 0 = k := by
  unfold u8
  rw [b2 k l p s o d (by omega), nb2, part_low0 _ _ _ (by rw [nb1_len]), nb1, le_leb _ _ (by omega)]
theorem fl (h : l < 65536) : u16 (nodeBody k l p s o d) 2 = l := by
  unfold u16
  rw [b3 k l p s o d (by omega), nb3, part_app _ _ _ _ (by rw [nb2_len]), leb_take, le_leb _ _ (by omega)]
theorem fp (h : p < 4294967296) : u32 (nodeBody k l p s o d) 4 = p := by
  unfold u32
  rw [b4 k l p s o d (by omega), nb4, part_app _ _ _ _ (by rw [nb3_len]), leb_take, le_leb _ _ (by omega)]
theorem fs (h : s < 9223372036854775808) : s64 (nodeBody k l p s o d) 8 = (s : Int) := by
  unfold s64
  rw [b5 k l p s o d (by omega), nb5, part_app _ _ _ _ (by rw [nb4_len]), leb_take, le_leb _ _ (by omega)]
  unfold wrap64
  omega
theorem fo (h : o < 4294967296) : u32 (nodeBody k l p s o d) 16 = o := by
  unfold u32
  rw [b6 k l p s o d (by omega), nb6, part_app _ _ _ _ (by rw [nb5_len]), leb_take, le_leb _ _ (by omega)]
theorem fd (h : ∀ i, i < 12 → d i < 4294967296) (i : Nat) (hi : i < 12) : u32 (nodeBody k l p s o d) (24 + 4 * i) = d i := by
  unfold u32
  have hd := h i hi
  by_cases e1 : i = 11
  · subst e1
    rw [b10 k l p s o d (by omega), nb10, part_app _ _ _ _ (by rw [nb9_len]), leb_take, le_leb _ _ (by omega)]
  · by_cases e2 : i = 10
    · subst e2
      rw [b9 k l p s o d (by omega), nb9, part_app _ _ _ _ (by rw [nb8_len]), leb_take, le_leb _ _ (by omega)]
    · have := part_appr (nb7 k l p s o) (ptrs d 10) (4 * i) 4
      rw [nb7_len] at this
      rw [b8 k l p s o d (by omega), nb8, this, ptrs_at d 10 i (by omega), le_leb _ _ (by omega)]
theorem fz1 : Zeros (part (nodeBody k l p s o d) 1 1) := by
  rw [b2 k l p s o d (by omega), nb2, part_app _ _ _ _ (by rw [nb1_len])]
  intro x hx
  exact (List.mem_replicate.1 (List.mem_of_mem_take hx)).2
theorem fz2 : Zeros (part (nodeBody k l p s o d) 20 4) := by
  rw [b7 k l p s o d (by omega), nb7, part_app _ _ _ _ (by rw [nb6_len])]
  intro x hx
  exact (List.mem_replicate.1 (List.mem_of_mem_take hx)).2
theorem fz3 : Zeros (part (nodeBody k l p s o d) 72 52) := by
  rw [nodeBody, part_app _ _ _ _ (by rw [nb10_len])]
  intro x hx
  exact (List.mem_replicate.1 (List.mem_of_mem_take hx)).2
end
theorem sealed_bytes {b : List Int} (hb : Bytes b) : Bytes (sealed b) := bytes_app hb (leb_bytes 4 (sumOf b))
theorem sealed_body {b : List Int} {n : Nat} (h : b.length = n) : part (sealed b) 0 n = b := part_low0 b _ n h.symm
theorem sealed_sum {b : List Int} (hb : Bytes b) (hl : 0 < b.length) : SumOk (sealed b) := by
  unfold SumOk
  rw [sealed_len, show b.length + 4 - 4 = b.length by omega, sealed_body rfl]
  show le (part (b ++ leb 4 (sumOf b)) b.length 4) = _
  rw [part_app _ _ _ _ rfl, leb_take, le_leb _ _ (by have := sumOf_lt hb; omega)]
/-- What is encoded is decoded to the same. -/
theorem dec_enc {x y : NV} {b : List Int} {E E' : Int} (hf : NFits x.k x.l x.p x.s x.o x.d) (he : EncR x b E) (hd : DecR b y E') : E = 0 ∧ E' = 0 ∧ b.length = 128 ∧ Bytes b ∧ NSame x.k x.l x.p x.s x.o x.d y.k y.l y.p y.s y.o y.d := by
  rcases he with ⟨h0, _⟩ | ⟨_, _, rfl, rfl⟩ | ⟨_, hn, _⟩
  · have h1 := hf.1.1
    have h2 := h0.1
    omega
  · obtain ⟨hk, hl, hp, hs, ho, hdd⟩ := hf
    have hp0 : 0 ≤ x.p ∧ x.p ≤ 1024 := by rcases hp with hp | hp <;> omega
    have hdi : ∀ i, i < 12 → (x.d i).toNat < 4294967296 ∧ (((x.d i).toNat : Nat) : Int) = x.d i := fun i hi => by
      have := (pf_iff (x.d i)).1 (hdd i hi)
      omega
    have hbl := nodeBody_len x.k.toNat x.l.toNat x.p.toNat x.s.toNat x.o.toNat (fun i => (x.d i).toNat)
    have hbb := nodeBody_bytes x.k.toNat x.l.toNat x.p.toNat x.s.toNat x.o.toNat (fun i => (x.d i).toNat)
    have hpart := sealed_body hbl
    have a0 := fk x.k.toNat x.l.toNat x.p.toNat x.s.toNat x.o.toNat (fun i => (x.d i).toNat) (by omega)
    have a1 := fl x.k.toNat x.l.toNat x.p.toNat x.s.toNat x.o.toNat (fun i => (x.d i).toNat) (by omega)
    have a2 := fp x.k.toNat x.l.toNat x.p.toNat x.s.toNat x.o.toNat (fun i => (x.d i).toNat) (by omega)
    have a3 := fs x.k.toNat x.l.toNat x.p.toNat x.s.toNat x.o.toNat (fun i => (x.d i).toNat) (by omega)
    have a4 := fo x.k.toNat x.l.toNat x.p.toNat x.s.toNat x.o.toNat (fun i => (x.d i).toNat) (by omega)
    have a5 := fd x.k.toNat x.l.toNat x.p.toNat x.s.toNat x.o.toNat (fun i => (x.d i).toNat) (fun i hi => (hdi i hi).1)
    have z1 := fz1 x.k.toNat x.l.toNat x.p.toNat x.s.toNat x.o.toNat (fun i => (x.d i).toNat)
    have z2 := fz2 x.k.toNat x.l.toNat x.p.toNat x.s.toNat x.o.toNat (fun i => (x.d i).toNat)
    have z3 := fz3 x.k.toNat x.l.toNat x.p.toNat x.s.toNat x.o.toNat (fun i => (x.d i).toNat)
    generalize nodeBody x.k.toNat x.l.toNat x.p.toNat x.s.toNat x.o.toNat (fun i => (x.d i).toNat) = B at *
    have hlen : (sealed B).length = 128 := by rw [sealed_len]; omega
    have e0 : ((u8 B 0 : Nat) : Int) = x.k := by rw [a0]; omega
    have e1 : ((u16 B 2 : Nat) : Int) = x.l := by rw [a1]; omega
    have e2 : ((u32 B 4 : Nat) : Int) = x.p := by rw [a2]; omega
    have e3 : s64 B 8 = x.s := by rw [a3]; omega
    have e4 : ((u32 B 16 : Nat) : Int) = x.o := by rw [a4]; omega
    have e5 : ∀ i, i < 12 → ((u32 B (24 + 4 * i) : Nat) : Int) = x.d i := fun i hi => by rw [a5 i hi]; exact (hdi i hi).2
    have hok : NodeOk (sealed B) := by
      refine ⟨sealed_sum hbb (by omega), ?_⟩
      rw [hpart]
      refine ⟨z1, z2, z3, ?_⟩
      rw [e0, e1, e2, e3, e4]
      refine ⟨hk, hl, hp, hs, ho, fun i hi => ?_⟩
      show PF ((u32 B (24 + 4 * i) : Nat) : Int)
      rw [e5 i hi]
      exact hdd i hi
    have hnz : ¬ Zeros (sealed B) := fun hz => by
      have h1 : u8 B 0 = 0 := by
        have := le_zeros (zeros_part (zeros_part hz 0 124) 0 1)
        rw [hpart] at this
        exact this
      rw [h1] at e0
      have := hk.1
      omega
    rcases hd with ⟨h, _⟩ | ⟨_, h, _⟩ | ⟨_, _, _, rfl, rfl⟩ | ⟨_, _, h, _⟩
    · exact absurd hlen h
    · exact absurd h hnz
    · rw [hpart]
      exact ⟨rfl, rfl, hlen, sealed_bytes hbb, e0.symm, e1.symm, e2.symm, e3.symm, e4.symm, fun i hi => (e5 i hi).symm⟩
    · exact absurd hok h
  · exact absurd hf hn
theorem str_txt (s : ByteArray) : strOfNums (txt s) = s := by
  cases s with
  | mk a =>
    have e : ((fun n : Int => UInt8.ofNat n.toNat) ∘ fun b : UInt8 => ((b.toNat : Nat) : Int)) = id := by
      funext b
      simp
    unfold strOfNums txt
    rw [List.map_map, e]
    simp
/-- The same of an entry. -/
theorem ent_same {n k : Int} {s : ByteArray} (hf : EFits n k s) : (entEnc n k s).2 = 0 ∧ (entEnc n k s).1.length = 64 ∧ Bytes (entEnc n k s).1 ∧ entDec (entEnc n k s).1 = (n, k, s, 0) := by
  have hN : ¬ ENone n k s := fun h => by have h1 := hf.1.1; have h2 := h.1; omega
  rcases entEnc_cases n k s with ⟨h, _⟩ | ⟨_, _, e⟩ | ⟨_, h, _⟩
  · exact absurd h hN
  · rw [e]
    obtain ⟨hn, hk, hnm⟩ := hf
    obtain ⟨s0, s1⟩ := name_ok hnm
    have hbl : (entBody n.toNat k.toNat s).length = 60 := entBody_len _ _ s1
    have hbb := entBody_bytes n.toNat k.toNat s
    have hlen : (sealed (entBody n.toNat k.toNat s)).length = 64 := by rw [sealed_len]; omega
    have hp : ∀ q m, q + m ≤ 60 → part (sealed (entBody n.toNat k.toNat s)) q m = part (entBody n.toNat k.toNat s) q m := fun q m h => part_appl _ _ _ _ (by omega)
    have q0 : u32 (sealed (entBody n.toNat k.toNat s)) 0 = n.toNat := by
      unfold u32
      rw [hp 0 4 (by omega)]
      unfold entBody
      rw [part_appl _ _ _ _ (by simp only [List.length_append, leb_len, txt_len]; omega), part_appl _ _ _ _ (by simp only [List.length_append, leb_len]; omega), part_appl _ _ _ _ (by simp only [List.length_append, leb_len]; omega), part_low0 _ _ _ (by rw [leb_len]), le_leb _ _ (by omega)]
    have q4 : u8 (sealed (entBody n.toNat k.toNat s)) 4 = k.toNat := by
      unfold u8
      rw [hp 4 1 (by omega)]
      unfold entBody
      rw [part_appl _ _ _ _ (by simp only [List.length_append, leb_len, txt_len]; omega), part_appl _ _ _ _ (by simp only [List.length_append, leb_len]; omega), part_appl _ _ _ _ (by simp only [List.length_append, leb_len]; omega), part_app _ _ _ _ (by rw [leb_len]), leb_take, le_leb _ _ (by omega)]
    have q5 : u8 (sealed (entBody n.toNat k.toNat s)) 5 = s.size := by
      unfold u8
      rw [hp 5 1 (by omega)]
      unfold entBody
      rw [part_appl _ _ _ _ (by simp only [List.length_append, leb_len, txt_len]; omega), part_appl _ _ _ _ (by simp only [List.length_append, leb_len]; omega), part_app _ _ _ _ (by simp only [List.length_append, leb_len]), leb_take, le_leb _ _ (by omega)]
    have qn : nm (sealed (entBody n.toNat k.toNat s)) = s := by
      unfold nm
      rw [q5, hp 6 s.size (by omega)]
      unfold entBody
      rw [part_appl _ _ _ _ (by simp only [List.length_append, leb_len, txt_len]; omega), part_app _ _ _ _ (by simp only [List.length_append, leb_len]), List.take_of_length_le (by rw [txt_len]; omega)]
      exact str_txt s
    have hn' : ((n.toNat : Nat) : Int) = n := by omega
    have hk' : ((k.toNat : Nat) : Int) = k := by omega
    have hok : okB (sealed (entBody n.toNat k.toNat s)) = true := by
      unfold okB
      rw [q0, q4, q5, qn, hn', hk', e]
      simp [s1]
    refine ⟨rfl, hlen, sealed_bytes hbb, ?_⟩
    rw [entDec_ok hlen hok, q0, q4, qn, hn', hk']
  · exact absurd hf h
/-- The same of a superblock. -/
theorem sup_same {s l n : Int} (hg : Geo s l n) : (supEnc s l n).2 = 0 ∧ (supEnc s l n).1.length = 512 ∧ Bytes (supEnc s l n).1 ∧ supDec (supEnc s l n).1 = (s, l, n, 0) := by
  have e : supEnc s l n = (sealed (supBody s.toNat l.toNat n.toNat), 0) := by unfold supEnc; rw [if_pos ((geoB_iff s l n).2 hg)]
  rw [e]
  have hg' := hg
  obtain ⟨⟨h1, h2⟩, ⟨h3, h4⟩, h5, h6, h7⟩ := hg
  have hlen := sealed_sup s.toNat l.toNat n.toNat
  have hhead : headL.length = 8 := rfl
  have hp : ∀ q m, q + m ≤ 508 → part (sealed (supBody s.toNat l.toNat n.toNat)) q m = part (supBody s.toNat l.toNat n.toNat) q m := fun q m h => part_appl _ _ _ _ (by rw [supBody_len]; exact h)
  have q8 : u32 (sealed (supBody s.toNat l.toNat n.toNat)) 8 = s.toNat := by
    unfold u32
    rw [hp 8 4 (by omega)]
    unfold supBody
    rw [part_appl _ _ _ _ (by simp only [List.length_append, leb_len, hhead]; omega), part_appl _ _ _ _ (by simp only [List.length_append, leb_len, hhead]; omega), part_appl _ _ _ _ (by simp only [List.length_append, leb_len, hhead]; omega), part_app _ _ _ _ hhead.symm, leb_take, le_leb _ _ (by omega)]
  have q12 : u32 (sealed (supBody s.toNat l.toNat n.toNat)) 12 = l.toNat := by
    unfold u32
    rw [hp 12 4 (by omega)]
    unfold supBody
    rw [part_appl _ _ _ _ (by simp only [List.length_append, leb_len, hhead]; omega), part_appl _ _ _ _ (by simp only [List.length_append, leb_len, hhead]; omega), part_app _ _ _ _ (by simp only [List.length_append, leb_len, hhead]), leb_take, le_leb _ _ (by omega)]
  have q16 : u32 (sealed (supBody s.toNat l.toNat n.toNat)) 16 = n.toNat := by
    unfold u32
    rw [hp 16 4 (by omega)]
    unfold supBody
    rw [part_appl _ _ _ _ (by simp only [List.length_append, leb_len, hhead]; omega), part_app _ _ _ _ (by simp only [List.length_append, leb_len, hhead]), leb_take, le_leb _ _ (by omega)]
  have e1 : ((s.toNat : Nat) : Int) = s := by omega
  have e2 : ((l.toNat : Nat) : Int) = l := by omega
  have e3 : ((n.toNat : Nat) : Int) = n := by omega
  refine ⟨rfl, hlen, sealed_bytes (supBody_bytes _ _ _), ?_⟩
  have hr : refB (sealed (supBody s.toNat l.toNat n.toNat)) = true := by
    rw [refB_iff]
    refine ⟨?_, ?_⟩
    · rw [q8, q12, q16, e1, e2, e3]; exact hg'
    · rw [q8, q12, q16]
  unfold supDec
  rw [if_neg (fun h => h hlen), if_pos hr, q8, q12, q16, e1, e2, e3]
end Go.Proofs.Ytcpmapknmkholaa
end

section
namespace Go.Proofs.Ytcpmapknmkholaa
open Go.ChangeShapes Go.WideShapes Go.ChangeAt Go.RowKit Go.Deep

theorem ownKnobs : ownKnob Try.prog.godebug = none := by kernel_rfl
theorem laidOut : laidOutB Try.prog = true := by kernel_rfl
theorem bytesU8 : Try.prog.bytesOf 5 = 1 := by kernel_rfl
theorem cellsU8 : Try.prog.cellsOf 5 = 1 := by kernel_rfl
theorem cellsInt : Try.prog.cellsOf 3 = 1 := by kernel_rfl
theorem cellsBytes : Try.prog.cellsOf 36 = 1 := by kernel_rfl

/-- An int's bounds. -/
def I64 (n : Int) : Prop := -9223372036854775808 ≤ n ∧ n ≤ 9223372036854775807
theorem int_wf {n : Int} (h : (Lit.int .i64 n).wf = true) : I64 n := by
  have := h
  simp [Lit.wf, IntKind.min, IntKind.max, IntKind.bits, IntKind.signed] at this
  unfold I64
  omega
theorem u8_wf {n : Int} (h : (Lit.int .u8 n).wf = true) : 0 ≤ n ∧ n < 256 := by
  have := h
  simp [Lit.wf, IntKind.min, IntKind.max, IntKind.bits, IntKind.signed] at this
  omega

section
variable {H : Type} {enc : TypeId × Value → H} {W : World} {base : Nat} {spare : Nat → Bool} {held : Bool}

theorem weightsAll_mem {P : Program} {e : TypeId} {n : Nat} : ∀ {ds : List (DataW H)} {d : DataW H}, d ∈ ds → n ∈ d.weights P e → n ∈ DataW.weightsAll P e ds
  | d :: r, d', hd, hn => by
    rw [DataW.weightsAll]
    rcases List.mem_cons.1 hd with rfl | h
    · exact List.mem_append_left _ hn
    · exact List.mem_append_right _ (weightsAll_mem h hn)

theorem trod3 {P : Program} {e : TypeId} {f0 f1 f2 : Field} {n : Nat} {cs : List Value} {x : DataW H × List MemPlace} (he : P.underlying e = some (.struct #[f0, f1, f2])) (ce : P.cellsOf e = 3) (o0 : f0.offset = 0) (o1 : f1.offset = 1) (o2 : f2.offset = 2)
    (c0 : P.cellsOf f0.type = 1) (c1 : P.cellsOf f1.type = 1) (c2 : P.cellsOf f2.type = 1) (h : DataW.trod enc P W base spare held n e cs = some x) :
    ∃ v0 v1 v2 y0 y1 y2 k, cs = [v0, v1, v2] ∧ x.1 = .agg [y0.1, y1.1, y2.1] ∧ DataW.trod enc P W base spare held k f0.type [v0] = some y0 ∧ DataW.trod enc P W base spare held k f1.type [v1] = some y1 ∧ DataW.trod enc P W base spare held k f2.type [v2] = some y2 := by
  obtain ⟨xs, k, _, hxy, hlen, hxl, hf⟩ := DataW.trod_struct he h
  rw [ce] at hlen
  match xs, hxl, cs, hlen with
  | [y0, y1, y2], _, [v0, v1, v2], _ =>
    have g0 := hf 0 f0 rfl
    have g1 := hf 1 f1 rfl
    have g2 := hf 2 f2 rfl
    simp [o0, o1, o2, c0, c1, c2] at g0 g1 g2
    exact ⟨v0, v1, v2, y0, y1, y2, k, rfl, by rw [hxy]; rfl, g0, g1, g2⟩

theorem open_bytes {fuel : Nat} {v : Value} {d : DataW H} {pl : List MemPlace} (h : DataW.trod enc Try.prog W base spare held fuel 36 [v] = some (d, pl)) (hw : ∀ n ∈ d.weights Try.prog 36, n ≤ reachBytes) :
    ∃ a n c l, v = .slice a n c ∧ Src W a n l ∧ Bytes l ∧ n ≤ c ∧ n ≤ 140737488355328 := by
  rcases open_ints Try.underlying36 Try.underlying5 cellsU8 h with ⟨hcs, _⟩ | ⟨x, l, c, zs, hcs, _, hl, hm, hz, hd, hcell, hwz⟩
  · simp only [List.cons.injEq, and_true] at hcs
    exact ⟨none, 0, 0, [], hcs, ⟨rfl, fun _ => rfl, fun x hx => by cases hx⟩, (fun x hx => by cases hx), Nat.le_refl _, Nat.zero_le _⟩
  · simp only [List.cons.injEq, and_true] at hcs
    simp only [Prod.mk.injEq] at hd
    obtain ⟨rfl, rfl⟩ := hd
    have hzl : l ≤ zs.length := by rw [hz]; split <;> omega
    have h1 := hw ((((lits IntKind.u8 (zs.take l) : List (DataW H))).length + ((lits IntKind.u8 (zs.drop l) : List (DataW H))).length) * Try.prog.bytesOf 5) (by simp [DataW.weights, Try.underlying36])
    rw [bytesU8] at h1
    simp only [lits, List.length_map, List.length_take, List.length_drop, reachBytes] at h1
    refine ⟨some x, l, c, zs.take l, hcs, ⟨by simp; omega, (fun h => by cases h), fun y hy i hi => ?_⟩, fun z hz => u8_wf (hwz z (List.mem_of_mem_take hz)), hl, by omega⟩
    cases hy
    rw [hcell i (by omega)]
    simp [List.getD, hi]
end
end Go.Proofs.Ytcpmapknmkholaa
end

section
namespace Go.Proofs.Ytcpmapknmkholaa
open Go.ChangeShapes Go.WideShapes Go.ChangeAt Go.RowKit Go.Deep

theorem cellsNode : Try.prog.cellsOf 27 = 17 := by kernel_rfl
theorem cellsTen : Try.prog.cellsOf 25 = 10 := by kernel_rfl
theorem bytesNode : Try.prog.bytesOf 27 = 136 := by kernel_rfl

section
variable {H : Type} {enc : TypeId × Value → H} {W : World} {base : Nat} {spare : Nat → Bool} {held : Bool}
theorem trod8 {P : Program} {e : TypeId} {f0 f1 f2 f3 f4 f5 f6 f7 : Field} {n : Nat} {cs : List Value} {x : DataW H × List MemPlace} (he : P.underlying e = some (.struct #[f0, f1, f2, f3, f4, f5, f6, f7])) (ce : P.cellsOf e = 17)
    (o0 : f0.offset = 0) (o1 : f1.offset = 1) (o2 : f2.offset = 2) (o3 : f3.offset = 3) (o4 : f4.offset = 4) (o5 : f5.offset = 5) (o6 : f6.offset = 15) (o7 : f7.offset = 16)
    (c0 : P.cellsOf f0.type = 1) (c1 : P.cellsOf f1.type = 1) (c2 : P.cellsOf f2.type = 1) (c3 : P.cellsOf f3.type = 1) (c4 : P.cellsOf f4.type = 1) (c5 : P.cellsOf f5.type = 10) (c6 : P.cellsOf f6.type = 1) (c7 : P.cellsOf f7.type = 1) (h : DataW.trod enc P W base spare held n e cs = some x) :
    ∃ v0 v1 v2 v3 v4 vs v6 v7 y0 y1 y2 y3 y4 y5 y6 y7 k, cs = v0 :: v1 :: v2 :: v3 :: v4 :: (vs ++ [v6, v7]) ∧ vs.length = 10 ∧ DataW.trod enc P W base spare held k f0.type [v0] = some y0 ∧ DataW.trod enc P W base spare held k f1.type [v1] = some y1 ∧ DataW.trod enc P W base spare held k f2.type [v2] = some y2 ∧ DataW.trod enc P W base spare held k f3.type [v3] = some y3 ∧ DataW.trod enc P W base spare held k f4.type [v4] = some y4 ∧ DataW.trod enc P W base spare held k f5.type vs = some y5 ∧ DataW.trod enc P W base spare held k f6.type [v6] = some y6 ∧ DataW.trod enc P W base spare held k f7.type [v7] = some y7 := by
  obtain ⟨xs, k, _, hxy, hlen, hxl, hf⟩ := DataW.trod_struct he h
  rw [ce] at hlen
  match xs, hxl with
  | [y0, y1, y2, y3, y4, y5, y6, y7], _ =>
    match cs, hlen with
    | [v0, v1, v2, v3, v4, a0, a1, a2, a3, a4, a5, a6, a7, a8, a9, v6, v7], _ =>
      have g0 := hf 0 f0 rfl
      have g1 := hf 1 f1 rfl
      have g2 := hf 2 f2 rfl
      have g3 := hf 3 f3 rfl
      have g4 := hf 4 f4 rfl
      have g5 := hf 5 f5 rfl
      have g6 := hf 6 f6 rfl
      have g7 := hf 7 f7 rfl
      simp [o0, o1, o2, o3, o4, o5, o6, o7, c0, c1, c2, c3, c4, c5, c6, c7] at g0 g1 g2 g3 g4 g5 g6 g7
      exact ⟨v0, v1, v2, v3, v4, [a0, a1, a2, a3, a4, a5, a6, a7, a8, a9], v6, v7, y0, y1, y2, y3, y4, y5, y6, y7, k, rfl, rfl, g0, g1, g2, g3, g4, g5, g6, g7⟩
theorem trod_ten {fuel : Nat} {vs : List Value} {y : DataW H × List MemPlace} (h : DataW.trod enc Try.prog W base spare held fuel 25 vs = some y) (i : Nat) (hi : i < 10) : ∃ a, vs[i]? = some (.int .i64 a) := by
  obtain ⟨xs, m, _, _, _, hxl, hf⟩ := DataW.trod_array Try.underlying25 h
  have g := hf i hi
  rw [cellsInt] at g
  obtain ⟨z, hz⟩ : ∃ z, xs[i]? = some z := ⟨xs[i]'(by omega), by simp [show i < xs.length by omega]⟩
  rw [hz] at g
  obtain ⟨a, ha, _, _⟩ := DataW.trod_int Try.underlying3 g
  refine ⟨a, ?_⟩
  have := congrArg (fun l => l[0]?) ha
  simpa using this
theorem open_node {fuel : Nat} {cs : List Value} {y : DataW H × List MemPlace} (h : DataW.trod enc Try.prog W base spare held fuel 27 cs = some y) : ∃ k l p s o dd, cs = ndl k l p s o dd := by
  obtain ⟨v0, v1, v2, v3, v4, vs, v6, v7, y0, y1, y2, y3, y4, y5, y6, y7, k', rfl, hvs, g0, g1, g2, g3, g4, g5, g6, g7⟩ := trod8 Try.underlying27 cellsNode rfl rfl rfl rfl rfl rfl rfl rfl cellsInt cellsInt cellsInt cellsInt cellsInt cellsTen cellsInt cellsInt h
  obtain ⟨n0, q0, _, _⟩ := DataW.trod_int Try.underlying3 g0
  obtain ⟨n1, q1, _, _⟩ := DataW.trod_int Try.underlying3 g1
  obtain ⟨n2, q2, _, _⟩ := DataW.trod_int Try.underlying3 g2
  obtain ⟨n3, q3, _, _⟩ := DataW.trod_int Try.underlying3 g3
  obtain ⟨n4, q4, _, _⟩ := DataW.trod_int Try.underlying3 g4
  obtain ⟨n6, q6, _, _⟩ := DataW.trod_int Try.underlying3 g6
  obtain ⟨n7, q7, _, _⟩ := DataW.trod_int Try.underlying3 g7
  simp only [List.cons.injEq, and_true] at q0 q1 q2 q3 q4 q6 q7
  subst q0 q1 q2 q3 q4 q6 q7
  have ht := trod_ten g5
  match vs, hvs with
  | [a0, a1, a2, a3, a4, a5, a6, a7, a8, a9], _ =>
    obtain ⟨b0, h0⟩ := ht 0 (by omega)
    obtain ⟨b1, h1⟩ := ht 1 (by omega)
    obtain ⟨b2, h2⟩ := ht 2 (by omega)
    obtain ⟨b3, h3⟩ := ht 3 (by omega)
    obtain ⟨b4, h4⟩ := ht 4 (by omega)
    obtain ⟨b5, h5⟩ := ht 5 (by omega)
    obtain ⟨b6, h6⟩ := ht 6 (by omega)
    obtain ⟨b7, h7⟩ := ht 7 (by omega)
    obtain ⟨b8, h8⟩ := ht 8 (by omega)
    obtain ⟨b9, h9⟩ := ht 9 (by omega)
    simp at h0 h1 h2 h3 h4 h5 h6 h7 h8 h9
    subst h0 h1 h2 h3 h4 h5 h6 h7 h8 h9
    exact ⟨n0, n1, n2, n3, n4, fun i => [b0, b1, b2, b3, b4, b5, b6, b7, b8, b9, n6, n7].getD i 0, rfl⟩

end
/-- A list of nodes that is only read. -/
def Nodes (w : World) (B : Nat) (a : Option Addr) (n : Nat) : Prop :=
  (a = none → n = 0) ∧ ∀ x, a = some x → ∀ i, i < n → ∃ b o, x = ⟨b, o, none⟩ ∧ b < B ∧ ∃ k l p s q d, w.rangeAt b (o + i * 17) (ndl k l p s q d)
theorem Nodes.far {w w' : World} {B : Nat} {a : Option Addr} {n : Nat} (h : Nodes w B a n) (hb : Below B w w') : Nodes w' B a n :=
  ⟨h.1, fun x hx i hi => by
    obtain ⟨b, o, rfl, h0, k, l, p, s, q, d, hr⟩ := h.2 x hx i hi
    exact ⟨b, o, rfl, h0, k, l, p, s, q, d, fun j v hv => (World.cell?_of_block (w := w) (a := ⟨b, _, none⟩) (hb.block b h0)).trans (hr j v hv)⟩⟩
section
variable {H : Type} {enc : TypeId × Value → H} {W : World} {base : Nat} {spare : Nat → Bool} {held : Bool}
theorem open_nodes {fuel : Nat} {v : Value} {d : DataW H} {pl : List MemPlace} (h : DataW.trod enc Try.prog W base spare held fuel 22 [v] = some (d, pl)) (hw : ∀ n ∈ d.weights Try.prog 22, n ≤ reachBytes) :
    ∃ a n c, v = .slice a n c ∧ Nodes W W.heap.size a n ∧ 136 * n ≤ 140737488355328 := by
  rcases open_slice Try.underlying22 h with ⟨hcs, _⟩ | ⟨x, len, cap, m, k, D, Pl, hcs, _, hl, hm, hmm, hd, hx⟩
  · simp only [List.cons.injEq, and_true] at hcs
    exact ⟨none, 0, 0, hcs, ⟨fun _ => rfl, (fun x hx => by cases hx)⟩, Nat.zero_le _⟩
  · simp only [List.cons.injEq, and_true] at hcs
    simp only [Prod.mk.injEq] at hd
    replace hd := hd.1
    subst hd
    have hlm : len ≤ m := by rw [hmm]; split <;> omega
    have h1 := hw ((((List.range len).map D).length + ((List.range (m - len)).map fun j => D (len + j)).length) * Try.prog.bytesOf 27) (by simp [DataW.weights, Try.underlying22])
    rw [bytesNode] at h1
    simp only [List.length_map, List.length_range, reachBytes] at h1
    rw [cellsNode] at hx
    refine ⟨some x, len, cap, hcs, ⟨(fun h => by cases h), fun y hy i hi => ?_⟩, by omega⟩
    cases hy
    obtain ⟨cs', e1, e2⟩ := hx i (by omega)
    obtain ⟨_, hlen, hcell⟩ := World.cells?_some e1
    obtain ⟨K, L, P, S, O, DD, rfl⟩ := open_node e2
    obtain ⟨cs0, z1, z2⟩ := hx 0 (by omega)
    obtain ⟨_, zlen, zcell⟩ := World.cells?_some z1
    obtain ⟨K0, L0, P0, S0, O0, D0, rfl⟩ := open_node z2
    have z0 := zcell 0 (by simp)
    rw [add_add] at z0
    obtain ⟨b, o, spot⟩ := x
    have hspot : spot = none := by simpa [Addr.add] using World.cell?_spot z0
    subst hspot
    rw [addr_add] at z0
    refine ⟨b, o, rfl, World.block_lt_of_cell? _ _ z0, K, L, P, S, O, DD, fun j v hv => ?_⟩
    have hj : j < 17 := (List.getElem?_eq_some_iff.1 hv).1
    have cj := hcell j (by simpa using hj)
    rw [add_add, addr_add] at cj
    rw [Nat.add_assoc, ← hv]
    simpa using cj
end
end Go.Proofs.Ytcpmapknmkholaa
end

section
namespace Go.Proofs.Ytcpmapknmkholaa
open Go.ChangeShapes Go.WideShapes Go.ChangeAt Go.RowKit Go.Deep

theorem bytesEnt : Try.prog.bytesOf 29 = 40 := by kernel_rfl
theorem cellsEnt : Try.prog.cellsOf 29 = 4 := by kernel_rfl

theorem cellsStr : Try.prog.cellsOf 9 = 1 := by kernel_rfl
/-- A list of entries that is only read. -/
def Entries (w : World) (B : Nat) (a : Option Addr) (n : Nat) : Prop :=
  (a = none → n = 0) ∧ ∀ x, a = some x → ∀ i, i < n → ∃ b o, x = ⟨b, o, none⟩ ∧ b < B ∧ ∃ (s l : Int) (x : ByteArray) (m : Int), w.cell? ⟨b, o + i * 4, none⟩ = some (.int .i64 s) ∧ w.cell? ⟨b, o + i * 4 + 1, none⟩ = some (.int .i64 l) ∧ w.cell? ⟨b, o + i * 4 + 2, none⟩ = some (.string x) ∧ w.cell? ⟨b, o + i * 4 + 3, none⟩ = some (.int .i64 m) ∧ x.size ≤ maxLen
theorem Entries.far {w w' : World} {B : Nat} {a : Option Addr} {n : Nat} (h : Entries w B a n) (hb : Below B w w') : Entries w' B a n :=
  ⟨h.1, fun x hx i hi => by
    obtain ⟨b, o, rfl, h0, s, l, y, m, h1, h2, h3, h3', h4⟩ := h.2 x hx i hi
    have e := hb.block b h0
    exact ⟨b, o, rfl, h0, s, l, y, m, (World.cell?_of_block (w := w) (a := ⟨b, _, none⟩) e).trans h1, (World.cell?_of_block (w := w) (a := ⟨b, _, none⟩) e).trans h2, (World.cell?_of_block (w := w) (a := ⟨b, _, none⟩) e).trans h3, (World.cell?_of_block (w := w) (a := ⟨b, _, none⟩) e).trans h3', h4⟩⟩

section
variable {H : Type} {enc : TypeId × Value → H} {W : World} {base : Nat} {spare : Nat → Bool} {held : Bool}
theorem trod4 {P : Program} {e : TypeId} {f0 f1 f2 f3 : Field} {n : Nat} {cs : List Value} {x : DataW H × List MemPlace} (he : P.underlying e = some (.struct #[f0, f1, f2, f3])) (ce : P.cellsOf e = 4) (o0 : f0.offset = 0) (o1 : f1.offset = 1) (o2 : f2.offset = 2) (o3 : f3.offset = 3)
    (c0 : P.cellsOf f0.type = 1) (c1 : P.cellsOf f1.type = 1) (c2 : P.cellsOf f2.type = 1) (c3 : P.cellsOf f3.type = 1) (h : DataW.trod enc P W base spare held n e cs = some x) :
    ∃ v0 v1 v2 v3 y0 y1 y2 y3 k, cs = [v0, v1, v2, v3] ∧ x.1 = .agg [y0.1, y1.1, y2.1, y3.1] ∧ DataW.trod enc P W base spare held k f0.type [v0] = some y0 ∧ DataW.trod enc P W base spare held k f1.type [v1] = some y1 ∧ DataW.trod enc P W base spare held k f2.type [v2] = some y2 ∧ DataW.trod enc P W base spare held k f3.type [v3] = some y3 := by
  obtain ⟨xs, k, _, hxy, hlen, hxl, hf⟩ := DataW.trod_struct he h
  rw [ce] at hlen
  match xs, hxl, cs, hlen with
  | [y0, y1, y2, y3], _, [v0, v1, v2, v3], _ =>
    have g0 := hf 0 f0 rfl
    have g1 := hf 1 f1 rfl
    have g2 := hf 2 f2 rfl
    have g3 := hf 3 f3 rfl
    simp [o0, o1, o2, o3, c0, c1, c2, c3] at g0 g1 g2 g3
    exact ⟨v0, v1, v2, v3, y0, y1, y2, y3, k, rfl, by rw [hxy]; rfl, g0, g1, g2, g3⟩

theorem open_entries {fuel : Nat} {v : Value} {d : DataW H} {pl : List MemPlace} (h : DataW.trod enc Try.prog W base spare held fuel 23 [v] = some (d, pl)) (hw : ∀ n ∈ d.weights Try.prog 23, n ≤ reachBytes) :
    ∃ a n c, v = .slice a n c ∧ Entries W W.heap.size a n ∧ 40 * n ≤ 140737488355328 := by
  rcases open_slice Try.underlying23 h with ⟨hcs, _⟩ | ⟨x, len, cap, m, k, D, Pl, hcs, _, hl, hm, hmm, hd, hx⟩
  · simp only [List.cons.injEq, and_true] at hcs
    exact ⟨none, 0, 0, hcs, ⟨fun _ => rfl, (fun x hx => by cases hx)⟩, Nat.zero_le _⟩
  · simp only [List.cons.injEq, and_true] at hcs
    simp only [Prod.mk.injEq] at hd
    replace hd := hd.1
    subst hd
    have hlm : len ≤ m := by rw [hmm]; split <;> omega
    have h1 := hw ((((List.range len).map D).length + ((List.range (m - len)).map fun j => D (len + j)).length) * Try.prog.bytesOf 29) (by simp [DataW.weights, Try.underlying23])
    rw [bytesEnt] at h1
    simp only [List.length_map, List.length_range, reachBytes] at h1
    rw [cellsEnt] at hx
    refine ⟨some x, len, cap, hcs, ⟨(fun h => by cases h), fun y hy i hi => ?_⟩, by omega⟩
    cases hy
    obtain ⟨cs', e1, e2⟩ := hx i (by omega)
    obtain ⟨_, hlen, hcell⟩ := World.cells?_some e1
    obtain ⟨v0, v1, v2, v3, y0, y1, y2, y3, k', rfl, _, g0, g1, g2, g3⟩ := trod4 Try.underlying29 cellsEnt rfl rfl rfl rfl cellsInt cellsInt cellsStr cellsInt e2
    obtain ⟨n0, q0, _, w0⟩ := DataW.trod_int Try.underlying3 g0
    obtain ⟨n1, q1, _, w1⟩ := DataW.trod_int Try.underlying3 g1
    obtain ⟨n2, q2, _, w2⟩ := DataW.trod_string Try.underlying9 g2
    obtain ⟨n3, q3, _, w3⟩ := DataW.trod_int Try.underlying3 g3
    simp only [List.cons.injEq, and_true] at q0 q1 q2 q3
    subst q0 q1 q2 q3
    have c0 := hcell 0 (by omega)
    have c1 := hcell 1 (by omega)
    have c2 := hcell 2 (by omega)
    have c3 := hcell 3 (by omega)
    rw [add_add] at c0 c1 c2 c3
    obtain ⟨cs0, z1, z2⟩ := hx 0 (by omega)
    obtain ⟨u0, u1, u2, u3, _, _, _, _, _, rfl, _⟩ := trod4 Try.underlying29 cellsEnt rfl rfl rfl rfl cellsInt cellsInt cellsStr cellsInt z2
    obtain ⟨_, _, zcell⟩ := World.cells?_some z1
    have z0 := zcell 0 (by omega)
    rw [add_add] at z0
    obtain ⟨b, o, spot⟩ := x
    have hspot : spot = none := by simpa [Addr.add] using World.cell?_spot z0
    subst hspot
    rw [addr_add] at c0 c1 c2 c3
    simp at c0 c1 c2 c3
    exact ⟨b, o, rfl, World.block_lt_of_cell? _ _ c0, n0, n1, n2, n3, c0, by simpa [Nat.add_assoc] using c1, by simpa [Nat.add_assoc] using c2, by simpa [Nat.add_assoc] using c3, w2⟩
end
end Go.Proofs.Ytcpmapknmkholaa
end

section
namespace Go.Proofs.Ytcpmapknmkholaa
open Go.ChangeShapes Go.WideShapes Go.ChangeAt Go.RowKit Go.Deep

theorem bytesSuper : Try.prog.bytesOf 31 = 24 := by kernel_rfl
theorem cellsSuper : Try.prog.cellsOf 31 = 3 := by kernel_rfl

/-- A list of geometries that is only read. -/
def Supers (w : World) (B : Nat) (a : Option Addr) (n : Nat) : Prop :=
  (a = none → n = 0) ∧ ∀ x, a = some x → ∀ i, i < n → ∃ b o, x = ⟨b, o, none⟩ ∧ b < B ∧ ∃ s l m : Int, w.cell? ⟨b, o + i * 3, none⟩ = some (.int .i64 s) ∧ w.cell? ⟨b, o + i * 3 + 1, none⟩ = some (.int .i64 l) ∧ w.cell? ⟨b, o + i * 3 + 2, none⟩ = some (.int .i64 m) ∧ I64 s ∧ I64 l ∧ I64 m
theorem Supers.far {w w' : World} {B : Nat} {a : Option Addr} {n : Nat} (h : Supers w B a n) (hb : Below B w w') : Supers w' B a n :=
  ⟨h.1, fun x hx i hi => by
    obtain ⟨b, o, rfl, h0, s, l, m, h1, h2, h3, h4⟩ := h.2 x hx i hi
    have e := hb.block b h0
    exact ⟨b, o, rfl, h0, s, l, m, (World.cell?_of_block (w := w) (a := ⟨b, _, none⟩) e).trans h1, (World.cell?_of_block (w := w) (a := ⟨b, _, none⟩) e).trans h2, (World.cell?_of_block (w := w) (a := ⟨b, _, none⟩) e).trans h3, h4⟩⟩

section
variable {H : Type} {enc : TypeId × Value → H} {W : World} {base : Nat} {spare : Nat → Bool} {held : Bool}
theorem open_supers {fuel : Nat} {v : Value} {d : DataW H} {pl : List MemPlace} (h : DataW.trod enc Try.prog W base spare held fuel 24 [v] = some (d, pl)) (hw : ∀ n ∈ d.weights Try.prog 24, n ≤ reachBytes) :
    ∃ a n c, v = .slice a n c ∧ Supers W W.heap.size a n ∧ 24 * n ≤ 140737488355328 := by
  rcases open_slice Try.underlying24 h with ⟨hcs, _⟩ | ⟨x, len, cap, m, k, D, Pl, hcs, _, hl, hm, hmm, hd, hx⟩
  · simp only [List.cons.injEq, and_true] at hcs
    exact ⟨none, 0, 0, hcs, ⟨fun _ => rfl, (fun x hx => by cases hx)⟩, Nat.zero_le _⟩
  · simp only [List.cons.injEq, and_true] at hcs
    simp only [Prod.mk.injEq] at hd
    replace hd := hd.1
    subst hd
    have hlm : len ≤ m := by rw [hmm]; split <;> omega
    have h1 := hw ((((List.range len).map D).length + ((List.range (m - len)).map fun j => D (len + j)).length) * Try.prog.bytesOf 31) (by simp [DataW.weights, Try.underlying24])
    rw [bytesSuper] at h1
    simp only [List.length_map, List.length_range, reachBytes] at h1
    rw [cellsSuper] at hx
    refine ⟨some x, len, cap, hcs, ⟨(fun h => by cases h), fun y hy i hi => ?_⟩, by omega⟩
    cases hy
    obtain ⟨cs', e1, e2⟩ := hx i (by omega)
    obtain ⟨_, hlen, hcell⟩ := World.cells?_some e1
    obtain ⟨v0, v1, v2, y0, y1, y2, k', rfl, _, g0, g1, g2⟩ := trod3 Try.underlying31 cellsSuper rfl rfl rfl cellsInt cellsInt cellsInt e2
    obtain ⟨n0, q0, _, w0⟩ := DataW.trod_int Try.underlying3 g0
    obtain ⟨n1, q1, _, w1⟩ := DataW.trod_int Try.underlying3 g1
    obtain ⟨n2, q2, _, w2⟩ := DataW.trod_int Try.underlying3 g2
    simp only [List.cons.injEq, and_true] at q0 q1 q2
    subst q0 q1 q2
    have c0 := hcell 0 (by omega)
    have c1 := hcell 1 (by omega)
    have c2 := hcell 2 (by omega)
    rw [add_add] at c0 c1 c2
    obtain ⟨cs0, z1, z2⟩ := hx 0 (by omega)
    obtain ⟨u0, u1, u2, _, _, _, _, rfl, _⟩ := trod3 Try.underlying31 cellsSuper rfl rfl rfl cellsInt cellsInt cellsInt z2
    obtain ⟨_, _, zcell⟩ := World.cells?_some z1
    have z0 := zcell 0 (by omega)
    rw [add_add] at z0
    obtain ⟨b, o, spot⟩ := x
    have hspot : spot = none := by simpa [Addr.add] using World.cell?_spot z0
    subst hspot
    rw [addr_add] at c0 c1 c2
    simp at c0 c1 c2
    exact ⟨b, o, rfl, World.block_lt_of_cell? _ _ c0, n0, n1, n2, c0, by simpa [Nat.add_assoc] using c1, by simpa [Nat.add_assoc] using c2, int_wf w0, int_wf w1, int_wf w2⟩
end
end Go.Proofs.Ytcpmapknmkholaa
end

section
namespace Go.Proofs.Ytcpmapknmkholaa
open Go.RowKit

/-- A row is made, under a guard. -/
theorem wpList_make_guard {P : Program} (w : World) {ops : Array Oper} {rest : List Oper} {o : Oper} {a : Act} {Q : Exit → Act → World → Prop}
    (hg : Region.wanted o (yielded ops a.tmps) = true) (l c : Operand) (t : TypeId) (hop : o.op = Op.makeSlice t l c)
    (base : Nat) (e : TypeId) (i : TypeInfo) (z : Value) (size : Nat) (h1 : P.underlying t = some (.slice e)) (h2 : P.info? e = some i) (h3 : i.zero = some z) (h4 : i.size = size)
    (kl kc : IntKind) (L C : Int) (n : Nat) (hl : a.eval l = .int kl L) (hc : a.eval c = .int kc C) (hL : L = (n : Int)) (hC : C = (n : Int)) (b2 : i.bytes * n ≤ 281474976710656) (b3 : n ≤ maxLen) (b4 : base ≤ w.heap.size)
    (hK : ∀ w', w'.ownsRow base e size (.slice (some ⟨w.heap.size, 0, none⟩) n n) n (madeCells z.cells (n * size)).toList → w.grownBy w' none → wpList P ops Q rest (a.put o.dst (.slice (some ⟨w.heap.size, 0, none⟩) n n)) w') :
    wpList P ops Q (o :: rest) a w :=
  wpList_step fun K hK' => by
    rw [if_pos hg]
    obtain ⟨w', hrun, r1, r2⟩ := run_make_full (P := P) w base t e i z size h1 h2 h3 h4 kl kc n b2 b3 b4
    subst hL
    subst hC
    unfold Oper.wp
    simp [execOp, hop, hl, hc, hrun, Result.andThen]
    exact hK' _ _ (hK w' r1 r2)
theorem Enc.out {w w' : World} {v : Value} {l : List Int} (h : Enc w w' v l) : ∃ a c, v = .slice a l.length c ∧ Src w' a l.length l ∧ Below w.heap.size w w' := h
end Go.Proofs.Ytcpmapknmkholaa
end
