import Derived.Test.YtkkmkogpbhcpmabKTm4
namespace Go.Proofs.Ytkkmkogpbhcpmab
open Go.RowKit

theorem NAt.new {w w2 : World} {N K : Int} {s : ByteArray} {t : Int} (hB : Below w.heap.size w w2) (hp : w2.heap[w.heap.size]? = some (.cells #[.int .i64 N, .int .i64 K, .string s, .int .i64 t] 29 (0, 0)))
    (hr : w2.heap[w.heap.size + 1]? = some (.cells #[.int .i64 0, .int .i64 0, .string ⟨#[]⟩, .int .i64 0] 29 (0, 0))) (m : Nat) (hm : m ≤ s.size) : NAt w (Lib.bytesWorld w2 5 s) N K s t w2.heap.size m ((txt s).take m) := by
  have hsz := (Array.getElem?_eq_some_iff.1 hr).1
  have hold : ∀ j, j < w2.heap.size → (Lib.bytesWorld w2 5 s).heap[j]? = w2.heap[j]? := fun j hj => Lib.bytesWorld_at_old w2 5 s j hj
  refine ⟨⟨?_, ?_, ?_, ?_, ?_⟩, (hold _ (by omega)).trans hp, (hold _ (by omega)).trans hr, by omega, by rw [List.length_take, txt_len]; omega, fun x hx => txt_bytes s x (List.mem_of_mem_take hx), ?_, ?_⟩
  · exact hB.os
  · exact hB.tape
  · exact hB.output
  · rw [Lib.bytesWorld_size]; have := hB.size; omega
  · intro j hj
    exact (hold j (Nat.lt_of_lt_of_le hj hB.size)).trans (hB.block j hj)
  · intro i hi
    rw [Lib.bytesWorld_cell w2 5 s i (by omega)]
    simp [txt, List.getD, hi, show i < s.size by omega]
  · intro i hi
    simp [World.frozen?, Lib.bytesWorld_at_new, Lib.bytesCells]
    omega
set_option maxRecDepth 20000 in
set_option maxHeartbeats 8000000 in
theorem tameEntry_any (n k : Int) (s : ByteArray) (t : Int) (w : World) :
    Calls Try.prog 10 #[ent n k s t] w fun e w' => ∃ N K S, e = .returned (ent N K S t) ∧ EFits N K S ∧ Below w.heap.size w w' := by
  obtain ⟨w0, hw0⟩ : ∃ w0, w0 = (w.alloc (.cells #[.int .i64 n, .int .i64 k, .string s, .int .i64 t] 29)).alloc (.cells #[.int .i64 0, .int .i64 0, .string ⟨#[]⟩, .int .i64 0] 29) := ⟨_, rfl⟩
  have hB0 : Below w.heap.size w w0 := by rw [hw0]; exact below_two w _ _
  have hp : w0.heap[w.heap.size]? = some (.cells #[.int .i64 n, .int .i64 k, .string s, .int .i64 t] 29 (0, 0)) := by rw [hw0]; exact heap_alloc2_old _ _ _
  have hr : w0.heap[w.heap.size + 1]? = some (.cells #[.int .i64 0, .int .i64 0, .string ⟨#[]⟩, .int .i64 0] 29 (0, 0)) := by rw [hw0]; exact heap_alloc2_new _ _ _
  have b0 := bring_any n 1 1024 w0 (by omega) (by omega)
  have H0 := Hid.mk (And.intro hB0 (And.intro hp hr))
  clear hB0 hp hr
  go_enter Try.func10, Try.ntmps10
  go_wp2_with fail
  rw [← hw0]
  clear hw0
  refine b0.mono ?_
  rintro e wx ⟨⟨N, rfl, N1, N2⟩, hw⟩
  have hw' := hw.symm
  subst hw'
  clear hw b0
  obtain ⟨hB0, hp, hr⟩ := H0.out
  clear H0
  obtain ⟨w1, hw1⟩ : ∃ w1, w1 = w0.setCell ⟨w.heap.size, 0, none⟩ (.int .i64 N) := ⟨_, rfl⟩
  have hp1 : w1.heap[w.heap.size]? = some (.cells #[.int .i64 N, .int .i64 k, .string s, .int .i64 t] 29 (0, 0)) := by rw [hw1]; exact heap_setCell_same _ _ _ _ _ _ hp
  have hr1 : w1.heap[w.heap.size + 1]? = some (.cells #[.int .i64 0, .int .i64 0, .string ⟨#[]⟩, .int .i64 0] 29 (0, 0)) := by rw [hw1]; exact (Below.heap_setCell _ _ _ _ (by simp)).trans hr
  have hB1 : Below w.heap.size w w1 := by rw [hw1]; exact below_put hB0 (Nat.le_refl _) hB0.size _
  have c1 := cell_of_block hp (j := 0) rfl
  have f1 := frozen_of_block hp 0
  have n1 := cell_of_block hp (j := 1) (u := .int .i64 k) rfl
  have b1 := bring_any k 1 3 w1 (by omega) (by omega)
  have H1 := Hid.mk (And.intro hB1 (And.intro hp1 hr1))
  clear hB0 hp hr hB1 hp1 hr1
  go_wp2_with fail
  rw [← hw1]
  clear hw1 c1 f1 n1
  refine b1.mono ?_
  rintro e wx ⟨⟨K, rfl, K1, K2⟩, hw⟩
  have hw' := hw.symm
  subst hw'
  clear hw b1
  obtain ⟨hB1, hp1, hr1⟩ := H1.out
  clear H1
  obtain ⟨w2, hw2⟩ : ∃ w2, w2 = w1.setCell ⟨w.heap.size, 1, none⟩ (.int .i64 K) := ⟨_, rfl⟩
  have hp2 : w2.heap[w.heap.size]? = some (.cells #[.int .i64 N, .int .i64 K, .string s, .int .i64 t] 29 (0, 0)) := by rw [hw2]; exact heap_setCell_same _ _ _ _ _ _ hp1
  have hr2 : w2.heap[w.heap.size + 1]? = some (.cells #[.int .i64 0, .int .i64 0, .string ⟨#[]⟩, .int .i64 0] 29 (0, 0)) := by rw [hw2]; exact (Below.heap_setCell _ _ _ _ (by simp)).trans hr1
  have hB2 : Below w.heap.size w w2 := by rw [hw2]; exact below_put hB1 (Nat.le_refl _) hB1.size _
  have c2 := cell_of_block hp1 (j := 1) rfl
  have f2 := frozen_of_block hp1 1
  have n2 := cell_of_block hp1 (j := 2) (u := .string s) rfl
  have hcv := Lib.run_convert_string_bytes (P := Try.prog) w2 9 36 5 s Try.underlying9 Try.underlying36 Try.underlying5
  have hge := grownCap_ge w2 s.size 0 5
  have HNew := Hid.mk (fun m hm => NAt.new hB2 hp2 hr2 m hm)
  have hz2 : w2.heap.size = w1.heap.size := by rw [hw2, size_setCell]
  generalize hC : grownCap w2 s.size 0 5 = C at *
  generalize hw3 : Lib.bytesWorld w2 5 s = w3 at *
  rw [hz2] at hcv HNew
  rw [hw2] at hcv
  clear hB1 hp1 hr1 hB2 hp2 hr2 hw2 hC hw3 hz2
  by_cases hgt : 54 < s.size
  · have hgt' : 54 < (s.size : Int) := by omega
    have hC54 : (54 : Int) ≤ (C : Int) := by omega
    have HN := Hid.mk (HNew.out 54 (by omega))
    clear HNew
    go_wp2
    clear hcv c2 f2 n2
    go_loopw [4] (fun i wr => ∃ j : Nat, j ≤ 54 ∧ i = .int .i64 j ∧ ∃ l, NAt w wr N K s t w1.heap.size 54 l ∧ Good l j) (fun i _ => 54 - (intOf i).toNat)
    case atStart => exact ⟨0, Nat.zero_le _, rfl, _, HN.out, fun q hq => by omega⟩
    case round =>
      clear HN
      obtain ⟨j, hj, rfl, l, hN, hG⟩ := hrel
      have hlen := hN.len
      by_cases hlt : j < 54
      · have hlt' : (j : Int) < (54 : Int) := by omega
        have cj := hN.cell j hlt
        have fj := hN.open_ j hlt
        have HNj := Hid.mk hN
        have HGj := Hid.mk hG
        have hx0 := hN.bytes
        generalize hX : l.getD j 0 = x at *
        clear hN hG hx0
        by_cases h47 : x = 47
        · have e47 : (x == 47) = true := by rw [beq_iff_eq]; exact h47
          have HNn := Hid.mk (HNj.out.put j hlt)
          have HGn := Hid.mk (HGj.out.set (by omega))
          clear HNj HGj h47 hX
          go_wp2
          go_roundw
          case rel => exact ⟨j + 1, by omega, by go_num, _, HNn.out, HGn.out⟩
          case measure => simp [intOf]; omega
        · have e47 : (x == 47) = false := by rw [Bool.eq_false_iff, ne_eq, beq_iff_eq]; exact h47
          by_cases h0 : x = 0
          · have e0 : (x == 0) = true := by rw [beq_iff_eq]; exact h0
            have HNn := Hid.mk (HNj.out.put j hlt)
            have HGn := Hid.mk (HGj.out.set (by omega))
            clear HNj HGj h47 hX h0
            go_wp2
            go_roundw
            case rel => exact ⟨j + 1, by omega, by go_num, _, HNn.out, HGn.out⟩
            case measure => simp [intOf]; omega
          · have e0 : (x == 0) = false := by rw [Bool.eq_false_iff, ne_eq, beq_iff_eq]; exact h0
            have HGn := Hid.mk (HGj.out.next (by rw [hX]; exact h47) (by rw [hX]; exact h0))
            clear HGj h47 hX h0
            go_wp2
            go_roundw
            case rel => exact ⟨j + 1, by omega, by go_num, _, HNj.out, HGn.out⟩
            case measure => simp [intOf]; omega
      · have hlt' : ¬ (j : Int) < (54 : Int) := by omega
        have hjm : j = 54 := by omega
        subst hjm
        have hcv2 := run_convert_bytes_arg (P := Try.prog) wr 36 5 Try.underlying36 Try.underlying5 w1.heap.size 0 54 C l hN.len (fun i hi => by rw [Nat.zero_add]; exact hN.cell i hi) 9 Try.underlying9
        have hnm := fun h0 => name_good hN.bytes (by omega) (by rw [hlen]; exact hG) h0
        generalize strOfNums l = X at *
        have c0 := cell_of_block hN.par (j := 0) (u := .int .i64 N) rfl
        have c1 := cell_of_block hN.par (j := 1) (u := .int .i64 K) rfl
        have c2 := cell_of_block hN.par (j := 2) (u := .string s) rfl
        have c3 := cell_of_block hN.par (j := 3) (u := .int .i64 t) rfl
        have f2 := frozen_of_block hN.par 2
        have d0 := cell_of_block hN.res (j := 0) (u := .int .i64 0) rfl
        have d1 := cell_of_block hN.res (j := 1) (u := .int .i64 0) rfl
        have d2 := cell_of_block hN.res (j := 2) (u := .string ⟨#[]⟩) rfl
        have d3 := cell_of_block hN.res (j := 3) (u := .int .i64 0) rfl
        have g0 := frozen_of_block hN.res 0
        have g1 := frozen_of_block hN.res 1
        have g2 := frozen_of_block hN.res 2
        have g3 := frozen_of_block hN.res 3
        have HE := Hid.mk (show (1 ≤ N ∧ N ≤ 1024) ∧ (1 ≤ K ∧ K ≤ 3) from ⟨⟨N1, N2⟩, ⟨K1, K2⟩⟩)
        have hsz := (Array.getElem?_eq_some_iff.1 hN.res).1
        have HB1 : Hid (∀ S : ByteArray, Below w.heap.size w (((((wr.setCell ⟨w.heap.size, 2, none⟩ (.string S)).setCell ⟨w.heap.size + 1, 0, none⟩ (.int .i64 N)).setCell ⟨w.heap.size + 1, 1, none⟩ (.int .i64 K)).setCell ⟨w.heap.size + 1, 2, none⟩ (.string S)).setCell ⟨w.heap.size + 1, 3, none⟩ (.int .i64 t))) := fun S =>
          below_put (below_put (below_put (below_put (below_put hN.below (Nat.le_refl _) (by omega) _) (by omega) (by rw [size_setCell]; omega) _) (by omega) (by rw [size_setCell, size_setCell]; omega) _) (by omega) (by rw [size_setCell, size_setCell, size_setCell]; omega) _) (by omega) (by rw [size_setCell, size_setCell, size_setCell, size_setCell]; omega) _
        have HB2 : Hid (∀ S S' : ByteArray, Below w.heap.size w ((((((wr.setCell ⟨w.heap.size, 2, none⟩ (.string S)).setCell ⟨w.heap.size, 2, none⟩ (.string S')).setCell ⟨w.heap.size + 1, 0, none⟩ (.int .i64 N)).setCell ⟨w.heap.size + 1, 1, none⟩ (.int .i64 K)).setCell ⟨w.heap.size + 1, 2, none⟩ (.string S')).setCell ⟨w.heap.size + 1, 3, none⟩ (.int .i64 t))) := fun S S' =>
          below_put (below_put (below_put (below_put (below_put (below_put hN.below (Nat.le_refl _) (by omega) _) (Nat.le_refl _) (by rw [size_setCell]; omega) _) (by omega) (by rw [size_setCell, size_setCell]; omega) _) (by omega) (by rw [size_setCell, size_setCell, size_setCell]; omega) _) (by omega) (by rw [size_setCell, size_setCell, size_setCell, size_setCell]; omega) _) (by omega) (by rw [size_setCell, size_setCell, size_setCell, size_setCell, size_setCell]; omega) _
        clear hN hG hlen
        by_cases hd : X.toList = [] ∨ X.toList = [46] ∨ X.toList = [46, 46]
        · have HEx : Hid (EFits N K ⟨#[120]⟩) := ⟨HE.out.1, HE.out.2, by decide +kernel⟩
          clear hnm HE
          rcases hd with hd | hd | hd
          all_goals
            go_wp2
            refine bodyPost_ret (v := ent N K ⟨#[120]⟩ t) (by simp [results, Try.results10, go_sem, d0, d1, d2, d3]) rfl ⟨N, K, _, rfl, HEx.out, HB2.out _ _⟩
        · have HEx : Hid (EFits N K X) := ⟨HE.out.1, HE.out.2, hnm hd⟩
          have e1 : X.toList.isEmpty = false := by simp; intro h; exact hd (.inl h)
          have e2 : (X.toList == [46]) = false := by simp; intro h; exact hd (.inr (.inl h))
          have e3 : (X.toList == [46, 46]) = false := by simp; intro h; exact hd (.inr (.inr h))
          clear hnm HE hd
          go_wp2
          refine bodyPost_ret (v := ent N K X t) (by simp [results, Try.results10, go_sem, d0, d1, d2, d3]) rfl ⟨N, K, _, rfl, HEx.out, HB1.out _⟩
  · have hgt' : ¬ 54 < (s.size : Int) := by omega
    have HN := Hid.mk (HNew.out s.size (Nat.le_refl _))
    have hs54 : s.size ≤ 54 := by omega
    clear HNew
    go_wp2
    clear hcv c2 f2 n2
    go_loopw [4] (fun i wr => ∃ j : Nat, j ≤ s.size ∧ i = .int .i64 j ∧ ∃ l, NAt w wr N K s t w1.heap.size s.size l ∧ Good l j) (fun i _ => s.size - (intOf i).toNat)
    case atStart => exact ⟨0, Nat.zero_le _, rfl, _, HN.out, fun q hq => by omega⟩
    case round =>
      clear HN
      obtain ⟨j, hj, rfl, l, hN, hG⟩ := hrel
      have hlen := hN.len
      by_cases hlt : j < s.size
      · have hlt' : (j : Int) < (s.size : Int) := by omega
        have cj := hN.cell j hlt
        have fj := hN.open_ j hlt
        have HNj := Hid.mk hN
        have HGj := Hid.mk hG
        have hx0 := hN.bytes
        generalize hX : l.getD j 0 = x at *
        clear hN hG hx0
        by_cases h47 : x = 47
        · have e47 : (x == 47) = true := by rw [beq_iff_eq]; exact h47
          have HNn := Hid.mk (HNj.out.put j hlt)
          have HGn := Hid.mk (HGj.out.set (by omega))
          clear HNj HGj h47 hX
          go_wp2
          go_roundw
          case rel => exact ⟨j + 1, by omega, by go_num, _, HNn.out, HGn.out⟩
          case measure => simp [intOf]; omega
        · have e47 : (x == 47) = false := by rw [Bool.eq_false_iff, ne_eq, beq_iff_eq]; exact h47
          by_cases h0 : x = 0
          · have e0 : (x == 0) = true := by rw [beq_iff_eq]; exact h0
            have HNn := Hid.mk (HNj.out.put j hlt)
            have HGn := Hid.mk (HGj.out.set (by omega))
            clear HNj HGj h47 hX h0
            go_wp2
            go_roundw
            case rel => exact ⟨j + 1, by omega, by go_num, _, HNn.out, HGn.out⟩
            case measure => simp [intOf]; omega
          · have e0 : (x == 0) = false := by rw [Bool.eq_false_iff, ne_eq, beq_iff_eq]; exact h0
            have HGn := Hid.mk (HGj.out.next (by rw [hX]; exact h47) (by rw [hX]; exact h0))
            clear HGj h47 hX h0
            go_wp2
            go_roundw
            case rel => exact ⟨j + 1, by omega, by go_num, _, HNj.out, HGn.out⟩
            case measure => simp [intOf]; omega
      · have hlt' : ¬ (j : Int) < (s.size : Int) := by omega
        have hjm : j = s.size := by omega
        subst hjm
        have hcv2 := run_convert_bytes_arg (P := Try.prog) wr 36 5 Try.underlying36 Try.underlying5 w1.heap.size 0 s.size C l hN.len (fun i hi => by rw [Nat.zero_add]; exact hN.cell i hi) 9 Try.underlying9
        have hnm := fun h0 => name_good hN.bytes (by omega) (by rw [hlen]; exact hG) h0
        generalize strOfNums l = X at *
        have c0 := cell_of_block hN.par (j := 0) (u := .int .i64 N) rfl
        have c1 := cell_of_block hN.par (j := 1) (u := .int .i64 K) rfl
        have c2 := cell_of_block hN.par (j := 2) (u := .string s) rfl
        have c3 := cell_of_block hN.par (j := 3) (u := .int .i64 t) rfl
        have f2 := frozen_of_block hN.par 2
        have d0 := cell_of_block hN.res (j := 0) (u := .int .i64 0) rfl
        have d1 := cell_of_block hN.res (j := 1) (u := .int .i64 0) rfl
        have d2 := cell_of_block hN.res (j := 2) (u := .string ⟨#[]⟩) rfl
        have d3 := cell_of_block hN.res (j := 3) (u := .int .i64 0) rfl
        have g0 := frozen_of_block hN.res 0
        have g1 := frozen_of_block hN.res 1
        have g2 := frozen_of_block hN.res 2
        have g3 := frozen_of_block hN.res 3
        have HE := Hid.mk (show (1 ≤ N ∧ N ≤ 1024) ∧ (1 ≤ K ∧ K ≤ 3) from ⟨⟨N1, N2⟩, ⟨K1, K2⟩⟩)
        have hsz := (Array.getElem?_eq_some_iff.1 hN.res).1
        have HB1 : Hid (∀ S : ByteArray, Below w.heap.size w (((((wr.setCell ⟨w.heap.size, 2, none⟩ (.string S)).setCell ⟨w.heap.size + 1, 0, none⟩ (.int .i64 N)).setCell ⟨w.heap.size + 1, 1, none⟩ (.int .i64 K)).setCell ⟨w.heap.size + 1, 2, none⟩ (.string S)).setCell ⟨w.heap.size + 1, 3, none⟩ (.int .i64 t))) := fun S =>
          below_put (below_put (below_put (below_put (below_put hN.below (Nat.le_refl _) (by omega) _) (by omega) (by rw [size_setCell]; omega) _) (by omega) (by rw [size_setCell, size_setCell]; omega) _) (by omega) (by rw [size_setCell, size_setCell, size_setCell]; omega) _) (by omega) (by rw [size_setCell, size_setCell, size_setCell, size_setCell]; omega) _
        have HB2 : Hid (∀ S S' : ByteArray, Below w.heap.size w ((((((wr.setCell ⟨w.heap.size, 2, none⟩ (.string S)).setCell ⟨w.heap.size, 2, none⟩ (.string S')).setCell ⟨w.heap.size + 1, 0, none⟩ (.int .i64 N)).setCell ⟨w.heap.size + 1, 1, none⟩ (.int .i64 K)).setCell ⟨w.heap.size + 1, 2, none⟩ (.string S')).setCell ⟨w.heap.size + 1, 3, none⟩ (.int .i64 t))) := fun S S' =>
          below_put (below_put (below_put (below_put (below_put (below_put hN.below (Nat.le_refl _) (by omega) _) (Nat.le_refl _) (by rw [size_setCell]; omega) _) (by omega) (by rw [size_setCell, size_setCell]; omega) _) (by omega) (by rw [size_setCell, size_setCell, size_setCell]; omega) _) (by omega) (by rw [size_setCell, size_setCell, size_setCell, size_setCell]; omega) _) (by omega) (by rw [size_setCell, size_setCell, size_setCell, size_setCell, size_setCell]; omega) _
        clear hN hG hlen
        by_cases hd : X.toList = [] ∨ X.toList = [46] ∨ X.toList = [46, 46]
        · have HEx : Hid (EFits N K ⟨#[120]⟩) := ⟨HE.out.1, HE.out.2, by decide +kernel⟩
          clear hnm HE
          rcases hd with hd | hd | hd
          all_goals
            go_wp2
            refine bodyPost_ret (v := ent N K ⟨#[120]⟩ t) (by simp [results, Try.results10, go_sem, d0, d1, d2, d3]) rfl ⟨N, K, _, rfl, HEx.out, HB2.out _ _⟩
        · have HEx : Hid (EFits N K X) := ⟨HE.out.1, HE.out.2, hnm hd⟩
          have e1 : X.toList.isEmpty = false := by simp; intro h; exact hd (.inl h)
          have e2 : (X.toList == [46]) = false := by simp; intro h; exact hd (.inr (.inl h))
          have e3 : (X.toList == [46, 46]) = false := by simp; intro h; exact hd (.inr (.inr h))
          clear hnm HE hd
          go_wp2
          refine bodyPost_ret (v := ent N K X t) (by simp [results, Try.results10, go_sem, d0, d1, d2, d3]) rfl ⟨N, K, _, rfl, HEx.out, HB1.out _⟩
end Go.Proofs.Ytkkmkogpbhcpmab
