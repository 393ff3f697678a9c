import Derived.Test.YtkkmkogpbhcpmaaKNodG
namespace Go.Proofs.Ytkkmkogpbhcpmaa
open Go.RowKit

/-- The pointers' bytes. -/
def ptrs (d : Nat → Nat) : Nat → List Int
  | 0 => []
  | n + 1 => ptrs d n ++ leb 4 (d n)
theorem ptrs_len (d : Nat → Nat) : ∀ n, (ptrs d n).length = 4 * n
  | 0 => rfl
  | n + 1 => by rw [ptrs, List.length_append, ptrs_len d n, leb_len]; omega
theorem ptrs_bytes (d : Nat → Nat) : ∀ n, Bytes (ptrs d n)
  | 0 => fun x hx => by cases hx
  | n + 1 => fun x hx => by
    rcases List.mem_append.1 hx with h | h
    · exact ptrs_bytes d n x h
    · exact leb_bytes 4 (d n) x h
def nb1 (k : Nat) : List Int := leb 1 k
def nb2 (k : Nat) : List Int := nb1 k ++ List.replicate 1 0
def nb3 (k l : Nat) : List Int := nb2 k ++ leb 2 l
def nb4 (k l p : Nat) : List Int := nb3 k l ++ leb 4 p
def nb5 (k l p s : Nat) : List Int := nb4 k l p ++ leb 8 s
def nb6 (k l p s o : Nat) : List Int := nb5 k l p s ++ leb 4 o
def nb7 (k l p s o : Nat) : List Int := nb6 k l p s o ++ List.replicate 4 0
def nb8 (k l p s o : Nat) (d : Nat → Nat) : List Int := nb7 k l p s o ++ ptrs d 10
def nb9 (k l p s o : Nat) (d : Nat → Nat) : List Int := nb8 k l p s o d ++ leb 4 (d 10)
def nb10 (k l p s o : Nat) (d : Nat → Nat) : List Int := nb9 k l p s o d ++ leb 4 (d 11)
/-- What a node holds ahead of its sum. -/
def nodeBody (k l p s o : Nat) (d : Nat → Nat) : List Int := nb10 k l p s o d ++ List.replicate 52 0
theorem nb1_len (k : Nat) : (nb1 k).length = 1 := leb_len 1 k
theorem nb2_len (k : Nat) : (nb2 k).length = 2 := by rw [nb2, List.length_append, nb1_len, List.length_replicate]
theorem nb3_len (k l : Nat) : (nb3 k l).length = 4 := by rw [nb3, List.length_append, nb2_len, leb_len]
theorem nb4_len (k l p : Nat) : (nb4 k l p).length = 8 := by rw [nb4, List.length_append, nb3_len, leb_len]
theorem nb5_len (k l p s : Nat) : (nb5 k l p s).length = 16 := by rw [nb5, List.length_append, nb4_len, leb_len]
theorem nb6_len (k l p s o : Nat) : (nb6 k l p s o).length = 20 := by rw [nb6, List.length_append, nb5_len, leb_len]
theorem nb7_len (k l p s o : Nat) : (nb7 k l p s o).length = 24 := by rw [nb7, List.length_append, nb6_len, List.length_replicate]
theorem nb8_len (k l p s o : Nat) (d : Nat → Nat) : (nb8 k l p s o d).length = 64 := by rw [nb8, List.length_append, nb7_len, ptrs_len]
theorem nb9_len (k l p s o : Nat) (d : Nat → Nat) : (nb9 k l p s o d).length = 68 := by rw [nb9, List.length_append, nb8_len, leb_len]
theorem nb10_len (k l p s o : Nat) (d : Nat → Nat) : (nb10 k l p s o d).length = 72 := by rw [nb10, List.length_append, nb9_len, leb_len]
theorem nodeBody_len (k l p s o : Nat) (d : Nat → Nat) : (nodeBody k l p s o d).length = 124 := by rw [nodeBody, List.length_append, nb10_len, List.length_replicate]
theorem bytes_app {a b : List Int} (ha : Bytes a) (hb : Bytes b) : Bytes (a ++ b) := fun x hx => by
  rcases List.mem_append.1 hx with h | h
  · exact ha x h
  · exact hb x h
theorem bytes_rep (n : Nat) : Bytes (List.replicate n 0) := fun x hx => by rw [(List.mem_replicate.1 hx).2]; omega
theorem nodeBody_bytes (k l p s o : Nat) (d : Nat → Nat) : Bytes (nodeBody k l p s o d) :=
  bytes_app (bytes_app (bytes_app (bytes_app (bytes_app (bytes_app (bytes_app (bytes_app (bytes_app (bytes_app (leb_bytes 1 k) (bytes_rep 1)) (leb_bytes 2 l)) (leb_bytes 4 p)) (leb_bytes 8 s)) (leb_bytes 4 o)) (bytes_rep 4)) (ptrs_bytes d 10)) (leb_bytes 4 (d 10))) (leb_bytes 4 (d 11))) (bytes_rep 52)
theorem infoTen : (Try.prog.info? 74).map (·.size) = some 10 := by kernel_rfl
abbrev tenl (d : Nat → Int) : List Value := [.int .i64 (d 0), .int .i64 (d 1), .int .i64 (d 2), .int .i64 (d 3), .int .i64 (d 4), .int .i64 (d 5), .int .i64 (d 6), .int .i64 (d 7), .int .i64 (d 8), .int .i64 (d 9)]
theorem range_ten {w : World} {g : Nat} {k l p s o : Int} {d : Nat → Int} (h : w.heap[g]? = some (.cells (ndc k l p s o d) 76 (0, 0))) : w.rangeAt g 5 (tenl d) := fun j v hv => by
  have e : (ndc k l p s o d)[5 + j]? = some v := by
    match j, hv with
    | 0, hv => exact hv
    | 1, hv => exact hv
    | 2, hv => exact hv
    | 3, hv => exact hv
    | 4, hv => exact hv
    | 5, hv => exact hv
    | 6, hv => exact hv
    | 7, hv => exact hv
    | 8, hv => exact hv
    | 9, hv => exact hv
    | j + 10, hv => simp at hv
  exact cell_of_block h e

set_option maxRecDepth 20000 in
set_option maxHeartbeats 8000000 in
theorem encnode_ok (k l p s o : Nat) (d : Nat → Nat) (w : World) (hf : NFits k l p s o (fun i => (d i : Int))) :
    Calls Try.prog 46 #[nd k l p s o (fun i => (d i : Int))] w fun e w' => ∃ v, e = .returned (.tuple #[v, .int .i64 0]) ∧ Made w w' v (sealed (nodeBody k l p s o d)) := by
  obtain ⟨w1, hw1⟩ : ∃ w1, w1 = w.alloc (.cells (ndc k l p s o (fun i => (d i : Int))) 76) := ⟨_, rfl⟩
  have hB1 : Below w.heap.size w w1 := by rw [hw1]; exact (Below.refl _ w).alloc (Nat.le_refl _) _
  have hq1 : w1.heap[w.heap.size]? = some (.cells (ndc k l p s o (fun i => (d i : Int))) 76 (0, 0)) := by rw [hw1]; exact heap_alloc_new _ _
  have hl1 := range_of (cs := ndl k l p s o (fun i => (d i : Int))) hq1
  have hfit := nfit_any k l p s o (fun i => (d i : Int)) w1
  rw [hw1] at hl1
  have Hl1 := Hid.mk hl1
  have hd : ∀ i, i < 12 → d i ≤ 2047 := fun i hi => by have h : 0 ≤ (d i : Int) ∧ (d i : Int) ≤ 2047 := (pf_iff _).1 (hf.2.2.2.2.2 i hi); omega
  have hk3 : k ≤ 3 := by have := hf.1.2; omega
  have hl64 : l ≤ 64 := by have := hf.2.1.2; omega
  have hp1 : p ≤ 1024 := by rcases hf.2.2.1 with h | h <;> omega
  have hs1 : s ≤ 8459264 := by have := hf.2.2.2.1.2; omega
  have ho1 : o ≤ 2048 := by have := hf.2.2.2.2.1.2; omega
  have He : Hid ((false = true) ↔ NSame k l p s o (fun i => (d i : Int)) 0 0 0 0 0 (fun _ => 0)) := ⟨fun h => (by cases h), fun h => by have := h.1; have := hf.1.1; omega⟩
  have Hf := Hid.mk hf
  have HB := Hid.mk (And.intro hB1 hq1)
  have Hd := Hid.mk hd
  clear hl1 hq1 hf hB1 hd
  go_enter Try.func46, Try.ntmps46
  go_wp2_with (first | refine wpList_load_guard rfl 76 _ rfl w.heap.size 0 rfl (ndl k l p s o (fun i => (d i : Int))) _ Hl1.out Try.underlying76 rfl infoNode ?_ | refine wpList_eq_node rfl _ _ _ rfl k l p s o (fun i => (d i : Int)) 0 0 0 0 0 (fun _ => 0) rfl rfl false He.out ?_)
  rw [← hw1]
  clear hw1 Hl1 He
  refine hfit.mono ?_
  rintro e w2 ⟨⟨b, rfl, hb⟩, hb2⟩
  have eb : b = true := hb.2 Hf.out
  subst eb
  have hB2 : Below w.heap.size w w2 := HB.out.1.trans (hb2.mono HB.out.1.size)
  have hq2 := (hb2.block w.heap.size (Array.getElem?_eq_some_iff.1 HB.out.2).1).trans HB.out.2
  have hql : w.heap.size < w2.heap.size := (Array.getElem?_eq_some_iff.1 hq2).1
  have hnew := WAt.new w2
  have hB3 : Below w.heap.size w (w2.alloc (.cells #[.slice none 0 0] 125)) := hB2.alloc hB2.size _
  have hq3 : (w2.alloc (.cells #[.slice none 0 0] 125)).heap[w.heap.size]? = some (.cells (ndc k l p s o (fun i => (d i : Int))) 76 (0, 0)) := (Below.heap_alloc _ _ _ hql).trans hq2
  have c1 := cell_of_block hq2 (j := 0) rfl
  have hne : ¬ w.heap.size = w2.heap.size := by omega
  have hN : Calls Try.prog 87 #[.pointer (some ⟨w2.heap.size, 0, none⟩), .int .i64 (k : Int), .int .i64 1] (w2.alloc (.cells #[.slice none 0 0] 125)) fun e w' => e = .returned (.tuple #[]) ∧ WAt w' w2.heap.size w2.heap.size (nb1 k) ∧ Below w2.heap.size (w2.alloc (.cells #[.slice none 0 0] 125)) w' := wnumber_any _ _ [] k 1 _ hnew (by decide) (by omega)
  have HO := Hid.mk (And.intro hB3 hq3)
  clear hfit hb hb2 HB Hf hB2 hq2 hnew hB3 hq3
  go_wp2_with fail
  refine hN.mono ?_
  rintro e w3 ⟨rfl, hat, hb⟩
  have hO : Below w.heap.size w w3 ∧ w3.heap[w.heap.size]? = some (.cells (ndc k l p s o (fun i => (d i : Int))) 76 (0, 0)) := ⟨HO.out.1.trans (hb.mono (by omega)), (hb.block _ hql).trans HO.out.2⟩
  clear hN hb c1 HO
  have hN : Calls Try.prog 88 #[.pointer (some ⟨w2.heap.size, 0, none⟩), .int .i64 2] w3 fun e w' => e = .returned (.tuple #[]) ∧ WAt w' w2.heap.size w2.heap.size (nb2 k) ∧ Below w2.heap.size w3 w' := by
    have := wzeros_any _ _ _ 1 w3 hat (by rw [nb1_len]; omega) (by rw [nb1_len]; omega)
    rw [nb1_len] at this
    exact this
  have HO := Hid.mk hO
  clear hat hO
  go_wp2_with fail
  refine hN.mono ?_
  rintro e w4 ⟨rfl, hat, hb⟩
  have hO : Below w.heap.size w w4 ∧ w4.heap[w.heap.size]? = some (.cells (ndc k l p s o (fun i => (d i : Int))) 76 (0, 0)) := ⟨HO.out.1.trans (hb.mono (by omega)), (hb.block _ hql).trans HO.out.2⟩
  clear hN hb HO
  have c1 := cell_of_block hO.2 (j := 1) rfl
  have hN : Calls Try.prog 87 #[.pointer (some ⟨w2.heap.size, 0, none⟩), .int .i64 (l : Int), .int .i64 2] w4 fun e w' => e = .returned (.tuple #[]) ∧ WAt w' w2.heap.size w2.heap.size (nb3 k l) ∧ Below w2.heap.size w4 w' := wnumber_any _ _ _ l 2 w4 hat (by rw [nb2_len]; omega) (by omega)
  have HO := Hid.mk hO
  clear hat hO
  go_wp2_with fail
  refine hN.mono ?_
  rintro e w5 ⟨rfl, hat, hb⟩
  have hO : Below w.heap.size w w5 ∧ w5.heap[w.heap.size]? = some (.cells (ndc k l p s o (fun i => (d i : Int))) 76 (0, 0)) := ⟨HO.out.1.trans (hb.mono (by omega)), (hb.block _ hql).trans HO.out.2⟩
  clear hN hb HO
  clear c1
  have c1 := cell_of_block hO.2 (j := 2) rfl
  have hN : Calls Try.prog 87 #[.pointer (some ⟨w2.heap.size, 0, none⟩), .int .i64 (p : Int), .int .i64 4] w5 fun e w' => e = .returned (.tuple #[]) ∧ WAt w' w2.heap.size w2.heap.size (nb4 k l p) ∧ Below w2.heap.size w5 w' := wnumber_any _ _ _ p 4 w5 hat (by rw [nb3_len]; omega) (by omega)
  have HO := Hid.mk hO
  clear hat hO
  go_wp2_with fail
  refine hN.mono ?_
  rintro e w6 ⟨rfl, hat, hb⟩
  have hO : Below w.heap.size w w6 ∧ w6.heap[w.heap.size]? = some (.cells (ndc k l p s o (fun i => (d i : Int))) 76 (0, 0)) := ⟨HO.out.1.trans (hb.mono (by omega)), (hb.block _ hql).trans HO.out.2⟩
  clear hN hb HO
  clear c1
  have c1 := cell_of_block hO.2 (j := 3) rfl
  have hN : Calls Try.prog 87 #[.pointer (some ⟨w2.heap.size, 0, none⟩), .int .i64 (s : Int), .int .i64 8] w6 fun e w' => e = .returned (.tuple #[]) ∧ WAt w' w2.heap.size w2.heap.size (nb5 k l p s) ∧ Below w2.heap.size w6 w' := wnumber_any _ _ _ s 8 w6 hat (by rw [nb4_len]; omega) (by omega)
  have HO := Hid.mk hO
  clear hat hO
  go_wp2_with fail
  refine hN.mono ?_
  rintro e w7 ⟨rfl, hat, hb⟩
  have hO : Below w.heap.size w w7 ∧ w7.heap[w.heap.size]? = some (.cells (ndc k l p s o (fun i => (d i : Int))) 76 (0, 0)) := ⟨HO.out.1.trans (hb.mono (by omega)), (hb.block _ hql).trans HO.out.2⟩
  clear hN hb HO
  clear c1
  have c1 := cell_of_block hO.2 (j := 4) rfl
  have hN : Calls Try.prog 87 #[.pointer (some ⟨w2.heap.size, 0, none⟩), .int .i64 (o : Int), .int .i64 4] w7 fun e w' => e = .returned (.tuple #[]) ∧ WAt w' w2.heap.size w2.heap.size (nb6 k l p s o) ∧ Below w2.heap.size w7 w' := wnumber_any _ _ _ o 4 w7 hat (by rw [nb5_len]; omega) (by omega)
  have HO := Hid.mk hO
  clear hat hO
  go_wp2_with fail
  refine hN.mono ?_
  rintro e w8 ⟨rfl, hat, hb⟩
  have hO : Below w.heap.size w w8 ∧ w8.heap[w.heap.size]? = some (.cells (ndc k l p s o (fun i => (d i : Int))) 76 (0, 0)) := ⟨HO.out.1.trans (hb.mono (by omega)), (hb.block _ hql).trans HO.out.2⟩
  clear hN hb HO
  clear c1
  have hN : Calls Try.prog 88 #[.pointer (some ⟨w2.heap.size, 0, none⟩), .int .i64 24] w8 fun e w' => e = .returned (.tuple #[]) ∧ WAt w' w2.heap.size w2.heap.size (nb7 k l p s o) ∧ Below w2.heap.size w8 w' := by
    have := wzeros_any _ _ _ 4 w8 hat (by rw [nb6_len]; omega) (by rw [nb6_len]; omega)
    rw [nb6_len] at this
    exact this
  have HO := Hid.mk hO
  clear hat hO
  go_wp2_with fail
  refine hN.mono ?_
  rintro e w9 ⟨rfl, hat, hb⟩
  have hO : Below w.heap.size w w9 ∧ w9.heap[w.heap.size]? = some (.cells (ndc k l p s o (fun i => (d i : Int))) 76 (0, 0)) := ⟨HO.out.1.trans (hb.mono (by omega)), (hb.block _ hql).trans HO.out.2⟩
  clear hN hb HO
  have hr := range_ten hO.2
  have HL : Hid (Below w.heap.size w w9 ∧ w9.heap[w.heap.size]? = some (.cells (ndc k l p s o (fun i => (d i : Int))) 76 (0, 0)) ∧ WAt w9 w2.heap.size w2.heap.size (nb7 k l p s o ++ ptrs d 0)) := ⟨hO.1, hO.2, by rw [ptrs, List.append_nil]; exact hat⟩
  clear hat hO
  go_wp2_with (refine wpList_load_guard rfl 74 _ rfl w.heap.size 5 rfl (tenl (fun i => (d i : Int))) _ hr Try.underlying74 rfl infoTen ?_)
  clear hr
  go_loopw [33] (fun i wr => ∃ j : Nat, j ≤ 10 ∧ i = .int .i64 j ∧ Below w.heap.size w wr ∧ wr.heap[w.heap.size]? = some (.cells (ndc k l p s o (fun i => (d i : Int))) 76 (0, 0)) ∧ WAt wr w2.heap.size w2.heap.size (nb7 k l p s o ++ ptrs d j)) (fun i _ => 10 - (intOf i).toNat)
  case atStart => exact ⟨0, Nat.zero_le _, rfl, HL.out⟩
  case round =>
    clear HL
    obtain ⟨j, hj, rfl, hBr, hqr, hat⟩ := hrel
    by_cases hlt : j < 10
    · have hlt' : (j : Int) < 10 := by omega
      have hix := ten_at (fun i => (d i : Int)) j hlt wr
      have hdj := Hd.out j (by omega)
      have hN : Calls Try.prog 87 #[.pointer (some ⟨w2.heap.size, 0, none⟩), .int .i64 (d j : Int), .int .i64 4] wr fun e w' => e = .returned (.tuple #[]) ∧ WAt w' w2.heap.size w2.heap.size (nb7 k l p s o ++ ptrs d j ++ leb 4 (d j)) ∧ Below w2.heap.size wr w' := wnumber_any _ _ _ (d j) 4 wr hat (by rw [List.length_append, nb7_len, ptrs_len]; omega) (by omega)
      have HO := Hid.mk (And.intro hBr hqr)
      clear hat hBr hqr hdj
      go_wp2_with fail
      refine hN.mono ?_
      rintro e wn ⟨rfl, hat, hb⟩
      have HL : Hid (Below w.heap.size w wn ∧ wn.heap[w.heap.size]? = some (.cells (ndc k l p s o (fun i => (d i : Int))) 76 (0, 0)) ∧ WAt wn w2.heap.size w2.heap.size (nb7 k l p s o ++ ptrs d (j + 1))) := ⟨HO.out.1.trans (hb.mono (by omega)), (hb.block _ hql).trans HO.out.2, by rw [ptrs, ← List.append_assoc]; exact hat⟩
      clear hN hb HO hix hat
      go_wp2
      go_roundw
      case rel => exact ⟨j + 1, by omega, by go_num, HL.out⟩
      case measure => simp [intOf]; omega
    · have hlt' : ¬ (j : Int) < 10 := by omega
      have ej : j = 10 := by omega
      subst ej
      have hat8 : WAt wr w2.heap.size w2.heap.size (nb8 k l p s o d) := hat
      have hO : Below w.heap.size w wr ∧ wr.heap[w.heap.size]? = some (.cells (ndc k l p s o (fun i => (d i : Int))) 76 (0, 0)) := ⟨hBr, hqr⟩
      have hat := hat8
      have hd10 := Hd.out 10 (by omega)
      have hd11 := Hd.out 11 (by omega)
      clear hat8 hBr hqr
      have c1 := cell_of_block hO.2 (j := 15) rfl
      have hN : Calls Try.prog 87 #[.pointer (some ⟨w2.heap.size, 0, none⟩), .int .i64 ((d 10 : Nat) : Int), .int .i64 4] wr fun e w' => e = .returned (.tuple #[]) ∧ WAt w' w2.heap.size w2.heap.size (nb9 k l p s o d) ∧ Below w2.heap.size wr w' := wnumber_any _ _ _ (d 10) 4 wr hat (by rw [nb8_len]; omega) (by omega)
      have HO := Hid.mk hO
      clear hat hO
      go_wp2_with fail
      refine hN.mono ?_
      rintro e w21 ⟨rfl, hat, hb⟩
      have hO : Below w.heap.size w w21 ∧ w21.heap[w.heap.size]? = some (.cells (ndc k l p s o (fun i => (d i : Int))) 76 (0, 0)) := ⟨HO.out.1.trans (hb.mono (by omega)), (hb.block _ hql).trans HO.out.2⟩
      clear hN hb HO
      clear c1
      have c1 := cell_of_block hO.2 (j := 16) rfl
      have hN : Calls Try.prog 87 #[.pointer (some ⟨w2.heap.size, 0, none⟩), .int .i64 ((d 11 : Nat) : Int), .int .i64 4] w21 fun e w' => e = .returned (.tuple #[]) ∧ WAt w' w2.heap.size w2.heap.size (nb10 k l p s o d) ∧ Below w2.heap.size w21 w' := wnumber_any _ _ _ (d 11) 4 w21 hat (by rw [nb9_len]; omega) (by omega)
      have HO := Hid.mk hO
      clear hat hO
      go_wp2_with fail
      refine hN.mono ?_
      rintro e w22 ⟨rfl, hat, hb⟩
      have hO : Below w.heap.size w w22 ∧ w22.heap[w.heap.size]? = some (.cells (ndc k l p s o (fun i => (d i : Int))) 76 (0, 0)) := ⟨HO.out.1.trans (hb.mono (by omega)), (hb.block _ hql).trans HO.out.2⟩
      clear hN hb HO
      clear c1
      have hN : Calls Try.prog 88 #[.pointer (some ⟨w2.heap.size, 0, none⟩), .int .i64 124] w22 fun e w' => e = .returned (.tuple #[]) ∧ WAt w' w2.heap.size w2.heap.size (nodeBody k l p s o d) ∧ Below w2.heap.size w22 w' := by
        have := wzeros_any _ _ _ 52 w22 hat (by rw [nb10_len]; omega) (by rw [nb10_len]; omega)
        rw [nb10_len] at this
        exact this
      have HO := Hid.mk hO
      clear hat hO
      go_wp2_with fail
      refine hN.mono ?_
      rintro e w23 ⟨rfl, hat, hb⟩
      have hO : Below w.heap.size w w23 ∧ w23.heap[w.heap.size]? = some (.cells (ndc k l p s o (fun i => (d i : Int))) 76 (0, 0)) := ⟨HO.out.1.trans (hb.mono (by omega)), (hb.block _ hql).trans HO.out.2⟩
      clear hN hb HO
      have hN := wsummed_any _ _ _ w23 hat (by rw [nodeBody_len]; decide) (by rw [nodeBody_len]; decide) (nodeBody_bytes k l p s o d)
      rw [nodeBody_len] at hN
      have HO := Hid.mk hO
      clear hat hO
      go_wp2_with fail
      refine hN.mono ?_
      rintro e w9 ⟨g, c, rfl, hg, hr, hb⟩
      have HF : Hid (Made w w9 (.slice (some ⟨g, 0, none⟩) 128 c) (sealed (nodeBody k l p s o d))) := ⟨g, c, by rw [sealed_len, nodeBody_len], by omega, hr, HO.out.1.trans (hb.mono (by omega))⟩
      clear hN hr hb HO
      go_wp2
      go_ret2
      exact ⟨_, rfl, HF.out⟩
end Go.Proofs.Ytkkmkogpbhcpmaa
