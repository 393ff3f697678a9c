import Derived.Test.YtkcakpcmpbjhlaaDoorSV1
namespace Go.Proofs.YtkcakpcmpbjhlaaDoor
open Go.RowKit Go.Maps

set_option maxRecDepth 20000 in
set_option maxHeartbeats 16000000 in
theorem rsay_any (k n i b o : Int) (h1 : I64 n) (h2 : I64 i) (h3 : I64 b) (h4 : I64 o) (w : World) (hP : PT w) :
    Calls Tryd.prog 5 #[.agg #[.int .i64 k, .int .i64 n, .int .i64 i, .int .i64 b, .int .i64 o]] w fun e w' => e = .returned (.string ⟨(saidV k n i b o).toArray⟩) ∧ Below w.heap.size w w' := by
  have hB0 := below_box w (.cells #[.int .i64 k, .int .i64 n, .int .i64 i, .int .i64 b, .int .i64 o] 25)
  obtain ⟨W1, hW1⟩ : ∃ W1, W1 = w.alloc (.cells #[.int .i64 k, .int .i64 n, .int .i64 i, .int .i64 b, .int .i64 o] 25) := ⟨_, rfl⟩
  have hsz1 : W1.heap.size = w.heap.size + 1 := by rw [hW1]; simp
  rw [← hW1] at hB0
  have hP1 : PT W1 := hP.later hB0
  have hitA : ∀ m, I64 m → ∀ w', Below (w.heap.size + 1) W1 w' → Calls Tryd.prog 6 #[.int .i64 m] w' fun e w'' => e = .returned (.string ⟨(Lib.itoa m).toArray⟩) ∧ Below (w.heap.size + 1) W1 w'' := fun m hm w' hb => by
    have hz : w.heap.size + 1 ≤ w'.heap.size := by rw [← hsz1]; exact hb.size
    refine (itoa_any m hm w' (hP1.later (by rw [hsz1]; exact hb))).mono ?_
    rintro e w'' ⟨rfl, hb2⟩
    exact ⟨rfl, hb.trans (hb2.mono hz)⟩
  have hcA : ∀ w', Below (w.heap.size + 1) W1 w' → w'.cell? ⟨w.heap.size, 0, none⟩ = some (.int .i64 k) ∧ w'.cell? ⟨w.heap.size, 1, none⟩ = some (.int .i64 n) ∧ w'.cell? ⟨w.heap.size, 2, none⟩ = some (.int .i64 i) ∧ w'.cell? ⟨w.heap.size, 3, none⟩ = some (.int .i64 b) ∧ w'.cell? ⟨w.heap.size, 4, none⟩ = some (.int .i64 o) := fun w' hb => by
    rw [hW1] at hb
    exact ⟨boxed_cell rfl hb rfl, boxed_cell rfl hb rfl, boxed_cell rfl hb rfl, boxed_cell rfl hb rfl, boxed_cell rfl hb rfl⟩
  have HC := Hid.mk hcA
  have hfinA : ∀ w', Below (w.heap.size + 1) W1 w' → Below w.heap.size w w' := fun w' hb => hB0.trans (hb.mono (Nat.le_succ _))
  have fin := hfinA
  obtain ⟨NS, hNS⟩ : ∃ NS : ByteArray, NS = ⟨(Lib.itoa n).toArray⟩ := ⟨_, rfl⟩
  obtain ⟨IS, hIS⟩ : ∃ NS : ByteArray, NS = ⟨(Lib.itoa i).toArray⟩ := ⟨_, rfl⟩
  obtain ⟨BS, hBS⟩ : ∃ NS : ByteArray, NS = ⟨(Lib.itoa b).toArray⟩ := ⟨_, rfl⟩
  obtain ⟨OS, hOS⟩ : ∃ NS : ByteArray, NS = ⟨(Lib.itoa o).toArray⟩ := ⟨_, rfl⟩
  have hitN := hitA n h1
  have hitI := hitA i h2
  have hitB := hitA b h3
  have hitO := hitA o h4
  rw [← hNS] at hitN
  rw [← hIS] at hitI
  rw [← hBS] at hitB
  rw [← hOS] at hitO
  have l1 : NS.data.toList = Lib.itoa n := by rw [hNS]
  have l2 : IS.data.toList = Lib.itoa i := by rw [hIS]
  have l3 : BS.data.toList = Lib.itoa b := by rw [hBS]
  have l4 : OS.data.toList = Lib.itoa o := by rw [hOS]
  have z1 : NS.size ≤ 21 := by rw [← len_size, l1]; exact Lib.itoa_length_le n h1.1 h1.2
  have h6s : IS.size ≤ 21 := by rw [← len_size, l2]; exact Lib.itoa_length_le i h2.1 h2.2
  have h7s : BS.size ≤ 21 := by rw [← len_size, l3]; exact Lib.itoa_length_le b h3.1 h3.2
  have h8s : OS.size ≤ 21 := by rw [← len_size, l4]; exact Lib.itoa_length_le o h4.1 h4.2
  obtain ⟨S3, e3⟩ : ∃ S3 : ByteArray, S3 = (⟨#[110, 111, 100, 101, 32]⟩ : ByteArray) ++ NS := ⟨_, rfl⟩
  obtain ⟨S4, e4⟩ : ∃ S4 : ByteArray, S4 = S3 ++ (⟨#[58, 32, 105, 110, 100, 101, 120, 32]⟩ : ByteArray) ++ IS := ⟨_, rfl⟩
  obtain ⟨S5, e5⟩ : ∃ S5 : ByteArray, S5 = S3 ++ (⟨#[58, 32, 115, 108, 111, 116, 32]⟩ : ByteArray) ++ IS := ⟨_, rfl⟩
  obtain ⟨S9, e9⟩ : ∃ S9 : ByteArray, S9 = (⟨#[110, 111, 100, 101, 32]⟩ : ByteArray) ++ NS ++ (⟨#[58, 32]⟩ : ByteArray) := ⟨_, rfl⟩
  have m3 : S3.data.toList = [110, 111, 100, 101, 32] ++ Lib.itoa n := by rw [e3, cat_list, l1]
  have m4 : S4.data.toList = [110, 111, 100, 101, 32] ++ (Lib.itoa n ++ ([58, 32, 105, 110, 100, 101, 120, 32] ++ Lib.itoa i)) := by rw [e4, cat_list, cat_list, m3, l2]; simp only [List.append_assoc]
  have m5 : S5.data.toList = [110, 111, 100, 101, 32] ++ (Lib.itoa n ++ ([58, 32, 115, 108, 111, 116, 32] ++ Lib.itoa i)) := by rw [e5, cat_list, cat_list, m3, l2]; simp only [List.append_assoc]
  have m9 : S9.data.toList = [110, 111, 100, 101, 32] ++ (Lib.itoa n ++ [58, 32]) := by rw [e9, cat_list, cat_list, l1]; simp only [List.append_assoc]
  have h3s : S3.size ≤ 26 := by rw [e3, cat_size]; show 5 + NS.size ≤ 26; omega
  have h4s : S4.size ≤ 60 := by rw [e4, cat_size, cat_size]; show S3.size + 8 + IS.size ≤ 60; omega
  have h5s : S5.size ≤ 60 := by rw [e5, cat_size, cat_size]; show S3.size + 7 + IS.size ≤ 60; omega
  have h9s : S9.size ≤ 60 := by rw [e9, cat_size, cat_size]; show 5 + NS.size + 2 ≤ 60; omega
  have HS : Hid (SayV n i b o S3 S4 S5 IS BS OS S9) := ⟨m3, m4, m5, l2, l3, l4, m9⟩
  have HE := Hid.mk e9.symm
  have p1 : (9223372036854775807 < 5 + NS.size) = False := eq_false (by omega)
  have p2 : (9223372036854775807 < 5 + NS.size + 2) = False := eq_false (by omega)
  have hW1' := hW1.symm
  clear m3 m4 m5 m9 l1 l2 l3 l4 e3 e4 e5 e9 hNS hIS hBS hOS h1 h2 h3 h4 hcA hfinA hitA hP hP1 hsz1 hB0 hW1 z1
  have hb0 : Below (w.heap.size + 1) W1 W1 := Below.refl _ _
  obtain ⟨c0, c1, c2, c3, c4⟩ := HC.out W1 hb0
  go_enter Tryd.func5, Tryd.ntmps5
  go_wp2_with fail
  refine (hitN _ hb0).mono ?_
  rintro e w2 ⟨rfl, hb9⟩
  clear hitN c0 c1 c2 c3 c4 hb0 hW1'
  obtain ⟨c0, c1, c2, c3, c4⟩ := HC.out w2 hb9
  go_wp2_with fail
  rw [HE.out]
  refine (hitI _ hb9).mono ?_
  rintro e w3 ⟨rfl, hb9⟩
  clear hitI c0 c1 c2 c3 c4
  obtain ⟨c0, c1, c2, c3, c4⟩ := HC.out w3 hb9
  go_wp2_with fail
  refine (hitB _ hb9).mono ?_
  rintro e w4 ⟨rfl, hb9⟩
  clear hitB c0 c1 c2 c3 c4
  obtain ⟨c0, c1, c2, c3, c4⟩ := HC.out w4 hb9
  go_wp2_with fail
  refine (hitO _ hb9).mono ?_
  rintro e w5 ⟨rfl, hb9⟩
  clear hitO c0 c1 c2 c3 c4 p1 p2 HE
  obtain ⟨c0, c1, c2, c3, c4⟩ := HC.out w5 hb9
  clear c1 c2 c3 c4 HC
  rcases (show k = 1 ∨ k = 2 ∨ k = 3 ∨ k = 4 ∨ k = 5 ∨ k = 6 ∨ k = 7 ∨ k = 8 ∨ k = 9 ∨ k = 10 ∨ k = 11 ∨ k = 12 ∨ k = 13 ∨ k = 14 ∨ k = 15 ∨ k = 16 ∨ k = 17 ∨ k = 18 ∨ (k < 1 ∨ 18 < k) by omega) with hkk | hkk | hkk | hkk | hkk | hkk | hkk | hkk | hkk | hkk | hkk | hkk | hkk | hkk | hkk | hkk | hkk | hkk | hkk
  · subst hkk
    clear h3s h4s h5s h6s h7s h8s h9s
    go_wp2
    go_ret
    exact ⟨ret_str (X := (⟨#[110, 111, 32, 115, 117, 112, 101, 114, 98, 108, 111, 99, 107]⟩ : ByteArray)) (rsayEq1 HS.out), fin _ (by first | exact hb9 | exact below_drew hb9)⟩
  · subst hkk
    have k0 : (9223372036854775807 < 14 + OS.size) = False := eq_false (by omega)
    clear h3s h4s h5s h6s h7s h8s h9s
    go_wp2
    go_ret
    exact ⟨ret_str (X := (⟨#[110, 111, 32, 108, 111, 103, 58, 32, 101, 114, 114, 111, 114, 32]⟩ : ByteArray) ++ OS) (rsayEq2 HS.out), fin _ (by first | exact hb9 | exact below_drew hb9)⟩
  · subst hkk
    have k0 : (9223372036854775807 < 7 + IS.size) = False := eq_false (by omega)
    have k1 : (9223372036854775807 < 7 + IS.size + 9) = False := eq_false (by omega)
    have k2 : (9223372036854775807 < 7 + IS.size + 9 + OS.size) = False := eq_false (by omega)
    have k3 : (9223372036854775807 < 7 + IS.size + 9 + OS.size + 7) = False := eq_false (by omega)
    clear h3s h4s h5s h6s h7s h8s h9s
    go_wp2
    go_ret
    exact ⟨ret_str (X := (⟨#[114, 101, 99, 111, 114, 100, 32]⟩ : ByteArray) ++ IS ++ (⟨#[32, 98, 114, 111, 107, 101, 110, 58, 32]⟩ : ByteArray) ++ OS ++ (⟨#[32, 108, 101, 116, 32, 103, 111]⟩ : ByteArray)) (rsayEq3 HS.out), fin _ (by first | exact hb9 | exact below_drew hb9)⟩
  · subst hkk
    clear h3s h4s h5s h6s h7s h8s h9s
    go_wp2
    go_ret
    exact ⟨ret_str (X := (⟨#[110, 111, 32, 114, 111, 111, 116]⟩ : ByteArray)) (rsayEq4 HS.out), fin _ (by first | exact hb9 | exact below_drew hb9)⟩
  · subst hkk
    have k0 : (9223372036854775807 < S9.size + 11) = False := eq_false (by omega)
    clear h3s h4s h5s h6s h7s h8s h9s
    go_wp2
    go_ret
    exact ⟨ret_str (X := S9 ++ (⟨#[98, 114, 111, 107, 101, 110, 32, 115, 108, 111, 116]⟩ : ByteArray)) (rsayEq5 HS.out), fin _ (by first | exact hb9 | exact below_drew hb9)⟩
  · subst hkk
    have k0 : (9223372036854775807 < S9.size + 6) = False := eq_false (by omega)
    have k1 : (9223372036854775807 < S9.size + 6 + IS.size) = False := eq_false (by omega)
    have k2 : (9223372036854775807 < S9.size + 6 + IS.size + 8) = False := eq_false (by omega)
    have k3 : (9223372036854775807 < S9.size + 6 + IS.size + 8 + OS.size) = False := eq_false (by omega)
    have k4 : (9223372036854775807 < S9.size + 6 + IS.size + 8 + OS.size + 10) = False := eq_false (by omega)
    have k5 : (9223372036854775807 < S9.size + 6 + IS.size + 8 + OS.size + 10 + BS.size) = False := eq_false (by omega)
    have k6 : (9223372036854775807 < S9.size + 6 + IS.size + 8 + OS.size + 10 + BS.size + 13) = False := eq_false (by omega)
    clear h3s h4s h5s h6s h7s h8s h9s
    go_wp2
    go_ret
    exact ⟨ret_str (X := S9 ++ (⟨#[105, 110, 100, 101, 120, 32]⟩ : ByteArray) ++ IS ++ (⟨#[44, 32, 100, 101, 112, 116, 104, 32]⟩ : ByteArray) ++ OS ++ (⟨#[58, 32, 112, 111, 105, 110, 116, 101, 114, 32]⟩ : ByteArray) ++ BS ++ (⟨#[32, 111, 117, 116, 32, 111, 102, 32, 114, 97, 110, 103, 101]⟩ : ByteArray)) (rsayEq6 HS.out), fin _ (by first | exact hb9 | exact below_drew hb9)⟩
  · subst hkk
    have k0 : (9223372036854775807 < S9.size + 6) = False := eq_false (by omega)
    have k1 : (9223372036854775807 < S9.size + 6 + IS.size) = False := eq_false (by omega)
    have k2 : (9223372036854775807 < S9.size + 6 + IS.size + 8) = False := eq_false (by omega)
    have k3 : (9223372036854775807 < S9.size + 6 + IS.size + 8 + OS.size) = False := eq_false (by omega)
    have k4 : (9223372036854775807 < S9.size + 6 + IS.size + 8 + OS.size + 8) = False := eq_false (by omega)
    have k5 : (9223372036854775807 < S9.size + 6 + IS.size + 8 + OS.size + 8 + BS.size) = False := eq_false (by omega)
    have k6 : (9223372036854775807 < S9.size + 6 + IS.size + 8 + OS.size + 8 + BS.size + 13) = False := eq_false (by omega)
    clear h3s h4s h5s h6s h7s h8s h9s
    go_wp2
    go_ret
    exact ⟨ret_str (X := S9 ++ (⟨#[105, 110, 100, 101, 120, 32]⟩ : ByteArray) ++ IS ++ (⟨#[44, 32, 100, 101, 112, 116, 104, 32]⟩ : ByteArray) ++ OS ++ (⟨#[58, 32, 98, 108, 111, 99, 107, 32]⟩ : ByteArray) ++ BS ++ (⟨#[32, 105, 115, 32, 97, 110, 111, 116, 104, 101, 114, 39, 115]⟩ : ByteArray)) (rsayEq7 HS.out), fin _ (by first | exact hb9 | exact below_drew hb9)⟩
  · subst hkk
    have k0 : (9223372036854775807 < S9.size + 6) = False := eq_false (by omega)
    have k1 : (9223372036854775807 < S9.size + 6 + IS.size) = False := eq_false (by omega)
    have k2 : (9223372036854775807 < S9.size + 6 + IS.size + 8) = False := eq_false (by omega)
    have k3 : (9223372036854775807 < S9.size + 6 + IS.size + 8 + BS.size) = False := eq_false (by omega)
    have k4 : (9223372036854775807 < S9.size + 6 + IS.size + 8 + BS.size + 16) = False := eq_false (by omega)
    clear h3s h4s h5s h6s h7s h8s h9s
    go_wp2
    go_ret
    exact ⟨ret_str (X := S9 ++ (⟨#[105, 110, 100, 101, 120, 32]⟩ : ByteArray) ++ IS ++ (⟨#[58, 32, 98, 108, 111, 99, 107, 32]⟩ : ByteArray) ++ BS ++ (⟨#[32, 98, 101, 104, 105, 110, 100, 32, 116, 104, 101, 32, 115, 105, 122, 101]⟩ : ByteArray)) (rsayEq8 HS.out), fin _ (by first | exact hb9 | exact below_drew hb9)⟩
  · subst hkk
    have k0 : (9223372036854775807 < S9.size + 6) = False := eq_false (by omega)
    have k1 : (9223372036854775807 < S9.size + 6 + IS.size) = False := eq_false (by omega)
    have k2 : (9223372036854775807 < S9.size + 6 + IS.size + 8) = False := eq_false (by omega)
    have k3 : (9223372036854775807 < S9.size + 6 + IS.size + 8 + BS.size) = False := eq_false (by omega)
    have k4 : (9223372036854775807 < S9.size + 6 + IS.size + 8 + BS.size + 26) = False := eq_false (by omega)
    clear h3s h4s h5s h6s h7s h8s h9s
    go_wp2
    go_ret
    exact ⟨ret_str (X := S9 ++ (⟨#[105, 110, 100, 101, 120, 32]⟩ : ByteArray) ++ IS ++ (⟨#[58, 32, 98, 108, 111, 99, 107, 32]⟩ : ByteArray) ++ BS ++ (⟨#[32, 104, 97, 115, 32, 98, 121, 116, 101, 115, 32, 98, 101, 104, 105, 110, 100, 32, 116, 104, 101, 32, 115, 105, 122, 101]⟩ : ByteArray)) (rsayEq9 HS.out), fin _ (by first | exact hb9 | exact below_drew hb9)⟩
  · subst hkk
    have k0 : (9223372036854775807 < S9.size + OS.size) = False := eq_false (by omega)
    have k1 : (9223372036854775807 < S9.size + OS.size + 21) = False := eq_false (by omega)
    clear h3s h4s h5s h6s h7s h8s h9s
    go_wp2
    go_ret
    exact ⟨ret_str (X := S9 ++ OS ++ (⟨#[32, 104, 111, 108, 101, 115, 32, 105, 110, 32, 97, 32, 100, 105, 114, 101, 99, 116, 111, 114, 121]⟩ : ByteArray)) (rsayEq10 HS.out), fin _ (by first | exact hb9 | exact below_drew hb9)⟩
  · subst hkk
    have k0 : (9223372036854775807 < S9.size + 5) = False := eq_false (by omega)
    have k1 : (9223372036854775807 < S9.size + 5 + IS.size) = False := eq_false (by omega)
    have k2 : (9223372036854775807 < S9.size + 5 + IS.size + 14) = False := eq_false (by omega)
    clear h3s h4s h5s h6s h7s h8s h9s
    go_wp2
    go_ret
    exact ⟨ret_str (X := S9 ++ (⟨#[115, 108, 111, 116, 32]⟩ : ByteArray) ++ IS ++ (⟨#[58, 32, 98, 114, 111, 107, 101, 110, 32, 101, 110, 116, 114, 121]⟩ : ByteArray)) (rsayEq11 HS.out), fin _ (by first | exact hb9 | exact below_drew hb9)⟩
  · subst hkk
    have k0 : (9223372036854775807 < S9.size + 5) = False := eq_false (by omega)
    have k1 : (9223372036854775807 < S9.size + 5 + IS.size) = False := eq_false (by omega)
    have k2 : (9223372036854775807 < S9.size + 5 + IS.size + 14) = False := eq_false (by omega)
    clear h3s h4s h5s h6s h7s h8s h9s
    go_wp2
    go_ret
    exact ⟨ret_str (X := S9 ++ (⟨#[115, 108, 111, 116, 32]⟩ : ByteArray) ++ IS ++ (⟨#[58, 32, 97, 32, 110, 97, 109, 101, 32, 116, 119, 105, 99, 101]⟩ : ByteArray)) (rsayEq12 HS.out), fin _ (by first | exact hb9 | exact below_drew hb9)⟩
  · subst hkk
    have k0 : (9223372036854775807 < S9.size + 5) = False := eq_false (by omega)
    have k1 : (9223372036854775807 < S9.size + 5 + IS.size) = False := eq_false (by omega)
    have k2 : (9223372036854775807 < S9.size + 5 + IS.size + 16) = False := eq_false (by omega)
    have k3 : (9223372036854775807 < S9.size + 5 + IS.size + 16 + OS.size) = False := eq_false (by omega)
    clear h3s h4s h5s h6s h7s h8s h9s
    go_wp2
    go_ret
    exact ⟨ret_str (X := S9 ++ (⟨#[115, 108, 111, 116, 32]⟩ : ByteArray) ++ IS ++ (⟨#[58, 32, 101, 110, 116, 114, 121, 32, 111, 102, 32, 110, 111, 100, 101, 32]⟩ : ByteArray) ++ OS) (rsayEq13 HS.out), fin _ (by first | exact hb9 | exact below_drew hb9)⟩
  · subst hkk
    have k0 : (9223372036854775807 < S9.size + 7) = False := eq_false (by omega)
    clear h3s h4s h5s h6s h7s h8s h9s
    go_wp2
    go_ret
    exact ⟨ret_str (X := S9 ++ (⟨#[110, 111, 32, 116, 101, 120, 116]⟩ : ByteArray)) (rsayEq14 HS.out), fin _ (by first | exact hb9 | exact below_drew hb9)⟩
  · subst hkk
    have k0 : (9223372036854775807 < S9.size + 5) = False := eq_false (by omega)
    have k1 : (9223372036854775807 < S9.size + 5 + IS.size) = False := eq_false (by omega)
    have k2 : (9223372036854775807 < S9.size + 5 + IS.size + 12) = False := eq_false (by omega)
    have k3 : (9223372036854775807 < S9.size + 5 + IS.size + 12 + OS.size) = False := eq_false (by omega)
    have k4 : (9223372036854775807 < S9.size + 5 + IS.size + 12 + OS.size + 10) = False := eq_false (by omega)
    clear h3s h4s h5s h6s h7s h8s h9s
    go_wp2
    go_ret
    exact ⟨ret_str (X := S9 ++ (⟨#[115, 108, 111, 116, 32]⟩ : ByteArray) ++ IS ++ (⟨#[58, 32, 100, 105, 114, 101, 99, 116, 111, 114, 121, 32]⟩ : ByteArray) ++ OS ++ (⟨#[32, 111, 110, 99, 101, 32, 109, 111, 114, 101]⟩ : ByteArray)) (rsayEq15 HS.out), fin _ (by first | exact hb9 | exact below_drew hb9)⟩
  · subst hkk
    have k0 : (9223372036854775807 < S9.size + 5) = False := eq_false (by omega)
    have k1 : (9223372036854775807 < S9.size + 5 + IS.size) = False := eq_false (by omega)
    have k2 : (9223372036854775807 < S9.size + 5 + IS.size + 19) = False := eq_false (by omega)
    have k3 : (9223372036854775807 < S9.size + 5 + IS.size + 19 + OS.size) = False := eq_false (by omega)
    have k4 : (9223372036854775807 < S9.size + 5 + IS.size + 19 + OS.size + 12) = False := eq_false (by omega)
    clear h3s h4s h5s h6s h7s h8s h9s
    go_wp2
    go_ret
    exact ⟨ret_str (X := S9 ++ (⟨#[115, 108, 111, 116, 32]⟩ : ByteArray) ++ IS ++ (⟨#[58, 32, 116, 104, 101, 32, 112, 97, 116, 104, 32, 111, 102, 32, 110, 111, 100, 101, 32]⟩ : ByteArray) ++ OS ++ (⟨#[32, 105, 115, 32, 116, 111, 111, 32, 108, 111, 110, 103]⟩ : ByteArray)) (rsayEq16 HS.out), fin _ (by first | exact hb9 | exact below_drew hb9)⟩
  · subst hkk
    have k0 : (9223372036854775807 < S9.size + 5) = False := eq_false (by omega)
    clear h3s h4s h5s h6s h7s h8s h9s
    go_wp2
    go_ret
    exact ⟨ret_str (X := S9 ++ (⟨#[108, 111, 111, 115, 101]⟩ : ByteArray)) (rsayEq17 HS.out), fin _ (by first | exact hb9 | exact below_drew hb9)⟩
  · subst hkk
    have k0 : (9223372036854775807 < OS.size + 15) = False := eq_false (by omega)
    clear h3s h4s h5s h6s h7s h8s h9s
    go_wp2
    go_ret
    exact ⟨ret_str (X := OS ++ (⟨#[32, 105, 116, 101, 109, 115, 32, 116, 111, 111, 32, 109, 97, 110, 121]⟩ : ByteArray)) (rsayEq18 HS.out), fin _ (by first | exact hb9 | exact below_drew hb9)⟩
  · clear h3s h4s h5s h6s h7s h8s h9s
    have n1 : (k == 1) = false := by rw [beq_eq_false_iff_ne]; omega
    have n2 : (k == 2) = false := by rw [beq_eq_false_iff_ne]; omega
    have n3 : (k == 3) = false := by rw [beq_eq_false_iff_ne]; omega
    have n4 : (k == 4) = false := by rw [beq_eq_false_iff_ne]; omega
    have n5 : (k == 5) = false := by rw [beq_eq_false_iff_ne]; omega
    have n6 : (k == 6) = false := by rw [beq_eq_false_iff_ne]; omega
    have n7 : (k == 7) = false := by rw [beq_eq_false_iff_ne]; omega
    have n8 : (k == 8) = false := by rw [beq_eq_false_iff_ne]; omega
    have n9 : (k == 9) = false := by rw [beq_eq_false_iff_ne]; omega
    have n10 : (k == 10) = false := by rw [beq_eq_false_iff_ne]; omega
    have n11 : (k == 11) = false := by rw [beq_eq_false_iff_ne]; omega
    have n12 : (k == 12) = false := by rw [beq_eq_false_iff_ne]; omega
    have n13 : (k == 13) = false := by rw [beq_eq_false_iff_ne]; omega
    have n14 : (k == 14) = false := by rw [beq_eq_false_iff_ne]; omega
    have n15 : (k == 15) = false := by rw [beq_eq_false_iff_ne]; omega
    have n16 : (k == 16) = false := by rw [beq_eq_false_iff_ne]; omega
    have n17 : (k == 17) = false := by rw [beq_eq_false_iff_ne]; omega
    have n18 : (k == 18) = false := by rw [beq_eq_false_iff_ne]; omega
    have hno : saidV k n i b o = [110, 111, 32, 108, 111, 115, 115] := by unfold saidV; rw [if_neg (by omega)]
    clear hkk
    go_wp2
    go_ret
    exact ⟨ret_str (X := ⟨#[110, 111, 32, 108, 111, 115, 115]⟩) (by rw [hno]), fin _ (by first | exact hb9 | exact below_drew hb9)⟩
end Go.Proofs.YtkcakpcmpbjhlaaDoor
