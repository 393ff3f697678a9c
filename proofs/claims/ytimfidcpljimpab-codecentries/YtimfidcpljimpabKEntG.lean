import Derived.Test.YtimfidcpljimpabKTake
import Derived.Test.YtimfidcpljimpabKEntF
import Derived.Test.YtimfidcpljimpabKRName
namespace Go.Proofs.Ytimfidcpljimpab
open Go.RowKit

abbrev entBox (n k : Int) (s : ByteArray) (t : Int) : Array Value := #[.int .i64 n, .int .i64 k, .string s, .int .i64 t]

theorem txt_at (s : ByteArray) (i : Nat) (h : i < s.size) : (txt s)[i]? = some ((s[i].toNat : Nat) : Int) := by
  have : i < s.data.toList.length := by rw [len_size]; exact h
  simp [txt, ByteArray.getElem_eq_getElem_data]
  exact ⟨s.data[i]'(by simpa using this), by simp, rfl⟩

set_option maxRecDepth 20000 in
set_option maxHeartbeats 4000000 in
theorem rencent_none (s : ByteArray) (t : Int) (w : World) (hs : s.toList = []) :
    Calls Try.prog 24 #[ent 0 0 s t] w fun e w' => ∃ v, e = .returned (.tuple #[v, .int .i64 0]) ∧ Made w w' v zeros64 := by
  obtain ⟨i0, hi, hz0, hz1, hz2⟩ := info_parts infoU8
  have hle : s.toList.isEmpty = true := by rw [hs]; rfl
  obtain ⟨w2, hw2⟩ : ∃ w2, w2 = w.alloc (.cells (entBox 0 0 s t) 38) := ⟨_, rfl⟩
  have hB2 : Below w.heap.size w w2 := by rw [hw2]; exact (Below.refl _ w).alloc (Nat.le_refl _) _
  have hq2 : w2.heap[w.heap.size]? = some (.cells (entBox 0 0 s t) 38 (0, 0)) := by rw [hw2]; exact heap_alloc_new _ _
  have hsz : w2.heap.size = w.heap.size + 1 := by rw [hw2]; simp
  go_enter Try.func24, Try.ntmps24
  go_wp2_with (at_make; rw [← hw2]; refine wpList_make_full _ rfl _ _ 29 rfl w2.heap.size 5 i0 (.int .u8 0) 1 Try.underlying29 hi hz0 hz1 _ _ _ _ 64 rfl rfl ?c1 ?c2 ?c3 ?c4 ?c5 ?_)
  try (case c1 => rfl)
  try (case c2 => rfl)
  try (case c3 => rw [hz2]; omega)
  case c4 => unfold maxLen; omega
  try (case c5 => exact Nat.le_refl _)
  intro w3 hown hgrow
  rw [← hw2] at hgrow
  clear hw2
  have hr3 : RowAt w3 5 (w.heap.size + 1) 64 (bs zeros64) := made_row hown
  have hb3 : Below w2.heap.size w2 w3 := (Below.refl _ w2).grown hgrow (Nat.le_refl _) (by intro k hk; cases hk)
  have hq3 := (hb3.block w.heap.size (by omega)).trans hq2
  have c0 := cell_of_block hq3 (j := 0) rfl
  have c1 := cell_of_block hq3 (j := 1) rfl
  have c2 := cell_of_block hq3 (j := 2) rfl
  have HM : Hid (Made w w3 (.slice (some ⟨w.heap.size + 1, 0, none⟩) 64 64) zeros64) := ⟨w.heap.size + 1, 64, by rw [zeros64_len], by omega, hr3, hB2.trans (hb3.mono (by omega))⟩
  clear hown hgrow hr3 hb3 hB2 hq2 hq3
  go_wp2
  go_ret2
  exact ⟨_, rfl, HM.out⟩

set_option maxRecDepth 20000 in
set_option maxHeartbeats 4000000 in
theorem rencent_b1 (n k : Int) (s : ByteArray) (t : Int) (w : World) (h1 : (n == 0) = false) (h2 : n < 1) :
    Calls Try.prog 24 #[ent n k s t] w fun e w' => e = .returned (.tuple #[.slice none 0 0, .int .i64 20]) ∧ Below w.heap.size w w' := by
  obtain ⟨i0, hi, hz0, hz1, hz2⟩ := info_parts infoU8
  obtain ⟨w2, hw2⟩ : ∃ w2, w2 = w.alloc (.cells (entBox n k s t) 38) := ⟨_, rfl⟩
  have hB2 : Below w.heap.size w w2 := by rw [hw2]; exact (Below.refl _ w).alloc (Nat.le_refl _) _
  have hq2 : w2.heap[w.heap.size]? = some (.cells (entBox n k s t) 38 (0, 0)) := by rw [hw2]; exact heap_alloc_new _ _
  have hsz : w2.heap.size = w.heap.size + 1 := by rw [hw2]; simp
  go_enter Try.func24, Try.ntmps24
  go_wp2_with (at_make; rw [← hw2]; refine wpList_make_full _ rfl _ _ 29 rfl w2.heap.size 5 i0 (.int .u8 0) 1 Try.underlying29 hi hz0 hz1 _ _ _ _ 64 rfl rfl ?c1 ?c2 ?c3 ?c4 ?c5 ?_)
  try (case c1 => rfl)
  try (case c2 => rfl)
  try (case c3 => rw [hz2]; omega)
  case c4 => unfold maxLen; omega
  try (case c5 => exact Nat.le_refl _)
  intro w3 hown hgrow
  rw [← hw2] at hgrow
  clear hw2
  have hr3 : RowAt w3 5 (w.heap.size + 1) 64 (bs (zs 64)) := made_row hown
  have hb3 : Below w2.heap.size w2 w3 := (Below.refl _ w2).grown hgrow (Nat.le_refl _) (by intro k hk; cases hk)
  have hq3 := (hb3.block w.heap.size (by omega)).trans hq2
  have c0 := cell_of_block hq3 (j := 0) rfl
  have c1 := cell_of_block hq3 (j := 1) rfl
  have c2 := cell_of_block hq3 (j := 2) rfl
  have hB3 : Below w.heap.size w w3 := hB2.trans (hb3.mono (by omega))
  have HB := Hid.mk hB3
  clear hown hgrow hr3 hb3 hB2 hq2 hq3 hB3
  go_wp2
  go_ret2
  exact ⟨rfl, HB.out⟩

set_option maxRecDepth 20000 in
set_option maxHeartbeats 4000000 in
theorem rencent_b2 (n k : Int) (s : ByteArray) (t : Int) (w : World) (h1 : (n == 0) = false) (h2 : ¬ n < 1) (h3 : 1024 < n) :
    Calls Try.prog 24 #[ent n k s t] w fun e w' => e = .returned (.tuple #[.slice none 0 0, .int .i64 20]) ∧ Below w.heap.size w w' := by
  obtain ⟨i0, hi, hz0, hz1, hz2⟩ := info_parts infoU8
  obtain ⟨w2, hw2⟩ : ∃ w2, w2 = w.alloc (.cells (entBox n k s t) 38) := ⟨_, rfl⟩
  have hB2 : Below w.heap.size w w2 := by rw [hw2]; exact (Below.refl _ w).alloc (Nat.le_refl _) _
  have hq2 : w2.heap[w.heap.size]? = some (.cells (entBox n k s t) 38 (0, 0)) := by rw [hw2]; exact heap_alloc_new _ _
  have hsz : w2.heap.size = w.heap.size + 1 := by rw [hw2]; simp
  go_enter Try.func24, Try.ntmps24
  go_wp2_with (at_make; rw [← hw2]; refine wpList_make_full _ rfl _ _ 29 rfl w2.heap.size 5 i0 (.int .u8 0) 1 Try.underlying29 hi hz0 hz1 _ _ _ _ 64 rfl rfl ?c1 ?c2 ?c3 ?c4 ?c5 ?_)
  try (case c1 => rfl)
  try (case c2 => rfl)
  try (case c3 => rw [hz2]; omega)
  case c4 => unfold maxLen; omega
  try (case c5 => exact Nat.le_refl _)
  intro w3 hown hgrow
  rw [← hw2] at hgrow
  clear hw2
  have hr3 : RowAt w3 5 (w.heap.size + 1) 64 (bs (zs 64)) := made_row hown
  have hb3 : Below w2.heap.size w2 w3 := (Below.refl _ w2).grown hgrow (Nat.le_refl _) (by intro k hk; cases hk)
  have hq3 := (hb3.block w.heap.size (by omega)).trans hq2
  have c0 := cell_of_block hq3 (j := 0) rfl
  have c1 := cell_of_block hq3 (j := 1) rfl
  have c2 := cell_of_block hq3 (j := 2) rfl
  have hB3 : Below w.heap.size w w3 := hB2.trans (hb3.mono (by omega))
  have HB := Hid.mk hB3
  clear hown hgrow hr3 hb3 hB2 hq2 hq3 hB3
  go_wp2
  go_ret2
  exact ⟨rfl, HB.out⟩

set_option maxRecDepth 20000 in
set_option maxHeartbeats 4000000 in
theorem rencent_b3 (n k : Int) (s : ByteArray) (t : Int) (w : World) (h1 : (n == 0) = false) (h2 : ¬ n < 1) (h3 : ¬ 1024 < n) (h4 : k < 1) :
    Calls Try.prog 24 #[ent n k s t] w fun e w' => e = .returned (.tuple #[.slice none 0 0, .int .i64 20]) ∧ Below w.heap.size w w' := by
  obtain ⟨i0, hi, hz0, hz1, hz2⟩ := info_parts infoU8
  obtain ⟨w2, hw2⟩ : ∃ w2, w2 = w.alloc (.cells (entBox n k s t) 38) := ⟨_, rfl⟩
  have hB2 : Below w.heap.size w w2 := by rw [hw2]; exact (Below.refl _ w).alloc (Nat.le_refl _) _
  have hq2 : w2.heap[w.heap.size]? = some (.cells (entBox n k s t) 38 (0, 0)) := by rw [hw2]; exact heap_alloc_new _ _
  have hsz : w2.heap.size = w.heap.size + 1 := by rw [hw2]; simp
  go_enter Try.func24, Try.ntmps24
  go_wp2_with (at_make; rw [← hw2]; refine wpList_make_full _ rfl _ _ 29 rfl w2.heap.size 5 i0 (.int .u8 0) 1 Try.underlying29 hi hz0 hz1 _ _ _ _ 64 rfl rfl ?c1 ?c2 ?c3 ?c4 ?c5 ?_)
  try (case c1 => rfl)
  try (case c2 => rfl)
  try (case c3 => rw [hz2]; omega)
  case c4 => unfold maxLen; omega
  try (case c5 => exact Nat.le_refl _)
  intro w3 hown hgrow
  rw [← hw2] at hgrow
  clear hw2
  have hr3 : RowAt w3 5 (w.heap.size + 1) 64 (bs (zs 64)) := made_row hown
  have hb3 : Below w2.heap.size w2 w3 := (Below.refl _ w2).grown hgrow (Nat.le_refl _) (by intro k hk; cases hk)
  have hq3 := (hb3.block w.heap.size (by omega)).trans hq2
  have c0 := cell_of_block hq3 (j := 0) rfl
  have c1 := cell_of_block hq3 (j := 1) rfl
  have c2 := cell_of_block hq3 (j := 2) rfl
  have hB3 : Below w.heap.size w w3 := hB2.trans (hb3.mono (by omega))
  have HB := Hid.mk hB3
  clear hown hgrow hr3 hb3 hB2 hq2 hq3 hB3
  go_wp2
  go_ret2
  exact ⟨rfl, HB.out⟩

set_option maxRecDepth 20000 in
set_option maxHeartbeats 4000000 in
theorem rencent_b4 (n k : Int) (s : ByteArray) (t : Int) (w : World) (h1 : (n == 0) = false) (h2 : ¬ n < 1) (h3 : ¬ 1024 < n) (h4 : ¬ k < 1) (h5 : 3 < k) :
    Calls Try.prog 24 #[ent n k s t] w fun e w' => e = .returned (.tuple #[.slice none 0 0, .int .i64 20]) ∧ Below w.heap.size w w' := by
  obtain ⟨i0, hi, hz0, hz1, hz2⟩ := info_parts infoU8
  obtain ⟨w2, hw2⟩ : ∃ w2, w2 = w.alloc (.cells (entBox n k s t) 38) := ⟨_, rfl⟩
  have hB2 : Below w.heap.size w w2 := by rw [hw2]; exact (Below.refl _ w).alloc (Nat.le_refl _) _
  have hq2 : w2.heap[w.heap.size]? = some (.cells (entBox n k s t) 38 (0, 0)) := by rw [hw2]; exact heap_alloc_new _ _
  have hsz : w2.heap.size = w.heap.size + 1 := by rw [hw2]; simp
  go_enter Try.func24, Try.ntmps24
  go_wp2_with (at_make; rw [← hw2]; refine wpList_make_full _ rfl _ _ 29 rfl w2.heap.size 5 i0 (.int .u8 0) 1 Try.underlying29 hi hz0 hz1 _ _ _ _ 64 rfl rfl ?c1 ?c2 ?c3 ?c4 ?c5 ?_)
  try (case c1 => rfl)
  try (case c2 => rfl)
  try (case c3 => rw [hz2]; omega)
  case c4 => unfold maxLen; omega
  try (case c5 => exact Nat.le_refl _)
  intro w3 hown hgrow
  rw [← hw2] at hgrow
  clear hw2
  have hr3 : RowAt w3 5 (w.heap.size + 1) 64 (bs (zs 64)) := made_row hown
  have hb3 : Below w2.heap.size w2 w3 := (Below.refl _ w2).grown hgrow (Nat.le_refl _) (by intro k hk; cases hk)
  have hq3 := (hb3.block w.heap.size (by omega)).trans hq2
  have c0 := cell_of_block hq3 (j := 0) rfl
  have c1 := cell_of_block hq3 (j := 1) rfl
  have c2 := cell_of_block hq3 (j := 2) rfl
  have hB3 : Below w.heap.size w w3 := hB2.trans (hb3.mono (by omega))
  have HB := Hid.mk hB3
  clear hown hgrow hr3 hb3 hB2 hq2 hq3 hB3
  go_wp2
  go_ret2
  exact ⟨rfl, HB.out⟩

set_option maxRecDepth 20000 in
set_option maxHeartbeats 4000000 in
theorem rencent_b5 (n k : Int) (s : ByteArray) (t : Int) (w : World) (h1 : (n == 0) = false) (h2 : ¬ n < 1) (h3 : ¬ 1024 < n) (h4 : ¬ k < 1) (h5 : ¬ 3 < k) (h6 : nameErr s.data.toList ≠ 0) :
    Calls Try.prog 24 #[ent n k s t] w fun e w' => e = .returned (.tuple #[.slice none 0 0, .int .i64 20]) ∧ Below w.heap.size w w' := by
  have h7 : (nameErr s.data.toList != 0) = true := by rw [bne_iff_ne]; exact h6
  have hna := fun w => rname_any s w
  generalize nameErr s.data.toList = E at *
  clear h6
  obtain ⟨i0, hi, hz0, hz1, hz2⟩ := info_parts infoU8
  obtain ⟨w2, hw2⟩ : ∃ w2, w2 = w.alloc (.cells (entBox n k s t) 38) := ⟨_, rfl⟩
  have hB2 : Below w.heap.size w w2 := by rw [hw2]; exact (Below.refl _ w).alloc (Nat.le_refl _) _
  have hq2 : w2.heap[w.heap.size]? = some (.cells (entBox n k s t) 38 (0, 0)) := by rw [hw2]; exact heap_alloc_new _ _
  have hsz : w2.heap.size = w.heap.size + 1 := by rw [hw2]; simp
  go_enter Try.func24, Try.ntmps24
  go_wp2_with (at_make; rw [← hw2]; refine wpList_make_full _ rfl _ _ 29 rfl w2.heap.size 5 i0 (.int .u8 0) 1 Try.underlying29 hi hz0 hz1 _ _ _ _ 64 rfl rfl ?c1 ?c2 ?c3 ?c4 ?c5 ?_)
  try (case c1 => rfl)
  try (case c2 => rfl)
  try (case c3 => rw [hz2]; omega)
  case c4 => unfold maxLen; omega
  try (case c5 => exact Nat.le_refl _)
  intro w3 hown hgrow
  rw [← hw2] at hgrow
  clear hw2
  have hr3 : RowAt w3 5 (w.heap.size + 1) 64 (bs (zs 64)) := made_row hown
  have hb3 : Below w2.heap.size w2 w3 := (Below.refl _ w2).grown hgrow (Nat.le_refl _) (by intro k hk; cases hk)
  have hq3 := (hb3.block w.heap.size (by omega)).trans hq2
  have c0 := cell_of_block hq3 (j := 0) rfl
  have c1 := cell_of_block hq3 (j := 1) rfl
  have c2 := cell_of_block hq3 (j := 2) rfl
  have hB3 : Below w.heap.size w w3 := hB2.trans (hb3.mono (by omega))
  have HB := Hid.mk hB3
  clear hown hgrow hr3 hb3 hB2 hq2 hq3 hB3
  go_wp2_with fail
  refine (hna _).mono ?_
  rintro e w' ⟨rfl, hw⟩
  have hw' := hw.symm
  subst hw'
  clear hw
  go_wp2
  go_ret2
  exact ⟨rfl, HB.out⟩

set_option maxRecDepth 20000 in
set_option maxHeartbeats 4000000 in
theorem rencent_b6 (n k : Int) (s : ByteArray) (t : Int) (w : World) (h1 : n = 0) (h2 : (k == 0) = false) :
    Calls Try.prog 24 #[ent n k s t] w fun e w' => e = .returned (.tuple #[.slice none 0 0, .int .i64 20]) ∧ Below w.heap.size w w' := by
  subst h1
  obtain ⟨i0, hi, hz0, hz1, hz2⟩ := info_parts infoU8
  obtain ⟨w2, hw2⟩ : ∃ w2, w2 = w.alloc (.cells (entBox 0 k s t) 38) := ⟨_, rfl⟩
  have hB2 : Below w.heap.size w w2 := by rw [hw2]; exact (Below.refl _ w).alloc (Nat.le_refl _) _
  have hq2 : w2.heap[w.heap.size]? = some (.cells (entBox 0 k s t) 38 (0, 0)) := by rw [hw2]; exact heap_alloc_new _ _
  have hsz : w2.heap.size = w.heap.size + 1 := by rw [hw2]; simp
  go_enter Try.func24, Try.ntmps24
  go_wp2_with (at_make; rw [← hw2]; refine wpList_make_full _ rfl _ _ 29 rfl w2.heap.size 5 i0 (.int .u8 0) 1 Try.underlying29 hi hz0 hz1 _ _ _ _ 64 rfl rfl ?c1 ?c2 ?c3 ?c4 ?c5 ?_)
  try (case c1 => rfl)
  try (case c2 => rfl)
  try (case c3 => rw [hz2]; omega)
  case c4 => unfold maxLen; omega
  try (case c5 => exact Nat.le_refl _)
  intro w3 hown hgrow
  rw [← hw2] at hgrow
  clear hw2
  have hr3 : RowAt w3 5 (w.heap.size + 1) 64 (bs (zs 64)) := made_row hown
  have hb3 : Below w2.heap.size w2 w3 := (Below.refl _ w2).grown hgrow (Nat.le_refl _) (by intro k hk; cases hk)
  have hq3 := (hb3.block w.heap.size (by omega)).trans hq2
  have c0 := cell_of_block hq3 (j := 0) rfl
  have c1 := cell_of_block hq3 (j := 1) rfl
  have c2 := cell_of_block hq3 (j := 2) rfl
  have hB3 : Below w.heap.size w w3 := hB2.trans (hb3.mono (by omega))
  have HB := Hid.mk hB3
  clear hown hgrow hr3 hb3 hB2 hq2 hq3 hB3
  go_wp2
  go_ret2
  exact ⟨rfl, HB.out⟩

set_option maxRecDepth 20000 in
set_option maxHeartbeats 4000000 in
theorem rencent_b7 (n k : Int) (s : ByteArray) (t : Int) (w : World) (h1 : n = 0) (h2 : k = 0) (h3 : s.toList.isEmpty = false) :
    Calls Try.prog 24 #[ent n k s t] w fun e w' => e = .returned (.tuple #[.slice none 0 0, .int .i64 20]) ∧ Below w.heap.size w w' := by
  subst h1
  subst h2
  obtain ⟨i0, hi, hz0, hz1, hz2⟩ := info_parts infoU8
  obtain ⟨w2, hw2⟩ : ∃ w2, w2 = w.alloc (.cells (entBox 0 0 s t) 38) := ⟨_, rfl⟩
  have hB2 : Below w.heap.size w w2 := by rw [hw2]; exact (Below.refl _ w).alloc (Nat.le_refl _) _
  have hq2 : w2.heap[w.heap.size]? = some (.cells (entBox 0 0 s t) 38 (0, 0)) := by rw [hw2]; exact heap_alloc_new _ _
  have hsz : w2.heap.size = w.heap.size + 1 := by rw [hw2]; simp
  go_enter Try.func24, Try.ntmps24
  go_wp2_with (at_make; rw [← hw2]; refine wpList_make_full _ rfl _ _ 29 rfl w2.heap.size 5 i0 (.int .u8 0) 1 Try.underlying29 hi hz0 hz1 _ _ _ _ 64 rfl rfl ?c1 ?c2 ?c3 ?c4 ?c5 ?_)
  try (case c1 => rfl)
  try (case c2 => rfl)
  try (case c3 => rw [hz2]; omega)
  case c4 => unfold maxLen; omega
  try (case c5 => exact Nat.le_refl _)
  intro w3 hown hgrow
  rw [← hw2] at hgrow
  clear hw2
  have hr3 : RowAt w3 5 (w.heap.size + 1) 64 (bs (zs 64)) := made_row hown
  have hb3 : Below w2.heap.size w2 w3 := (Below.refl _ w2).grown hgrow (Nat.le_refl _) (by intro k hk; cases hk)
  have hq3 := (hb3.block w.heap.size (by omega)).trans hq2
  have c0 := cell_of_block hq3 (j := 0) rfl
  have c1 := cell_of_block hq3 (j := 1) rfl
  have c2 := cell_of_block hq3 (j := 2) rfl
  have hB3 : Below w.heap.size w w3 := hB2.trans (hb3.mono (by omega))
  have HB := Hid.mk hB3
  clear hown hgrow hr3 hb3 hB2 hq2 hq3 hB3
  go_wp2
  go_ret2
  exact ⟨rfl, HB.out⟩

theorem rencent_bad (n k : Int) (s : ByteArray) (t : Int) (w : World) (h0 : ¬ ENone n k s) (hf : ¬ EFits n k s) :
    Calls Try.prog 24 #[ent n k s t] w fun e w' => e = .returned (.tuple #[.slice none 0 0, .int .i64 20]) ∧ Below w.heap.size w w' := by
  by_cases h1 : n = 0
  · by_cases h2 : k = 0
    · refine rencent_b7 n k s t w h1 h2 ?_
      cases h : s.toList with
      | nil => exact absurd ⟨h1, h2, h⟩ h0
      | cons => rfl
    · exact rencent_b6 n k s t w h1 (by rw [Bool.eq_false_iff, ne_eq, beq_iff_eq]; exact h2)
  · have h1' : (n == 0) = false := by rw [Bool.eq_false_iff, ne_eq, beq_iff_eq]; exact h1
    by_cases h2 : n < 1
    · exact rencent_b1 n k s t w h1' h2
    · by_cases h3 : 1024 < n
      · exact rencent_b2 n k s t w h1' h2 h3
      · by_cases h4 : k < 1
        · exact rencent_b3 n k s t w h1' h2 h3 h4
        · by_cases h5 : 3 < k
          · exact rencent_b4 n k s t w h1' h2 h3 h4 h5
          · exact rencent_b5 n k s t w h1' h2 h3 h4 h5 (fun h6 => hf ⟨⟨by omega, by omega⟩, ⟨by omega, by omega⟩, h6⟩)

set_option maxRecDepth 20000 in
set_option maxHeartbeats 8000000 in
theorem rencent_ok (n k : Nat) (s : ByteArray) (t : Int) (w : World) (hf : EFits n k s) :
    Calls Try.prog 24 #[ent n k s t] w fun e w' => ∃ v, e = .returned (.tuple #[v, .int .i64 0]) ∧ Made w w' v (sealed (entBody n k s)) := by
  have h1 : (((n : Int)) == 0) = false := by rw [Bool.eq_false_iff, ne_eq, beq_iff_eq]; have := hf.1.1; omega
  have h2 : ¬ (n : Int) < 1 := by have := hf.1.1; omega
  have h3 : ¬ 1024 < (n : Int) := by have := hf.1.2; omega
  have h4 : ¬ (k : Int) < 1 := by have := hf.2.1.1; omega
  have h5 : ¬ 3 < (k : Int) := by have := hf.2.1.2; omega
  obtain ⟨hs0, hs54⟩ := name_ok hf.2.2
  have hna : ∀ w, Calls Try.prog 56 #[.string s] w fun e w' => e = .returned (.int .i64 0) ∧ w' = w := fun w => by have := rname_any s w; rw [hf.2.2] at this; exact this
  clear hf
  obtain ⟨i0, hi, hz0, hz1, hz2⟩ := info_parts infoU8
  obtain ⟨w2, hw2⟩ : ∃ w2, w2 = w.alloc (.cells (entBox (n : Int) (k : Int) s t) 38) := ⟨_, rfl⟩
  have hB2 : Below w.heap.size w w2 := by rw [hw2]; exact (Below.refl _ w).alloc (Nat.le_refl _) _
  have hq2 : w2.heap[w.heap.size]? = some (.cells (entBox (n : Int) (k : Int) s t) 38 (0, 0)) := by rw [hw2]; exact heap_alloc_new _ _
  have hsz : w2.heap.size = w.heap.size + 1 := by rw [hw2]; simp
  go_enter Try.func24, Try.ntmps24
  go_wp2_with (at_make; rw [← hw2]; refine wpList_make_full _ rfl _ _ 29 rfl w2.heap.size 5 i0 (.int .u8 0) 1 Try.underlying29 hi hz0 hz1 _ _ _ _ 64 rfl rfl ?c1 ?c2 ?c3 ?c4 ?c5 ?_)
  try (case c1 => rfl)
  try (case c2 => rfl)
  try (case c3 => rw [hz2]; omega)
  case c4 => unfold maxLen; omega
  try (case c5 => exact Nat.le_refl _)
  intro w3 hown hgrow
  rw [← hw2] at hgrow
  clear hw2
  have hr3 : RowAt w3 5 (w.heap.size + 1) 64 (bs (zs 64)) := made_row hown
  have hb3 : Below w2.heap.size w2 w3 := (Below.refl _ w2).grown hgrow (Nat.le_refl _) (by intro k hk; cases hk)
  have hq3 := (hb3.block w.heap.size (by omega)).trans hq2
  have c0 := cell_of_block hq3 (j := 0) rfl
  have c1 := cell_of_block hq3 (j := 1) rfl
  have c2 := cell_of_block hq3 (j := 2) rfl
  have hB3 : Below w.heap.size w w3 := hB2.trans (hb3.mono (by omega))
  have hf3 : Full w3 (w.heap.size + 1) ([] ++ (zs 4 ++ zs 60)) := by
    have := hr3.full (by simp only [bs, List.length_map, zs_len])
    rw [List.nil_append, ← zs_add]
    exact this
  have g1 : Calls Try.prog 57 #[.slice (some ⟨w.heap.size + 1, 0, none⟩) 64 64, .int .i64 0, .int .i64 4, .int .i64 (n : Int)] w3 fun e w' => e = .returned (.tuple #[]) ∧ Full w' (w.heap.size + 1) (leb 4 n ++ (zs 1 ++ zs 59)) ∧ Keeps (fun j => j = w.heap.size + 1) w3 w' := by
    have := rlay_any (w.heap.size + 1) 64 64 [] (zs 4) (zs 60) 0 4 n w3 hf3 rfl (zs_len 4) (by rw [List.nil_append, List.length_append, zs_len, zs_len]) (by omega) (by omega)
    rw [List.nil_append, show zs 60 = zs 1 ++ zs 59 from zs_add 1 59] at this
    exact this
  have g2 : ∀ wx, Full wx (w.heap.size + 1) (leb 4 n ++ (zs 1 ++ zs 59)) → Calls Try.prog 57 #[.slice (some ⟨w.heap.size + 1, 0, none⟩) 64 64, .int .i64 4, .int .i64 1, .int .i64 (k : Int)] wx fun e w' => e = .returned (.tuple #[]) ∧ Full w' (w.heap.size + 1) ((leb 4 n ++ leb 1 k) ++ (zs 1 ++ zs 58)) ∧ Keeps (fun j => j = w.heap.size + 1) wx w' := fun wx hx => by
    have := rlay_any (w.heap.size + 1) 64 64 (leb 4 n) (zs 1) (zs 59) 4 1 k wx hx (leb_len 4 n) (zs_len 1) (by rw [List.length_append, List.length_append, zs_len, zs_len, leb_len]) (by omega) (by omega)
    rw [show zs 59 = zs 1 ++ zs 58 from zs_add 1 58, ← List.append_assoc] at this
    exact this
  have g3 : ∀ wx, Full wx (w.heap.size + 1) ((leb 4 n ++ leb 1 k) ++ (zs 1 ++ zs 58)) → Calls Try.prog 57 #[.slice (some ⟨w.heap.size + 1, 0, none⟩) 64 64, .int .i64 5, .int .i64 1, .int .i64 (s.size : Int)] wx fun e w' => e = .returned (.tuple #[]) ∧ Full w' (w.heap.size + 1) ((leb 4 n ++ leb 1 k ++ leb 1 s.size) ++ zs 58) ∧ Keeps (fun j => j = w.heap.size + 1) wx w' := fun wx hx => by
    have := rlay_any (w.heap.size + 1) 64 64 (leb 4 n ++ leb 1 k) (zs 1) (zs 58) 5 1 s.size wx hx (by rw [List.length_append, leb_len, leb_len]) (zs_len 1) (by rw [List.length_append, List.length_append, List.length_append, zs_len, zs_len, leb_len, leb_len]) (by omega) (by omega)
    rw [← List.append_assoc] at this
    exact this
  have hbl := entBody_len n k hs54
  have g5 : ∀ wx, Full wx (w.heap.size + 1) (entBody n k s ++ (zs 4 ++ [])) → Calls Try.prog 58 #[.slice (some ⟨w.heap.size + 1, 0, none⟩) 60 64] wx fun e w' => e = .returned (.int .i64 ((sumOf (entBody n k s) : Nat) : Int)) ∧ Below wx.heap.size wx w' := fun wx hx => by
    refine rsum_any _ _ _ _ wx (entBody_bytes n k s) (by omega) ?_
    have := hx.src (by rw [List.length_append, hbl, List.append_nil, zs_len]; omega) (n := 60) (by rw [List.length_append, hbl]; omega)
    rw [List.take_left' hbl] at this
    exact this
  have hsl := sumOf_lt (entBody_bytes n k s)
  have g6 : ∀ wx, Full wx (w.heap.size + 1) (entBody n k s ++ (zs 4 ++ [])) → Calls Try.prog 57 #[.slice (some ⟨w.heap.size + 1, 0, none⟩) 64 64, .int .i64 60, .int .i64 4, .int .i64 ((sumOf (entBody n k s) : Nat) : Int)] wx fun e w' => e = .returned (.tuple #[]) ∧ Full w' (w.heap.size + 1) (sealed (entBody n k s)) ∧ Keeps (fun j => j = w.heap.size + 1) wx w' := fun wx hx => by
    have := rlay_any (w.heap.size + 1) 64 64 (entBody n k s) (zs 4) [] 60 4 (sumOf (entBody n k s)) wx hx hbl (zs_len 4) (by rw [List.length_append, hbl, List.append_nil, zs_len]) (by omega) (by omega)
    rw [List.append_nil] at this
    exact this
  have G1 := Hid.mk g1
  have G2 := Hid.mk g2
  have G3 := Hid.mk g3
  have G5 := Hid.mk g5
  have G6 := Hid.mk g6
  have HB3 := Hid.mk hB3
  have HQ3 := Hid.mk hq3
  have hne : ¬ w.heap.size = w.heap.size + 1 := by omega
  clear hown hgrow hr3 hb3 hB2 hq2 hq3 hB3 g1 g2 g3 g5 g6 hf3
  go_wp2_with fail
  refine (hna _).mono ?_
  rintro e w' ⟨rfl, hw⟩
  have hw' := hw.symm
  subst hw'
  clear hw hna
  go_wp2_with fail
  refine G1.out.mono ?_
  rintro e w4 ⟨rfl, hf4, hk4⟩
  have hq4 := (hk4.block _ (Array.getElem?_eq_some_iff.1 HQ3.out).1 hne).trans HQ3.out
  have HB4 : Hid (Below w.heap.size w w4) := HB3.out.trans (hk4.below (fun j hj => by omega) HB3.out.size)
  have HF4 := Hid.mk hf4
  have HQ4 := Hid.mk hq4
  have d4 := cell_of_block hq4 (j := 1) rfl
  clear hf4 hk4 hq4 HB3 HQ3 c0 c1 c2 G1
  go_wp2_with fail
  refine (G2.out _ HF4.out).mono ?_
  rintro e w5 ⟨rfl, hf5, hk5⟩
  have hq5 := (hk5.block _ (Array.getElem?_eq_some_iff.1 HQ4.out).1 hne).trans HQ4.out
  have HB5 : Hid (Below w.heap.size w w5) := HB4.out.trans (hk5.below (fun j hj => by omega) HB4.out.size)
  have HF5 := Hid.mk hf5
  have HQ5 := Hid.mk hq5
  have d5 := cell_of_block hq5 (j := 2) rfl
  clear hf5 hk5 hq5 HB4 HQ4 HF4 d4 G2
  go_wp2_with fail
  refine (G3.out _ HF5.out).mono ?_
  rintro e w6 ⟨rfl, hf6, hk6⟩
  have hq6 := (hk6.block _ (Array.getElem?_eq_some_iff.1 HQ5.out).1 hne).trans HQ5.out
  have HB6 : Hid (Below w.heap.size w w6) := HB5.out.trans (hk6.below (fun j hj => by omega) HB5.out.size)
  have HF6 := Hid.mk hf6
  have HQ6 := Hid.mk hq6
  clear hf6 hk6 hq6 HB5 HQ5 HF5 d5 G3
  go_wp2
  go_loopw [5] (fun i wr => ∃ j : Nat, j ≤ s.size ∧ i = .int .i64 j ∧ Below w.heap.size w wr ∧ wr.heap[w.heap.size]? = some (.cells (entBox (n : Int) (k : Int) s t) 38 (0, 0)) ∧ Full wr (w.heap.size + 1) ((leb 4 n ++ leb 1 k ++ leb 1 s.size) ++ ((txt s).take j ++ zs (58 - j)))) (fun i _ => s.size - (intOf i).toNat)
  case atStart => exact ⟨0, Nat.zero_le _, rfl, HB6.out, HQ6.out, by rw [List.take_zero, List.nil_append]; exact HF6.out⟩
  case round =>
    clear HB6 HQ6 HF6
    obtain ⟨j, hj, rfl, hbr, hqr, hfr⟩ := hrel
    have dr := cell_of_block hqr (j := 2) rfl
    have ttl := txt_len s
    by_cases hlt : j < s.size
    · have hlt' : (j : Int) < (s.size : Int) := by omega
      have hll : ((leb 4 n ++ leb 1 k ++ leb 1 s.size) ++ ((txt s).take j ++ zs (58 - j))).length = 64 := by simp only [List.length_append, leb_len, List.length_take, zs_len]; omega
      have hc := hfr.cell (i := 6 + j) (by omega)
      have hfz := hfr.frozen (6 + j)
      have hset := hfr.set (6 + j) ((s[j].toNat : Nat) : Int)
      have es : ((leb 4 n ++ leb 1 k ++ leb 1 s.size) ++ ((txt s).take j ++ zs (58 - j))).set (6 + j) ((s[j].toNat : Nat) : Int) = (leb 4 n ++ leb 1 k ++ leb 1 s.size) ++ ((txt s).take (j + 1) ++ zs (58 - (j + 1))) := by
        have h6 : (leb 4 n ++ leb 1 k ++ leb 1 s.size).length = 6 := by simp only [List.length_append, leb_len]
        have htl : ((txt s).take j).length = j := by rw [List.length_take]; omega
        rw [List.set_append_right _ _ (by omega), h6, show 6 + j - 6 = j by omega, List.set_append_right _ _ (by omega), htl, Nat.sub_self]
        obtain ⟨q, hq⟩ : ∃ q, 58 - j = q + 1 := ⟨57 - j, by omega⟩
        rw [hq, show 58 - (j + 1) = q by omega, List.take_add_one, txt_at s j hlt]
        simp [zs, List.replicate_succ]
      rw [es] at hset
      have HS := Hid.mk hset
      have HB := Hid.mk (hbr.trans ((Keeps.setCell (F := fun x => x = w.heap.size + 1) (p := ⟨w.heap.size + 1, 6 + j, none⟩) wr rfl (.int .u8 ((s[j].toNat : Nat) : Int))).below (fun x hx => by omega) hbr.size))
      have HQ := Hid.mk ((Below.heap_setCell wr ⟨w.heap.size + 1, 6 + j, none⟩ (.int .u8 ((s[j].toNat : Nat) : Int)) w.heap.size (by simp)).trans hqr)
      obtain ⟨u0, hc'⟩ : ∃ u, wr.cell? ⟨w.heap.size + 1, 6 + j, none⟩ = some u := ⟨_, hc⟩
      clear hset es hc hfr hbr hqr hll
      go_wp2
      go_roundw
      case rel => exact ⟨j + 1, by omega, by go_num, HB.out, HQ.out, HS.out⟩
      case measure => simp [intOf]; omega
    · have hlt' : ¬ (j : Int) < (s.size : Int) := by omega
      have ej : j = s.size := by omega
      have hf7 : Full wr (w.heap.size + 1) (entBody n k s ++ (zs 4 ++ [])) := by
        rw [ej, List.take_of_length_le (by omega), show 58 - s.size = (54 - s.size) + 4 by omega, zs_add] at hfr
        have e : leb 4 n ++ leb 1 k ++ leb 1 s.size ++ (txt s ++ (zs (54 - s.size) ++ zs 4)) = entBody n k s ++ (zs 4 ++ []) := by
          rw [List.append_nil, ← List.append_assoc, ← List.append_assoc]
          rfl
        rw [e] at hfr
        exact hfr
      have HF7 := Hid.mk hf7
      have HB7 := Hid.mk hbr
      clear hf7 hfr hbr hqr
      go_wp2_with fail
      refine (G5.out _ HF7.out).mono ?_
      rintro e w8 ⟨rfl, hb8⟩
      have HB8 : Hid (Below w.heap.size w w8) := HB7.out.trans (hb8.mono HB7.out.size)
      have HF8 := Hid.mk (HF7.out.far hb8)
      clear hb8 HB7 HF7 G5
      go_wp2_with fail
      refine (G6.out _ HF8.out).mono ?_
      rintro e w9 ⟨rfl, hf9, hk9⟩
      have HM : Hid (Made w w9 (.slice (some ⟨w.heap.size + 1, 0, none⟩) 64 64) (sealed (entBody n k s))) := by
        have hl : (sealed (entBody n k s)).length = 64 := by rw [sealed_len, hbl]
        have hr := RowAt.of_list hf9 (by omega)
        rw [hl] at hr
        exact ⟨w.heap.size + 1, 64, by rw [hl], by omega, hr, HB8.out.trans (hk9.below (fun x hx => by omega) HB8.out.size)⟩
      clear hf9 hk9 HB8 HF8 G6 hsl hbl
      go_wp2
      go_ret2
      exact ⟨_, rfl, HM.out⟩
end Go.Proofs.Ytimfidcpljimpab
