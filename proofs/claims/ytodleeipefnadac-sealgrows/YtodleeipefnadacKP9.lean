import Derived.Test.YtodleeipefnadacKP8
import Derived.Test.YtodleeipefnadacSMT
namespace Go.Proofs.Ytodleeipefnadac
open Go.RowKit

theorem first_pair (t : Int) (ht : t ≤ 2) : snewest (sform t [7, 0, 0, 0, 0, 0, 0, 0]) (sform t [9, 0, 0, 0, 0, 0, 0, 0, 65]) = (1, 9, [65], 0) := by
  have e1 : [7, 0, 0, 0, 0, 0, 0, 0] = bytes8 7 ++ [] := by rw [bytes8_eq]; rfl
  have e2 : [9, 0, 0, 0, 0, 0, 0, 0, 65] = bytes8 9 ++ [65] := by rw [bytes8_eq]; rfl
  have l1 : (sform t [7, 0, 0, 0, 0, 0, 0, 0]).length = 512 := sform_len (by simp)
  have l2 : (sform t [9, 0, 0, 0, 0, 0, 0, 0, 65]).length = 512 := sform_len (by simp)
  have a1 : sanchor (sform t [7, 0, 0, 0, 0, 0, 0, 0]) = (7, []) := by rw [e1]; exact sanchor_form ht (by omega) (by simp)
  have a2 : sanchor (sform t [9, 0, 0, 0, 0, 0, 0, 0, 65]) = (9, [65]) := by rw [e2]; exact sanchor_form ht (by omega) (by simp)
  rw [snewest_eq l1 l2, a1, a2, if_neg (by simp), if_pos (by simp)]
theorem Blk.srcAll {w : World} {T : TypeId} {g : Nat} {l : List Int} (h : Blk w T g l) : Src w (some ⟨g, 0, none⟩) l.length l := by
  have := h.src (o := 0) (n := l.length) (by omega)
  simpa using this
theorem bytes_seven : Bytes [7, 0, 0, 0, 0, 0, 0, 0] := by intro x hx; simp at hx; omega
theorem bytes_nine : Bytes [9, 0, 0, 0, 0, 0, 0, 0, 65] := by intro x hx; simp at hx; omega

set_option maxRecDepth 20000 in
set_option maxHeartbeats 4000000 in
theorem first_any (w : World) : Calls Try.prog 15 #[] w fun e w' => e = .returned (.bool true) ∧ Below w.heap.size w w' := by
  have h1 := lsector_any none 0 0 [] w (by omega) ⟨rfl, fun _ => rfl, fun x hx => by cases hx⟩
  go_enter Try.func15, Try.ntmps15
  go_wp2_with fail
  refine h1.mono ?_
  rintro e w1 ⟨v1, rfl, ho1, hb1⟩
  obtain ⟨g1, c1, rfl, _, hr1⟩ := ho1.full (by rw [sec_len]; omega)
  have hs1 := hr1.src
  rw [sec_len] at hs1 ⊢
  have hblk : Blk (w1.alloc (.cells #[.int .u8 7, .int .u8 0, .int .u8 0, .int .u8 0, .int .u8 0, .int .u8 0, .int .u8 0, .int .u8 0] 5)) 5 w1.heap.size [7, 0, 0, 0, 0, 0, 0, 0] := heap_alloc_new _ _
  have hb2 : Below w1.heap.size w1 (w1.alloc (.cells #[.int .u8 7, .int .u8 0, .int .u8 0, .int .u8 0, .int .u8 0, .int .u8 0, .int .u8 0, .int .u8 0] 5)) := (Below.refl _ w1).alloc (Nat.le_refl _) _
  have h2 := seal_any (some ⟨g1, 0, none⟩) 512 c1 (sec []) (some ⟨w1.heap.size, 0, none⟩) 8 8 _ _ (hs1.later hb2) hblk.srcAll bytes_seven
  rw [sseal_ok (sec_len []) (by simp)] at h2
  dsimp only at h2
  have HB2 := Hid.mk (hb1.trans (hb2.mono hb1.size))
  have ht := turnOf_le ((sec []).getD 0 0) ((sec []).getD 511 0)
  have hfin := first_pair (turnOf ((sec []).getD 0 0) ((sec []).getD 511 0) : Nat) (by omega)
  have hfl1 : (sform (turnOf ((sec []).getD 0 0) ((sec []).getD 511 0) : Nat) [7, 0, 0, 0, 0, 0, 0, 0]).length = 512 := sform_len (by simp)
  have hfb1 : Bytes (sform (turnOf ((sec []).getD 0 0) ((sec []).getD 511 0) : Nat) [7, 0, 0, 0, 0, 0, 0, 0]) := sform_bytes bytes_seven (by simp) (by omega)
  have hfl2 : (sform (turnOf ((sec []).getD 0 0) ((sec []).getD 511 0) : Nat) [9, 0, 0, 0, 0, 0, 0, 0, 65]).length = 512 := sform_len (by simp)
  have hfb2 : Bytes (sform (turnOf ((sec []).getD 0 0) ((sec []).getD 511 0) : Nat) [9, 0, 0, 0, 0, 0, 0, 0, 65]) := sform_bytes bytes_nine (by simp) (by omega)
  have h4 : Hid (∀ (g c : Nat) (w' : World) (g2 : Nat), Src w' (some ⟨g, 0, none⟩) 512 (sec []) → Src w' (some ⟨g2, 0, none⟩) 9 [9, 0, 0, 0, 0, 0, 0, 0, 65] → Calls Try.prog 23 #[.slice (some ⟨g, 0, none⟩) 512 c, .slice (some ⟨g2, 0, none⟩) 9 9] w' fun e w'' => ∃ v, e = .returned (.tuple #[v, .int .i64 0]) ∧ Lst w'' w'.heap.size v (sform (turnOf ((sec []).getD 0 0) ((sec []).getD 511 0) : Nat) [9, 0, 0, 0, 0, 0, 0, 0, 65]) ∧ Below w'.heap.size w' w'') := by
    intro g c w' g2 p1 p2
    have := seal_any (some ⟨g, 0, none⟩) 512 c (sec []) (some ⟨g2, 0, none⟩) 9 9 _ w' p1 p2 bytes_nine
    rw [sseal_ok (sec_len []) (by simp)] at this
    exact this
  generalize sform (turnOf ((sec []).getD 0 0) ((sec []).getD 511 0) : Nat) [7, 0, 0, 0, 0, 0, 0, 0] = R1 at *
  generalize sform (turnOf ((sec []).getD 0 0) ((sec []).getD 511 0) : Nat) [9, 0, 0, 0, 0, 0, 0, 0, 65] = R2 at *
  clear h1 ho1 hb1 hr1 hs1 hblk hb2 ht
  go_wp2_with fail
  refine h2.mono ?_
  rintro e w2 ⟨v2, rfl, hl2, hb2⟩
  obtain ⟨p2, c2, rfl, hs2, _, _⟩ := hl2
  rw [hfl1] at hs2 ⊢
  have HB3 := Hid.mk (HB2.out.trans (hb2.mono HB2.out.size))
  have HR1 := Hid.mk hs2
  have h3 := lsector_any none 0 0 [] w2 (by omega) ⟨rfl, fun _ => rfl, fun x hx => by cases hx⟩
  clear h2 hb2 hs2 HB2
  go_wp2_with fail
  refine h3.mono ?_
  rintro e w3 ⟨v3, rfl, ho3, hb3⟩
  obtain ⟨g3, c3, rfl, _, hr3⟩ := ho3.full (by rw [sec_len]; omega)
  have hs3 := hr3.src
  rw [sec_len] at hs3 ⊢
  have hblk : Blk (w3.alloc (.cells #[.int .u8 9, .int .u8 0, .int .u8 0, .int .u8 0, .int .u8 0, .int .u8 0, .int .u8 0, .int .u8 0, .int .u8 65] 5)) 5 w3.heap.size [9, 0, 0, 0, 0, 0, 0, 0, 65] := heap_alloc_new _ _
  have hb4 : Below w3.heap.size w3 (w3.alloc (.cells #[.int .u8 9, .int .u8 0, .int .u8 0, .int .u8 0, .int .u8 0, .int .u8 0, .int .u8 0, .int .u8 0, .int .u8 65] 5)) := (Below.refl _ w3).alloc (Nat.le_refl _) _
  have h5 := h4.out g3 c3 _ w3.heap.size (hs3.later hb4) hblk.srcAll
  have hB4 := HB3.out.trans ((hb3.trans (hb4.mono hb3.size)).mono HB3.out.size)
  have HR1' := Hid.mk ((HR1.out.later hb3).later hb4)
  have HB4 := Hid.mk hB4
  clear h3 h4 ho3 hb3 hr3 hs3 hblk hb4 hB4 HR1 HB3
  go_wp2_with fail
  refine h5.mono ?_
  rintro e w5 ⟨v5, rfl, hl5, hb5⟩
  obtain ⟨p5, c5, rfl, hs5, _, _⟩ := hl5
  rw [hfl2] at hs5 ⊢
  have HB5 := Hid.mk (HB4.out.trans (hb5.mono HB4.out.size))
  have h6 := pnewest_any p2 512 c2 R1 p5 512 c5 R2 w5 (HR1'.out.later hb5) hs5 hfb1 hfb2
  rw [hfin] at h6
  dsimp only at h6
  clear h5 hb5 hs5 HB4 HR1' hfin
  go_wp2_with fail
  refine (lnum_any _ _).mono ?_
  rintro e w' ⟨rfl, hw⟩
  have hw' := hw.symm
  subst hw'
  clear hw
  go_wp2_with fail
  refine (lnum_any _ _).mono ?_
  rintro e w' ⟨rfl, hw⟩
  have hw' := hw.symm
  subst hw'
  clear hw
  go_wp2_with fail
  refine h6.mono ?_
  rintro e w6 ⟨v6, rfl, hl6, hb6⟩
  obtain ⟨p6, c6, rfl, hs6, _, _⟩ := hl6
  have HB6 := Hid.mk (HB5.out.trans (hb6.mono HB5.out.size))
  have HS6 := Hid.mk hs6
  clear h6 hb6 hs6 HB5
  go_wp2_with fail
  refine (lnum_any _ _).mono ?_
  rintro e w' ⟨rfl, hw⟩
  have hw' := hw.symm
  subst hw'
  clear hw
  have hb7 : Below w6.heap.size w6 (w6.alloc (.cells #[.int .u8 65] 5)) := (Below.refl _ w6).alloc (Nat.le_refl _) _
  have hblk7 : Blk (w6.alloc (.cells #[.int .u8 65] 5)) 5 w6.heap.size [65] := heap_alloc_new _ _
  have h7 := lsame_any p6 (some ⟨w6.heap.size, 0, none⟩) 1 1 c6 1 [65] [65] _ (by omega) (HS6.out.later hb7) hblk7.srcAll
  rw [decide_eq_true rfl] at h7
  have HB7 := Hid.mk (HB6.out.trans (hb7.mono HB6.out.size))
  clear hb7 hblk7 HS6 HB6
  go_wp2_with fail
  refine h7.mono ?_
  rintro e w8 ⟨rfl, hb8⟩
  have HB8 := Hid.mk (HB7.out.trans (hb8.mono HB7.out.size))
  clear h7 hb8
  go_wp2
  go_ret
  exact ⟨rfl, HB8.out⟩
end Go.Proofs.Ytodleeipefnadac
