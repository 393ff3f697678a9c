import Derived.Test.YtkkmkogpbhcpmabKEntE
namespace Go.Proofs.Ytkkmkogpbhcpmab
open Go.RowKit

set_option maxRecDepth 20000 in
set_option maxHeartbeats 4000000 in
theorem encent_ok (n k : Nat) (s : ByteArray) (t : Int) (w : World) (hf : EFits n k s) :
    Calls Try.prog 17 #[ent n k s t] w fun e w' => ∃ v, e = .returned (.tuple #[v, .int .i64 0]) ∧ Made w w' v (sealed (entBody n k s)) := by
  have hnz : (((n : Int)) == 0) = false := by rw [Bool.eq_false_iff, ne_eq, beq_iff_eq]; have := hf.1.1; omega
  obtain ⟨hs0, hs54⟩ := name_ok hf.2.2
  have hfit := fun wx => efits_t (n : Int) (k : Int) s 0 wx hf
  have hn2 : n ≤ 1024 := by have := hf.1.2; omega
  have hk2 : k ≤ 3 := by have := hf.2.1.2; omega
  obtain ⟨w1, hw1⟩ : ∃ w1, w1 = w.alloc (.cells #[.int .i64 (n : Int), .int .i64 (k : Int), .string s, .int .i64 0] 29) := ⟨_, rfl⟩
  have hB1 : Below w.heap.size w w1 := by rw [hw1]; exact (Below.refl _ w).alloc (Nat.le_refl _) _
  have hq1 : w1.heap[w.heap.size]? = some (.cells #[.int .i64 (n : Int), .int .i64 (k : Int), .string s, .int .i64 0] 29 (0, 0)) := by rw [hw1]; exact heap_alloc_new _ _
  have hsz1 : w1.heap.size = w.heap.size + 1 := by rw [hw1]; simp
  clear hf
  go_enter Try.func17, Try.ntmps17
  go_wp2_with fail
  rw [← hw1]
  clear hw1
  refine (hfit _).mono ?_
  rintro e w2 ⟨rfl, hb2⟩
  have hB2 : Below w.heap.size w w2 := hB1.trans (hb2.mono hB1.size)
  have hq2 := (hb2.block w.heap.size (by omega)).trans hq1
  have hql : w.heap.size < w2.heap.size := (Array.getElem?_eq_some_iff.1 hq2).1
  have hnew := WAt.new w2
  have hold : Below w.heap.size w (w2.alloc (.cells #[.slice none 0 0] 95)) ∧ (w2.alloc (.cells #[.slice none 0 0] 95)).heap[w.heap.size]? = some (.cells #[.int .i64 (n : Int), .int .i64 (k : Int), .string s, .int .i64 0] 29 (0, 0)) :=
    ⟨hB2.alloc hB2.size _, (Below.heap_alloc _ _ _ hql).trans hq2⟩
  have htx : Calls Try.prog 49 #[.pointer (some ⟨w2.heap.size, 0, none⟩), .int .i64 (n : Int), .int .i64 4] (w2.alloc (.cells #[.slice none 0 0] 95)) fun e w' => e = .returned (.tuple #[]) ∧ WAt w' w2.heap.size w2.heap.size ([] ++ leb 4 n) ∧ Below w2.heap.size (w2.alloc (.cells #[.slice none 0 0] 95)) w' := wnumber_any _ _ [] n 4 _ hnew (by decide) (by omega)
  rw [List.nil_append] at htx
  have c1 := cell_of_block hq2 (j := 0) rfl
  have hne : ¬ w.heap.size = w2.heap.size := by omega
  have Hold := Hid.mk hold
  clear hfit hb2 hB1 hB2 hq1 hq2 hnew hold
  go_wp2_with fail
  refine htx.mono ?_
  rintro e w3 ⟨rfl, hat3, hb3⟩
  obtain ⟨hB3, hq3⟩ : Below w.heap.size w w3 ∧ w3.heap[w.heap.size]? = some (.cells #[.int .i64 (n : Int), .int .i64 (k : Int), .string s, .int .i64 0] 29 (0, 0)) := ⟨Hold.out.1.trans (hb3.mono (by omega)), (hb3.block _ hql).trans Hold.out.2⟩
  have c3 := cell_of_block hq3 (j := 1) rfl
  have hn3 : Calls Try.prog 49 #[.pointer (some ⟨w2.heap.size, 0, none⟩), .int .i64 (k : Int), .int .i64 1] w3 fun e w' => e = .returned (.tuple #[]) ∧ WAt w' w2.heap.size w2.heap.size (leb 4 n ++ leb 1 k) ∧ Below w2.heap.size w3 w' := wnumber_any _ _ _ k 1 w3 hat3 (by rw [leb_len]; omega) (by omega)
  have HB3 := Hid.mk hB3
  have HQ3 := Hid.mk hq3
  clear htx hat3 hb3 hB3 hq3 Hold c1
  go_wp2_with fail
  refine hn3.mono ?_
  rintro e w4 ⟨rfl, hat4, hb4⟩
  obtain ⟨hB4, hq4⟩ : Below w.heap.size w w4 ∧ w4.heap[w.heap.size]? = some (.cells #[.int .i64 (n : Int), .int .i64 (k : Int), .string s, .int .i64 0] 29 (0, 0)) := ⟨HB3.out.trans (hb4.mono (by omega)), (hb4.block _ hql).trans HQ3.out⟩
  have c4 := cell_of_block hq4 (j := 2) rfl
  have hn4 : Calls Try.prog 49 #[.pointer (some ⟨w2.heap.size, 0, none⟩), .int .i64 (s.size : Int), .int .i64 1] w4 fun e w' => e = .returned (.tuple #[]) ∧ WAt w' w2.heap.size w2.heap.size (leb 4 n ++ leb 1 k ++ leb 1 s.size) ∧ Below w2.heap.size w4 w' := wnumber_any _ _ _ s.size 1 w4 hat4 (by rw [List.length_append, leb_len, leb_len]; omega) (by omega)
  have HB4 := Hid.mk hB4
  have HQ4 := Hid.mk hq4
  clear hn3 hat4 hb4 hB4 hq4 HB3 HQ3 c3
  go_wp2_with fail
  refine hn4.mono ?_
  rintro e w5 ⟨rfl, hat5, hb5⟩
  obtain ⟨hB5, hq5⟩ : Below w.heap.size w w5 ∧ w5.heap[w.heap.size]? = some (.cells #[.int .i64 (n : Int), .int .i64 (k : Int), .string s, .int .i64 0] 29 (0, 0)) := ⟨HB4.out.trans (hb5.mono (by omega)), (hb5.block _ hql).trans HQ4.out⟩
  have c5 := cell_of_block hq5 (j := 2) rfl
  have hn5 := wtext_any _ _ _ s w5 hat5 hs0 (by rw [List.length_append, List.length_append, leb_len, leb_len, leb_len]; omega)
  have HB5 := Hid.mk hB5
  clear hn4 hat5 hb5 hB5 hq5 HB4 HQ4 c4
  go_wp2_with fail
  refine hn5.mono ?_
  rintro e w6 ⟨rfl, hat6, hb6⟩
  have hB6 : Below w.heap.size w w6 := HB5.out.trans (hb6.mono (by omega))
  have el : (leb 4 n ++ leb 1 k ++ leb 1 s.size ++ txt s).length = 6 + s.size := by rw [List.length_append, List.length_append, List.length_append, leb_len, leb_len, leb_len, txt_len]
  have hn6 : Calls Try.prog 50 #[.pointer (some ⟨w2.heap.size, 0, none⟩), .int .i64 60] w6 fun e w' => e = .returned (.tuple #[]) ∧ WAt w' w2.heap.size w2.heap.size (entBody n k s) ∧ Below w2.heap.size w6 w' := by
    have := wzeros_any _ _ _ (54 - s.size) w6 hat6 (by rw [el]; omega) (by rw [el]; omega)
    rw [el, show 6 + s.size + (54 - s.size) = 60 by omega] at this
    exact this
  have HB6 := Hid.mk hB6
  clear hn5 hat6 hb6 hB6 HB5 c5 el
  go_wp2_with fail
  refine hn6.mono ?_
  rintro e w7 ⟨rfl, hat7, hb7⟩
  have hB7 : Below w.heap.size w w7 := HB6.out.trans (hb7.mono (by omega))
  have hn7 := wsummed_any _ _ _ w7 hat7 (by rw [entBody_len _ _ hs54]; decide) (by rw [entBody_len _ _ hs54]; decide) (entBody_bytes n k s)
  rw [entBody_len _ _ hs54] at hn7
  have HB7 := Hid.mk hB7
  clear hn6 hat7 hb7 hB7 HB6
  go_wp2_with fail
  refine hn7.mono ?_
  rintro e w8 ⟨g, c, rfl, hg, hr, hb8⟩
  have HF : Hid (Made w w8 (.slice (some ⟨g, 0, none⟩) 64 c) (sealed (entBody n k s))) := ⟨g, c, by rw [sealed_len, entBody_len _ _ hs54], by omega, hr, HB7.out.trans (hb8.mono (by omega))⟩
  clear hn7 hr hb8 HB7
  go_wp2
  go_ret2
  exact ⟨_, rfl, HF.out⟩

/-- 64 zeros. -/
def zeros64 : List Int := List.replicate 64 0
theorem zeros64_len : zeros64.length = 64 := List.length_replicate
/-- The empty entry. -/
def ENone (n k : Int) (s : ByteArray) : Prop := n = 0 ∧ k = 0 ∧ s.toList = []

set_option maxRecDepth 20000 in
set_option maxHeartbeats 4000000 in
theorem encent_none (s : ByteArray) (t : Int) (w : World) (hs : s.toList = []) :
    Calls Try.prog 17 #[ent 0 0 s t] w fun e w' => ∃ v, e = .returned (.tuple #[v, .int .i64 0]) ∧ Made w w' v zeros64 := by
  obtain ⟨i0, hi, hz0, hz1, hz2⟩ := info_parts infoU8
  have hle : s.toList.isEmpty = true := by rw [hs]; rfl
  go_enter Try.func17, Try.ntmps17
  go_wp2_with (at_make; refine wpList_make_full _ rfl _ _ 36 rfl (w.heap.size + 1) 5 i0 (.int .u8 0) 1 Try.underlying36 hi hz0 hz1 _ _ _ _ 64 rfl rfl ?c1 ?c2 ?c3 ?c4 ?c5 ?_)
  case c1 => rfl
  case c2 => rfl
  case c3 => rw [hz2]; omega
  case c4 => unfold maxLen; omega
  case c5 => simp
  intro w3 hown hgrow
  have hr3 : RowAt w3 5 (w.heap.size + 1) 64 (bs zeros64) := made_row hown
  have hb3 : Below w.heap.size w w3 := ((Below.refl _ w).alloc (Nat.le_refl _) _).grown hgrow (by simp) (by intro k hk; cases hk)
  have HM : Hid (Made w w3 (.slice (some ⟨w.heap.size + 1, 0, none⟩) 64 64) zeros64) := ⟨w.heap.size + 1, 64, by rw [zeros64_len], by omega, hr3, hb3⟩
  clear hown hgrow hr3 hb3
  go_wp2
  go_ret2
  exact ⟨_, rfl, HM.out⟩

set_option maxRecDepth 20000 in
set_option maxHeartbeats 4000000 in
theorem encent_bad (n k : Int) (s : ByteArray) (t : Int) (w : World) (h0 : ¬ ENone n k s) (hf : ¬ EFits n k s) :
    Calls Try.prog 17 #[ent n k s t] w fun e w' => e = .returned (.tuple #[.slice none 0 0, .int .i64 20]) ∧ Below w.heap.size w w' := by
  have hfit := fun wx => efits_f n k s 0 wx hf
  have HB := Hid.mk (fun (o : Obj) (wx : World) (hx : Below (w.alloc o).heap.size (w.alloc o) wx) => ((Below.refl w.heap.size w).alloc (Nat.le_refl _) o).trans (hx.mono (by simp)))
  clear hf
  by_cases h1 : n = 0
  · subst h1
    by_cases h2 : k = 0
    · subst h2
      have h3 : s.toList.isEmpty = false := by
        cases h : s.toList with
        | nil => exact absurd ⟨rfl, rfl, h⟩ h0
        | cons => rfl
      clear h0
      go_enter Try.func17, Try.ntmps17
      go_wp2_with fail
      refine (hfit _).mono ?_
      rintro e w2 ⟨rfl, hb2⟩
      have HB2 := Hid.mk (HB.out _ _ hb2)
      clear hfit hb2 HB
      go_wp2
      go_ret2
      exact ⟨rfl, HB2.out⟩
    · have h2' : (k == 0) = false := by rw [Bool.eq_false_iff, ne_eq, beq_iff_eq]; exact h2
      clear h0
      go_enter Try.func17, Try.ntmps17
      go_wp2_with fail
      refine (hfit _).mono ?_
      rintro e w2 ⟨rfl, hb2⟩
      have HB2 := Hid.mk (HB.out _ _ hb2)
      clear hfit hb2 HB
      go_wp2
      go_ret2
      exact ⟨rfl, HB2.out⟩
  · have h1' : (n == 0) = false := by rw [Bool.eq_false_iff, ne_eq, beq_iff_eq]; exact h1
    clear h0
    go_enter Try.func17, Try.ntmps17
    go_wp2_with fail
    refine (hfit _).mono ?_
    rintro e w2 ⟨rfl, hb2⟩
    have HB2 := Hid.mk (HB.out _ _ hb2)
    clear hfit hb2 HB
    go_wp2
    go_ret2
    exact ⟨rfl, HB2.out⟩
end Go.Proofs.Ytkkmkogpbhcpmab
