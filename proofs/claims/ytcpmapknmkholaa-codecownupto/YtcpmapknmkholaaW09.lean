import Derived.Test.YtcpmapknmkholaaW08
import Derived.Deep.RegionHeld3
import Derived.Laws.StructEq
section
namespace Go.Proofs.Ytcpmapknmkholaa
open Go.RowKit

set_option maxRecDepth 20000 in
set_option maxHeartbeats 4000000 in
theorem encent_ok (n k : Nat) (s : ByteArray) (t : Int) (w : World) (hf : EFits n k s) :
    Calls Try.prog 13 #[ent n k s t] w fun e w' => ∃ v, e = .returned (.tuple #[v, .int .i64 0]) ∧ Made w w' v (sealed (entBody n k s)) := by
  have hnz : (((n : Int)) == 0) = false := by rw [Bool.eq_false_iff, ne_eq, beq_iff_eq]; have := hf.1.1; omega
  obtain ⟨hs0, hs54⟩ := name_ok hf.2.2
  have hfit := fun wx => efits_t (n : Int) (k : Int) s 0 wx hf
  have hn2 : n ≤ 1024 := by have := hf.1.2; omega
  have hk2 : k ≤ 3 := by have := hf.2.1.2; omega
  obtain ⟨w1, hw1⟩ : ∃ w1, w1 = w.alloc (.cells #[.int .i64 (n : Int), .int .i64 (k : Int), .string s, .int .i64 0] 29) := ⟨_, rfl⟩
  have hB1 : Below w.heap.size w w1 := by rw [hw1]; exact (Below.refl _ w).alloc (Nat.le_refl _) _
  have hq1 : w1.heap[w.heap.size]? = some (.cells #[.int .i64 (n : Int), .int .i64 (k : Int), .string s, .int .i64 0] 29 (0, 0)) := by rw [hw1]; exact heap_alloc_new _ _
  have hsz1 : w1.heap.size = w.heap.size + 1 := by rw [hw1]; simp
  clear hf
  go_enter Try.func13, Try.ntmps13
  go_wp2_with fail
  rw [← hw1]
  clear hw1
  refine (hfit _).mono ?_
  rintro e w2 ⟨rfl, hb2⟩
  have hB2 : Below w.heap.size w w2 := hB1.trans (hb2.mono hB1.size)
  have hq2 := (hb2.block w.heap.size (by omega)).trans hq1
  have hql : w.heap.size < w2.heap.size := (Array.getElem?_eq_some_iff.1 hq2).1
  have hnew := WAt.new w2
  have hold : Below w.heap.size w (w2.alloc (.cells #[.slice none 0 0] 59)) ∧ (w2.alloc (.cells #[.slice none 0 0] 59)).heap[w.heap.size]? = some (.cells #[.int .i64 (n : Int), .int .i64 (k : Int), .string s, .int .i64 0] 29 (0, 0)) :=
    ⟨hB2.alloc hB2.size _, (Below.heap_alloc _ _ _ hql).trans hq2⟩
  have htx : Calls Try.prog 23 #[.pointer (some ⟨w2.heap.size, 0, none⟩), .int .i64 (n : Int), .int .i64 4] (w2.alloc (.cells #[.slice none 0 0] 59)) fun e w' => e = .returned (.tuple #[]) ∧ WAt w' w2.heap.size w2.heap.size ([] ++ leb 4 n) ∧ Below w2.heap.size (w2.alloc (.cells #[.slice none 0 0] 59)) w' := wnumber_any _ _ [] n 4 _ hnew (by decide) (by omega)
  rw [List.nil_append] at htx
  have c1 := cell_of_block hq2 (j := 0) rfl
  have hne : ¬ w.heap.size = w2.heap.size := by omega
  have Hold := Hid.mk hold
  clear hfit hb2 hB1 hB2 hq1 hq2 hnew hold
  go_wp2_with fail
  refine htx.mono ?_
  rintro e w3 ⟨rfl, hat3, hb3⟩
  obtain ⟨hB3, hq3⟩ : Below w.heap.size w w3 ∧ w3.heap[w.heap.size]? = some (.cells #[.int .i64 (n : Int), .int .i64 (k : Int), .string s, .int .i64 0] 29 (0, 0)) := ⟨Hold.out.1.trans (hb3.mono (by omega)), (hb3.block _ hql).trans Hold.out.2⟩
  have c3 := cell_of_block hq3 (j := 1) rfl
  have hn3 : Calls Try.prog 23 #[.pointer (some ⟨w2.heap.size, 0, none⟩), .int .i64 (k : Int), .int .i64 1] w3 fun e w' => e = .returned (.tuple #[]) ∧ WAt w' w2.heap.size w2.heap.size (leb 4 n ++ leb 1 k) ∧ Below w2.heap.size w3 w' := wnumber_any _ _ _ k 1 w3 hat3 (by rw [leb_len]; omega) (by omega)
  have HB3 := Hid.mk hB3
  have HQ3 := Hid.mk hq3
  clear htx hat3 hb3 hB3 hq3 Hold c1
  go_wp2_with fail
  refine hn3.mono ?_
  rintro e w4 ⟨rfl, hat4, hb4⟩
  obtain ⟨hB4, hq4⟩ : Below w.heap.size w w4 ∧ w4.heap[w.heap.size]? = some (.cells #[.int .i64 (n : Int), .int .i64 (k : Int), .string s, .int .i64 0] 29 (0, 0)) := ⟨HB3.out.trans (hb4.mono (by omega)), (hb4.block _ hql).trans HQ3.out⟩
  have c4 := cell_of_block hq4 (j := 2) rfl
  have hn4 : Calls Try.prog 23 #[.pointer (some ⟨w2.heap.size, 0, none⟩), .int .i64 (s.size : Int), .int .i64 1] w4 fun e w' => e = .returned (.tuple #[]) ∧ WAt w' w2.heap.size w2.heap.size (leb 4 n ++ leb 1 k ++ leb 1 s.size) ∧ Below w2.heap.size w4 w' := wnumber_any _ _ _ s.size 1 w4 hat4 (by rw [List.length_append, leb_len, leb_len]; omega) (by omega)
  have HB4 := Hid.mk hB4
  have HQ4 := Hid.mk hq4
  clear hn3 hat4 hb4 hB4 hq4 HB3 HQ3 c3
  go_wp2_with fail
  refine hn4.mono ?_
  rintro e w5 ⟨rfl, hat5, hb5⟩
  obtain ⟨hB5, hq5⟩ : Below w.heap.size w w5 ∧ w5.heap[w.heap.size]? = some (.cells #[.int .i64 (n : Int), .int .i64 (k : Int), .string s, .int .i64 0] 29 (0, 0)) := ⟨HB4.out.trans (hb5.mono (by omega)), (hb5.block _ hql).trans HQ4.out⟩
  have c5 := cell_of_block hq5 (j := 2) rfl
  have hn5 := wtext_any _ _ _ s w5 hat5 hs0 (by rw [List.length_append, List.length_append, leb_len, leb_len, leb_len]; omega)
  have HB5 := Hid.mk hB5
  clear hn4 hat5 hb5 hB5 hq5 HB4 HQ4 c4
  go_wp2_with fail
  refine hn5.mono ?_
  rintro e w6 ⟨rfl, hat6, hb6⟩
  have hB6 : Below w.heap.size w w6 := HB5.out.trans (hb6.mono (by omega))
  have el : (leb 4 n ++ leb 1 k ++ leb 1 s.size ++ txt s).length = 6 + s.size := by rw [List.length_append, List.length_append, List.length_append, leb_len, leb_len, leb_len, txt_len]
  have hn6 : Calls Try.prog 24 #[.pointer (some ⟨w2.heap.size, 0, none⟩), .int .i64 60] w6 fun e w' => e = .returned (.tuple #[]) ∧ WAt w' w2.heap.size w2.heap.size (entBody n k s) ∧ Below w2.heap.size w6 w' := by
    have := wzeros_any _ _ _ (54 - s.size) w6 hat6 (by rw [el]; omega) (by rw [el]; omega)
    rw [el, show 6 + s.size + (54 - s.size) = 60 by omega] at this
    exact this
  have HB6 := Hid.mk hB6
  clear hn5 hat6 hb6 hB6 HB5 c5 el
  go_wp2_with fail
  refine hn6.mono ?_
  rintro e w7 ⟨rfl, hat7, hb7⟩
  have hB7 : Below w.heap.size w w7 := HB6.out.trans (hb7.mono (by omega))
  have hn7 := wsummed_any _ _ _ w7 hat7 (by rw [entBody_len _ _ hs54]; decide) (by rw [entBody_len _ _ hs54]; decide) (entBody_bytes n k s)
  rw [entBody_len _ _ hs54] at hn7
  have HB7 := Hid.mk hB7
  clear hn6 hat7 hb7 hB7 HB6
  go_wp2_with fail
  refine hn7.mono ?_
  rintro e w8 ⟨g, c, rfl, hg, hr, hb8⟩
  have HF : Hid (Made w w8 (.slice (some ⟨g, 0, none⟩) 64 c) (sealed (entBody n k s))) := ⟨g, c, by rw [sealed_len, entBody_len _ _ hs54], by omega, hr, HB7.out.trans (hb8.mono (by omega))⟩
  clear hn7 hr hb8 HB7
  go_wp2
  go_ret2
  exact ⟨_, rfl, HF.out⟩

/-- 64 zeros. -/
def zeros64 : List Int := List.replicate 64 0
theorem zeros64_len : zeros64.length = 64 := List.length_replicate
/-- The empty entry. -/
def ENone (n k : Int) (s : ByteArray) : Prop := n = 0 ∧ k = 0 ∧ s.toList = []

set_option maxRecDepth 20000 in
set_option maxHeartbeats 4000000 in
theorem encent_none (s : ByteArray) (t : Int) (w : World) (hs : s.toList = []) :
    Calls Try.prog 13 #[ent 0 0 s t] w fun e w' => ∃ v, e = .returned (.tuple #[v, .int .i64 0]) ∧ Made w w' v zeros64 := by
  obtain ⟨i0, hi, hz0, hz1, hz2⟩ := info_parts infoU8
  have hle : s.toList.isEmpty = true := by rw [hs]; rfl
  go_enter Try.func13, Try.ntmps13
  go_wp2_with (at_make; refine wpList_make_full _ rfl _ _ 36 rfl (w.heap.size + 1) 5 i0 (.int .u8 0) 1 Try.underlying36 hi hz0 hz1 _ _ _ _ 64 rfl rfl ?c1 ?c2 ?c3 ?c4 ?c5 ?_)
  case c1 => rfl
  case c2 => rfl
  case c3 => rw [hz2]; omega
  case c4 => unfold maxLen; omega
  case c5 => simp
  intro w3 hown hgrow
  have hr3 : RowAt w3 5 (w.heap.size + 1) 64 (bs zeros64) := made_row hown
  have hb3 : Below w.heap.size w w3 := ((Below.refl _ w).alloc (Nat.le_refl _) _).grown hgrow (by simp) (by intro k hk; cases hk)
  have HM : Hid (Made w w3 (.slice (some ⟨w.heap.size + 1, 0, none⟩) 64 64) zeros64) := ⟨w.heap.size + 1, 64, by rw [zeros64_len], by omega, hr3, hb3⟩
  clear hown hgrow hr3 hb3
  go_wp2
  go_ret2
  exact ⟨_, rfl, HM.out⟩

set_option maxRecDepth 20000 in
set_option maxHeartbeats 4000000 in
theorem encent_bad (n k : Int) (s : ByteArray) (t : Int) (w : World) (h0 : ¬ ENone n k s) (hf : ¬ EFits n k s) :
    Calls Try.prog 13 #[ent n k s t] w fun e w' => e = .returned (.tuple #[.slice none 0 0, .int .i64 20]) ∧ Below w.heap.size w w' := by
  have hfit := fun wx => efits_f n k s 0 wx hf
  have HB := Hid.mk (fun (o : Obj) (wx : World) (hx : Below (w.alloc o).heap.size (w.alloc o) wx) => ((Below.refl w.heap.size w).alloc (Nat.le_refl _) o).trans (hx.mono (by simp)))
  clear hf
  by_cases h1 : n = 0
  · subst h1
    by_cases h2 : k = 0
    · subst h2
      have h3 : s.toList.isEmpty = false := by
        cases h : s.toList with
        | nil => exact absurd ⟨rfl, rfl, h⟩ h0
        | cons => rfl
      clear h0
      go_enter Try.func13, Try.ntmps13
      go_wp2_with fail
      refine (hfit _).mono ?_
      rintro e w2 ⟨rfl, hb2⟩
      have HB2 := Hid.mk (HB.out _ _ hb2)
      clear hfit hb2 HB
      go_wp2
      go_ret2
      exact ⟨rfl, HB2.out⟩
    · have h2' : (k == 0) = false := by rw [Bool.eq_false_iff, ne_eq, beq_iff_eq]; exact h2
      clear h0
      go_enter Try.func13, Try.ntmps13
      go_wp2_with fail
      refine (hfit _).mono ?_
      rintro e w2 ⟨rfl, hb2⟩
      have HB2 := Hid.mk (HB.out _ _ hb2)
      clear hfit hb2 HB
      go_wp2
      go_ret2
      exact ⟨rfl, HB2.out⟩
  · have h1' : (n == 0) = false := by rw [Bool.eq_false_iff, ne_eq, beq_iff_eq]; exact h1
    clear h0
    go_enter Try.func13, Try.ntmps13
    go_wp2_with fail
    refine (hfit _).mono ?_
    rintro e w2 ⟨rfl, hb2⟩
    have HB2 := Hid.mk (HB.out _ _ hb2)
    clear hfit hb2 HB
    go_wp2
    go_ret2
    exact ⟨rfl, HB2.out⟩
end Go.Proofs.Ytcpmapknmkholaa
end

section
namespace Go.Proofs.Ytcpmapknmkholaa
open Go.RowKit

/-- What is answered by an encoder: bytes that can be read. -/
def Enc (w w' : World) (v : Value) (l : List Int) : Prop := ∃ a c, v = .slice a l.length c ∧ Src w' a l.length l ∧ Below w.heap.size w w'
theorem Made.enc {w w' : World} {v : Value} {l : List Int} (h : Made w w' v l) : Enc w w' v l := by
  obtain ⟨g, c, rfl, _, hr, hb⟩ := h
  exact ⟨_, c, rfl, hr.src, hb⟩

def noneB (n k : Int) (s : ByteArray) : Bool := decide (n = 0) && (decide (k = 0) && decide (s.toList = []))
theorem noneB_iff (n k : Int) (s : ByteArray) : noneB n k s = true ↔ ENone n k s := by simp only [noneB, ENone, Bool.and_eq_true, decide_eq_true_iff]
def fitB (n k : Int) (s : ByteArray) : Bool := decide (1 ≤ n ∧ n ≤ 1024) && (decide (1 ≤ k ∧ k ≤ 3) && decide (nameErr s.data.toList = 0))
theorem fitB_iff (n k : Int) (s : ByteArray) : fitB n k s = true ↔ EFits n k s := by simp only [fitB, EFits, Bool.and_eq_true, decide_eq_true_iff]
/-- What an encoder of entries answers. -/
def entEnc (n k : Int) (s : ByteArray) : List Int × Int := if noneB n k s then (zeros64, 0) else if fitB n k s then (sealed (entBody n.toNat k.toNat s), 0) else ([], 20)

theorem entEnc_cases (n k : Int) (s : ByteArray) : (ENone n k s ∧ entEnc n k s = (zeros64, 0)) ∨ (¬ ENone n k s ∧ EFits n k s ∧ entEnc n k s = (sealed (entBody n.toNat k.toNat s), 0)) ∨ (¬ ENone n k s ∧ ¬ EFits n k s ∧ entEnc n k s = ([], 20)) := by
  by_cases h1 : ENone n k s
  · exact .inl ⟨h1, by unfold entEnc; rw [if_pos ((noneB_iff n k s).2 h1)]⟩
  · have e1 : ¬ noneB n k s = true := fun h => h1 ((noneB_iff n k s).1 h)
    by_cases h2 : EFits n k s
    · exact .inr (.inl ⟨h1, h2, by unfold entEnc; rw [if_neg e1, if_pos ((fitB_iff n k s).2 h2)]⟩)
    · exact .inr (.inr ⟨h1, h2, by unfold entEnc; rw [if_neg e1, if_neg (fun h => h2 ((fitB_iff n k s).1 h))]⟩)
theorem entEnc_len (n k : Int) (s : ByteArray) : (entEnc n k s).1.length ≤ 64 := by
  rcases entEnc_cases n k s with ⟨_, e⟩ | ⟨_, h, e⟩ | ⟨_, _, e⟩
  · rw [e]; exact Nat.le_of_eq zeros64_len
  · rw [e]
    show (sealed (entBody n.toNat k.toNat s)).length ≤ 64
    rw [sealed_len, entBody_len _ _ (name_ok h.2.2).2]
    omega
  · rw [e]; exact Nat.zero_le _

theorem encent_any (n k : Int) (s : ByteArray) (t : Int) (w : World) :
    Calls Try.prog 13 #[ent n k s t] w fun e w' => ∃ v, e = .returned (.tuple #[v, .int .i64 (entEnc n k s).2]) ∧ Enc w w' v (entEnc n k s).1 := by
  rcases entEnc_cases n k s with ⟨⟨rfl, rfl, h⟩, e⟩ | ⟨_, h, e⟩ | ⟨h0, h, e⟩
  · rw [e]
    refine (encent_none s t w h).mono ?_
    rintro e w' ⟨v, rfl, hm⟩
    exact ⟨v, rfl, hm.enc⟩
  · rw [e]
    obtain ⟨N, rfl⟩ := Int.eq_ofNat_of_zero_le (show 0 ≤ n by have := h.1.1; omega)
    obtain ⟨K, rfl⟩ := Int.eq_ofNat_of_zero_le (show 0 ≤ k by have := h.2.1.1; omega)
    refine (encent_ok N K s t w h).mono ?_
    rintro e w' ⟨v, rfl, hm⟩
    exact ⟨v, rfl, hm.enc⟩
  · rw [e]
    refine (encent_bad n k s t w h0 h).mono ?_
    rintro e w' ⟨rfl, hb⟩
    exact ⟨_, rfl, none, 0, rfl, ⟨rfl, fun _ => rfl, fun x hx => by cases hx⟩, hb⟩
end Go.Proofs.Ytcpmapknmkholaa
end

section
namespace Go.Proofs.Ytcpmapknmkholaa
open Go.RowKit

theorem le_zeros : ∀ {l : List Int}, Zeros l → le l = 0
  | [], _ => rfl
  | x :: xs, h => by
    have h0 := h x (List.mem_cons_self)
    have h1 := le_zeros (l := xs) (fun y hy => h y (List.mem_cons_of_mem _ hy))
    subst h0
    simp [le, h1]
theorem zeros_part {l : List Int} (h : Zeros l) (k m : Nat) : Zeros (part l k m) := fun x hx => h x (List.mem_of_mem_drop (List.mem_of_mem_take hx))
theorem leb1_part {l : List Int} (hb : Bytes l) {q : Nat} (hq : q + 1 ≤ l.length) : leb 1 (u8 l q) = part l q 1 := by
  have := leb_le (part_bytes hb q 1)
  rw [part_len hq] at this
  exact this
theorem nm_txt {l : List Int} (hb : Bytes l) : txt (nm l) = part l 6 (u8 l 5) := txt_str (part_bytes hb 6 (u8 l 5))
theorem nm_size {l : List Int} (hb : Bytes l) (hl : l.length = 64) (h : u8 l 5 ≤ 54) : (nm l).size = u8 l 5 := by
  rw [← txt_len, nm_txt hb, part_len (by omega)]

theorem ent_iff {l : List Int} (hb : Bytes l) (hl : l.length = 64) : EntryOk l ↔ (u8 l 5 ≤ 54 ∧ EFits (u32 l 0) (u8 l 4) (nm l) ∧ sealed (entBody (u32 l 0) (u8 l 4) (nm l)) = l) := by
  have hwhole : l = part l 0 60 ++ part l 60 4 := by
    have := part_split l 0 60 4
    rw [show 60 + 4 = l.length by omega, part_all] at this
    exact this
  constructor
  · rintro ⟨hs, h1, h2, h3⟩
    rw [u8_part l 5 (by omega)] at h1
    rw [u8_part l 5 (by omega), part_low' (by omega)] at h2
    rw [u8_part l 4 (by omega), u32_part l 0 (by omega), nm_part l h1] at h3
    refine ⟨h1, h3, ?_⟩
    have e : entBody (u32 l 0) (u8 l 4) (nm l) = part l 0 60 := by
      have hz := zeros_rep h2
      rw [part_len (by omega)] at hz
      unfold entBody
      rw [nm_size hb hl h1, nm_txt hb, leb_part hb (by omega), leb1_part hb (by omega), leb1_part hb (by omega), ← hz]
      rw [← part_split l 0 4 1, ← part_split l 0 (4 + 1) 1, ← part_split l 0 (4 + 1 + 1) (u8 l 5)]
      have := part_split l 0 (4 + 1 + 1 + u8 l 5) (54 - u8 l 5)
      rw [show 0 + (4 + 1 + 1 + u8 l 5) = 6 + u8 l 5 by omega, show 4 + 1 + 1 + u8 l 5 + (54 - u8 l 5) = 60 by omega] at this
      exact this.symm
    unfold sealed
    rw [e]
    unfold SumOk at hs
    rw [hl] at hs
    have h4 := leb_part hb (q := 60) (by omega)
    have h5 : u32 l 60 = sumOf (part l 0 60) := hs
    rw [← h5, h4]
    exact hwhole.symm
  · rintro ⟨h1, h3, he⟩
    have hsz := nm_size hb hl h1
    have hlen : (entBody (u32 l 0) (u8 l 4) (nm l)).length = 60 := entBody_len _ _ (by omega)
    have hb60 : part l 0 60 = entBody (u32 l 0) (u8 l 4) (nm l) := by
      conv => lhs; rw [← he]
      unfold sealed
      rw [part_appl _ _ _ _ (by omega)]
      have := part_all (entBody (u32 l 0) (u8 l 4) (nm l))
      rw [hlen] at this
      exact this
    have hsum : part l 60 4 = leb 4 (sumOf (entBody (u32 l 0) (u8 l 4) (nm l))) := by
      conv => lhs; rw [← he]
      unfold sealed
      rw [part_app _ _ _ _ hlen.symm, List.take_of_length_le (by rw [leb_len]; omega)]
    refine ⟨?_, ?_, ?_, ?_⟩
    · unfold SumOk
      rw [hl]
      show le (part l 60 4) = sumOf (part l 0 60)
      rw [hsum, hb60, le_leb _ _ (by have := sumOf_lt (entBody_bytes (u32 l 0) (u8 l 4) (nm l)); omega)]
    · rw [u8_part l 5 (by omega)]; exact h1
    · rw [u8_part l 5 (by omega), hb60]
      unfold entBody
      rw [part_app _ _ _ _ (by simp only [List.length_append, leb_len, txt_len]; omega), hsz]
      intro x hx
      exact (List.mem_replicate.1 (List.mem_of_mem_take hx)).2
    · rw [u8_part l 4 (by omega), u32_part l 0 (by omega), nm_part l h1]; exact h3

/-- The bytes are what the encoder makes of their own fields. -/
def okB (l : List Int) : Bool := decide (u8 l 5 ≤ 54) && decide (entEnc (u32 l 0) (u8 l 4) (nm l) = (l, 0))
theorem zeros_eq {l : List Int} (hl : l.length = 64) (h : Zeros l) : l = zeros64 := by
  have := zeros_rep h
  rw [hl] at this
  exact this
theorem fields_zero {l : List Int} (h : Zeros l) : u32 l 0 = 0 ∧ u8 l 4 = 0 ∧ u8 l 5 = 0 ∧ nm l = ⟨#[]⟩ := by
  have h5 : u8 l 5 = 0 := le_zeros (zeros_part h 5 1)
  refine ⟨le_zeros (zeros_part h 0 4), le_zeros (zeros_part h 4 1), h5, ?_⟩
  unfold nm
  rw [h5]
  simp [part, strOfNums]
theorem okB_zero {l : List Int} (hl : l.length = 64) (h : Zeros l) : okB l = true := by
  obtain ⟨e1, e2, e3, e4⟩ := fields_zero h
  unfold okB
  rw [e1, e2, e3, e4, zeros_eq hl h]
  have : entEnc ((0 : Nat) : Int) ((0 : Nat) : Int) ⟨#[]⟩ = (zeros64, 0) := by
    rcases entEnc_cases ((0 : Nat) : Int) ((0 : Nat) : Int) ⟨#[]⟩ with ⟨_, e⟩ | ⟨h, _⟩ | ⟨h, _⟩
    · exact e
    · exact absurd ⟨rfl, rfl, by decide +kernel⟩ h
    · exact absurd ⟨rfl, rfl, by decide +kernel⟩ h
  rw [this]
  simp
theorem okB_iff {l : List Int} (hb : Bytes l) (hl : l.length = 64) (hz : ¬ Zeros l) : okB l = true ↔ EntryOk l := by
  rw [ent_iff hb hl]
  unfold okB
  rw [Bool.and_eq_true, decide_eq_true_iff, decide_eq_true_iff]
  constructor
  · rintro ⟨h1, h2⟩
    refine ⟨h1, ?_⟩
    rcases entEnc_cases (u32 l 0) (u8 l 4) (nm l) with ⟨_, e⟩ | ⟨_, h, e⟩ | ⟨_, _, e⟩
    · rw [e] at h2
      have h3 : zeros64 = l := (Prod.mk.inj h2).1
      exact absurd (fun x hx => by rw [← h3] at hx; exact (List.mem_replicate.1 hx).2) hz
    · rw [e] at h2
      exact ⟨h, (Prod.mk.inj h2).1⟩
    · rw [e] at h2
      exact absurd (Prod.mk.inj h2).2 (by decide)
  · rintro ⟨h1, h2, h3⟩
    refine ⟨h1, ?_⟩
    rcases entEnc_cases (u32 l 0) (u8 l 4) (nm l) with ⟨⟨e, _⟩, _⟩ | ⟨_, h, e⟩ | ⟨_, h, e⟩
    · have := h2.1.1; omega
    · rw [e]; exact congrArg (fun x => (x, (0 : Int))) h3
    · exact absurd h2 h
/-- What a decoder of entries answers. -/
def entDec (l : List Int) : Int × Int × ByteArray × Int :=
  if l.length ≠ 64 then (0, 0, ⟨#[]⟩, 2) else if okB l then (u32 l 0, u8 l 4, nm l, 0) else (0, 0, ⟨#[]⟩, 6)
theorem entDec_len {l : List Int} (h : l.length ≠ 64) : entDec l = (0, 0, ⟨#[]⟩, 2) := by unfold entDec; rw [if_pos h]
theorem entDec_ok {l : List Int} (h : l.length = 64) (hk : okB l = true) : entDec l = (((u32 l 0 : Nat) : Int), ((u8 l 4 : Nat) : Int), nm l, 0) := by unfold entDec; rw [if_neg (by omega), if_pos hk]
theorem entDec_no {l : List Int} (h : l.length = 64) (hk : ¬ okB l = true) : entDec l = (0, 0, ⟨#[]⟩, 6) := by unfold entDec; rw [if_neg (by omega), if_neg hk]

end Go.Proofs.Ytcpmapknmkholaa
end

section
namespace Go.Proofs.Ytcpmapknmkholaa
open Go.RowKit

theorem decent_any (a : Option Addr) (n c : Nat) (l : List Int) (w : World) (hs : Src w a n l) (hb : Bytes l) (hn : n ≤ 140737488355328) (hc : n ≤ c) (hcc : n = 64 → c ≤ 9223372036854775807) :
    Calls Try.prog 15 #[.slice a n c] w fun e w' => e = .returned (.tuple #[ent (entDec l).1 (entDec l).2.1 (entDec l).2.2.1 0, .int .i64 (entDec l).2.2.2]) ∧ Below w.heap.size w w' := by
  have hl := hs.1
  by_cases h : n = 64
  · cases a with
    | none => have := hs.2.1 rfl; omega
    | some x =>
      obtain ⟨b, o, rfl, hcell⟩ := hs.spot (by omega)
      subst h
      by_cases hz : Zeros l
      · obtain ⟨e1, e2, e3, e4⟩ := fields_zero hz
        rw [entDec_ok hl (okB_zero hl hz), e1, e2, e4]
        exact decent_zero b o c l w hl hc (hcc rfl) hb hcell hz
      · by_cases hr : EntryOk l
        · rw [entDec_ok hl ((okB_iff hb hl hz).2 hr)]
          exact decent_ok b o c l w hl hc (hcc rfl) hb hcell hz hr
        · rw [entDec_no hl (fun h => hr ((okB_iff hb hl hz).1 h))]
          exact decent_no b o c l w hl hc (hcc rfl) hb hcell hz hr
  · rw [entDec_len (by omega)]
    exact decent_len a n c w h hn
end Go.Proofs.Ytcpmapknmkholaa
end

section
namespace Go.Proofs.Ytcpmapknmkholaa
open Go.RowKit

/-- A right geometry, reckoned. -/
def geoB (s l n : Int) : Bool := decide (18 ≤ l ∧ l ≤ 256) && (decide (4 ≤ n ∧ n ≤ 1024) && (decide (n % 4 = 0) && decide (l + n / 4 + 6 ≤ s ∧ s ≤ 2048)))
theorem geoB_iff (s l n : Int) : geoB s l n = true ↔ Geo s l n := by simp only [geoB, Geo, Bool.and_eq_true, decide_eq_true_iff]
/-- The same of a sector. -/
def refB (l : List Int) : Bool := geoB (u32 l 8) (u32 l 12) (u32 l 16) && decide (sealed (supBody (u32 l 8) (u32 l 12) (u32 l 16)) = l)
theorem refB_iff (l : List Int) : refB l = true ↔ SuperRef l := by simp only [refB, SuperRef, Bool.and_eq_true, decide_eq_true_iff, geoB_iff]
/-- What a decoder of superblocks answers: three numbers and an error. -/
def supDec (l : List Int) : Int × Int × Int × Int :=
  if l.length ≠ 512 then (0, 0, 0, 2) else if refB l then (u32 l 8, u32 l 12, u32 l 16, 0) else (0, 0, 0, 6)

abbrev agg3 (x y z : Int) : Value := .agg #[.int .i64 x, .int .i64 y, .int .i64 z]

theorem decsuper_any (a : Option Addr) (n c : Nat) (l : List Int) (w : World) (hs : Src w a n l) (hb : Bytes l) (hn : n ≤ 140737488355328) (hc : n ≤ c) (hcc : n = 512 → c ≤ 9223372036854775807) :
    Calls Try.prog 17 #[.slice a n c] w fun e w' => e = .returned (.tuple #[agg3 (supDec l).1 (supDec l).2.1 (supDec l).2.2.1, .int .i64 (supDec l).2.2.2]) ∧ Below w.heap.size w w' := by
  have hl := hs.1
  by_cases h : n = 512
  · cases a with
    | none => have := hs.2.1 rfl; omega
    | some x =>
      obtain ⟨b, o, rfl, hcell⟩ := hs.spot (by omega)
      subst h
      have hne : ¬ l.length ≠ 512 := by omega
      by_cases hr : SuperRef l
      · have e : supDec l = (((u32 l 8 : Nat) : Int), ((u32 l 12 : Nat) : Int), ((u32 l 16 : Nat) : Int), 0) := by unfold supDec; rw [if_neg hne, if_pos ((refB_iff l).2 hr)]
        rw [e]
        exact decsuper_ok b o c l w hl hc (hcc rfl) hb hcell ((super_iff hb hl).2 hr)
      · have e : supDec l = (0, 0, 0, 6) := by unfold supDec; rw [if_neg hne, if_neg (fun h => hr ((refB_iff l).1 h))]
        rw [e]
        exact decsuper_no b o c l w hl hc (hcc rfl) hb hcell (fun h => hr ((super_iff hb hl).1 h))
  · have e : supDec l = (0, 0, 0, 2) := by unfold supDec; rw [if_pos (by omega)]
    rw [e]
    exact decsuper_len a n c w h hn
theorem sealed_sup (s l n : Nat) : (sealed (supBody s l n)).length = 512 := (sealed_len _).trans (congrArg (· + 4) (supBody_len s l n))
/-- What an encoder of superblocks answers. -/
def supEnc (s l n : Int) : List Int × Int := if geoB s l n then (sealed (supBody s.toNat l.toNat n.toNat), 0) else ([], 22)

theorem encsuper_any (s l n : Int) (w : World) :
    Calls Try.prog 16 #[agg3 s l n] w fun e w' => ∃ v, e = .returned (.tuple #[v, .int .i64 (supEnc s l n).2]) ∧ Enc w w' v (supEnc s l n).1 := by
  by_cases hg : Geo s l n
  · have e : supEnc s l n = (sealed (supBody s.toNat l.toNat n.toNat), 0) := by unfold supEnc; rw [if_pos ((geoB_iff s l n).2 hg)]
    rw [e]
    have h0 : 0 ≤ s ∧ 0 ≤ l ∧ 0 ≤ n := by obtain ⟨⟨_, _⟩, ⟨_, _⟩, _, _, _⟩ := hg; omega
    obtain ⟨S, rfl⟩ := Int.eq_ofNat_of_zero_le h0.1
    obtain ⟨L, rfl⟩ := Int.eq_ofNat_of_zero_le h0.2.1
    obtain ⟨N, rfl⟩ := Int.eq_ofNat_of_zero_le h0.2.2
    refine (encsuper_ok S L N w hg).mono ?_
    rintro e w' ⟨v, rfl, hm⟩
    exact ⟨v, rfl, hm.enc⟩
  · have e : supEnc s l n = ([], 22) := by unfold supEnc; rw [if_neg (fun h => hg ((geoB_iff s l n).1 h))]
    rw [e]
    refine (encsuper_bad s l n w hg).mono ?_
    rintro e w' ⟨rfl, hb⟩
    exact ⟨_, rfl, none, 0, rfl, ⟨rfl, fun _ => rfl, fun x hx => by cases hx⟩, hb⟩
theorem supEnc_len (s l n : Int) : (supEnc s l n).1.length ≤ 512 := by
  unfold supEnc
  split
  · exact Nat.le_of_eq (sealed_sup _ _ _)
  · exact Nat.zero_le _

/-- A box of three numbers. -/
def Box3 (w : World) (g : Nat) : Prop := ∃ a0 a1 a2 : Value, w.heap[g]? = some (.cells #[a0, a1, a2] 31 (0, 0))
theorem Box3.far {w w' : World} {g : Nat} (h : Box3 w g) (hb : Below w.heap.size w w') : Box3 w' g := by
  obtain ⟨a0, a1, a2, h⟩ := h
  exact ⟨a0, a1, a2, (hb.block g (Array.getElem?_eq_some_iff.1 h).1).trans h⟩
theorem Box3.keep {w w' : World} {F : Nat → Prop} {g : Nat} (h : Box3 w g) (hk : Keeps F w w') (hg : ¬ F g) : Box3 w' g := by
  obtain ⟨a0, a1, a2, h⟩ := h
  exact ⟨a0, a1, a2, (hk.block g (Array.getElem?_eq_some_iff.1 h).1 hg).trans h⟩
theorem Box3.lt {w : World} {g : Nat} (h : Box3 w g) : g < w.heap.size := by
  obtain ⟨a0, a1, a2, h⟩ := h
  exact (Array.getElem?_eq_some_iff.1 h).1
theorem set3 {w : World} {b : Nat} {t : TypeId} {a0 a1 a2 v0 v1 v2 : Value} (h : w.heap[b]? = some (.cells #[a0, a1, a2] t (0, 0))) :
    (((w.setCell ⟨b, 0, none⟩ v0).setCell ⟨b, 1, none⟩ v1).setCell ⟨b, 2, none⟩ v2).heap[b]? = some (.cells #[v0, v1, v2] t (0, 0)) :=
  heap_setCell_same _ _ _ _ _ _ (heap_setCell_same _ _ _ _ _ _ (heap_setCell_same _ _ _ _ _ _ h))
theorem keep3 (w : World) (b : Nat) (v0 v1 v2 : Value) : Keeps (fun k => k = b) w (((w.setCell ⟨b, 0, none⟩ v0).setCell ⟨b, 1, none⟩ v1).setCell ⟨b, 2, none⟩ v2) := by
  have e : ∀ (w : World) (i : Nat) (v : Value), Keeps (fun k => k = b) w (w.setCell ⟨b, i, none⟩ v) := fun w i v => Keeps.setCell (F := fun k => k = b) w (p := ⟨b, i, none⟩) rfl v
  exact ((e w 0 v0).trans (e _ 1 v1) (fun _ h => .inl h)).trans (e _ 2 v2) (fun _ h => .inl h)
theorem RowAt.ne3 {w : World} {g c q : Nat} {xs : List Value} (h : RowAt w 5 g c xs) (hq : Box3 w q) : g ≠ q := by
  obtain ⟨a0, a1, a2, hq⟩ := hq
  exact h.ne hq (by decide)

end Go.Proofs.Ytcpmapknmkholaa
end

section
namespace Go.Proofs.Ytcpmapknmkholaa
open Go.RowKit

theorem neop_node (k l p s o : Int) (d : Nat → Int) (k' l' p' s' o' : Int) (d' : Nat → Int) (w : World) (r : Bool) (hr : r = true ↔ ¬ NSame k l p s o d k' l' p' s' o' d') (x y : Operand) :
    (do eqGuard .neq 27 x y (nd k l p s o d) (nd k' l' p' s' o' d'); binOp .neq 27 (nd k l p s o d) (nd k' l' p' s' o' d')).run Try.prog w = .ok (.bool r) w := by
  obtain ⟨b, hb, hbi⟩ := eq_node 9997 k l p s o d k' l' p' s' o' d' w
  have e : (!b) = r := by
    cases b <;> cases r <;> simp_all
  subst e
  rw [Sem.run_bind, run_eqGuard_agg (P := Try.prog) w .neq 27 x y _ _ guardNode, Result.andThen_ok]
  show (binOp .neq 27 (nd k l p s o d) (nd k' l' p' s' o' d')).run Try.prog w = _
  unfold binOp Op.equal Op.maxDepth
  rw [Sem.run_bind, hb, Result.andThen_ok, Sem.run_pure]
/-- Two nodes are held against each other, in a plain region, under a guard. -/
theorem wpList_ne_node {ops : Array Oper} {rest : List Oper} {op : Oper} {a : Act} {w : World} {Q : Exit → Act → World → Prop} (hgd : Region.wanted op (yielded ops a.tmps) = true) (x y : Operand) (T : TypeId) (ho : op.op = .binOp .neq 27 x y T)
    (k l p s o : Int) (d : Nat → Int) (k' l' p' s' o' : Int) (d' : Nat → Int) (hx : a.eval x = nd k l p s o d) (hy : a.eval y = nd k' l' p' s' o' d') (r : Bool) (hr : r = true ↔ ¬ NSame k l p s o d k' l' p' s' o' d')
    (h : wpList Try.prog ops Q rest (a.put op.dst (.bool r)) w) : wpList Try.prog ops Q (op :: rest) a w :=
  wpList_step fun K hK => by
    rw [if_pos hgd]
    unfold Oper.wp execOp
    simp only [ho, hx, hy]
    have := neop_node k l p s o d k' l' p' s' o' d' w r hr x y
    rw [Sem.run_bind, this]
    exact hK _ _ h
theorem NV.same (x : NV) : NSame x.k x.l x.p x.s x.o x.d x.k x.l x.p x.s x.o x.d := ⟨rfl, rfl, rfl, rfl, rfl, fun _ _ => rfl⟩

/-- A new box for a node, filled. -/
structure BoxN (x : NV) (w2 w3 : World) (F : List Value) : Prop where
  eq : F = ndl x.k x.l x.p x.s x.o x.d
  made : w3 = (w2.alloc (.cells (ndc 0 0 0 0 0 (fun _ => 0)) 27)).setCells w2.heap.size 0 F
theorem BoxN.there {x : NV} {w2 w3 : World} {F : List Value} (h : BoxN x w2 w3 F) : (w2.alloc (.cells (ndc 0 0 0 0 0 (fun _ => 0)) 27)).there w2.heap.size 0 F.length := by
  rw [h.eq]
  exact there_node (heap_alloc_new _ _) rfl
theorem BoxN.all {x : NV} {w2 w3 : World} {F : List Value} (h : BoxN x w2 w3 F) : F.toArray.all (·.oneCell') = true := by
  rw [h.eq]
  exact all_oneCell_toArray (nl_one _ _ _ _ _ _)
theorem BoxN.info {x : NV} {w2 w3 : World} {F : List Value} (h : BoxN x w2 w3 F) : (Try.prog.info? 27).map (·.size) = some F.length := by
  rw [h.eq]
  exact infoNode
theorem BoxN.range {x : NV} {w2 w3 : World} {F : List Value} (h : BoxN x w2 w3 F) : w3.rangeAt w2.heap.size 0 F := by
  rw [h.made]
  exact World.rangeAt_setCells_same _ _ _ _ h.there
theorem BoxN.below {x : NV} {w2 w3 : World} {F : List Value} (h : BoxN x w2 w3 F) : Below w2.heap.size w2 w3 := by
  rw [h.made]
  exact ((Below.refl _ w2).alloc (Nat.le_refl _) _).trans ((Keeps.setCells (F := fun j => j = w2.heap.size) rfl F 0 _).below (fun j hj => by omega) (by simp))
theorem BoxN.val {x : NV} {w2 w3 : World} {F : List Value} (h : BoxN x w2 w3 F) : x.v = .agg F.toArray := by rw [h.eq]
theorem boxN (x : NV) (w2 : World) : ∃ F w3, BoxN x w2 w3 F := ⟨_, _, rfl, rfl⟩

theorem zeros128_zeros : Zeros zeros128 := fun _ hx => (List.mem_replicate.1 hx).2
theorem dec_zeros {x : NV} {E : Int} (h : DecR zeros128 x E) : x = nv0 ∧ E = 0 := by
  rcases h with ⟨h, _⟩ | ⟨_, _, h1, h2⟩ | ⟨_, h, _⟩ | ⟨_, h, _⟩
  · exact absurd zeros128_len h
  · exact ⟨h1, h2⟩
  · exact absurd zeros128_zeros h
  · exact absurd zeros128_zeros h
/-- 512 zeros. -/
def zeros512 : List Int := List.replicate 512 0
theorem zeros512_len : zeros512.length = 512 := List.length_replicate
theorem sup_zeros : supDec zeros512 = (0, 0, 0, 6) := by
  have hz : Zeros zeros512 := fun _ hx => (List.mem_replicate.1 hx).2
  unfold supDec
  rw [if_neg (fun h => h zeros512_len), if_neg]
  intro h
  have := ((refB_iff _).1 h).1
  rw [show u32 zeros512 12 = 0 from le_zeros (zeros_part hz 12 4)] at this
  exact absurd this.1.1 (by decide)
theorem ent_back {l : List Int} {X Y : Int} {Z : ByteArray} (h : entDec l = (X, Y, Z, 0)) : entEnc X Y Z = (l, 0) := by
  by_cases hl : l.length = 64
  · by_cases hk : okB l = true
    · rw [entDec_ok hl hk] at h
      simp only [Prod.mk.injEq] at h
      obtain ⟨rfl, rfl, rfl, _⟩ := h
      unfold okB at hk
      rw [Bool.and_eq_true, decide_eq_true_iff, decide_eq_true_iff] at hk
      exact hk.2
    · rw [entDec_no hl hk] at h
      simp only [Prod.mk.injEq] at h
      exact absurd h.2.2.2 (by decide)
  · rw [entDec_len hl] at h
    simp only [Prod.mk.injEq] at h
    exact absurd h.2.2.2 (by decide)
theorem sup_back {l : List Int} {X Y Z : Int} (h : supDec l = (X, Y, Z, 0)) : supEnc X Y Z = (l, 0) := by
  unfold supDec at h
  split at h
  · simp only [Prod.mk.injEq] at h
    exact absurd h.2.2.2 (by decide)
  · split at h
    · rename_i hk
      simp only [Prod.mk.injEq] at h
      obtain ⟨rfl, rfl, rfl, _⟩ := h
      have hr := (refB_iff l).1 hk
      unfold supEnc
      rw [if_pos ((geoB_iff _ _ _).2 hr.1)]
      exact congrArg (fun z => (z, (0 : Int))) hr.2
    · simp only [Prod.mk.injEq] at h
      exact absurd h.2.2.2 (by decide)
end Go.Proofs.Ytcpmapknmkholaa
end

section
namespace Go.Proofs.Ytcpmapknmkholaa
open Go.RowKit

set_option maxRecDepth 20000 in
set_option maxHeartbeats 2000000 in
theorem bring_any (v : Int) (lo hi : Nat) (w : World) (h : lo ≤ hi) (hh : hi ≤ 1000000000) :
    Calls Try.prog 18 #[.int .i64 v, .int .i64 (lo : Int), .int .i64 (hi : Int)] w fun e w' => (∃ x : Int, e = .returned (.int .i64 x) ∧ (lo : Int) ≤ x ∧ x ≤ (hi : Int)) ∧ w' = w := by
  have hpos : 0 < ((hi : Int) - (lo : Int) + 1) := by omega
  have hr1 : v.tmod ((hi : Int) - (lo : Int) + 1) < ((hi : Int) - (lo : Int) + 1) := Int.tmod_lt_of_pos v hpos
  have hr2 : -(v.tmod ((hi : Int) - (lo : Int) + 1)) < ((hi : Int) - (lo : Int) + 1) := by rw [← Int.neg_tmod]; exact Int.tmod_lt_of_pos (-v) hpos
  by_cases hneg : v.tmod ((hi : Int) - (lo : Int) + 1) < 0
  · go_enter Try.func18, Try.ntmps18
    go_wp2
    go_ret
    exact ⟨⟨_, rfl, by (try unfold wrap64); omega, by (try unfold wrap64); omega⟩, rfl⟩
  · go_enter Try.func18, Try.ntmps18
    go_wp2
    go_ret
    exact ⟨⟨_, rfl, by (try unfold wrap64); omega, by (try unfold wrap64); omega⟩, rfl⟩
end Go.Proofs.Ytcpmapknmkholaa
end

section
namespace Go.Proofs.Ytcpmapknmkholaa
open Go.RowKit

/-- A node is made to fit: its box, and the answer's. -/
structure TAt (w wr : World) (cs : Array Value) : Prop where
  below : Below w.heap.size w wr
  par : wr.heap[w.heap.size]? = some (.cells cs 27 (0, 0))
  res : wr.heap[w.heap.size + 1]? = some (.cells (ndc 0 0 0 0 0 (fun _ => 0)) 27 (0, 0))
theorem TAt.put {w wr : World} {cs : Array Value} (h : TAt w wr cs) (i : Nat) (v : Value) : TAt w (wr.setCell ⟨w.heap.size, i, none⟩ v) (cs.setIfInBounds i v) :=
  ⟨below_put h.below (Nat.le_refl _) h.below.size v, heap_setCell_same _ _ _ _ _ _ h.par, (Below.heap_setCell _ _ _ _ (by simp)).trans h.res⟩
def upd (d : Nat → Int) (j : Nat) (v : Int) : Nat → Int := fun i => if i = j then v else d i
theorem ndc_at (k l p s o : Int) (d : Nat → Int) (j : Nat) (hj : j < 12) : (ndc k l p s o d)[5 + j]? = some (.int .i64 (d j)) := by
  match j, hj with
  | 0, _ => rfl
  | 1, _ => rfl
  | 2, _ => rfl
  | 3, _ => rfl
  | 4, _ => rfl
  | 5, _ => rfl
  | 6, _ => rfl
  | 7, _ => rfl
  | 8, _ => rfl
  | 9, _ => rfl
  | 10, _ => rfl
  | 11, _ => rfl
theorem ndc_upd (k l p s o : Int) (d : Nat → Int) (j : Nat) (hj : j < 12) (v : Int) : (ndc k l p s o d).setIfInBounds (5 + j) (.int .i64 v) = ndc k l p s o (upd d j v) := by
  match j, hj with
  | 0, _ => simp [upd]
  | 1, _ => simp [upd]
  | 2, _ => simp [upd]
  | 3, _ => simp [upd]
  | 4, _ => simp [upd]
  | 5, _ => simp [upd]
  | 6, _ => simp [upd]
  | 7, _ => simp [upd]
  | 8, _ => simp [upd]
  | 9, _ => simp [upd]
  | 10, _ => simp [upd]
  | 11, _ => simp [upd]
theorem upd_same (d : Nat → Int) (j : Nat) (v : Int) : upd d j v j = v := by simp [upd]
theorem upd_ne (d : Nat → Int) {j i : Nat} (v : Int) (h : i ≠ j) : upd d j v i = d i := by simp [upd, h]

set_option maxRecDepth 20000 in
set_option maxHeartbeats 8000000 in
theorem tame_any (x : NV) (w : World) :
    Calls Try.prog 5 #[x.v] w fun e w' => ∃ y : NV, e = .returned y.v ∧ NFits y.k y.l y.p y.s y.o y.d ∧ Below w.heap.size w w' := by
  obtain ⟨k, l, p, s, o, d⟩ := x
  obtain ⟨w0, hw0⟩ : ∃ w0, w0 = (w.alloc (.cells (ndc k l p s o d) 27)).alloc (.cells (ndc 0 0 0 0 0 (fun _ => 0)) 27) := ⟨_, rfl⟩
  have T0 : TAt w w0 (ndc k l p s o d) := by rw [hw0]; exact ⟨below_two w _ _, heap_alloc2_old _ _ _, heap_alloc2_new _ _ _⟩
  have b0 := bring_any k 1 3 w0 (by omega) (by omega)
  have HT0 := Hid.mk T0
  clear T0
  go_enter Try.func5, Try.ntmps5
  go_wp2_with fail
  rw [← hw0]
  clear hw0
  refine b0.mono ?_
  rintro e wx ⟨⟨K, rfl, K1, K2⟩, hw⟩
  have hw' := hw.symm
  subst hw'
  clear hw b0
  have c1 := cell_of_block HT0.out.par (j := 0) rfl
  have f1 := frozen_of_block HT0.out.par 0
  have n1 := cell_of_block HT0.out.par (j := 1) (u := .int .i64 l) rfl
  obtain ⟨w1, hw1⟩ : ∃ w1, w1 = w0.setCell ⟨w.heap.size, 0, none⟩ (.int .i64 K) := ⟨_, rfl⟩
  have HT1 : Hid (TAt w w1 (ndc K l p s o d)) := by
    show TAt w w1 (ndc K l p s o d)
    rw [hw1]
    exact HT0.out.put 0 (.int .i64 K)
  have b1 := bring_any l 0 64 w1 (by omega) (by omega)
  clear HT0
  go_wp2_with fail
  rw [← hw1]
  clear hw1 c1 f1 n1
  refine b1.mono ?_
  rintro e wx ⟨⟨L, rfl, L1, L2⟩, hw⟩
  have hw' := hw.symm
  subst hw'
  clear hw b1
  have c2 := cell_of_block HT1.out.par (j := 1) rfl
  have f2 := frozen_of_block HT1.out.par 1
  have n2 := cell_of_block HT1.out.par (j := 2) (u := .int .i64 p) rfl
  obtain ⟨w2, hw2⟩ : ∃ w2, w2 = w1.setCell ⟨w.heap.size, 1, none⟩ (.int .i64 L) := ⟨_, rfl⟩
  have HT2 : Hid (TAt w w2 (ndc K L p s o d)) := by
    show TAt w w2 (ndc K L p s o d)
    rw [hw2]
    exact HT1.out.put 1 (.int .i64 L)
  have b2 := bring_any p 1 1024 w2 (by omega) (by omega)
  clear HT1
  go_wp2_with fail
  rw [← hw2]
  clear hw2 c2 f2 n2
  refine b2.mono ?_
  rintro e wx ⟨⟨P, rfl, P1, P2⟩, hw⟩
  have hw' := hw.symm
  subst hw'
  clear hw b2
  have c3 := cell_of_block HT2.out.par (j := 2) rfl
  have f3 := frozen_of_block HT2.out.par 2
  have n3 := cell_of_block HT2.out.par (j := 0) (u := .int .i64 K) rfl
  obtain ⟨w3, hw3⟩ : ∃ w3, w3 = w2.setCell ⟨w.heap.size, 2, none⟩ (.int .i64 P) := ⟨_, rfl⟩
  have HT3 : Hid (TAt w w3 (ndc K L P s o d)) := by
    show TAt w w3 (ndc K L P s o d)
    rw [hw3]
    exact HT2.out.put 2 (.int .i64 P)
  by_cases hk2 : K = 2
  · have hkb : (K != 2) = false := by rw [hk2]; rfl
    have HK2 := Hid.mk hk2
    clear hk2
    have m3 := cell_of_block HT3.out.par (j := 3) (u := .int .i64 s) rfl
    rw [hw3] at m3
    have b3 := bring_any s 0 8459264 w3 (by omega) (by omega)
    clear HT2
    go_wp2_with fail
    rw [← hw3]
    clear hw3 c3 f3 n3 m3 hkb
    refine b3.mono ?_
    rintro e wx ⟨⟨S, rfl, S1, S2⟩, hw⟩
    have hw' := hw.symm
    subst hw'
    clear hw b3
    have c4 := cell_of_block HT3.out.par (j := 3) rfl
    have f4 := frozen_of_block HT3.out.par 3
    have n4 := cell_of_block HT3.out.par (j := 4) (u := .int .i64 o) rfl
    obtain ⟨w4, hw4⟩ : ∃ w4, w4 = w3.setCell ⟨w.heap.size, 3, none⟩ (.int .i64 S) := ⟨_, rfl⟩
    have HT4 : Hid (TAt w w4 (ndc K L P S o d)) := by
      show TAt w w4 (ndc K L P S o d)
      rw [hw4]
      exact HT3.out.put 3 (.int .i64 S)
    have b4 := bring_any o 0 2048 w4 (by omega) (by omega)
    clear HT3
    go_wp2_with fail
    rw [← hw4]
    clear hw4 c4 f4 n4
    refine b4.mono ?_
    rintro e wx ⟨⟨O, rfl, O1, O2⟩, hw⟩
    have hw' := hw.symm
    subst hw'
    clear hw b4
    have c5 := cell_of_block HT4.out.par (j := 4) rfl
    have f5 := frozen_of_block HT4.out.par 4
    have HT5 : Hid (TAt w (w4.setCell ⟨w.heap.size, 4, none⟩ (.int .i64 O)) (ndc K L P S O d)) := HT4.out.put 4 (.int .i64 O)
    clear HT4
    go_wp2_with fail
    clear c5 f5
    go_loopw [3] (fun i wr => ∃ j : Nat, j ≤ 10 ∧ i = .int .i64 j ∧ ∃ d' : Nat → Int, TAt w wr (ndc K L P S O d') ∧ ∀ q, q < j → PF (d' q)) (fun i _ => 10 - (intOf i).toNat)
    case atStart => exact ⟨0, Nat.zero_le _, rfl, d, HT5.out, fun q hq => by omega⟩
    case round =>
      clear HT5
      obtain ⟨j, hj, rfl, d', hT, hall⟩ := hrel
      by_cases hlt : j < 10
      · have hlt' : (j : Int) < 10 := by omega
        have cj := cell_of_block hT.par (ndc_at K L P S O d' j (by omega))
        have fj := frozen_of_block hT.par (5 + j)
        have bj := bring_any (d' j) 0 2047 wr (by omega) (by omega)
        have HTj := Hid.mk hT
        have HAj := Hid.mk hall
        clear hT hall
        go_wp2_with fail
        refine bj.mono ?_
        rintro e wx ⟨⟨v, rfl, v1, v2⟩, hw⟩
        have hw' := hw.symm
        subst hw'
        clear hw bj
        have HTn : Hid (TAt w (wr.setCell ⟨w.heap.size, 5 + j, none⟩ (.int .i64 v)) (ndc K L P S O (upd d' j v))) := by
          show TAt w (wr.setCell ⟨w.heap.size, 5 + j, none⟩ (.int .i64 v)) (ndc K L P S O (upd d' j v))
          rw [← ndc_upd K L P S O d' j (by omega) v]
          exact HTj.out.put (5 + j) (.int .i64 v)
        have HAn : Hid (∀ q, q < j + 1 → PF (upd d' j v q)) := fun q hq => by
          by_cases e : q = j
          · rw [e, upd_same, pf_iff]; omega
          · rw [upd_ne d' v e]; exact HAj.out q (by omega)
        clear HTj HAj
        go_wp2
        go_roundw
        case rel => exact ⟨j + 1, by omega, by go_num, _, HTn.out, HAn.out⟩
        case measure => simp [intOf]; omega
      · have hlt' : ¬ (j : Int) < 10 := by omega
        have hj10 : j = 10 := by omega
        subst hj10
        have HT5 := Hid.mk hT
        have HA := Hid.mk hall
        have n10 := cell_of_block hT.par (j := 15) (u := .int .i64 (d' 10)) rfl
        have b5 := bring_any (d' 10) 0 2047 wr (by omega) (by omega)
        clear hT hall
        go_wp2_with fail
        clear n10
        refine b5.mono ?_
        rintro e wx ⟨⟨v, rfl, v1, v2⟩, hw⟩
        have hw' := hw.symm
        subst hw'
        clear hw b5
        have c6 := cell_of_block HT5.out.par (j := 15) rfl
        have f6 := frozen_of_block HT5.out.par 15
        have n6 := cell_of_block HT5.out.par (j := 16) (u := .int .i64 (d' 11)) rfl
        obtain ⟨w6, hw6⟩ : ∃ w6, w6 = wr.setCell ⟨w.heap.size, 15, none⟩ (.int .i64 v) := ⟨_, rfl⟩
        have HT6 : Hid (TAt w w6 (ndc K L P S O (upd d' 10 v))) := by
          show TAt w w6 (ndc K L P S O (upd d' 10 v))
          rw [hw6, ← ndc_upd K L P S O d' 10 (by omega) v]
          exact HT5.out.put 15 (.int .i64 v)
        have b6 := bring_any (d' 11) 0 2047 w6 (by omega) (by omega)
        clear HT5
        go_wp2_with fail
        rw [← hw6]
        clear hw6 c6 f6 n6
        refine b6.mono ?_
        rintro e wx ⟨⟨u, rfl, u1, u2⟩, hw⟩
        have hw' := hw.symm
        subst hw'
        clear hw b6
        have c7 := cell_of_block HT6.out.par (j := 16) rfl
        have f7 := frozen_of_block HT6.out.par 16
        obtain ⟨D, hD⟩ : ∃ D, D = upd (upd d' 10 v) 11 u := ⟨_, rfl⟩
        obtain ⟨w7, hw7⟩ : ∃ w7, w7 = w6.setCell ⟨w.heap.size, 16, none⟩ (.int .i64 u) := ⟨_, rfl⟩
        have HT7 : Hid (TAt w w7 (ndc K L P S O D)) := by
          show TAt w w7 (ndc K L P S O D)
          rw [hw7, hD, ← ndc_upd K L P S O (upd d' 10 v) 11 (by omega) u]
          exact HT6.out.put 16 (.int .i64 u)
        have HFit : Hid (NFits K L P S O D) := by
          refine ⟨⟨K1, K2⟩, ⟨L1, L2⟩, .inl ⟨HK2.out, P1, P2⟩, ⟨S1, S2⟩, ⟨O1, O2⟩, fun q hq => ?_⟩
          rw [hD]
          by_cases e : q = 11
          · rw [e, upd_same, pf_iff]; exact ⟨u1, by omega⟩
          · rw [upd_ne _ u e]
            by_cases e' : q = 10
            · rw [e', upd_same, pf_iff]; exact ⟨v1, by omega⟩
            · rw [upd_ne _ v e']; exact HA.out q (by omega)
        obtain ⟨F, hF⟩ : ∃ F, F = ndl K L P S O D := ⟨_, rfl⟩
        have hlen : F.length = 17 := by rw [hF]; rfl
        have hth : w7.there (w.heap.size + 1) 0 F.length := by rw [hlen]; exact there_node HT7.out.res rfl
        have hone : F.toArray.all (·.oneCell') = true := by rw [hF]; exact all_oneCell_toArray (nl_one _ _ _ _ _ _)
        have hinf : (Try.prog.info? 27).map (·.size) = some F.length := by rw [hlen]; exact infoNode
        have hra : w7.rangeAt w.heap.size 0 F := by rw [hF]; exact range_of HT7.out.par
        have hrs := Hid.mk (World.rangeAt_setCells_same w7 (w.heap.size + 1) 0 F hth)
        have HBe : Hid (Below w.heap.size w (w7.setCells (w.heap.size + 1) 0 F)) := HT7.out.below.trans ((Keeps.setCells (F := fun j => j = w.heap.size + 1) rfl F 0 w7).below (fun j hj => by omega) HT7.out.below.size)
        have HV : Hid (nd K L P S O D = .agg F.toArray) := by show nd K L P S O D = .agg F.toArray; rw [hF]
        rw [hw7] at hra hth
        have Hra := Hid.mk hra
        clear hF hlen hD HT7 HT6 hra HA
        go_wp2_with (first | refine wpList_load_mid rfl 27 _ rfl w.heap.size 0 rfl F _ Hra.out Try.underlying27 rfl hinf ?_ | refine wpList_store_mid rfl 27 _ _ rfl (w.heap.size + 1) 0 F.toArray rfl rfl ?h1 ?h2 hone ?_)
        case h1 => simpa using hth
        case h2 => simpa using hinf
        rw [← hw7]
        exact bodyPost_ret (results_cell_mid (P := Try.prog) rfl _ _ (w.heap.size + 1) F _ rfl hrs.out Try.underlying27 rfl hinf) rfl ⟨⟨K, L, P, S, O, D⟩, by rw [← HV.out], HFit.out, HBe.out⟩
  · have hkb : (K != 2) = true := by rw [bne_iff_ne]; exact hk2
    have HK2 := Hid.mk hk2
    clear hk2
    have m3 := cell_of_block HT3.out.par (j := 3) (u := .int .i64 s) rfl
    rw [hw3] at m3
    obtain ⟨w8, hw8⟩ : ∃ w8, w8 = w3.setCell ⟨w.heap.size, 2, none⟩ (.int .i64 0) := ⟨_, rfl⟩
    have HT8 : Hid (TAt w w8 (ndc K L 0 s o d)) := by
      show TAt w w8 (ndc K L 0 s o d)
      rw [hw8]
      exact HT3.out.put 2 (.int .i64 0)
    have b8 := bring_any s 0 8459264 w8 (by omega) (by omega)
    rw [hw3] at hw8
    clear HT2 HT3 hw3
    go_wp2_with fail
    rw [← hw8]
    clear hw8 c3 f3 n3 m3 hkb
    refine b8.mono ?_
    rintro e wx ⟨⟨S, rfl, S1, S2⟩, hw⟩
    have hw' := hw.symm
    subst hw'
    clear hw b8
    have c9 := cell_of_block HT8.out.par (j := 3) rfl
    have f9 := frozen_of_block HT8.out.par 3
    have n9 := cell_of_block HT8.out.par (j := 4) (u := .int .i64 o) rfl
    obtain ⟨w9, hw9⟩ : ∃ w9, w9 = w8.setCell ⟨w.heap.size, 3, none⟩ (.int .i64 S) := ⟨_, rfl⟩
    have HT9 : Hid (TAt w w9 (ndc K L 0 S o d)) := by
      show TAt w w9 (ndc K L 0 S o d)
      rw [hw9]
      exact HT8.out.put 3 (.int .i64 S)
    have b9 := bring_any o 0 2048 w9 (by omega) (by omega)
    clear HT8
    go_wp2_with fail
    rw [← hw9]
    clear hw9 c9 f9 n9
    refine b9.mono ?_
    rintro e wx ⟨⟨O, rfl, O1, O2⟩, hw⟩
    have hw' := hw.symm
    subst hw'
    clear hw b9
    have c10 := cell_of_block HT9.out.par (j := 4) rfl
    have f10 := frozen_of_block HT9.out.par 4
    have HT10 : Hid (TAt w (w9.setCell ⟨w.heap.size, 4, none⟩ (.int .i64 O)) (ndc K L 0 S O d)) := HT9.out.put 4 (.int .i64 O)
    clear HT9
    go_wp2_with fail
    clear c10 f10
    go_loopw [3] (fun i wr => ∃ j : Nat, j ≤ 10 ∧ i = .int .i64 j ∧ ∃ d' : Nat → Int, TAt w wr (ndc K L 0 S O d') ∧ ∀ q, q < j → PF (d' q)) (fun i _ => 10 - (intOf i).toNat)
    case atStart => exact ⟨0, Nat.zero_le _, rfl, d, HT10.out, fun q hq => by omega⟩
    case round =>
      clear HT10
      obtain ⟨j, hj, rfl, d', hT, hall⟩ := hrel
      by_cases hlt : j < 10
      · have hlt' : (j : Int) < 10 := by omega
        have cj := cell_of_block hT.par (ndc_at K L 0 S O d' j (by omega))
        have fj := frozen_of_block hT.par (5 + j)
        have bj := bring_any (d' j) 0 2047 wr (by omega) (by omega)
        have HTj := Hid.mk hT
        have HAj := Hid.mk hall
        clear hT hall
        go_wp2_with fail
        refine bj.mono ?_
        rintro e wx ⟨⟨v, rfl, v1, v2⟩, hw⟩
        have hw' := hw.symm
        subst hw'
        clear hw bj
        have HTn : Hid (TAt w (wr.setCell ⟨w.heap.size, 5 + j, none⟩ (.int .i64 v)) (ndc K L 0 S O (upd d' j v))) := by
          show TAt w (wr.setCell ⟨w.heap.size, 5 + j, none⟩ (.int .i64 v)) (ndc K L 0 S O (upd d' j v))
          rw [← ndc_upd K L 0 S O d' j (by omega) v]
          exact HTj.out.put (5 + j) (.int .i64 v)
        have HAn : Hid (∀ q, q < j + 1 → PF (upd d' j v q)) := fun q hq => by
          by_cases e : q = j
          · rw [e, upd_same, pf_iff]; omega
          · rw [upd_ne d' v e]; exact HAj.out q (by omega)
        clear HTj HAj
        go_wp2
        go_roundw
        case rel => exact ⟨j + 1, by omega, by go_num, _, HTn.out, HAn.out⟩
        case measure => simp [intOf]; omega
      · have hlt' : ¬ (j : Int) < 10 := by omega
        have hj10 : j = 10 := by omega
        subst hj10
        have HT10 := Hid.mk hT
        have HA := Hid.mk hall
        have n10 := cell_of_block hT.par (j := 15) (u := .int .i64 (d' 10)) rfl
        have b10 := bring_any (d' 10) 0 2047 wr (by omega) (by omega)
        clear hT hall
        go_wp2_with fail
        clear n10
        refine b10.mono ?_
        rintro e wx ⟨⟨v, rfl, v1, v2⟩, hw⟩
        have hw' := hw.symm
        subst hw'
        clear hw b10
        have c11 := cell_of_block HT10.out.par (j := 15) rfl
        have f11 := frozen_of_block HT10.out.par 15
        have n11 := cell_of_block HT10.out.par (j := 16) (u := .int .i64 (d' 11)) rfl
        obtain ⟨w11, hw11⟩ : ∃ w11, w11 = wr.setCell ⟨w.heap.size, 15, none⟩ (.int .i64 v) := ⟨_, rfl⟩
        have HT11 : Hid (TAt w w11 (ndc K L 0 S O (upd d' 10 v))) := by
          show TAt w w11 (ndc K L 0 S O (upd d' 10 v))
          rw [hw11, ← ndc_upd K L 0 S O d' 10 (by omega) v]
          exact HT10.out.put 15 (.int .i64 v)
        have b11 := bring_any (d' 11) 0 2047 w11 (by omega) (by omega)
        clear HT10
        go_wp2_with fail
        rw [← hw11]
        clear hw11 c11 f11 n11
        refine b11.mono ?_
        rintro e wx ⟨⟨u, rfl, u1, u2⟩, hw⟩
        have hw' := hw.symm
        subst hw'
        clear hw b11
        have c12 := cell_of_block HT11.out.par (j := 16) rfl
        have f12 := frozen_of_block HT11.out.par 16
        obtain ⟨D, hD⟩ : ∃ D, D = upd (upd d' 10 v) 11 u := ⟨_, rfl⟩
        obtain ⟨w12, hw12⟩ : ∃ w12, w12 = w11.setCell ⟨w.heap.size, 16, none⟩ (.int .i64 u) := ⟨_, rfl⟩
        have HT12 : Hid (TAt w w12 (ndc K L 0 S O D)) := by
          show TAt w w12 (ndc K L 0 S O D)
          rw [hw12, hD, ← ndc_upd K L 0 S O (upd d' 10 v) 11 (by omega) u]
          exact HT11.out.put 16 (.int .i64 u)
        have HFit : Hid (NFits K L 0 S O D) := by
          refine ⟨⟨K1, K2⟩, ⟨L1, L2⟩, .inr ⟨HK2.out, rfl⟩, ⟨S1, S2⟩, ⟨O1, O2⟩, fun q hq => ?_⟩
          rw [hD]
          by_cases e : q = 11
          · rw [e, upd_same, pf_iff]; exact ⟨u1, by omega⟩
          · rw [upd_ne _ u e]
            by_cases e' : q = 10
            · rw [e', upd_same, pf_iff]; exact ⟨v1, by omega⟩
            · rw [upd_ne _ v e']; exact HA.out q (by omega)
        obtain ⟨F, hF⟩ : ∃ F, F = ndl K L 0 S O D := ⟨_, rfl⟩
        have hlen : F.length = 17 := by rw [hF]; rfl
        have hth : w12.there (w.heap.size + 1) 0 F.length := by rw [hlen]; exact there_node HT12.out.res rfl
        have hone : F.toArray.all (·.oneCell') = true := by rw [hF]; exact all_oneCell_toArray (nl_one _ _ _ _ _ _)
        have hinf : (Try.prog.info? 27).map (·.size) = some F.length := by rw [hlen]; exact infoNode
        have hra : w12.rangeAt w.heap.size 0 F := by rw [hF]; exact range_of HT12.out.par
        have hrs := Hid.mk (World.rangeAt_setCells_same w12 (w.heap.size + 1) 0 F hth)
        have HBe : Hid (Below w.heap.size w (w12.setCells (w.heap.size + 1) 0 F)) := HT12.out.below.trans ((Keeps.setCells (F := fun j => j = w.heap.size + 1) rfl F 0 w12).below (fun j hj => by omega) HT12.out.below.size)
        have HV : Hid (nd K L 0 S O D = .agg F.toArray) := by show nd K L 0 S O D = .agg F.toArray; rw [hF]
        rw [hw12] at hra hth
        have Hra := Hid.mk hra
        clear hF hlen hD HT12 HT11 hra HA
        go_wp2_with (first | refine wpList_load_mid rfl 27 _ rfl w.heap.size 0 rfl F _ Hra.out Try.underlying27 rfl hinf ?_ | refine wpList_store_mid rfl 27 _ _ rfl (w.heap.size + 1) 0 F.toArray rfl rfl ?h1 ?h2 hone ?_)
        case h1 => simpa using hth
        case h2 => simpa using hinf
        rw [← hw12]
        exact bodyPost_ret (results_cell_mid (P := Try.prog) rfl _ _ (w.heap.size + 1) F _ rfl hrs.out Try.underlying27 rfl hinf) rfl ⟨⟨K, L, 0, S, O, D⟩, by rw [← HV.out], HFit.out, HBe.out⟩
end Go.Proofs.Ytcpmapknmkholaa
end

section
namespace Go.Proofs.Ytcpmapknmkholaa
open Go.RowKit

set_option maxRecDepth 20000 in
set_option maxHeartbeats 4000000 in
theorem tameSuper_any (s l n : Int) (w : World) :
    Calls Try.prog 7 #[agg3 s l n] w fun e w' => ∃ S L N : Int, e = .returned (agg3 S L N) ∧ Geo S L N ∧ Below w.heap.size w w' := by
  obtain ⟨w0, hw0⟩ : ∃ w0, w0 = (w.alloc (.cells #[.int .i64 s, .int .i64 l, .int .i64 n] 31)).alloc (.cells #[.int .i64 0, .int .i64 0, .int .i64 0] 31) := ⟨_, rfl⟩
  have hB0 : Below w.heap.size w w0 := by rw [hw0]; exact below_two w _ _
  have hp : w0.heap[w.heap.size]? = some (.cells #[.int .i64 s, .int .i64 l, .int .i64 n] 31 (0, 0)) := by rw [hw0]; exact heap_alloc2_old _ _ _
  have hr : w0.heap[w.heap.size + 1]? = some (.cells #[.int .i64 0, .int .i64 0, .int .i64 0] 31 (0, 0)) := by rw [hw0]; exact heap_alloc2_new _ _ _
  have b0 := bring_any l 18 256 w0 (by omega) (by omega)
  have H0 := Hid.mk (And.intro hB0 (And.intro hp hr))
  clear hB0 hp hr
  go_enter Try.func7, Try.ntmps7
  go_wp2_with fail
  rw [← hw0]
  clear hw0
  refine b0.mono ?_
  rintro e wx ⟨⟨L, rfl, L1, L2⟩, hw⟩
  have hw' := hw.symm
  subst hw'
  clear hw b0
  obtain ⟨hB0, hp, hr⟩ := H0.out
  clear H0
  obtain ⟨w1, hw1⟩ : ∃ w1, w1 = w0.setCell ⟨w.heap.size, 1, none⟩ (.int .i64 L) := ⟨_, rfl⟩
  have hp1 : w1.heap[w.heap.size]? = some (.cells #[.int .i64 s, .int .i64 L, .int .i64 n] 31 (0, 0)) := by rw [hw1]; exact heap_setCell_same _ _ _ _ _ _ hp
  have hr1 : w1.heap[w.heap.size + 1]? = some (.cells #[.int .i64 0, .int .i64 0, .int .i64 0] 31 (0, 0)) := by rw [hw1]; exact (Below.heap_setCell _ _ _ _ (by simp)).trans hr
  have hB1 : Below w.heap.size w w1 := by rw [hw1]; exact below_put hB0 (Nat.le_refl _) hB0.size _
  have c1 := cell_of_block hp (j := 1) rfl
  have f1 := frozen_of_block hp 1
  have n1 := cell_of_block hp (j := 2) (u := .int .i64 n) rfl
  have b1 := bring_any n 1 256 w1 (by omega) (by omega)
  have H1 := Hid.mk (And.intro hB1 (And.intro hp1 hr1))
  clear hB0 hp hr hB1 hp1 hr1
  go_wp2_with fail
  rw [← hw1]
  clear hw1 c1 f1 n1
  refine b1.mono ?_
  rintro e wx ⟨⟨m, rfl, m1, m2⟩, hw⟩
  have hw' := hw.symm
  subst hw'
  clear hw b1
  obtain ⟨hB1, hp1, hr1⟩ := H1.out
  clear H1
  obtain ⟨w2, hw2⟩ : ∃ w2, w2 = w1.setCell ⟨w.heap.size, 2, none⟩ (.int .i64 (4 * m)) := ⟨_, rfl⟩
  have hp2 : w2.heap[w.heap.size]? = some (.cells #[.int .i64 s, .int .i64 L, .int .i64 (4 * m)] 31 (0, 0)) := by rw [hw2]; exact heap_setCell_same _ _ _ _ _ _ hp1
  have hr2 : w2.heap[w.heap.size + 1]? = some (.cells #[.int .i64 0, .int .i64 0, .int .i64 0] 31 (0, 0)) := by rw [hw2]; exact (Below.heap_setCell _ _ _ _ (by simp)).trans hr1
  have hB2 : Below w.heap.size w w2 := by rw [hw2]; exact below_put hB1 (Nat.le_refl _) hB1.size _
  have c2 := cell_of_block hp1 (j := 2) rfl
  have f2 := frozen_of_block hp1 2
  have n2 := cell_of_block hp1 (j := 0) (u := .int .i64 s) rfl
  have o2 := cell_of_block hp1 (j := 1) (u := .int .i64 L) rfl
  have b2 := bring_any s (L + m + 6).toNat 2048 w2 (by omega) (by omega)
  rw [show (((L + m + 6).toNat : Nat) : Int) = 3 + L + 2 + m + 1 by omega] at b2
  have H2 := Hid.mk (And.intro hB2 (And.intro hp2 hr2))
  have hm4 : (4 * m) / 4 = m := by omega
  have hm5 : (4 * m).tdiv 4 = m := by rw [Int.tdiv_eq_ediv_of_nonneg (by omega)]; exact hm4
  clear hB1 hp1 hr1 hB2 hp2 hr2
  go_wp2_with fail
  rw [← hw2]
  clear hw2 c2 f2 n2 o2
  refine b2.mono ?_
  rintro e wx ⟨⟨S, rfl, S1, S2⟩, hw⟩
  have hw' := hw.symm
  subst hw'
  clear hw b2 hm4 hm5
  obtain ⟨hB2, hp2, hr2⟩ := H2.out
  clear H2
  have HG : Hid (Geo S L (4 * m)) := ⟨⟨L1, L2⟩, ⟨by omega, by omega⟩, by omega, by omega, S2⟩
  have c0 := cell_of_block hp2 (j := 0) rfl
  have c1 := cell_of_block hp2 (j := 1) (u := .int .i64 L) rfl
  have c2 := cell_of_block hp2 (j := 2) (u := .int .i64 (4 * m)) rfl
  have f0 := frozen_of_block hp2 0
  have d0 := cell_of_block hr2 (j := 0) rfl
  have d1 := cell_of_block hr2 (j := 1) (u := .int .i64 0) rfl
  have d2 := cell_of_block hr2 (j := 2) (u := .int .i64 0) rfl
  have g0 := frozen_of_block hr2 0
  have g1 := frozen_of_block hr2 1
  have g2 := frozen_of_block hr2 2
  have hsz := (Array.getElem?_eq_some_iff.1 hr2).1
  have HB : Hid (Below w.heap.size w ((((w2.setCell ⟨w.heap.size, 0, none⟩ (.int .i64 S)).setCell ⟨w.heap.size + 1, 0, none⟩ (.int .i64 S)).setCell ⟨w.heap.size + 1, 1, none⟩ (.int .i64 L)).setCell ⟨w.heap.size + 1, 2, none⟩ (.int .i64 (4 * m)))) :=
    below_put (below_put (below_put (below_put hB2 (Nat.le_refl _) (by omega) _) (by omega) (by rw [size_setCell]; omega) _) (by omega) (by rw [size_setCell, size_setCell]; omega) _) (by omega) (by rw [size_setCell, size_setCell, size_setCell]; omega) _
  clear hB2 hp2 hr2
  go_wp2
  refine bodyPost_ret (v := agg3 S L (4 * m)) (by simp [results, Try.results7, go_sem, d0, d1, d2]) rfl ⟨S, L, 4 * m, rfl, HG.out, HB.out⟩
end Go.Proofs.Ytcpmapknmkholaa
end
