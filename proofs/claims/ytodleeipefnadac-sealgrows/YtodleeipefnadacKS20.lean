import Derived.Test.YtodleeipefnadacKS19
namespace Go.Proofs.Ytodleeipefnadac
open Go.RowKit

set_option maxRecDepth 20000 in
set_option maxHeartbeats 4000000 in
theorem sopen_no1 (a : Option Addr) (n c : Nat) (w : World) (hn : n ≠ 512) :
    Calls Try.prog 32 #[.slice a n c] w fun e w' => e = .returned (.tuple #[.slice none 0 0, .int .i64 2]) ∧ Below w.heap.size w w' := by
  have hz := zeroSec
  have hs := sectorOf_no a n c w hn
  have hinfo := infoSecZ
  have hone := zsec_one
  generalize zsec = Z at *
  have hall : Z.all Value.oneCell' = true := all_oneCell_toArray hone
  clear hone
  go_enter Try.func32, Try.ntmps32
  go_wp2_with fail
  refine hs.mono ?_
  rintro e w1 ⟨rfl, hb1⟩
  have hw1 : (w1.alloc (.cells Z 87)).heap[w1.heap.size]? = some (.cells Z 87 (0, 0)) := heap_alloc_new _ _
  have hth : (w1.alloc (.cells Z 87)).there w1.heap.size 0 Z.toList.length := there_of hw1 (by simp)
  have hB1 : Below w.heap.size w (w1.alloc (.cells Z 87)) := hb1.alloc hb1.size _
  have hsz := hb1.size
  have hB6 := Hid.mk (hB1.trans ((Keeps.setCells (F := fun j => j = w1.heap.size) rfl Z.toList 0 _).below (fun j hj => by omega) hB1.size))
  clear hs hw1 hB1 hb1
  go_wp2_with (refine wpList_store_mid rfl 87 _ _ rfl w1.heap.size 0 Z rfl rfl ?h1 ?h2 hall ?_)
  case h1 => simpa using hth
  case h2 => simpa using hinfo
  go_ret2
  exact ⟨rfl, hB6.out⟩

set_option maxRecDepth 20000 in
set_option maxHeartbeats 4000000 in
theorem sopen_all (b o c : Nat) (s : List Int) (w : World) (hs : Src w (some ⟨b, o, none⟩) 512 s) (hbs : Bytes s) :
    Calls Try.prog 32 #[.slice (some ⟨b, o, none⟩) 512 c] w fun e w' => ∃ v, e = .returned (.tuple #[v, .int .i64 (((sopens s).2 : Nat) : Int)]) ∧ Lst w' w.heap.size v (sopens s).1 ∧ Below w.heap.size w w' := by
  have hz := zeroSec
  have hs1 := sectorOf_ok b o c s w hs
  have hinfo := infoSecL (l := s) hs.1
  have hone := bs_one s
  have hll : (bs s).length = 512 := by rw [bs, List.length_map, hs.1]
  have hsl := hs.1
  have hall := all_oneCell_toArray hone
  obtain ⟨F, hF⟩ : ∃ F, F = bs s := ⟨_, rfl⟩
  rw [← hF] at hs1 hinfo hone hll hall
  have HF := Hid.mk hF
  clear hone hs hF
  go_enter Try.func32, Try.ntmps32
  go_wp2_with fail
  refine hs1.mono ?_
  rintro e w1 ⟨rfl, hb1⟩
  have hw1 : (w1.alloc (.cells zsec 87)).heap[w1.heap.size]? = some (.cells zsec 87 (0, 0)) := heap_alloc_new _ _
  have hth := there_of hw1 zsec_size
  rw [← hll] at hth
  have hB1 : Below w.heap.size w (w1.alloc (.cells zsec 87)) := hb1.alloc hb1.size _
  have hsz := hb1.size
  have hB2 := hB1.trans ((Keeps.setCells (F := fun j => j = w1.heap.size) rfl F 0 _).below (fun j hj => by omega) hB1.size)
  have hblk := blk_stored (l := s) hw1 (by rw [zsec_size, hsl])
  rw [← HF.out] at hblk
  obtain ⟨w2, hw2⟩ : ∃ w2, w2 = (w1.alloc (.cells zsec 87)).setCells w1.heap.size 0 F := ⟨_, rfl⟩
  rw [← hw2] at hblk hB2
  have hsrc : Src w2 (some ⟨w1.heap.size, 0, none⟩) 512 s := by
    have := hblk.src (o := 0) (n := 512) (by omega)
    rwa [List.drop_zero, List.take_of_length_le (by omega)] at this
  have HB2 := Hid.mk hB2
  have Hsrc := Hid.mk hsrc
  clear hs1 hw1 hB1 hb1 hblk hB2 hsrc
  go_wp2_with (refine wpList_store_mid rfl 87 _ _ rfl w1.heap.size 0 F.toArray rfl rfl ?h1 ?h2 hall ?_)
  case h1 => simpa using hth
  case h2 => simpa using hinfo
  rw [← hw2]
  clear hw2 hth hinfo hall
  by_cases hbad : 504 < slen s ∨ 2 < s.getD 0 0
  · have hno : sopens s = ([], 30) := sopens_none hsl (sopen_no (fun h => by omega))
    have Hno := Hid.mk hno
    refine (open_no w1.heap.size 0 s w2 Hsrc.out hbs hbad).mono ?_
    rintro e w' ⟨rfl, hw⟩
    have hw' := hw.symm
    subst hw'
    clear hw hno hbad
    go_wp2
    go_ret2
    exact ⟨_, by rw [Hno.out]; rfl, by rw [Hno.out]; exact Lst.nil _ _, HB2.out⟩
  · refine (open_yes w1.heap.size 0 s w2 Hsrc.out hbs (by omega) (by omega)).mono ?_
    rintro e w3 ⟨k, rfl, hk, hb3⟩
    have hB3 := HB2.out.trans (hb3.mono HB2.out.size)
    have hsb : Src w3 (some ⟨w1.heap.size, k, none⟩) (slen s) (sbody s) := by
      by_cases h0 : slen s = 0
      · exact ⟨sbody_len (by omega) hsl, (fun e => by cases e), fun x hx i hi => by omega⟩
      · rw [hk (by omega)]
        exact src_part (Hsrc.out.later hb3) (i := 7) (m := slen s) (by omega)
    have HB3 := Hid.mk hB3
    have hbl := sbody_len (s := s) (by omega) hsl
    have hlst : Lst w3 w.heap.size (.slice (some ⟨w1.heap.size, k, none⟩) (slen s) (slen s)) (sbody s) := ⟨some ⟨w1.heap.size, k, none⟩, slen s, by rw [hbl], by rw [hbl]; exact hsb, by omega, fun x hx => by cases hx; exact hsz⟩
    have Hlst := Hid.mk hlst
    clear hB3 hsb hlst hk hb3 hbl
    by_cases heq : sform (s.getD 0 0) (sbody s) = s
    · have hy : sopens s = (sbody s, 0) := sopens_some hsl (sopen_yes (by omega) (by omega) heq)
      have Hy := Hid.mk hy
      rw [decide_eq_true heq]
      clear heq hy
      go_wp2
      go_ret2
      exact ⟨_, by rw [Hy.out]; rfl, by rw [Hy.out]; exact Hlst.out, HB3.out⟩
    · have hy : sopens s = ([], 30) := sopens_none hsl (sopen_no (fun h => heq h.2.2))
      have Hy := Hid.mk hy
      rw [decide_eq_false heq]
      clear heq hy
      go_wp2
      go_ret2
      exact ⟨_, by rw [Hy.out]; rfl, by rw [Hy.out]; exact Lst.nil _ _, HB3.out⟩

theorem sopen_any (a : Option Addr) (n c : Nat) (s : List Int) (w : World) (hs : Src w a n s) (hb : Bytes s) :
    Calls Try.prog 32 #[.slice a n c] w fun e w' => ∃ v, e = .returned (.tuple #[v, .int .i64 (((sopens s).2 : Nat) : Int)]) ∧ Lst w' w.heap.size v (sopens s).1 ∧ Below w.heap.size w w' := by
  by_cases hn : n = 512
  · subst hn
    obtain ⟨b, o, rfl⟩ := src_spot hs (by omega)
    exact sopen_all b o c s w hs hb
  · refine (sopen_no1 a n c w hn).mono ?_
    rintro e w' ⟨rfl, hbel⟩
    rw [sopens_no1 (by rw [hs.1]; exact hn)]
    exact ⟨_, rfl, Lst.nil _ _, hbel⟩
theorem sopens_len (s : List Int) : (sopens s).1.length ≤ 512 := by
  unfold sopens
  split
  · simp
  · next h =>
    have hl : s.length = 512 := by omega
    cases h2 : sopen s with
    | none => simp
    | some b => have := sopen_len h2 hl; simp only; omega
theorem sseal_ok {old body : List Int} (h1 : old.length = 512) (h2 : body.length ≤ 504) : sseal old body = (sform (turnOf (old.getD 0 0) (old.getD 511 0)) body, 0) := by
  unfold sseal; rw [if_neg (by omega), if_neg (by omega)]
theorem Own.full {w : World} {B : Nat} {v : Value} {l : List Int} (h : Own w B v l) (h0 : 0 < l.length) : ∃ g c, v = .slice (some ⟨g, 0, none⟩) l.length c ∧ B ≤ g ∧ RowAt w 5 g c (bs l) := h.row' h0
theorem RowAt.setByte {w : World} {g c : Nat} {l : List Int} (h : RowAt w 5 g c (bs l)) (i : Nat) (x : Int) : RowAt (w.setCell ⟨g, i, none⟩ (.int .u8 x)) 5 g c (bs (l.set i x)) := by
  obtain ⟨cur, hb, hc, ht, hm⟩ := h
  refine ⟨cur.setIfInBounds i (.int .u8 x), heap_setCell_same _ _ _ _ _ _ hb, by simpa using hc, ?_, hm⟩
  have e : (bs (l.set i x)).length = (bs l).length := by simp [bs]
  rw [e, Array.toList_setIfInBounds, List.take_set, ht, bs, bs, List.map_set]
theorem RowAt.spare {w : World} {e : TypeId} {g c : Nat} {l : List Int} (h : RowAt w e g c (bs l)) : l.length ≤ c := by have := h.le; simpa [bs] using this

theorem setByte_bytes {l : List Int} (h : Bytes l) (i : Nat) (x : Int) (hx : 0 ≤ x ∧ x < 256) : Bytes (l.set i x) := by
  intro y hy
  rcases List.mem_or_eq_of_mem_set hy with h1 | h1
  · exact h y h1
  · subst h1; exact hx

end Go.Proofs.Ytodleeipefnadac
