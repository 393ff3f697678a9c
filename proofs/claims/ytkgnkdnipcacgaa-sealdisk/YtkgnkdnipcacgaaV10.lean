import Derived.Test.YtkgnkdnipcacgaaV09
section
namespace Go.Proofs.Ytkgnkdnipcacgaa
open Go.RowKit

set_option maxRecDepth 20000 in
set_option maxHeartbeats 2000000 in
theorem other_any (s n : Nat) (v : Value) (w : World) (hs : s ≤ 1) :
    Calls Try.prog 99 #[.agg #[.int .i64 (s : Int), .int .i64 (n : Int), v]] w fun e w' => e = .returned (.int .i64 ((if n = 0 then 0 else 1 - s : Nat) : Int)) ∧ Below w.heap.size w w' := by
  have HB := Hid.mk ((Below.refl w.heap.size w).alloc (Nat.le_refl _) (.cells #[.int .i64 (s : Int), .int .i64 (n : Int), v] 129))
  by_cases h : n = 0
  · subst h
    go_enter Try.func99, Try.ntmps99
    go_wp2
    go_ret
    exact ⟨rfl, HB.out⟩
  · have h' : ((n : Int) == 0) = false := by rw [beq_eq_false_iff_ne]; omega
    have e : ((if n = 0 then 0 else 1 - s : Nat) : Int) = 1 - (s : Int) := by rw [if_neg h]; omega
    rw [e]
    clear h
    go_enter Try.func99, Try.ntmps99
    go_wp2
    go_ret
    exact ⟨rfl, HB.out⟩
end Go.Proofs.Ytkgnkdnipcacgaa
end

section
namespace Go.Proofs.Ytkgnkdnipcacgaa
open Go.RowKit

set_option maxRecDepth 20000 in
set_option maxHeartbeats 4000000 in
theorem renew_no1 (a : Option Addr) (n c : Nat) (l : List Int) (a2 : Option Addr) (m d : Nat) (r : List Int) (a3 : Option Addr) (q e3 : Nat) (num : Int) (w : World) (hs : Src w a n l) (hs2 : Src w a2 m r) (hno : ¬ (n = 512 ∧ m = 512)) :
    Calls Try.prog 91 #[.slice a n c, .slice a2 m d, .int .i64 num, .slice a3 q e3] w fun e w' => e = .returned (.tuple #[.int .i64 0, .slice none 0 0, .int .i64 2]) ∧ Below w.heap.size w w' := by
  have hwh : (decide (n = 512) && decide (m = 512)) = false := by rw [← Bool.decide_and, decide_eq_false hno]
  clear hno
  have hz := zeroPair
  have h1 := pairOf_any a n c l a2 m d r w hs hs2
  have hln := hs.1
  have hrn := hs2.1
  have hinfo := infoPairL (secOf_len l) (secOf_len r)
  have hone := bs_one (secOf l ++ secOf r)
  have hall := all_oneCell_toArray hone
  have hFl : (bs (secOf l ++ secOf r)).length = 1024 := by rw [bs, List.length_map, List.length_append, secOf_len, secOf_len]
  obtain ⟨F, hF⟩ : ∃ F, F = bs (secOf l ++ secOf r) := ⟨_, rfl⟩
  rw [← hF] at h1 hinfo hall hFl
  have HF := Hid.mk hF
  clear hone hF hs hs2
  go_enter Try.func91, Try.ntmps91
  go_wp2_with fail
  refine h1.mono ?_
  rintro e w1 ⟨rfl, hb1⟩
  have hw1 : (w1.alloc (.cells zpair 125)).heap[w1.heap.size]? = some (.cells zpair 125 (0, 0)) := heap_alloc_new _ _
  have hth := there_of hw1 zpair_size
  rw [← hFl] at hth
  have hB1 : Below w.heap.size w (w1.alloc (.cells zpair 125)) := hb1.alloc hb1.size _
  have hsz := hb1.size
  have hB2 := hB1.trans ((Keeps.setCells (F := fun j => j = w1.heap.size) rfl F 0 _).below (fun j hj => by omega) hB1.size)
  have hblk := blk_stored (l := secOf l ++ secOf r) hw1 (by rw [zpair_size, List.length_append, secOf_len, secOf_len])
  rw [← HF.out] at hblk
  obtain ⟨w2, hw2⟩ : ∃ w2, w2 = (w1.alloc (.cells zpair 125)).setCells w1.heap.size 0 F := ⟨_, rfl⟩
  rw [← hw2] at hB2 hblk
  have HB2 := Hid.mk hB2
  have Hblk := Hid.mk hblk
  have HW2 := Hid.mk hw2
  clear h1 hw1 hB1 hb1 hB2 hblk hw2
  rw [hwh]
  go_wp2_with (refine wpList_store_mid rfl 125 _ _ rfl w1.heap.size 0 F.toArray rfl rfl ?h1 ?h2 hall ?_)
  case h1 => simpa using hth
  case h2 => simpa using hinfo
  rw [← HW2.out]
  go_ret3
  exact ⟨rfl, HB2.out⟩

set_option maxRecDepth 20000 in
set_option maxHeartbeats 4000000 in
theorem renew_no2 (a : Option Addr) (n c : Nat) (l : List Int) (a2 : Option Addr) (m d : Nat) (r : List Int) (a3 : Option Addr) (q e3 : Nat) (num : Int) (w : World) (hs : Src w a n l) (hs2 : Src w a2 m r) (hyes : n = 512 ∧ m = 512) (h1n : num < 1) :
    Calls Try.prog 91 #[.slice a n c, .slice a2 m d, .int .i64 num, .slice a3 q e3] w fun e w' => e = .returned (.tuple #[.int .i64 0, .slice none 0 0, .int .i64 1]) ∧ Below w.heap.size w w' := by
  have hwh : (decide (n = 512) && decide (m = 512)) = true := by rw [← Bool.decide_and, decide_eq_true hyes]
  clear hyes
  have hz := zeroPair
  have h1 := pairOf_any a n c l a2 m d r w hs hs2
  have hln := hs.1
  have hrn := hs2.1
  have hinfo := infoPairL (secOf_len l) (secOf_len r)
  have hone := bs_one (secOf l ++ secOf r)
  have hall := all_oneCell_toArray hone
  have hFl : (bs (secOf l ++ secOf r)).length = 1024 := by rw [bs, List.length_map, List.length_append, secOf_len, secOf_len]
  obtain ⟨F, hF⟩ : ∃ F, F = bs (secOf l ++ secOf r) := ⟨_, rfl⟩
  rw [← hF] at h1 hinfo hall hFl
  have HF := Hid.mk hF
  clear hone hF hs hs2
  go_enter Try.func91, Try.ntmps91
  go_wp2_with fail
  refine h1.mono ?_
  rintro e w1 ⟨rfl, hb1⟩
  have hw1 : (w1.alloc (.cells zpair 125)).heap[w1.heap.size]? = some (.cells zpair 125 (0, 0)) := heap_alloc_new _ _
  have hth := there_of hw1 zpair_size
  rw [← hFl] at hth
  have hB1 : Below w.heap.size w (w1.alloc (.cells zpair 125)) := hb1.alloc hb1.size _
  have hsz := hb1.size
  have hB2 := hB1.trans ((Keeps.setCells (F := fun j => j = w1.heap.size) rfl F 0 _).below (fun j hj => by omega) hB1.size)
  have hblk := blk_stored (l := secOf l ++ secOf r) hw1 (by rw [zpair_size, List.length_append, secOf_len, secOf_len])
  rw [← HF.out] at hblk
  obtain ⟨w2, hw2⟩ : ∃ w2, w2 = (w1.alloc (.cells zpair 125)).setCells w1.heap.size 0 F := ⟨_, rfl⟩
  rw [← hw2] at hB2 hblk
  have HB2 := Hid.mk hB2
  have Hblk := Hid.mk hblk
  have HW2 := Hid.mk hw2
  clear h1 hw1 hB1 hb1 hB2 hblk hw2
  rw [hwh]
  go_wp2_with (refine wpList_store_mid rfl 125 _ _ rfl w1.heap.size 0 F.toArray rfl rfl ?h1 ?h2 hall ?_)
  case h1 => simpa using hth
  case h2 => simpa using hinfo
  rw [← HW2.out]
  go_ret3
  exact ⟨rfl, HB2.out⟩

set_option maxRecDepth 20000 in
set_option maxHeartbeats 4000000 in
theorem renew_no3 (a : Option Addr) (n c : Nat) (l : List Int) (a2 : Option Addr) (m d : Nat) (r : List Int) (a3 : Option Addr) (q e3 : Nat) (num : Int) (w : World) (hs : Src w a n l) (hs2 : Src w a2 m r) (hyes : n = 512 ∧ m = 512) (h1n : ¬ num < 1) (h2n : 496 < q) :
    Calls Try.prog 91 #[.slice a n c, .slice a2 m d, .int .i64 num, .slice a3 q e3] w fun e w' => e = .returned (.tuple #[.int .i64 0, .slice none 0 0, .int .i64 7]) ∧ Below w.heap.size w w' := by
  have hwh : (decide (n = 512) && decide (m = 512)) = true := by rw [← Bool.decide_and, decide_eq_true hyes]
  have h2n' : 496 < (q : Int) := by omega
  clear hyes
  have hz := zeroPair
  have h1 := pairOf_any a n c l a2 m d r w hs hs2
  have hln := hs.1
  have hrn := hs2.1
  have hinfo := infoPairL (secOf_len l) (secOf_len r)
  have hone := bs_one (secOf l ++ secOf r)
  have hall := all_oneCell_toArray hone
  have hFl : (bs (secOf l ++ secOf r)).length = 1024 := by rw [bs, List.length_map, List.length_append, secOf_len, secOf_len]
  obtain ⟨F, hF⟩ : ∃ F, F = bs (secOf l ++ secOf r) := ⟨_, rfl⟩
  rw [← hF] at h1 hinfo hall hFl
  have HF := Hid.mk hF
  clear hone hF hs hs2
  go_enter Try.func91, Try.ntmps91
  go_wp2_with fail
  refine h1.mono ?_
  rintro e w1 ⟨rfl, hb1⟩
  have hw1 : (w1.alloc (.cells zpair 125)).heap[w1.heap.size]? = some (.cells zpair 125 (0, 0)) := heap_alloc_new _ _
  have hth := there_of hw1 zpair_size
  rw [← hFl] at hth
  have hB1 : Below w.heap.size w (w1.alloc (.cells zpair 125)) := hb1.alloc hb1.size _
  have hsz := hb1.size
  have hB2 := hB1.trans ((Keeps.setCells (F := fun j => j = w1.heap.size) rfl F 0 _).below (fun j hj => by omega) hB1.size)
  have hblk := blk_stored (l := secOf l ++ secOf r) hw1 (by rw [zpair_size, List.length_append, secOf_len, secOf_len])
  rw [← HF.out] at hblk
  obtain ⟨w2, hw2⟩ : ∃ w2, w2 = (w1.alloc (.cells zpair 125)).setCells w1.heap.size 0 F := ⟨_, rfl⟩
  rw [← hw2] at hB2 hblk
  have HB2 := Hid.mk hB2
  have Hblk := Hid.mk hblk
  have HW2 := Hid.mk hw2
  clear h1 hw1 hB1 hb1 hB2 hblk hw2
  rw [hwh]
  go_wp2_with (refine wpList_store_mid rfl 125 _ _ rfl w1.heap.size 0 F.toArray rfl rfl ?h1 ?h2 hall ?_)
  case h1 => simpa using hth
  case h2 => simpa using hinfo
  rw [← HW2.out]
  go_ret3
  exact ⟨rfl, HB2.out⟩

set_option maxRecDepth 20000 in
set_option maxHeartbeats 4000000 in
theorem renew_no4 (a : Option Addr) (n c : Nat) (l : List Int) (a2 : Option Addr) (m d : Nat) (r : List Int) (a3 : Option Addr) (q e3 : Nat) (num : Int) (w : World) (hs : Src w a n l) (hs2 : Src w a2 m r) (hl : Bytes l) (hr : Bytes r) (hyes : n = 512 ∧ m = 512) (h1n : ¬ num < 1) (h2n : q ≤ 496) (h3n : num ≤ (((snewest l r).2.1 : Nat) : Int)) :
    Calls Try.prog 91 #[.slice a n c, .slice a2 m d, .int .i64 num, .slice a3 q e3] w fun e w' => e = .returned (.tuple #[.int .i64 0, .slice none 0 0, .int .i64 31]) ∧ Below w.heap.size w w' := by
  obtain ⟨hn5, hm5⟩ := hyes
  subst hn5
  subst hm5
  have hwh : (decide (512 = 512) && decide (512 = 512)) = true := rfl
  have H3n := Hid.mk h3n
  clear h3n
  have h2n' : ¬ 496 < (q : Int) := by omega
  have hz := zeroPair
  have h1 := pairOf_any a 512 c l a2 512 d r w hs hs2
  have hln := hs.1
  have hrn := hs2.1
  have hinfo := infoPairL (secOf_len l) (secOf_len r)
  have hone := bs_one (secOf l ++ secOf r)
  have hall := all_oneCell_toArray hone
  have hFl : (bs (secOf l ++ secOf r)).length = 1024 := by rw [bs, List.length_map, List.length_append, secOf_len, secOf_len]
  obtain ⟨F, hF⟩ : ∃ F, F = bs (secOf l ++ secOf r) := ⟨_, rfl⟩
  rw [← hF] at h1 hinfo hall hFl
  have HF := Hid.mk hF
  clear hone hF hs hs2
  go_enter Try.func91, Try.ntmps91
  go_wp2_with fail
  refine h1.mono ?_
  rintro e w1 ⟨rfl, hb1⟩
  have hw1 : (w1.alloc (.cells zpair 125)).heap[w1.heap.size]? = some (.cells zpair 125 (0, 0)) := heap_alloc_new _ _
  have hth := there_of hw1 zpair_size
  rw [← hFl] at hth
  have hB1 : Below w.heap.size w (w1.alloc (.cells zpair 125)) := hb1.alloc hb1.size _
  have hsz := hb1.size
  have hB2 := hB1.trans ((Keeps.setCells (F := fun j => j = w1.heap.size) rfl F 0 _).below (fun j hj => by omega) hB1.size)
  have hblk := blk_stored (l := secOf l ++ secOf r) hw1 (by rw [zpair_size, List.length_append, secOf_len, secOf_len])
  rw [← HF.out] at hblk
  obtain ⟨w2, hw2⟩ : ∃ w2, w2 = (w1.alloc (.cells zpair 125)).setCells w1.heap.size 0 F := ⟨_, rfl⟩
  rw [← hw2] at hB2 hblk
  have HB2 := Hid.mk hB2
  have Hblk := Hid.mk hblk
  have HW2 := Hid.mk hw2
  clear h1 hw1 hB1 hb1 hB2 hblk hw2
  rw [hwh]
  have el := secOf_self hln
  have er := secOf_self hrn
  rw [el, er] at Hblk
  obtain ⟨s1, s2⟩ := pair_srcs Hblk.out hln hrn
  have k1 := newest_any w1.heap.size l r w2 s1 s2 hl hr
  have HS1 := Hid.mk s1
  have HS2 := Hid.mk s2
  clear el er s1 s2 Hblk
  go_wp2_with (refine wpList_store_mid rfl 125 _ _ rfl w1.heap.size 0 F.toArray rfl rfl ?h1 ?h2 hall ?_)
  case h1 => simpa using hth
  case h2 => simpa using hinfo
  rw [← HW2.out]
  refine k1.mono ?_
  rintro e w3 ⟨v, rfl, hlst, hb3⟩
  obtain ⟨va, vc, hv, hq⟩ := hlst
  subst hv
  have HB3 := Hid.mk ((HB2.out.trans (hb3.mono HB2.out.size)).alloc (Nat.le_trans HB2.out.size hb3.size) (.cells #[.int .i64 (((snewest l r).1 : Nat) : Int), .int .i64 (((snewest l r).2.1 : Nat) : Int), .slice va (snewest l r).2.2.1.length vc] 129))
  clear k1 hq hb3 HW2 hth hinfo hall HB2
  have h3n := H3n.out
  clear H3n
  generalize (snewest l r).1 = A at *
  generalize (snewest l r).2.1 = B at *
  generalize (snewest l r).2.2.1.length = D at *
  go_wp2
  go_ret3
  exact ⟨rfl, HB3.out⟩

set_option maxRecDepth 20000 in
set_option maxHeartbeats 4000000 in
theorem renew_ok0 (a : Option Addr) (n c : Nat) (l : List Int) (a2 : Option Addr) (m d : Nat) (r : List Int) (a3 : Option Addr) (q e3 : Nat) (dt : List Int) (num : Int) (w : World) (hs : Src w a n l) (hs2 : Src w a2 m r) (hl : Bytes l) (hr : Bytes r) (hyes : n = 512 ∧ m = 512) (N : Nat) (hnum : num = (N : Int)) (hN1 : 1 ≤ N) (hNm : N < 9223372036854775808) (hs3 : Src w a3 q dt) (hdt : Bytes dt) (h2n : q ≤ 496) (hca : a3 = none → e3 = 0) (h3n : (snewest l r).2.1 < N) (hA : (snewest l r).1 ≤ 1) (hslot : (if (snewest l r).2.1 = 0 then 0 else 1 - (snewest l r).1) = 0) :
    Calls Try.prog 91 #[.slice a n c, .slice a2 m d, .int .i64 num, .slice a3 q e3] w fun e w' => ∃ g, e = .returned (.tuple #[.int .i64 0, .slice (some ⟨g, 0, none⟩) 512 512, .int .i64 0]) ∧ Blk w' 119 g (sform (turnOf (l.getD 0 0) (l.getD 511 0)) (bytes8 N ++ dt)) ∧ w.heap.size ≤ g ∧ Below w.heap.size w w' := by
  subst hnum
  obtain ⟨hn5, hm5⟩ := hyes
  subst hn5
  subst hm5
  have hwh : (decide (512 = 512) && decide (512 = 512)) = true := rfl
  have H3n := Hid.mk h3n
  have HA := Hid.mk hA
  have Hslot := Hid.mk hslot
  clear h3n hA hslot
  have h2n' : ¬ 496 < (q : Int) := by omega
  have h1n : ¬ (N : Int) < 1 := by omega
  have H3 := Hid.mk hs3
  have hdl := hs3.1
  have hz2 := zeroSec
  have hz := zeroPair
  have h1 := pairOf_any a 512 c l a2 512 d r w hs hs2
  have hln := hs.1
  have hrn := hs2.1
  have hinfo := infoPairL (secOf_len l) (secOf_len r)
  have hone := bs_one (secOf l ++ secOf r)
  have hall := all_oneCell_toArray hone
  have hFl : (bs (secOf l ++ secOf r)).length = 1024 := by rw [bs, List.length_map, List.length_append, secOf_len, secOf_len]
  obtain ⟨F, hF⟩ : ∃ F, F = bs (secOf l ++ secOf r) := ⟨_, rfl⟩
  rw [← hF] at h1 hinfo hall hFl
  have HF := Hid.mk hF
  clear hone hF hs hs2 hs3
  go_enter Try.func91, Try.ntmps91
  go_wp2_with fail
  refine h1.mono ?_
  rintro e w1 ⟨rfl, hb1⟩
  have hw1 : (w1.alloc (.cells zpair 125)).heap[w1.heap.size]? = some (.cells zpair 125 (0, 0)) := heap_alloc_new _ _
  have hth := there_of hw1 zpair_size
  rw [← hFl] at hth
  have hB1 : Below w.heap.size w (w1.alloc (.cells zpair 125)) := hb1.alloc hb1.size _
  have hsz := hb1.size
  have hB2 := hB1.trans ((Keeps.setCells (F := fun j => j = w1.heap.size) rfl F 0 _).below (fun j hj => by omega) hB1.size)
  have hblk := blk_stored (l := secOf l ++ secOf r) hw1 (by rw [zpair_size, List.length_append, secOf_len, secOf_len])
  rw [← HF.out] at hblk
  obtain ⟨w2, hw2⟩ : ∃ w2, w2 = (w1.alloc (.cells zpair 125)).setCells w1.heap.size 0 F := ⟨_, rfl⟩
  rw [← hw2] at hB2 hblk
  have HB2 := Hid.mk hB2
  have Hblk := Hid.mk hblk
  have HW2 := Hid.mk hw2
  clear h1 hw1 hB1 hb1 hB2 hblk hw2
  rw [hwh]
  have el := secOf_self hln
  have er := secOf_self hrn
  rw [el, er] at Hblk
  obtain ⟨s1, s2⟩ := pair_srcs Hblk.out hln hrn
  have k1 := newest_any w1.heap.size l r w2 s1 s2 hl hr
  have HS1 := Hid.mk s1
  have HS2 := Hid.mk s2
  clear el er s1 s2 Hblk
  go_wp2_with (refine wpList_store_mid rfl 125 _ _ rfl w1.heap.size 0 F.toArray rfl rfl ?h1 ?h2 hall ?_)
  case h1 => simpa using hth
  case h2 => simpa using hinfo
  rw [← HW2.out]
  refine k1.mono ?_
  rintro e w3 ⟨v, rfl, hlst, hb3⟩
  obtain ⟨va, vc, hv, hq⟩ := hlst
  subst hv
  have hB3 := HB2.out.trans (hb3.mono HB2.out.size)
  have hw3 : (w3.alloc (.cells #[.int .i64 (((snewest l r).1 : Nat) : Int), .int .i64 (((snewest l r).2.1 : Nat) : Int), .slice va (snewest l r).2.2.1.length vc] 129)).heap[w3.heap.size]? = some (.cells #[.int .i64 (((snewest l r).1 : Nat) : Int), .int .i64 (((snewest l r).2.1 : Nat) : Int), .slice va (snewest l r).2.2.1.length vc] 129 (0, 0)) := heap_alloc_new _ _
  have hb4 : Below w3.heap.size w3 (w3.alloc (.cells #[.int .i64 (((snewest l r).1 : Nat) : Int), .int .i64 (((snewest l r).2.1 : Nat) : Int), .slice va (snewest l r).2.2.1.length vc] 129)) := (Below.refl _ w3).alloc (Nat.le_refl _) _
  have HB4 := Hid.mk (hB3.trans (hb4.mono hB3.size))
  have HX := Hid.mk ((HS1.out.later hb3).later hb4)
  have ho := Hid.mk (fun w' => other_any (snewest l r).1 (snewest l r).2.1 (.slice va (snewest l r).2.2.1.length vc) w' HA.out)
  rw [Hslot.out] at ho
  have h3n' : ¬ (N : Int) ≤ (((snewest l r).2.1 : Nat) : Int) := by have := H3n.out; omega
  clear H3n HA Hslot
  clear k1 hq hb3 HW2 hth hinfo hall HB2 hB3 hw3 hb4 HS1 HS2
  generalize (snewest l r).1 = A at *
  generalize (snewest l r).2.1 = B at *
  generalize (snewest l r).2.2.1.length = D at *
  go_wp2_with fail
  refine (ho.out _).mono ?_
  rintro e w5 ⟨rfl, hb5⟩
  have HB5 := Hid.mk (HB4.out.trans (hb5.mono HB4.out.size))
  have HX5 := Hid.mk (HX.out.later hb5)
  have c0 := HX5.out.2.2 _ rfl 0 (by omega)
  have c1 := HX5.out.2.2 _ rfl 511 (by omega)
  rw [addr_add] at c0 c1
  have k2 := nextTurn_any w1.heap.size 0 (l.getD 0 0) (l.getD 511 0) w5 c0 c1
  have k3 := anchorBody_any N a3 q e3 dt w5 hNm (H3.out.later HB5.out) h2n hca
  have ht := turnOf_le (l.getD 0 0) (l.getD 511 0)
  obtain ⟨t, hteq⟩ : ∃ t, t = turnOf (l.getD 0 0) (l.getD 511 0) := ⟨_, rfl⟩
  rw [← hteq] at ht k2
  have Hteq := Hid.mk hteq
  clear ho hb5 HB4 HX c0 c1 hteq
  go_wp2_with fail
  refine k2.mono ?_
  rintro e w' ⟨rfl, hw⟩
  have hw' := hw.symm
  subst hw'
  clear hw k2
  go_wp2_with fail
  refine k3.mono ?_
  rintro e w6 ⟨v6, rfl, ho6, hb6⟩
  obtain ⟨p6, c6, rfl, hs6, _, _⟩ := ho6.src
  have hbl : (bytes8 N ++ dt).length = 8 + q := by rw [List.length_append, bytes8_len, hdl]
  rw [hbl] at hs6 ⊢
  have HB6 := Hid.mk (HB5.out.trans (hb6.mono HB5.out.size))
  have k4 := sealed_any t p6 (8 + q) c6 (bytes8 N ++ dt) w6 (by omega) hs6 (by omega) ((bytes8_bytes N).append hdt)
  have hfl : (sform t (bytes8 N ++ dt)).length = 512 := sform_len (by omega)
  have hinfoS := infoSecL (l := sform t (bytes8 N ++ dt)) hfl
  have hallS := all_oneCell_toArray (bs_one (sform t (bytes8 N ++ dt)))
  have hll2 : (bs (sform t (bytes8 N ++ dt))).length = 512 := by rw [bs, List.length_map, hfl]
  obtain ⟨G, hG⟩ : ∃ G, G = bs (sform t (bytes8 N ++ dt)) := ⟨_, rfl⟩
  rw [← hG] at k4 hinfoS hallS hll2
  have HG := Hid.mk hG
  clear k3 ho6 hb6 hs6 HB5 hG
  generalize 8 + q = Q8 at *
  go_wp2_with fail
  refine k4.mono ?_
  rintro e w7 ⟨rfl, hb7⟩
  have hB7 : Below w.heap.size w w7 := HB6.out.trans (hb7.mono HB6.out.size)
  have hw7 : (w7.alloc (.cells zsec 119)).heap[w7.heap.size]? = some (.cells zsec 119 (0, 0)) := heap_alloc_new _ _
  have hth := there_of hw7 zsec_size
  rw [← hll2] at hth
  have hblk := blk_stored (l := sform t (bytes8 N ++ dt)) hw7 (by rw [zsec_size, hfl])
  rw [← HG.out] at hblk
  have hsz7 := hB7.size
  have hB8 : Below w.heap.size w (w7.alloc (.cells zsec 119)) := hB7.alloc hB7.size _
  have hB9 := hB8.trans ((Keeps.setCells (F := fun j => j = w7.heap.size) rfl G 0 _).below (fun j hj => by omega) hB8.size)
  rw [Hteq.out] at hblk
  have HH := Hid.mk (fun j => And.intro (hblk.keep (w' := ((w7.alloc (.cells zsec 119)).setCells w7.heap.size 0 G).drewN j) rfl) (And.intro hB7.size (below_drewN hB9 j)))
  clear k4 hb7 hB7 hw7 hblk hB8 hB9 HB6
  go_wp2_with (refine wpList_store_mid rfl 119 _ _ rfl w7.heap.size 0 G.toArray rfl rfl ?h1 ?h2 hallS ?_)
  case h1 => simpa using hth
  case h2 => simpa using hinfoS
  go_quiet (fail)
  go_wp2
  go_ret3
  exact ⟨w7.heap.size, rfl, HH.out _⟩

set_option maxRecDepth 20000 in
set_option maxHeartbeats 4000000 in
theorem renew_ok1 (a : Option Addr) (n c : Nat) (l : List Int) (a2 : Option Addr) (m d : Nat) (r : List Int) (a3 : Option Addr) (q e3 : Nat) (dt : List Int) (num : Int) (w : World) (hs : Src w a n l) (hs2 : Src w a2 m r) (hl : Bytes l) (hr : Bytes r) (hyes : n = 512 ∧ m = 512) (N : Nat) (hnum : num = (N : Int)) (hN1 : 1 ≤ N) (hNm : N < 9223372036854775808) (hs3 : Src w a3 q dt) (hdt : Bytes dt) (h2n : q ≤ 496) (hca : a3 = none → e3 = 0) (h3n : (snewest l r).2.1 < N) (hA : (snewest l r).1 ≤ 1) (hslot : (if (snewest l r).2.1 = 0 then 0 else 1 - (snewest l r).1) = 1) :
    Calls Try.prog 91 #[.slice a n c, .slice a2 m d, .int .i64 num, .slice a3 q e3] w fun e w' => ∃ g, e = .returned (.tuple #[.int .i64 1, .slice (some ⟨g, 0, none⟩) 512 512, .int .i64 0]) ∧ Blk w' 119 g (sform (turnOf (r.getD 0 0) (r.getD 511 0)) (bytes8 N ++ dt)) ∧ w.heap.size ≤ g ∧ Below w.heap.size w w' := by
  subst hnum
  obtain ⟨hn5, hm5⟩ := hyes
  subst hn5
  subst hm5
  have hwh : (decide (512 = 512) && decide (512 = 512)) = true := rfl
  have H3n := Hid.mk h3n
  have HA := Hid.mk hA
  have Hslot := Hid.mk hslot
  clear h3n hA hslot
  have h2n' : ¬ 496 < (q : Int) := by omega
  have h1n : ¬ (N : Int) < 1 := by omega
  have H3 := Hid.mk hs3
  have hdl := hs3.1
  have hz2 := zeroSec
  have hz := zeroPair
  have h1 := pairOf_any a 512 c l a2 512 d r w hs hs2
  have hln := hs.1
  have hrn := hs2.1
  have hinfo := infoPairL (secOf_len l) (secOf_len r)
  have hone := bs_one (secOf l ++ secOf r)
  have hall := all_oneCell_toArray hone
  have hFl : (bs (secOf l ++ secOf r)).length = 1024 := by rw [bs, List.length_map, List.length_append, secOf_len, secOf_len]
  obtain ⟨F, hF⟩ : ∃ F, F = bs (secOf l ++ secOf r) := ⟨_, rfl⟩
  rw [← hF] at h1 hinfo hall hFl
  have HF := Hid.mk hF
  clear hone hF hs hs2 hs3
  go_enter Try.func91, Try.ntmps91
  go_wp2_with fail
  refine h1.mono ?_
  rintro e w1 ⟨rfl, hb1⟩
  have hw1 : (w1.alloc (.cells zpair 125)).heap[w1.heap.size]? = some (.cells zpair 125 (0, 0)) := heap_alloc_new _ _
  have hth := there_of hw1 zpair_size
  rw [← hFl] at hth
  have hB1 : Below w.heap.size w (w1.alloc (.cells zpair 125)) := hb1.alloc hb1.size _
  have hsz := hb1.size
  have hB2 := hB1.trans ((Keeps.setCells (F := fun j => j = w1.heap.size) rfl F 0 _).below (fun j hj => by omega) hB1.size)
  have hblk := blk_stored (l := secOf l ++ secOf r) hw1 (by rw [zpair_size, List.length_append, secOf_len, secOf_len])
  rw [← HF.out] at hblk
  obtain ⟨w2, hw2⟩ : ∃ w2, w2 = (w1.alloc (.cells zpair 125)).setCells w1.heap.size 0 F := ⟨_, rfl⟩
  rw [← hw2] at hB2 hblk
  have HB2 := Hid.mk hB2
  have Hblk := Hid.mk hblk
  have HW2 := Hid.mk hw2
  clear h1 hw1 hB1 hb1 hB2 hblk hw2
  rw [hwh]
  have el := secOf_self hln
  have er := secOf_self hrn
  rw [el, er] at Hblk
  obtain ⟨s1, s2⟩ := pair_srcs Hblk.out hln hrn
  have k1 := newest_any w1.heap.size l r w2 s1 s2 hl hr
  have HS1 := Hid.mk s1
  have HS2 := Hid.mk s2
  clear el er s1 s2 Hblk
  go_wp2_with (refine wpList_store_mid rfl 125 _ _ rfl w1.heap.size 0 F.toArray rfl rfl ?h1 ?h2 hall ?_)
  case h1 => simpa using hth
  case h2 => simpa using hinfo
  rw [← HW2.out]
  refine k1.mono ?_
  rintro e w3 ⟨v, rfl, hlst, hb3⟩
  obtain ⟨va, vc, hv, hq⟩ := hlst
  subst hv
  have hB3 := HB2.out.trans (hb3.mono HB2.out.size)
  have hw3 : (w3.alloc (.cells #[.int .i64 (((snewest l r).1 : Nat) : Int), .int .i64 (((snewest l r).2.1 : Nat) : Int), .slice va (snewest l r).2.2.1.length vc] 129)).heap[w3.heap.size]? = some (.cells #[.int .i64 (((snewest l r).1 : Nat) : Int), .int .i64 (((snewest l r).2.1 : Nat) : Int), .slice va (snewest l r).2.2.1.length vc] 129 (0, 0)) := heap_alloc_new _ _
  have hb4 : Below w3.heap.size w3 (w3.alloc (.cells #[.int .i64 (((snewest l r).1 : Nat) : Int), .int .i64 (((snewest l r).2.1 : Nat) : Int), .slice va (snewest l r).2.2.1.length vc] 129)) := (Below.refl _ w3).alloc (Nat.le_refl _) _
  have HB4 := Hid.mk (hB3.trans (hb4.mono hB3.size))
  have HX := Hid.mk ((HS2.out.later hb3).later hb4)
  have ho := Hid.mk (fun w' => other_any (snewest l r).1 (snewest l r).2.1 (.slice va (snewest l r).2.2.1.length vc) w' HA.out)
  rw [Hslot.out] at ho
  have h3n' : ¬ (N : Int) ≤ (((snewest l r).2.1 : Nat) : Int) := by have := H3n.out; omega
  clear H3n HA Hslot
  clear k1 hq hb3 HW2 hth hinfo hall HB2 hB3 hw3 hb4 HS1 HS2
  generalize (snewest l r).1 = A at *
  generalize (snewest l r).2.1 = B at *
  generalize (snewest l r).2.2.1.length = D at *
  go_wp2_with fail
  refine (ho.out _).mono ?_
  rintro e w5 ⟨rfl, hb5⟩
  have HB5 := Hid.mk (HB4.out.trans (hb5.mono HB4.out.size))
  have HX5 := Hid.mk (HX.out.later hb5)
  have c0 := HX5.out.2.2 _ rfl 0 (by omega)
  have c1 := HX5.out.2.2 _ rfl 511 (by omega)
  rw [addr_add] at c0 c1
  have k2 := nextTurn_any w1.heap.size 512 (r.getD 0 0) (r.getD 511 0) w5 c0 c1
  have k3 := anchorBody_any N a3 q e3 dt w5 hNm (H3.out.later HB5.out) h2n hca
  have ht := turnOf_le (r.getD 0 0) (r.getD 511 0)
  obtain ⟨t, hteq⟩ : ∃ t, t = turnOf (r.getD 0 0) (r.getD 511 0) := ⟨_, rfl⟩
  rw [← hteq] at ht k2
  have Hteq := Hid.mk hteq
  clear ho hb5 HB4 HX c0 c1 hteq
  go_wp2_with fail
  refine k2.mono ?_
  rintro e w' ⟨rfl, hw⟩
  have hw' := hw.symm
  subst hw'
  clear hw k2
  go_wp2_with fail
  refine k3.mono ?_
  rintro e w6 ⟨v6, rfl, ho6, hb6⟩
  obtain ⟨p6, c6, rfl, hs6, _, _⟩ := ho6.src
  have hbl : (bytes8 N ++ dt).length = 8 + q := by rw [List.length_append, bytes8_len, hdl]
  rw [hbl] at hs6 ⊢
  have HB6 := Hid.mk (HB5.out.trans (hb6.mono HB5.out.size))
  have k4 := sealed_any t p6 (8 + q) c6 (bytes8 N ++ dt) w6 (by omega) hs6 (by omega) ((bytes8_bytes N).append hdt)
  have hfl : (sform t (bytes8 N ++ dt)).length = 512 := sform_len (by omega)
  have hinfoS := infoSecL (l := sform t (bytes8 N ++ dt)) hfl
  have hallS := all_oneCell_toArray (bs_one (sform t (bytes8 N ++ dt)))
  have hll2 : (bs (sform t (bytes8 N ++ dt))).length = 512 := by rw [bs, List.length_map, hfl]
  obtain ⟨G, hG⟩ : ∃ G, G = bs (sform t (bytes8 N ++ dt)) := ⟨_, rfl⟩
  rw [← hG] at k4 hinfoS hallS hll2
  have HG := Hid.mk hG
  clear k3 ho6 hb6 hs6 HB5 hG
  generalize 8 + q = Q8 at *
  go_wp2_with fail
  refine k4.mono ?_
  rintro e w7 ⟨rfl, hb7⟩
  have hB7 : Below w.heap.size w w7 := HB6.out.trans (hb7.mono HB6.out.size)
  have hw7 : (w7.alloc (.cells zsec 119)).heap[w7.heap.size]? = some (.cells zsec 119 (0, 0)) := heap_alloc_new _ _
  have hth := there_of hw7 zsec_size
  rw [← hll2] at hth
  have hblk := blk_stored (l := sform t (bytes8 N ++ dt)) hw7 (by rw [zsec_size, hfl])
  rw [← HG.out] at hblk
  have hsz7 := hB7.size
  have hB8 : Below w.heap.size w (w7.alloc (.cells zsec 119)) := hB7.alloc hB7.size _
  have hB9 := hB8.trans ((Keeps.setCells (F := fun j => j = w7.heap.size) rfl G 0 _).below (fun j hj => by omega) hB8.size)
  rw [Hteq.out] at hblk
  have HH := Hid.mk (fun j => And.intro (hblk.keep (w' := ((w7.alloc (.cells zsec 119)).setCells w7.heap.size 0 G).drewN j) rfl) (And.intro hB7.size (below_drewN hB9 j)))
  clear k4 hb7 hB7 hw7 hblk hB8 hB9 HB6
  go_wp2_with (refine wpList_store_mid rfl 119 _ _ rfl w7.heap.size 0 G.toArray rfl rfl ?h1 ?h2 hallS ?_)
  case h1 => simpa using hth
  case h2 => simpa using hinfoS
  go_quiet (fail)
  go_wp2
  go_ret3
  exact ⟨w7.heap.size, rfl, HH.out _⟩

end Go.Proofs.Ytkgnkdnipcacgaa
end

section
namespace Go.Proofs.Ytkgnkdnipcacgaa
open Go.RowKit

theorem snewest_slot (l r : List Int) : (snewest l r).1 ≤ 1 := by
  unfold snewest
  split
  · simp
  · split
    · simp
    · split <;> simp
theorem snewest_none {l r : List Int} (hl : l.length = 512) (hr : r.length = 512) : ((snewest l r).2.2.2 = 0 ∧ 0 < (snewest l r).2.1) ∨ ((snewest l r).2.2.2 = 30 ∧ (snewest l r).2.1 = 0 ∧ (snewest l r).1 = 0) := by
  rw [snewest_eq hl hr]
  by_cases q : (sanchor l).1 = 0 ∧ (sanchor r).1 = 0
  · rw [if_pos q]; exact .inr ⟨rfl, rfl, rfl⟩
  · rw [if_neg q]
    by_cases q2 : (sanchor l).1 < (sanchor r).1
    · rw [if_pos q2]; exact .inl ⟨rfl, by simp only; omega⟩
    · rw [if_neg q2]; exact .inl ⟨rfl, by simp only; omega⟩

theorem renew_any (a : Option Addr) (n c : Nat) (l : List Int) (a2 : Option Addr) (m d : Nat) (r : List Int) (a3 : Option Addr) (q e3 : Nat) (dt : List Int) (num : Int) (w : World) (hs : Src w a n l) (hs2 : Src w a2 m r) (hl : Bytes l) (hr : Bytes r)
    (hs3 : Src w a3 q dt) (hdt : Bytes dt) (hca : a3 = none → e3 = 0) (hhi : num ≤ 9223372036854775807) :
    Calls Try.prog 91 #[.slice a n c, .slice a2 m d, .int .i64 num, .slice a3 q e3] w fun e w' => ∃ v, e = .returned (.tuple #[.int .i64 (((srenew l r num dt).1 : Nat) : Int), v, .int .i64 (((srenew l r num dt).2.2 : Nat) : Int)]) ∧ Lst w' w.heap.size v (srenew l r num dt).2.1 ∧ Below w.heap.size w w' := by
  have hln := hs.1
  have hrn := hs2.1
  have hdn := hs3.1
  by_cases hyes : n = 512 ∧ m = 512
  · by_cases h1 : num < 1
    · refine (renew_no2 a n c l a2 m d r a3 q e3 num w hs hs2 hyes h1).mono ?_
      rintro e w' ⟨rfl, hb⟩
      have e1 : srenew l r num dt = (0, [], 1) := by unfold srenew; rw [if_neg (by omega), if_pos h1]
      rw [e1]; exact ⟨_, rfl, Lst.nil _ _, hb⟩
    · by_cases h2 : 496 < q
      · refine (renew_no3 a n c l a2 m d r a3 q e3 num w hs hs2 hyes h1 h2).mono ?_
        rintro e w' ⟨rfl, hb⟩
        have e1 : srenew l r num dt = (0, [], 7) := by unfold srenew; rw [if_neg (by omega), if_neg h1, if_pos (by omega)]
        rw [e1]; exact ⟨_, rfl, Lst.nil _ _, hb⟩
      · by_cases h3 : num ≤ (((snewest l r).2.1 : Nat) : Int)
        · refine (renew_no4 a n c l a2 m d r a3 q e3 num w hs hs2 hl hr hyes h1 (by omega) h3).mono ?_
          rintro e w' ⟨rfl, hb⟩
          have e1 : srenew l r num dt = (0, [], 31) := by unfold srenew; rw [if_neg (by omega), if_neg h1, if_neg (by omega)]; simp only; rw [if_pos h3]
          rw [e1]; exact ⟨_, rfl, Lst.nil _ _, hb⟩
        · obtain ⟨N, hN⟩ : ∃ N : Nat, num = (N : Int) := ⟨num.toNat, by omega⟩
          have hA := snewest_slot l r
          have hno := snewest_none (l := l) (r := r) (by omega) (by omega)
          have hdl : (bytes8 N ++ dt).length ≤ 504 := by rw [List.length_append, bytes8_len]; omega
          by_cases hs0 : (snewest l r).2.2.2 = 0 ∧ (snewest l r).1 = 0
          · refine (renew_ok1 a n c l a2 m d r a3 q e3 dt num w hs hs2 hl hr hyes N hN (by omega) (by omega) hs3 hdt (by omega) hca (by omega) hA (by rw [if_neg (by omega)]; omega)).mono ?_
            rintro e w' ⟨g, rfl, hblk, hg, hb⟩
            have e1 : srenew l r num dt = (1, sform (turnOf (r.getD 0 0) (r.getD 511 0)) (bytes8 N ++ dt), 0) := by unfold srenew; rw [if_neg (by omega), if_neg h1, if_neg (by omega)]; simp only; rw [if_neg h3, if_pos hs0, hN, Int.toNat_natCast]
            rw [e1]
            have := hblk.lst hg
            rw [sform_len hdl] at this
            exact ⟨_, rfl, this, hb⟩
          · refine (renew_ok0 a n c l a2 m d r a3 q e3 dt num w hs hs2 hl hr hyes N hN (by omega) (by omega) hs3 hdt (by omega) hca (by omega) hA (by split <;> omega)).mono ?_
            rintro e w' ⟨g, rfl, hblk, hg, hb⟩
            have e1 : srenew l r num dt = (0, sform (turnOf (l.getD 0 0) (l.getD 511 0)) (bytes8 N ++ dt), 0) := by unfold srenew; rw [if_neg (by omega), if_neg h1, if_neg (by omega)]; simp only; rw [if_neg h3, if_neg hs0, hN, Int.toNat_natCast]
            rw [e1]
            have := hblk.lst hg
            rw [sform_len hdl] at this
            exact ⟨_, rfl, this, hb⟩
  · refine (renew_no1 a n c l a2 m d r a3 q e3 num w hs hs2 hyes).mono ?_
    rintro e w' ⟨rfl, hb⟩
    have e1 : srenew l r num dt = (0, [], 2) := by unfold srenew; rw [if_pos (by omega)]
    rw [e1]; exact ⟨_, rfl, Lst.nil _ _, hb⟩
theorem srenew_len (l r : List Int) (num : Int) (dt : List Int) : (srenew l r num dt).2.1.length ≤ 512 := by
  have h : ∀ (t : Int) (N : Nat), dt.length ≤ 496 → (sform t (bytes8 N ++ dt)).length ≤ 512 := fun t N hd => by rw [sform_len (by rw [List.length_append, bytes8_len]; omega)]; omega
  unfold srenew
  split
  · simp
  · split
    · simp
    · split
      · simp
      · next h3 =>
        simp only
        split
        · simp
        · split
          · exact h _ _ (by omega)
          · exact h _ _ (by omega)
end Go.Proofs.Ytkgnkdnipcacgaa
end

section
namespace Go.Proofs.Ytkgnkdnipcacgaa
open Go.RowKit

end Go.Proofs.Ytkgnkdnipcacgaa
end

section
namespace Go.Proofs.Ytkgnkdnipcacgaa
open Go.RowKit

theorem snewest_small (l r : List Int) : (snewest l r).2.1 ≤ 9223372036854775807 := by
  have sl := sanchor_small l
  have sr := sanchor_small r
  unfold snewest
  split
  · simp
  · split
    · simp
    · split <;> simp only <;> omega

end Go.Proofs.Ytkgnkdnipcacgaa
end

section
namespace Go.Proofs.Ytkgnkdnipcacgaa
open Go.RowKit

theorem infoNewest4 : (Try.prog.info? 75).map (·.size) = some 4 := by kernel_rfl
theorem set4 {w : World} {g : Nat} {T : TypeId} {a b c d x y z u : Value} (h : w.heap[g]? = some (.cells #[a, b, c, d] T (0, 0))) :
    ((((w.setCell ⟨g, 0, none⟩ x).setCell ⟨g, 1, none⟩ y).setCell ⟨g, 2, none⟩ z).setCell ⟨g, 3, none⟩ u).heap[g]? = some (.cells #[x, y, z, u] T (0, 0)) := by
  rw [heap_setCell_same _ _ _ _ _ _ (heap_setCell_same _ _ _ _ _ _ (heap_setCell_same _ _ _ _ _ _ (heap_setCell_same _ _ _ _ _ _ h)))]
  rfl
theorem keeps4 (w : World) (g : Nat) (x y z u : Value) : Keeps (fun j => j = g) w ((((w.setCell ⟨g, 0, none⟩ x).setCell ⟨g, 1, none⟩ y).setCell ⟨g, 2, none⟩ z).setCell ⟨g, 3, none⟩ u) :=
  (keeps3 w g x y z).trans (Keeps.setCell (F := fun j => j = g) (p := ⟨g, 3, none⟩) _ rfl u) (fun _ h => .inl h)
theorem range4 {w : World} {g : Nat} {T : TypeId} {x y z u : Value} (h : w.heap[g]? = some (.cells #[x, y, z, u] T (0, 0))) : w.rangeAt g 0 [x, y, z, u] := by
  intro j v hv
  rw [Nat.zero_add]
  exact cell_of_block h (by simpa using hv)

theorem Src.ne {w w' : World} {a : Option Addr} {n g : Nat} {l : List Int} (h : Src w a n l) (hk : Keeps (fun j => j = g) w w') (ha : ∀ x, a = some x → x.block ≠ g) : Src w' a n l :=
  ⟨h.1, h.2.1, fun x hx i hi => by
    have h0 := h.2.2 x hx i hi
    rw [World.cell?_of_block (w := w) (hk.block _ (World.block_lt_of_cell? _ _ h0) (by rw [blockOf_add]; exact ha x hx))]
    exact h0⟩

set_option maxRecDepth 20000 in
set_option maxHeartbeats 4000000 in
theorem ask_any (a : Option Addr) (n c : Nat) (l : List Int) (a2 : Option Addr) (m d : Nat) (r : List Int) (w : World) (hs : Src w a n l) (hs2 : Src w a2 m r) (hl : Bytes l) (hr : Bytes r) (hn : n ≤ 140737488355328) (hm : m ≤ 140737488355328) :
    Calls Try.prog 79 #[.slice a n c, .slice a2 m d] w fun e w' => ∃ p pc, e = .returned (.agg #[.int .i64 (((snewest l r).1 : Nat) : Int), .int .i64 (((snewest l r).2.1 : Nat) : Int), .slice p (snewest l r).2.2.1.length pc, .int .i64 (((snewest l r).2.2.2 : Nat) : Int)]) ∧ Src w' p (snewest l r).2.2.1.length (snewest l r).2.2.1 ∧ Below w.heap.size w w' ∧ (∀ x, p = some x → w.heap.size ≤ x.block) := by
  have hB0 : Below w.heap.size w (w.alloc (.cells #[.int .i64 0, .int .i64 0, .slice none 0 0, .int .i64 0] 75)) := (Below.refl _ w).alloc (Nat.le_refl _) _
  have hq0 : (w.alloc (.cells #[.int .i64 0, .int .i64 0, .slice none 0 0, .int .i64 0] 75)).heap[w.heap.size]? = some (.cells #[.int .i64 0, .int .i64 0, .slice none 0 0, .int .i64 0] 75 (0, 0)) := heap_alloc_new _ _
  have hl1 := hs.1
  have hl2 := hs2.1
  have h1 := ltwin_any a n c l _ hn (hs.later hB0)
  have H2 := Hid.mk (hs2.later hB0)
  have HB0 := Hid.mk hB0
  have HQ0 := Hid.mk hq0
  have hlen := snewest_len l r
  clear hs hs2 hB0 hq0
  go_enter Try.func79, Try.ntmps79
  go_wp2_with fail
  refine h1.mono ?_
  rintro e w1 ⟨v1, rfl, ho1, hb1⟩
  obtain ⟨p1, c1, rfl, hs1, _, _⟩ := ho1.src
  rw [hl1] at hs1 ⊢
  have h2 := ltwin_any a2 m d r w1 hm (H2.out.later hb1)
  have HB1 := Hid.mk hb1
  have HS1 := Hid.mk hs1
  clear h1 ho1 hb1 hs1
  go_wp2_with fail
  refine h2.mono ?_
  rintro e w2 ⟨v2, rfl, ho2, hb2⟩
  obtain ⟨p2, d2, rfl, hs2, _, _⟩ := ho2.src
  rw [hl2] at hs2 ⊢
  have HB2 := Hid.mk (HB1.out.trans (hb2.mono HB1.out.size))
  have h3 := pnewest_any p1 n c1 l p2 m d2 r w2 (HS1.out.later hb2) hs2 hl hr
  clear h2 ho2 hb2 hs2 HB1 HS1 H2
  obtain ⟨A, hA⟩ : ∃ A, A = (snewest l r).1 := ⟨_, rfl⟩
  obtain ⟨B, hB⟩ : ∃ B, B = (snewest l r).2.1 := ⟨_, rfl⟩
  obtain ⟨D, hD⟩ : ∃ D, D = (snewest l r).2.2.1 := ⟨_, rfl⟩
  obtain ⟨E, hE⟩ : ∃ E, E = (snewest l r).2.2.2 := ⟨_, rfl⟩
  rw [← hA, ← hB, ← hD, ← hE] at h3
  have HE := Hid.mk (And.intro hA (And.intro hB (And.intro hD hE)))
  clear hA hB hD hE hlen
  go_wp2_with fail
  refine h3.mono ?_
  rintro e w3 ⟨v3, rfl, hl3, hb3⟩
  obtain ⟨p3, c3, rfl, hs3, _, hx3⟩ := hl3
  have hB3 := HB2.out.trans (hb3.mono HB2.out.size)
  have hq3 := (hB3.block _ (Array.getElem?_eq_some_iff.1 HQ0.out).1).trans HQ0.out
  have hB3' := HB0.out.trans (hB3.mono HB0.out.size)
  have e0 : w3.cell? ⟨w.heap.size, 0, none⟩ = some (.int .i64 0) := cell_of_block hq3 (j := 0) rfl
  have e1 : w3.cell? ⟨w.heap.size, 1, none⟩ = some (.int .i64 0) := cell_of_block hq3 (j := 1) rfl
  have e2 : w3.cell? ⟨w.heap.size, 2, none⟩ = some (.slice none 0 0) := cell_of_block hq3 (j := 2) rfl
  have e3 : w3.cell? ⟨w.heap.size, 3, none⟩ = some (.int .i64 0) := cell_of_block hq3 (j := 3) rfl
  have f0 := frozen_of_block hq3 0
  have f1 := frozen_of_block hq3 1
  have f2 := frozen_of_block hq3 2
  have f3 := frozen_of_block hq3 3
  have hset := set4 (x := .int .i64 (A : Int)) (y := .int .i64 (B : Int)) (z := .slice p3 D.length c3) (u := .int .i64 (E : Int)) hq3
  have hkp := keeps4 w3 w.heap.size (.int .i64 (A : Int)) (.int .i64 (B : Int)) (.slice p3 D.length c3) (.int .i64 (E : Int))
  have hr4 := Hid.mk (range4 hset)
  have hz2 : w.heap.size < w2.heap.size := Nat.lt_of_lt_of_le (by simp) HB2.out.size
  have hs4 := hs3.ne hkp (fun x hx => by have := hx3 x hx; omega)
  have hB4 := hB3'.trans (hkp.below (fun j hj => by omega) hB3'.size)
  have HH := Hid.mk (And.intro hs4 (And.intro hB4 (fun x hx => show w.heap.size ≤ Addr.block x by have := hx3 x hx; omega)))
  clear h3 hb3 hs3 hx3 hB3 hq3 hB3' hset hkp hs4 hB4 HB2 HB0 HQ0
  generalize hDL : D.length = DL at *
  have HDL := Hid.mk hDL
  clear hDL
  go_wp2_with fail
  refine (lnum_any _ _).mono ?_
  rintro e w' ⟨rfl, hw⟩
  have hw' := hw.symm
  subst hw'
  clear hw
  go_wp2
  exact bodyPost_ret (results_cell_mid (P := Try.prog) rfl _ _ w.heap.size _ _ rfl hr4.out Try.underlying75 rfl infoNewest4) rfl ⟨p3, c3, by rw [← HE.out.1, ← HE.out.2.1, ← HE.out.2.2.1, ← HE.out.2.2.2, HDL.out], by rw [← HE.out.2.2.1, HDL.out]; exact HH.out.1, HH.out.2⟩

set_option maxRecDepth 20000 in
set_option maxHeartbeats 4000000 in
theorem alike_any (A B E A' B' E' : Nat) (D D' : List Int) (p : Option Addr) (pc : Nat) (p' : Option Addr) (pc' : Nat) (w : World) (hs : Src w p D.length D) (hs' : Src w p' D'.length D') (hD : D.length ≤ 140737488355328) :
    Calls Try.prog 46 #[.agg #[.int .i64 (A : Int), .int .i64 (B : Int), .slice p D.length pc, .int .i64 (E : Int)], .agg #[.int .i64 (A' : Int), .int .i64 (B' : Int), .slice p' D'.length pc', .int .i64 (E' : Int)]] w
      fun e w' => e = .returned (.bool (decide ((A, B, D, E) = (A', B', D', E')))) ∧ Below w.heap.size w w' := by
  have hB2 : Below w.heap.size w ((w.alloc (.cells #[.int .i64 (A : Int), .int .i64 (B : Int), .slice p D.length pc, .int .i64 (E : Int)] 75)).alloc (.cells #[.int .i64 (A' : Int), .int .i64 (B' : Int), .slice p' D'.length pc', .int .i64 (E' : Int)] 75)) := ((Below.refl _ w).alloc (Nat.le_refl _) _).alloc (by simp) _
  have h1 := lsame_any p p' D.length D'.length pc pc' D D' _ hD (hs.later hB2) (hs'.later hB2)
  have HB := Hid.mk hB2
  clear hs hs' hB2 hD
  obtain ⟨dl, hdl⟩ : ∃ dl, dl = D.length := ⟨_, rfl⟩
  obtain ⟨dl', hdl'⟩ : ∃ dl', dl' = D'.length := ⟨_, rfl⟩
  rw [← hdl, ← hdl'] at h1 HB ⊢
  clear hdl hdl'
  by_cases ha : A = A'
  · subst ha
    have sA : ((A : Int) == (A : Int)) = true := by simp
    by_cases hb : B = B'
    · subst hb
      have sB : ((B : Int) == (B : Int)) = true := by simp
      by_cases he : E = E'
      · subst he
        have sE : ((E : Int) == (E : Int)) = true := by simp
        have hd : decide ((A, B, D, E) = (A, B, D', E)) = decide (D = D') := by simp
        rw [hd]
        generalize decide (D = D') = X at *
        go_enter Try.func46, Try.ntmps46
        go_wp2_with fail
        refine h1.mono ?_
        rintro e w1 ⟨rfl, hb1⟩
        have HB1 := Hid.mk (HB.out.trans (hb1.mono HB.out.size))
        clear h1 hb1
        go_wp2
        go_ret
        exact ⟨rfl, HB1.out⟩
      · have sE : ((E : Int) == (E' : Int)) = false := by rw [beq_eq_false_iff_ne]; omega
        have hd : decide ((A, B, D, E) = (A, B, D', E')) = false := by simp [he]
        rw [hd]
        clear he hd h1
        go_enter Try.func46, Try.ntmps46
        go_wp2_with fail
        go_ret
        exact ⟨rfl, HB.out⟩
    · have sB : ((B : Int) == (B' : Int)) = false := by rw [beq_eq_false_iff_ne]; omega
      have hd : decide ((A, B, D, E) = (A, B', D', E')) = false := by simp [hb]
      rw [hd]
      clear hb hd h1
      go_enter Try.func46, Try.ntmps46
      go_wp2_with fail
      go_ret
      exact ⟨rfl, HB.out⟩
  · have sA : ((A : Int) == (A' : Int)) = false := by rw [beq_eq_false_iff_ne]; omega
    have hd : decide ((A, B, D, E) = (A', B', D', E')) = false := by simp [ha]
    rw [hd]
    clear ha hd h1
    go_enter Try.func46, Try.ntmps46
    go_wp2_with fail
    go_ret
    exact ⟨rfl, HB.out⟩

end Go.Proofs.Ytkgnkdnipcacgaa
end
