import Derived.Test.YtodleeipefnadaaKX3
namespace Go.Proofs.Ytodleeipefnadaa
open Go.RowKit

theorem numX_any (x : Int) (w : World) : Calls Try.prog 33 #[.int .i64 x] w fun e w' => e = .returned (.int .i64 x) ∧ w' = w := by
  go_enter Try.func33, Try.ntmps33
  go_wp2
  go_ret
  exact ⟨rfl, rfl⟩

set_option maxRecDepth 20000 in
set_option maxHeartbeats 8000000 in
theorem splice_no (a : Option Addr) (n c : Nat) (l : List Int) (a2 : Option Addr) (m d : Nat) (r : List Int) (cut : Int) (w : World) (hs : Src w a n l) (hs2 : Src w a2 m r) (hno : ¬ (n = 512 ∧ m = 512) ∨ cut < 0 ∨ 512 < cut) :
    Calls Try.prog 30 #[.slice a n c, .slice a2 m d, .int .i64 cut] w fun e w' => e = .returned (.tuple #[.slice none 0 0, .int .i64 (if n = 512 ∧ m = 512 then 1 else 2)]) ∧ Below w.heap.size w w' := by
  have hz := zeroPair
  have h1 := pairOf_any a n c l a2 m d r w hs hs2
  have hinfo := infoPairX (secOf_len l) (secOf_len r)
  have hall := all_oneCell_toArray (bs_one (secOf l ++ secOf r))
  have hFl : (bs (secOf l ++ secOf r)).length = 1024 := by rw [bs, List.length_map, List.length_append, secOf_len, secOf_len]
  generalize bs (secOf l ++ secOf r) = F at h1 hinfo hall hFl
  clear hs hs2
  have hB : ∀ w1 : World, Below w.heap.size w w1 → Below w.heap.size w ((w1.alloc (.cells zpair 93)).setCells w1.heap.size 0 F) := fun w1 hb => by
    have hb1 := hb.alloc hb.size (.cells zpair 93)
    have := hb.size
    exact hb1.trans ((Keeps.setCells (F := fun j => j = w1.heap.size) rfl F 0 _).below (fun j hj => by omega) hb1.size)
  have HB := Hid.mk hB
  clear hB
  by_cases hwh : n = 512 ∧ m = 512
  · have hno' : cut < 0 ∨ 512 < cut := by omega
    rw [if_pos hwh]
    have hd : (decide (n = 512) && decide (m = 512)) = true := by simp [hwh.1, hwh.2]
    rw [hd] at h1
    clear hno hwh hd
    by_cases h0 : cut < 0
    · go_enter Try.func30, Try.ntmps30
      go_wp2_with fail
      refine h1.mono ?_
      rintro e w1 ⟨rfl, hb1⟩
      have hw1 : (w1.alloc (.cells zpair 93)).heap[w1.heap.size]? = some (.cells zpair 93 (0, 0)) := heap_alloc_new _ _
      have hth := there_of hw1 zpair_size
      rw [← hFl] at hth
      have HB2 := Hid.mk (HB.out w1 hb1)
      clear h1 hw1 hb1
      go_wp2_with (refine wpList_store_mid rfl 93 _ _ rfl w1.heap.size 0 F.toArray rfl rfl ?h1 ?h2 hall ?_)
      case h1 => simpa using hth
      case h2 => simpa using hinfo
      go_ret2
      exact ⟨rfl, HB2.out⟩
    · have h2 : 512 < cut := by omega
      go_enter Try.func30, Try.ntmps30
      go_wp2_with fail
      refine h1.mono ?_
      rintro e w1 ⟨rfl, hb1⟩
      have hw1 : (w1.alloc (.cells zpair 93)).heap[w1.heap.size]? = some (.cells zpair 93 (0, 0)) := heap_alloc_new _ _
      have hth := there_of hw1 zpair_size
      rw [← hFl] at hth
      have HB2 := Hid.mk (HB.out w1 hb1)
      clear h1 hw1 hb1
      go_wp2_with (refine wpList_store_mid rfl 93 _ _ rfl w1.heap.size 0 F.toArray rfl rfl ?h1 ?h2 hall ?_)
      case h1 => simpa using hth
      case h2 => simpa using hinfo
      go_ret2
      exact ⟨rfl, HB2.out⟩
  · rw [if_neg hwh]
    have hd : (decide (n = 512) && decide (m = 512)) = false := by simp; omega
    rw [hd] at h1
    clear hno hwh hd
    go_enter Try.func30, Try.ntmps30
    go_wp2_with fail
    refine h1.mono ?_
    rintro e w1 ⟨rfl, hb1⟩
    have hw1 : (w1.alloc (.cells zpair 93)).heap[w1.heap.size]? = some (.cells zpair 93 (0, 0)) := heap_alloc_new _ _
    have hth := there_of hw1 zpair_size
    rw [← hFl] at hth
    have HB2 := Hid.mk (HB.out w1 hb1)
    clear h1 hw1 hb1
    go_wp2_with (refine wpList_store_mid rfl 93 _ _ rfl w1.heap.size 0 F.toArray rfl rfl ?h1 ?h2 hall ?_)
    case h1 => simpa using hth
    case h2 => simpa using hinfo
    go_ret2
    exact ⟨rfl, HB2.out⟩

theorem splice_any (a : Option Addr) (n c : Nat) (l : List Int) (a2 : Option Addr) (m d : Nat) (r : List Int) (cut : Int) (w : World) (hs : Src w a n l) (hs2 : Src w a2 m r) :
    Calls Try.prog 30 #[.slice a n c, .slice a2 m d, .int .i64 cut] w fun e w' => ∃ v, e = .returned (.tuple #[v, .int .i64 (((ssplice l r cut).2 : Nat) : Int)]) ∧ Lst w' w.heap.size v (ssplice l r cut).1 ∧ Below w.heap.size w w' := by
  have hln := hs.1
  have hrn := hs2.1
  by_cases hno : ¬ (n = 512 ∧ m = 512) ∨ cut < 0 ∨ 512 < cut
  · refine (splice_no a n c l a2 m d r cut w hs hs2 hno).mono ?_
    rintro e w' ⟨rfl, hb⟩
    have e : ssplice l r cut = ([], if n = 512 ∧ m = 512 then 1 else 2) := by
      unfold ssplice
      by_cases h : n = 512 ∧ m = 512
      · rw [if_neg (by omega), if_pos (by omega), if_pos h]
      · rw [if_pos (by omega), if_neg h]
    rw [e]
    refine ⟨.slice none 0 0, ?_, Lst.nil _ _, hb⟩
    split <;> rfl
  · obtain ⟨k, rfl⟩ : ∃ k : Nat, cut = (k : Int) := ⟨cut.toNat, by omega⟩
    obtain ⟨rfl, rfl⟩ : n = 512 ∧ m = 512 := by omega
    have e : ssplice l r (k : Int) = (smix l r k, 0) := by unfold ssplice; rw [if_neg (by omega), if_neg (by omega), Int.toNat_natCast]
    rw [e]
    exact splice_ok a c l a2 d r k w hs hs2 (by omega)
end Go.Proofs.Ytodleeipefnadaa
