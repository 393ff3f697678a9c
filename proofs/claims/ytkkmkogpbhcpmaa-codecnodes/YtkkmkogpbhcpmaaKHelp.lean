import Derived.Test.YtkkmkogpbhcpmaaKBase
import Derived.RegionTactic
import Derived.BigRegion
namespace Go.Proofs.Ytkkmkogpbhcpmaa
open Go.RowKit

set_option maxRecDepth 20000 in
set_option maxHeartbeats 1000000 in
theorem same_ne (a b : Option Addr) (n m c d : Nat) (w : World) (h : n ≠ m) :
    Calls Try.prog 48 #[.slice a n c, .slice b m d] w fun e w' => e = .returned (.bool false) ∧ w' = w := by
  have h' : (((n : Int)) != (m : Int)) = true := by rw [bne_iff_ne]; omega
  go_enter Try.func48, Try.ntmps48
  go_wp2
  go_ret
  exact ⟨rfl, rfl⟩

set_option maxRecDepth 20000 in
set_option maxHeartbeats 1000000 in
theorem same_low (b o b' o' : Nat) (n c d : Nat) (l : List Int) (w : World) (hn : n ≤ 140737488355328) (h1 : ∀ i, i < n → w.cell? ⟨b, o + i, none⟩ = some (.int .u8 (l.getD i 0))) (h2 : ∀ i, i < n → w.cell? ⟨b', o' + i, none⟩ = some (.int .u8 (l.getD i 0))) :
    Calls Try.prog 48 #[.slice (some ⟨b, o, none⟩) n c, .slice (some ⟨b', o', none⟩) n d] w fun e w' => e = .returned (.bool true) ∧ Below w.heap.size w w' := by
  have h' : (((n : Int)) != (n : Int)) = false := by simp
  have H1 : Hid (∀ i, i < n → w.cell? ⟨b, o + i, none⟩ = some (.int .u8 (l.getD i 0))) := h1
  have H2 : Hid (∀ i, i < n → w.cell? ⟨b', o' + i, none⟩ = some (.int .u8 (l.getD i 0))) := h2
  clear h1 h2
  go_enter Try.func48, Try.ntmps48
  go_wp2
  go_loopw [5] (fun i wr => ∃ k : Nat, k ≤ n ∧ i = .int .i64 k ∧ Below w.heap.size w wr) (fun i _ => n - (intOf i).toNat)
  case atStart => exact ⟨0, Nat.zero_le _, rfl, Below.refl _ _⟩
  case round =>
    obtain ⟨k, hk, rfl, hb⟩ := hrel
    by_cases hlt : k < n
    · have c1 := cell_later hb (H1.out k hlt)
      have c2 := cell_later hb (H2.out k hlt)
      have hlt' : (k : Int) < (n : Int) := by omega
      go_wp2
      go_quiet (fail)
      go_wp2
      go_roundw
      case rel => exact ⟨k + 1, by omega, by go_num, below_drewN hb _⟩
      case measure => simp [intOf]; omega
    · have hlt' : ¬ (k : Int) < (n : Int) := by omega
      go_wp2
      go_ret
      exact ⟨rfl, hb⟩

set_option maxRecDepth 20000 in
set_option maxHeartbeats 1000000 in
theorem same_zero (a b : Option Addr) (c d : Nat) (w : World) :
    Calls Try.prog 48 #[.slice a 0 c, .slice b 0 d] w fun e w' => e = .returned (.bool true) ∧ w' = w := by
  go_enter Try.func48, Try.ntmps48
  go_wp2
  refine wp_loop_rounds 1 ?_; rw [rounds_succ]; go_wp2
  go_ret
  exact ⟨rfl, rfl⟩

theorem same_any (a b : Option Addr) (n c d : Nat) (l : List Int) (w : World) (hn : n ≤ 140737488355328) (h1 : Src w a n l) (h2 : Src w b n l) :
    Calls Try.prog 48 #[.slice a n c, .slice b n d] w fun e w' => e = .returned (.bool true) ∧ Below w.heap.size w w' := by
  by_cases h0 : n = 0
  · subst h0
    exact (same_zero a b c d w).mono (by rintro e w' ⟨rfl, rfl⟩; exact ⟨rfl, Below.refl _ _⟩)
  · cases a with
    | none => exact absurd (h1.2.1 rfl) h0
    | some x =>
      cases b with
      | none => exact absurd (h2.2.1 rfl) h0
      | some y =>
        obtain ⟨b1, o1, rfl, k1⟩ := h1.spot (by omega)
        obtain ⟨b2, o2, rfl, k2⟩ := h2.spot (by omega)
        exact same_low b1 o1 b2 o2 n c d l w hn k1 k2


set_option maxRecDepth 20000 in
set_option maxHeartbeats 2000000 in
theorem tight_any (a : Option Addr) (n c : Nat) (l : List Int) (w : World) (hn : n ≤ 140737488355328) (hs : Src w a n l) :
    Calls Try.prog 52 #[.slice a n c] w fun e w' => ∃ g, e = .returned (.slice (some ⟨g, 0, none⟩) n n) ∧ w.heap.size ≤ g ∧ RowAt w' 5 g n (bs l) ∧ Below w.heap.size w w' := by
  obtain ⟨i0, hi, hz0, hz1, hz2⟩ := info_parts infoU8
  have H := Hid.mk hs
  clear hs
  go_enter Try.func52, Try.ntmps52
  go_wp2_with (at_make; refine wpList_make_full _ rfl _ _ 27 rfl w.heap.size 5 i0 (.int .u8 0) 1 Try.underlying27 hi hz0 hz1 _ _ _ _ n rfl rfl ?c1 ?c2 ?c3 ?c4 ?c5 ?_)
  case c1 => rfl
  case c2 => rfl
  case c3 => rw [hz2]; omega
  case c4 => unfold maxLen; omega
  case c5 => exact Nat.le_refl _
  intro w1 hown hgrow
  have hr := made_row hown
  have hb : Below w.heap.size w w1 := (Below.refl _ w).grown hgrow (Nat.le_refl _) (by intro k hk; cases hk)
  have hf := hr.full (by simp [bs])
  have hs1 := H.out.later hb
  have hl := H.out.1
  clear hown hgrow
  obtain ⟨w2, hrun, hh, hk, _⟩ := copy_run w1 3 (some ⟨w.heap.size, 0, none⟩) w.heap.size 0 n n a n c (bs (List.replicate n 0)) l hf hs1 (fun _ => rfl) (by simp [bs])
  have hb2 : Below w.heap.size w w2 := hb.trans (hk.below (fun k h => by omega) hb.size)
  have hr2 : RowAt w2 5 w.heap.size n (bs l) := by
    have e : splice (bs (List.replicate n 0)) 0 (bs (l.take n)) = bs l := by
      rw [List.take_of_length_le (by omega)]
      simp [splice, bs]; omega
    rw [e] at hh
    have := RowAt.of_full hh (by simp [bs, maxLen]; omega)
    simpa [bs, hl] using this
  clear hh hf hr hs1 hb hk
  go_wp2
  go_ret
  exact ⟨w.heap.size, rfl, Nat.le_refl _, hr2, hb2⟩

theorem set_row {w : World} {g : Nat} {l : List Int} {i : Nat} (x : Int) (h : w.heap[g]? = some (.cells (bs l).toArray 5 (0, 0))) :
    (w.setCell ⟨g, i, none⟩ (.int .u8 x)).heap[g]? = some (.cells (bs (l.set i x)).toArray 5 (0, 0)) := by
  rw [heap_setCell_same _ _ _ _ _ _ h]
  congr 2
  apply Array.ext'
  simp [bs, List.map_set]

/-- The list with the spare room's bytes behind it. -/
def pad (l : List Int) : List Int := l ++ List.replicate 5 165

set_option maxRecDepth 20000 in
set_option maxHeartbeats 2000000 in
theorem twin_any (a : Option Addr) (n c : Nat) (l : List Int) (w : World) (hn : n ≤ 140737488355328) (hs : Src w a n l) :
    Calls Try.prog 49 #[.slice a n c, .int .i64 5] w fun e w' => ∃ g, e = .returned (.slice (some ⟨g, 0, none⟩) n (n + 5)) ∧ w.heap.size ≤ g ∧ RowAt w' 5 g (n + 5) (bs (pad l)) ∧ Below w.heap.size w w' := by
  obtain ⟨i0, hi, hz0, hz1, hz2⟩ := info_parts infoU8
  have H := Hid.mk hs
  clear hs
  go_enter Try.func49, Try.ntmps49
  go_wp2_with (at_make; refine wpList_make_full _ rfl _ _ 27 rfl w.heap.size 5 i0 (.int .u8 0) 1 Try.underlying27 hi hz0 hz1 _ _ _ _ (n + 5) rfl rfl ?c1 ?c2 ?c3 ?c4 ?c5 ?_)
  case c1 => rfl
  case c2 => rfl
  case c3 => rw [hz2]; omega
  case c4 => unfold maxLen; omega
  case c5 => exact Nat.le_refl _
  intro w1 hown hgrow
  have hr := made_row hown
  have hb : Below w.heap.size w w1 := (Below.refl _ w).grown hgrow (Nat.le_refl _) (by intro k hk; cases hk)
  have hf := hr.full (by simp [bs])
  have hs1 := H.out.later hb
  have hl := H.out.1
  clear hown hgrow
  obtain ⟨w2, hrun, hh, hk, _⟩ := copy_run w1 3 (some ⟨w.heap.size, 0, none⟩) w.heap.size 0 (n + 5) (n + 5) a n c (bs (List.replicate (n + 5) 0)) l hf hs1 (fun _ => rfl) (by simp [bs])
  have hb2 : Below w.heap.size w w2 := hb.trans (hk.below (fun k h => by omega) hb.size)
  have hz := hb2.size
  have hh2 : w2.heap[w.heap.size]? = some (.cells (bs (l ++ List.replicate 5 0)).toArray 5 (0, 0)) := by
    have e : splice (bs (List.replicate (n + 5) 0)) 0 (bs (l.take (n + 5))) = bs (l ++ List.replicate 5 0) := by
      rw [List.take_of_length_le (by omega)]
      simp [splice, bs, hl]
    rw [e] at hh
    exact hh
  have hmin : Nat.min n (n + 5) = n := by have := Nat.min_eq_left (show n ≤ n + 5 by omega); exact this
  rw [hmin] at hrun
  clear hh hf hr hs1 hb hk hmin
  go_wp2
  go_loopw [7] (fun i wr => ∃ k : Nat, k ≤ 5 ∧ i = .int .i64 ((n + k : Nat) : Int) ∧ Below w.heap.size w wr ∧ wr.heap[w.heap.size]? = some (.cells (bs (l ++ (List.replicate k 165 ++ List.replicate (5 - k) 0))).toArray 5 (0, 0))) (fun i _ => n + 5 - (intOf i).toNat)
  case atStart => exact ⟨0, Nat.zero_le _, rfl, hb2, hh2⟩
  case round =>
    clear hb2 hh2
    obtain ⟨k, hk, rfl, hbr, hblk⟩ := hrel
    by_cases hlt : k < 5
    · have hlt' : ((n + k : Nat) : Int) < (n : Int) + 5 := by omega
      have hc : ∃ v, wr.cell? ⟨w.heap.size, n + k, none⟩ = some v := ⟨_, cell_of_block hblk (j := n + k) (u := (bs (l ++ (List.replicate k 165 ++ List.replicate (5 - k) 0)))[n + k]'(by simp [bs]; omega)) (by simp [bs])⟩
      obtain ⟨v0, hc⟩ := hc
      have hf := frozen_of_block hblk (n + k)
      have hset := set_row (i := n + k) 165 hblk
      have e : (l ++ (List.replicate k 165 ++ List.replicate (5 - k) 0)).set (n + k) 165 = l ++ (List.replicate (k + 1) 165 ++ List.replicate (5 - (k + 1)) (0 : Int)) := by
        rw [List.set_append_right _ _ (by omega), hl, show n + k - n = k by omega, List.set_append_right _ _ (by simp), List.length_replicate, Nat.sub_self]
        obtain ⟨m, hm⟩ : ∃ m, 5 - k = m + 1 := ⟨4 - k, by omega⟩
        rw [hm, show 5 - (k + 1) = m by omega, List.replicate_succ, List.set_cons_zero, List.replicate_succ', List.append_assoc]
        rfl
      rw [e] at hset
      have HS := Hid.mk hset
      have HB : Hid (Below w.heap.size w (wr.setCell ⟨w.heap.size, n + k, none⟩ (.int .u8 165))) := hbr.trans ((Keeps.setCell (F := fun j => j = w.heap.size) (p := ⟨w.heap.size, n + k, none⟩) wr rfl _).below (fun j hj => by omega) hbr.size)
      clear hset hblk hbr e
      go_wp2
      go_roundw
      case rel => exact ⟨k + 1, by omega, by go_num, HB.out, HS.out⟩
      case measure => simp [intOf]; omega
    · have hlt' : ¬ ((n + k : Nat) : Int) < (n : Int) + 5 := by omega
      have hk5 : k = 5 := by omega
      subst hk5
      have HR : RowAt wr 5 w.heap.size (n + 5) (bs (pad l)) := by
        have := RowAt.of_full hblk (by simp [bs, maxLen]; omega)
        unfold pad
        simpa [bs, hl] using this
      have HR := Hid.mk HR
      clear hblk
      go_wp2
      go_ret
      exact ⟨w.heap.size, rfl, Nat.le_refl _, HR.out, hbr⟩

theorem pad_src {w : World} {g n : Nat} {l : List Int} (h : RowAt w 5 g (n + 5) (bs (pad l))) (hl : l.length = n) : Src w (some ⟨g, 0, none⟩) n l :=
  ⟨hl, (fun h => by cases h), fun x hx i hi => by
    cases hx
    rw [h.byte (by simp [pad]; omega)]
    simp [pad, List.getD, List.getElem?_append_left (show i < l.length by omega)]⟩
theorem pad_spare {w : World} {g n : Nat} {l : List Int} (h : RowAt w 5 g (n + 5) (bs (pad l))) (hl : l.length = n) (k : Nat) (hk : k < 5) : w.cell? ⟨g, n + k, none⟩ = some (.int .u8 165) := by
  have := h.byte (i := n + k) (by simp [pad]; omega)
  rw [addr_add, Nat.zero_add] at this
  rw [this]
  have e : n + k - l.length = k := by omega
  simp only [pad, List.getD, List.getElem?_append_right (show l.length ≤ n + k by omega), e]
  rw [List.getElem?_replicate, if_pos hk]
  rfl

set_option maxRecDepth 20000 in
set_option maxHeartbeats 2000000 in
theorem whole_any (g n : Nat) (a : Option Addr) (c : Nat) (l : List Int) (w : World) (hn : n ≤ 140737488355328) (hr : RowAt w 5 g (n + 5) (bs (pad l))) (hs : Src w a n l) :
    Calls Try.prog 51 #[.slice (some ⟨g, 0, none⟩) n (n + 5), .slice a n c, .int .i64 5] w fun e w' => e = .returned (.bool true) ∧ Below w.heap.size w w' := by
  have hsa := same_any (some ⟨g, 0, none⟩) a n (n + 5) c l w hn (pad_src hr hs.1) hs
  have HR := Hid.mk hr
  have hl := hs.1
  clear hr hs
  go_enter Try.func51, Try.ntmps51
  go_wp2_with fail
  refine hsa.mono ?_
  rintro e w1 ⟨rfl, hb1⟩
  clear hsa
  go_wp2
  go_loopw [8] (fun i wr => ∃ k : Nat, k ≤ 5 ∧ i = .int .i64 ((n + k : Nat) : Int) ∧ wr = w1) (fun i _ => n + 5 - (intOf i).toNat)
  case atStart => exact ⟨0, Nat.zero_le _, rfl, rfl⟩
  case round =>
    obtain ⟨k, hk, rfl, rfl⟩ := hrel
    by_cases hlt : k < 5
    · have hlt' : ((n + k : Nat) : Int) < (n : Int) + 5 := by omega
      have hc := cell_later hb1 (pad_spare HR.out hl k hlt)
      have HB := Hid.mk hb1
      clear hb1
      go_wp2
      go_roundw
      case rel => exact ⟨k + 1, by omega, by go_num, trivial⟩
      case measure => simp [intOf]; omega
    · have hlt' : ¬ ((n + k : Nat) : Int) < (n : Int) + 5 := by omega
      go_wp2
      go_ret
      exact ⟨rfl, hb1⟩

/-- One byte turned. -/
def bend (l : List Int) (i : Nat) : List Int := l.set i (((l.getD i 0).toNat ^^^ 90 : Nat) : Int)
theorem bend_len (l : List Int) (i : Nat) : (bend l i).length = l.length := by simp [bend]
theorem bend_bytes {l : List Int} (h : Bytes l) (i : Nat) : Bytes (bend l i) := by
  intro x hx
  by_cases hi : i < l.length
  · rcases List.mem_or_eq_of_mem_set hx with h1 | h1
    · exact h x h1
    · subst h1
      have := h l[i] (List.getElem_mem hi)
      have e : (l.getD i 0) = l[i] := by simp [List.getD, hi]
      rw [e]
      have h2 : l[i].toNat ^^^ 90 < 2 ^ 8 := Nat.xor_lt_two_pow (by omega) (by omega)
      omega
  · rw [bend, List.set_eq_of_length_le (by omega)] at hx
    exact h x hx

set_option maxRecDepth 20000 in
set_option maxHeartbeats 4000000 in
theorem bent_some (g n : Nat) (k : Nat) (l : List Int) (w : World) (h0 : 0 < n) (hn : n ≤ 140737488355328) (hk : k ≤ 4611686018427387904) (hb : Bytes l) (hl : l.length = n) (hr : RowAt w 5 g n (bs l)) :
    Calls Try.prog 53 #[.slice (some ⟨g, 0, none⟩) n n, .int .i64 (k : Int)] w fun e w' => e = .returned (.bool true) ∧ RowAt w' 5 g n (bs (bend l (k % n))) ∧ Keeps (fun j => j = g) w w' := by
  have hz : ((n : Int) == 0) = false := by rw [Bool.eq_false_iff, ne_eq, beq_iff_eq]; omega
  have hi : k % n < n := Nat.mod_lt _ h0
  have hm : (k : Int).tmod (n : Int) = ((k % n : Nat) : Int) := by rw [Int.tmod_eq_emod_of_nonneg (by omega)]; simp
  obtain ⟨x, hx, hx1⟩ : ∃ x : Nat, l.getD (k % n) 0 = (x : Int) ∧ x < 256 := by
    have := hb l[k % n] (List.getElem_mem (by omega))
    refine ⟨(l.getD (k % n) 0).toNat, ?_, ?_⟩ <;> simp [List.getD, hl, hi] <;> omega
  have hc : w.cell? ⟨g, k % n, none⟩ = some (.int .u8 (x : Int)) := by
    have := hr.byte (i := k % n) (by omega)
    rw [addr_add, Nat.zero_add, hx] at this
    exact this
  have hf := hr.frozen (k % n)
  have hfull := hr.full (by simp [bs, hl])
  have hbits : bits .xor .u8 (x : Int) 90 = ((x ^^^ 90 : Nat) : Int) := u8_xor_nat x 90 hx1 (by omega)
  have hset := set_row (i := k % n) ((x ^^^ 90 : Nat) : Int) hfull
  have e : l.set (k % n) ((x ^^^ 90 : Nat) : Int) = bend l (k % n) := by unfold bend; rw [hx]; rfl
  rw [e] at hset
  have hrr : RowAt (w.setCell ⟨g, k % n, none⟩ (.int .u8 ((x ^^^ 90 : Nat) : Int))) 5 g n (bs (bend l (k % n))) := by
    have := RowAt.of_full hset (by simp [bs, bend_len, maxLen]; omega)
    simpa [bs, bend_len, hl] using this
  have HR := Hid.mk hrr
  have HK := Hid.mk (Keeps.setCell (F := fun j => j = g) (p := ⟨g, k % n, none⟩) w rfl (.int .u8 ((x ^^^ 90 : Nat) : Int)))
  generalize k % n = i at *
  clear hrr hset hfull hr hx e hb hl
  go_enter Try.func53, Try.ntmps53
  go_wp2
  go_region
  go_wp2
  go_ret
  exact ⟨rfl, HR.out.agree rfl, ⟨HK.out.os, HK.out.tape, HK.out.output, HK.out.size, HK.out.block⟩⟩

set_option maxRecDepth 20000 in
set_option maxHeartbeats 1000000 in
theorem bent_zero (a : Option Addr) (c : Nat) (k : Int) (w : World) :
    Calls Try.prog 53 #[.slice a 0 c, .int .i64 k] w fun e w' => e = .returned (.bool false) ∧ w' = w := by
  go_enter Try.func53, Try.ntmps53
  go_wp2
  go_ret
  exact ⟨rfl, rfl⟩

/-- bent turns one byte, if there is any. -/
theorem bent_any (g n : Nat) (kk : Int) (k : Nat) (l : List Int) (w : World) (hkk : 0 < n → kk = (k : Int)) (hn : n ≤ 140737488355328) (hk : k ≤ 4611686018427387904) (hb : Bytes l) (hl : l.length = n) (hr : RowAt w 5 g n (bs l)) :
    Calls Try.prog 53 #[.slice (some ⟨g, 0, none⟩) n n, .int .i64 kk] w fun e w' => ∃ x l', e = .returned (.bool x) ∧ RowAt w' 5 g n (bs l') ∧ l'.length = n ∧ Bytes l' ∧ Keeps (fun j => j = g) w w' := by
  by_cases h0 : n = 0
  · subst h0
    refine (bent_zero (some ⟨g, 0, none⟩) 0 kk w).mono ?_
    rintro e w' ⟨rfl, rfl⟩
    exact ⟨_, l, rfl, hr, hl, hb, Keeps.refl _ _⟩
  · rw [hkk (by omega)]
    refine (bent_some g n k l w (by omega) hn hk hb hl hr).mono ?_
    rintro e w' ⟨rfl, h1, h2⟩
    exact ⟨_, _, rfl, h1, (bend_len _ _).trans hl, bend_bytes hb _, h2⟩
end Go.Proofs.Ytkkmkogpbhcpmaa
