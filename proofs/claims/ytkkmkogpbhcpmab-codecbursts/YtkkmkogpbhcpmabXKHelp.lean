import Derived.Test.YtkkmkogpbhcpmabKBase
import Derived.RegionTactic
import Derived.BigRegion
namespace Go.Proofs.Ytkkmkogpbhcpmab
open Go.RowKit

set_option maxRecDepth 20000 in
set_option maxHeartbeats 1000000 in
theorem same_ne (a b : Option Addr) (n m c d : Nat) (w : World) (h : n ≠ m) :
    Calls Try.prog 13 #[.slice a n c, .slice b m d] w fun e w' => e = .returned (.bool false) ∧ w' = w := by
  have h' : (((n : Int)) != (m : Int)) = true := by rw [bne_iff_ne]; omega
  go_enter Try.func13, Try.ntmps13
  go_wp2
  go_ret
  exact ⟨rfl, rfl⟩

set_option maxRecDepth 20000 in
set_option maxHeartbeats 1000000 in
theorem same_low (b o b' o' : Nat) (n c d : Nat) (l : List Int) (w : World) (hn : n ≤ 140737488355328) (h1 : ∀ i, i < n → w.cell? ⟨b, o + i, none⟩ = some (.int .u8 (l.getD i 0))) (h2 : ∀ i, i < n → w.cell? ⟨b', o' + i, none⟩ = some (.int .u8 (l.getD i 0))) :
    Calls Try.prog 13 #[.slice (some ⟨b, o, none⟩) n c, .slice (some ⟨b', o', none⟩) n d] w fun e w' => e = .returned (.bool true) ∧ Below w.heap.size w w' := by
  have h' : (((n : Int)) != (n : Int)) = false := by simp
  have H1 : Hid (∀ i, i < n → w.cell? ⟨b, o + i, none⟩ = some (.int .u8 (l.getD i 0))) := h1
  have H2 : Hid (∀ i, i < n → w.cell? ⟨b', o' + i, none⟩ = some (.int .u8 (l.getD i 0))) := h2
  clear h1 h2
  go_enter Try.func13, Try.ntmps13
  go_wp2
  go_loopw [5] (fun i wr => ∃ k : Nat, k ≤ n ∧ i = .int .i64 k ∧ Below w.heap.size w wr) (fun i _ => n - (intOf i).toNat)
  case atStart => exact ⟨0, Nat.zero_le _, rfl, Below.refl _ _⟩
  case round =>
    obtain ⟨k, hk, rfl, hb⟩ := hrel
    by_cases hlt : k < n
    · have c1 := cell_later hb (H1.out k hlt)
      have c2 := cell_later hb (H2.out k hlt)
      have hlt' : (k : Int) < (n : Int) := by omega
      go_wp2
      go_quiet (fail)
      go_wp2
      go_roundw
      case rel => exact ⟨k + 1, by omega, by go_num, below_drewN hb _⟩
      case measure => simp [intOf]; omega
    · have hlt' : ¬ (k : Int) < (n : Int) := by omega
      go_wp2
      go_ret
      exact ⟨rfl, hb⟩

set_option maxRecDepth 20000 in
set_option maxHeartbeats 1000000 in
theorem same_zero (a b : Option Addr) (c d : Nat) (w : World) :
    Calls Try.prog 13 #[.slice a 0 c, .slice b 0 d] w fun e w' => e = .returned (.bool true) ∧ w' = w := by
  go_enter Try.func13, Try.ntmps13
  go_wp2
  refine wp_loop_rounds 1 ?_; rw [rounds_succ]; go_wp2
  go_ret
  exact ⟨rfl, rfl⟩

theorem same_any (a b : Option Addr) (n c d : Nat) (l : List Int) (w : World) (hn : n ≤ 140737488355328) (h1 : Src w a n l) (h2 : Src w b n l) :
    Calls Try.prog 13 #[.slice a n c, .slice b n d] w fun e w' => e = .returned (.bool true) ∧ Below w.heap.size w w' := by
  by_cases h0 : n = 0
  · subst h0
    exact (same_zero a b c d w).mono (by rintro e w' ⟨rfl, rfl⟩; exact ⟨rfl, Below.refl _ _⟩)
  · cases a with
    | none => exact absurd (h1.2.1 rfl) h0
    | some x =>
      cases b with
      | none => exact absurd (h2.2.1 rfl) h0
      | some y =>
        obtain ⟨b1, o1, rfl, k1⟩ := h1.spot (by omega)
        obtain ⟨b2, o2, rfl, k2⟩ := h2.spot (by omega)
        exact same_low b1 o1 b2 o2 n c d l w hn k1 k2


set_option maxRecDepth 20000 in
set_option maxHeartbeats 2000000 in
theorem tight_any (a : Option Addr) (n c : Nat) (l : List Int) (w : World) (hn : n ≤ 140737488355328) (hs : Src w a n l) :
    Calls Try.prog 14 #[.slice a n c] w fun e w' => ∃ g, e = .returned (.slice (some ⟨g, 0, none⟩) n n) ∧ w.heap.size ≤ g ∧ RowAt w' 5 g n (bs l) ∧ Below w.heap.size w w' := by
  obtain ⟨i0, hi, hz0, hz1, hz2⟩ := info_parts infoU8
  have H := Hid.mk hs
  clear hs
  go_enter Try.func14, Try.ntmps14
  go_wp2_with (at_make; refine wpList_make_full _ rfl _ _ 36 rfl w.heap.size 5 i0 (.int .u8 0) 1 Try.underlying36 hi hz0 hz1 _ _ _ _ n rfl rfl ?c1 ?c2 ?c3 ?c4 ?c5 ?_)
  case c1 => rfl
  case c2 => rfl
  case c3 => rw [hz2]; omega
  case c4 => unfold maxLen; omega
  case c5 => exact Nat.le_refl _
  intro w1 hown hgrow
  have hr := made_row hown
  have hb : Below w.heap.size w w1 := (Below.refl _ w).grown hgrow (Nat.le_refl _) (by intro k hk; cases hk)
  have hf := hr.full (by simp [bs])
  have hs1 := H.out.later hb
  have hl := H.out.1
  clear hown hgrow
  obtain ⟨w2, hrun, hh, hk, _⟩ := copy_run w1 3 (some ⟨w.heap.size, 0, none⟩) w.heap.size 0 n n a n c (bs (List.replicate n 0)) l hf hs1 (fun _ => rfl) (by simp [bs])
  have hb2 : Below w.heap.size w w2 := hb.trans (hk.below (fun k h => by omega) hb.size)
  have hr2 : RowAt w2 5 w.heap.size n (bs l) := by
    have e : splice (bs (List.replicate n 0)) 0 (bs (l.take n)) = bs l := by
      rw [List.take_of_length_le (by omega)]
      simp [splice, bs]; omega
    rw [e] at hh
    have := RowAt.of_full hh (by simp [bs, maxLen]; omega)
    simpa [bs, hl] using this
  clear hh hf hr hs1 hb hk
  go_wp2
  go_ret
  exact ⟨w.heap.size, rfl, Nat.le_refl _, hr2, hb2⟩

theorem set_row {w : World} {g : Nat} {l : List Int} {i : Nat} (x : Int) (h : w.heap[g]? = some (.cells (bs l).toArray 5 (0, 0))) :
    (w.setCell ⟨g, i, none⟩ (.int .u8 x)).heap[g]? = some (.cells (bs (l.set i x)).toArray 5 (0, 0)) := by
  rw [heap_setCell_same _ _ _ _ _ _ h]
  congr 2
  apply Array.ext'
  simp [bs, List.map_set]

/-- The list with the spare room's bytes behind it. -/
def pad (l : List Int) : List Int := l ++ List.replicate 5 165

theorem pad_src {w : World} {g n : Nat} {l : List Int} (h : RowAt w 5 g (n + 5) (bs (pad l))) (hl : l.length = n) : Src w (some ⟨g, 0, none⟩) n l :=
  ⟨hl, (fun h => by cases h), fun x hx i hi => by
    cases hx
    rw [h.byte (by simp [pad]; omega)]
    simp [pad, List.getD, List.getElem?_append_left (show i < l.length by omega)]⟩
theorem pad_spare {w : World} {g n : Nat} {l : List Int} (h : RowAt w 5 g (n + 5) (bs (pad l))) (hl : l.length = n) (k : Nat) (hk : k < 5) : w.cell? ⟨g, n + k, none⟩ = some (.int .u8 165) := by
  have := h.byte (i := n + k) (by simp [pad]; omega)
  rw [addr_add, Nat.zero_add] at this
  rw [this]
  have e : n + k - l.length = k := by omega
  simp only [pad, List.getD, List.getElem?_append_right (show l.length ≤ n + k by omega), e]
  rw [List.getElem?_replicate, if_pos hk]
  rfl

/-- One byte turned. -/
def bend (l : List Int) (i : Nat) : List Int := l.set i (((l.getD i 0).toNat ^^^ 90 : Nat) : Int)
theorem bend_len (l : List Int) (i : Nat) : (bend l i).length = l.length := by simp [bend]
theorem bend_bytes {l : List Int} (h : Bytes l) (i : Nat) : Bytes (bend l i) := by
  intro x hx
  by_cases hi : i < l.length
  · rcases List.mem_or_eq_of_mem_set hx with h1 | h1
    · exact h x h1
    · subst h1
      have := h l[i] (List.getElem_mem hi)
      have e : (l.getD i 0) = l[i] := by simp [List.getD, hi]
      rw [e]
      have h2 : l[i].toNat ^^^ 90 < 2 ^ 8 := Nat.xor_lt_two_pow (by omega) (by omega)
      omega
  · rw [bend, List.set_eq_of_length_le (by omega)] at hx
    exact h x hx

end Go.Proofs.Ytkkmkogpbhcpmab
