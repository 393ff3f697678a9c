import Derived.Test.YtkkmkogpbhcpmabKBu1
import Derived.RegionTactic
import Derived.BigRegion
namespace Go.Proofs.Ytkkmkogpbhcpmab
open Go.RowKit

/-- What the turning of bits has come to: p are the bits that were turned over. -/
structure Turn (w wr : World) (g n : Nat) (l t : List Int) (at_ k p : Nat) : Prop where
  row : RowAt wr 5 g n (bs t)
  len : t.length = n
  bytes : Bytes t
  word : le t = le l ^^^ 2 ^ at_ * p
  lt : p < 2 ^ k
  below : Below w.heap.size w wr
  far : w.heap.size ≤ g
theorem Turn.skip {w wr : World} {g n : Nat} {l t : List Int} {at_ k p : Nat} (h : Turn w wr g n l t at_ k p) : Turn w wr g n l t at_ (k + 1) p :=
  ⟨h.row, h.len, h.bytes, h.word, by have := h.lt; rw [Nat.pow_succ]; omega, h.below, h.far⟩
theorem Turn.flip {w wr : World} {g n : Nat} {l t : List Int} {at_ k p : Nat} (h : Turn w wr g n l t at_ k p) (hi : (at_ + k) / 8 < n) (hn : n ≤ 1000) (x : Nat) (hx : t.getD ((at_ + k) / 8) 0 = (x : Int)) :
    Turn w (wr.setCell ⟨g, (at_ + k) / 8, none⟩ (.int .u8 ((x ^^^ 2 ^ ((at_ + k) % 8) : Nat) : Int))) g n l (t.set ((at_ + k) / 8) ((x ^^^ 2 ^ ((at_ + k) % 8) : Nat) : Int)) at_ (k + 1) (p + 2 ^ k) := by
  have hlen := h.len
  have hfull := h.row.full (by simp [bs, hlen])
  have hset := set_row (i := (at_ + k) / 8) ((x ^^^ 2 ^ ((at_ + k) % 8) : Nat) : Int) hfull
  have hb : 0 ≤ t.getD ((at_ + k) / 8) 0 ∧ t.getD ((at_ + k) / 8) 0 < 256 := by
    have := h.bytes t[(at_ + k) / 8] (List.getElem_mem (by omega))
    simpa [List.getD, hlen, hi] using this
  have hfl := byte_flip hb ((at_ + k) % 8) (by omega)
  have hle := le_flip h.bytes (at_ + k) (by omega)
  rw [hx, Int.toNat_natCast] at hfl hle
  refine ⟨?_, by rw [List.length_set]; exact hlen, ?_, ?_, ?_, ?_, h.far⟩
  · have := RowAt.of_full hset (by simp [bs, maxLen]; omega)
    simpa [bs, hlen] using this
  · intro y hy
    rcases List.mem_or_eq_of_mem_set hy with hy | hy
    · exact h.bytes y hy
    · rw [hy]; omega
  · rw [hle, h.word, Nat.xor_assoc, Nat.pow_add, ← mul_xor]
    have := add_xor k 1 p h.lt
    rw [Nat.mul_one] at this
    rw [this]
  · have := h.lt
    rw [Nat.pow_succ]
    omega
  · exact below_put h.below h.far h.below.size _

theorem Turn.drew {w wr : World} {g n : Nat} {l t : List Int} {at_ k p : Nat} (h : Turn w wr g n l t at_ k p) : Turn w wr.drew g n l t at_ k p :=
  ⟨h.row.agree rfl, h.len, h.bytes, h.word, h.lt, ⟨h.below.os, h.below.tape, h.below.output, h.below.size, h.below.block⟩, h.far⟩
theorem bit_pow (x J : Nat) (hx : x < 256) (hJ : J < 8) : bits .xor .u8 (x : Int) ((2 : Int) ^ J % 256) = ((x ^^^ 2 ^ J : Nat) : Int) := by
  have h1 : 2 ^ J ≤ 2 ^ 7 := Nat.pow_le_pow_right (by omega) (by omega)
  have h2 : (2 : Int) ^ J = ((2 ^ J : Nat) : Int) := by simp
  rw [h2]
  generalize 2 ^ J = m at *
  have h3 : ((m : Int) % 256) = (m : Int) := by omega
  rw [h3]
  exact u8_xor_nat x m hx (by omega)
theorem pow_pos' (p k : Nat) : decide (p + 2 ^ k ≠ 0) = true := by
  have : 0 < 2 ^ k := Nat.pow_pos (by omega)
  exact decide_eq_true (by omega)

set_option maxRecDepth 20000 in
set_option maxHeartbeats 4000000 in
theorem turn_any (a : Option Addr) (n c : Nat) (l : List Int) (at_ : Nat) (pat : Int) (w : World) (hn : n ≤ 1000) (ha : at_ < 8000) (hs : Src w a n l) (hby : Bytes l) :
    Calls Try.prog 22 #[.slice a n c, .int .i64 (at_ : Int), .int .i64 pat] w fun e w' => ∃ g t p, e = .returned (.tuple #[.slice (some ⟨g, 0, none⟩) n n, .bool (decide (p ≠ 0))]) ∧ Turn w w' g n l t at_ 32 p := by
  obtain ⟨i0, hi, hz0, hz1, hz2⟩ := info_parts infoU8
  have H := Hid.mk hs
  clear hs
  go_enter Try.func22, Try.ntmps22
  go_wp2_with (at_make; refine wpList_make_full _ rfl _ _ 36 rfl w.heap.size 5 i0 (.int .u8 0) 1 Try.underlying36 hi hz0 hz1 _ _ _ _ n rfl rfl ?c1 ?c2 ?c3 ?c4 ?c5 ?_)
  case c1 => rfl
  case c2 => rfl
  case c3 => rw [hz2]; omega
  case c4 => unfold maxLen; omega
  case c5 => exact Nat.le_refl _
  intro w1 hown hgrow
  have hr := made_row hown
  have hb : Below w.heap.size w w1 := (Below.refl _ w).grown hgrow (Nat.le_refl _) (by intro k hk; cases hk)
  have hf := hr.full (by simp [bs])
  have hs1 := H.out.later hb
  have hl := H.out.1
  clear hown hgrow
  obtain ⟨w2, hrun, hh, hk, _⟩ := copy_run w1 3 (some ⟨w.heap.size, 0, none⟩) w.heap.size 0 n n a n c (bs (List.replicate n 0)) l hf hs1 (fun _ => rfl) (by simp [bs])
  have hb2 : Below w.heap.size w w2 := hb.trans (hk.below (fun k h => by omega) hb.size)
  have hr2 : RowAt w2 5 w.heap.size n (bs l) := by
    have e : splice (bs (List.replicate n 0)) 0 (bs (l.take n)) = bs l := by
      rw [List.take_of_length_le (by omega)]
      simp [splice, bs]; omega
    rw [e] at hh
    have := RowAt.of_full hh (by simp [bs, maxLen]; omega)
    simpa [bs, hl] using this
  have HT : Hid (Turn w w2 w.heap.size n l l at_ 0 0) := ⟨hr2, hl, hby, by simp, by omega, hb2, Nat.le_refl _⟩
  clear hh hf hr hs1 hb hk hb2 hr2 hi hz0 hz1 hz2 H
  go_wp2
  clear hrun
  go_loopw [9, 10] (fun v i wr => ∃ k : Nat, k ≤ 32 ∧ i = .int .i64 k ∧ ∃ t p, v = .bool (decide (p ≠ 0)) ∧ Turn w wr w.heap.size n l t at_ k p) (fun _ i _ => 32 - (intOf i).toNat)
  case atStart => exact ⟨0, Nat.zero_le _, rfl, l, 0, by simp, HT.out⟩
  case round =>
    clear HT
    obtain ⟨k, hk, rfl, t, p, rfl, hT⟩ := hrel
    have HT := Hid.mk hT
    by_cases hlt : k < 32
    · have hlt' : (k : Int) < 32 := by omega
      have hk0 : (0 : Int) ≤ (k : Int) := by omega
      clear hT
      go_wp2
      · have hi8 : (at_ + k) / 8 < n := by omega
        have hlen := HT.out.len
        obtain ⟨x, hx, hx1⟩ : ∃ x : Nat, t.getD ((at_ + k) / 8) 0 = (x : Int) ∧ x < 256 := by
          have := HT.out.bytes t[(at_ + k) / 8] (List.getElem_mem (by omega))
          refine ⟨(t.getD ((at_ + k) / 8) 0).toNat, ?_, ?_⟩ <;> simp [List.getD, hlen, hi8] <;> omega
        have hc : wr.cell? ⟨w.heap.size, (at_ + k) / 8, none⟩ = some (.int .u8 (x : Int)) := by
          have := HT.out.row.byte (i := (at_ + k) / 8) (by omega)
          rw [addr_add, Nat.zero_add, hx] at this
          exact this
        have hf := HT.out.row.frozen ((at_ + k) / 8)
        have HF := Hid.mk (HT.out.flip hi8 hn x hx)
        have e8 : ((at_ : Int) + (k : Int)) / 8 = (((at_ + k) / 8 : Nat) : Int) := by omega
        have em : ((at_ : Int) + (k : Int)) % 8 = (((at_ + k) % 8 : Nat) : Int) := by omega
        have em' : ((at_ : Int) + (k : Int)).tmod 8 = (((at_ + k) % 8 : Nat) : Int) := by rw [Int.tmod_eq_emod_of_nonneg (by omega)]; exact em
        have hm8 : (at_ + k) % 8 < 8 := by omega
        have hi8' : ((((at_ + k) / 8 : Nat)) : Int) < (n : Int) := by omega
        have HE := Hid.mk (And.intro hi8 (And.intro hx hlen))
        clear hx hlen hi8
        generalize (at_ + k) / 8 = I at *
        generalize (at_ + k) % 8 = J at *
        have hbits := bit_pow x J hx1 hm8
        go_region
        go_wp2
        go_roundw
        case rel => exact ⟨k + 1, by omega, by go_num, _, p + 2 ^ k, by rw [pow_pos'], HF.out.drew⟩
        case measure => simp [intOf]; omega
      all_goals
        go_roundw
        case rel => exact ⟨k + 1, by omega, by go_num, t, p, by simp, HT.out.skip⟩
        case measure => simp [intOf]; omega
    · have hlt' : ¬ (k : Int) < 32 := by omega
      have hk32 : k = 32 := by omega
      subst hk32
      clear hT
      go_wp2
      go_ret2
      exact ⟨_, t, p, rfl, HT.out⟩
end Go.Proofs.Ytkkmkogpbhcpmab
