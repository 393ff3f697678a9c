import Derived.Test.YtpihehpmejicaaaPA7
namespace Go.Proofs.Ytpihehpmejicaaa
open Go.RowKit Go.Maps

theorem told_new (w : World) (B : Nat) (l : List (List UInt8)) (hl : l.length ≤ maxLen) (hB : B ≤ w.heap.size) : Told B (w.alloc (.cells (strs l).toArray 9)) (.slice (some ⟨w.heap.size, 0, none⟩) l.length l.length) l :=
  ⟨by simp [strs], .inr ⟨w.heap.size, l.length, _, rfl, hB, heap_alloc_new w _, Nat.le_refl _, hl, by simp [strs], by simp only [strs, Nat.mul_one]; exact List.take_of_length_le (by simp)⟩⟩

theorem splitAns_len (l : List UInt8) : (splitAns l).length ≤ 1024 := by
  unfold splitAns
  split
  · rename_i h
    unfold splitErr at h
    split at h
    · exact absurd h (by decide)
    · have := ptsOf_len l
      omega
  · simp

set_option maxHeartbeats 4000000 in
theorem walkSplits_any (a : Option Addr) (n c : Nat) (w : World) (hs : Texts w w.heap.size a n) (hn : 16 * n ≤ 140737488355328) :
    Calls Try.prog 3 #[.slice a n c] w fun e w' => e = .returned (.bool true) ∧ Below w.heap.size w w' := by
  have h1 := split_any ⟨#[47, 97, 47, 47, 98, 47, 46]⟩ w
  rw [show splitErr (⟨#[47, 97, 47, 47, 98, 47, 46]⟩ : ByteArray).data.toList = 0 by decide, show splitAns (⟨#[47, 97, 47, 47, 98, 47, 46]⟩ : ByteArray).data.toList = [[97], [98]] by decide] at h1
  have Hs := Hid.mk (And.intro hs hn)
  clear hs hn
  go_enter Try.func3, Try.ntmps3
  go_wp2_with fail
  refine h1.mono ?_
  rintro e w1 ⟨v1, rfl, ht1, hb1⟩
  have h2 := same_any (w1.alloc (.cells (strs [[97], [98]]).toArray 9)) (ht1.later ((Below.refl _ _).alloc (Nat.le_refl _) _)) (told_new w1 0 [[97], [98]] (by decide) (Nat.zero_le _)) (by decide)
  have HB := Hid.mk hb1
  clear h1 ht1 hb1
  go_wp2_with fail
  refine h2.mono ?_
  rintro e w2 ⟨rfl, hb2⟩
  have hB2 : Below w.heap.size w w2 := (HB.out.alloc HB.out.size _).trans (hb2.mono (by have := HB.out.size; simp; omega))
  have HB2 := Hid.mk hB2
  clear hB2 hb2 h2 HB
  go_wp2
  go_loopw [5] (fun iv wr => ∃ k : Nat, k ≤ n ∧ iv = .int .i64 k ∧ Below w.heap.size w wr) (fun iv _ => n - (intOf iv).toNat)
  case atStart => exact ⟨0, Nat.zero_le _, rfl, HB2.out⟩
  case round =>
    obtain ⟨k, hk, rfl, hbr⟩ := hrel
    by_cases hlt : k < n
    · have hlt' : (k : Int) < (n : Int) := by omega
      obtain ⟨x, rfl⟩ : ∃ x, a = some x := by
        cases a with
        | none => have := Hs.out.1.1 rfl; omega
        | some x => exact ⟨x, rfl⟩
      obtain ⟨b, o, rfl, hbB, s, q0, _⟩ := (Hs.out.1.far hbr).2 x rfl k hlt
      have hp := split_any s wr
      have hlen := splitAns_len s.data.toList
      have hself : (splitErr s.data.toList != splitErr s.data.toList) = false := by simp
      have hr := fun w => rsplit_any s w
      generalize splitErr s.data.toList = E at *
      generalize splitAns s.data.toList = A at *
      have hw64 : wrap64 ((k : Int) + 1) = ((k + 1 : Nat) : Int) := by
        have := Hs.out.2
        rw [IntWalk.wrap64_in _ (by omega)]
        rfl
      have HB := Hid.mk hbr
      clear hbr
      go_wp2_with fail
      refine hp.mono ?_
      rintro e w3 ⟨v3, rfl, ht3, hb3⟩
      have q1 : w3.cell? ⟨b, o + k, none⟩ = some (.string s) := cell_later hb3 q0
      have HB3 := Hid.mk (And.intro ht3 (HB.out.trans (hb3.mono HB.out.size)))
      clear ht3 hb3 hp q0
      go_wp2_with fail
      refine (hr w3).mono ?_
      rintro e w4 ⟨v4, rfl, ht4, hb4⟩
      have h5 := same_any w4 (HB3.out.1.later hb4) ht4 (by omega)
      have HB4 := Hid.mk (HB3.out.2.trans (hb4.mono HB3.out.2.size))
      clear ht4 hb4 q1 hlen
      go_wp2_with fail
      refine h5.mono ?_
      rintro e w5 ⟨rfl, hb5⟩
      go_wp2
      go_roundw
      case rel => exact ⟨k + 1, by omega, (by first | go_num | rw [hw64]), HB4.out.trans (hb5.mono HB4.out.size)⟩
      case measure => rw [hw64]; exact meas (S := n) (i := k) (k := k + 1) hlt (by omega)
    · have hlt' : ¬ (k : Int) < (n : Int) := by omega
      go_wp2
      go_ret
      exact ⟨rfl, hbr⟩
end Go.Proofs.Ytpihehpmejicaaa
