import Derived.Test.YtimfidcpljimpaaKSum
import Derived.Test.YtimfidcpljimpaaKRSum
import Derived.Test.YtimfidcpljimpaaKHelp
import Derived.Test.YtimfidcpljimpaaKLater
import Derived.Test.YtimfidcpljimpaaKOpenL
import Derived.Lib.SlBytesConst
namespace Go.Proofs.Ytimfidcpljimpaa
open Go.RowKit

set_option maxHeartbeats 8000000 in
theorem codecSums_any (a : Option Addr) (n c : Nat) (w : World) (hs : Lists w w.heap.size a n) (hn : 24 * n ≤ 140737488355328) :
    Calls Try.prog 5 #[.slice a n c] w fun e w' => e = .returned (.bool true) ∧ Below w.heap.size w w' := by
  have Hs := Hid.mk hs
  clear hs
  have h1 : ∀ (w1 : World) (fr : Nat × Nat) (g : Nat), w1.heap[g]? = some (.cells #[.int .u8 49, .int .u8 50, .int .u8 51, .int .u8 52, .int .u8 53, .int .u8 54, .int .u8 55, .int .u8 56, .int .u8 57] 5 fr) → ∀ c, Calls Try.prog 11 #[.slice (some ⟨g, 0, none⟩) 9 c] w1 fun e w' => e = .returned (.int .i64 3808858755) ∧ Below w1.heap.size w1 w' := by
    intro w1 fr g hg c
    have := sum_any (some ⟨g, 0, none⟩) 9 c [49, 50, 51, 52, 53, 54, 55, 56, 57] w1 (by intro x hx; simp at hx; omega) (by omega) ⟨rfl, (fun h => by cases h), fun x hx i hi => by
      cases hx
      rw [addr_add, Nat.zero_add]
      simp only [World.cell?, hg]
      match i, hi with
      | 0, _ => rfl
      | 1, _ => rfl
      | 2, _ => rfl
      | 3, _ => rfl
      | 4, _ => rfl
      | 5, _ => rfl
      | 6, _ => rfl
      | 7, _ => rfl
      | 8, _ => rfl⟩
    rw [show sumOf [49, 50, 51, 52, 53, 54, 55, 56, 57] = 3808858755 by decide +kernel] at this
    exact this
  have h2 : ∀ w1 : World, Calls Try.prog 11 #[.slice none 0 0] w1 fun e w' => e = .returned (.int .i64 0) ∧ Below w1.heap.size w1 w' := by
    intro w1
    have := sum_any none 0 0 [] w1 (by intro x hx; cases hx) (by omega) ⟨rfl, fun _ => rfl, fun x hx => by cases hx⟩
    rw [show sumOf [] = 0 by decide +kernel] at this
    exact this
  have hcv := Lib.run_convert_bytes_const (P := Try.prog) w 31 5 #[.int .u8 49, .int .u8 50, .int .u8 51, .int .u8 52, .int .u8 53, .int .u8 54, .int .u8 55, .int .u8 56, .int .u8 57] 9 9 Try.underlying31 Try.underlying5
  have H1 := Hid.mk h1
  have H2 := Hid.mk h2
  clear h1 h2
  go_enter Try.func5, Try.ntmps5
  go_wp2_with fail
  refine (H1.out _ _ w.heap.size (heap_alloc_new _ _) 9).mono ?_
  rintro e w1 ⟨rfl, hb1⟩
  have hB1 : Below w.heap.size w w1 := ((Below.refl _ w).alloc (Nat.le_refl _) _).trans (hb1.mono (by simp))
  clear hb1 hcv
  go_wp2_with fail
  refine (H2.out _).mono ?_
  rintro e w2 ⟨rfl, hb2⟩
  have hB2 : Below w.heap.size w w2 := hB1.trans (hb2.mono hB1.size)
  clear hb2 hB1 H1 H2
  go_wp2
  go_loopw [3] (fun i wr => ∃ k : Nat, k ≤ n ∧ i = .int .i64 k ∧ Below w.heap.size w wr) (fun i _ => n - (intOf i).toNat)
  case atStart => exact ⟨0, Nat.zero_le _, rfl, hB2⟩
  case round =>
    clear hB2
    obtain ⟨k, hk, rfl, hbr⟩ := hrel
    by_cases hlt : k < n
    · have hlt' : (k : Int) < (n : Int) := by omega
      obtain ⟨x, rfl⟩ : ∃ x, a = some x := by
        cases a with
        | none => have := Hs.out.1 rfl; omega
        | some x => exact ⟨x, rfl⟩
      obtain ⟨b, o, rfl, hbB, a', n', c', l, q0, hsrc, hby, hold, hn', hcap⟩ := (Hs.out.far hbr).2 x rfl k hlt
      have ht := twin_any a' n' c' l wr hn' hsrc
      have HB := Hid.mk hbr
      have Hsrc := Hid.mk hsrc
      clear hbr hsrc
      go_wp2_with fail
      refine ht.mono ?_
      rintro e w3 ⟨g, rfl, hg, hrow, hb3⟩
      have hc3 : ∀ q : Later w3, q.to.cell? ⟨b, o + k, none⟩ = some (.slice a' n' c') := fun q => cell_later q.h (cell_later hb3 q0)
      have hs3 := Hsrc.out.later hb3
      have hll := hs3.1
      have p1 : Hid (∀ q : Later w3, Calls Try.prog 11 #[.slice (some ⟨g, 0, none⟩) n' (n' + 5)] q.to fun e w' => e = .returned (.int .i64 ((sumOf l : Nat) : Int)) ∧ Below q.to.heap.size q.to w') := fun q => sum_any _ _ _ l q.to hby hn' ((pad_src hrow hll).later q.h)
      have p2 : Hid (∀ q : Later w3, Calls Try.prog 13 #[.slice a' n' c'] q.to fun e w' => e = .returned (.int .i64 ((sumOf l : Nat) : Int)) ∧ Below q.to.heap.size q.to w') := fun q => rsum_any _ _ _ l q.to hby hn' (hs3.later q.h)
      have p3 : Hid (∀ q : Later w3, Calls Try.prog 14 #[.slice (some ⟨g, 0, none⟩) n' (n' + 5), .slice a' n' c', .int .i64 5] q.to fun e w' => e = .returned (.bool true) ∧ Below q.to.heap.size q.to w') := fun q => whole_any g n' a' c' l q.to hn' (hrow.agree (q.h.block g hrow.lt)) (hs3.later q.h)
      have Hs3 := Hid.mk hs3
      have HB3 : Hid (Below w.heap.size w w3) := HB.out.trans (hb3.mono HB.out.size)
      have hself : (((sumOf l : Nat) : Int) != ((sumOf l : Nat) : Int)) = false := by simp
      have hc3' := hc3
      clear ht hb3 hs3 hrow q0 HB Hsrc
      generalize sumOf l = E at *
      go_wp2_with fail
      have hne := Later.some w3
      refine wp_region_later (by kernel_rfl) (by kernel_rfl) ?_
      repeat (first | go_big_quiet_skip | (go_big_quiet_want; go_big_quiet_op; first | go_big_quiet_on | (apply Exists.intro; refine ⟨fun q => ?_, ?_⟩; (first | exact Calls.later_of (p1.out q) | exact Calls.later_of (p2.out q) | exact Calls.later_of (p3.out q)); go_big_quiet_on)))
      refine wpQuiet_nil ?_
      rintro _ ⟨q, rfl⟩
      clear p1 p2 p3 hc3
      have q1 : q.to.cell? ⟨b, o + k, none⟩ = some (.slice a' n' c') := hc3' q
      have ht := tight_any a' n' c' l q.to hn' (Hs3.out.later q.h)
      go_wp2_with fail
      refine ht.mono ?_
      rintro e w4 ⟨g4, rfl, hg4, hrow4, hb4⟩
      have HB4 : Below w.heap.size w w4 := (HB3.out.trans (q.h.mono HB3.out.size)).trans (hb4.mono (Nat.le_trans HB3.out.size q.h.size))
      have hg4' : w.heap.size ≤ g4 := Nat.le_trans (Nat.le_trans HB3.out.size q.h.size) hg4
      have hL : Hid (∃ l', RowAt w4 5 g4 n' (bs l') ∧ l'.length = n' ∧ Bytes l') := ⟨l, hrow4, hll, hby⟩
      clear ht hb4 hrow4 Hs3 HB3 hg4 q1
      go_wp2
      go_loopw [6] (fun i wx => ∃ m : Nat, m ≤ 4 ∧ i = .int .i64 m ∧ Below w.heap.size w wx ∧ ∃ l', RowAt wx 5 g4 n' (bs l') ∧ l'.length = n' ∧ Bytes l') (fun i _ => 4 - (intOf i).toNat)
      case atStart => exact ⟨0, Nat.zero_le _, rfl, HB4, hL.out⟩
      case round =>
        clear HB4 hL
        obtain ⟨m, hm, rfl, hbx, l', hrow, hll', hby'⟩ := hrel
        by_cases hlm : m < 4
        · have hlm' : (m : Int) < 4 := by omega
          have hsr : ∀ wz : World, RowAt wz 5 g4 n' (bs l') → Src wz (some ⟨g4, 0, none⟩) n' l' := fun wz h => by have := h.src; rw [hll'] at this; exact this
          have hp1 := sum_any (some ⟨g4, 0, none⟩) n' n' l' wr hby' hn' (hsr _ hrow)
          have Hrow := Hid.mk hrow
          have HB5 := Hid.mk hbx
          have Hsr := Hid.mk hsr
          clear hrow hbx hsr
          go_wp2_with fail
          refine hp1.mono ?_
          rintro e w5 ⟨rfl, hb5⟩
          have hrow5 := Hrow.out.agree (hb5.block g4 Hrow.out.lt)
          have hp2 := rsum_any (some ⟨g4, 0, none⟩) n' n' l' w5 hby' hn' (Hsr.out _ hrow5)
          have HB6 : Below w.heap.size w w5 := HB5.out.trans (hb5.mono HB5.out.size)
          have Hrow5 := Hid.mk hrow5
          have hself : (((sumOf l' : Nat) : Int) != ((sumOf l' : Nat) : Int)) = false := by simp
          generalize sumOf l' = E' at *
          clear hp1 hb5 hrow5 Hrow HB5
          go_wp2_with fail
          refine hp2.mono ?_
          rintro e w6 ⟨rfl, hb6⟩
          have hrow6 := Hrow5.out.agree (hb6.block g4 Hrow5.out.lt)
          have HB7 : Below w.heap.size w w6 := HB6.trans (hb6.mono HB6.size)
          clear hp2 hb6 Hrow5 HB6
          by_cases hm2 : m < 2
          · have hm2' : (m : Int) < 2 := by omega
            have hp3 := bent_any g4 n' (7 * (k : Int)) (7 * k) l' w6 (fun _ => by omega) hn' (by omega) hby' hll' hrow6
            clear hrow6
            go_wp2_with fail
            refine hp3.mono ?_
            rintro e w7 ⟨z, l'', rfl, hrow7, hll7, hby7, hk7⟩
            have HB8 : Hid (Below w.heap.size w w7) := HB7.trans (hk7.below (fun j hj => by omega) HB7.size)
            have HL : Hid (∃ l', RowAt w7 5 g4 n' (bs l') ∧ l'.length = n' ∧ Bytes l') := ⟨l'', hrow7, hll7, hby7⟩
            clear hp3 hrow7 hk7 HB7
            go_wp2
            go_roundw
            case rel => exact ⟨m + 1, by omega, by go_num, HB8.out, HL.out⟩
            case measure => simp [intOf]; omega
          · have hm2' : ¬ (m : Int) < 2 := by omega
            have hp3 := bent_any g4 n' ((n' : Int) - 1) (n' - 1) l' w6 (fun _ => by omega) hn' (by omega) hby' hll' hrow6
            clear hrow6
            go_wp2_with fail
            refine hp3.mono ?_
            rintro e w7 ⟨z, l'', rfl, hrow7, hll7, hby7, hk7⟩
            have HB8 : Hid (Below w.heap.size w w7) := HB7.trans (hk7.below (fun j hj => by omega) HB7.size)
            have HL : Hid (∃ l', RowAt w7 5 g4 n' (bs l') ∧ l'.length = n' ∧ Bytes l') := ⟨l'', hrow7, hll7, hby7⟩
            clear hp3 hrow7 hk7 HB7
            go_wp2
            go_roundw
            case rel => exact ⟨m + 1, by omega, by go_num, HB8.out, HL.out⟩
            case measure => simp [intOf]; omega
        · have hlm' : ¬ (m : Int) < 4 := by omega
          have HB5 := Hid.mk hbx
          clear hbx
          go_wp2
          go_roundw
          case rel => exact ⟨k + 1, by omega, by go_num, HB5.out⟩
          case measure => simp [intOf]; omega
    · have hlt' : ¬ (k : Int) < (n : Int) := by omega
      go_wp2
      go_ret
      exact ⟨rfl, hbr⟩
end Go.Proofs.Ytimfidcpljimpaa
