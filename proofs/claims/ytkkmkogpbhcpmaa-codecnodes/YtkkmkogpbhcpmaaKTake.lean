import Derived.Test.YtkkmkogpbhcpmaaKRef
namespace Go.Proofs.Ytkkmkogpbhcpmaa
open Go.RowKit

theorem part_cons {l : List Int} {q m : Nat} (h : q < l.length) : part l q (m + 1) = l.getD q 0 :: part l (q + 1) m := by
  unfold part
  rw [List.drop_eq_getElem_cons h, List.take_succ_cons]
  simp [List.getD, h]

/-- What take answers. -/
def TakeOut (l : List Int) (at_ n : Nat) (r : Int) : Prop := r = ((le (part l at_ n) : Nat) : Int) ∨ (r = -1 ∧ 18014398509481984 < le (part l at_ n))

theorem le_part_mono {l : List Int} {q k j : Nat} (h : q + j + k ≤ l.length) : le (part l (q + j) k) ≤ le (part l q (j + k)) := by
  induction j generalizing q with
  | zero => simp
  | succ j ih =>
    have h1 := ih (q := q + 1) (by omega)
    rw [show j + 1 + k = (j + k) + 1 by omega, part_cons (by omega), le, show q + (j + 1) = q + 1 + j by omega]
    omega

set_option maxRecDepth 20000 in
set_option maxHeartbeats 2000000 in
theorem rtake_low (b o N c : Nat) (l : List Int) (at_ n : Nat) (w : World) (hl : l.length = N) (hb : Bytes l) (hN : N ≤ 1000000) (hn : at_ + n ≤ N) (h8 : n ≤ 8) (hs : ∀ i, i < N → w.cell? ⟨b, o + i, none⟩ = some (.int .u8 (l.getD i 0))) :
    Calls Try.prog 94 #[.slice (some ⟨b, o, none⟩) N c, .int .i64 (at_ : Int), .int .i64 (n : Int)] w fun e w' => (∃ r, e = .returned (.int .i64 r) ∧ TakeOut l at_ n r) ∧ w' = w := by
  have Hs := Hid.mk hs
  clear hs
  go_enter Try.func94, Try.ntmps94
  go_wp2
  go_loopw [7, 8] (fun r i wr => ∃ k : Nat, k ≤ n ∧ i = .int .i64 ((n : Int) - 1 - (k : Int)) ∧ r = .int .i64 ((le (part l (at_ + (n - k)) k) : Nat) : Int) ∧ wr = w ∧ le (part l (at_ + (n - k)) k) ≤ 9223372036854775807) (fun _ i _ => (intOf i + 1).toNat)
  case atStart => exact ⟨0, Nat.zero_le _, by simp, by simp [part, le], rfl, by simp [part, le]⟩
  case round =>
    obtain ⟨k, hk, rfl, rfl, rfl, hv⟩ := hrel
    have hmono := le_part_mono (l := l) (q := at_) (j := n - k) (k := k) (by omega)
    rw [show n - k + k = n by omega] at hmono
    have Hmono := Hid.mk hmono
    clear hmono
    by_cases hlt : k < n
    · have i0 : (0 : Int) ≤ (n : Int) - 1 - (k : Int) := by omega
      by_cases hbig : 18014398509481984 < ((le (part l (at_ + (n - k)) k) : Nat) : Int)
      · have HT : Hid (TakeOut l at_ n (-1)) := .inr ⟨rfl, by have := Hmono.out; omega⟩
        generalize le (part l (at_ + (n - k)) k) = V at *
        go_wp2
        go_ret
        exact ⟨⟨_, rfl, HT.out⟩, rfl⟩
      · have hc := Hs.out (at_ + (n - 1 - k)) (by omega)
        obtain ⟨x, hx, hx1⟩ : ∃ x : Nat, l.getD (at_ + (n - 1 - k)) 0 = (x : Int) ∧ x < 256 := by
          have := hb l[at_ + (n - 1 - k)] (List.getElem_mem (by omega))
          refine ⟨(l.getD (at_ + (n - 1 - k)) 0).toNat, ?_, ?_⟩ <;> simp [List.getD, show at_ + (n - 1 - k) < l.length by omega] <;> omega
        have hstep : le (part l (at_ + (n - (k + 1))) (k + 1)) = x + 256 * le (part l (at_ + (n - k)) k) := by
          rw [part_cons (by omega), le, show at_ + (n - (k + 1)) = at_ + (n - 1 - k) by omega, hx, show at_ + (n - 1 - k) + 1 = at_ + (n - k) by omega]
          simp
        rw [hx] at hc
        have Hstep := Hid.mk hstep
        have eix : (at_ : Int) + ((n : Int) - 1 - (k : Int)) = ((at_ + (n - 1 - k) : Nat) : Int) := by omega
        have ixl : ((at_ + (n - 1 - k) : Nat) : Int) < (N : Int) := by omega
        generalize hV : le (part l (at_ + (n - k)) k) = V at *
        generalize at_ + (n - 1 - k) = Q at *
        clear hstep hV
        go_wp2
        go_roundw
        case rel => exact ⟨k + 1, by omega, by first | (congr 1; omega) | go_num, by rw [Hstep.out]; congr 1; omega, trivial, by rw [Hstep.out]; omega⟩
        case measure => simp [intOf]; omega
    · have i0 : ¬ (0 : Int) ≤ (n : Int) - 1 - (k : Int) := by omega
      have hkn : k = n := by omega
      subst hkn
      have HT : Hid (TakeOut l at_ k ((le (part l (at_ + (k - k)) k) : Nat) : Int)) := .inl (by simp)
      generalize le (part l (at_ + (k - k)) k) = V at *
      go_wp2
      go_ret
      exact ⟨⟨_, rfl, HT.out⟩, rfl⟩

theorem take32 {l : List Int} (hb : Bytes l) {k : Nat} (hk : k + 4 ≤ l.length) {r : Int} (h : TakeOut l k 4 r) : r = ((le (part l k 4) : Nat) : Int) := by
  rcases h with h | ⟨_, h⟩
  · exact h
  · have := le_lt (part_bytes hb k 4)
    rw [part_len hk] at this
    have : (2 : Nat) ^ (8 * 4) = 4294967296 := rfl
    omega

theorem RowAt.of_list {w : World} {g : Nat} {l : List Int} (h : Full w g l) (hm : l.length ≤ 1000000) : RowAt w 5 g l.length (bs l) := by
  have := RowAt.of_full h (by simp [bs, maxLen]; omega)
  simpa [bs] using this
theorem Full.src {w : World} {g : Nat} {l : List Int} (h : Full w g l) (hm : l.length ≤ 1000000) {n : Nat} (hn : n ≤ l.length) : Src w (some ⟨g, 0, none⟩) n (l.take n) :=
  ⟨by simp; omega, (fun h => by cases h), fun x hx i hi => by
    cases hx
    rw [(RowAt.of_list h hm).byte (by omega)]
    simp [List.getD, hi]⟩
theorem Full.lt {w : World} {g : Nat} {l : List Int} (h : Full w g l) : g < w.heap.size := (Array.getElem?_eq_some_iff.1 h).1
theorem Full.far {w w' : World} {g : Nat} {l : List Int} (h : Full w g l) (hb : Below w.heap.size w w') : Full w' g l := (hb.block g h.lt).trans h

/-- Zeros. -/
def zs (n : Nat) : List Int := List.replicate n 0
theorem zs_len (n : Nat) : (zs n).length = n := by simp [zs]
theorem zs_add (a b : Nat) : zs (a + b) = zs a ++ zs b := by simp [zs, List.replicate_append_replicate]
theorem zs_get (n i : Nat) (h : i < n) : (zs n).getD i 0 = 0 := by simp [zs, List.getD, h]
theorem Full.set {w : World} {g : Nat} {l : List Int} (h : Full w g l) (i : Nat) (x : Int) : Full (w.setCell ⟨g, i, none⟩ (.int .u8 x)) g (l.set i x) := set_row x h
theorem Full.cell {w : World} {g : Nat} {l : List Int} (h : Full w g l) {i : Nat} (hi : i < l.length) : w.cell? ⟨g, i, none⟩ = some (.int .u8 (l.getD i 0)) := cell_of_block h (by simp [bs, List.getD, hi])
theorem Full.frozen {w : World} {g : Nat} {l : List Int} (h : Full w g l) (i : Nat) : w.frozen? ⟨g, i, none⟩ = false := frozen_of_block h i
end Go.Proofs.Ytkkmkogpbhcpmaa
