import Derived.Test.YtodleeipefnadacKS5
import Derived.OwnWalk
import Derived.ArgAppend
namespace Go.Proofs.Ytodleeipefnadac
open Go.RowKit

theorem or_u64 (i A X : Nat) (hA : A < 2 ^ i) (h : A + 2 ^ i * X < 18446744073709551616) :
    bits .or .u64 (A : Int) ((2 ^ i * X : Nat) : Int) = ((A + 2 ^ i * X : Nat) : Int) := by
  have q : ∀ z : Nat, z < 18446744073709551616 → (BitVec.ofInt 64 (z : Int)).toNat = z := by
    intro z hz
    rw [BitVec.toNat_ofInt]
    omega
  have h1 : A < 18446744073709551616 := by omega
  have h2 : 2 ^ i * X < 18446744073709551616 := by omega
  show IntKind.u64.wrap ((BitVec.ofInt 64 (A : Int) ||| BitVec.ofInt 64 ((2 ^ i * X : Nat) : Int)).toNat : Int) = _
  rw [BitVec.toNat_or, q A h1, q _ h2, Nat.or_comm, ← Nat.two_pow_add_eq_or_of_lt hA X, Nat.add_comm]
  generalize A + 2 ^ i * X = Z at *
  simp only [IntKind.wrap, IntKind.bits, IntKind.signed]
  simp
  omega
theorem shl_pow (x : Int) (k : Nat) (hk : k < 8) : (x * 2 ^ min ((8 * (k : Int)).toNat) 64) = x * 2 ^ (8 * k) := by
  congr 2
  omega
theorem le_take_succ {l : List Int} {k : Nat} (hk : k < l.length) : le (l.take (k + 1)) = le (l.take k) + 2 ^ (8 * k) * (l.getD k 0).toNat := by
  rw [List.take_succ_eq_append_getElem hk, le_append]
  have : (l.take k).length = k := by simp; omega
  rw [this]
  simp [le, List.getD, hk]
theorem le_small {l : List Int} (hb : Bytes l) (h : l.length ≤ 8) : le l < 18446744073709551616 := by
  have := le_lt hb
  exact Nat.lt_of_lt_of_le this (by have := Nat.pow_le_pow_right (show 0 < 2 by omega) (show 8 * l.length ≤ 64 by omega); simpa using this)

set_option maxHeartbeats 4000000 in
theorem taken_any (b o n c : Nat) (l : List Int) (w : World) (hb : Bytes l) (hl : l.length = n) (hn : n ≤ 8) (hs : ∀ i, i < n → w.cell? ⟨b, o + i, none⟩ = some (.int .u8 (l.getD i 0))) :
    Calls Try.prog 59 #[.slice (some ⟨b, o, none⟩) n c] w fun e w' => e = .returned (.int .u64 ((le l : Nat) : Int)) ∧ w' = w := by
  have Hs := Hid.mk hs
  clear hs
  go_enter Try.func59, Try.ntmps59
  go_wp2
  go_loopw [3, 8] (fun r i wr => ∃ j : Nat, j ≤ n ∧ i = .int .i64 j ∧ wr = w ∧ r = .int .u64 ((le (l.take j) : Nat) : Int)) (fun _ i _ => n - (intOf i).toNat)
  case atStart => exact ⟨0, Nat.zero_le _, rfl, rfl, by simp [le]⟩
  case round =>
    obtain ⟨j, hj, rfl, rfl, rfl⟩ := hrel
    by_cases hlt : j < n
    · have hlt' : (j : Int) < (n : Int) := by omega
      have hc := Hs.out j hlt
      obtain ⟨x, hx, hx1⟩ : ∃ x : Nat, l.getD j 0 = (x : Int) ∧ x < 256 := by
        have := hb.getD j
        exact ⟨(l.getD j 0).toNat, by omega, by omega⟩
      have hsucc := le_take_succ (l := l) (k := j) (by omega)
      have hA : le (l.take j) < 2 ^ (8 * j) := by
        have := le_lt (hb.take j)
        have e : (l.take j).length = j := by simp; omega
        rwa [e] at this
      have hB : le (l.take (j + 1)) < 18446744073709551616 := le_small (hb.take _) (by simp; omega)
      rw [hx] at hc hsucc
      simp only [Int.toNat_natCast] at hsucc
      rw [hsucc] at hB
      have hor := or_u64 (8 * j) _ x hA hB
      rw [← hsucc] at hor
      have hsh := shl_pow (x : Int) j (by omega)
      have hsh2 : ((x : Int) * 2 ^ (8 * j)) = ((2 ^ (8 * j) * x : Nat) : Int) := by rw [Int.natCast_mul, Int.natCast_pow, Int.mul_comm]; rfl
      have hlt2 : ((2 ^ (8 * j) * x : Nat) : Int) % 18446744073709551616 = ((2 ^ (8 * j) * x : Nat) : Int) := by omega
      have hnn : (0 : Int) ≤ 8 * (j : Int) := by omega
      generalize 2 ^ (8 * j) * x = Y at *
      generalize le (l.take j) = A at *
      have Hor := Hid.mk hor
      clear hA hB hsucc
      go_wp2
      go_roundw
      case rel => exact ⟨j + 1, by omega, by go_num, trivial, by rw [← Hor.out]⟩
      case measure => simp [intOf]; omega
    · have hlt' : ¬ (j : Int) < (n : Int) := by omega
      have ej : l.take j = l := List.take_of_length_le (by omega)
      rw [ej] at *
      go_wp2
      go_ret
      exact ⟨rfl, rfl⟩

set_option maxHeartbeats 4000000 in
theorem nextTurn_any (g o : Nat) (a b : Int) (w : World) (ha : w.cell? ⟨g, o, none⟩ = some (.int .u8 a)) (hb : w.cell? ⟨g, o + 511, none⟩ = some (.int .u8 b)) :
    Calls Try.prog 41 #[.pointer (some ⟨g, o, none⟩)] w fun e w' => e = .returned (.int .u8 ((turnOf a b : Nat) : Int)) ∧ w' = w := by
  have hle := turnOf_le a b
  have hmin : ∀ k : Nat, k < turnOf a b → (k : Int) = a ∨ (k : Int) = b := by
    intro k hk
    unfold turnOf at hk
    split at hk
    · omega
    · split at hk
      · next h1 h2 => omega
      · next h1 h2 => omega
  have hne := turnOf_ne a b
  generalize turnOf a b = t at *
  have Hm := Hid.mk hmin
  have Hn := Hid.mk hne
  clear hmin hne
  go_enter Try.func41, Try.ntmps41
  go_wp2
  go_loopw [3] (fun i wr => ∃ k : Nat, k ≤ t ∧ i = .int .u8 k ∧ wr = w) (fun i _ => t - (intOf i).toNat)
  case atStart => exact ⟨0, Nat.zero_le _, rfl, rfl⟩
  case round =>
    obtain ⟨k, hk, rfl, rfl⟩ := hrel
    by_cases hlt : k < t
    · by_cases h1 : (k : Int) = a
      · have q1 : ((k : Int) == a) = true := by simpa using h1
        clear h1
        go_wp2
        go_roundw
        case rel => exact ⟨k + 1, by omega, by go_num, trivial⟩
        case measure => simp [intOf]; omega
      · have h2 : (k : Int) = b := (Hm.out k hlt).resolve_left h1
        have q1 : ((k : Int) == a) = false := by simpa using h1
        have q2 : ((k : Int) == b) = true := by simpa using h2
        clear h1 h2
        go_wp2
        go_roundw
        case rel => exact ⟨k + 1, by omega, by go_num, trivial⟩
        case measure => simp [intOf]; omega
    · obtain rfl : k = t := by omega
      have q1 : ((k : Int) == a) = false := by simpa using Hn.out.1
      have q2 : ((k : Int) == b) = false := by simpa using Hn.out.2
      go_wp2
      go_ret
      exact ⟨rfl, rfl⟩

theorem turn_at {w : World} {T : TypeId} {g : Nat} {l : List Int} (h : Blk w T g l) (i : Nat) (hi : i < l.length) : ∃ x : Int, l.getD i 0 = x ∧ w.cell? ⟨g, i, none⟩ = some (.int .u8 x) := ⟨_, rfl, h.cell hi⟩

set_option maxRecDepth 20000 in
set_option maxHeartbeats 4000000 in
theorem ssum_any (g : Nat) (T : TypeId) (l : List Int) (w : World) (hb : Blk w T g l) (hl : l.length = 512) (hby : Bytes l) :
    Calls Try.prog 55 #[.pointer (some ⟨g, 0, none⟩)] w fun e w' => e = .returned (.int .i64 ((sumOf (stextOf l) : Nat) : Int)) ∧ Below w.heap.size w w' := by
  obtain ⟨i0, hi, hz0, hz1, hz2⟩ := info_parts infoU8
  have h1 := cut_any g 0 1 3 w (by omega) (by omega)
  have h2 := cut_any g 0 7 511 w (by omega) (by omega)
  have s1 := hb.src (o := 1) (n := 2) (by omega)
  have s2 := hb.src (o := 7) (n := 504) (by omega)
  have b1 : Bytes ((l.drop 1).take 2) := (hby.drop _).take _
  have b2 : Bytes ((l.drop 7).take 504) := (hby.drop _).take _
  unfold stextOf
  generalize (l.drop 1).take 2 = X at *
  generalize (l.drop 7).take 504 = Y at *
  have S1 := Hid.mk s1
  have S2 := Hid.mk s2
  clear hb s1 s2
  go_enter Try.func55, Try.ntmps55
  go_wp2_with fail
  refine h1.mono ?_
  rintro e w1 ⟨rfl, hw⟩
  have hw' := hw.symm
  subst hw'
  clear h1 hw
  go_wp2_with fail
  refine h2.mono ?_
  rintro e w1 ⟨rfl, hw⟩
  have hw' := hw.symm
  subst hw'
  clear h2 hw
  go_wp2_with (at_builtin; refine wpList_append_grows _ rfl _ _ 22 rfl 5 i0 (.int .u8 0) 1 1 Try.underlying22 hi hz0 hz1 hz2 rfl (by decide) (some ⟨g, 1, none⟩) 2 2 (bs X) rfl ?m0 ?m1 ?m2 ⟨g, 7, none⟩ 504 504 (bs Y) rfl ?m3 ?m4 ?m5 ?m6 ?m7 ?m8 ?_)
  case m0 => intro h; cases h
  case m1 => have := S1.out.1; simpa [bs] using this
  case m2 =>
    intro b hb j u hj
    cases hb
    obtain ⟨hj1, rfl⟩ := bs_getElem hj
    have := S1.out.1
    exact S1.out.2.2 _ rfl j (by omega)
  case m3 => have := S2.out.1; simpa [bs] using this
  case m4 =>
    intro j u hj
    obtain ⟨hj1, rfl⟩ := bs_getElem hj
    have := S2.out.1
    exact S2.out.2.2 _ rfl j (by omega)
  case m5 => exact bs_one _
  case m6 => omega
  case m7 => unfold maxLen; omega
  case m8 => omega
  intro v' w1 hown hgrow
  have hO : Own w1 w.heap.size v' (X ++ Y) := own_of (l := X ++ Y) (by rw [bs_append]; exact hown) (by have := S1.out.1; have := S2.out.1; simp; omega) rfl
  obtain ⟨a, c, rfl, hsrc, _, _⟩ := hO.src
  have hs := sum_any a (X ++ Y).length c (X ++ Y) w1 (b1.append b2) (by have := S1.out.1; have := S2.out.1; simp; omega) hsrc
  have HB : Hid (Below w.heap.size w w1) := (Below.refl _ w).grown hgrow (Nat.le_refl _) (by intro k hk; cases hk)
  clear hown hgrow hO hsrc S1 S2
  generalize (X ++ Y).length = N at *
  obtain ⟨E, hE⟩ : ∃ E, E = sumOf (X ++ Y) := ⟨_, rfl⟩
  rw [← hE] at hs
  have HE := Hid.mk hE
  clear hE
  go_wp2_with fail
  refine hs.mono ?_
  rintro e w2 ⟨rfl, hb2⟩
  have HB2 : Hid (Below w.heap.size w w2) := HB.out.trans (hb2.mono HB.out.size)
  clear hs hb2 HB
  go_wp2
  go_ret
  exact ⟨by rw [← HE.out]; rfl, HB2.out⟩
end Go.Proofs.Ytodleeipefnadac
