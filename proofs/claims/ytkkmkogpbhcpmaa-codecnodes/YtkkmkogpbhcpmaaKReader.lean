import Derived.Test.YtkkmkogpbhcpmaaKSum
import Derived.Test.YtkkmkogpbhcpmaaKLater
namespace Go.Proofs.Ytkkmkogpbhcpmaa
open Go.RowKit

theorem must_t (w : World) : Calls Try.prog 112 #[.bool true] w fun e w' => e = .returned (.tuple #[]) ∧ w' = w := by
  go_enter Try.func112, Try.ntmps112
  go_wp2
  go_end0
  exact ⟨rfl, rfl⟩
/-- How a reader gives up. -/
abbrev gaveUp : List PanicEntry := [{ v := .iface 32 (.int .i64 6), recovered := false }]
theorem must_f (w : World) : Calls Try.prog 112 #[.bool false] w fun e w' => e = .panicked gaveUp ∧ w' = w := by
  go_enter Try.func112, Try.ntmps112
  go_wp2
  exact ⟨rfl, rfl, rfl⟩

/-- A reader at p, over the bytes at b, o; its place k. -/
def RdAt (w : World) (p b o n c k : Nat) : Prop := w.heap[p]? = some (.cells #[.slice (some ⟨b, o, none⟩) n c, .int .i64 (k : Int)] 144 (0, 0))

set_option maxHeartbeats 2000000 in
theorem take_ok (p b o n c k m : Nat) (w : World) (h : RdAt w p b o n c k) (hk : k + m ≤ n) (hn : n ≤ c) (hkc : k < c) (hc : n ≤ 1000000) (hcc : c ≤ 9223372036854775807) :
    Calls Try.prog 121 #[.pointer (some ⟨p, 0, none⟩), .int .i64 (m : Int)] w fun e w' => e = .returned (.slice (some ⟨b, o + k, none⟩) m (c - k)) ∧ RdAt w' p b o n c (k + m) ∧ Keeps (fun j => j = p) w w' := by
  have c0 := cell_of_block h (j := 0) rfl
  have c1 := cell_of_block h (j := 1) rfl
  have f1 := frozen_of_block h 1
  have hle : decide ((m : Int) ≤ (n : Int) - (k : Int)) = true := by simp; omega
  have hle' : (m : Int) ≤ (n : Int) - (k : Int) := by omega
  have hw1 : IntKind.i64.wrap ((n : Int) - (k : Int)) = (n : Int) - (k : Int) := by rw [IntKind.wrap_i64]; omega
  have hset := heap_setCell_same _ _ 1 _ _ (.int .i64 ((k : Int) + (m : Int))) h
  have HR : Hid (RdAt (w.setCell ⟨p, 1, none⟩ (.int .i64 ((k : Int) + (m : Int)))) p b o n c (k + m)) := by
    show RdAt _ _ _ _ _ _ _
    unfold RdAt
    rw [hset]
    simp
  have HK := Hid.mk (Keeps.setCell (F := fun j => j = p) (p := ⟨p, 1, none⟩) w rfl (.int .i64 ((k : Int) + (m : Int))))
  have hm := must_t
  clear h hset
  go_enter Try.func121, Try.ntmps121
  go_wp2_with fail
  go_quiet (first | (go_at_call 112; exact Calls.quiet_of_same (hm _)))
  go_wp2
  have b1 : (0 : Int) ≤ (k : Int) := by omega
  have b2 : (k : Int) ≤ (k : Int) + (m : Int) := by omega
  have b3 : (k : Int) + (m : Int) ≤ (c : Int) := by omega
  have b4 : ¬ c = k := by omega
  go_quiet (fail)
  go_wp2
  go_ret
  exact ⟨congrArg (fun z => Ending.returned (Value.slice (some ⟨b, o + k, none⟩) z (c - k))) (Nat.add_sub_cancel_left k m), HR.out, ⟨HK.out.os, HK.out.tape, HK.out.output, HK.out.size, HK.out.block⟩⟩

theorem or_wrap (i A X : Nat) (hA : A < 2 ^ i) (h : A + 2 ^ i * X < 18446744073709551616) :
    bits .or .i64 (wrap64 (A : Int)) (wrap64 ((2 ^ i * X : Nat) : Int)) = wrap64 ((A + 2 ^ i * X : Nat) : Int) := by
  have q : ∀ z : Nat, z < 18446744073709551616 → (BitVec.ofInt 64 (wrap64 (z : Int))).toNat = z := by
    intro z hz
    rw [BitVec.toNat_ofInt]
    unfold wrap64
    omega
  have h1 : A < 18446744073709551616 := by omega
  have h2 : 2 ^ i * X < 18446744073709551616 := by omega
  show IntKind.i64.wrap ((BitVec.ofInt 64 (wrap64 (A : Int)) ||| BitVec.ofInt 64 (wrap64 ((2 ^ i * X : Nat) : Int))).toNat : Int) = _
  rw [BitVec.toNat_or, q A h1, q _ h2, Nat.or_comm, ← Nat.two_pow_add_eq_or_of_lt hA X, Nat.add_comm, IntKind.wrap_i64]
  unfold wrap64
  rfl

theorem shl_pow (x : Int) (k : Nat) (hk : k < 8) : (x * 2 ^ min ((8 * (k : Int)).toNat) 64) = x * 2 ^ (8 * k) := by
  congr 2
  omega

theorem le_take_succ {l : List Int} {k : Nat} (hk : k < l.length) (_hb : Bytes l) : le (l.take (k + 1)) = le (l.take k) + 2 ^ (8 * k) * (l.getD k 0).toNat := by
  rw [List.take_succ_eq_append_getElem hk, le_append]
  have : (l.take k).length = k := by simp; omega
  rw [this]
  simp [le, List.getD, hk]

/-- The bytes from k on. -/
def part (l : List Int) (k m : Nat) : List Int := (l.drop k).take m
theorem part_len {l : List Int} {k m : Nat} (h : k + m ≤ l.length) : (part l k m).length = m := by simp [part]; omega
theorem part_bytes {l : List Int} (h : Bytes l) (k m : Nat) : Bytes (part l k m) := fun x hx => h x (List.mem_of_mem_drop (List.mem_of_mem_take hx))
theorem part_at {l : List Int} {k m i : Nat} (hi : i < m) : (part l k m).getD i 0 = l.getD (k + i) 0 := by simp [part, List.getD, hi]

/-- A reader over bytes that stay as they are. -/
structure Rd (w : World) (p b o c k : Nat) (l : List Int) : Prop where
  rd : RdAt w p b o l.length c k
  ne : b ≠ p
  src : ∀ i, i < l.length → w.cell? ⟨b, o + i, none⟩ = some (.int .u8 (l.getD i 0))
  bytes : Bytes l
  small : l.length ≤ 1000000
  cap : l.length ≤ c
  huge : c ≤ 9223372036854775807
  old : 0 < l.length → b < w.heap.size

theorem Rd.keep {w w' : World} {p b o c k k' : Nat} {l : List Int} (h : Rd w p b o c k l) (hr : RdAt w' p b o l.length c k') (hk : Keeps (fun j => j = p) w w') : Rd w' p b o c k' l :=
  ⟨hr, h.ne, fun i hi => by
    have hb := h.old (by omega)
    exact (World.cell?_of_block (w := w) (a := ⟨b, o + i, none⟩) (hk.block b hb h.ne)).trans (h.src i hi), h.bytes, h.small, h.cap, h.huge, fun h0 => Nat.lt_of_lt_of_le (h.old h0) hk.size⟩
theorem Rd.far {w w' : World} {p b o c k : Nat} {l : List Int} (h : Rd w p b o c k l) (hb : Below w.heap.size w w') : Rd w' p b o c k l := by
  have hpl : p < w.heap.size := (Array.getElem?_eq_some_iff.1 h.rd).1
  exact ⟨(hb.block p hpl).trans h.rd, h.ne, fun i hi => cell_later hb (h.src i hi), h.bytes, h.small, h.cap, h.huge, fun h0 => Nat.lt_of_lt_of_le (h.old h0) hb.size⟩

set_option maxHeartbeats 2000000 in
theorem rnumber_any (p b o c k m : Nat) (l : List Int) (w : World) (h : Rd w p b o c k l) (hk : k + m ≤ l.length) (hkc : k < c) (hm : m ≤ 8) :
    Calls Try.prog 109 #[.pointer (some ⟨p, 0, none⟩), .int .i64 (m : Int)] w fun e w' => e = .returned (.int .i64 (wrap64 ((le (part l k m) : Nat) : Int))) ∧ Rd w' p b o c (k + m) l ∧ Keeps (fun j => j = p) w w' := by
  have ht := take_ok p b o l.length c k m w h.rd hk h.cap hkc h.small h.huge
  have H := Hid.mk h
  clear h
  go_enter Try.func109, Try.ntmps109
  go_wp2_with fail
  refine ht.mono ?_
  rintro e w1 ⟨rfl, hr1, hk1⟩
  have h1 := H.out.keep hr1 hk1
  have H1 := Hid.mk (And.intro h1 hk1)
  have hpl := part_len hk
  clear ht hr1 hk1 h1
  go_wp2
  go_loopw [5, 12] (fun r i wr => ∃ j : Nat, j ≤ m ∧ i = .int .i64 j ∧ wr = w1 ∧ r = .int .i64 (wrap64 ((le ((part l k m).take j) : Nat) : Int))) (fun _ i _ => m - (intOf i).toNat)
  case atStart => exact ⟨0, Nat.zero_le _, rfl, rfl, by simp [le, wrap64]⟩
  case round =>
    obtain ⟨j, hj, rfl, rfl, rfl⟩ := hrel
    by_cases hlt : j < m
    · have hlt' : (j : Int) < (m : Int) := by omega
      have hc := H1.out.1.src (k + j) (by omega)
      rw [← part_at (l := l) (k := k) hlt, ← Nat.add_assoc] at hc
      obtain ⟨x, hx, hx1⟩ : ∃ x : Nat, (part l k m).getD j 0 = (x : Int) ∧ x < 256 := by
        have := part_bytes H1.out.1.bytes k m (part l k m)[j] (List.getElem_mem (by omega))
        refine ⟨((part l k m).getD j 0).toNat, ?_, ?_⟩ <;> simp [List.getD, hpl, hlt] <;> omega
      have hsucc := le_take_succ (l := part l k m) (k := j) (by omega) (part_bytes H1.out.1.bytes k m)
      have hA : le ((part l k m).take j) < 2 ^ (8 * j) := by
        have := le_lt (l := (part l k m).take j) (fun y hy => part_bytes H1.out.1.bytes k m y (List.mem_of_mem_take hy))
        have e : ((part l k m).take j).length = j := by simp; omega
        rwa [e] at this
      have hB : le ((part l k m).take (j + 1)) < 18446744073709551616 := by
        have := le_lt (l := (part l k m).take (j + 1)) (fun y hy => part_bytes H1.out.1.bytes k m y (List.mem_of_mem_take hy))
        have e : ((part l k m).take (j + 1)).length = j + 1 := by simp; omega
        rw [e] at this
        exact Nat.lt_of_lt_of_le this (by have := Nat.pow_le_pow_right (show 0 < 2 by omega) (show 8 * (j + 1) ≤ 64 by omega); simpa using this)
      rw [hx] at hc hsucc
      simp only [Int.toNat_natCast] at hsucc
      rw [hsucc] at hB
      have hor := or_wrap (8 * j) _ x hA hB
      rw [← hsucc] at hor
      have hsh := shl_pow (x : Int) j (by omega)
      have hsh2 : ((x : Int) * 2 ^ (8 * j)) = ((2 ^ (8 * j) * x : Nat) : Int) := by rw [Int.natCast_mul, Int.natCast_pow, Int.mul_comm]; rfl
      have hcast : ((2 ^ (8 * j) * x : Nat) : Int) = 2 ^ (8 * j) * (x : Int) := by rw [Int.natCast_mul, Int.natCast_pow]; rfl
      rw [hcast] at hor
      have Hor := Hid.mk hor
      have hnn : (0 : Int) ≤ 8 * (j : Int) := by omega
      clear hA hB hsucc hor hcast
      go_wp2
      go_roundw
      case rel => exact ⟨j + 1, by omega, by go_num, trivial, by rw [Hor.out]⟩
      case measure => simp [intOf]; omega
    · have hlt' : ¬ (j : Int) < (m : Int) := by omega
      have ej : (part l k m).take j = part l k m := List.take_of_length_le (by omega)
      rw [ej] at *
      go_wp2
      go_ret
      exact ⟨rfl, H1.out⟩

/-- All zeros. -/
def Zeros (l : List Int) : Prop := ∀ x ∈ l, x = 0

/-- What empty answers. -/
def EmptyOut (l : List Int) (e : Ending) : Prop := ∃ x, e = .returned (.bool x) ∧ (x = true ↔ Zeros l)

set_option maxHeartbeats 2000000 in
theorem empty_low (b o n c : Nat) (l : List Int) (w : World) (hl : l.length = n) (hn : n ≤ 1000000) (hs : ∀ i, i < n → w.cell? ⟨b, o + i, none⟩ = some (.int .u8 (l.getD i 0))) :
    Calls Try.prog 82 #[.slice (some ⟨b, o, none⟩) n c] w fun e w' => EmptyOut l e ∧ w' = w := by
  have Hs := Hid.mk hs
  clear hs
  go_enter Try.func82, Try.ntmps82
  go_wp2
  go_loopw [7] (fun i wr => ∃ k : Nat, k ≤ n ∧ i = .int .i64 k ∧ wr = w ∧ ∀ j, j < k → l.getD j 0 = 0) (fun i _ => n - (intOf i).toNat)
  case atStart => exact ⟨0, Nat.zero_le _, rfl, rfl, fun j hj => by omega⟩
  case round =>
    obtain ⟨k, hk, rfl, rfl, hz⟩ := hrel
    have Hz := Hid.mk hz
    clear hz
    by_cases hlt : k < n
    · have hlt' : (k : Int) < (n : Int) := by omega
      have hc := Hs.out k hlt
      by_cases hx : l.getD k 0 = 0
      · have Hx := Hid.mk hx
        rw [hx] at hc
        clear hx
        go_wp2
        go_roundw
        case rel =>
          refine ⟨k + 1, by omega, by go_num, trivial, fun j hj => ?_⟩
          by_cases e : j = k
          · rw [e]; exact Hx.out
          · exact Hz.out j (by omega)
        case measure => simp [intOf]; omega
      · have hx' : (l.getD k 0 != 0) = true := by rw [bne_iff_ne]; exact hx
        have HF : Hid (¬ Zeros l) := fun h => absurd (h (l.getD k 0) (by simp [List.getD, hl, hlt])) hx
        generalize l.getD k 0 = X at *
        clear hx
        go_wp2
        go_ret
        exact ⟨⟨_, rfl, ⟨(fun h => by cases h), fun h => absurd h HF.out⟩⟩, rfl⟩
    · have hlt' : ¬ (k : Int) < (n : Int) := by omega
      have HF : Hid (Zeros l) := fun x hx => by
        obtain ⟨j, hj, e⟩ := List.mem_iff_getElem.1 hx
        have := Hz.out j (by omega)
        rw [← e]
        simpa [List.getD, hj] using this
      go_wp2
      go_ret
      exact ⟨⟨_, rfl, ⟨fun _ => HF.out, fun _ => rfl⟩⟩, rfl⟩

theorem Rd.part {w : World} {p b o c k : Nat} {l : List Int} (h : Rd w p b o c k l) {q m : Nat} (hq : q + m ≤ l.length) : ∀ i, i < m → w.cell? ⟨b, o + q + i, none⟩ = some (.int .u8 ((part l q m).getD i 0)) := fun i hi => by
  rw [part_at hi, Nat.add_assoc]
  exact h.src (q + i) (by omega)

set_option maxHeartbeats 2000000 in
theorem rzeros_ok (p b o c k m : Nat) (l : List Int) (w : World) (h : Rd w p b o c k l) (hk : k + m ≤ l.length) (hkc : k < c) (hz : Zeros (part l k m)) :
    Calls Try.prog 110 #[.pointer (some ⟨p, 0, none⟩), .int .i64 ((k + m : Nat) : Int)] w fun e w' => e = .returned (.tuple #[]) ∧ Rd w' p b o c (k + m) l ∧ Keeps (fun j => j = p) w w' := by
  have c1 := cell_of_block h.rd (j := 1) rfl
  have ht := take_ok p b o l.length c k m w h.rd hk h.cap hkc h.small h.huge
  have es : ((k + m : Nat) : Int) - (k : Int) = (m : Int) := by omega
  have hml : (m : Int) ≤ 1000000 := by have := h.small; omega
  have H := Hid.mk h
  have hm := must_t
  have hsm := h.small
  clear h
  generalize hN : k + m = N at *
  go_enter Try.func110, Try.ntmps110
  go_wp2_with fail
  refine ht.mono ?_
  rintro e w1 ⟨rfl, hr1, hk1⟩
  have h1 := H.out.keep hr1 hk1
  have he := empty_low b (o + k) m (c - k) (part l k m) w1 (part_len (by omega)) (by omega) (h1.part (by omega))
  have H1 := Hid.mk (And.intro h1 hk1)
  have hZ := Hid.mk hz
  clear ht hr1 hk1 h1 hz
  go_wp2_with fail
  refine he.mono ?_
  rintro e w2 ⟨⟨x, rfl, hx⟩, hw⟩
  have hw' := hw.symm
  subst hw'
  have hx' : x = true := hx.2 hZ.out
  subst hx'
  clear he hx hw
  go_wp2_with fail
  refine (hm _).mono ?_
  rintro e w3 ⟨rfl, hw⟩
  have hw' := hw.symm
  subst hw'
  clear hw hm
  go_wp2
  go_end0
  exact ⟨rfl, H1.out⟩

set_option maxHeartbeats 2000000 in
theorem rzeros_no (p b o c k m : Nat) (l : List Int) (w : World) (h : Rd w p b o c k l) (hk : k + m ≤ l.length) (hkc : k < c) (hz : ¬ Zeros (part l k m)) :
    Calls Try.prog 110 #[.pointer (some ⟨p, 0, none⟩), .int .i64 ((k + m : Nat) : Int)] w fun e w' => e = .panicked gaveUp ∧ Keeps (fun j => j = p) w w' := by
  have c1 := cell_of_block h.rd (j := 1) rfl
  have ht := take_ok p b o l.length c k m w h.rd hk h.cap hkc h.small h.huge
  have es : ((k + m : Nat) : Int) - (k : Int) = (m : Int) := by omega
  have hml : (m : Int) ≤ 1000000 := by have := h.small; omega
  have H := Hid.mk h
  have hm := must_f
  have hsm := h.small
  clear h
  generalize hN : k + m = N at *
  go_enter Try.func110, Try.ntmps110
  go_wp2_with fail
  refine ht.mono ?_
  rintro e w1 ⟨rfl, hr1, hk1⟩
  have h1 := H.out.keep hr1 hk1
  have he := empty_low b (o + k) m (c - k) (part l k m) w1 (part_len (by omega)) (by omega) (h1.part (by omega))
  have H1 := Hid.mk (And.intro h1 hk1)
  have hZ := Hid.mk hz
  clear ht hr1 hk1 h1 hz
  go_wp2_with fail
  refine he.mono ?_
  rintro e w2 ⟨⟨x, rfl, hx⟩, hw⟩
  have hw' := hw.symm
  subst hw'
  have hx' : x = false := by
    cases x with
    | false => rfl
    | true => exact absurd (hx.1 rfl) hZ.out
  subst hx'
  clear he hx hw
  go_wp2_with fail
  refine (hm _).mono ?_
  rintro e w3 ⟨rfl, hw⟩
  have hw' := hw.symm
  subst hw'
  clear hw hm
  go_wp2
  exact ⟨rfl, rfl, H1.out.2⟩

end Go.Proofs.Ytkkmkogpbhcpmaa
