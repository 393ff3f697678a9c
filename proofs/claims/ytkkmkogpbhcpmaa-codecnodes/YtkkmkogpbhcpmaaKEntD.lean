import Derived.Test.YtkkmkogpbhcpmaaKDecS
import Derived.Test.YtkkmkogpbhcpmaaKEntE
import Derived.Deep.RegionLaw
namespace Go.Proofs.Ytkkmkogpbhcpmaa
open Go.RowKit

set_option maxRecDepth 20000 in
set_option maxHeartbeats 2000000 in
theorem take_no (p b o n c k m : Nat) (w : World) (h : RdAt w p b o n c k) (hk : n < k + m) (hkn : k ≤ n) (_hc : n ≤ 1000000) (hm : m ≤ 1000000) :
    Calls Try.prog 121 #[.pointer (some ⟨p, 0, none⟩), .int .i64 (m : Int)] w fun e w' => e = .panicked gaveUp ∧ Keeps (fun j => j = p) w w' := by
  have c0 := cell_of_block h (j := 0) rfl
  have c1 := cell_of_block h (j := 1) rfl
  have hle : decide ((m : Int) ≤ (n : Int) - (k : Int)) = false := by simp; omega
  have hw1 : IntKind.i64.wrap ((n : Int) - (k : Int)) = (n : Int) - (k : Int) := by rw [IntKind.wrap_i64]; omega
  have hle' : ¬ (m : Int) ≤ (n : Int) - (k : Int) := by omega
  have hmf := must_f
  have HK := Hid.mk (Keeps.refl (fun j => j = p) w)
  clear h
  go_enter Try.func121, Try.ntmps121
  go_wp2_with fail
  go_region_law
    (first
      | (refine step_dies (by rfl) 112 #[.bool false] (by simp [go_sem]) gaveUp (hmf _) ?_ ?_; exact ⟨rfl, rfl, ⟨HK.out.os, HK.out.tape, HK.out.output, HK.out.size, HK.out.block⟩⟩; intro hF))
  all_goals exact hF.elim

set_option maxRecDepth 20000 in
set_option maxHeartbeats 2000000 in
theorem rtext_no (p b o c k m : Nat) (l : List Int) (w : World) (h : Rd w p b o c k l) (hk : l.length < k + m) (hkl : k ≤ l.length) (hm : m ≤ 1000000) :
    Calls Try.prog 117 #[.pointer (some ⟨p, 0, none⟩), .int .i64 (m : Int)] w fun e w' => e = .panicked gaveUp ∧ Keeps (fun j => j = p) w w' := by
  have ht := take_no p b o l.length c k m w h.rd hk hkl h.small hm
  clear h
  go_enter Try.func117, Try.ntmps117
  go_wp2_with fail
  refine ht.mono ?_
  rintro e w1 ⟨rfl, hk1⟩
  clear ht
  go_wp2
  exact ⟨rfl, rfl, hk1⟩

/-- One byte at k. -/
def u8 (l : List Int) (k : Nat) : Nat := le (part l k 1)
theorem u8_lt {l : List Int} (h : Bytes l) {k : Nat} (hk : k + 1 ≤ l.length) : u8 l k < 256 := by
  have := le_lt (part_bytes h k 1)
  rw [part_len hk] at this
  exact this
theorem rnum1 (p b o c k : Nat) (l : List Int) (w : World) (h : Rd w p b o c k l) (hk : k + 1 ≤ l.length) (hkc : k < c) :
    Calls Try.prog 109 #[.pointer (some ⟨p, 0, none⟩), .int .i64 1] w fun e w' => e = .returned (.int .i64 ((u8 l k : Nat) : Int)) ∧ Rd w' p b o c (k + 1) l ∧ Keeps (fun j => j = p) w w' := by
  refine (rnumber_any p b o c k 1 l w h hk hkc (by omega)).mono ?_
  rintro e w' ⟨rfl, h1, h2⟩
  refine ⟨?_, h1, h2⟩
  have := u8_lt h.bytes hk
  unfold u8 at *
  congr 2
  unfold wrap64
  omega

/-- The name that a record holds. -/
def nm (l : List Int) : ByteArray := strOfNums (part l 6 (u8 l 5))
/-- The layout of an entry's body is right. -/
structure EntOk (l : List Int) : Prop where
  len : u8 l 5 ≤ 54
  zeros : Zeros (part l (6 + u8 l 5) (54 - u8 l 5))
  fits : EFits (u32 l 0) (u8 l 4) (nm l)
end Go.Proofs.Ytkkmkogpbhcpmaa
