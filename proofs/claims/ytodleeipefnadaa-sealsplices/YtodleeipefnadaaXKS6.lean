import Derived.Test.YtodleeipefnadaaXKS5
import Derived.OwnWalk
import Derived.ArgAppend
namespace Go.Proofs.Ytodleeipefnadaa
open Go.RowKit

theorem or_u64 (i A X : Nat) (hA : A < 2 ^ i) (h : A + 2 ^ i * X < 18446744073709551616) :
    bits .or .u64 (A : Int) ((2 ^ i * X : Nat) : Int) = ((A + 2 ^ i * X : Nat) : Int) := by
  have q : ∀ z : Nat, z < 18446744073709551616 → (BitVec.ofInt 64 (z : Int)).toNat = z := by
    intro z hz
    rw [BitVec.toNat_ofInt]
    omega
  have h1 : A < 18446744073709551616 := by omega
  have h2 : 2 ^ i * X < 18446744073709551616 := by omega
  show IntKind.u64.wrap ((BitVec.ofInt 64 (A : Int) ||| BitVec.ofInt 64 ((2 ^ i * X : Nat) : Int)).toNat : Int) = _
  rw [BitVec.toNat_or, q A h1, q _ h2, Nat.or_comm, ← Nat.two_pow_add_eq_or_of_lt hA X, Nat.add_comm]
  generalize A + 2 ^ i * X = Z at *
  simp only [IntKind.wrap, IntKind.bits, IntKind.signed]
  simp
  omega
theorem shl_pow (x : Int) (k : Nat) (hk : k < 8) : (x * 2 ^ min ((8 * (k : Int)).toNat) 64) = x * 2 ^ (8 * k) := by
  congr 2
  omega
theorem le_take_succ {l : List Int} {k : Nat} (hk : k < l.length) : le (l.take (k + 1)) = le (l.take k) + 2 ^ (8 * k) * (l.getD k 0).toNat := by
  rw [List.take_succ_eq_append_getElem hk, le_append]
  have : (l.take k).length = k := by simp; omega
  rw [this]
  simp [le, List.getD, hk]
theorem le_small {l : List Int} (hb : Bytes l) (h : l.length ≤ 8) : le l < 18446744073709551616 := by
  have := le_lt hb
  exact Nat.lt_of_lt_of_le this (by have := Nat.pow_le_pow_right (show 0 < 2 by omega) (show 8 * l.length ≤ 64 by omega); simpa using this)

theorem turn_at {w : World} {T : TypeId} {g : Nat} {l : List Int} (h : Blk w T g l) (i : Nat) (hi : i < l.length) : ∃ x : Int, l.getD i 0 = x ∧ w.cell? ⟨g, i, none⟩ = some (.int .u8 x) := ⟨_, rfl, h.cell hi⟩

end Go.Proofs.Ytodleeipefnadaa
