import Derived.Test.YtimfidcpljimpaaKSum
import Derived.Test.YtimfidcpljimpaaKRSum
import Derived.Test.YtimfidcpljimpaaKHelp
import Derived.Test.YtimfidcpljimpaaKLater
import Derived.Test.YtimfidcpljimpaaKOpen
import Derived.Lib.SlBytesConst
namespace Go.Proofs.Ytimfidcpljimpaa
open Go.RowKit

theorem size31 (w : World) : (sizeOf (Try.prog.elem 31)).run Try.prog w = .ok 1 w := by kernel_rfl
theorem slice_pre (a : Option Addr) (la ca n : Nat) (h : n ≤ ca) (w : World) : (Instr.slice 31 (.slice a la ca) none (some (.int .i64 (n : Int))) none).run Try.prog w = .ok (.slice a n ca) w := by
  rw [run_slice_h (ht := by kernel_rfl) (h0 := by omega) (h2 := by omega), size31]
  cases a <;> simp [Result.andThen, sliced, Addr.add]

/-- Three lists mixed. -/
def mix3 : List Int → List Int → List Int → List Int
  | x :: a, y :: b, z :: c => ((x.toNat ^^^ y.toNat ^^^ z.toNat : Nat) : Int) :: mix3 a b c
  | _, _, _ => []
theorem mix3_len : ∀ (n : Nat) (a b c : List Int), a.length = n → b.length = n → c.length = n → (mix3 a b c).length = n
  | 0, [], [], [], _, _, _ => rfl
  | n + 1, _ :: a, _ :: b, _ :: c, ha, hb, hc => by
    simp only [mix3, List.length_cons] at *
    rw [mix3_len n a b c (by omega) (by omega) (by omega)]
theorem mix3_at : ∀ (n : Nat) (a b c : List Int), a.length = n → b.length = n → c.length = n → ∀ i, i < n → (mix3 a b c)[i]? = some (((a.getD i 0).toNat ^^^ (b.getD i 0).toNat ^^^ (c.getD i 0).toNat : Nat) : Int)
  | 0, _, _, _, _, _, _, i, hi => absurd hi (Nat.not_lt_zero _)
  | n + 1, x :: a, y :: b, z :: c, ha, hb, hc, i, hi => by
    cases i with
    | zero => rfl
    | succ i => simpa [mix3, List.getD] using mix3_at n a b c (by simpa using ha) (by simpa using hb) (by simpa using hc) i (by omega)
theorem mix3_bytes : ∀ (a b c : List Int), Bytes a → Bytes b → Bytes c → Bytes (mix3 a b c)
  | x :: a, y :: b, z :: c, ha, hb, hc => by
    intro u hu
    rcases List.mem_cons.1 hu with rfl | hu
    · have h1 := ha x (by simp)
      have h2 := hb y (by simp)
      have h3 := hc z (by simp)
      have h4 : x.toNat ^^^ y.toNat < 2 ^ 8 := Nat.xor_lt_two_pow (by omega) (by omega)
      have h5 : x.toNat ^^^ y.toNat ^^^ z.toNat < 2 ^ 8 := Nat.xor_lt_two_pow (by omega) (by omega)
      omega
    · exact mix3_bytes a b c (fun y hy => ha y (by simp [hy])) (fun y hy => hb y (by simp [hy])) (fun y hy => hc y (by simp [hy])) u hu
  | [], _, _, _, _, _ => by intro u hu; simp [mix3] at hu
  | _ :: _, [], _, _, _, _ => by intro u hu; simp [mix3] at hu
  | _ :: _, _ :: _, [], _, _, _ => by intro u hu; simp [mix3] at hu
theorem mix3_le : ∀ (n : Nat) (a b c : List Int), a.length = n → b.length = n → c.length = n → Bytes a → Bytes b → Bytes c → le (mix3 a b c) = le a ^^^ le b ^^^ le c
  | 0, [], [], [], _, _, _, _, _, _ => by simp [mix3, le]
  | n + 1, x :: a, y :: b, z :: c, ha, hb, hc, h1, h2, h3 => by
    have h1' := h1 x (by simp)
    have h2' := h2 y (by simp)
    have h3' := h3 z (by simp)
    simp only [mix3, le, Int.toNat_natCast]
    rw [mix3_le n a b c (by simpa using ha) (by simpa using hb) (by simpa using hc) (fun y hy => h1 y (by simp [hy])) (fun y hy => h2 y (by simp [hy])) (fun y hy => h3 y (by simp [hy])), xor_low _ _ _ _ _ _ (by omega) (by omega) (by omega)]

theorem Src.pre {w : World} {a : Option Addr} {la n : Nat} {l : List Int} (h : Src w a la l) (hn : n ≤ la) : Src w a n (l.take n) :=
  ⟨by have := h.1; simp; omega, fun e => by have := h.2.1 e; omega, fun x hx i hi => by
    rw [h.2.2 x hx i (by omega)]
    simp [List.getD, hi]⟩

theorem byteOf {l : List Int} (h : Bytes l) {i : Nat} (hi : i < l.length) : ∃ x : Nat, l.getD i 0 = (x : Int) ∧ x < 256 := by
  have := h l[i] (List.getElem_mem hi)
  refine ⟨(l.getD i 0).toNat, ?_, ?_⟩ <;> simp [List.getD, hi] <;> omega

/-- The bytes of a sum, as they are appended. -/
theorem sum_bytes (s : Nat) : bs (bytes4 s) = [.int .u8 ((s : Int) % 256), .int .u8 ((s : Int) / 256 % 256), .int .u8 ((s : Int) / 65536 % 256), .int .u8 ((s : Int) / 16777216 % 256)] := by
  simp [bs, bytes4]
theorem bytes4_bytes (s : Nat) : Bytes (bytes4 s) := by
  intro x hx
  simp [bytes4] at hx
  omega
end Go.Proofs.Ytimfidcpljimpaa
