import Derived.Test.YtodleeipefnadacKQ2
import Derived.Test.YtodleeipefnadacKP7
namespace Go.Proofs.Ytodleeipefnadac
open Go.RowKit

set_option maxRecDepth 20000 in
set_option maxHeartbeats 2000000 in
theorem other_any (s n : Nat) (v : Value) (w : World) (hs : s ≤ 1) :
    Calls Try.prog 49 #[.agg #[.int .i64 (s : Int), .int .i64 (n : Int), v]] w fun e w' => e = .returned (.int .i64 ((if n = 0 then 0 else 1 - s : Nat) : Int)) ∧ Below w.heap.size w w' := by
  have HB := Hid.mk ((Below.refl w.heap.size w).alloc (Nat.le_refl _) (.cells #[.int .i64 (s : Int), .int .i64 (n : Int), v] 101))
  by_cases h : n = 0
  · subst h
    go_enter Try.func49, Try.ntmps49
    go_wp2
    go_ret
    exact ⟨rfl, HB.out⟩
  · have h' : ((n : Int) == 0) = false := by rw [beq_eq_false_iff_ne]; omega
    have e : ((if n = 0 then 0 else 1 - s : Nat) : Int) = 1 - (s : Int) := by rw [if_neg h]; omega
    rw [e]
    clear h
    go_enter Try.func49, Try.ntmps49
    go_wp2
    go_ret
    exact ⟨rfl, HB.out⟩
end Go.Proofs.Ytodleeipefnadac
