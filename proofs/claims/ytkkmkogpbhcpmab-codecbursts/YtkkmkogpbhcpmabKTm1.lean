import Derived.Test.YtkkmkogpbhcpmabKFo1
namespace Go.Proofs.Ytkkmkogpbhcpmab
open Go.RowKit

set_option maxRecDepth 20000 in
set_option maxHeartbeats 2000000 in
theorem bring_any (v : Int) (lo hi : Nat) (w : World) (h : lo ≤ hi) (hh : hi ≤ 1000000000) :
    Calls Try.prog 23 #[.int .i64 v, .int .i64 (lo : Int), .int .i64 (hi : Int)] w fun e w' => (∃ x : Int, e = .returned (.int .i64 x) ∧ (lo : Int) ≤ x ∧ x ≤ (hi : Int)) ∧ w' = w := by
  have hpos : 0 < ((hi : Int) - (lo : Int) + 1) := by omega
  have hr1 : v.tmod ((hi : Int) - (lo : Int) + 1) < ((hi : Int) - (lo : Int) + 1) := Int.tmod_lt_of_pos v hpos
  have hr2 : -(v.tmod ((hi : Int) - (lo : Int) + 1)) < ((hi : Int) - (lo : Int) + 1) := by rw [← Int.neg_tmod]; exact Int.tmod_lt_of_pos (-v) hpos
  by_cases hneg : v.tmod ((hi : Int) - (lo : Int) + 1) < 0
  · go_enter Try.func23, Try.ntmps23
    go_wp2
    go_ret
    exact ⟨⟨_, rfl, by (try unfold wrap64); omega, by (try unfold wrap64); omega⟩, rfl⟩
  · go_enter Try.func23, Try.ntmps23
    go_wp2
    go_ret
    exact ⟨⟨_, rfl, by (try unfold wrap64); omega, by (try unfold wrap64); omega⟩, rfl⟩
end Go.Proofs.Ytkkmkogpbhcpmab
