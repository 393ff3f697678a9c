import Derived.Test.YtkkmkogpbhcpmaaRows
import Derived.WalkKit
import Derived.WalkSpells
import Derived.WalkLawsBesides
import Derived.Below
import Derived.Maps.RangeWalk
namespace Go.Proofs.Ytkkmkogpbhcpmaa
open Go.RowKit Go.Maps

theorem infoU8 : (Try.prog.info? 5).map (fun i => (i.zero, i.size, i.bytes)) = some (some (.int .u8 0), 1, 1) := by kernel_rfl
theorem infoRow : (Try.prog.info? 27).map (fun i => (i.zero, i.size, i.bytes)) = some (some (.slice none 0 0), 1, 24) := by kernel_rfl
theorem infoInt : (Try.prog.info? 3).map (fun i => (i.zero, i.size, i.bytes)) = some (some (.int .i64 0), 1, 8) := by kernel_rfl

/-- The cells of a Disk. -/
abbrev dkCells (im pend : Value) (fuse life r wr fl rf : Int) : Array Value :=
  #[im, pend, .int .i64 fuse, .int .i64 life, .int .i64 r, .int .i64 wr, .int .i64 fl, .int .i64 rf, .int .i64 0]

set_option maxHeartbeats 400000 in
theorem over_low (a : Option Addr) (n c : Nat) (w : World) :
    Calls Try.prog 71 #[.slice a n c] w fun e w' => e = .returned (.pointer (some ⟨w.heap.size + 1, 0, none⟩)) ∧
      w' = (w.alloc (.map #[] 0)).alloc (.cells (dkCells (.slice a n c) (.map (some w.heap.size)) (-1) 1 0 0 0 0) 100) := by
  have hmm := @run_makeMap Try.prog
  go_enter Try.func71, Try.ntmps71
  go_wp2
  go_ret
  exact ⟨rfl, rfl⟩

theorem burnt_low (p : Nat) (fuse : Int) (w : World) (c2 : w.cell? ⟨p, 2, none⟩ = some (.int .i64 fuse)) :
    Calls Try.prog 11 #[.pointer (some ⟨p, 0, none⟩)] w fun e w' => e = .returned (.bool (fuse == 0)) ∧ w' = w := by
  go_enter Try.func11, Try.ntmps11
  go_wp2
  go_ret
  exact ⟨rfl, rfl⟩

theorem life_low (p : Nat) (life : Int) (w : World) (c3 : w.cell? ⟨p, 3, none⟩ = some (.int .i64 life)) :
    Calls Try.prog 66 #[.pointer (some ⟨p, 0, none⟩)] w fun e w' => e = .returned (.int .i64 life) ∧ w' = w := by
  go_enter Try.func66, Try.ntmps66
  go_wp2
  go_ret
  exact ⟨rfl, rfl⟩

theorem sectors_low (p : Nat) (a : Option Addr) (n c : Nat) (w : World) (hn : n ≤ 1048576) (c0 : w.cell? ⟨p, 0, none⟩ = some (.slice a n c)) :
    Calls Try.prog 20 #[.pointer (some ⟨p, 0, none⟩)] w fun e w' => e = .returned (.int .i64 ((n / 512 : Nat) : Int)) ∧ w' = w := by
  go_enter Try.func20, Try.ntmps20
  go_wp2
  go_ret
  exact ⟨by go_num, rfl⟩

theorem has_low (p : Nat) (a : Option Addr) (n c : Nat) (at_ : Int) (w : World) (hn : n ≤ 1048576) (c0 : w.cell? ⟨p, 0, none⟩ = some (.slice a n c)) :
    Calls Try.prog 59 #[.pointer (some ⟨p, 0, none⟩), .int .i64 at_] w fun e w' => e = .returned (.bool (decide (0 ≤ at_) && decide (at_ < ((n / 512 : Nat) : Int)))) ∧ w' = w := by
  by_cases h0 : 0 ≤ at_
  · go_enter Try.func59, Try.ntmps59
    go_wp2_with (go_at_call 20; refine (sectors_low _ _ _ _ _ hn c0).mono ?_; rintro e w' ⟨rfl, rfl⟩)
    go_ret
    exact ⟨by simp [h0], rfl⟩
  · go_enter Try.func59, Try.ntmps59
    go_wp2
    go_ret
    exact ⟨by simp; omega, rfl⟩

theorem refuse_low (p : Nat) (rf er : Int) (w : World) (c7 : w.cell? ⟨p, 7, none⟩ = some (.int .i64 rf)) (f7 : w.frozen? ⟨p, 7, none⟩ = false) :
    Calls Try.prog 60 #[.pointer (some ⟨p, 0, none⟩), .int .i64 er] w fun e w' => e = .returned (.int .i64 er) ∧ w' = w.setCell ⟨p, 7, none⟩ (.int .i64 (wrap64 (rf + 1))) := by
  go_enter Try.func60, Try.ntmps60
  go_wp2
  go_ret
  exact ⟨rfl, rfl⟩

theorem spend_low (p : Nat) (fuse : Int) (w : World) (c2 : w.cell? ⟨p, 2, none⟩ = some (.int .i64 fuse)) (f2 : w.frozen? ⟨p, 2, none⟩ = false) (hf : -1 ≤ fuse) :
    Calls Try.prog 62 #[.pointer (some ⟨p, 0, none⟩)] w fun e w' => e = .returned (.tuple #[]) ∧ w' = if 0 < fuse then w.setCell ⟨p, 2, none⟩ (.int .i64 (wrap64 (fuse - 1))) else w := by
  by_cases h : 0 < fuse
  · go_enter Try.func62, Try.ntmps62
    go_wp2
    go_end0
    exact ⟨rfl, rfl⟩
  · go_enter Try.func62, Try.ntmps62
    go_wp2
    go_end0
    exact ⟨rfl, rfl⟩

theorem take_low (p : Nat) (life : Int) (w : World) (c3 : w.cell? ⟨p, 3, none⟩ = some (.int .i64 life)) (f3 : w.frozen? ⟨p, 3, none⟩ = false) :
    Calls Try.prog 65 #[.pointer (some ⟨p, 0, none⟩)] w fun e w' => e = .returned (.int .i64 (wrap64 (life + 1))) ∧ w' = w.setCell ⟨p, 3, none⟩ (.int .i64 (wrap64 (life + 1))) := by
  go_enter Try.func65, Try.ntmps65
  go_wp2
  go_ret
  exact ⟨rfl, rfl⟩

theorem fuse_low (p : Nat) (fuse calls : Int) (w : World) (c2 : w.cell? ⟨p, 2, none⟩ = some (.int .i64 fuse)) (f2 : w.frozen? ⟨p, 2, none⟩ = false) :
    Calls Try.prog 10 #[.pointer (some ⟨p, 0, none⟩), .int .i64 calls] w fun e w' => e = .returned (.tuple #[]) ∧ w' = if fuse = 0 then w else w.setCell ⟨p, 2, none⟩ (.int .i64 (max calls (-1))) := by
  by_cases h : fuse = 0
  · have hb : (fuse == 0) = true := by simp [h]
    go_enter Try.func10, Try.ntmps10
    go_wp2_with (go_at_call 11; refine (burnt_low _ _ _ c2).mono ?_; rintro e w' ⟨rfl, rfl⟩)
    exact bodyPost_ret (results_none rfl _ _ _) rfl ⟨rfl, rfl⟩
  · have hb : (fuse == 0) = false := by simp [h]
    go_enter Try.func10, Try.ntmps10
    go_wp2_with (go_at_call 11; refine (burnt_low _ _ _ c2).mono ?_; rintro e w' ⟨rfl, rfl⟩)
    all_goals
      go_end0
      refine ⟨rfl, ?_⟩
      first | rw [show max calls (-1) = calls by omega] | rw [show max calls (-1) = -1 by omega]

theorem durable_low (p gi n c s : Nat) (at_ : Int) (k : Nat) (w : World) (c0 : w.cell? ⟨p, 0, none⟩ = some (.slice (some ⟨gi, 0, none⟩) n c)) (hk : at_ = (k : Int)) (hks : k < s) (hn : n = s * 512) (hs : s ≤ 2048) (hc : n ≤ c) :
    Calls Try.prog 63 #[.pointer (some ⟨p, 0, none⟩), .int .i64 at_] w fun e w' => e = .returned (.slice (some ⟨gi, k * 512, none⟩) 512 512) ∧ w' = w := by
  subst hk
  go_enter Try.func63, Try.ntmps63
  have e : (k + 1) * 512 - k * 512 = 512 := by omega
  go_wp2
  go_ret
  exact ⟨congrArg (fun z => Ending.returned (Value.slice (some ⟨gi, k * 512, none⟩) z z)) e, rfl⟩
end Go.Proofs.Ytkkmkogpbhcpmaa
