import Derived.Test.YtcofkdaakkfcfaaAt1
namespace Go.Proofs.Ytcofkdaakkfcfaa
open Go.RowKit Go.Maps

theorem dnew_no (s : Int) (w : World) (h : s < 1 ∨ 2048 < s) :
    Calls Try.prog 3 #[.int .i64 s] w fun e w' => e = .returned (.bool true) ∧ Below w.heap.size w w' := by
  have hn := new_no s w h
  rcases h with h | h
  · go_enter Try.func3, Try.ntmps3
    go_wp2_with (go_at_call 9; refine hn.mono ?_; rintro e w' ⟨rfl, rfl⟩)
    go_ret
    exact ⟨rfl, Below.refl _ _⟩
  · have h' : ¬ s < 1 := by omega
    go_enter Try.func3, Try.ntmps3
    go_wp2_with (go_at_call 9; refine hn.mono ?_; rintro e w' ⟨rfl, rfl⟩)
    go_ret
    exact ⟨rfl, Below.refl _ _⟩

set_option maxHeartbeats 2000000 in
theorem dnew_ok (s : Nat) (w : World) (h1 : 1 ≤ s) (h2 : s ≤ 2048) :
    Calls Try.prog 3 #[.int .i64 s] w fun e w' => e = .returned (.bool true) ∧ Below w.heap.size w w' := by
  have h1' : ¬ (s : Int) < 1 := by omega
  have h2' : ¬ (2048 : Int) < (s : Int) := by omega
  have hss : ((s : Int) != (s : Int)) = false := by simp
  have hss2 : ((s : Int) * 512 != (s : Int) * 512) = false := by simp
  go_enter Try.func3, Try.ntmps3
  go_wp2_with fail
  refine (new_ok s w h1 h2).mono ?_
  rintro e w1 ⟨p, rfl, hd, hb⟩
  have hd' := Hid.mk hd
  have hbu : Calls Try.prog 11 #[.pointer (some ⟨p, 0, none⟩)] w1 fun e w' => e = .returned (.bool false) ∧ w' = w1 := burnt_at hd
  have hli : Calls Try.prog 12 #[.pointer (some ⟨p, 0, none⟩)] w1 fun e w' => e = .returned (.int .i64 1) ∧ w' = w1 := life_at hd
  have hco : Calls Try.prog 13 #[.pointer (some ⟨p, 0, none⟩)] w1 fun e w' => e = .returned (.agg #[.int .i64 0, .int .i64 0, .int .i64 0, .int .i64 0, .int .i64 0]) ∧ Below w1.heap.size w1 w' := counts_any _ _ _ _ _ hd (by simp [DS.fresh])
  have Hbu := Hid.mk hbu
  have Hli := Hid.mk hli
  have Hco := Hid.mk hco
  clear hd hbu hli hco
  go_wp2_with fail
  refine (sectors_at hd'.out).mono ?_
  rintro e w2 ⟨rfl, rfl⟩
  go_wp2_with fail
  refine Hbu.out.mono ?_
  rintro e w2 ⟨rfl, rfl⟩
  go_wp2_with fail
  refine Hli.out.mono ?_
  rintro e w2 ⟨rfl, rfl⟩
  go_wp2_with fail
  refine Hco.out.mono ?_
  rintro e w3 ⟨rfl, hb3⟩
  have hd3 := Hid.mk (hd'.out.keep (Keeps.of_below (fun _ => False) hb3) (fun _ _ h => h))
  have hbb : Below w.heap.size w w3 := hb.trans (hb3.mono hb.size)
  clear hb hb3 hd'
  have him := Hid.mk (fun o => image_any p s _ _ (w3.alloc o) (hd3.out.keep (Keeps.alloc (fun _ => False) w3 o) (fun _ _ h => h)))
  clear hd3
  go_wp2_with fail
  refine (him.out _).mono ?_
  rintro e w4 ⟨g, c, rfl, hg, hr, hb4⟩
  have hb5 : Below w.heap.size w w4 := (hbb.alloc hbb.size _).trans (hb4.mono (by simp; have := hbb.size; omega))
  have Hr : Hid (RowAt w4 5 g c (bs (List.replicate (s * 512) 0))) := hr
  clear hr hb4 hbb hg him
  go_wp2
  go_loopw [7] (fun i wr => ∃ k : Nat, k ≤ s * 512 ∧ i = .int .i64 k ∧ wr = w4) (fun i _ => s * 512 - (intOf i).toNat)
  case atStart => exact ⟨0, Nat.zero_le _, rfl, rfl⟩
  case round =>
    obtain ⟨k, hk, rfl, rfl⟩ := hrel
    by_cases hlt : k < s * 512
    · have hlt' : (k : Int) < (s : Int) * 512 := by omega
      have hc : wr.cell? ⟨g, k, none⟩ = some (.int .u8 0) := by
        have := Hr.out.byte (i := k) (by simpa using hlt)
        rw [addr_add, Nat.zero_add] at this
        rw [this]; simp [List.getD, hlt]
      go_wp2
      go_roundw
      case rel => exact ⟨k + 1, by omega, by go_num, trivial⟩
      case measure => simp [intOf]; omega
    · have hlt' : ¬ (k : Int) < (s : Int) * 512 := by omega
      go_wp2
      go_ret
      exact ⟨rfl, hb5⟩

theorem dnew_any (s : Int) (w : World) :
    Calls Try.prog 3 #[.int .i64 s] w fun e w' => e = .returned (.bool true) ∧ Below w.heap.size w w' := by
  by_cases h : s < 1 ∨ 2048 < s
  · exact dnew_no s w h
  · obtain ⟨n, rfl⟩ := Int.eq_ofNat_of_zero_le (show 0 ≤ s by omega)
    exact dnew_ok n w (by omega) (by omega)
end Go.Proofs.Ytcofkdaakkfcfaa
