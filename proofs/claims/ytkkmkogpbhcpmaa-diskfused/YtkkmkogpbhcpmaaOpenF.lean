import Derived.Test.YtkkmkogpbhcpmaaAct
namespace Go.Proofs.Ytkkmkogpbhcpmaa
open Go.RowKit Go.Maps

/-- What open leaves. -/
def OpenOut (w w' : World) (d : Value) : Prop := Below w.heap.size w w' ∧ (d = .pointer none ∨ ∃ F p s S, d = .pointer (some ⟨p, 0, none⟩) ∧ DiskAt w' F p s S ∧ S.puts.length = 0 ∧ S.fuse = -1 ∧ ∀ k, F k → w.heap.size ≤ k)

set_option maxHeartbeats 2000000 in
theorem open_bad (sec : Int) (a : Option Addr) (n c : Nat) (l : List Int) (w : World) (hs : Src w a n l) (hn : n ≤ 140737488355328) (h : n % 512 ≠ 0) :
    Calls Try.prog 9 #[.int .i64 sec, .slice a n c] w fun e w' => ∃ d, e = .returned (.tuple #[d, .bool true]) ∧ OpenOut w w' d := by
  have h0 : (0 : Int) < (n : Int) := by omega
  have h' : (((n : Int) % 512) != 0) = true := by rw [bne_iff_ne]; omega
  have ht := twin_any a n c l w hn hs
  clear hs
  go_enter Try.func9, Try.ntmps9
  go_wp2_with fail
  refine ht.mono ?_
  rintro e w1 ⟨g, rfl, hg, hr, hb1⟩
  have hl := load_bad (some ⟨g, 0, none⟩) n n w1 h hn
  clear hr ht
  go_wp2_with fail
  refine hl.mono ?_
  rintro e w2 ⟨rfl, hw⟩
  have hw' := hw.symm
  subst hw'
  clear hl
  go_wp2
  go_ret2
  exact ⟨_, rfl, hb1, .inl rfl⟩

set_option maxHeartbeats 2000000 in
theorem open_no (sec : Int) (a : Option Addr) (n c : Nat) (l : List Int) (w : World) (hs : Src w a n l) (hn : n ≤ 140737488355328) (h : n % 512 = 0) (h1 : 1048576 < n) :
    Calls Try.prog 9 #[.int .i64 sec, .slice a n c] w fun e w' => ∃ d, e = .returned (.tuple #[d, .bool true]) ∧ OpenOut w w' d := by
  have h0 : (0 : Int) < (n : Int) := by omega
  have h' : (((n : Int) % 512) != 0) = false := by rw [Bool.eq_false_iff, ne_eq, bne_iff_ne]; omega
  obtain ⟨q, hq⟩ : ∃ q : Nat, ((n : Int) / 512) = (q : Int) := ⟨n / 512, by omega⟩
  have hwq : wrap64 (q : Int) = (q : Int) := by unfold wrap64; omega
  have h2 : 2048 < (q : Int) := by omega
  have ht := twin_any a n c l w hn hs
  clear hs
  go_enter Try.func9, Try.ntmps9
  go_wp2_with fail
  refine ht.mono ?_
  rintro e w1 ⟨g, rfl, hg, hr, hb1⟩
  have hl := load_no (some ⟨g, 0, none⟩) n n w1 h (.inr h1) hn
  clear hr ht
  go_wp2_with fail
  refine hl.mono ?_
  rintro e w2 ⟨rfl, hw⟩
  have hw' := hw.symm
  subst hw'
  clear hl
  go_wp2
  go_ret2
  exact ⟨_, rfl, hb1, .inl rfl⟩

set_option maxHeartbeats 2000000 in
theorem open_load (sec : Int) (a : Option Addr) (n c s : Nat) (l : List Int) (w : World) (hs : Src w a n l) (h : n = s * 512) (h1 : 1 ≤ s) (h2 : s ≤ 2048) :
    Calls Try.prog 9 #[.int .i64 sec, .slice a n c] w fun e w' => ∃ d, e = .returned (.tuple #[d, .bool true]) ∧ OpenOut w w' d := by
  have h0 : (0 : Int) < (n : Int) := by omega
  have h' : (((n : Int) % 512) != 0) = false := by rw [Bool.eq_false_iff, ne_eq, bne_iff_ne]; omega
  have hq : ((n : Int) / 512) = (s : Int) := by omega
  have h2' : ¬ 2048 < (s : Int) := by omega
  have hll := hs.1
  have ht := twin_any a n c l w (by omega) hs
  have Hn := Hid.mk h
  have hno : n ≤ 1048576 := by omega
  clear hs h
  go_enter Try.func9, Try.ntmps9
  go_wp2_with fail
  refine ht.mono ?_
  rintro e w1 ⟨g, rfl, hg, hr, hb1⟩
  have hl := load_ok ⟨g, 0, none⟩ n n s l w1 Hn.out h1 h2 hll (fun i hi => hr.byte (by omega))
  clear hr ht
  go_wp2_with fail
  refine hl.mono ?_
  rintro e w2 ⟨p, rfl, hd, hb2⟩
  have hbw2 : Below w.heap.size w w2 := hb1.trans (hb2.mono hb1.size)
  have hsz := hb1.size
  have HF : Hid (OpenOut w w2 (.pointer (some ⟨p, 0, none⟩))) := ⟨hbw2, .inr ⟨_, p, s, _, rfl, hd, rfl, rfl, fun k hk => by have := hk.1; omega⟩⟩
  clear hl hd hbw2 hb2 hb1
  go_wp2
  go_ret2
  exact ⟨_, rfl, HF.out⟩

set_option maxHeartbeats 2000000 in
theorem open_out (sec : Int) (a : Option Addr) (c : Nat) (w : World) (h : sec < 1 ∨ 2048 < sec) :
    Calls Try.prog 9 #[.int .i64 sec, .slice a 0 c] w fun e w' => ∃ d, e = .returned (.tuple #[d, .bool true]) ∧ OpenOut w w' d := by
  have hl := new_no sec w h
  rcases h with h | h
  · go_enter Try.func9, Try.ntmps9
    go_wp2_with fail
    refine hl.mono ?_
    rintro e w2 ⟨rfl, hw⟩
    have hw' := hw.symm
    subst hw'
    clear hl
    go_wp2
    go_ret2
    exact ⟨_, rfl, Below.refl _ _, .inl rfl⟩
  · have h' : ¬ sec < 1 := by omega
    go_enter Try.func9, Try.ntmps9
    go_wp2_with fail
    refine hl.mono ?_
    rintro e w2 ⟨rfl, hw⟩
    have hw' := hw.symm
    subst hw'
    clear hl
    go_wp2
    go_ret2
    exact ⟨_, rfl, Below.refl _ _, .inl rfl⟩

set_option maxHeartbeats 2000000 in
theorem open_new (s : Nat) (a : Option Addr) (c : Nat) (w : World) (h1 : 1 ≤ s) (h2 : s ≤ 2048) :
    Calls Try.prog 9 #[.int .i64 (s : Int), .slice a 0 c] w fun e w' => ∃ p, e = .returned (.tuple #[.pointer (some ⟨p, 0, none⟩), .bool true]) ∧ DiskAt w' (fun k => w.heap.size ≤ k ∧ k < w'.heap.size) p s (DS.fresh (List.replicate (s * 512) 0)) ∧ Below w.heap.size w w' := by
  have hl := new_ok s w h1 h2
  have h1' : ¬ (s : Int) < 1 := by omega
  have h2' : ¬ 2048 < (s : Int) := by omega
  go_enter Try.func9, Try.ntmps9
  go_wp2_with fail
  refine hl.mono ?_
  rintro e w2 ⟨p, rfl, hd, hb2⟩
  have HF := Hid.mk (And.intro hd hb2)
  clear hl hd hb2
  go_wp2
  go_ret2
  exact ⟨_, rfl, HF.out⟩

theorem open_any (sec : Int) (a : Option Addr) (n c : Nat) (l : List Int) (w : World) (hs : Src w a n l) (hn : n ≤ 140737488355328) :
    Calls Try.prog 9 #[.int .i64 sec, .slice a n c] w fun e w' => ∃ d, e = .returned (.tuple #[d, .bool true]) ∧ OpenOut w w' d := by
  by_cases h0 : n = 0
  · subst h0
    by_cases h : sec < 1 ∨ 2048 < sec
    · exact open_out sec a c w h
    · obtain ⟨s, rfl⟩ : ∃ s : Nat, sec = (s : Int) := ⟨sec.toNat, by omega⟩
      refine (open_new s a c w (by omega) (by omega)).mono ?_
      rintro e w' ⟨p, rfl, hd, hb⟩
      exact ⟨_, rfl, hb, .inr ⟨_, p, s, _, rfl, hd, rfl, rfl, fun k hk => hk.1⟩⟩
  · by_cases h : n % 512 = 0
    · by_cases h1 : 1048576 < n
      · exact open_no sec a n c l w hs hn h h1
      · exact open_load sec a n c (n / 512) l w hs (by omega) (by omega) (by omega)
    · exact open_bad sec a n c l w hs hn h
end Go.Proofs.Ytkkmkogpbhcpmaa
