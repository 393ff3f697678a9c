import Derived.Test.YtcofkdaakkfcfabStep2
namespace Go.Proofs.Ytcofkdaakkfcfab
open Go.RowKit Go.Maps

theorem Two.begin {w0 w1 w2 : World} {B p r s : Nat} {S : DS} {F G : Nat → Prop} (hB : B ≤ w0.heap.size) (hb1 : Below w0.heap.size w0 w1) (hd : DiskAt w1 F p s S) (hF : ∀ k, F k → w0.heap.size ≤ k) (hb2 : Below w1.heap.size w1 w2) (he : RefAt w2 G r s S) (hG : ∀ k, G k → w1.heap.size ≤ k) : Two w2 B F G p r s S S :=
  ⟨hd.keep (Keeps.of_below (fun _ => False) hb2) (fun _ _ h => h), he, by have := hb1.size; have := hb2.size; omega, fun k hk => by have := hF k hk; omega, fun k hk => by have := hG k hk; have := hb1.size; omega, fun k hf hg => by have := hd.lt k hf; have := hG k hg; omega⟩

/-- What Begin leaves. -/
def BeginOut (w w' : World) (B : Nat) (d r : Value) : Prop := Below w.heap.size w w' ∧ ((d = .pointer none ∧ r = .pointer none) ∨ ∃ F G p q s S, d = .pointer (some ⟨p, 0, none⟩) ∧ r = .pointer (some ⟨q, 0, none⟩) ∧ Two w' B F G p q s S S ∧ S.puts.length = 0 ∧ (∀ k, F k → w.heap.size ≤ k) ∧ (∀ k, G k → w.heap.size ≤ k))

set_option maxHeartbeats 2000000 in
theorem begin_bad (sec : Int) (a : Option Addr) (n c : Nat) (l : List Int) (w : World) (B : Nat) (hs : Src w a n l) (hn : n ≤ 140737488355328) (h : n % 512 ≠ 0) :
    Calls Try.prog 23 #[.int .i64 sec, .slice a n c] w fun e w' => ∃ d r, e = .returned (.tuple #[d, r, .bool true]) ∧ BeginOut w w' B d r := by
  have h0 : (0 : Int) < (n : Int) := by omega
  have ht := twin_any a n c l w hn hs
  clear hs
  go_enter Try.func23, Try.ntmps23
  go_wp2_with fail
  refine ht.mono ?_
  rintro e w1 ⟨g, rfl, hg, hr, hb1⟩
  have hl := load_bad (some ⟨g, 0, none⟩) n n w1 h hn
  have hrl := rload_bad a n c w1 h
  clear hr ht
  go_wp2_with fail
  refine hl.mono ?_
  rintro e w2 ⟨rfl, hw⟩
  have hw' := hw.symm
  subst hw'
  go_wp2_with fail
  refine hrl.mono ?_
  rintro e w2 ⟨rfl, hw⟩
  have hw' := hw.symm
  subst hw'
  clear hl hrl
  go_wp2
  go_ret3
  exact ⟨_, _, rfl, hb1, .inl ⟨rfl, rfl⟩⟩

set_option maxHeartbeats 2000000 in
theorem begin_no (sec : Int) (a : Option Addr) (n c : Nat) (l : List Int) (w : World) (B : Nat) (hs : Src w a n l) (hn : n ≤ 140737488355328) (h : n % 512 = 0) (h1 : 1048576 < n) :
    Calls Try.prog 23 #[.int .i64 sec, .slice a n c] w fun e w' => ∃ d r, e = .returned (.tuple #[d, r, .bool true]) ∧ BeginOut w w' B d r := by
  have h0 : (0 : Int) < (n : Int) := by omega
  have ht := twin_any a n c l w hn hs
  clear hs
  go_enter Try.func23, Try.ntmps23
  go_wp2_with fail
  refine ht.mono ?_
  rintro e w1 ⟨g, rfl, hg, hr, hb1⟩
  have hl := load_no (some ⟨g, 0, none⟩) n n w1 h (.inr h1) hn
  have hrl := rload_no a n c w1 hn h (.inr h1)
  clear hr ht
  go_wp2_with fail
  refine hl.mono ?_
  rintro e w2 ⟨rfl, hw⟩
  have hw' := hw.symm
  subst hw'
  go_wp2_with fail
  refine hrl.mono ?_
  rintro e w2 ⟨rfl, hw⟩
  have hw' := hw.symm
  subst hw'
  clear hl hrl
  go_wp2
  go_ret3
  exact ⟨_, _, rfl, hb1, .inl ⟨rfl, rfl⟩⟩

set_option maxHeartbeats 2000000 in
theorem begin_load (sec : Int) (b o n c s : Nat) (l : List Int) (w : World) (B : Nat) (hB : B ≤ w.heap.size) (hs : Src w (some ⟨b, o, none⟩) n l) (hc : ∀ i, i < n → w.cell? ⟨b, o + i, none⟩ = some (.int .u8 (l.getD i 0))) (hcap : n ≤ c) (h : n = s * 512) (h1 : 1 ≤ s) (h2 : s ≤ 2048) :
    Calls Try.prog 23 #[.int .i64 sec, .slice (some ⟨b, o, none⟩) n c] w fun e w' => ∃ d r, e = .returned (.tuple #[d, r, .bool true]) ∧ BeginOut w w' B d r := by
  have h0 : (0 : Int) < (n : Int) := by omega
  have hll := hs.1
  have ht := twin_any (some ⟨b, o, none⟩) n c l w (by omega) hs
  have Hc := Hid.mk hc
  have Hn := Hid.mk h
  have hno : n ≤ 1048576 := by omega
  clear hs hc h
  go_enter Try.func23, Try.ntmps23
  go_wp2_with fail
  refine ht.mono ?_
  rintro e w1 ⟨g, rfl, hg, hr, hb1⟩
  have hl := load_ok ⟨g, 0, none⟩ n n s l w1 Hn.out h1 h2 hll (fun i hi => hr.byte (by omega))
  clear hr ht
  go_wp2_with fail
  refine hl.mono ?_
  rintro e w2 ⟨p, rfl, hd, hb2⟩
  have hbw2 : Below w.heap.size w w2 := hb1.trans (hb2.mono hb1.size)
  have hrl := rload_ok b o n c s l w2 (fun i hi => cell_later hbw2 (Hc.out i hi)) hll Hn.out hcap h1 h2
  have Hd := Hid.mk hd
  clear hl hd
  go_wp2_with fail
  refine hrl.mono ?_
  rintro e w3 ⟨r, rfl, he, hb3⟩
  have hsz := hb1.size
  have ht3 := Two.begin (B := B) (by omega) hb2 Hd.out (fun k hk => hk.1) hb3 he (fun k hk => hk.1)
  have hbw3 : Below w.heap.size w w3 := hbw2.trans (hb3.mono hbw2.size)
  have hs2 := hb2.size
  have HF : Hid (BeginOut w w3 B (.pointer (some ⟨p, 0, none⟩)) (.pointer (some ⟨r, 0, none⟩))) := ⟨hbw3, .inr ⟨_, _, p, r, s, _, rfl, rfl, ht3, rfl, fun k hk => by have := hk.1; omega, fun k hk => by have := hk.1; omega⟩⟩
  clear hrl he hb3 hbw2 hb2 hb1 ht3 hbw3 Hd Hc
  go_wp2
  go_ret3
  exact ⟨_, _, rfl, HF.out⟩

set_option maxHeartbeats 2000000 in
theorem begin_out (sec : Int) (a : Option Addr) (c : Nat) (w : World) (B : Nat) (h : sec < 1 ∨ 2048 < sec) :
    Calls Try.prog 23 #[.int .i64 sec, .slice a 0 c] w fun e w' => ∃ d r, e = .returned (.tuple #[d, r, .bool true]) ∧ BeginOut w w' B d r := by
  have hl := new_no sec w h
  have hrl := rnew_no sec w h
  go_enter Try.func23, Try.ntmps23
  go_wp2_with fail
  refine hl.mono ?_
  rintro e w2 ⟨rfl, hw⟩
  have hw' := hw.symm
  subst hw'
  go_wp2_with fail
  refine hrl.mono ?_
  rintro e w2 ⟨rfl, hw⟩
  have hw' := hw.symm
  subst hw'
  clear hl hrl
  go_wp2
  go_ret3
  exact ⟨_, _, rfl, Below.refl _ _, .inl ⟨rfl, rfl⟩⟩

set_option maxHeartbeats 2000000 in
theorem begin_new (s : Nat) (a : Option Addr) (c : Nat) (w : World) (B : Nat) (hB : B ≤ w.heap.size) (h1 : 1 ≤ s) (h2 : s ≤ 2048) :
    Calls Try.prog 23 #[.int .i64 (s : Int), .slice a 0 c] w fun e w' => ∃ d r, e = .returned (.tuple #[d, r, .bool true]) ∧ BeginOut w w' B d r := by
  have hl := new_ok s w h1 h2
  go_enter Try.func23, Try.ntmps23
  go_wp2_with fail
  refine hl.mono ?_
  rintro e w2 ⟨p, rfl, hd, hb2⟩
  have hrl := rnew_ok s w2 h1 h2
  have Hd := Hid.mk hd
  clear hl hd
  go_wp2_with fail
  refine hrl.mono ?_
  rintro e w3 ⟨r, rfl, he, hb3⟩
  have ht3 := Two.begin hB hb2 Hd.out (fun k hk => hk.1) hb3 he (fun k hk => hk.1)
  have hbw3 : Below w.heap.size w w3 := hb2.trans (hb3.mono hb2.size)
  have hs2 := hb2.size
  have HF : Hid (BeginOut w w3 B (.pointer (some ⟨p, 0, none⟩)) (.pointer (some ⟨r, 0, none⟩))) := ⟨hbw3, .inr ⟨_, _, p, r, s, _, rfl, rfl, ht3, rfl, fun k hk => hk.1, fun k hk => by have := hk.1; omega⟩⟩
  clear hrl he hb3 hb2 ht3 hbw3 Hd
  go_wp2
  go_ret3
  exact ⟨_, _, rfl, HF.out⟩

theorem begin_any (sec : Int) (a : Option Addr) (n c : Nat) (l : List Int) (w : World) (B : Nat) (hB : B ≤ w.heap.size) (hs : Src w a n l) (hn : n ≤ 140737488355328) (hcap : n ≤ c) :
    Calls Try.prog 23 #[.int .i64 sec, .slice a n c] w fun e w' => ∃ d r, e = .returned (.tuple #[d, r, .bool true]) ∧ BeginOut w w' B d r := by
  by_cases h0 : n = 0
  · subst h0
    by_cases h : sec < 1 ∨ 2048 < sec
    · exact begin_out sec a c w B h
    · obtain ⟨s, rfl⟩ : ∃ s : Nat, sec = (s : Int) := ⟨sec.toNat, by omega⟩
      exact begin_new s a c w B hB (by omega) (by omega)
  · by_cases h : n % 512 = 0
    · by_cases h1 : 1048576 < n
      · exact begin_no sec a n c l w B hs hn h h1
      · obtain ⟨x, rfl⟩ : ∃ x, a = some x := by
          cases a with
          | none => exact absurd (hs.2.1 rfl) h0
          | some x => exact ⟨x, rfl⟩
        obtain ⟨b, o, rfl, hc⟩ := hs.spot (by omega)
        exact begin_load sec b o n c (n / 512) l w B hB hs hc hcap (by omega) (by omega) (by omega)
    · exact begin_bad sec a n c l w B hs hn h
end Go.Proofs.Ytcofkdaakkfcfab
