import Derived.Test.YtijgdmhglnanjabGreatW26
section
namespace Go.Proofs.YtijgdmhglnanjabGreat
open Go.RowKit Go.Maps

theorem RefAt.more {w w' : World} {F : Nat → Prop} {r s : Nat} {S : DS} (h : RefAt w' F r s S) : RefAt w' (more F w w') r s S := by
  obtain ⟨gl, cl, ls, pv, xs, h⟩ := h
  exact ⟨gl, cl, ls, pv, xs, h.mono (fun _ hk => .inl hk) (fun k hk => by rcases hk with hk | hk; exact h.lt k hk; exact hk.2)⟩

theorem rwrite_all {w : World} {F : Nat → Prop} {p s : Nat} {S : DS} (h : RefAt w F p s S) (x : Int) (a : Option Addr) (n c : Nat) (l : List Int) (hs : Src w a n l) (hbig : S.puts.length + 1 ≤ 4000000000000) :
    Calls Tryz.prog 48 #[.pointer (some ⟨p, 0, none⟩), .int .i64 x, .slice a n c] w fun e w' => e = .returned (.int .i64 (S.wr s x n l).1) ∧ RefAt w' (more F w w') p s (S.wr s x n l).2 ∧ Keeps F w w' := by
  by_cases hf : S.fuse = 0
  · simp only [DS.wr, hf, if_true]
    refine (rwrite_dead h x a n c hf).mono ?_
    rintro e w' ⟨rfl, rfl⟩
    exact ⟨rfl, h.more, Keeps.refl _ _⟩
  · by_cases hx : x < 0 ∨ (s : Int) ≤ x
    · simp only [DS.wr, hf, if_false, hx, if_true]
      refine (rwrite_range h x a n c hf hx).mono ?_
      rintro e w' ⟨rfl, h1, h2⟩
      exact ⟨rfl, h1.more, h2⟩
    · obtain ⟨k, rfl⟩ : ∃ k : Nat, x = (k : Int) := ⟨x.toNat, by omega⟩
      have hk : k < s := by omega
      by_cases hn : n = 512
      · subst hn
        simp only [DS.wr, hf, if_false, hx, ne_eq, not_true_eq_false, Int.toNat_natCast]
        obtain ⟨y, rfl⟩ : ∃ y, a = some y := by
          cases a with
          | none => have := hs.2.1 rfl; omega
          | some y => exact ⟨y, rfl⟩
        exact rwrite_ok h k hk hf hbig y c l hs
      · simp only [DS.wr, hf, if_false, hx, ne_eq, hn, not_false_eq_true, if_true]
        refine (rwrite_length h k a n c hf hk hn).mono ?_
        rintro e w' ⟨rfl, h1, h2⟩
        exact ⟨rfl, h1.more, h2⟩

theorem rflush_all {w : World} {F : Nat → Prop} {p s : Nat} {S : DS} (h : RefAt w F p s S) (hbig : S.puts.length + 1 ≤ 4000000000000) :
    Calls Tryz.prog 50 #[.pointer (some ⟨p, 0, none⟩)] w fun e w' => e = .returned (.int .i64 (S.fl s).1) ∧ RefAt w' F p s (S.fl s).2 ∧ Keeps F w w' := by
  by_cases hf : S.fuse = 0
  · simp only [DS.fl, hf, if_true]
    refine (rflush_dead h hf).mono ?_
    rintro e w' ⟨rfl, rfl⟩
    exact ⟨rfl, h, Keeps.refl _ _⟩
  · simp only [DS.fl, hf, if_false]
    exact rflush_ok h hf (by omega)

theorem rcrash_all {w : World} {F : Nat → Prop} {r s : Nat} {S : DS} (hd : RefAt w F r s S) (hbig : S.puts.length + 1 ≤ 4000000000000) (a : Option Addr) (n c : Nat) (l : List P3) (hps : PSrc w a n l) (hn : n ≤ 140737488355328) :
    Calls Tryz.prog 25 #[.pointer (some ⟨r, 0, none⟩), .slice a n c] w fun e w' => e = .returned (.tuple #[]) ∧ RefAt w' (more F w w') r s (S.crash s l) ∧ Keeps F w w' := by
  by_cases hz : S.puts.length = 0
  · exact rcrash_zero hd hz a n c l
  · exact rcrash_more hd (by omega) hbig a n c l hps hn

/-- The program's disk and the document's, each in blocks of its own, all from B on. -/
structure Two (w : World) (B : Nat) (F G : Nat → Prop) (p r s : Nat) (S T : DS) : Prop where
  d : DiskAt w F p s S
  e : RefAt w G r s T
  lo : B ≤ w.heap.size
  fF : ∀ k, F k → B ≤ k
  fG : ∀ k, G k → B ≤ k
  dis : ∀ k, F k → ¬ G k

theorem Two.left {w w' : World} {B : Nat} {F G : Nat → Prop} {p r s : Nat} {S S' T : DS} (h : Two w B F G p r s S T) (hd : DiskAt w' (more F w w') p s S') (hk : Keeps F w w') : Two w' B (more F w w') G p r s S' T := by
  refine ⟨hd, h.e.keep hk (fun k hg hf => h.dis k hf hg), Nat.le_trans h.lo hk.size, fun k hk' => ?_, h.fG, fun k hk' hg => ?_⟩
  · rcases hk' with h1 | h1
    · exact h.fF k h1
    · have := h.lo; omega
  · rcases hk' with h1 | h1
    · exact h.dis k h1 hg
    · have := h.e.lt k hg; omega
theorem Two.right {w w' : World} {B : Nat} {F G : Nat → Prop} {p r s : Nat} {S T T' : DS} (h : Two w B F G p r s S T) (hd : RefAt w' (more G w w') r s T') (hk : Keeps G w w') : Two w' B F (more G w w') p r s S T' := by
  refine ⟨h.d.keep hk (fun k hf hg => h.dis k hf hg), hd, Nat.le_trans h.lo hk.size, h.fF, fun k hk' => ?_, fun k hf hk' => ?_⟩
  · rcases hk' with h1 | h1
    · exact h.fG k h1
    · have := h.lo; omega
  · rcases hk' with h1 | h1
    · exact h.dis k hf h1
    · have := h.d.lt k hf; omega
theorem Two.later {w w' : World} {B : Nat} {F G : Nat → Prop} {p r s : Nat} {S T : DS} (h : Two w B F G p r s S T) (hb : Below w.heap.size w w') : Two w' B F G p r s S T :=
  ⟨h.d.keep (Keeps.of_below (fun _ => False) hb) (fun _ _ h => h), h.e.keep (Keeps.of_below (fun _ => False) hb) (fun _ _ h => h), Nat.le_trans h.lo hb.size, h.fF, h.fG, h.dis⟩
theorem Two.leftBelow {w w' : World} {B : Nat} {F G : Nat → Prop} {p r s : Nat} {S T : DS} (h : Two w B F G p r s S T) (hk : Keeps F w w') : Below B w w' := hk.below h.fF h.lo
theorem Two.rightBelow {w w' : World} {B : Nat} {F G : Nat → Prop} {p r s : Nat} {S T : DS} (h : Two w B F G p r s S T) (hk : Keeps G w w') : Below B w w' := hk.below h.fG h.lo

end Go.Proofs.YtijgdmhglnanjabGreat
end

section
namespace Go.Proofs.YtijgdmhglnanjabGreat
open Go.RowKit Go.Maps

theorem Two.begin {w0 w1 w2 : World} {B p r s : Nat} {S : DS} {F G : Nat → Prop} (hB : B ≤ w0.heap.size) (hb1 : Below w0.heap.size w0 w1) (hd : DiskAt w1 F p s S) (hF : ∀ k, F k → w0.heap.size ≤ k) (hb2 : Below w1.heap.size w1 w2) (he : RefAt w2 G r s S) (hG : ∀ k, G k → w1.heap.size ≤ k) : Two w2 B F G p r s S S :=
  ⟨hd.keep (Keeps.of_below (fun _ => False) hb2) (fun _ _ h => h), he, by have := hb1.size; have := hb2.size; omega, fun k hk => by have := hF k hk; omega, fun k hk => by have := hG k hk; have := hb1.size; omega, fun k hf hg => by have := hd.lt k hf; have := hG k hg; omega⟩

/-- What Begin leaves. -/
def BeginOut (w w' : World) (B : Nat) (l : List Int) (d r : Value) : Prop := Below w.heap.size w w' ∧ ((d = .pointer none ∧ r = .pointer none) ∨ ∃ F G p q s im, d = .pointer (some ⟨p, 0, none⟩) ∧ r = .pointer (some ⟨q, 0, none⟩) ∧ Two w' B F G p q s (DS.fresh im) (DS.fresh im) ∧ (im = l ∨ ∃ m, im = List.replicate m 0) ∧ (∀ k, F k → w.heap.size ≤ k) ∧ (∀ k, G k → w.heap.size ≤ k))

set_option maxHeartbeats 2000000 in
theorem begin_bad (dsec : Int) (a : Option Addr) (n c : Nat) (l : List Int) (w : World) (B : Nat) (hs : Src w a n l) (hn : n ≤ 140737488355328) (h : n % 512 ≠ 0) :
    Calls Tryz.prog 14 #[.int .i64 dsec, .slice a n c] w fun e w' => ∃ d r, e = .returned (.tuple #[d, r, .bool true]) ∧ BeginOut w w' B l d r := by
  have h0 : (0 : Int) < (n : Int) := by omega
  have ht := twin_any a n c l w hn hs
  clear hs
  go_enter Tryz.func14, Tryz.ntmps14
  go_wp2_with fail
  refine ht.mono ?_
  rintro e w1 ⟨g, rfl, hg, hr, hb1⟩
  have hl := load_bad (some ⟨g, 0, none⟩) n n w1 h hn
  have hrl := rload_bad a n c w1 h
  clear hr ht
  go_wp2_with fail
  refine hl.mono ?_
  rintro e w2 ⟨rfl, hw⟩
  have hw' := hw.symm
  subst hw'
  go_wp2_with fail
  refine hrl.mono ?_
  rintro e w2 ⟨rfl, hw⟩
  have hw' := hw.symm
  subst hw'
  clear hl hrl
  go_wp2
  go_ret3
  exact ⟨_, _, rfl, hb1, .inl ⟨rfl, rfl⟩⟩

set_option maxHeartbeats 2000000 in
theorem begin_no (dsec : Int) (a : Option Addr) (n c : Nat) (l : List Int) (w : World) (B : Nat) (hs : Src w a n l) (hn : n ≤ 140737488355328) (h : n % 512 = 0) (h1 : 1048576 < n) :
    Calls Tryz.prog 14 #[.int .i64 dsec, .slice a n c] w fun e w' => ∃ d r, e = .returned (.tuple #[d, r, .bool true]) ∧ BeginOut w w' B l d r := by
  have h0 : (0 : Int) < (n : Int) := by omega
  have ht := twin_any a n c l w hn hs
  clear hs
  go_enter Tryz.func14, Tryz.ntmps14
  go_wp2_with fail
  refine ht.mono ?_
  rintro e w1 ⟨g, rfl, hg, hr, hb1⟩
  have hl := load_no (some ⟨g, 0, none⟩) n n w1 h (.inr h1) hn
  have hrl := rload_no a n c w1 hn h (.inr h1)
  clear hr ht
  go_wp2_with fail
  refine hl.mono ?_
  rintro e w2 ⟨rfl, hw⟩
  have hw' := hw.symm
  subst hw'
  go_wp2_with fail
  refine hrl.mono ?_
  rintro e w2 ⟨rfl, hw⟩
  have hw' := hw.symm
  subst hw'
  clear hl hrl
  go_wp2
  go_ret3
  exact ⟨_, _, rfl, hb1, .inl ⟨rfl, rfl⟩⟩

set_option maxHeartbeats 2000000 in
theorem begin_load (dsec : Int) (b o n c s : Nat) (l : List Int) (w : World) (B : Nat) (hB : B ≤ w.heap.size) (hs : Src w (some ⟨b, o, none⟩) n l) (hc : ∀ i, i < n → w.cell? ⟨b, o + i, none⟩ = some (.int .u8 (l.getD i 0))) (hcap : n ≤ c) (h : n = s * 512) (h1 : 1 ≤ s) (h2 : s ≤ 2048) :
    Calls Tryz.prog 14 #[.int .i64 dsec, .slice (some ⟨b, o, none⟩) n c] w fun e w' => ∃ d r, e = .returned (.tuple #[d, r, .bool true]) ∧ BeginOut w w' B l d r := by
  have h0 : (0 : Int) < (n : Int) := by omega
  have hll := hs.1
  have ht := twin_any (some ⟨b, o, none⟩) n c l w (by omega) hs
  have Hc := Hid.mk hc
  have Hn := Hid.mk h
  have hno : n ≤ 1048576 := by omega
  clear hs hc h
  go_enter Tryz.func14, Tryz.ntmps14
  go_wp2_with fail
  refine ht.mono ?_
  rintro e w1 ⟨g, rfl, hg, hr, hb1⟩
  have hl := load_ok ⟨g, 0, none⟩ n n s l w1 Hn.out h1 h2 hll (fun i hi => hr.byte (by omega))
  clear hr ht
  go_wp2_with fail
  refine hl.mono ?_
  rintro e w2 ⟨p, rfl, hd, hb2⟩
  have hbw2 : Below w.heap.size w w2 := hb1.trans (hb2.mono hb1.size)
  have hrl := rload_ok b o n c s l w2 (fun i hi => cell_later hbw2 (Hc.out i hi)) hll Hn.out hcap h1 h2
  have Hd := Hid.mk hd
  clear hl hd
  go_wp2_with fail
  refine hrl.mono ?_
  rintro e w3 ⟨r, rfl, he, hb3⟩
  have hsz := hb1.size
  have ht3 := Two.begin (B := B) (by omega) hb2 Hd.out (fun k hk => hk.1) hb3 he (fun k hk => hk.1)
  have hbw3 : Below w.heap.size w w3 := hbw2.trans (hb3.mono hbw2.size)
  have hs2 := hb2.size
  have HF : Hid (BeginOut w w3 B l (.pointer (some ⟨p, 0, none⟩)) (.pointer (some ⟨r, 0, none⟩))) := ⟨hbw3, .inr ⟨_, _, p, r, s, _, rfl, rfl, ht3, .inl rfl, fun k hk => by have := hk.1; omega, fun k hk => by have := hk.1; omega⟩⟩
  clear hrl he hb3 hbw2 hb2 hb1 ht3 hbw3 Hd Hc
  go_wp2
  go_ret3
  exact ⟨_, _, rfl, HF.out⟩

set_option maxHeartbeats 2000000 in
theorem begin_out (dsec : Int) (l : List Int) (a : Option Addr) (c : Nat) (w : World) (B : Nat) (h : dsec < 1 ∨ 2048 < dsec) :
    Calls Tryz.prog 14 #[.int .i64 dsec, .slice a 0 c] w fun e w' => ∃ d r, e = .returned (.tuple #[d, r, .bool true]) ∧ BeginOut w w' B l d r := by
  have hl := new_no dsec w h
  have hrl := rnew_no dsec w h
  go_enter Tryz.func14, Tryz.ntmps14
  go_wp2_with fail
  refine hl.mono ?_
  rintro e w2 ⟨rfl, hw⟩
  have hw' := hw.symm
  subst hw'
  go_wp2_with fail
  refine hrl.mono ?_
  rintro e w2 ⟨rfl, hw⟩
  have hw' := hw.symm
  subst hw'
  clear hl hrl
  go_wp2
  go_ret3
  exact ⟨_, _, rfl, Below.refl _ _, .inl ⟨rfl, rfl⟩⟩

set_option maxHeartbeats 2000000 in
theorem begin_new (s : Nat) (l : List Int) (a : Option Addr) (c : Nat) (w : World) (B : Nat) (hB : B ≤ w.heap.size) (h1 : 1 ≤ s) (h2 : s ≤ 2048) :
    Calls Tryz.prog 14 #[.int .i64 (s : Int), .slice a 0 c] w fun e w' => ∃ d r, e = .returned (.tuple #[d, r, .bool true]) ∧ BeginOut w w' B l d r := by
  have hl := new_ok s w h1 h2
  go_enter Tryz.func14, Tryz.ntmps14
  go_wp2_with fail
  refine hl.mono ?_
  rintro e w2 ⟨p, rfl, hd, hb2⟩
  have hrl := rnew_ok s w2 h1 h2
  have Hd := Hid.mk hd
  clear hl hd
  go_wp2_with fail
  refine hrl.mono ?_
  rintro e w3 ⟨r, rfl, he, hb3⟩
  have ht3 := Two.begin hB hb2 Hd.out (fun k hk => hk.1) hb3 he (fun k hk => hk.1)
  have hbw3 : Below w.heap.size w w3 := hb2.trans (hb3.mono hb2.size)
  have hs2 := hb2.size
  have HF : Hid (BeginOut w w3 B l (.pointer (some ⟨p, 0, none⟩)) (.pointer (some ⟨r, 0, none⟩))) := ⟨hbw3, .inr ⟨_, _, p, r, s, _, rfl, rfl, ht3, .inr ⟨_, rfl⟩, fun k hk => hk.1, fun k hk => by have := hk.1; omega⟩⟩
  clear hrl he hb3 hb2 ht3 hbw3 Hd
  go_wp2
  go_ret3
  exact ⟨_, _, rfl, HF.out⟩

theorem begin_any (dsec : Int) (a : Option Addr) (n c : Nat) (l : List Int) (w : World) (B : Nat) (hB : B ≤ w.heap.size) (hs : Src w a n l) (hn : n ≤ 140737488355328) (hcap : n ≤ c) :
    Calls Tryz.prog 14 #[.int .i64 dsec, .slice a n c] w fun e w' => ∃ d r, e = .returned (.tuple #[d, r, .bool true]) ∧ BeginOut w w' B l d r := by
  by_cases h0 : n = 0
  · subst h0
    by_cases h : dsec < 1 ∨ 2048 < dsec
    · exact begin_out dsec l a c w B h
    · obtain ⟨s, rfl⟩ : ∃ s : Nat, dsec = (s : Int) := ⟨dsec.toNat, by omega⟩
      exact begin_new s l a c w B hB (by omega) (by omega)
  · by_cases h : n % 512 = 0
    · by_cases h1 : 1048576 < n
      · exact begin_no dsec a n c l w B hs hn h h1
      · obtain ⟨x, rfl⟩ : ∃ x, a = some x := by
          cases a with
          | none => exact absurd (hs.2.1 rfl) h0
          | some x => exact ⟨x, rfl⟩
        obtain ⟨b, o, rfl, hc⟩ := hs.spot (by omega)
        exact begin_load dsec b o n c (n / 512) l w B hB hs hc hcap (by omega) (by omega) (by omega)
    · exact begin_bad dsec a n c l w B hs hn h
end Go.Proofs.YtijgdmhglnanjabGreat
end

section
namespace Go.Proofs.YtijgdmhglnanjabGreat
open Go.RowKit

section
variable {w w' : World} {F G : Nat → Prop} {r s k : Nat} {S : DS} {L : LG}
theorem RefAt.later (h : RefAt w F r s S) (hb : Below w.heap.size w w') : RefAt w' F r s S := h.keep (Keeps.of_below (fun _ => False) hb) (fun _ _ h => h)
theorem RefAt.mono (h : RefAt w F r s S) (hG : ∀ k, F k → G k) (hl : ∀ k, G k → k < w.heap.size) : RefAt w G r s S := by
  obtain ⟨gl, cl, ls, pv, xs, h⟩ := h
  exact ⟨gl, cl, ls, pv, xs, h.mono hG hl⟩
theorem RefAt.boxed (h : RefAt w F r s S) (o : Obj) : RefAt (w.alloc o) F r s S := h.later ((Below.refl w.heap.size w).alloc (Nat.le_refl _) o)
theorem RefAt.mem (h : RefAt w F r s S) : F r := by obtain ⟨gl, cl, ls, pv, xs, h⟩ := h; exact h.fr

set_option maxRecDepth 20000 in
set_option maxHeartbeats 4000000 in
theorem rargs_any (h : RefAt w F r s S) (f n : Int) :
    Calls Tryz.prog 47 #[.pointer (some ⟨r, 0, none⟩), .int .i64 f, .int .i64 n] w fun e w' => e = .returned (.int .i64 (lrefuse S s f n)) ∧ w' = w := by
  have hs := h.ok.hi
  have h1 := rsectors_at h
  have h2 := rburnt_at h
  unfold lrefuse
  clear h
  by_cases c1 : S.fuse = 0
  · rw [show (S.fuse == 0) = true by simp [c1]] at h2
    rw [if_pos c1]
    clear c1
    go_enter Tryz.func47, Tryz.ntmps47
    go_wp2_with (first | (go_at_call 64; refine h1.mono ?_; rintro e w' ⟨rfl, hw⟩; subst hw) | (go_at_call 16; refine h2.mono ?_; rintro e w' ⟨rfl, hw⟩; subst hw))
    go_ret
    exact ⟨rfl, rfl⟩
  · rw [show (S.fuse == 0) = false by simp [c1]] at h2
    rw [if_neg c1]
    clear c1
    by_cases c2 : f < 0 ∨ (s : Int) ≤ f
    · rw [if_pos c2]
      by_cases c3 : f < 0
      · clear c2
        go_enter Tryz.func47, Tryz.ntmps47
        go_wp2_with (first | (go_at_call 64; refine h1.mono ?_; rintro e w' ⟨rfl, hw⟩; subst hw) | (go_at_call 16; refine h2.mono ?_; rintro e w' ⟨rfl, hw⟩; subst hw))
        go_ret
        exact ⟨rfl, rfl⟩
      · have c4 : (s : Int) ≤ f := by omega
        clear c2
        go_enter Tryz.func47, Tryz.ntmps47
        go_wp2_with (first | (go_at_call 64; refine h1.mono ?_; rintro e w' ⟨rfl, hw⟩; subst hw) | (go_at_call 16; refine h2.mono ?_; rintro e w' ⟨rfl, hw⟩; subst hw))
        go_ret
        exact ⟨rfl, rfl⟩
    · rw [if_neg c2]
      have c3 : ¬ f < 0 := by omega
      have c4 : ¬ (s : Int) ≤ f := by omega
      clear c2
      by_cases c5 : n < 18 ∨ 256 < n
      · rw [if_pos c5]
        by_cases c6 : n < 18
        · clear c5
          go_enter Tryz.func47, Tryz.ntmps47
          go_wp2_with (first | (go_at_call 64; refine h1.mono ?_; rintro e w' ⟨rfl, hw⟩; subst hw) | (go_at_call 16; refine h2.mono ?_; rintro e w' ⟨rfl, hw⟩; subst hw))
          go_ret
          exact ⟨rfl, rfl⟩
        · have c7 : 256 < n := by omega
          clear c5
          go_enter Tryz.func47, Tryz.ntmps47
          go_wp2_with (first | (go_at_call 64; refine h1.mono ?_; rintro e w' ⟨rfl, hw⟩; subst hw) | (go_at_call 16; refine h2.mono ?_; rintro e w' ⟨rfl, hw⟩; subst hw))
          go_ret
          exact ⟨rfl, rfl⟩
      · rw [if_neg c5]
        have c6 : ¬ n < 18 := by omega
        have c7 : ¬ 256 < n := by omega
        clear c5
        by_cases c8 : (s : Int) < f + 2 + n
        · rw [if_pos c8]
          go_enter Tryz.func47, Tryz.ntmps47
          go_wp2_with (first | (go_at_call 64; refine h1.mono ?_; rintro e w' ⟨rfl, hw⟩; subst hw) | (go_at_call 16; refine h2.mono ?_; rintro e w' ⟨rfl, hw⟩; subst hw))
          go_ret
          exact ⟨rfl, rfl⟩
        · rw [if_neg c8]
          go_enter Tryz.func47, Tryz.ntmps47
          go_wp2_with (first | (go_at_call 64; refine h1.mono ?_; rintro e w' ⟨rfl, hw⟩; subst hw) | (go_at_call 16; refine h2.mono ?_; rintro e w' ⟨rfl, hw⟩; subst hw))
          go_ret
          exact ⟨rfl, rfl⟩

abbrev lrC (r : Nat) (L : LG) : Array Value := #[.pointer (some ⟨r, 0, none⟩), .int .i64 L.life, .int .i64 (L.f : Int), .int .i64 (L.n : Int), .int .i64 (L.ep : Int), .int .i64 (L.tail : Int), .int .i64 (L.head : Int), .int .i64 (L.top : Int), .bool L.begun]
/-- The document's log in memory. -/
def LogR (w : World) (k r : Nat) (L : LG) : Prop := w.heap[k]? = some (.cells (lrC r L) 134 (0, 0))
theorem LogR.lt (h : LogR w k r L) : k < w.heap.size := lt_there h
theorem LogR.keep (h : LogR w k r L) (hk : Keeps G w w') (hn : ¬ G k) : LogR w' k r L := (hk.block k h.lt hn).trans h
theorem LogR.later (h : LogR w k r L) (hb : Below w.heap.size w w') : LogR w' k r L := (hb.block k h.lt).trans h
theorem LogR.c0 (h : LogR w k r L) : w.cell? ⟨k, 0, none⟩ = some (.pointer (some ⟨r, 0, none⟩)) := cell_of_block h (j := 0) rfl
theorem LogR.c1 (h : LogR w k r L) : w.cell? ⟨k, 1, none⟩ = some (.int .i64 L.life) := cell_of_block h (j := 1) rfl
theorem LogR.c2 (h : LogR w k r L) : w.cell? ⟨k, 2, none⟩ = some (.int .i64 (L.f : Int)) := cell_of_block h (j := 2) rfl
theorem LogR.c3 (h : LogR w k r L) : w.cell? ⟨k, 3, none⟩ = some (.int .i64 (L.n : Int)) := cell_of_block h (j := 3) rfl
theorem LogR.c4 (h : LogR w k r L) : w.cell? ⟨k, 4, none⟩ = some (.int .i64 (L.ep : Int)) := cell_of_block h (j := 4) rfl
theorem LogR.c5 (h : LogR w k r L) : w.cell? ⟨k, 5, none⟩ = some (.int .i64 (L.tail : Int)) := cell_of_block h (j := 5) rfl
theorem LogR.c6 (h : LogR w k r L) : w.cell? ⟨k, 6, none⟩ = some (.int .i64 (L.head : Int)) := cell_of_block h (j := 6) rfl
theorem LogR.c7 (h : LogR w k r L) : w.cell? ⟨k, 7, none⟩ = some (.int .i64 (L.top : Int)) := cell_of_block h (j := 7) rfl
theorem LogR.c8 (h : LogR w k r L) : w.cell? ⟨k, 8, none⟩ = some (.bool L.begun) := cell_of_block h (j := 8) rfl
theorem LogR.fz (h : LogR w k r L) (j : Nat) : w.frozen? ⟨k, j, none⟩ = false := frozen_of_block h j

set_option maxRecDepth 20000 in
set_option maxHeartbeats 4000000 in
theorem rdead_any (h : RefAt w F r s S) (hl : LogR w k r L) :
    Calls Tryz.prog 101 #[.pointer (some ⟨k, 0, none⟩)] w fun e w' => e = .returned (.bool (L.dead S)) ∧ Below w.heap.size w w' := by
  have h1 := fun n => rburnt_at (h.later (below_drewN (Below.refl w.heap.size w) n))
  have h2 := fun n => rlife_at (h.later (below_drewN (Below.refl w.heap.size w) n))
  have c0 := hl.c0
  have c1 := hl.c1
  unfold LG.dead
  clear h hl
  by_cases q : S.fuse = 0
  · rw [show (S.fuse == 0) = true by simp [q]] at h1 ⊢
    clear q
    go_enter Tryz.func101, Tryz.ntmps101
    go_wp2_with fail
    go_quiet ((go_at_call 16; exact Calls.quiet_of_same (h1 _)))
    go_wp2
    go_ret
    exact ⟨rfl, below_drewN (Below.refl _ _) _⟩
  · rw [show (S.fuse == 0) = false by simp [q]] at h1 ⊢
    clear q
    go_enter Tryz.func101, Tryz.ntmps101
    go_wp2_with fail
    go_quiet (first | (go_at_call 16; exact Calls.quiet_of_same (h1 _)) | (go_at_call 125; exact Calls.quiet_of_same (h2 _)))
    go_wp2
    go_ret
    exact ⟨rfl, below_drewN (Below.refl _ _) _⟩

set_option maxRecDepth 20000 in
set_option maxHeartbeats 4000000 in
theorem rready_any (h : RefAt w F r s S) (hl : LogR w k r L) :
    Calls Tryz.prog 102 #[.pointer (some ⟨k, 0, none⟩)] w fun e w' => e = .returned (.int .i64 (L.unready S)) ∧ Below w.heap.size w w' := by
  have h1 := rdead_any h hl
  unfold LG.unready
  have HL := Hid.mk hl
  clear h hl
  cases hd : L.dead S
  · rw [hd] at h1
    cases hb : L.begun
    · rw [if_neg (by decide), if_neg (by decide)]
      go_enter Tryz.func102, Tryz.ntmps102
      go_wp2_with fail
      refine h1.mono ?_
      rintro e w' ⟨rfl, hb'⟩
      have c8 := (HL.out.later hb').c8
      rw [hb] at c8
      have HB := Hid.mk hb'
      clear hb' h1
      go_wp2
      go_ret
      exact ⟨rfl, HB.out⟩
    · rw [if_neg (by decide), if_pos rfl]
      go_enter Tryz.func102, Tryz.ntmps102
      go_wp2_with fail
      refine h1.mono ?_
      rintro e w' ⟨rfl, hb'⟩
      have c8 := (HL.out.later hb').c8
      rw [hb] at c8
      have HB := Hid.mk hb'
      clear hb' h1
      go_wp2
      go_ret
      exact ⟨rfl, HB.out⟩
  · rw [hd] at h1
    rw [if_pos rfl]
    go_enter Tryz.func102, Tryz.ntmps102
    go_wp2_with fail
    refine h1.mono ?_
    rintro e w' ⟨rfl, hb'⟩
    have HB := Hid.mk hb'
    clear hb' h1
    go_wp2
    go_ret
    exact ⟨rfl, HB.out⟩

set_option maxRecDepth 20000 in
set_option maxHeartbeats 4000000 in
theorem rRoom_any (h : RefAt w F r s S) (hl : LogR w k r L) (hk : L.Ok s) :
    Calls Tryz.prog 74 #[.pointer (some ⟨k, 0, none⟩)] w fun e w' => e = .returned (.tuple #[.int .i64 (L.room S).1, .int .i64 (L.room S).2]) ∧ Below w.heap.size w w' := by
  have h1 := rready_any h hl
  have HL := Hid.mk hl
  have b1 := hk.n2
  have b2 := hk.th
  have b3 := hk.hi
  have b4 := hk.hn
  unfold LG.room
  generalize L.unready S = U at *
  clear h hl hk
  by_cases q : U = 0
  · subst q
    rw [if_neg (by decide)]
    go_enter Tryz.func74, Tryz.ntmps74
    go_wp2_with fail
    refine h1.mono ?_
    rintro e w1 ⟨rfl, hb⟩
    have hl := HL.out.later hb
    have c3 := hl.c3
    have c5 := hl.c5
    have c6 := hl.c6
    have HB := Hid.mk hb
    clear hb h1 hl
    go_wp2_with fail
    try go_quiet (fail)
    go_wp2
    go_ret2
    exact ⟨rfl, below_drewN HB.out _⟩
  · rw [if_pos q]
    have d : (U == 0) = false := by rw [beq_eq_false_iff_ne]; exact q
    go_enter Tryz.func74, Tryz.ntmps74
    go_wp2_with fail
    refine h1.mono ?_
    rintro e w1 ⟨rfl, hb⟩
    have HB := Hid.mk hb
    clear hb h1
    go_wp2
    go_ret2
    exact ⟨rfl, HB.out⟩

set_option maxRecDepth 20000 in
set_option maxHeartbeats 4000000 in
theorem rMarks_any (h : RefAt w F r s S) (hl : LogR w k r L) :
    Calls Tryz.prog 75 #[.pointer (some ⟨k, 0, none⟩)] w fun e w' => e = .returned (if L.dead S = true then .tuple #[.int .i64 0, .int .i64 0, .int .i64 0, .int .i64 3] else .tuple #[.int .i64 (L.ep : Int), .int .i64 (L.tail : Int), .int .i64 (L.head : Int), .int .i64 0]) ∧ Below w.heap.size w w' := by
  have h1 := rdead_any h hl
  have HL := Hid.mk hl
  clear h hl
  cases hd : L.dead S
  · rw [hd] at h1
    rw [if_neg (by decide)]
    go_enter Tryz.func75, Tryz.ntmps75
    go_wp2_with fail
    refine h1.mono ?_
    rintro e w1 ⟨rfl, hb⟩
    have hl := HL.out.later hb
    have c4 := hl.c4
    have c5 := hl.c5
    have c6 := hl.c6
    have HB := Hid.mk hb
    clear hb hl h1
    go_wp2_with fail
    go_quiet (fail)
    go_wp2
    exact bodyPost_ret (results_tmp4 (P := Tryz.prog) rfl _ _) rfl ⟨rfl, below_drewN HB.out _⟩
  · rw [hd] at h1
    rw [if_pos rfl]
    go_enter Tryz.func75, Tryz.ntmps75
    go_wp2_with fail
    refine h1.mono ?_
    rintro e w1 ⟨rfl, hb⟩
    have HB := Hid.mk hb
    clear hb h1
    go_wp2
    exact bodyPost_ret (results_tmp4 (P := Tryz.prog) rfl _ _) rfl ⟨rfl, HB.out⟩

theorem rflush_w (h : RefAt w F r s S) (hbig : S.puts.length + 1 ≤ 4000000000000) :
    Calls Tryz.prog 50 #[.pointer (some ⟨r, 0, none⟩)] w fun e w' => e = .returned (.int .i64 (S.fl s).1) ∧ RefAt w' F r s (S.fl s).2 ∧ Keeps F w w' := by
  exact rflush_all h hbig

set_option maxRecDepth 20000 in
set_option maxHeartbeats 4000000 in
theorem rSync_any (h : RefAt w F r s S) (hl : LogR w k r L) (hF : ¬ F k) (hbig : S.puts.length + 1 ≤ 4000000000000) :
    Calls Tryz.prog 71 #[.pointer (some ⟨k, 0, none⟩)] w fun e w' => e = .returned (.int .i64 (L.sync S s).1) ∧ RefAt w' F r s (L.sync S s).2 ∧ LogR w' k r L ∧ Keeps F w w' := by
  have h1 := rready_any h hl
  have HL := Hid.mk hl
  have HD := Hid.mk h
  unfold LG.sync
  generalize L.unready S = U at *
  clear h hl
  by_cases q : U = 0
  · subst q
    rw [if_neg (by decide)]
    go_enter Tryz.func71, Tryz.ntmps71
    go_wp2_with fail
    refine h1.mono ?_
    rintro e w1 ⟨rfl, hb⟩
    have hl := HL.out.later hb
    have c0 := hl.c0
    have h2 := rflush_w (HD.out.later hb) hbig
    have HB := Hid.mk (Keeps.of_below F hb)
    have HL1 := Hid.mk hl
    clear hb h1 hl
    go_wp2_with fail
    refine h2.mono ?_
    rintro e w2 ⟨rfl, hd2, hk2⟩
    have HZ := Hid.mk (And.intro hd2 (And.intro (HL1.out.keep hk2 hF) (HB.out.trans hk2 (fun _ h => .inl h))))
    clear h2 hd2 hk2
    go_wp2
    go_ret
    exact ⟨rfl, HZ.out⟩
  · rw [if_pos q]
    have d : (U == 0) = false := by rw [beq_eq_false_iff_ne]; exact q
    go_enter Tryz.func71, Tryz.ntmps71
    go_wp2_with fail
    refine h1.mono ?_
    rintro e w1 ⟨rfl, hb⟩
    have HZ := Hid.mk (And.intro (HD.out.later hb) (And.intro (HL.out.later hb) (Keeps.of_below F hb)))
    clear hb h1
    go_wp2
    go_ret
    exact ⟨rfl, HZ.out⟩
end
end Go.Proofs.YtijgdmhglnanjabGreat
end

section
namespace Go.Proofs.YtijgdmhglnanjabGreat
open Go.RowKit

section
variable {w w' : World} {F G : Nat → Prop} {r s k : Nat} {S : DS} {L : LG}

theorem RefAt.join {w w1 w2 : World} (h : RefAt w2 (Go.Proofs.YtijgdmhglnanjabGreat.more (Go.Proofs.YtijgdmhglnanjabGreat.more F w w1) w1 w2) r s S) (hl : ∀ k, F k → k < w.heap.size) (h1 : w.heap.size ≤ w1.heap.size) (h2 : w1.heap.size ≤ w2.heap.size) : RefAt w2 (Go.Proofs.YtijgdmhglnanjabGreat.more F w w2) r s S :=
  h.mono (more_more h1 h2) (more_lt hl (by omega))
theorem RefAt.from {w w1 w2 : World} (h : RefAt w2 (Go.Proofs.YtijgdmhglnanjabGreat.more F w1 w2) r s S) (hl : ∀ k, F k → k < w.heap.size) (h1 : w.heap.size ≤ w1.heap.size) (h2 : w1.heap.size ≤ w2.heap.size) : RefAt w2 (Go.Proofs.YtijgdmhglnanjabGreat.more F w w2) r s S :=
  h.mono (fun k hk => by
    rcases hk with hk | hk
    · exact .inl hk
    · exact .inr ⟨by omega, hk.2⟩) (more_lt hl (by omega))
/-- What the writing of the next anchor does, where it can be made. -/
theorem anew_ok {f : Nat} {num : Int} (h0 : (srenew (S.now f) (S.now (f + 1)) num []).2.2 = 0) (hfs : f + 1 < s) :
    anew S s f num = if (S.wr s ((f : Int) + ((srenew (S.now f) (S.now (f + 1)) num []).1 : Int)) 512 (srenew (S.now f) (S.now (f + 1)) num []).2.1).1 ≠ 0 then (3, (S.wr s ((f : Int) + ((srenew (S.now f) (S.now (f + 1)) num []).1 : Int)) 512 (srenew (S.now f) (S.now (f + 1)) num []).2.1).2)
      else (S.wr s ((f : Int) + ((srenew (S.now f) (S.now (f + 1)) num []).1 : Int)) 512 (srenew (S.now f) (S.now (f + 1)) num []).2.1).2.fl s := by
  have hsl := srenew_slot (S.now f) (S.now (f + 1)) num []
  unfold anew
  by_cases hf : S.fuse = 0
  · rw [if_pos hf]
    unfold DS.wr
    simp only [if_pos hf]
    rw [if_pos (by decide)]
  · rw [if_neg hf, if_neg (by omega)]
    have e : (S.wr s ((f : Int) + ((srenew (S.now f) (S.now (f + 1)) num []).1 : Int)) 512 (srenew (S.now f) (S.now (f + 1)) num []).2.1).1 = 0 := by
      unfold DS.wr
      rw [if_neg hf, if_neg (by omega), if_neg (by omega)]
    rw [if_neg (by omega), if_neg (by omega)]

set_option maxRecDepth 20000 in
set_option maxHeartbeats 4000000 in
theorem rrenewed_any (h : RefAt w F r s S) (f E T : Nat) (hE : E ≤ 1073741824) (hT : T ≤ 1073741824) (hbig : S.puts.length + 2 ≤ 4000000000000) (hs : f + 1 < s) (hby : S.Byt) (h0 : (srenew (S.now f) (S.now (f + 1)) ((E : Int) * 4294967296 + T) []).2.2 = 0) :
    Calls Tryz.prog 51 #[.pointer (some ⟨r, 0, none⟩), .int .i64 (f : Int), .int .i64 (E : Int), .int .i64 (T : Int)] w fun e w' => e = .returned (.int .i64 (anew S s f ((E : Int) * 4294967296 + T)).1) ∧ RefAt w' (more F w w') r s (anew S s f ((E : Int) * 4294967296 + T)).2 ∧ Keeps F w w' := by
  have h1 := rnow_at h f (by omega) (by omega)
  have h2 := rnow_at h (f + 1) hs (by omega)
  rw [show ((f + 1 : Nat) : Int) = (f : Int) + 1 by omega] at h2
  have hok := h.ok
  have hn1 := now_len hok f (by omega)
  have hn2 := now_len hok (f + 1) hs
  have hb1 := hby.now f
  have hb2 := hby.now (f + 1)
  have hsl := srenew_slot (S.now f) (S.now (f + 1)) ((E : Int) * 4294967296 + T) []
  have hfu := srenew_full (S.now f) (S.now (f + 1)) ((E : Int) * 4294967296 + T) [] h0
  rw [anew_ok h0 hs]
  have HR := Hid.mk (fun a1 n1 c1 a2 n2 c2 w1 q1 q2 => rrenew_any a1 n1 c1 (S.now f) a2 n2 c2 (S.now (f + 1)) none 0 0 [] ((E : Int) * 4294967296 + T) w1 q1 q2 hb1 hb2 ⟨rfl, fun _ => rfl, fun x hx => by cases hx⟩ (fun x hx => by cases hx) (by omega))
  have hss := hok.hi
  have HD := Hid.mk h
  have hwp : ∀ (l : List Int), (S.wr s ((f : Int) + ((srenew (S.now f) (S.now (f + 1)) ((E : Int) * 4294967296 + T) []).1 : Int)) 512 l).2.puts.length ≤ S.puts.length + 1 := fun l => wr_puts _ _ _ _ _
  generalize hY : srenew (S.now f) (S.now (f + 1)) ((E : Int) * 4294967296 + T) [] = Y at *
  have HY := Hid.mk hY
  clear h hY hby hb1 hb2
  obtain ⟨Z, hZ⟩ : ∃ Z, Z = S.wr s ((f : Int) + (Y.1 : Int)) 512 Y.2.1 := ⟨_, rfl⟩
  have hzp := hwp Y.2.1
  rw [← hZ] at hzp ⊢
  have HZ := Hid.mk hZ
  have HLt := Hid.mk HD.out.lt
  clear hZ hwp
  by_cases k0 : Z.1 = 0
  · rw [if_neg (by omega)]
    have d0 : (Z.1 == 0) = true := by rw [beq_iff_eq]; exact k0
    clear k0
    go_enter Tryz.func51, Tryz.ntmps51
    go_wp2_with fail
    refine h1.mono ?_
    rintro e w1 ⟨g1, c1, rfl, hF1, hr1, hw1⟩
    have hw1' := hw1.symm
    clear hw1
    subst hw1'
    clear h1
    go_wp2_with fail
    refine h2.mono ?_
    rintro e w2 ⟨g2, c2, rfl, hF2, hr2, hw2⟩
    have hw2' := hw2.symm
    clear hw2
    subst hw2'
    have q1 := hr1.src
    have q2 := hr2.src
    rw [hn1] at q1
    rw [hn2] at q2
    have h3 := HR.out (some ⟨g1, 0, none⟩) 512 c1 (some ⟨g2, 0, none⟩) 512 c2 _ q1 q2
    rw [h0] at h3
    clear h2 q1 q2 hr1 hr2
    go_wp2_with fail
    refine h3.mono ?_
    rintro e w3 ⟨v, rfl, hown, hb3⟩
    obtain ⟨a3, c3, rfl, hs3, _, _⟩ := hown.src
    have h4 := rwrite_all (HD.out.later hb3) ((f : Int) + (Y.1 : Int)) a3 _ c3 Y.2.1 hs3 (by omega)
    rw [hfu, ← HZ.out] at h4
    rw [hfu]
    have HB3 := Hid.mk hb3
    clear h3 hown hs3 hb3
    go_wp2_with fail
    refine h4.mono ?_
    rintro e w4 ⟨rfl, hd4, hk4⟩
    have h5 := rflush_all hd4 (by omega)
    have HK4 := Hid.mk ((Keeps.of_below F HB3.out).trans hk4 (fun _ h => .inl h))
    have hz3 := HB3.out.size
    have hz4 := hk4.size
    clear h4 hd4 hk4
    go_wp2_with fail
    refine h5.mono ?_
    rintro e w5 ⟨rfl, hd5, hk5⟩
    have hz5 := hk5.size
    have HE := Hid.mk (And.intro (hd5.mono (G := more F w w5) (fun j hj => by
        rcases hj with hj | hj
        · exact .inl hj
        · exact .inr ⟨by omega, by omega⟩) (more_lt HLt.out (by omega))) (HK4.out.trans hk5 (fun j hj => by
        rcases hj with hj | hj
        · exact .inl hj
        · exact .inr (by omega))))
    clear h5 hd5 hk5
    go_wp2
    go_ret
    exact ⟨rfl, HE.out⟩
  · rw [if_pos k0]
    have d0 : (Z.1 == 0) = false := by rw [beq_eq_false_iff_ne]; exact k0
    clear k0
    go_enter Tryz.func51, Tryz.ntmps51
    go_wp2_with fail
    refine h1.mono ?_
    rintro e w1 ⟨g1, c1, rfl, hF1, hr1, hw1⟩
    have hw1' := hw1.symm
    clear hw1
    subst hw1'
    clear h1
    go_wp2_with fail
    refine h2.mono ?_
    rintro e w2 ⟨g2, c2, rfl, hF2, hr2, hw2⟩
    have hw2' := hw2.symm
    clear hw2
    subst hw2'
    have q1 := hr1.src
    have q2 := hr2.src
    rw [hn1] at q1
    rw [hn2] at q2
    have h3 := HR.out (some ⟨g1, 0, none⟩) 512 c1 (some ⟨g2, 0, none⟩) 512 c2 _ q1 q2
    rw [h0] at h3
    clear h2 q1 q2 hr1 hr2
    go_wp2_with fail
    refine h3.mono ?_
    rintro e w3 ⟨v, rfl, hown, hb3⟩
    obtain ⟨a3, c3, rfl, hs3, _, _⟩ := hown.src
    have h4 := rwrite_all (HD.out.later hb3) ((f : Int) + (Y.1 : Int)) a3 _ c3 Y.2.1 hs3 (by omega)
    rw [hfu, ← HZ.out] at h4
    rw [hfu]
    have HB3 := Hid.mk hb3
    clear h3 hown hs3 hb3
    go_wp2_with fail
    refine h4.mono ?_
    rintro e w4 ⟨rfl, hd4, hk4⟩
    have HK4 := Hid.mk ((Keeps.of_below F HB3.out).trans hk4 (fun _ h => .inl h))
    have hz3 := HB3.out.size
    have hz4 := hk4.size
    have HE := Hid.mk (And.intro (hd4.from HLt.out hz3 hz4) HK4.out)
    clear h4 hd4 hk4
    go_wp2
    go_ret
    exact ⟨rfl, HE.out⟩
end
end Go.Proofs.YtijgdmhglnanjabGreat
end

section
namespace Go.Proofs.YtijgdmhglnanjabGreat
open Go.RowKit

section
variable {w w' : World} {F G : Nat → Prop} {r s k : Nat} {S : DS} {L : LG}

set_option maxRecDepth 20000 in
set_option maxHeartbeats 8000000 in
theorem rFormat_any (h : RefAt w F r s S) (hby : S.Byt) (f n : Int) (hbig : S.puts.length + 500 ≤ 4000000000000) :
    Calls Tryz.prog 18 #[.pointer (some ⟨r, 0, none⟩), .int .i64 f, .int .i64 n] w fun e w' => e = .returned (.int .i64 (lformat S s f n).1) ∧ RefAt w' (more F w w') r s (lformat S s f n).2 ∧ Keeps F w w' := by
  have h1 := rargs_any h f n
  have HL := Hid.mk h.lt
  have HD := Hid.mk h
  unfold lformat
  by_cases q : lrefuse S s f n = 0
  · rw [if_neg (fun h => h q)]
    obtain ⟨hf0, a, b, rfl, rfl, hab, hb1, hb2⟩ := lrefuse_zero q
    rw [q] at h1
    simp only [Int.toNat_natCast]
    have h2 := rtake_at h
    have hs := h.ok.hi
    have hokT : S.take.Ok s := ⟨h.ok.len, h.ok.lo, h.ok.hi, h.ok.puts, h.ok.fuse⟩
    have HKe := Hid.mk (awipe_keeps (f := a) (n := b) hokT hab)
    have HBy := Hid.mk ((hby.take).wipe s a b)
    have hptT : ∀ k, (wipeTo S.take s a k).2.puts.length ≤ S.puts.length + k := fun k => wipeTo_puts S.take s a k
    obtain ⟨P, hP⟩ : ∃ P, P = (if (awipe S.take s a b).1 ≠ 0 then awipe S.take s a b else anew (awipe S.take s a b).2 s a 4294967296) := ⟨_, rfl⟩
    rw [← hP]
    have HP := Hid.mk hP
    clear q h hby hokT hP
    go_enter Tryz.func18, Tryz.ntmps18
    go_wp2_with fail
    refine h1.mono ?_
    rintro e w1 ⟨rfl, hw1⟩
    have hw1' := hw1.symm
    clear hw1
    subst hw1'
    clear h1
    go_wp2_with fail
    refine h2.mono ?_
    rintro e w2 ⟨rfl, hd2, hk2⟩
    have HD2 := Hid.mk hd2
    have HK2 := Hid.mk hk2
    have hz2 := hk2.size
    clear h2 hd2 hk2
    go_wp2
    go_loopw [8] (fun i wr => ∃ k : Nat, k ≤ b + 2 ∧ i = .int .i64 (k : Int) ∧ (wipeTo S.take s a k).1 = 0 ∧ RefAt wr (more F w2 wr) r s (wipeTo S.take s a k).2 ∧ Keeps F w2 wr) (fun i _ => b + 2 - (intOf i).toNat)
    case atStart => exact ⟨0, Nat.zero_le _, rfl, rfl, HD2.out.more, Keeps.refl _ _⟩
    case round =>
      obtain ⟨k, hk, rfl, he, hd, hkp⟩ := hrel
      have HE := Hid.mk he
      have HDr := Hid.mk hd
      have HKr := Hid.mk hkp
      have hzr := hkp.size
      have hpk := hptT k
      clear he hd hkp
      by_cases q : k < b + 2
      · have hlt : (k : Int) < (b : Int) + 2 := by omega
        have hz := zeros_low wr
        go_wp2_with fail
        refine hz.mono ?_
        rintro e w3 ⟨rfl, hrow, hb3⟩
        have hsrc : Src w3 (some ⟨wr.heap.size, 0, none⟩) 512 (zs 512) := hrow.src
        have hw := rwrite_all (HDr.out.later hb3) ((a + k : Nat) : Int) (some ⟨wr.heap.size, 0, none⟩) 512 512 (zs 512) hsrc (by omega)
        have e1 : wipeTo S.take s a (k + 1) = (wipeTo S.take s a k).2.wr s ((a + k : Nat) : Int) 512 (zs 512) := stepsTo_ok HE.out
        rw [← e1, show ((a + k : Nat) : Int) = (a : Int) + (k : Int) by omega] at hw
        have HB3 := Hid.mk hb3
        have hz3 := hb3.size
        clear hz hrow hsrc hb3 e1
        go_wp2_with fail
        refine hw.mono ?_
        rintro e w4 ⟨rfl, hd4, hk4⟩
        have hz4 := hk4.size
        have hj : RefAt w4 (more F w2 w4) r s (wipeTo S.take s a (k + 1)).2 := hd4.mono (fun j hj => by
          rcases hj with (hj | hj) | hj
          · exact .inl hj
          · exact .inr ⟨hj.1, by omega⟩
          · exact .inr ⟨by omega, hj.2⟩) (more_lt (F := F) (w := w2) (fun j hj => by have := HL.out j hj; omega) (by omega))
        have hkj : Keeps F w2 w4 := (HKr.out.trans (Keeps.of_below (fun _ => False) HB3.out) (fun _ h => h.elim)).trans hk4 (fun j hj => by
          rcases hj with hj | hj
          · exact .inl hj
          · exact .inr hj.1)
        have HDj := Hid.mk hj
        have HKj := Hid.mk hkj
        clear hd4 hk4 hw hj hkj
        by_cases q2 : (wipeTo S.take s a (k + 1)).1 = 0
        · have d : ((wipeTo S.take s a (k + 1)).1 == 0) = true := by rw [beq_iff_eq]; exact q2
          have HQ := Hid.mk q2
          clear q2
          go_wp2
          go_roundw
          case rel => exact ⟨k + 1, by omega, by go_num, HQ.out, HDj.out, HKj.out⟩
          case measure => simp [intOf]; omega
        · have d : ((wipeTo S.take s a (k + 1)).1 == 0) = false := by rw [beq_eq_false_iff_ne]; exact q2
          have e2 : awipe S.take s a b = wipeTo S.take s a (k + 1) := by
            have : wipeTo S.take s a (b + 2) = wipeTo S.take s a (k + 1) := stepsTo_err q2 (b + 2) (by omega)
            unfold awipe
            rw [this, if_pos q2]
          have eP : P = wipeTo S.take s a (k + 1) := by rw [HP.out, e2, if_pos q2]
          have HQ := Hid.mk eP
          clear q2 e2 eP
          go_wp2
          go_ret
          rw [HQ.out]
          exact ⟨rfl, HDj.out.from HL.out hz2 (by omega), HK2.out.trans HKj.out (fun _ h => .inl h)⟩
      · obtain rfl : k = b + 2 := by omega
        have hge : ¬ ((b + 2 : Nat) : Int) < (b : Int) + 2 := by omega
        have h5 := rflush_all HDr.out (by omega)
        have e2 : awipe S.take s a b = (wipeTo S.take s a (b + 2)).2.fl s := by
          unfold awipe
          rw [if_neg (by rw [HE.out]; decide)]
        rw [← e2] at h5
        have hpw : (awipe S.take s a b).2.puts.length ≤ S.puts.length + (b + 3) := by
          rw [e2]
          have := fl_puts (wipeTo S.take s a (b + 2)).2 s
          omega
        clear hpk
        clear e2
        obtain ⟨Y, hY⟩ : ∃ Y, Y = awipe S.take s a b := ⟨_, rfl⟩
        rw [← hY] at h5 hpw
        have HY := Hid.mk hY
        clear hY
        go_wp2_with fail
        refine h5.mono ?_
        rintro e w4 ⟨rfl, hd4, hk4⟩
        have hz4 := hk4.size
        have hj : RefAt w4 (more F w2 w4) r s Y.2 := hd4.mono (fun j hj => by
          rcases hj with hj | hj
          · exact .inl hj
          · exact .inr ⟨hj.1, by omega⟩) (more_lt (F := F) (w := w2) (fun j hj => by have := HL.out j hj; omega) (by omega))
        have hkj : Keeps F w2 w4 := HKr.out.trans hk4 (fun j hj => by
          rcases hj with hj | hj
          · exact .inl hj
          · exact .inr hj.1)
        have HDj := Hid.mk hj
        have HKj := Hid.mk hkj
        clear hd4 hk4 h5
        by_cases q2 : Y.1 = 0
        · have d : (Y.1 == 0) = true := by rw [beq_iff_eq]; exact q2
          have hnum := (HKe.out.2.2.2 (by rw [← HY.out]; exact q2)).1
          have hokY := HKe.out.2.1
          rw [← HY.out] at hnum hokY
          have hbyY := HBy.out
          rw [← HY.out] at hbyY
          have eP : P = anew Y.2 s a 4294967296 := by rw [HP.out, ← HY.out, if_neg (by rw [q2]; decide)]
          have HEP := Hid.mk eP
          have hrn := renew_ok (now_len hokY a (by omega)) (now_len hokY (a + 1) (by omega)) (N := 4294967296) (by omega) (by unfold DS.num at hnum; omega)
          have h6 := rrenewed_any hj a 1 0 (by omega) (by omega) (by omega) (by omega) hbyY hrn
          have HQ := Hid.mk q2
          clear q2 hrn hnum hokY hj hkj hbyY eP
          go_wp2_with fail
          refine h6.mono ?_
          rintro e w5 ⟨rfl, hd5, hk5⟩
          have hz5 := hk5.size
          have HZ := Hid.mk (And.intro (hd5.mono (G := more F w w5) (fun j hj => by
            rcases hj with (hj | hj) | hj
            · exact .inl hj
            · exact .inr ⟨by omega, by omega⟩
            · exact .inr ⟨by omega, hj.2⟩) (more_lt HL.out (by omega))) ((HK2.out.trans HKj.out (fun _ h => .inl h)).trans hk5 (fun j hj => by
            rcases hj with hj | hj
            · exact .inl hj
            · exact .inr (by omega))))
          clear h6 hd5 hk5
          go_wp2
          go_ret
          rw [HEP.out]
          exact ⟨rfl, HZ.out⟩
        · have d : (Y.1 == 0) = false := by rw [beq_eq_false_iff_ne]; exact q2
          have eP : P = Y := by rw [HP.out, ← HY.out, if_pos q2]
          have HQ := Hid.mk eP
          clear q2 hj hkj eP
          go_wp2
          go_ret
          rw [HQ.out]
          exact ⟨rfl, HDj.out.from HL.out hz2 (by omega), HK2.out.trans HKj.out (fun _ h => .inl h)⟩
  · rw [if_pos q]
    have d0 : (lrefuse S s f n == 0) = false := by rw [beq_eq_false_iff_ne]; exact q
    clear q hby
    go_enter Tryz.func18, Tryz.ntmps18
    go_wp2_with fail
    refine h1.mono ?_
    rintro e w1 ⟨rfl, hw1⟩
    have hw1' := hw1.symm
    clear hw1
    subst hw1'
    clear h1
    go_wp2
    go_ret
    exact ⟨rfl, HD.out.more, Keeps.refl _ _⟩
end
end Go.Proofs.YtijgdmhglnanjabGreat
end
