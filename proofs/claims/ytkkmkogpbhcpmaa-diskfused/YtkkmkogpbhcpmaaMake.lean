import Derived.Test.YtkkmkogpbhcpmaaBytes
namespace Go.Proofs.Ytkkmkogpbhcpmaa
open Go.RowKit Go.Maps

theorem Hid.mk {p : Prop} (h : p) : Hid p := h

theorem made_row {w1 : World} {g n : Nat} {base : Nat} (hown : w1.ownsRow base 5 1 (.slice (some ⟨g, 0, none⟩) n n) n (madeCells #[Value.int .u8 0] n).toList) :
    RowAt w1 5 g n (bs (List.replicate n 0)) := by
  obtain ⟨g', c, hv, _, hr, _⟩ := RowAt.of_owns hown (by simp)
  cases hv
  have e : (madeCells #[Value.int .u8 0] n).toList = bs (List.replicate n 0) := by rw [toList_madeCells_one]; simp [bs]
  rw [e] at hr
  exact hr

theorem new_no (s : Int) (w : World) (h : s < 1 ∨ 2048 < s) :
    Calls Try.prog 58 #[.int .i64 s] w fun e w' => e = .returned (.tuple #[.pointer none, .int .i64 10]) ∧ w' = w := by
  rcases h with h | h
  · go_enter Try.func58, Try.ntmps58
    go_wp2
    go_ret2
    exact ⟨rfl, rfl⟩
  · have h' : ¬ s < 1 := by omega
    go_enter Try.func58, Try.ntmps58
    go_wp2
    go_ret2
    exact ⟨rfl, rfl⟩

set_option maxHeartbeats 1000000 in
theorem new_ok (s : Nat) (w : World) (h1 : 1 ≤ s) (h2 : s ≤ 2048) :
    Calls Try.prog 58 #[.int .i64 s] w fun e w' => ∃ p, e = .returned (.tuple #[.pointer (some ⟨p, 0, none⟩), .int .i64 0]) ∧
      DiskAt w' (fun k => w.heap.size ≤ k ∧ k < w'.heap.size) p s (DS.fresh (List.replicate (s * 512) 0)) ∧ Below w.heap.size w w' := by
  obtain ⟨i0, hi, hz0, hz1, hz2⟩ := info_parts infoU8
  have h1' : ¬ (s : Int) < 1 := by omega
  have h2' : ¬ (2048 : Int) < (s : Int) := by omega
  go_enter Try.func58, Try.ntmps58
  go_wp2_with (at_make; refine wpList_make_full _ rfl _ _ 27 rfl w.heap.size 5 i0 (.int .u8 0) 1 Try.underlying27 hi hz0 hz1 _ _ _ _ (s * 512) rfl rfl ?c1 ?c2 ?c3 ?c4 ?c5 ?_)
  case c3 => omega
  case c4 => unfold maxLen; omega
  intro w1 hown hgrow
  have hr := made_row hown
  have hb : Below w.heap.size w w1 := (Below.refl _ w).grown hgrow (Nat.le_refl _) (by intro k hk; cases hk)
  have hsz : w.heap.size < w1.heap.size := hr.lt
  have HF := Hid.mk (fresh_at hb (Nat.le_refl _) hr (by simp) h1 h2)
  clear hown hgrow hr
  go_wp2_with (go_at_call 71; refine (over_low _ _ _ _).mono ?_; rintro e w' ⟨rfl, rfl⟩)
  go_ret2
  exact ⟨_, rfl, HF.out⟩

theorem load_bad (a : Option Addr) (n c : Nat) (w : World) (h : n % 512 ≠ 0) (hn : n ≤ 140737488355328) :
    Calls Try.prog 28 #[.slice a n c] w fun e w' => e = .returned (.tuple #[.pointer none, .int .i64 2]) ∧ w' = w := by
  have h' : (((n : Int) % 512) != 0) = true := by rw [bne_iff_ne]; omega
  go_enter Try.func28, Try.ntmps28
  go_wp2
  go_ret2
  exact ⟨rfl, rfl⟩

theorem load_no (a : Option Addr) (n c : Nat) (w : World) (h : n % 512 = 0) (hn : n = 0 ∨ 1048576 < n) (hm : n ≤ 140737488355328) :
    Calls Try.prog 28 #[.slice a n c] w fun e w' => e = .returned (.tuple #[.pointer none, .int .i64 10]) ∧ w' = w := by
  have h' : (((n : Int) % 512) != 0) = false := by rw [Bool.eq_false_iff, ne_eq, bne_iff_ne]; omega
  rcases hn with h0 | h0
  · have h0' : ((n : Int) == 0) = true := by rw [beq_iff_eq]; omega
    go_enter Try.func28, Try.ntmps28
    go_wp2
    go_ret2
    exact ⟨rfl, rfl⟩
  · have h0' : ((n : Int) == 0) = false := by rw [Bool.eq_false_iff, ne_eq, beq_iff_eq]; omega
    go_enter Try.func28, Try.ntmps28
    go_wp2
    go_ret2
    exact ⟨rfl, rfl⟩

set_option maxHeartbeats 1000000 in
theorem load_ok (a : Addr) (n c s : Nat) (l : List Int) (w : World) (hs : n = s * 512) (h1 : 1 ≤ s) (h2 : s ≤ 2048) (hx : l.length = n) (hc : ∀ i, i < n → w.cell? (a.add i) = some (.int .u8 (l.getD i 0))) :
    Calls Try.prog 28 #[.slice (some a) n c] w fun e w' => ∃ p, e = .returned (.tuple #[.pointer (some ⟨p, 0, none⟩), .int .i64 0]) ∧
      DiskAt w' (fun k => w.heap.size ≤ k ∧ k < w'.heap.size) p s (DS.fresh l) ∧ Below w.heap.size w w' := by
  have h' : (((n : Int) % 512) != 0) = false := by rw [Bool.eq_false_iff, ne_eq, bne_iff_ne]; omega
  have h0' : ((n : Int) == 0) = false := by rw [Bool.eq_false_iff, ne_eq, beq_iff_eq]; omega
  have h3 : ¬ (1048576 : Int) < (n : Int) := by omega
  have H : Hid (∀ i, i < n → w.cell? (a.add i) = some (.int .u8 (l.getD i 0))) := hc
  have Hs : Hid (n = s * 512) := hs
  clear hc hs
  go_enter Try.func28, Try.ntmps28
  go_wp2_with fail
  refine (clone_low a n c l w hx (by omega) H.out).mono ?_
  rintro e w1 ⟨g, c', rfl, hg, hr, hb⟩
  have HF := Hid.mk (fresh_at hb hg hr (hx.trans Hs.out) h1 h2)
  rw [← Hs.out] at HF
  clear hr hb
  go_wp2_with (go_at_call 71; refine (over_low _ _ _ _).mono ?_; rintro e w' ⟨rfl, rfl⟩)
  go_ret2
  exact ⟨_, rfl, HF.out⟩

theorem image_any (p s : Nat) (F : Nat → Prop) (S : DS) (w : World) (h : DiskAt w F p s S) :
    Calls Try.prog 18 #[.pointer (some ⟨p, 0, none⟩)] w fun e w' => ∃ g c, e = .returned (.slice (some ⟨g, 0, none⟩) (s * 512) c) ∧ w.heap.size ≤ g ∧ RowAt w' 5 g c (bs S.im) ∧ Below w.heap.size w w' := by
  obtain ⟨gi, ci, m, D, gr, cr, h1, h2, h3, h4, h5, h6, h7, h8, h9⟩ := h
  have c0 := cell_of_block h5 (j := 0) rfl
  have hl := h9.len
  have hi := h9.hi
  have hcl := clone_low ⟨gi, 0, none⟩ (s * 512) ci S.im w hl (by omega) (fun i hi => h6.byte (by omega))
  clear h5 h6 h7 h8 h9 hl hi
  go_enter Try.func18, Try.ntmps18
  go_wp2_with (go_at_call 61; refine hcl.mono ?_; rintro e w' ⟨g, c, rfl, hg, hr, hb⟩)
  go_ret
  exact ⟨g, c, rfl, hg, hr, hb⟩

end Go.Proofs.Ytkkmkogpbhcpmaa
