import Derived.Test.YtkkmkogpbhcpmaaFlush
namespace Go.Proofs.Ytkkmkogpbhcpmaa
open Go.RowKit Go.Maps

theorem write_dead {w : World} {F : Nat → Prop} {p s : Nat} {S : DS} (h : DiskAt w F p s S) (at_ : Int) (a : Option Addr) (n c : Nat) (hf : S.fuse = 0) :
    Calls Try.prog 12 #[.pointer (some ⟨p, 0, none⟩), .int .i64 at_, .slice a n c] w fun e w' => e = .returned (.int .i64 3) ∧ w' = w := by
  have hb := burnt_at h
  rw [hf] at hb
  go_enter Try.func12, Try.ntmps12
  go_wp2_with (go_at_call 11; refine hb.mono ?_; rintro e w' ⟨rfl, rfl⟩)
  go_ret
  exact ⟨rfl, rfl⟩

theorem write_range {w : World} {F : Nat → Prop} {p s : Nat} {S : DS} (h : DiskAt w F p s S) (at_ : Int) (a0 : Option Addr) (n c : Nat) (hf : S.fuse ≠ 0) (ha : at_ < 0 ∨ (s : Int) ≤ at_) :
    Calls Try.prog 12 #[.pointer (some ⟨p, 0, none⟩), .int .i64 at_, .slice a0 n c] w fun e w' => e = .returned (.int .i64 11) ∧ DiskAt w' F p s S.refuse ∧ Keeps F w w' := by
  have hb := burnt_at h
  rw [show (S.fuse == 0) = false by simp [hf]] at hb
  obtain ⟨gi, ci, m, D, gr, cr, h⟩ := h
  have hs := h.ok.hi
  have hh := has_low p _ (s * 512) ci at_ w (by omega) (cell_of_block h.blk (j := 0) rfl)
  rw [show s * 512 / 512 = s by omega, show (decide (0 ≤ at_) && decide (at_ < (s : Int))) = false by simp; omega] at hh
  have hr := refuse_low p S.refused 11 w (cell_of_block h.blk (j := 7) rfl) (frozen_of_block h.blk 7)
  have hr2 : Calls Try.prog 60 #[.pointer (some ⟨p, 0, none⟩), .int .i64 11] w fun e w' => e = .returned (.int .i64 11) ∧ DiskAt w' F p s S.refuse ∧ Keeps F w w' :=
    hr.mono (by rintro e w' ⟨rfl, rfl⟩; exact ⟨rfl, ⟨gi, ci, m, D, gr, cr, h.refused⟩, Keeps.setCell w h.fp _⟩)
  clear h ha hr
  go_enter Try.func12, Try.ntmps12
  go_wp2_with (first | (go_at_call 11; refine hb.mono ?_; rintro e w' ⟨rfl, hw⟩; have hw' := hw.symm; subst hw') | (go_at_call 59; refine hh.mono ?_; rintro e w' ⟨rfl, hw⟩; have hw' := hw.symm; subst hw') | (go_at_call 60; refine hr2.mono ?_; rintro e w' ⟨rfl, hd, hk⟩))
  go_ret
  exact ⟨rfl, hd, hk⟩

theorem write_length {w : World} {F : Nat → Prop} {p s : Nat} {S : DS} (h : DiskAt w F p s S) (k : Nat) (a0 : Option Addr) (n c : Nat) (hf : S.fuse ≠ 0) (hk : k < s) (hn : n ≠ 512) :
    Calls Try.prog 12 #[.pointer (some ⟨p, 0, none⟩), .int .i64 (k : Int), .slice a0 n c] w fun e w' => e = .returned (.int .i64 2) ∧ DiskAt w' F p s S.refuse ∧ Keeps F w w' := by
  have hb := burnt_at h
  rw [show (S.fuse == 0) = false by simp [hf]] at hb
  obtain ⟨gi, ci, m, D, gr, cr, h⟩ := h
  have hs := h.ok.hi
  have hh := has_low p _ (s * 512) ci k w (by omega) (cell_of_block h.blk (j := 0) rfl)
  rw [show s * 512 / 512 = s by omega, show (decide (0 ≤ (k : Int)) && decide ((k : Int) < (s : Int))) = true by simp; omega] at hh
  have hr := refuse_low p S.refused 2 w (cell_of_block h.blk (j := 7) rfl) (frozen_of_block h.blk 7)
  have hr2 : Calls Try.prog 60 #[.pointer (some ⟨p, 0, none⟩), .int .i64 2] w fun e w' => e = .returned (.int .i64 2) ∧ DiskAt w' F p s S.refuse ∧ Keeps F w w' :=
    hr.mono (by rintro e w' ⟨rfl, rfl⟩; exact ⟨rfl, ⟨gi, ci, m, D, gr, cr, h.refused⟩, Keeps.setCell w h.fp _⟩)
  have hne : ((n : Int) != 512) = true := by rw [bne_iff_ne]; omega
  clear h hr
  go_enter Try.func12, Try.ntmps12
  go_wp2_with (first | (go_at_call 11; refine hb.mono ?_; rintro e w' ⟨rfl, hw⟩; have hw' := hw.symm; subst hw') | (go_at_call 59; refine hh.mono ?_; rintro e w' ⟨rfl, hw⟩; have hw' := hw.symm; subst hw') | (go_at_call 60; refine hr2.mono ?_; rintro e w' ⟨rfl, hd, hk⟩))
  go_ret
  exact ⟨rfl, hd, hk⟩

def DS.lay (S : DS) (calls : Int) : DS := if S.fuse = 0 then S else { S with fuse := max calls (-1) }
def DS.take (S : DS) : DS := { S with life := wrap64 (S.life + 1) }

theorem fuse_at {w : World} {F : Nat → Prop} {p s : Nat} {S : DS} (h : DiskAt w F p s S) (calls : Int) (hc : calls ≤ 9223372036854775807) :
    Calls Try.prog 10 #[.pointer (some ⟨p, 0, none⟩), .int .i64 calls] w fun e w' => e = .returned (.tuple #[]) ∧ DiskAt w' F p s (S.lay calls) ∧ Keeps F w w' := by
  obtain ⟨gi, ci, m, D, gr, cr, h⟩ := h
  refine (fuse_low p S.fuse calls w (cell_of_block h.blk (j := 2) rfl) (frozen_of_block h.blk 2)).mono ?_
  rintro e w' ⟨rfl, rfl⟩
  by_cases hf : S.fuse = 0
  · simp only [hf, if_true, DS.lay]
    exact ⟨trivial, ⟨gi, ci, m, D, gr, cr, h⟩, Keeps.refl _ _⟩
  · simp only [hf, if_false, DS.lay]
    exact ⟨trivial, ⟨gi, ci, m, D, gr, cr, h.turn (h.set 2 _).2 ((h.set 2 _).1.trans (by simp [dkCells])) rfl rfl (by simp only; omega)⟩, Keeps.setCell w h.fp _⟩

theorem take_at {w : World} {F : Nat → Prop} {p s : Nat} {S : DS} (h : DiskAt w F p s S) :
    Calls Try.prog 65 #[.pointer (some ⟨p, 0, none⟩)] w fun e w' => e = .returned (.int .i64 (wrap64 (S.life + 1))) ∧ DiskAt w' F p s S.take ∧ Keeps F w w' := by
  obtain ⟨gi, ci, m, D, gr, cr, h⟩ := h
  refine (take_low p S.life w (cell_of_block h.blk (j := 3) rfl) (frozen_of_block h.blk 3)).mono ?_
  rintro e w' ⟨rfl, rfl⟩
  exact ⟨rfl, ⟨gi, ci, m, D, gr, cr, h.turn (h.set 3 _).2 ((h.set 3 _).1.trans (by simp [dkCells, DS.take])) rfl rfl h.ok.fuse⟩, Keeps.setCell w h.fp _⟩

end Go.Proofs.Ytkkmkogpbhcpmaa
