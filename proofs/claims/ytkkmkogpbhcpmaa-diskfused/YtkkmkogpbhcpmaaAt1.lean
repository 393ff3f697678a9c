import Derived.Test.YtkkmkogpbhcpmaaCount
namespace Go.Proofs.Ytkkmkogpbhcpmaa
open Go.RowKit Go.Maps

theorem DiskAt.cells {w : World} {F : Nat → Prop} {p s : Nat} {S : DS} (h : DiskAt w F p s S) : w.cell? ⟨p, 2, none⟩ = some (.int .i64 S.fuse) ∧ w.cell? ⟨p, 3, none⟩ = some (.int .i64 S.life) ∧ (∀ j, w.frozen? ⟨p, j, none⟩ = false) ∧
    ∃ gi ci, w.cell? ⟨p, 0, none⟩ = some (.slice (some ⟨gi, 0, none⟩) (s * 512) ci) := by
  obtain ⟨gi, ci, m, D, gr, cr, h1, h2, h3, h4, h5, h6, h7, h8, h9⟩ := h
  exact ⟨cell_of_block h5 (j := 2) rfl, cell_of_block h5 (j := 3) rfl, frozen_of_block h5, gi, ci, cell_of_block h5 (j := 0) rfl⟩

theorem sectors_at {w : World} {F : Nat → Prop} {p s : Nat} {S : DS} (h : DiskAt w F p s S) :
    Calls Try.prog 20 #[.pointer (some ⟨p, 0, none⟩)] w fun e w' => e = .returned (.int .i64 s) ∧ w' = w := by
  obtain ⟨_, _, _, gi, ci, c0⟩ := h.cells
  have := h.ok.hi
  have e : s * 512 / 512 = s := by omega
  have hc := sectors_low p _ (s * 512) ci w (by omega) c0
  rw [e] at hc
  exact hc
theorem burnt_at {w : World} {F : Nat → Prop} {p s : Nat} {S : DS} (h : DiskAt w F p s S) :
    Calls Try.prog 11 #[.pointer (some ⟨p, 0, none⟩)] w fun e w' => e = .returned (.bool (S.fuse == 0)) ∧ w' = w := burnt_low p _ w h.cells.1
theorem life_at {w : World} {F : Nat → Prop} {p s : Nat} {S : DS} (h : DiskAt w F p s S) :
    Calls Try.prog 66 #[.pointer (some ⟨p, 0, none⟩)] w fun e w' => e = .returned (.int .i64 S.life) ∧ w' = w := life_low p _ w h.cells.2.1

end Go.Proofs.Ytkkmkogpbhcpmaa
