import Derived.Test.YtpihehpmejicaaaPAB
namespace Go.Proofs.Ytpihehpmejicaaa
open Go.RowKit Go.Maps

set_option maxHeartbeats 2000000 in
theorem between_any {w0 : World} {B : Nat} {sa : Option Addr} {sn : Nat} (sc : Nat) (hs : NSrc w0 B sa sn) (i : Nat) (_hi : i ≤ 1000000) (hsn : sn ≤ 140737488355328) :
    ∃ (x : Int) (SB : ByteArray), SB.data.toList = sepOf x ∧ ∀ w, Below B w0 w → Calls Try.prog 16 #[.slice sa sn sc, .int .i64 i] w fun e w' => e = .returned (.string SB) ∧ w' = w := by
  by_cases h0 : sn = 0
  · subst h0
    refine ⟨0, ⟨#[47]⟩, rfl, fun w _ => ?_⟩
    go_enter Try.func16, Try.ntmps16
    go_wp2
    go_ret
    exact ⟨rfl, rfl⟩
  · have hpos : 0 < sn := by omega
    have hml : i % sn < sn := Nat.mod_lt _ hpos
    have hmod : Int.tmod (i : Int) (sn : Int) = ((i % sn : Nat) : Int) := rfl
    have hml' : ((i % sn : Nat) : Int) < (sn : Int) := by omega
    have hne : ((sn : Int) == 0) = false := by
      rw [Bool.eq_false_iff, ne_eq, beq_iff_eq]
      omega
    have hne2 : ((sn : Int) = 0) = False := eq_false (by omega)
    have hne3 : ((sn : Int) = -1) = False := eq_false (by omega)
    obtain ⟨y, rfl⟩ : ∃ y, sa = some y := by
      cases sa with
      | none => exact absurd (hs.1 rfl) h0
      | some y => exact ⟨y, rfl⟩
    obtain ⟨b, o, rfl, hb, t, c0⟩ := hs.2 y rfl (i % sn) hml
    obtain ⟨x, hx0, hx4, hw⟩ := within_any t w0
    have cw : ∀ w, Below B w0 w → w.cell? ⟨b, o + i % sn, none⟩ = some (.int .i64 t) := fun w hbw => (World.cell?_of_block (w := w0) (a := ⟨b, _, none⟩) (hbw.block b hb)).trans c0
    clear hs c0
    generalize i % sn = k at *
    have hxx : x = 0 ∨ x = 1 ∨ x = 2 ∨ x = 3 ∨ x = 4 := by omega
    clear hx0 hx4
    rcases hxx with rfl | rfl | rfl | rfl | rfl
    · refine ⟨0, ⟨#[47]⟩, rfl, fun w hbw => ?_⟩
      have cw' := cw w hbw
      clear cw
      go_enter Try.func16, Try.ntmps16
      go_wp2_with fail
      refine (hw _).mono ?_
      rintro e w1 ⟨rfl, hq⟩
      have hq' := hq.symm
      subst hq'
      go_wp2
      go_ret
      exact ⟨rfl, rfl⟩
    · refine ⟨1, ⟨#[47, 47]⟩, rfl, fun w hbw => ?_⟩
      have cw' := cw w hbw
      clear cw
      go_enter Try.func16, Try.ntmps16
      go_wp2_with fail
      refine (hw _).mono ?_
      rintro e w1 ⟨rfl, hq⟩
      have hq' := hq.symm
      subst hq'
      go_wp2
      go_ret
      exact ⟨rfl, rfl⟩
    · refine ⟨2, ⟨#[47, 46, 47]⟩, rfl, fun w hbw => ?_⟩
      have cw' := cw w hbw
      clear cw
      go_enter Try.func16, Try.ntmps16
      go_wp2_with fail
      refine (hw _).mono ?_
      rintro e w1 ⟨rfl, hq⟩
      have hq' := hq.symm
      subst hq'
      go_wp2
      go_ret
      exact ⟨rfl, rfl⟩
    · refine ⟨3, ⟨#[47, 46, 47, 46, 47, 47]⟩, rfl, fun w hbw => ?_⟩
      have cw' := cw w hbw
      clear cw
      go_enter Try.func16, Try.ntmps16
      go_wp2_with fail
      refine (hw _).mono ?_
      rintro e w1 ⟨rfl, hq⟩
      have hq' := hq.symm
      subst hq'
      go_wp2
      go_ret
      exact ⟨rfl, rfl⟩
    · refine ⟨4, ⟨#[47]⟩, rfl, fun w hbw => ?_⟩
      have cw' := cw w hbw
      clear cw
      go_enter Try.func16, Try.ntmps16
      go_wp2_with fail
      refine (hw _).mono ?_
      rintro e w1 ⟨rfl, hq⟩
      have hq' := hq.symm
      subst hq'
      go_wp2
      go_ret
      exact ⟨rfl, rfl⟩
end Go.Proofs.Ytpihehpmejicaaa
