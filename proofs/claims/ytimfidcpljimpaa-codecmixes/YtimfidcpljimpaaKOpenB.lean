import Derived.Test.YtimfidcpljimpaaKOpen
namespace Go.Proofs.Ytimfidcpljimpaa
open Go.ChangeShapes Go.WideShapes Go.ChangeAt Go.RowKit Go.Deep
section
variable {H : Type} {enc : TypeId × Value → H} {W : World} {base : Nat} {spare : Nat → Bool} {held : Bool}
/-- The form's own reach. -/
theorem open_bytes2 {fuel : Nat} {v : Value} {d : DataW H} {pl : List MemPlace} (h : DataW.trod enc Try.prog W base spare held fuel 31 [v] = some (d, pl)) (hw : ∀ n ∈ d.weights Try.prog 31, n ≤ reachBytes) :
    ∃ a n c l, v = .slice a n c ∧ Src W a n l ∧ Bytes l ∧ n ≤ c ∧ n ≤ 140737488351232 := by
  rcases open_ints Try.underlying31 Try.underlying5 cellsU8 h with ⟨hcs, _⟩ | ⟨x, l, c, zs, hcs, _, hl, hm, hz, hd, hcell, hwz⟩
  · simp only [List.cons.injEq, and_true] at hcs
    exact ⟨none, 0, 0, [], hcs, ⟨rfl, fun _ => rfl, fun x hx => by cases hx⟩, (fun x hx => by cases hx), Nat.le_refl _, Nat.zero_le _⟩
  · simp only [List.cons.injEq, and_true] at hcs
    simp only [Prod.mk.injEq] at hd
    obtain ⟨rfl, rfl⟩ := hd
    have hzl : l ≤ zs.length := by rw [hz]; split <;> omega
    have h1 := hw ((((lits IntKind.u8 (zs.take l) : List (DataW H))).length + ((lits IntKind.u8 (zs.drop l) : List (DataW H))).length) * Try.prog.bytesOf 5) (by simp [DataW.weights, Try.underlying31])
    rw [bytesU8] at h1
    simp only [lits, List.length_map, List.length_take, List.length_drop, reachBytes] at h1
    refine ⟨some x, l, c, zs.take l, hcs, ⟨by simp; omega, (fun h => by cases h), fun y hy i hi => ?_⟩, fun z hz => u8_wf (hwz z (List.mem_of_mem_take hz)), hl, by omega⟩
    cases hy
    rw [hcell i (by omega)]
    simp [List.getD, hi]
end
end Go.Proofs.Ytimfidcpljimpaa
