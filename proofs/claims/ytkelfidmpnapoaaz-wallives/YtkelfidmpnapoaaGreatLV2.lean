import Derived.Test.YtkelfidmpnapoaaGreatLV1
import Derived.ProofKit
import Derived.OpenShut
import Derived.ShutString
import Derived.ChangeOld
import Derived.SizedLaws
import Derived.Deep.Slices
namespace Go.Proofs.YtkelfidmpnapoaaGreat
open Go.ChangeShapes Go.WideShapes Go.ChangeAt Go.RowKit Go.Deep

theorem bytesLs : Tryz.prog.bytesOf 29 = 24 := by kernel_rfl
section
variable {H : Type} {enc : TypeId × Value → H} {W : World} {base : Nat} {spare : Nat → Bool} {held : Bool}
theorem open_lists {fuel : Nat} {v : Value} {d : DataW H} {pl : List MemPlace} (h : DataW.trod enc Tryz.prog W base spare held fuel 22 [v] = some (d, pl)) (hw : ∀ n ∈ d.weights Tryz.prog 22, n ≤ reachBytes) :
    ∃ a n c, v = .slice a n c ∧ Recs W W.heap.size a n ∧ 24 * n ≤ 140737488355328 := by
  rcases open_slice Tryz.underlying22 h with ⟨hcs, _⟩ | ⟨x, len, cap, m, k, D, Pl, hcs, _, hl, hm, hmm, hd, hx⟩
  · simp only [List.cons.injEq, and_true] at hcs
    exact ⟨none, 0, 0, hcs, ⟨fun _ => rfl, (fun x hx => by cases hx)⟩, Nat.zero_le _⟩
  · simp only [List.cons.injEq, and_true] at hcs
    simp only [Prod.mk.injEq] at hd
    replace hd := hd.1
    subst hd
    have hlm : len ≤ m := by rw [hmm]; split <;> omega
    have h1 := hw ((((List.range len).map D).length + ((List.range (m - len)).map fun j => D (len + j)).length) * Tryz.prog.bytesOf 29) (by simp [DataW.weights, Tryz.underlying22])
    rw [bytesLs] at h1
    simp only [List.length_map, List.length_range, reachBytes] at h1
    rw [cellsBytes] at hx
    have hwe : ∀ i, i < len → ∀ n ∈ (D i).weights Tryz.prog 29, n ≤ reachBytes := fun i hi n hn => hw n (by
      simp only [DataW.weights, Tryz.underlying22]
      exact List.mem_cons_of_mem _ (List.mem_append_left _ (weightsAll_mem (List.mem_map.2 ⟨i, List.mem_range.2 hi, rfl⟩) hn)))
    refine ⟨some x, len, cap, hcs, ⟨(fun h => by cases h), fun y hy i hi => ?_⟩, by omega⟩
    cases hy
    obtain ⟨cs', e1, e2⟩ := hx i (by omega)
    obtain ⟨_, hlen, hcell⟩ := World.cells?_some e1
    obtain ⟨v0, rfl⟩ : ∃ v0, cs' = [v0] := by
      match cs', hlen with
      | [v0], _ => exact ⟨v0, rfl⟩
    obtain ⟨a, na, ca, l, rfl, hs, hb, _, hsn⟩ := open_bytes e2 (hwe i hi)
    have c0 := hcell 0 (by omega)
    rw [add_add] at c0
    obtain ⟨cs0, z1, z2⟩ := hx 0 (by omega)
    obtain ⟨_, zlen, zcell⟩ := World.cells?_some z1
    obtain ⟨u0, rfl⟩ : ∃ u0, cs0 = [u0] := by
      match cs0, zlen with
      | [u0], _ => exact ⟨u0, rfl⟩
    have z0 := zcell 0 (by omega)
    rw [add_add] at z0
    obtain ⟨b, o, spot⟩ := x
    have hspot : spot = none := by simpa [Addr.add] using World.cell?_spot z0
    subst hspot
    rw [addr_add] at c0
    simp at c0
    exact ⟨b, o, rfl, World.block_lt_of_cell? _ _ c0, a, na, ca, l, c0, hs, hb, hs.old, hsn⟩
end

set_option maxRecDepth 20000 in
set_option maxHeartbeats 2000000 in
theorem walLives_any (n : Int) (ra : Option Addr) (rn rc : Nat) (how : Int) (w : World) (hrs : Recs w w.heap.size ra rn) (hrn : 24 * rn ≤ 140737488355328) :
    Calls Tryz.prog 3 #[.int .i64 n, .slice ra rn rc, .int .i64 how] w fun e w' => e = .returned (.bool true) ∧ Below w.heap.size w w' := by
  by_cases k1 : n < 18
  · go_enter Tryz.func3, Tryz.ntmps3
    go_wp2
    go_ret
    exact ⟨rfl, Below.refl _ _⟩
  · by_cases k2 : 256 < n
    · go_enter Tryz.func3, Tryz.ntmps3
      go_wp2
      go_ret
      exact ⟨rfl, Below.refl _ _⟩
    · obtain ⟨N, rfl⟩ : ∃ N : Nat, n = (N : Int) := ⟨n.toNat, by omega⟩
      obtain ⟨x, hx, e⟩ := and3 how
      match x, hx with
      | 0, _ => exact walLives_0 N (by omega) (by omega) ra rn rc how w hrs (by omega) e
      | 1, _ => exact walLives_1 N (by omega) (by omega) ra rn rc how w hrs (by omega) e
      | 2, _ => exact walLives_2 N (by omega) (by omega) ra rn rc how w hrs (by omega) e
      | 3, _ => exact walLives_3 N (by omega) (by omega) ra rn rc how w hrs (by omega) e
end Go.Proofs.YtkelfidmpnapoaaGreat
