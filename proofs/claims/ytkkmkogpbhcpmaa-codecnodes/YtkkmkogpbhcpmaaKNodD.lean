import Derived.Test.YtkkmkogpbhcpmaaKNodC
import Derived.ChangeKeysEq
namespace Go.Proofs.Ytkkmkogpbhcpmaa
open Go.RowKit

theorem fieldsNode : Try.prog.underlying 76 = some (.struct (Try.prog.fieldsOf 76)) := by kernel_rfl
theorem stoodNode : Try.prog.stoodInHeld 76 = false := by kernel_rfl
theorem eq_int (n : Nat) (a b : Int) (w : World) : (Op.equalIn (n + 1) 3 (.int .i64 a) (.int .i64 b)).run Try.prog w = .ok (a == b) w := by
  simp [Op.equalIn, go_sem]
theorem part_int (xs : Array Value) (off : Nat) (v : Value) (w : World) (h : xs[off]? = some v) : (part 3 xs off).run Try.prog w = .ok v w := run_part_plain (P := Try.prog) w (by kernel_rfl) h

set_option maxRecDepth 20000 in
set_option maxHeartbeats 4000000 in
theorem eq_ten (n : Nat) (d e : Nat → Int) (w : World) : ∃ b, (Op.equalIn (n + 2) 74 (.agg (ten d)) (.agg (ten e))).run Try.prog w = .ok b w ∧ (b = true ↔ ∀ i, i < 10 → d i = e i) := by
  obtain ⟨i0, hi⟩ := info_of_underlying (P := Try.prog) Try.underlying3
  rw [run_equalIn_array (P := Try.prog) w (n + 1) _ _ Try.underlying74 hi]
  have hce : Try.prog.cellsOf 3 = 1 := by kernel_rfl
  rw [hce, show List.range 10 = [0, 1, 2, 3, 4, 5, 6, 7, 8, 9] from rfl]
  have step : ∀ (xs ys : Array Value) (j : Nat) (a b : Int) (js : List Nat), xs[j]? = some (.int .i64 a) → ys[j]? = some (.int .i64 b) → (Op.eqItems (n + 1) 3 1 xs ys (j :: js)).run Try.prog w = if a = b then (Op.eqItems (n + 1) 3 1 xs ys js).run Try.prog w else .ok false w := by
    intro xs ys j a b js h1 h2
    simp only [Op.eqItems, Nat.mul_one, Sem.run_bind, part_int xs j _ w h1, part_int ys j _ w h2, Result.andThen_ok, eq_int]
    by_cases h : a = b
    · simp [h]
    · simp [h]
  rw [step _ _ 0 (d 0) (e 0) _ rfl rfl, step _ _ 1 (d 1) (e 1) _ rfl rfl, step _ _ 2 (d 2) (e 2) _ rfl rfl, step _ _ 3 (d 3) (e 3) _ rfl rfl, step _ _ 4 (d 4) (e 4) _ rfl rfl, step _ _ 5 (d 5) (e 5) _ rfl rfl, step _ _ 6 (d 6) (e 6) _ rfl rfl, step _ _ 7 (d 7) (e 7) _ rfl rfl, step _ _ 8 (d 8) (e 8) _ rfl rfl, step _ _ 9 (d 9) (e 9) _ rfl rfl]
  by_cases h : ∀ i, i < 10 → d i = e i
  · refine ⟨true, ?_, ⟨fun _ => h, fun _ => rfl⟩⟩
    rw [if_pos (h 0 (by omega)), if_pos (h 1 (by omega)), if_pos (h 2 (by omega)), if_pos (h 3 (by omega)), if_pos (h 4 (by omega)), if_pos (h 5 (by omega)), if_pos (h 6 (by omega)), if_pos (h 7 (by omega)), if_pos (h 8 (by omega)), if_pos (h 9 (by omega))]
    rfl
  · refine ⟨false, ?_, ⟨fun h => (by cases h), fun h' => absurd h' h⟩⟩
    repeat' split
    all_goals first | rfl | skip
    exfalso
    apply h
    intro i hi
    match i, hi with
    | 0, _ => assumption
    | 1, _ => assumption
    | 2, _ => assumption
    | 3, _ => assumption
    | 4, _ => assumption
    | 5, _ => assumption
    | 6, _ => assumption
    | 7, _ => assumption
    | 8, _ => assumption
    | 9, _ => assumption
end Go.Proofs.Ytkkmkogpbhcpmaa
