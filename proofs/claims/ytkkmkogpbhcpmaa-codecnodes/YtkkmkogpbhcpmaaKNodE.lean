import Derived.Test.YtkkmkogpbhcpmaaKNodD
namespace Go.Proofs.Ytkkmkogpbhcpmaa
open Go.RowKit

set_option maxRecDepth 20000 in
theorem part_ten (k l p s o : Int) (d : Nat → Int) (w : World) : (part 74 (ndc k l p s o d) 5).run Try.prog w = .ok (.agg (ten d)) w := by
  simp [go_sem]

/-- Two nodes are the same. -/
def NSame (k l p s o : Int) (d : Nat → Int) (k' l' p' s' o' : Int) (d' : Nat → Int) : Prop := k = k' ∧ l = l' ∧ p = p' ∧ s = s' ∧ o = o' ∧ ∀ i, i < 12 → d i = d' i

set_option maxRecDepth 20000 in
set_option maxHeartbeats 4000000 in
theorem eq_node (n : Nat) (k l p s o : Int) (d : Nat → Int) (k' l' p' s' o' : Int) (d' : Nat → Int) (w : World) : ∃ b, (Op.equalIn (n + 3) 76 (nd k l p s o d) (nd k' l' p' s' o' d')).run Try.prog w = .ok b w ∧ (b = true ↔ NSame k l p s o d k' l' p' s' o' d') := by
  rw [run_equalIn_struct (P := Try.prog) w (n + 2) _ _ _ fieldsNode stoodNode]
  have step : ∀ (xs ys : Array Value) (f : Field) (a b : Int) (fs : List Field), f.name ≠ "_" → f.type = 3 → xs[f.offset]? = some (.int .i64 a) → ys[f.offset]? = some (.int .i64 b) → (Op.eqFields (n + 2) xs ys (f :: fs)).run Try.prog w = if a = b then (Op.eqFields (n + 2) xs ys fs).run Try.prog w else .ok false w := by
    intro xs ys f a b fs hn ht h1 h2
    simp only [Op.eqFields, ht, if_pos hn, Sem.run_bind, part_int xs _ _ w h1, part_int ys _ _ w h2, Result.andThen_ok, eq_int]
    by_cases h : a = b
    · simp [h]
    · simp [h]
  obtain ⟨b10, h10, e10⟩ := eq_ten n d d' w
  have stepA : ∀ (f : Field) (fs : List Field), f.name ≠ "_" → f.type = 74 → f.offset = 5 → (Op.eqFields (n + 2) (ndc k l p s o d) (ndc k' l' p' s' o' d') (f :: fs)).run Try.prog w = if b10 = true then (Op.eqFields (n + 2) (ndc k l p s o d) (ndc k' l' p' s' o' d') fs).run Try.prog w else .ok false w := by
    intro f fs hn ht ho
    simp only [Op.eqFields, ht, ho, if_pos hn, Sem.run_bind, part_ten, Result.andThen_ok, h10]
    cases b10
    · simp
    · simp
  simp only [Program.fieldsOf, Try.underlying76]
  rw [step _ _ _ k k' _ (by decide) rfl rfl rfl, step _ _ _ l l' _ (by decide) rfl rfl rfl, step _ _ _ p p' _ (by decide) rfl rfl rfl, step _ _ _ s s' _ (by decide) rfl rfl rfl, step _ _ _ o o' _ (by decide) rfl rfl rfl, stepA _ _ (by decide) rfl rfl, step _ _ _ (d 10) (d' 10) _ (by decide) rfl rfl rfl, step _ _ _ (d 11) (d' 11) _ (by decide) rfl rfl rfl]
  by_cases h : NSame k l p s o d k' l' p' s' o' d'
  · refine ⟨true, ?_, ⟨fun _ => h, fun _ => rfl⟩⟩
    obtain ⟨h1, h2, h3, h4, h5, h6⟩ := h
    rw [if_pos h1, if_pos h2, if_pos h3, if_pos h4, if_pos h5, if_pos (e10.2 (fun i hi => h6 i (by omega))), if_pos (h6 10 (by omega)), if_pos (h6 11 (by omega))]
    rfl
  · refine ⟨false, ?_, ⟨fun h => (by cases h), fun h' => absurd h' h⟩⟩
    repeat' split
    all_goals first | rfl | skip
    exfalso
    rename_i h1 h2 h3 h4 h5 h6 h7 h8
    refine h ⟨h1, h2, h3, h4, h5, fun i hi => ?_⟩
    by_cases e : i = 10
    · rw [e]; exact h7
    · by_cases e' : i = 11
      · rw [e']; exact h8
      · exact e10.1 h6 i (by omega)
end Go.Proofs.Ytkkmkogpbhcpmaa
