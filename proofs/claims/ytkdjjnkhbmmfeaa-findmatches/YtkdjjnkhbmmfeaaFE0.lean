import Derived.Test.YtkdjjnkhbmmfeaaFDI
namespace Go.Proofs.Ytkdjjnkhbmmfeaa
open Go.RowKit Go.Maps

/-- A Boolean for each byte. -/
def tabB (f : Int → Bool) : List Bool := (List.range 256).map (fun i : Nat => f (i : Int))
theorem tabB_len (f : Int → Bool) : (tabB f).length = 256 := by simp [tabB]
theorem tabB_at (f : Int → Bool) {i : Nat} (hi : i < 256) : (tabB f)[i]? = some (f (i : Int)) := by simp [tabB, hi]
theorem tabB_set (f : Int → Bool) (i : Nat) (x : Bool) : (tabB f).set i x = tabB (fun y => if y = (i : Int) then x else f y) := by
  refine List.ext_getElem? (fun j => ?_)
  by_cases hj : j < 256
  · rw [tabB_at _ hj, List.getElem?_set]
    by_cases e : i = j
    · subst e
      simp [tabB_len, hj]
    · rw [if_neg e, tabB_at f hj, if_neg (by omega)]
  · rw [List.getElem?_eq_none (by rw [List.length_set, tabB_len]; omega), List.getElem?_eq_none (by rw [tabB_len]; omega)]
theorem tabB_congr {f g : Int → Bool} (h : ∀ x, 0 ≤ x → x < 256 → f x = g x) : tabB f = tabB g := by
  unfold tabB
  refine List.map_congr_left (fun i hi => ?_)
  have := List.mem_range.1 hi
  exact h i (by omega) (by omega)
/-- The cells of a piece as the document has it. -/
def pd (k b : Int) (f : Int → Bool) : List Value := .int .i64 k :: .int .u8 b :: (tabB f).map Value.bool
theorem pd_len (k b : Int) (f : Int → Bool) : (pd k b f).length = 258 := by simp [pd, tabB_len]
theorem pd_0 (k b : Int) (f : Int → Bool) : (pd k b f)[0]? = some (.int .i64 k) := rfl
theorem pd_1 (k b : Int) (f : Int → Bool) : (pd k b f)[1]? = some (.int .u8 b) := rfl
theorem pd_at (k b : Int) (f : Int → Bool) {i : Nat} (hi : i < 256) : (pd k b f)[i + 2]? = some (.bool (f (i : Int))) := by
  show ((tabB f).map Value.bool)[i]? = _
  rw [List.getElem?_map, tabB_at f hi]
  rfl
theorem pd_set (k b : Int) (f : Int → Bool) (i : Nat) (x : Bool) : (pd k b f).set (i + 2) (.bool x) = pd k b (fun y => if y = (i : Int) then x else f y) := by
  show _ :: _ :: ((tabB f).map Value.bool).set i (.bool x) = _
  rw [← List.map_set, tabB_set]
  rfl
theorem pd_congr {k b : Int} {f g : Int → Bool} (h : ∀ x, 0 ≤ x → x < 256 → f x = g x) : pd k b f = pd k b g := by
  unfold pd
  rw [tabB_congr h]
theorem pd_one (k b : Int) (f : Int → Bool) : ∀ v ∈ pd k b f, v.oneCell' = true := by
  intro v hv
  rcases List.mem_cons.1 hv with rfl | hv
  · rfl
  rcases List.mem_cons.1 hv with rfl | hv
  · rfl
  obtain ⟨x, _, rfl⟩ := List.mem_map.1 hv
  rfl
/-- Which bytes the document's piece takes. -/
def takeD (k b : Int) (f : Int → Bool) (x : Int) : Bool := if k = 1 then decide (x = b) else if k = 2 ∨ k = 3 then decide (x ≠ 47) else if k = 4 then true else f x
/-- The document's piece and the program's are the same. -/
structure PR (k b : Int) (f : Int → Bool) (p : Pc) : Prop where
  many : decide (k = 3 ∨ k = 4) = p.many
  take : ∀ x, 0 ≤ x → x < 256 → takeD k b f x = takesP p x
theorem PR.only (b : Int) (f : Int → Bool) : PR 1 b f (onlyP b) := ⟨rfl, fun x _ _ => by
  rw [Bool.eq_iff_iff, only_takes]
  simp [takeD]⟩
theorem PR.one (b : Int) (f : Int → Bool) : PR 2 b f ⟨[], true, false, false⟩ := ⟨rfl, fun x _ _ => by
  simp [takeD, takesP]⟩
theorem PR.star (b : Int) (f : Int → Bool) : PR 3 b f ⟨[], true, false, true⟩ := ⟨rfl, fun x _ _ => by
  simp [takeD, takesP]⟩
theorem PR.all (b : Int) (f : Int → Bool) : PR 4 b f ⟨[], true, true, true⟩ := ⟨rfl, fun x _ _ => by
  simp [takeD, takesP]⟩
theorem PR.set (b : Int) (f : Int → Bool) (ms : List (Int × Int)) (o : Bool) (hf : ∀ x, 0 ≤ x → x < 256 → f x = if x = 47 then false else if o = true then !ms.any (memHas x) else ms.any (memHas x)) : PR 5 b f ⟨ms, o, false, false⟩ := ⟨rfl, fun x h0 h1 => by
  have := hf x h0 h1
  simp only [takeD, takesP]
  rw [if_neg (by decide), if_neg (by decide), if_neg (by decide), this]
  by_cases h47 : x = 47
  · simp [h47]
  · cases o <;> cases ms.any (memHas x) <;> simp [h47]⟩
/-- A unit as the document tells it: the byte and how many bytes it has. -/
def unitD (l : List Int) : Int × Nat := match unitP l with
  | none => (0, 0)
  | some (b, m) => (b, l.length - m.length)
/-- What a set comes to, members being read already. -/
def finD (ms : List (Int × Int)) (r : List Int) : Option (List (Int × Int) × List Int) :=
  if ms ≠ [] ∧ (tookP r 93).1 = true then some (ms, (tookP r 93).2) else (memsP r.length r).map (fun q => (ms ++ q.1, q.2))
theorem mems_fuel : ∀ (f : Nat) (l : List Int), l.length ≤ f → memsP f l = memsP l.length l
  | f, [], h => by cases f <;> rfl
  | 0, b :: l, h => by simp at h
  | f + 1, b :: l, h => by
    show (match memP (b :: l) with | none => none | some (p, m) => if (tookP m 93).1 = true then some ([p], (tookP m 93).2) else (memsP f (tookP m 93).2).map (fun q : List (Int × Int) × List Int => (p :: q.1, q.2))) = (match memP (b :: l) with | none => none | some (p, m) => if (tookP m 93).1 = true then some ([p], (tookP m 93).2) else (memsP l.length (tookP m 93).2).map (fun q : List (Int × Int) × List Int => (p :: q.1, q.2)))
    cases hm : memP (b :: l) with
    | none => rfl
    | some q =>
      obtain ⟨p, m⟩ := q
      have h1 := mem_len hm
      have h2 := took_len (m := m) (x := 93)
      simp only [List.length_cons] at h h1
      dsimp only
      rw [mems_fuel f _ (by omega), mems_fuel l.length _ (by omega)]
theorem mems_eq (b : Int) (l : List Int) : memsP (b :: l).length (b :: l) = match memP (b :: l) with
    | none => none
    | some (p, m) => if (tookP m 93).1 = true then some ([p], (tookP m 93).2) else (memsP m.length m).map (fun q : List (Int × Int) × List Int => (p :: q.1, q.2)) := by
  show (match memP (b :: l) with | none => none | some (p, m) => if (tookP m 93).1 = true then some ([p], (tookP m 93).2) else (memsP l.length (tookP m 93).2).map (fun q : List (Int × Int) × List Int => (p :: q.1, q.2))) = _
  cases hm : memP (b :: l) with
  | none => rfl
  | some q =>
    obtain ⟨p, m⟩ := q
    have h1 := mem_len hm
    simp only [List.length_cons] at h1
    dsimp only
    by_cases ht : (tookP m 93).1 = true
    · rw [if_pos ht, if_pos ht]
    · rw [if_neg ht, if_neg ht, took_false (by simpa using ht), mems_fuel l.length m (by omega)]
theorem fin_end (ms : List (Int × Int)) : finD ms [] = none := by
  unfold finD
  rw [if_neg (by simp [tookP])]
  rfl
theorem fin_shut {ms : List (Int × Int)} (h : ms ≠ []) (r : List Int) : finD ms (93 :: r) = some (ms, r) := by
  unfold finD
  rw [if_pos ⟨h, by simp [tookP]⟩]
  simp [tookP]
theorem fin_none (r : List Int) : finD [] (93 :: r) = none := by
  unfold finD
  rw [if_neg (by simp), mems_eq]
  simp [memP, unitP]
theorem fin_bad {ms : List (Int × Int)} {b : Int} {r : List Int} (hb : b ≠ 93) (h : memP (b :: r) = none) : finD ms (b :: r) = none := by
  unfold finD
  rw [if_neg (by simp [tookP, hb]), mems_eq, h]
  rfl
theorem fin_step {ms : List (Int × Int)} {b : Int} {r m : List Int} {q : Int × Int} (hb : b ≠ 93) (h : memP (b :: r) = some (q, m)) : finD ms (b :: r) = finD (ms ++ [q]) m := by
  unfold finD
  rw [if_neg (by simp [tookP, hb]), mems_eq, h]
  dsimp only
  by_cases ht : (tookP m 93).1 = true
  · rw [if_pos ht, if_pos ⟨by simp, ht⟩]
    rfl
  · rw [if_neg ht, if_neg (by simp [ht])]
    cases memsP m.length m with
    | none => rfl
    | some z => simp
theorem fin_set (l : List Int) : setP l = (finD [] (tookP l 33).2).map (fun q => (⟨q.1, (tookP l 33).1, false, false⟩, q.2)) := by
  unfold setP finD
  rw [if_neg (by simp)]
  cases memsP (tookP l 33).2.length (tookP l 33).2 with
  | none => rfl
  | some z => simp
end Go.Proofs.Ytkdjjnkhbmmfeaa
