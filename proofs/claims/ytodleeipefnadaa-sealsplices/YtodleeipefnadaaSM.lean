import Derived.Test.YtodleeipefnadaaCrc
namespace Go.Proofs.Ytodleeipefnadaa

/-- What the checksum of a sealed sector goes over. -/
def stext (body : List Int) : List Int := ((body.length % 256 : Nat) : Int) :: ((body.length / 256 : Nat) : Int) :: (body ++ List.replicate (504 - body.length) 0)
/-- The sealed sector with that turn and body. -/
def sform (t : Int) (body : List Int) : List Int :=
  t :: ((body.length % 256 : Nat) : Int) :: ((body.length / 256 : Nat) : Int) :: (bytes4 (sumOf (stext body)) ++ (body ++ (List.replicate (504 - body.length) 0 ++ [t])))
/-- The turn of what is written over a sector with these ends. -/
def turnOf (a b : Int) : Nat := if a ≠ 0 ∧ b ≠ 0 then 0 else if a ≠ 1 ∧ b ≠ 1 then 1 else 2

theorem turnOf_le (a b : Int) : turnOf a b ≤ 2 := by unfold turnOf; split <;> (try split) <;> omega
theorem turnOf_ne (a b : Int) : ((turnOf a b : Nat) : Int) ≠ a ∧ ((turnOf a b : Nat) : Int) ≠ b := by
  unfold turnOf
  by_cases h : a ≠ 0 ∧ b ≠ 0
  · rw [if_pos h]; omega
  · rw [if_neg h]
    by_cases h1 : a ≠ 1 ∧ b ≠ 1
    · rw [if_pos h1]; omega
    · rw [if_neg h1]; omega

theorem bytes4_len (s : Nat) : (bytes4 s).length = 4 := rfl
theorem bytes4_bytes (s : Nat) : Bytes (bytes4 s) := by
  intro x hx
  simp only [bytes4, List.mem_cons, List.not_mem_nil, or_false] at hx
  omega
theorem stext_len {body : List Int} (h : body.length ≤ 504) : (stext body).length = 506 := by simp [stext]; omega
theorem sform_len {t : Int} {body : List Int} (h : body.length ≤ 504) : (sform t body).length = 512 := by simp [sform, bytes4_len]; omega
theorem Bytes.append {a b : List Int} (ha : Bytes a) (hb : Bytes b) : Bytes (a ++ b) := fun x hx => (List.mem_append.1 hx).elim (ha x) (hb x)
theorem Bytes.cons {a : Int} {b : List Int} (ha : 0 ≤ a ∧ a < 256) (hb : Bytes b) : Bytes (a :: b) := fun x hx => (List.mem_cons.1 hx).elim (fun h => h ▸ ha) (hb x)
theorem Bytes.nil : Bytes [] := fun _ hx => by cases hx
theorem Bytes.zeros (n : Nat) : Bytes (List.replicate n 0) := fun x hx => by rw [List.eq_of_mem_replicate hx]; omega
theorem Bytes.take {l : List Int} (h : Bytes l) (n : Nat) : Bytes (l.take n) := fun x hx => h x (List.mem_of_mem_take hx)
theorem Bytes.drop {l : List Int} (h : Bytes l) (n : Nat) : Bytes (l.drop n) := fun x hx => h x (List.mem_of_mem_drop hx)
theorem Bytes.getD {l : List Int} (h : Bytes l) (i : Nat) : 0 ≤ l.getD i 0 ∧ l.getD i 0 < 256 := by
  by_cases hi : i < l.length
  · have := h l[i] (List.getElem_mem hi)
    simpa [List.getD, hi] using this
  · simp [List.getD, List.getElem?_eq_none (Nat.le_of_not_lt hi)]
theorem stext_bytes {body : List Int} (h : Bytes body) (hl : body.length ≤ 504) : Bytes (stext body) :=
  .cons (by omega) (.cons (by omega) (h.append (.zeros _)))
theorem sform_bytes {t : Int} {body : List Int} (h : Bytes body) (hl : body.length ≤ 504) (ht : 0 ≤ t ∧ t < 256) : Bytes (sform t body) :=
  .cons ht (.cons (by omega) (.cons (by omega) ((bytes4_bytes _).append (h.append ((Bytes.zeros _).append (.cons ht .nil))))))

/-- The length that a sector tells. -/
def slen (s : List Int) : Nat := (s.getD 1 0 + 256 * s.getD 2 0).toNat
/-- Its body. -/
def sbody (s : List Int) : List Int := (s.drop 7).take (slen s)
/-- What Open tells. -/
def sopen (s : List Int) : Option (List Int) := if slen s ≤ 504 ∧ s.getD 0 0 ≤ 2 ∧ sform (s.getD 0 0) (sbody s) = s then some (sbody s) else none

theorem slen_form (t : Int) (body : List Int) (h : body.length ≤ 504) : slen (sform t body) = body.length := by
  simp [slen, sform, List.getD]; omega
theorem sform_drop (t : Int) (body : List Int) : (sform t body).drop 7 = body ++ (List.replicate (504 - body.length) 0 ++ [t]) := by
  simp [sform, bytes4]
theorem sbody_form (t : Int) (body : List Int) (h : body.length ≤ 504) : sbody (sform t body) = body := by
  rw [sbody, slen_form t body h, sform_drop]
  simp
theorem sform_first (t : Int) (body : List Int) : (sform t body).getD 0 0 = t := rfl
theorem sform_last (t : Int) (body : List Int) (h : body.length ≤ 504) : (sform t body).getD 511 0 = t := by
  have e : sform t body = (t :: ((body.length % 256 : Nat) : Int) :: ((body.length / 256 : Nat) : Int) :: (bytes4 (sumOf (stext body)) ++ (body ++ List.replicate (504 - body.length) 0))) ++ [t] := by
    simp [sform]
  rw [e, List.getD, List.getElem?_append_right (by simp [bytes4_len]; omega)]
  have : 511 - (t :: ((body.length % 256 : Nat) : Int) :: ((body.length / 256 : Nat) : Int) :: (bytes4 (sumOf (stext body)) ++ (body ++ List.replicate (504 - body.length) 0))).length = 0 := by
    simp [bytes4_len]; omega
  rw [this]; rfl
theorem sopen_form (t : Int) (body : List Int) (h : body.length ≤ 504) (ht : t ≤ 2) : sopen (sform t body) = some body := by
  unfold sopen
  rw [slen_form t body h, sform_first, sbody_form t body h, if_pos ⟨h, ht, rfl⟩]
theorem sopen_some {s body : List Int} (h : sopen s = some body) : slen s ≤ 504 ∧ s.getD 0 0 ≤ 2 ∧ sform (s.getD 0 0) (sbody s) = s ∧ body = sbody s := by
  unfold sopen at h
  split at h
  · next hc => exact ⟨hc.1, hc.2.1, hc.2.2, (Option.some.inj h).symm⟩
  · cases h
theorem sbody_len {s : List Int} (h : slen s ≤ 504) (hs : s.length = 512) : (sbody s).length = slen s := by
  simp [sbody]; omega
theorem sopen_len {s body : List Int} (h : sopen s = some body) (hs : s.length = 512) : body.length ≤ 504 := by
  obtain ⟨h1, _, _, rfl⟩ := sopen_some h
  rw [sbody_len h1 hs]; exact h1
theorem sopen_ends {s body : List Int} (h : sopen s = some body) (hs : s.length = 512) : s.getD 511 0 = s.getD 0 0 := by
  have hl := sopen_len h hs
  obtain ⟨h1, _, h3, rfl⟩ := sopen_some h
  rw [← h3, sform_last _ _ hl, sform_first]

/-- What the sum goes over, of a sector. -/
def stextOf (s : List Int) : List Int := (s.drop 1).take 2 ++ (s.drop 7).take 504
theorem stextOf_form (t : Int) (body : List Int) (h : body.length ≤ 504) : stextOf (sform t body) = stext body := by
  rw [stextOf, sform_drop, ← List.append_assoc, List.take_left' (by simp; omega)]
  simp [sform, stext]
theorem ssum_form (t : Int) (body : List Int) : ((sform t body).drop 3).take 4 = bytes4 (sumOf (stext body)) := by
  simp [sform, bytes4]
/-- A sealed sector's sum is right. -/
theorem sopen_sum {s body : List Int} (h : sopen s = some body) (hs : s.length = 512) : (s.drop 3).take 4 = bytes4 (sumOf (stextOf s)) := by
  have hl := sopen_len h hs
  obtain ⟨h1, _, h3, rfl⟩ := sopen_some h
  rw [← h3, ssum_form, stextOf_form _ _ hl]

/-- An anchor's number and data; 0: it is none. -/
def sanchor (s : List Int) : Nat × List Int :=
  match sopen s with
  | none => (0, [])
  | some body => if 8 ≤ body.length ∧ le (body.take 8) < 9223372036854775808 then (le (body.take 8), body.drop 8) else (0, [])
/-- What Newest tells: slot, number, data, error. -/
def snewest (l r : List Int) : Nat × Nat × List Int × Nat :=
  if l.length ≠ 512 ∨ r.length ≠ 512 then (0, 0, [], 2) else
  if (sanchor l).1 = 0 ∧ (sanchor r).1 = 0 then (0, 0, [], 30) else
  if (sanchor l).1 < (sanchor r).1 then (1, (sanchor r).1, (sanchor r).2, 0) else (0, (sanchor l).1, (sanchor l).2, 0)

/-- Eight bytes of a number, the low one first. -/
def bytes8 (n : Nat) : List Int := (List.range 8).map (fun k => ((n / 256 ^ k % 256 : Nat) : Int))
/-- What Seal tells. -/
def sseal (old body : List Int) : List Int × Nat :=
  if old.length ≠ 512 then ([], 2) else if 504 < body.length then ([], 7) else (sform (turnOf (old.getD 0 0) (old.getD 511 0)) body, 0)
def sopens (s : List Int) : List Int × Nat :=
  if s.length ≠ 512 then ([], 2) else match sopen s with | none => ([], 30) | some b => (b, 0)
/-- What Renew tells. -/
def srenew (l r : List Int) (number : Int) (data : List Int) : Nat × List Int × Nat :=
  if l.length ≠ 512 ∨ r.length ≠ 512 then (0, [], 2) else
  if number < 1 then (0, [], 1) else
  if 496 < data.length then (0, [], 7) else
  let a := snewest l r
  if number ≤ a.2.1 then (0, [], 31) else
  if a.2.2.2 = 0 ∧ a.1 = 0 then (1, sform (turnOf (r.getD 0 0) (r.getD 511 0)) (bytes8 number.toNat ++ data), 0)
  else (0, sform (turnOf (l.getD 0 0) (l.getD 511 0)) (bytes8 number.toNat ++ data), 0)
end Go.Proofs.Ytodleeipefnadaa
