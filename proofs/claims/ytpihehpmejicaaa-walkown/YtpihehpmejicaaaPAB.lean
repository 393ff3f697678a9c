import Derived.Test.YtpihehpmejicaaaPAA
import Derived.Test.YtpihehpmejicaaaKOpenI
namespace Go.Proofs.Ytpihehpmejicaaa
open Go.RowKit Go.Maps

/-- A part that a path can be made of. -/
structure OkP (p : List UInt8) : Prop where
  keep : keepP p = true
  no : 47 ∉ p
  len : p.length ≤ 54
  right : rightErr p = 0
theorem fx_ne (c : UInt8) : fx c ≠ 47 ∧ fx c ≠ 0 := by
  unfold fx
  split
  · decide
  · rename_i h
    simpa [not_or] using h
theorem tameL_ok (l : List UInt8) : OkP (tameL l) := by
  unfold tameL
  generalize hb : (l.take 54).map fx = b
  have hlen : b.length ≤ 54 := by rw [← hb]; simp; omega
  have hno : ∀ c ∈ b, c ≠ 47 ∧ c ≠ 0 := by
    intro c hc
    rw [← hb] at hc
    obtain ⟨d, _, rfl⟩ := List.mem_map.1 hc
    exact fx_ne d
  split
  · exact ⟨by decide, by decide, by decide, by decide⟩
  · rename_i h
    simp only [not_or] at h
    refine ⟨?_, fun hc => (hno 47 hc).1 rfl, hlen, ?_⟩
    · simp [keepP, h.1, h.2.1]
    · unfold rightErr
      rw [if_neg h.2.2]
      unfold nameErr
      rw [if_neg (by omega), if_neg (by simp [h.1, h.2.1, h.2.2]), if_neg]
      rintro (hc | hc)
      · exact (hno 47 hc).1 rfl
      · exact (hno 0 hc).2 rfl
theorem dots_ok : OkP [46, 46] := ⟨by decide, by decide, by decide, by decide⟩
theorem errOf_ok : ∀ {l : List (List UInt8)}, (∀ p ∈ l, OkP p) → errOf l = 0
  | [], _ => rfl
  | p :: r, h => by
    unfold errOf
    rw [if_pos (h p (by simp)).right]
    exact errOf_ok (fun q hq => h q (by simp [hq]))

theorem segs_app (a b : List UInt8) : segs (a ++ 47 :: b) = segs a ++ segs b := by
  induction a with
  | nil => simp [segs]
  | cons c t ih =>
    simp only [List.cons_append, segs, ih]
    by_cases hc : c = 47
    · simp [hc]
    · simp only [if_neg hc]
      cases h : segs t with
      | nil => exact absurd h (segs_full t)
      | cons s r => simp
theorem ptsOf_app (a b : List UInt8) : ptsOf (a ++ 47 :: b) = ptsOf a ++ ptsOf b := by
  unfold ptsOf
  rw [segs_app, List.filter_append]

/-- What stands between two parts. -/
def sepOf (x : Int) : List UInt8 := if x = 1 then [47, 47] else if x = 2 then [47, 46, 47] else if x = 3 then [47, 46, 47, 46, 47, 47] else [47]
theorem sep_cases (x : Int) : sepOf x = [47] ∨ sepOf x = [47, 47] ∨ sepOf x = [47, 46, 47] ∨ sepOf x = [47, 46, 47, 46, 47, 47] := by
  unfold sepOf
  repeat' split
  all_goals simp
theorem pts_dot (p : List UInt8) : ptsOf (46 :: 47 :: p) = ptsOf p := by
  have := ptsOf_cut (p := [46]) p (by decide)
  simpa [keepP] using this
theorem pts_sep (P : List UInt8) (x : Int) (p : List UInt8) : ptsOf (P ++ sepOf x ++ p) = ptsOf P ++ ptsOf p := by
  rcases sep_cases x with h | h | h | h
  · rw [h, List.append_assoc]
    exact ptsOf_app P p
  · rw [h, List.append_assoc]
    refine (ptsOf_app P (47 :: p)).trans ?_
    rw [ptsOf_slash]
  · rw [h, List.append_assoc]
    refine (ptsOf_app P (46 :: 47 :: p)).trans ?_
    rw [pts_dot]
  · rw [h, List.append_assoc]
    refine (ptsOf_app P (46 :: 47 :: 46 :: 47 :: 47 :: p)).trans ?_
    rw [pts_dot, pts_dot, ptsOf_slash]
theorem sep_len (x : Int) : (sepOf x).length ≤ 6 := by rcases sep_cases x with h | h | h | h <;> rw [h] <;> decide
theorem sep_head (x : Int) (p : List UInt8) : (sepOf x ++ p).head? = some 47 := by rcases sep_cases x with h | h | h | h <;> rw [h] <;> rfl
theorem OkP.pts {p : List UInt8} (h : OkP p) : ptsOf p = [p] := by
  rw [ptsOf_none h.no, if_pos h.keep]

set_option maxRecDepth 20000 in
set_option maxHeartbeats 2000000 in
theorem within_any (v : Int) (_w : World) :
    ∃ x : Int, 0 ≤ x ∧ x ≤ 4 ∧ ∀ w, Calls Try.prog 20 #[.int .i64 v, .int .i64 0, .int .i64 4] w fun e w' => e = .returned (.int .i64 x) ∧ w' = w := by
  have hpos : 0 < ((4 : Int) - 0 + 1) := by omega
  have hr1 : v.tmod 5 < 5 := Int.tmod_lt_of_pos v (by omega)
  have hr2 : -(v.tmod 5) < 5 := by rw [← Int.neg_tmod]; exact Int.tmod_lt_of_pos (-v) (by omega)
  by_cases hneg : v.tmod 5 < 0
  · refine ⟨v.tmod 5 + 5, by omega, by omega, fun w => ?_⟩
    go_enter Try.func20, Try.ntmps20
    go_wp2
    go_ret
    exact ⟨by first | go_num | (refine congrArg _ (congrArg _ ?_); (try unfold wrap64); omega), rfl⟩
  · refine ⟨v.tmod 5, by omega, by omega, fun w => ?_⟩
    go_enter Try.func20, Try.ntmps20
    go_wp2
    go_ret
    exact ⟨by first | go_num | (refine congrArg _ (congrArg _ ?_); (try unfold wrap64); omega), rfl⟩
end Go.Proofs.Ytpihehpmejicaaa
