import Derived.Test.YtalokopnagpgcaaDoorSI6
namespace Go.Proofs.YtalokopnagpgcaaDoor
open Go.RowKit Go.Maps

/-- The word with which a text begins, and what follows. -/
def frst : List UInt8 → Option (List UInt8 × List UInt8)
  | [] => none
  | c :: t => if c = 34 then qtd t else bar (c :: t)
set_option maxRecDepth 20000 in
theorem first_any (s : ByteArray) (h0 : s.data.toList ≠ []) (hs : s.size ≤ 100000000) (w : World) (he : EV w) :
    Calls Tryd.prog 15 #[.string s] w fun e w' => (match frst s.data.toList with
      | some (m, r) => e = .returned (.tuple #[.string ⟨m.toArray⟩, .string ⟨r.toArray⟩, .bool true])
      | none => ∃ a b, e = .returned (.tuple #[.string a, .string b, .bool false])) ∧ Below w.heap.size w w' := by
  match hl : s.data.toList, h0 with
  | c :: t, _ =>
    by_cases h34 : c = 34
    · subst h34
      cases hq : qtd t with
      | some mr =>
        obtain ⟨m, r⟩ := mr
        simp only [frst, if_true, hq]
        exact first_q s t m r hs hl hq w
      | none =>
        simp only [frst, if_true, hq]
        have hsz : s.size = t.length + 1 := by rw [← len_size, hl]; simp
        have g0 : ∀ h', ((s[0]'h').toNat : Int) = 34 := get_at (s := s) (i := 0) (c := 34) (by rw [hl]; rfl)
        have e1 := ext_to s 1
        rw [hl] at e1
        simp only [List.drop_succ_cons, List.drop_zero] at e1
        have l0 : (0 : Int) < (s.size : Int) := by omega
        have l1 : (1 : Int) ≤ (s.size : Int) := by omega
        have hqn := quoted_no ⟨t.toArray⟩ (by show t.toArray.size ≤ _; rw [List.size_toArray]; omega) hq w he
        clear hsz hl hs hq h0
        go_enter Tryd.func15, Tryd.ntmps15
        go_wp2_with fail
        refine hqn.mono ?_
        rintro e w1 ⟨a, b, rfl, hb1⟩
        have HB := Hid.mk hb1
        clear hb1 hqn
        go_wp2
        go_ret3
        exact ⟨⟨_, _, rfl⟩, HB.out⟩
    · have hb := bare_any s w hs
      rw [hl] at hb
      have e34 : ((c.toNat : Int) == 34) = false := ne_lit (k := 34) h34
      have g0 := get_at (s := s) (i := 0) (c := c) (by rw [hl]; rfl)
      have l0 : (0 : Int) < (s.size : Int) := by have := len_size s; rw [hl] at this; simp only [List.length_cons] at this; omega
      have hfr : frst (c :: t) = bar (c :: t) := by simp only [frst, if_neg h34]
      rw [hfr]
      clear hfr hl hs he h0
      generalize bar (c :: t) = o at *
      go_enter Tryd.func15, Tryd.ntmps15
      go_wp2_with fail
      refine hb.mono ?_
      rintro e w1 ⟨rfl, hb1⟩
      have HB := Hid.mk hb1
      clear hb1 hb
      cases o with
      | none =>
        rw [show barV none = .tuple #[.string ⟨#[]⟩, .string ⟨#[]⟩, .bool false] from rfl]
        go_wp2
        go_ret3
        exact ⟨⟨_, _, rfl⟩, HB.out⟩
      | some mr =>
        obtain ⟨m, r⟩ := mr
        rw [show barV (some (m, r)) = .tuple #[.string ⟨m.toArray⟩, .string ⟨r.toArray⟩, .bool true] from rfl]
        go_wp2
        go_ret3
        exact ⟨rfl, HB.out⟩
theorem unb_head {l t : List UInt8} {c : UInt8} (h : unb l = c :: t) : blank c = false := by
  induction l with
  | nil => cases h
  | cons x l ih =>
    unfold unb at h ih
    rw [List.dropWhile_cons] at h
    split at h
    · exact ih h
    · rename_i hx
      cases h
      simpa using hx
theorem frst_lt {c : UInt8} {t m r : List UInt8} (hc : blank c = false) (h : frst (c :: t) = some (m, r)) : r.length < (c :: t).length := by
  by_cases h34 : c = 34
  · subst h34
    simp only [frst, if_true] at h
    have := qtd_lt h
    simp only [List.length_cons]
    omega
  · simp only [frst, if_neg h34, bar] at h
    split at h
    · simp only [Option.some.injEq, Prod.mk.injEq] at h
      rw [← h.2, List.dropWhile_cons]
      simp only [hc, Bool.not_false, if_true, List.length_cons]
      have := (List.dropWhile_sublist (p := fun c => !blank c) (l := t)).length_le
      omega
    · cases h
/-- The words of a line. -/
def wds (l : List UInt8) : Option (List (List UInt8)) := match _h : unb l with
  | [] => some []
  | c :: t => if c = 35 then some [] else match _h2 : frst (c :: t) with
    | none => none
    | some (m, r) => (wds r).map (fun ws => m :: ws)
termination_by l.length
decreasing_by
  have h1 := frst_lt (unb_head _h) _h2
  have h2 := unb_le l
  rw [_h] at h2
  omega
theorem wds_end {l : List UInt8} (h : unb l = []) : wds l = some [] := by
  rw [wds]
  split
  · rfl
  · rename_i e
    rw [h] at e
    cases e
theorem wds_note {l t : List UInt8} (h : unb l = 35 :: t) : wds l = some [] := by
  rw [wds]
  split
  · rfl
  · rename_i c t' e
    rw [h] at e
    cases e
    rw [if_pos rfl]
theorem wds_no {l t : List UInt8} {c : UInt8} (h : unb l = c :: t) (hc : c ≠ 35) (hf : frst (c :: t) = none) : wds l = none := by
  rw [wds]
  split
  · rename_i e
    rw [h] at e
    cases e
  · rename_i c' t' e
    rw [h] at e
    cases e
    rw [if_neg hc]
    split
    · rfl
    · rename_i e2
      rw [hf] at e2
      cases e2
theorem wds_step {l t m r : List UInt8} {c : UInt8} (h : unb l = c :: t) (hc : c ≠ 35) (hf : frst (c :: t) = some (m, r)) : wds l = (wds r).map (fun ws => m :: ws) := by
  rw [wds]
  split
  · rename_i e
    rw [h] at e
    cases e
  · rename_i c' t' e
    rw [h] at e
    cases e
    rw [if_neg hc]
    split
    · rename_i e2
      rw [hf] at e2
      cases e2
    · rename_i m' r' e2
      rw [hf] at e2
      cases e2
      rfl
end Go.Proofs.YtalokopnagpgcaaDoor
