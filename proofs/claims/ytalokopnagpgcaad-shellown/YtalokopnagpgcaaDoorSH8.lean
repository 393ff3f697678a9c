import Derived.Test.YtalokopnagpgcaaDoorSH7
namespace Go.Proofs.YtalokopnagpgcaaDoor
open Go.RowKit Go.Maps

theorem hexR_lt {l r : List UInt8} {c : UInt8} (h : hexR l = some (c, r)) : r.length < l.length := by
  match l, h with
  | a :: b :: r', h =>
    simp only [hexR] at h
    split at h
    · simp only [Option.some.injEq, Prod.mk.injEq] at h
      rw [← h.2]
      simp only [List.length_cons]
      omega
    · cases h
theorem oneB_lt {l r : List UInt8} {c : UInt8} (h : oneB l = some (c, r)) : r.length < l.length := by
  match l, h with
  | a :: t, h =>
    simp only [oneB] at h
    split at h
    · simp only [Option.some.injEq, Prod.mk.injEq] at h
      rw [← h.2]
      simp
    · split at h
      · match t, h with
        | d :: r', h =>
          simp only at h
          split at h
          · simp only [Option.some.injEq, Prod.mk.injEq] at h
            rw [← h.2]
            simp only [List.length_cons]
            omega
          · split at h
            · simp only [Option.some.injEq, Prod.mk.injEq] at h
              rw [← h.2]
              simp only [List.length_cons]
              omega
            · split at h
              · simp only [Option.some.injEq, Prod.mk.injEq] at h
                rw [← h.2]
                simp only [List.length_cons]
                omega
              · split at h
                · have := hexR_lt h
                  simp only [List.length_cons]
                  omega
                · cases h
      · cases h
/-- What the inside of a quoted word stands for. -/
def mnt (l : List UInt8) : Option (List UInt8) := match l with
  | [] => some []
  | c :: t => match _h : oneB (c :: t) with
    | none => none
    | some (d, r) => (mnt r).map (fun m => d :: m)
termination_by l.length
decreasing_by exact oneB_lt _h
theorem mnt_nil : mnt [] = some [] := by rw [mnt]
theorem mnt_no {l : List UInt8} (h0 : l ≠ []) (h : oneB l = none) : mnt l = none := by
  match l, h0 with
  | c :: t, _ =>
    rw [mnt]
    split
    · rfl
    · rename_i e
      rw [h] at e
      cases e
theorem mnt_one {l r : List UInt8} {d : UInt8} (h : oneB l = some (d, r)) : mnt l = (mnt r).map (fun m => d :: m) := by
  match l, h with
  | c :: t, h =>
    rw [mnt]
    split
    · rename_i e
      rw [h] at e
      cases e
    · rename_i d' r' e
      rw [h] at e
      simp only [Option.some.injEq, Prod.mk.injEq] at e
      rw [e.1, e.2]
/-- How long a text is. -/
def strLen : Value → Nat
  | .string s => s.size
  | _ => 0
theorem conv_own {w : World} {B : Nat} {v : Value} {m : List UInt8} (h : Own w B v (ub m)) : (convert 23 9 v).run Tryd.prog w = .ok (.string ⟨m.toArray⟩) w := by
  by_cases hv : v = .slice none 0 0
  · subst hv
    have h0 : (ub m).length = 0 := by
      obtain ⟨_, ⟨_, hn⟩ | ⟨g, c, cur, e, _⟩⟩ := h
      · exact hn
      · cases e
    rw [ub_len] at h0
    obtain rfl := List.eq_nil_of_length_eq_zero h0
    exact run_convert_bytes_nil (P := Tryd.prog) w 23 5 Tryd.underlying23 Tryd.underlying5 0 0 9 Tryd.underlying9
  · obtain ⟨g, c, rfl, _, hr, _⟩ := RowAt.of_owns h hv
    have hcv := run_convert_bytes_arg (P := Tryd.prog) w 23 5 Tryd.underlying23 Tryd.underlying5 g 0 (ub m).length c (ub m) rfl (fun j hj => by rw [Nat.zero_add]; exact hr.get hj) 9 Tryd.underlying9
    rw [strOf_ub] at hcv
    exact hcv
set_option maxRecDepth 20000 in
set_option maxHeartbeats 4000000 in
theorem meant_ok (s : ByteArray) (m : List UInt8) (hs : s.size ≤ 100000000) (h : mnt s.data.toList = some m) (w : World) :
    Calls Tryd.prog 31 #[.string s] w fun e w' => e = .returned (.tuple #[.string ⟨m.toArray⟩, .bool true]) ∧ Below w.heap.size w w' := by
  have hf := firstByte_ok
  have Hs := Hid.mk (And.intro hs h)
  clear hs h
  go_enter Tryd.func31, Tryd.ntmps31
  go_wp2
  go_loopw [0, 4] (fun tv v wr => ∃ (l m1 m2 : List UInt8), tv = .string ⟨l.toArray⟩ ∧ Own wr w.heap.size v (ub m1) ∧ mnt l = some m2 ∧ m = m1 ++ m2 ∧ m1.length + l.length ≤ s.size ∧ Below w.heap.size w wr) (fun tv _ _ => strLen tv)
  case atStart => exact ⟨s.data.toList, [], m, rfl, Own.nil _ _, Hs.out.2, rfl, by simp, Below.refl _ _⟩
  case round =>
    obtain ⟨l, m1, m2, rfl, hown, hm, hmm, hlen, hbr⟩ := hrel
    have hz := hbr.size
    by_cases hl : l = []
    · subst hl
      have e2 : m2 = [] := by rw [mnt_nil] at hm; exact (Option.some.inj hm).symm
      subst e2
      rw [List.append_nil] at hmm
      subst hmm
      have hcv := conv_own hown
      have HB := Hid.mk hbr
      clear hown hbr hf
      go_wp2
      go_ret2
      exact ⟨rfl, HB.out⟩
    · have e0 : (l = []) = False := eq_false hl
      have e1 : l.isEmpty = false := by
        cases l with
        | nil => exact absurd rfl hl
        | cons => rfl
      cases ho : oneB l with
      | none => rw [mnt_no hl ho] at hm; cases hm
      | some q =>
        obtain ⟨d, r⟩ := q
        have hf1 := hf ⟨l.toArray⟩ d r ho
        have hlt := oneB_lt ho
        rw [mnt_one ho] at hm
        cases hr : mnt r with
        | none => rw [hr] at hm; cases hm
        | some m3 =>
          rw [hr] at hm
          have hm' : d :: m3 = m2 := Option.some.inj hm
          have Hown := Hid.mk hown
          have HB := Hid.mk hbr
          have HM := Hid.mk (And.intro hm' (And.intro hmm (And.intro hlen (And.intro hlt hr))))
          clear hown hbr hm' hmm hlen hlt hr hm ho hf
          go_wp2_with fail
          refine (hf1 _).mono ?_
          rintro e w1 ⟨rfl, hb1⟩
          have HO1 := Hid.mk (Hown.out.later hb1)
          have HB1 := Hid.mk (HB.out.trans (hb1.mono hz))
          have hz1 := hb1.size
          clear hb1 Hown HB hf1
          have hle1 : (ub m1).length ≤ 140737488355327 := by
            have h1 := HM.out.2.2.1
            have h2 := Hs.out.1
            rw [ub_len]
            omega
          go_wp2_with (at_builtin; refine wpList_app1 rfl (.tmp 18) (.tmp 20) rfl w.heap.size u4 (ub m1) (d.toNat : Int) rfl rfl HO1.out hle1 (by omega) ?_)
          intro v2 w2 hown2 hb2
          have HO2 := Hid.mk hown2
          have HB2 := Hid.mk (HB1.out.trans hb2)
          clear hown2 hb2 HO1 HB1
          go_wp2
          go_roundw
          case rel =>
            refine ⟨r, m1 ++ [d], m3, rfl, ?_, HM.out.2.2.2.2, ?_, ?_, HB2.out⟩
            · rw [ub_app]
              exact HO2.out
            · rw [HM.out.2.1, ← HM.out.1]
              simp
            · have h1 := HM.out.2.2.1
              have h2 := HM.out.2.2.2.1
              simp only [List.length_append, List.length_cons, List.length_nil]
              omega
          case measure =>
            have h2 := HM.out.2.2.2.1
            simp [strLen, ByteArray.size]
            omega
end Go.Proofs.YtalokopnagpgcaaDoor
