import Derived.Test.YtalokopnagpgcaaDoorSI2
namespace Go.Proofs.YtalokopnagpgcaaDoor
open Go.RowKit Go.Maps

set_option maxRecDepth 20000 in
set_option maxHeartbeats 4000000 in
theorem meant_no (s : ByteArray) (hs : s.size ≤ 100000000) (h : mnt s.data.toList = none) (w : World) (he : EV w) :
    Calls Tryd.prog 31 #[.string s] w fun e w' => e = .returned (.tuple #[.string ⟨#[]⟩, .bool false]) ∧ Below w.heap.size w w' := by
  have hf := firstByte_ok
  have hfn := firstByte_no
  have HE := Hid.mk he
  clear he
  have Hs := Hid.mk (And.intro hs h)
  clear hs h
  go_enter Tryd.func31, Tryd.ntmps31
  go_wp2
  go_loopw [0, 4] (fun tv v wr => ∃ (l m1 : List UInt8), tv = .string ⟨l.toArray⟩ ∧ Own wr w.heap.size v (ub m1) ∧ mnt l = none ∧ m1.length + l.length ≤ s.size ∧ Below w.heap.size w wr) (fun tv _ _ => strLen tv)
  case atStart => exact ⟨s.data.toList, [], rfl, Own.nil _ _, Hs.out.2, by simp, Below.refl _ _⟩
  case round =>
    obtain ⟨l, m1, rfl, hown, hm, hlen, hbr⟩ := hrel
    have hz := hbr.size
    by_cases hl : l = []
    · subst hl
      rw [mnt_nil] at hm
      cases hm
    · have e0 : (l = []) = False := eq_false hl
      have e1 : l.isEmpty = false := by
        cases l with
        | nil => exact absurd rfl hl
        | cons => rfl
      cases ho : oneB l with
      | none =>
        have hn1 := hfn ⟨l.toArray⟩ hl ho wr (HE.out.later hbr)
        have HB := Hid.mk hbr
        clear hown hbr hf hfn
        go_wp2_with fail
        refine hn1.mono ?_
        rintro e w1 ⟨x9, r9, rfl, hb1⟩
        have HB1 := Hid.mk (HB.out.trans (hb1.mono hz))
        clear hb1 HB hn1
        go_wp2
        go_ret2
        exact ⟨rfl, HB1.out⟩
      | some q =>
        obtain ⟨d, r⟩ := q
        have hf1 := hf ⟨l.toArray⟩ d r ho
        have hlt := oneB_lt ho
        rw [mnt_one ho] at hm
        have hr : mnt r = none := by
          cases hr : mnt r with
          | none => rfl
          | some m3 => rw [hr] at hm; cases hm
        have Hown := Hid.mk hown
        have HB := Hid.mk hbr
        have HM := Hid.mk (And.intro hlen (And.intro hlt hr))
        clear hown hbr hlen hlt hr hm ho hf hfn
        go_wp2_with fail
        refine (hf1 _).mono ?_
        rintro e w1 ⟨rfl, hb1⟩
        have HO1 := Hid.mk (Hown.out.later hb1)
        have HB1 := Hid.mk (HB.out.trans (hb1.mono hz))
        have hz1 := hb1.size
        clear hb1 Hown HB hf1
        have hle1 : (ub m1).length ≤ 140737488355327 := by
          have h1 := HM.out.1
          have h2 := Hs.out.1
          rw [ub_len]
          omega
        go_wp2_with (at_builtin; refine wpList_app1 rfl (.tmp 18) (.tmp 20) rfl w.heap.size u4 (ub m1) (d.toNat : Int) rfl rfl HO1.out hle1 (by omega) ?_)
        intro v2 w2 hown2 hb2
        have HO2 := Hid.mk hown2
        have HB2 := Hid.mk (HB1.out.trans hb2)
        clear hown2 hb2 HO1 HB1
        go_wp2
        go_roundw
        case rel =>
          refine ⟨r, m1 ++ [d], rfl, ?_, HM.out.2.2, ?_, HB2.out⟩
          · rw [ub_app]
            exact HO2.out
          · have h1 := HM.out.1
            have h2 := HM.out.2.1
            simp only [List.length_append, List.length_cons, List.length_nil]
            omega
        case measure =>
          have h2 := HM.out.2.1
          simp [strLen, ByteArray.size]
          omega

set_option maxRecDepth 20000 in
set_option maxHeartbeats 4000000 in
theorem quoted_no (s : ByteArray) (hs : s.size ≤ 100000000) (h : qtd s.data.toList = none) (w : World) (he : EV w) :
    Calls Tryd.prog 19 #[.string s] w fun e w' => ∃ a b, e = .returned (.tuple #[.string a, .string b, .bool false]) ∧ Below w.heap.size w w' := by
  have hcl := closing_any s w hs
  cases hk : clos false s.data.toList with
  | none =>
    rw [hk, show closV none = (-1 : Int) from rfl] at hcl
    clear h hk he
    go_enter Tryd.func19, Tryd.ntmps19
    go_wp2_with fail
    refine hcl.mono ?_
    rintro e w1 ⟨rfl, hb1⟩
    have HB1 := Hid.mk hb1
    clear hb1 hcl
    go_wp2
    go_ret3
    exact ⟨_, _, rfl, HB1.out⟩
  | some k =>
    have hlt := clos_lt hk
    rw [len_size] at hlt
    rw [hk, show closV (some k) = (k : Int) from rfl] at hcl
    simp only [qtd, hk] at h
    obtain ⟨r, hr⟩ : ∃ r, s.data.toList.drop (k + 1) = r := ⟨_, rfl⟩
    have e1 := ext_to s (k + 1)
    have e2 := ext_from s k
    rw [hr] at e1 h
    have hw64 : wrap64 ((k : Int) + 1) = ((k + 1 : Nat) : Int) := by
      simp [wrap64]
      omega
    have hub := unblanked_any ⟨r.toArray⟩
    have l1 : ¬ ((k : Int) < 0) := by omega
    have l2 : ((k + 1 : Nat) : Int) ≤ (s.size : Int) := by omega
    have l3 : (k : Int) ≤ (s.size : Int) := by omega
    by_cases hend : endsB r = true
    · rw [if_pos hend] at h
      have hm : mnt (s.data.toList.take k) = none := by
        cases hm : mnt (s.data.toList.take k) with
        | none => rfl
        | some m' => rw [hm] at h; cases h
      have hme := meant_no ⟨(s.data.toList.take k).toArray⟩ (by show (s.data.toList.take k).toArray.size ≤ _; rw [List.size_toArray, List.length_take, len_size]; omega) hm
      have HE := Hid.mk (And.intro hend he)
      clear hm hend hk hr hs hlt h he
      generalize s.data.toList.take k = tk at *
      go_enter Tryd.func19, Tryd.ntmps19
      go_wp2_with fail
      refine hcl.mono ?_
      rintro e w1 ⟨rfl, hb1⟩
      have HB1 := Hid.mk hb1
      have hz1 := hb1.size
      have HV1 := Hid.mk (HE.out.2.later hb1)
      clear hb1 hcl
      by_cases hr0 : r = []
      · subst hr0
        have hm1 := hme w1 HV1.out
        go_wp2_with fail
        refine hm1.mono ?_
        rintro e w2 ⟨rfl, hb2⟩
        have HB2 := Hid.mk (HB1.out.trans (hb2.mono hz1))
        clear hb2 hme hm1
        go_wp2
        go_ret3
        exact ⟨_, _, rfl, HB2.out⟩
      · have hne : ¬ (unb r = r) := by
          rw [unb_same hr0, HE.out.1]
          simp
        have e0 : (r = []) = False := eq_false hr0
        have e1' : r.isEmpty = false := by
          cases r with
          | nil => exact absurd rfl hr0
          | cons => rfl
        have e3 : (r == unb r) = false := by
          rw [beq_eq_false_iff_ne]
          exact fun e => hne e.symm
        have e4 : (r = unb r) = False := eq_false (fun e => hne e.symm)
        go_wp2_with fail
        refine (hub _).mono ?_
        rintro e w2 ⟨rfl, hb2⟩
        have hm2 := hme w2 (HV1.out.later hb2)
        have HB2 := Hid.mk (HB1.out.trans (hb2.mono hz1))
        have hz2 := hb2.size
        clear hb2 hub hme
        go_wp2_with fail
        refine hm2.mono ?_
        rintro e w3 ⟨rfl, hb3⟩
        have HB3 := Hid.mk (HB2.out.trans (hb3.mono (by omega)))
        clear hb3 hm2
        go_wp2
        go_ret3
        exact ⟨_, _, rfl, HB3.out⟩
    · have hend' : endsB r = false := by simpa using hend
      have hr0 : r ≠ [] := fun e => by subst e; exact absurd hend' (by decide)
      have hsame : unb r = r := (unb_same hr0).2 hend'
      rw [show (⟨r.toArray⟩ : ByteArray).data.toList = r from rfl, hsame] at hub
      have e0 : (r = []) = False := eq_false hr0
      have e1' : r.isEmpty = false := by
        cases r with
        | nil => exact absurd rfl hr0
        | cons => rfl
      clear hk hr hs hlt h he hend hend' hsame hr0
      go_enter Tryd.func19, Tryd.ntmps19
      go_wp2_with fail
      refine hcl.mono ?_
      rintro e w1 ⟨rfl, hb1⟩
      have HB1 := Hid.mk hb1
      have hz1 := hb1.size
      clear hb1 hcl
      go_wp2_with fail
      refine (hub _).mono ?_
      rintro e w2 ⟨rfl, hb2⟩
      have HB2 := Hid.mk (HB1.out.trans (hb2.mono hz1))
      clear hb2 hub
      go_wp2
      go_ret3
      exact ⟨_, _, rfl, HB2.out⟩
end Go.Proofs.YtalokopnagpgcaaDoor
