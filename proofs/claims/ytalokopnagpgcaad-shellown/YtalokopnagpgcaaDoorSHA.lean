import Derived.Test.YtalokopnagpgcaaDoorSH9
namespace Go.Proofs.YtalokopnagpgcaaDoor
open Go.RowKit Go.Maps

theorem clos_lt : ∀ {l : List UInt8} {b : Bool} {k : Nat}, clos b l = some k → k < l.length
  | [], b, k, h => by cases b <;> cases h
  | c :: t, true, k, h => by
    rw [clos] at h
    cases hc : clos false t with
    | none => rw [hc] at h; cases h
    | some j =>
      rw [hc] at h
      have := clos_lt hc
      have e : j + 1 = k := Option.some.inj h
      simp only [List.length_cons]
      omega
  | c :: t, false, k, h => by
    rw [clos] at h
    split at h
    · cases hc : clos true t with
      | none => rw [hc] at h; cases h
      | some j =>
        rw [hc] at h
        have := clos_lt hc
        have e : j + 1 = k := Option.some.inj h
        simp only [List.length_cons]
        omega
    · split at h
      · have e : 0 = k := Option.some.inj h
        simp only [List.length_cons]
        omega
      · cases hc : clos false t with
        | none => rw [hc] at h; cases h
        | some j =>
          rw [hc] at h
          have := clos_lt hc
          have e : j + 1 = k := Option.some.inj h
          simp only [List.length_cons]
          omega

/-- Whether a word may end ahead of this. -/
def endsB : List UInt8 → Bool
  | [] => true
  | c :: _ => blank c
theorem unb_same {r : List UInt8} (h0 : r ≠ []) : (unb r = r) ↔ endsB r = false := by
  match r, h0 with
  | c :: t, _ =>
    unfold unb
    rw [List.dropWhile_cons]
    show _ ↔ blank c = false
    cases hc : blank c with
    | false => simp
    | true =>
      simp only [if_true, Bool.true_eq_false, iff_false]
      intro e
      have h1 := (List.dropWhile_sublist (p := blank) (l := t)).length_le
      rw [e] at h1
      simp only [List.length_cons] at h1
      omega
/-- A quoted word (its first quote is off) and what follows. -/
def qtd (l : List UInt8) : Option (List UInt8 × List UInt8) := match clos false l with
  | none => none
  | some e => if endsB (l.drop (e + 1)) then (mnt (l.take e)).map (fun m => (m, l.drop (e + 1))) else none
set_option maxRecDepth 20000 in
set_option maxHeartbeats 4000000 in
theorem quoted_ok (s : ByteArray) (m r : List UInt8) (hs : s.size ≤ 100000000) (h : qtd s.data.toList = some (m, r)) (w : World) :
    Calls Tryd.prog 19 #[.string s] w fun e w' => e = .returned (.tuple #[.string ⟨m.toArray⟩, .string ⟨r.toArray⟩, .bool true]) ∧ Below w.heap.size w w' := by
  have hcl := closing_any s w hs
  cases hk : clos false s.data.toList with
  | none => simp [qtd, hk] at h
  | some k =>
    have hlt := clos_lt hk
    rw [len_size] at hlt
    rw [hk, show closV (some k) = (k : Int) from rfl] at hcl
    simp only [qtd, hk] at h
    split at h
    · rename_i hend
      cases hm : mnt (s.data.toList.take k) with
      | none => rw [hm] at h; cases h
      | some m' =>
        rw [hm] at h
        simp only [Option.map_some, Option.some.injEq, Prod.mk.injEq] at h
        obtain ⟨rfl, hr⟩ := h
        have e1 := ext_to s (k + 1)
        rw [hr] at e1 hend
        have e2 := ext_from s k
        have hme := meant_ok ⟨(s.data.toList.take k).toArray⟩ m' (by show (s.data.toList.take k).toArray.size ≤ _; rw [List.size_toArray, List.length_take, len_size]; omega) hm
        have hw64 : wrap64 ((k : Int) + 1) = ((k + 1 : Nat) : Int) := by
          simp [wrap64]
          omega
        have hub := unblanked_any ⟨r.toArray⟩
        have l1 : ¬ ((k : Int) < 0) := by omega
        have l2 : ((k + 1 : Nat) : Int) ≤ (s.size : Int) := by omega
        have l3 : (k : Int) ≤ (s.size : Int) := by omega
        have HE := Hid.mk (And.intro hend hlt)
        clear hm hend hk hr hs hlt
        generalize s.data.toList.take k = tk at *
        go_enter Tryd.func19, Tryd.ntmps19
        go_wp2_with fail
        refine hcl.mono ?_
        rintro e w1 ⟨rfl, hb1⟩
        have HB1 := Hid.mk hb1
        have hz1 := hb1.size
        clear hb1 hcl
        by_cases hr0 : r = []
        · subst hr0
          go_wp2_with fail
          refine (hme _).mono ?_
          rintro e w2 ⟨rfl, hb2⟩
          have HB2 := Hid.mk (HB1.out.trans (hb2.mono hz1))
          clear hb2 hme
          go_wp2
          go_ret3
          exact ⟨rfl, HB2.out⟩
        · have hne : ¬ (unb r = r) := by
            rw [unb_same hr0, HE.out.1]
            simp
          have e0 : (r = []) = False := eq_false hr0
          have e1' : r.isEmpty = false := by
            cases r with
            | nil => exact absurd rfl hr0
            | cons => rfl
          have e3 : (r == unb r) = false := by
            rw [beq_eq_false_iff_ne]
            exact fun e => hne e.symm
          have e4 : (r = unb r) = False := eq_false (fun e => hne e.symm)
          go_wp2_with fail
          refine (hub _).mono ?_
          rintro e w2 ⟨rfl, hb2⟩
          have HB2 := Hid.mk (HB1.out.trans (hb2.mono hz1))
          have hz2 := hb2.size
          clear hb2 hub
          go_wp2_with fail
          refine (hme _).mono ?_
          rintro e w3 ⟨rfl, hb3⟩
          have HB3 := Hid.mk (HB2.out.trans (hb3.mono (by omega)))
          clear hb3 hme
          go_wp2
          go_ret3
          exact ⟨rfl, HB3.out⟩
    · cases h
set_option maxRecDepth 20000 in
theorem first_q (s : ByteArray) (t m r : List UInt8) (hs : s.size ≤ 100000000) (hl : s.data.toList = 34 :: t) (h : qtd t = some (m, r)) (w : World) :
    Calls Tryd.prog 15 #[.string s] w fun e w' => e = .returned (.tuple #[.string ⟨m.toArray⟩, .string ⟨r.toArray⟩, .bool true]) ∧ Below w.heap.size w w' := by
  have hsz : s.size = t.length + 1 := by rw [← len_size, hl]; simp
  have g0 : ∀ h', ((s[0]'h').toNat : Int) = 34 := get_at (s := s) (i := 0) (c := 34) (by rw [hl]; rfl)
  have e1 := ext_to s 1
  rw [hl] at e1
  simp only [List.drop_succ_cons, List.drop_zero] at e1
  have l0 : (0 : Int) < (s.size : Int) := by omega
  have l1 : (1 : Int) ≤ (s.size : Int) := by omega
  have hq := quoted_ok ⟨t.toArray⟩ m r (by show t.toArray.size ≤ _; rw [List.size_toArray]; omega) h
  clear hsz hl hs h
  go_enter Tryd.func15, Tryd.ntmps15
  go_wp2_with fail
  refine (hq _).mono ?_
  rintro e w1 ⟨rfl, hb1⟩
  have HB := Hid.mk hb1
  clear hb1 hq
  go_wp2
  go_ret3
  exact ⟨rfl, HB.out⟩

/-- A line of quoted words, and these words. -/
inductive WdsQ : List UInt8 → List (List UInt8) → Prop
  | done {l : List UInt8} : unb l = [] → WdsQ l []
  | note {l t : List UInt8} : unb l = 35 :: t → WdsQ l []
  | step {l t m r : List UInt8} {ws : List (List UInt8)} : unb l = 34 :: t → qtd t = some (m, r) → WdsQ r ws → WdsQ l (m :: ws)
theorem qtd_lt {t m r : List UInt8} (h : qtd t = some (m, r)) : r.length < t.length := by
  cases hk : clos false t with
  | none => simp [qtd, hk] at h
  | some k =>
    have hlt := clos_lt hk
    simp only [qtd, hk] at h
    split at h
    · cases hm : mnt (t.take k) with
      | none => rw [hm] at h; cases h
      | some m' =>
        rw [hm] at h
        simp only [Option.map_some, Option.some.injEq, Prod.mk.injEq] at h
        rw [← h.2, List.length_drop]
        omega
    · cases h
theorem unb_le (l : List UInt8) : (unb l).length ≤ l.length := (List.dropWhile_sublist (p := blank) (l := l)).length_le
end Go.Proofs.YtalokopnagpgcaaDoor
