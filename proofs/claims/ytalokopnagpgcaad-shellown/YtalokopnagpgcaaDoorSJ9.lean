import Derived.Test.YtalokopnagpgcaaDoorSJ8
namespace Go.Proofs.YtalokopnagpgcaaDoor
open Go.RowKit Go.Maps

theorem qtd_pre {pre t : List UInt8} {c : UInt8} (hclos : clos false (pre ++ t) = (clos false t).map (· + pre.length)) (hone : ∀ u, oneB (pre ++ u) = some (c, u)) :
    qtd (pre ++ t) = (qtd t).map (fun mr => (c :: mr.1, mr.2)) := by
  unfold qtd
  rw [hclos]
  cases hk : clos false t with
  | none => rfl
  | some k =>
    have e1 : (pre ++ t).drop (k + pre.length + 1) = t.drop (k + 1) := by
      rw [show k + pre.length + 1 = pre.length + (k + 1) by omega, ← List.drop_drop, List.drop_left]
    have e2 : (pre ++ t).take (k + pre.length) = pre ++ t.take k := by
      rw [Nat.add_comm, List.take_add, List.take_left, List.drop_left]
    simp only [Option.map_some, e1, e2, mnt_one (hone _)]
    split
    · cases mnt (t.take k) <;> rfl
    · rfl
theorem qtd_bad {pre t : List UInt8} (h0 : pre ≠ []) (hclos : clos false (pre ++ t) = (clos false t).map (· + pre.length)) (hone : ∀ k, oneB (pre ++ t.take k) = none) : qtd (pre ++ t) = none := by
  unfold qtd
  rw [hclos]
  cases hk : clos false t with
  | none => rfl
  | some k =>
    have e2 : (pre ++ t).take (k + pre.length) = pre ++ t.take k := by
      rw [Nat.add_comm, List.take_add, List.take_left, List.drop_left]
    simp only [Option.map_some, e2, mnt_no (by simp [h0]) (hone k)]
    split <;> rfl
theorem clos_one {c : UInt8} {t : List UInt8} (h1 : c ≠ 92) (h2 : c ≠ 34) : clos false ([c] ++ t) = (clos false t).map (· + [c].length) := by
  rw [List.singleton_append, clos, if_neg h1, if_neg h2]
  rfl
theorem clos_esc {d : UInt8} {t : List UInt8} : clos false ([92, d] ++ t) = (clos false t).map (· + [92, d].length) := by
  show clos false (92 :: d :: t) = _
  rw [clos, if_pos rfl, clos, Option.map_map]
  congr 1
theorem hexN_ne {a : UInt8} {x : Nat} (h : hexN a.toNat = some x) : a ≠ 92 ∧ a ≠ 34 := by
  constructor
  · intro e
    subst e
    rw [show hexN (UInt8.toNat 92) = none by decide] at h
    cases h
  · intro e
    subst e
    rw [show hexN (UInt8.toNat 34) = none by decide] at h
    cases h
theorem clos_hex {a b : UInt8} {t : List UInt8} (ha : a ≠ 92 ∧ a ≠ 34) (hb : b ≠ 92 ∧ b ≠ 34) : clos false ([92, 120, a, b] ++ t) = (clos false t).map (· + [92, 120, a, b].length) := by
  show clos false (92 :: 120 :: a :: b :: t) = _
  rw [clos, if_pos rfl, clos, clos, if_neg ha.1, if_neg ha.2, clos, if_neg hb.1, if_neg hb.2, Option.map_map, Option.map_map, Option.map_map]
  congr 1
theorem hexR_take {t : List UInt8} (h : hexR t = none) (k : Nat) : hexR (t.take k) = none := by
  match t, k with
  | [], _ => simp [hexR]
  | [a], 0 => rfl
  | [a], k + 1 => simp [hexR]
  | a :: b :: r, 0 => rfl
  | a :: b :: r, 1 => rfl
  | a :: b :: r, k + 2 =>
    simp only [List.take_succ_cons]
    simp only [hexR] at h ⊢
    split at h
    · cases h
    · rfl

/-- What the reader answers from a state on. -/
def MS (s : RS) (l : List UInt8) : List (List UInt8) × Int := finS (runS l s)
theorem MS_nil (s : RS) : MS s [] = finS s := rfl
theorem MS_cons {s : RS} (hb : s.bad = false) (c : UInt8) (t : List UInt8) : MS s (c :: t) = MS (s.next c) t := by
  unfold MS
  rw [runS, hb]
  rfl
theorem MS_bad {s : RS} (hb : s.bad = true) (l : List UInt8) : MS s l = ([], 160) := by
  unfold MS
  have : runS l s = s := by
    cases l with
    | nil => rfl
    | cons c t => rw [runS, hb]; rfl
  rw [this]
  simp [finS, hb]
/-- Between words. -/
abbrev btw (ws : List (List UInt8)) (d : Int) : RS := ⟨0, [], ws, d, false⟩
theorem MS_note (wd : List UInt8) (ws : List (List UInt8)) (d : Int) (l : List UInt8) : MS ⟨7, wd, ws, d, false⟩ l = (ws, 0) := by
  induction l with
  | nil => rfl
  | cons c t ih =>
    rw [MS_cons rfl]
    exact ih
theorem btw_blank {c : UInt8} (hc : blank c = true) (ws : List (List UInt8)) (d : Int) (t : List UInt8) : MS (btw ws d) (c :: t) = MS (btw ws d) t := by
  rw [MS_cons rfl]
  have : (btw ws d).next c = btw ws d := by
    simp [RS.next, RS.first, hc, btw]
  rw [this]
theorem bar_cons {c : UInt8} {t : List UInt8} (hb : blank c = false) (hp : plainB c = true) : bar (c :: t) = (bar t).map (fun mr => (c :: mr.1, mr.2)) := by
  unfold bar
  simp only [List.takeWhile_cons, List.dropWhile_cons, hb, Bool.not_false, if_true, List.all_cons, hp, Bool.true_and]
  split <;> rfl
theorem MS_bare (t : List UInt8) : ∀ (wd : List UInt8) (ws : List (List UInt8)) (d : Int), MS ⟨1, wd, ws, d, false⟩ t = (match bar t with
    | none => ([], 160)
    | some (q, r) => MS (btw (ws ++ [wd ++ q]) d) r) := by
  induction t with
  | nil =>
    intro wd ws d
    have : bar [] = some ([], []) := rfl
    rw [this]
    simp [MS_nil, finS, RS.ends1, RS.ends, btw]
  | cons c t ih =>
    intro wd ws d
    rw [MS_cons rfl]
    cases hb : blank c with
    | true =>
      have h1 : bar (c :: t) = some ([], c :: t) := bar_at (p := []) (r := c :: t) (fun x hx => by cases hx) hb
      have h2 : (RS.mk 1 wd ws d false).next c = btw (ws ++ [wd]) d := by simp [RS.next, RS.ends, hb, btw]
      rw [h1, h2]
      simp only [List.append_nil]
      rw [btw_blank hb]
    | false =>
      cases hp : plainB c with
      | false =>
        have h1 : bar (c :: t) = none := bar_no (p := []) (fun x hx => by cases hx) hb hp
        have h2 : ((RS.mk 1 wd ws d false).next c).bad = true := by simp [RS.next, RS.plain, hb, hp]
        rw [h1, MS_bad h2]
      | true =>
        have h2 : (RS.mk 1 wd ws d false).next c = ⟨1, wd ++ [c], ws, d, false⟩ := by simp [RS.next, RS.plain, hb, hp]
        rw [h2, ih, bar_cons hb hp]
        cases bar t with
        | none => rfl
        | some mr => simp
theorem MS_quoted : ∀ (n : Nat) (l : List UInt8), l.length ≤ n → ∀ (wd : List UInt8) (ws : List (List UInt8)) (d : Int), ∃ d', MS ⟨2, wd, ws, d, false⟩ l = (match qtd l with
    | none => ([], 160)
    | some (q, r) => MS (btw (ws ++ [wd ++ q]) d') r) := by
  intro n
  induction n with
  | zero =>
    intro l hl wd ws d
    obtain rfl := List.eq_nil_of_length_eq_zero (by omega : l.length = 0)
    exact ⟨d, rfl⟩
  | succ n ih =>
    intro l hl wd ws d
    match l, hl with
    | [], _ => exact ⟨d, rfl⟩
    | c :: t, hl =>
      simp only [List.length_cons] at hl
      rw [MS_cons rfl]
      by_cases h34 : c = 34
      · subst h34
        have h1 : (RS.mk 2 wd ws d false).next 34 = ⟨6, [], ws ++ [wd], d, false⟩ := by simp [RS.next, RS.inside, RS.ends]
        have h2 : qtd (34 :: t) = if endsB t then some ([], t) else none := by
          unfold qtd
          rw [clos, if_neg (by decide), if_pos rfl]
          simp [mnt_nil]
        refine ⟨d, ?_⟩
        rw [h1, h2]
        cases t with
        | nil => simp [endsB, MS_nil, finS, RS.ends1]
        | cons b r =>
          rw [MS_cons rfl]
          cases hb : blank b with
          | true =>
            have h3 : (RS.mk 6 [] (ws ++ [wd]) d false).next b = btw (ws ++ [wd]) d := by simp [RS.next, hb, btw]
            rw [h3, show endsB (b :: r) = true from hb]
            simp only [if_true, List.append_nil]
            rw [btw_blank hb]
          | false =>
            have h3 : ((RS.mk 6 [] (ws ++ [wd]) d false).next b).bad = true := by simp [RS.next, hb]
            rw [MS_bad h3, show endsB (b :: r) = false from hb]
            rfl
      · by_cases h92 : c = 92
        · subst h92
          have h1 : (RS.mk 2 wd ws d false).next 92 = ⟨3, wd, ws, d, false⟩ := by simp [RS.next, RS.inside]
          rw [h1]
          match t, hl with
          | [], _ => exact ⟨d, rfl⟩
          | e :: r, hl =>
            simp only [List.length_cons] at hl
            rw [MS_cons rfl]
            have step : ∀ (x : UInt8), (RS.mk 3 wd ws d false).next e = ⟨2, wd ++ [x], ws, d, false⟩ → (∀ u, oneB ([92, e] ++ u) = some (x, u)) → ∃ d', MS ((RS.mk 3 wd ws d false).next e) r = (match qtd (92 :: e :: r) with
                | none => ([], 160)
                | some (q, r) => MS (btw (ws ++ [wd ++ q]) d') r) := by
              intro x hx hone
              obtain ⟨d', hd'⟩ := ih r (by omega) (wd ++ [x]) ws d
              refine ⟨d', ?_⟩
              rw [hx, hd', show (92 :: e :: r) = [92, e] ++ r from rfl, qtd_pre clos_esc hone]
              cases qtd r with
              | none => rfl
              | some mr => simp
            rcases (show e = 92 ∨ e = 34 ∨ e = 110 ∨ e = 116 ∨ e = 120 ∨ (e ≠ 92 ∧ e ≠ 34 ∧ e ≠ 110 ∧ e ≠ 116 ∧ e ≠ 120) by by_cases h1 : e = 92 <;> by_cases h2 : e = 34 <;> by_cases h3 : e = 110 <;> by_cases h4 : e = 116 <;> by_cases h5 : e = 120 <;> simp [*]) with rfl | rfl | rfl | rfl | rfl | ⟨n1, n2, n3, n4, n5⟩
            · exact step 92 (by simp [RS.next, RS.escaped]) (fun u => rfl)
            · exact step 34 (by simp [RS.next, RS.escaped]) (fun u => rfl)
            · exact step 10 (by simp [RS.next, RS.escaped]) (fun u => rfl)
            · exact step 9 (by simp [RS.next, RS.escaped]) (fun u => rfl)
            · have h3 : (RS.mk 3 wd ws d false).next 120 = ⟨4, wd, ws, d, false⟩ := by simp [RS.next, RS.escaped]
              rw [h3]
              have hno : hexR r = none → qtd (92 :: 120 :: r) = none := fun hr => qtd_bad (pre := [92, 120]) (by simp) clos_esc (fun k => by show hexR (r.take k) = none; exact hexR_take hr k)
              match r, hl, hno with
              | [], _, hno =>
                refine ⟨d, ?_⟩
                rw [hno rfl]
                rfl
              | a :: r1, hl, hno =>
                simp only [List.length_cons] at hl
                rw [MS_cons rfl]
                cases ha : hexN a.toNat with
                | none =>
                  have h4 : ((RS.mk 4 wd ws d false).next a).bad = true := by simp [RS.next, hexI, ha]
                  refine ⟨d, ?_⟩
                  rw [MS_bad h4, hno (by cases r1 <;> simp [hexR, ha])]
                | some x =>
                  have h4 : (RS.mk 4 wd ws d false).next a = ⟨5, wd, ws, (x : Int), false⟩ := by simp [RS.next, hexI, ha]
                  rw [h4]
                  match r1, hl, hno with
                  | [], _, hno =>
                    refine ⟨d, ?_⟩
                    rw [hno rfl]
                    rfl
                  | b :: r2, hl, hno =>
                    simp only [List.length_cons] at hl
                    rw [MS_cons rfl]
                    cases hb : hexN b.toNat with
                    | none =>
                      have h5 : ((RS.mk 5 wd ws (x : Int) false).next b).bad = true := by simp [RS.next, hexI, hb]
                      refine ⟨d, ?_⟩
                      rw [MS_bad h5, hno (by simp [hexR, ha, hb])]
                    | some y =>
                      have h5 : (RS.mk 5 wd ws (x : Int) false).next b = ⟨2, wd ++ [UInt8.ofNat (16 * x + y)], ws, (x : Int), false⟩ := by
                        have e1 : ¬ ((y : Int) < 0) := by omega
                        have e2 : (16 * (x : Int) + (y : Int)).toNat = 16 * x + y := by omega
                        simp [RS.next, hexI, hb, e2]
                      obtain ⟨d', hd'⟩ := ih r2 (by omega) (wd ++ [UInt8.ofNat (16 * x + y)]) ws (x : Int)
                      refine ⟨d', ?_⟩
                      rw [h5, hd', show (92 :: 120 :: a :: b :: r2) = [92, 120, a, b] ++ r2 from rfl, qtd_pre (c := UInt8.ofNat (16 * x + y)) (clos_hex (hexN_ne ha) (hexN_ne hb)) (fun u => by show hexR (a :: b :: u) = _; simp only [hexR, ha, hb])]
                      cases qtd r2 with
                      | none => rfl
                      | some mr => simp
            · have h3 : ((RS.mk 3 wd ws d false).next e).bad = true := by simp [RS.next, RS.escaped, n1, n2, n3, n4, n5]
              refine ⟨d, ?_⟩
              rw [MS_bad h3, show (92 :: e :: r) = [92, e] ++ r from rfl, qtd_bad (by simp) clos_esc (fun k => by
                show oneB (92 :: e :: r.take k) = none
                have hp : plainB 92 = false := rfl
                simp [oneB, hp, n1, n2, n3, n4, n5])]
        · cases hp : plainB c with
          | true =>
            have h1 : (RS.mk 2 wd ws d false).next c = ⟨2, wd ++ [c], ws, d, false⟩ := by simp [RS.next, RS.inside, h34, h92, hp]
            obtain ⟨d', hd'⟩ := ih t (by omega) (wd ++ [c]) ws d
            refine ⟨d', ?_⟩
            rw [h1, hd', show (c :: t) = [c] ++ t from rfl, qtd_pre (c := c) (clos_one h92 h34) (fun u => by simp [oneB, hp])]
            cases qtd t with
            | none => rfl
            | some mr => simp
          | false =>
            have h1 : ((RS.mk 2 wd ws d false).next c).bad = true := by simp [RS.next, RS.inside, h34, h92, hp]
            refine ⟨d, ?_⟩
            rw [MS_bad h1, show (c :: t) = [c] ++ t from rfl, qtd_bad (by simp) (clos_one h92 h34) (fun k => by simp [oneB, hp, h92])]
theorem wds_same {l l' : List UInt8} (h : unb l = unb l') : wds l = wds l' := by
  match hu : unb l' with
  | [] => rw [wds_end (h.trans hu), wds_end hu]
  | c :: t =>
    by_cases h35 : c = 35
    · subst h35
      rw [wds_note (h.trans hu), wds_note hu]
    · cases hf : frst (c :: t) with
      | none => rw [wds_no (h.trans hu) h35 hf, wds_no hu h35 hf]
      | some mr => rw [wds_step (h.trans hu) h35 hf, wds_step hu h35 hf]
theorem MS_btw : ∀ (n : Nat) (l : List UInt8), l.length ≤ n → ∀ (ws : List (List UInt8)) (d : Int), MS (btw ws d) l = ansO ((wds l).map (fun x => ws ++ x)) := by
  intro n
  induction n with
  | zero =>
    intro l hl ws d
    obtain rfl := List.eq_nil_of_length_eq_zero (by omega : l.length = 0)
    rw [wds_end rfl]
    simp [MS_nil, finS, RS.ends1, ansO]
  | succ n ih =>
    intro l hl ws d
    match l, hl with
    | [], _ =>
      rw [wds_end rfl]
      simp [MS_nil, finS, RS.ends1, ansO]
    | c :: t, hl =>
      simp only [List.length_cons] at hl
      cases hb : blank c with
      | true =>
        rw [btw_blank hb, ih t (by omega)]
        rw [wds_same (l := c :: t) (l' := t) (by unfold unb; rw [List.dropWhile_cons, hb]; rfl)]
      | false =>
        have hu : unb (c :: t) = c :: t := by unfold unb; rw [List.dropWhile_cons, hb]; rfl
        rw [MS_cons rfl]
        by_cases h35 : c = 35
        · subst h35
          have h1 : (btw ws d).next 35 = ⟨7, [], ws, d, false⟩ := by simp [RS.next, RS.first, hb]
          rw [h1, MS_note, wds_note hu]
          simp [ansO]
        · by_cases h34 : c = 34
          · subst h34
            have h1 : (btw ws d).next 34 = ⟨2, [], ws, d, false⟩ := by simp [RS.next, RS.first, hb]
            obtain ⟨d', hd'⟩ := MS_quoted t.length t (Nat.le_refl _) [] ws d
            rw [h1, hd']
            cases hq : qtd t with
            | none =>
              rw [wds_no hu h35 (by simp only [frst, if_true, hq])]
              rfl
            | some mr =>
              obtain ⟨m, r⟩ := mr
              have hlt := qtd_lt hq
              rw [wds_step hu h35 (by simp only [frst, if_true, hq] : frst (34 :: t) = some (m, r))]
              simp only [List.nil_append]
              rw [ih r (by omega), map_app]
          · have hfr : frst (c :: t) = bar (c :: t) := by simp only [frst, if_neg h34]
            cases hp : plainB c with
            | false =>
              have h1 : ((btw ws d).next c).bad = true := by simp [RS.next, RS.first, RS.plain, hb, h35, h34, hp]
              rw [MS_bad h1, wds_no hu h35 (by rw [hfr]; exact bar_no (p := []) (fun x hx => by cases hx) hb hp)]
              rfl
            | true =>
              have h1 : (btw ws d).next c = ⟨1, [c], ws, d, false⟩ := by simp [RS.next, RS.first, RS.plain, hb, h35, h34, hp]
              rw [h1, MS_bare]
              rw [bar_cons hb hp] at hfr
              cases hbt : bar t with
              | none =>
                rw [hbt] at hfr
                rw [wds_no hu h35 hfr]
                rfl
              | some mr =>
                obtain ⟨q, r⟩ := mr
                rw [hbt] at hfr
                have hfr' : frst (c :: t) = some (c :: q, r) := hfr
                have hlt := frst_lt hb hfr'
                simp only [List.length_cons] at hlt
                rw [wds_step hu h35 hfr']
                simp only [List.singleton_append]
                rw [ih r (by omega), map_app]
theorem ans_same (l : List UInt8) : ansR l = ansW l := by
  unfold ansR ansW
  split
  · rfl
  · have h := MS_btw l.length l (Nat.le_refl _) [] 0
    have e : (wds l).map (fun x => [] ++ x) = wds l := by simp
    rw [e] at h
    exact h
end Go.Proofs.YtalokopnagpgcaaDoor
