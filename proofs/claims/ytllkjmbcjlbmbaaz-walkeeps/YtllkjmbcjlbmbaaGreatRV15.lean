import Derived.Test.YtllkjmbcjlbmbaaGreatRV14
namespace Go.Proofs.YtllkjmbcjlbmbaaGreat
open Go.RowKit

section
variable {S S' X : DS} {n N E T Em low j s f : Nat} {ds : List (List Int)} {L : LG} {d : List Int} {none : Bool}

theorem Laid.before (h : Laid S n E T ds low) (ho : Once S) {i : Nat} (hi : i < n) (he : (pcOf (S.now (2 + i))).e = E) : (pcOf (S.now (2 + i))).p < T + lenOf ds ∨ (pcOf (S.now (2 + i))).p < T := by
  by_cases hp : T ≤ (pcOf (S.now (2 + i))).p
  · obtain ⟨m, hm⟩ := h.now ho hi he hp
    have h1 := (pcsOf_at E _ _ _ _ hm).2
    have h2 := (List.getElem?_eq_some_iff.1 hm).1
    rw [pcsOf_len] at h2
    left
    omega
  · right; omega
theorem num_flat (h : Hold S 0 n N E) (hp : S.puts = []) : (snewest (S.now 0) (S.now (0 + 1))).2 = (N, [], 0) := by
  rw [now_flat hp, now_flat hp]
  exact h.old

/-- What Trim leaves. -/
theorem Alive.trim (h : Alive S L n j ds low) (hj : j ≤ 100000) (ok : (L.trim S (n + 2)).2.1.Ok (n + 2)) :
    (S.fuse = 0 ∧ L.trim S (n + 2) = (3, S, L)) ∨
    (S.fuse ≠ 0 ∧ (L.trim S (n + 2)).1 = 0 ∧ Alive (L.trim S (n + 2)).2.1 (L.trim S (n + 2)).2.2 n j [] 0) ∨
    (S.fuse ≠ 0 ∧ (L.trim S (n + 2)).1 = 3 ∧ (L.trim S (n + 2)).2.1.fuse = 0 ∧ (L.trim S (n + 2)).2.2 = L ∧ Inv (L.trim S (n + 2)).2.1 (n + 2) [L] (3 + 2 * j) ∧ (∃ N, Hold (L.trim S (n + 2)).2.1 0 n N (j + 2)) ∧ Fut (L.trim S (n + 2)).2.1 n ds low true) := by
  obtain ⟨n1, n2⟩ := h.nb
  have hi : Inv (L.trim S (n + 2)).2.1 (n + 2) [(L.trim S (n + 2)).2.2] (3 + 2 * j) := h.i.trim (i := 0) rfl ok
  have ee := h.e2
  have ho' : Hold S L.f L.n (L.ep * 4294967296 + L.tail) (j + 2) := by rw [h.f0, h.n']; exact h.ho
  have hH := ho'.trim (i := 0) h.i rfl h.e1 h.e2 (by omega)
  rw [h.f0, h.n'] at hH
  rcases h.sync with ⟨hf, hs⟩ | ⟨hf, h0, hA⟩
  · left
    refine ⟨hf, ?_⟩
    unfold LG.trim
    rw [hs, if_pos (by show (3 : Int) ≠ 0; omega)]
  · right
    have hL := (hA.i.at (i := 0) rfl).1
    have hb := hL.hb h.g
    have hth := hL.th
    have hhd := h.hd
    have hp : (L.sync S (n + 2)).2.puts = [] := by
      have := hA.la.fit
      have e : L.sync S (n + 2) = S.fl (n + 2) := by unfold LG.sync; rw [if_neg (by have := h.ready hf; omega)]
      rw [e] at h0 ⊢
      exact fl_zero h0
    unfold LG.trim at hi hH ⊢
    rw [if_neg (fun c => c h0)] at hi hH ⊢
    by_cases ht : L.tail = L.head
    · rw [if_pos ht] at hi hH ⊢
      left
      have hz : ds = [] := lenOf_zero h.la.sz (by omega)
      subst hz
      exact ⟨hf, rfl, hA⟩
    · rw [if_neg ht] at hi hH ⊢
      rw [h.f0] at hi hH ⊢
      have eN : ((L.ep : Int) * 4294967296 + (L.head : Int)) = ((L.ep * 4294967296 + L.head : Nat) : Int) := by omega
      rw [eN] at hi hH ⊢
      have hnum := num_flat hA.ho hp
      have hnum2 : (L.sync S (n + 2)).2.num 0 = L.ep * 4294967296 + L.tail := by unfold DS.num; rw [hnum]
      have e1 := h.e1
      have hM1 : 1 ≤ L.ep * 4294967296 + L.head := by omega
      have hM2 : L.ep * 4294967296 + L.head < 9223372036854775808 := by omega
      have hMg : Good (j + 2) (L.ep * 4294967296 + L.head) := ⟨by omega, by omega, by omega⟩
      obtain ⟨q1, q2⟩ := parts_of L.ep L.head (by omega)
      by_cases ha : (anew (L.sync S (n + 2)).2 (n + 2) 0 ((L.ep * 4294967296 + L.head : Nat) : Int)).1 = 0
      · left
        rw [if_neg (fun c => c ha)] at hi ⊢
        obtain ⟨w1, w2⟩ := anew_whole (s := n + 2) (f := 0) (N := L.ep * 4294967296 + L.head) hA.i.ok (by omega) hM1 hM2 (by rw [hnum2]; omega) ha
        have w3 := (anew_num (s := n + 2) (f := 0) (N := L.ep * 4294967296 + L.head) hA.i.ok (by omega) hM1 hM2 (by rw [hnum2]; omega) ha).2
        have w4 : (anew (L.sync S (n + 2)).2 (n + 2) 0 ((L.ep * 4294967296 + L.head : Nat) : Int)).2.life = (L.sync S (n + 2)).2.life := anew_life _ _ _ _
        refine ⟨hf, rfl, ⟨hi, rfl, h.n', h.g, ?_, h.e1, h.e2, ?_, Slots.nil w3 _ _, ⟨(fun d hd => by cases hd), Nat.zero_le _, Nat.le_refl _, fun i hi he hp => ?_, fun q hq => (by rw [w3] at hq; cases hq), fun m X hm => (by cases hm)⟩, rfl, fun m X hm => (by cases hm)⟩⟩
        · show L.life = _
          rw [w4]; exact hA.life
        · refine Hold.still w3 w1 hMg (fun i hi => ?_)
          rw [w2 _ (by omega) (by omega) (by omega)]
          have := hA.ho.ri i hi
          rw [← now_flat hp] at this
          exact this
        · exfalso
          simp only at he hp
          rw [← now_flat w3, w2 _ (by omega) (by omega) (by omega)] at he hp
          rcases hA.la.before hA.ho.once hi he with h3 | h3
          · omega
          · omega
      · right
        rw [if_pos ha] at hi hH ⊢
        have hro := renew_ok (now_len hA.i.ok 0 (by omega)) (now_len hA.i.ok (0 + 1) (by omega)) (N := L.ep * 4294967296 + L.head) hM1 (by rw [hnum]; show L.ep * 4294967296 + L.tail < _; omega)
        have hcode : (anew (L.sync S (n + 2)).2 (n + 2) 0 ((L.ep * 4294967296 + L.head : Nat) : Int)).1 = 3 := (anew_code (by omega) hro).resolve_left ha
        have hfu := (anew_err (by omega) hro ha).1
        refine ⟨hf, hcode, hfu, rfl, hi, hH, ?_⟩
        have hfut := anew_fut hA.i.ok (by omega) hp hnum hA.ho.gd (by omega) (M := L.ep * 4294967296 + L.head) (by omega) hMg (fun i hi he => by
          rw [q1] at he
          rw [q2]
          rcases hA.la.before hA.ho.once hi he with h3 | h3 <;> omega) (hA.fut hj false) ha
        exact hfut.lower h.la.lo

/-- A disk with a log where nothing pends: what is told of it. -/
structure Flat (X : DS) (n j : Nat) (ds : List (List Int)) (low : Nat) (none : Bool) : Prop where
  ok : X.Ok (n + 2)
  byt : X.Byt
  p : X.puts = []
  l0 : 0 ≤ X.life
  lt : X.life ≤ ((3 + 2 * j + 1 : Nat) : Int)
  ho : ∃ N, Hold X 0 n N (j + 2)
  fu : Fut X n ds low none

theorem rtop_ge {R : Nat → PC} : ∀ {n i : Nat}, i < n → (R i).e ≤ 1073741824 → (R i).e ≤ rtop R n
  | 0, i, hi, _ => by omega
  | n + 1, i, hi, he => by
    unfold rtop
    by_cases e : i = n
    · subst e
      rw [if_pos he]
      omega
    · have := rtop_ge (R := R) (n := n) (i := i) (by omega) he
      split <;> omega
/-- What Open tells may be told; and what it leaves. -/
theorem Flat.open (h : Flat X n j ds low none) (hj : j ≤ 100000) (h18 : 18 ≤ n) (h256 : n ≤ 256) (hf : X.fuse ≠ 0) :
    (lopen X (n + 2) ((0 : Nat) : Int) (n : Int)).1 = 0 ∧ (lopen X (n + 2) ((0 : Nat) : Int) (n : Int)).2.fuse = (if 0 < X.fuse then X.fuse - 1 else X.fuse) ∧ (lopen X (n + 2) ((0 : Nat) : Int) (n : Int)).2.life = X.life + 1 ∧
    ∀ rs hd, Tells (Rp (oRing X 0) n) (oNew X 0).1 (oNew X 0).2.1 rs hd → (∀ c d, ¬ Rec (Rp (oRing X 0) n) (oNew X 0).1 hd c d) → (lopen X (n + 2) ((0 : Nat) : Int) (n : Int)).2.Ok (n + 2) →
      ((none = true ∧ rs = []) ∨ (low ≤ rs.length ∧ rs.length ≤ ds.length ∧ rs = ds.take rs.length)) ∧
      Inv (lopen X (n + 2) ((0 : Nat) : Int) (n : Int)).2 (n + 2) [LG.opened X 0 n hd] (3 + 2 * (j + 1)) ∧
      Fut (lopen X (n + 2) ((0 : Nat) : Int) (n : Int)).2 n rs rs.length false ∧
      (∃ N, Hold (lopen X (n + 2) ((0 : Nat) : Int) (n : Int)).2 0 n N (j + 2)) ∧ (lopen X (n + 2) ((0 : Nat) : Int) (n : Int)).2.puts = [] ∧
      (LG.opened X 0 n hd).life = (lopen X (n + 2) ((0 : Nat) : Int) (n : Int)).2.life ∧ oTop X 0 n ≤ j + 2 ∧ ∀ i, i < n → (pcOf ((lopen X (n + 2) ((0 : Nat) : Int) (n : Int)).2.now (2 + i))).e ≤ oTop X 0 n := by
  obtain ⟨N, ho⟩ := h.ho
  have hnow : ∀ k, X.now k = dsec X.im k := now_flat h.p
  have hr0 : lrefuse X (n + 2) ((0 : Nat) : Int) (n : Int) = 0 := by
    unfold lrefuse
    rw [if_neg hf, if_neg (by omega), if_neg (by omega), if_neg (by omega)]
  obtain ⟨g1, g2, g3⟩ := ho.gd
  have hn : oNew X 0 = (N / 4294967296, N % 4294967296, 0) := by
    unfold oNew
    exact new_of (num_flat ho h.p) ho.gd (by omega)
  have hre : ∀ i, i < n → (oRing X 0 i).e ≤ j + 2 := fun i hi => by
    show (pcOf (X.now (0 + 2 + i))).e ≤ _
    rw [hnow]; exact ho.ri i hi
  have ht : oTop X 0 n ≤ j + 2 := by
    unfold oTop
    rw [hn]
    have := rtop_bound (R := oRing X 0) (E := j + 2) n hre
    show max (N / 4294967296) (rtop (oRing X 0) n) ≤ _
    omega
  have e1 : lopen X (n + 2) ((0 : Nat) : Int) (n : Int) = X.take.fl (n + 2) := by
    unfold lopen
    rw [if_neg (by omega), Int.toNat_natCast, Int.toNat_natCast, if_neg (by rw [hn]; show ¬ (0 : Nat) ≠ 0; omega), if_neg (by omega)]
  have hfT : X.take.fuse ≠ 0 := hf
  have h0 : (X.take.fl (n + 2)).1 = 0 := Decidable.byContradiction (fun e => hfT (fl_err e).2.1)
  have hokT : X.take.Ok (n + 2) := ⟨h.ok.len, h.ok.lo, h.ok.hi, h.ok.puts, h.ok.fuse⟩
  have hnw : ∀ k, k < n + 2 → (X.take.fl (n + 2)).2.now k = X.now k := fun k hk => fl_now (S := X.take) hokT hk
  have hlife := wrap_life h.l0 h.lt (by omega)
  have hl2 : (X.take.fl (n + 2)).2.life = X.life + 1 := (fl_life _ _).trans hlife
  have hI0 : Inv X (n + 2) [] (3 + 2 * j + 1) := Inv.zero h.ok h.byt (by rw [h.p]; rfl) h.l0 h.lt
  refine ⟨by rw [e1]; exact h0, ?_, by rw [e1]; exact hl2, fun rs hd htl hx hok => ?_⟩
  · rw [e1]
    unfold DS.fl
    rw [if_neg hfT]
    rfl
  · have hp2 : (X.take.fl (n + 2)).2.puts = [] := fl_zero h0
    have hring : Rp (oRing (X.take.fl (n + 2)).2 0) n = Rp (oRing X 0) n := by
      funext P
      have := Nat.mod_lt P (show 0 < n by omega)
      show pcOf ((X.take.fl (n + 2)).2.now (0 + 2 + P % n)) = pcOf (X.now (0 + 2 + P % n))
      rw [hnw _ (by omega)]
    have hne2 : oNew (X.take.fl (n + 2)).2 0 = oNew X 0 := by
      unfold oNew
      rw [hnw _ (by omega), hnw _ (by omega)]
    have hfl : Fut (X.take.fl (n + 2)).2 n rs rs.length false := by
      rw [e1] at hok
      exact Fut.flat hok (by omega) hp2 (hd := hd) (by rw [hring, hne2]; exact htl) (by rw [hring, hne2]; exact hx) false
    obtain ⟨f1, f2⟩ := told_flat h.ok (by omega) h.p []
    have hmay := h.fu [] rs hd (by rw [f1, f2]; exact htl) (by rw [f1, f2]; exact hx)
    have hle := htl.le
    have hro := Tells.round (by omega) (Rp_round (oRing X 0) n) htl
    have hIo := hI0.opened (by omega) ((0 : Nat) : Int) (n : Int) hok (by rw [e1]; exact h0) (hd := hd) (by simpa using hle) (by simpa using hro)
    simp only [Int.toNat_natCast, List.nil_append] at hIo
    refine ⟨hmay, hIo.upTo (by omega), by rw [e1]; exact hfl, ⟨N, ?_⟩, by rw [e1]; exact hp2, ?_, ht, fun i hi => ?_⟩
    · rw [e1]
      refine Hold.still hp2 ?_ ho.gd (fun i hi => ?_)
      · rw [hnw _ (by omega), hnw _ (by omega)]; exact num_flat ho h.p
      · rw [hnw _ (by omega), hnow]; exact ho.ri i hi
    · rw [e1, hl2]
      show wrap64 (X.life + 1) = _
      exact hlife
    · rw [e1, hnw _ (by omega)]
      have h1 := hre i hi
      have h2 : (oRing X 0 i).e ≤ rtop (oRing X 0) n := rtop_ge hi (by omega)
      have h3 : (pcOf (X.now (2 + i))).e = (oRing X 0 i).e := by
        show _ = (pcOf (X.now (0 + 2 + i))).e
        rw [Nat.zero_add]
      rw [h3]
      unfold oTop
      omega

/-- What Start leaves of a log that was opened: a log that lives and is empty; or a dead one. -/
theorem start_out {hd : Nat} {rs : List (List Int)} (hi : Inv S (n + 2) [L] (3 + 2 * (j + 1))) (hj : j ≤ 100000) (hf0 : L.f = 0) (hLn : L.n = n) (hb : L.begun = false) (hl : L.life = S.life) (hp : S.puts = []) (ho : ∃ N, Hold S 0 n N (j + 2)) (hfu : Fut S n rs rs.length false) (htop : L.top ≤ j + 2) (hre : ∀ i, i < n → (pcOf (S.now (2 + i))).e ≤ L.top) (_hd : hd = hd) (ok : (L.start S (n + 2)).2.1.Ok (n + 2)) :
    ((L.start S (n + 2)).1 = 0 ∧ S.fuse ≠ 0 ∧ Alive (L.start S (n + 2)).2.1 (L.start S (n + 2)).2.2 n (j + 1) [] 0) ∨
    ((L.start S (n + 2)).1 = 3 ∧ (S.fuse = 0 ∨ S.fuse = 1) ∧ (L.start S (n + 2)).2.1.fuse = 0 ∧ (L.start S (n + 2)).2.2 = L ∧ Inv (L.start S (n + 2)).2.1 (n + 2) [L] (3 + 2 * (j + 1)) ∧ (∃ N, Hold (L.start S (n + 2)).2.1 0 n N (j + 3)) ∧ Fut (L.start S (n + 2)).2.1 n rs rs.length true) := by
  have hL := (hi.at (i := 0) rfl).1
  have n1 := hL.n1
  have n2 := hL.n2
  rw [hLn] at n1 n2
  obtain ⟨N, ho⟩ := ho
  have hi' : Inv (L.start S (n + 2)).2.1 (n + 2) [(L.start S (n + 2)).2.2] (3 + 2 * (j + 1)) := hi.start (i := 0) rfl ok
  by_cases hf : S.fuse = 0
  · right
    have hd : L.dead S = true := by unfold LG.dead; rw [hf]; rfl
    unfold LG.start at hi' ⊢
    rw [if_pos hd] at hi' ⊢
    exact ⟨rfl, .inl hf, hf, rfl, hi', ⟨N, ho.up (by omega)⟩, hfu.loose⟩
  · have hdd : L.dead S = false := by
      unfold LG.dead
      rw [Bool.or_eq_false_iff]
      exact ⟨by rw [beq_eq_false_iff_ne]; exact hf, by rw [hl]; simp⟩
    have hfit := (hi.al L (by simp) hl hf).2 hb
    have hnum := num_flat ho hp
    have hN : N < (L.top + 1) * 4294967296 := by
      have := hfit.2
      rw [hf0] at this
      unfold DS.num at this
      rw [hnum] at this
      exact this
    have eN : (((L.top + 1 : Nat) : Int) * 4294967296 + ((0 : Nat) : Int)) = (((L.top + 1) * 4294967296 : Nat) : Int) := by omega
    have hMg : Good (j + 3) ((L.top + 1) * 4294967296) := ⟨by omega, by omega, by omega⟩
    have hM2 : (L.top + 1) * 4294967296 < 9223372036854775808 := by omega
    have q1 : (L.top + 1) * 4294967296 / 4294967296 = L.top + 1 := Nat.mul_div_cancel _ (by omega)
    have q2 : (L.top + 1) * 4294967296 % 4294967296 = 0 := Nat.mul_mod_left _ _
    have ho3 : Hold S 0 n N (j + 3) := ho.up (by omega)
    have hnum2 : S.num 0 = N := by unfold DS.num; rw [hnum]
    have hro := renew_ok (now_len hi.ok 0 (by omega)) (now_len hi.ok (0 + 1) (by omega)) (N := (L.top + 1) * 4294967296) (by omega) (by rw [hnum]; exact hN)
    have hHa := ho3.anew hi.ok hp (by omega) (by omega) (M := (L.top + 1) * 4294967296) (by rw [hnum2]; exact hN) hM2 hMg
    unfold LG.start at hi' ⊢
    rw [if_neg (by rw [hdd]; decide), if_neg (by rw [hb]; decide), hf0, eN] at hi' ⊢
    by_cases ha : (anew S (n + 2) 0 (((L.top + 1) * 4294967296 : Nat) : Int)).1 = 0
    · left
      rw [if_neg (fun c => c ha)] at hi' ⊢
      obtain ⟨w1, w2⟩ := anew_whole (s := n + 2) (f := 0) (N := (L.top + 1) * 4294967296) hi.ok (by omega) (by omega) hM2 (by rw [hnum2]; exact hN) ha
      have w3 := (anew_num (s := n + 2) (f := 0) (N := (L.top + 1) * 4294967296) hi.ok (by omega) (by omega) hM2 (by rw [hnum2]; exact hN) ha).2
      have w4 : (anew S (n + 2) 0 (((L.top + 1) * 4294967296 : Nat) : Int)).2.life = S.life := anew_life _ _ _ _
      have hH2 : Hold (anew S (n + 2) 0 (((L.top + 1) * 4294967296 : Nat) : Int)).2 0 n ((L.top + 1) * 4294967296) (j + 3) := by
        refine Hold.still w3 w1 hMg (fun i hi2 => ?_)
        rw [w2 _ (by omega) (by omega) (by omega)]
        have := hre i hi2
        rw [Nat.zero_add]
        omega
      have hH3 : Hold (anew S (n + 2) 0 (((L.top + 1) * 4294967296 : Nat) : Int)).2 0 n ((L.top + 1) * 4294967296 + 0) (j + 3) := by
        have hz : (L.top + 1) * 4294967296 + 0 = (L.top + 1) * 4294967296 := by omega
        rw [hz]
        exact hH2
      refine ⟨rfl, hf, ⟨hi', rfl, hLn, rfl, ?_, by show 1 ≤ L.top + 1; omega, by show L.top + 1 ≤ _; omega, hH3, Slots.nil w3 _ _, ⟨(fun d hd => by cases hd), Nat.zero_le _, Nat.le_refl _, fun i hi2 he hp2 => ?_, fun q hq => (by rw [w3] at hq; cases hq), fun m X hm => (by cases hm)⟩, rfl, fun m X hm => (by cases hm)⟩⟩
      · show L.life = _
        rw [w4]; exact hl
      · exfalso
        simp only at he
        rw [← now_flat w3, w2 _ (by omega) (by omega) (by omega)] at he
        have := hre i hi2
        omega
    · right
      rw [if_pos ha] at hi' ⊢
      have hcode := (anew_code (by omega) hro).resolve_left ha
      have hfz := (anew_err (by omega) hro ha).1
      have hone : S.fuse = 0 ∨ S.fuse = 1 := by
        right
        apply Decidable.byContradiction
        intro h1
        apply ha
        unfold anew
        have hsl := srenew_slot (S.now 0) (S.now (0 + 1)) (((L.top + 1) * 4294967296 : Nat) : Int) []
        rw [if_neg hf, if_neg (fun c => c hro)]
        generalize srenew (S.now 0) (S.now (0 + 1)) (((L.top + 1) * 4294967296 : Nat) : Int) [] = Y at *
        rw [show ((0 : Nat) : Int) + (Y.1 : Int) = ((0 + Y.1 : Nat) : Int) by omega, wr_in hf (by omega)]
        rw [if_neg (by simp)]
        have hfu2 : (S.put (0 + Y.1) Y.2.1).wrote.spend.fuse ≠ 0 := by
          show (if 0 < S.fuse then S.fuse - 1 else S.fuse) ≠ 0
          have := hi.ok.fuse
          split <;> omega
        unfold DS.fl
        rw [if_neg hfu2]
      refine ⟨hcode, hone, hfz, rfl, hi', hHa, ?_⟩
      exact anew_fut hi.ok (by omega) hp hnum ho3.gd (by omega) hN hMg (fun i hi2 he => by
        rw [q1] at he
        have := hre i hi2
        omega) hfu ha
end
end Go.Proofs.YtllkjmbcjlbmbaaGreat
