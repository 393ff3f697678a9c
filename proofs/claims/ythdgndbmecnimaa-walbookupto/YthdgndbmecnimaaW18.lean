import Derived.Test.YthdgndbmecnimaaW17
import Derived.Deep.AppendLies
section
namespace Go.Proofs.Ythdgndbmecnimaa
open Go.RowKit

section
variable {S S' X : DS} {n N E T Em low j s f : Nat} {ds : List (List Int)} {L : LG} {d : List Int} {none : Bool}

theorem Laid.before (h : Laid S n E T ds low) (ho : Once S) {i : Nat} (hi : i < n) (he : (pcOf (S.now (2 + i))).e = E) : (pcOf (S.now (2 + i))).p < T + lenOf ds ∨ (pcOf (S.now (2 + i))).p < T := by
  by_cases hp : T ≤ (pcOf (S.now (2 + i))).p
  · obtain ⟨m, hm⟩ := h.now ho hi he hp
    have h1 := (pcsOf_at E _ _ _ _ hm).2
    have h2 := (List.getElem?_eq_some_iff.1 hm).1
    rw [pcsOf_len] at h2
    left
    omega
  · right; omega
theorem num_flat (h : Hold S 0 n N E) (hp : S.puts = []) : (snewest (S.now 0) (S.now (0 + 1))).2 = (N, [], 0) := by
  rw [now_flat hp, now_flat hp]
  exact h.old

/-- What Trim leaves. -/
theorem Alive.trim (h : Alive S L n j ds low) (hj : j ≤ 100000) (ok : (L.trim S (n + 2)).2.1.Ok (n + 2)) :
    (S.fuse = 0 ∧ L.trim S (n + 2) = (3, S, L)) ∨
    (S.fuse ≠ 0 ∧ (L.trim S (n + 2)).1 = 0 ∧ Alive (L.trim S (n + 2)).2.1 (L.trim S (n + 2)).2.2 n j [] 0) ∨
    (S.fuse ≠ 0 ∧ (L.trim S (n + 2)).1 = 3 ∧ (L.trim S (n + 2)).2.1.fuse = 0 ∧ (L.trim S (n + 2)).2.2 = L ∧ Inv (L.trim S (n + 2)).2.1 (n + 2) [L] (3 + 2 * j) ∧ (∃ N, Hold (L.trim S (n + 2)).2.1 0 n N (j + 2)) ∧ Fut (L.trim S (n + 2)).2.1 n ds low true) := by
  obtain ⟨n1, n2⟩ := h.nb
  have hi : Inv (L.trim S (n + 2)).2.1 (n + 2) [(L.trim S (n + 2)).2.2] (3 + 2 * j) := h.i.trim (i := 0) rfl ok
  have ee := h.e2
  have ho' : Hold S L.f L.n (L.ep * 4294967296 + L.tail) (j + 2) := by rw [h.f0, h.n']; exact h.ho
  have hH := ho'.trim (i := 0) h.i rfl h.e1 h.e2 (by omega)
  rw [h.f0, h.n'] at hH
  rcases h.sync with ⟨hf, hs⟩ | ⟨hf, h0, hA⟩
  · left
    refine ⟨hf, ?_⟩
    unfold LG.trim
    rw [hs, if_pos (by show (3 : Int) ≠ 0; omega)]
  · right
    have hL := (hA.i.at (i := 0) rfl).1
    have hb := hL.hb h.g
    have hth := hL.th
    have hhd := h.hd
    have hp : (L.sync S (n + 2)).2.puts = [] := by
      have := hA.la.fit
      have e : L.sync S (n + 2) = S.fl (n + 2) := by unfold LG.sync; rw [if_neg (by have := h.ready hf; omega)]
      rw [e] at h0 ⊢
      exact fl_zero h0
    unfold LG.trim at hi hH ⊢
    rw [if_neg (fun c => c h0)] at hi hH ⊢
    by_cases ht : L.tail = L.head
    · rw [if_pos ht] at hi hH ⊢
      left
      have hz : ds = [] := lenOf_zero h.la.sz (by omega)
      subst hz
      exact ⟨hf, rfl, hA⟩
    · rw [if_neg ht] at hi hH ⊢
      rw [h.f0] at hi hH ⊢
      have eN : ((L.ep : Int) * 4294967296 + (L.head : Int)) = ((L.ep * 4294967296 + L.head : Nat) : Int) := by omega
      rw [eN] at hi hH ⊢
      have hnum := num_flat hA.ho hp
      have hnum2 : (L.sync S (n + 2)).2.num 0 = L.ep * 4294967296 + L.tail := by unfold DS.num; rw [hnum]
      have e1 := h.e1
      have hM1 : 1 ≤ L.ep * 4294967296 + L.head := by omega
      have hM2 : L.ep * 4294967296 + L.head < 9223372036854775808 := by omega
      have hMg : Good (j + 2) (L.ep * 4294967296 + L.head) := ⟨by omega, by omega, by omega⟩
      obtain ⟨q1, q2⟩ := parts_of L.ep L.head (by omega)
      by_cases ha : (anew (L.sync S (n + 2)).2 (n + 2) 0 ((L.ep * 4294967296 + L.head : Nat) : Int)).1 = 0
      · left
        rw [if_neg (fun c => c ha)] at hi ⊢
        obtain ⟨w1, w2⟩ := anew_whole (s := n + 2) (f := 0) (N := L.ep * 4294967296 + L.head) hA.i.ok (by omega) hM1 hM2 (by rw [hnum2]; omega) ha
        have w3 := (anew_num (s := n + 2) (f := 0) (N := L.ep * 4294967296 + L.head) hA.i.ok (by omega) hM1 hM2 (by rw [hnum2]; omega) ha).2
        have w4 : (anew (L.sync S (n + 2)).2 (n + 2) 0 ((L.ep * 4294967296 + L.head : Nat) : Int)).2.life = (L.sync S (n + 2)).2.life := anew_life _ _ _ _
        refine ⟨hf, rfl, ⟨hi, rfl, h.n', h.g, ?_, h.e1, h.e2, ?_, Slots.nil w3 _ _, ⟨(fun d hd => by cases hd), Nat.zero_le _, Nat.le_refl _, fun i hi he hp => ?_, fun q hq => (by rw [w3] at hq; cases hq), fun m X hm => (by cases hm)⟩, rfl, fun m X hm => (by cases hm)⟩⟩
        · show L.life = _
          rw [w4]; exact hA.life
        · refine Hold.still w3 w1 hMg (fun i hi => ?_)
          rw [w2 _ (by omega) (by omega) (by omega)]
          have := hA.ho.ri i hi
          rw [← now_flat hp] at this
          exact this
        · exfalso
          simp only at he hp
          rw [← now_flat w3, w2 _ (by omega) (by omega) (by omega)] at he hp
          rcases hA.la.before hA.ho.once hi he with h3 | h3
          · omega
          · omega
      · right
        rw [if_pos ha] at hi hH ⊢
        have hro := renew_ok (now_len hA.i.ok 0 (by omega)) (now_len hA.i.ok (0 + 1) (by omega)) (N := L.ep * 4294967296 + L.head) hM1 (by rw [hnum]; show L.ep * 4294967296 + L.tail < _; omega)
        have hcode : (anew (L.sync S (n + 2)).2 (n + 2) 0 ((L.ep * 4294967296 + L.head : Nat) : Int)).1 = 3 := (anew_code (by omega) hro).resolve_left ha
        have hfu := (anew_err (by omega) hro ha).1
        refine ⟨hf, hcode, hfu, rfl, hi, hH, ?_⟩
        have hfut := anew_fut hA.i.ok (by omega) hp hnum hA.ho.gd (by omega) (M := L.ep * 4294967296 + L.head) (by omega) hMg (fun i hi he => by
          rw [q1] at he
          rw [q2]
          rcases hA.la.before hA.ho.once hi he with h3 | h3 <;> omega) (hA.fut hj false) ha
        exact hfut.lower h.la.lo

/-- A disk with a log where nothing pends: what is told of it. -/
structure Flat (X : DS) (n j : Nat) (ds : List (List Int)) (low : Nat) (none : Bool) : Prop where
  ok : X.Ok (n + 2)
  byt : X.Byt
  p : X.puts = []
  l0 : 0 ≤ X.life
  lt : X.life ≤ ((3 + 2 * j + 1 : Nat) : Int)
  ho : ∃ N, Hold X 0 n N (j + 2)
  fu : Fut X n ds low none

theorem rtop_ge {R : Nat → PC} : ∀ {n i : Nat}, i < n → (R i).e ≤ 1073741824 → (R i).e ≤ rtop R n
  | 0, i, hi, _ => by omega
  | n + 1, i, hi, he => by
    unfold rtop
    by_cases e : i = n
    · subst e
      rw [if_pos he]
      omega
    · have := rtop_ge (R := R) (n := n) (i := i) (by omega) he
      split <;> omega
/-- What Open tells may be told; and what it leaves. -/
theorem Flat.open (h : Flat X n j ds low none) (hj : j ≤ 100000) (h18 : 18 ≤ n) (h256 : n ≤ 256) (hf : X.fuse ≠ 0) :
    (lopen X (n + 2) ((0 : Nat) : Int) (n : Int)).1 = 0 ∧ (lopen X (n + 2) ((0 : Nat) : Int) (n : Int)).2.fuse = (if 0 < X.fuse then X.fuse - 1 else X.fuse) ∧ (lopen X (n + 2) ((0 : Nat) : Int) (n : Int)).2.life = X.life + 1 ∧
    ∀ rs hd, Tells (Rp (oRing X 0) n) (oNew X 0).1 (oNew X 0).2.1 rs hd → (∀ c d, ¬ Rec (Rp (oRing X 0) n) (oNew X 0).1 hd c d) → (lopen X (n + 2) ((0 : Nat) : Int) (n : Int)).2.Ok (n + 2) →
      ((none = true ∧ rs = []) ∨ (low ≤ rs.length ∧ rs.length ≤ ds.length ∧ rs = ds.take rs.length)) ∧
      Inv (lopen X (n + 2) ((0 : Nat) : Int) (n : Int)).2 (n + 2) [LG.opened X 0 n hd] (3 + 2 * (j + 1)) ∧
      Fut (lopen X (n + 2) ((0 : Nat) : Int) (n : Int)).2 n rs rs.length false ∧
      (∃ N, Hold (lopen X (n + 2) ((0 : Nat) : Int) (n : Int)).2 0 n N (j + 2)) ∧ (lopen X (n + 2) ((0 : Nat) : Int) (n : Int)).2.puts = [] ∧
      (LG.opened X 0 n hd).life = (lopen X (n + 2) ((0 : Nat) : Int) (n : Int)).2.life ∧ oTop X 0 n ≤ j + 2 ∧ ∀ i, i < n → (pcOf ((lopen X (n + 2) ((0 : Nat) : Int) (n : Int)).2.now (2 + i))).e ≤ oTop X 0 n := by
  obtain ⟨N, ho⟩ := h.ho
  have hnow : ∀ k, X.now k = dsec X.im k := now_flat h.p
  have hr0 : lrefuse X (n + 2) ((0 : Nat) : Int) (n : Int) = 0 := by
    unfold lrefuse
    rw [if_neg hf, if_neg (by omega), if_neg (by omega), if_neg (by omega)]
  obtain ⟨g1, g2, g3⟩ := ho.gd
  have hn : oNew X 0 = (N / 4294967296, N % 4294967296, 0) := by
    unfold oNew
    exact new_of (num_flat ho h.p) ho.gd (by omega)
  have hre : ∀ i, i < n → (oRing X 0 i).e ≤ j + 2 := fun i hi => by
    show (pcOf (X.now (0 + 2 + i))).e ≤ _
    rw [hnow]; exact ho.ri i hi
  have ht : oTop X 0 n ≤ j + 2 := by
    unfold oTop
    rw [hn]
    have := rtop_bound (R := oRing X 0) (E := j + 2) n hre
    show max (N / 4294967296) (rtop (oRing X 0) n) ≤ _
    omega
  have e1 : lopen X (n + 2) ((0 : Nat) : Int) (n : Int) = X.take.fl (n + 2) := by
    unfold lopen
    rw [if_neg (by omega), Int.toNat_natCast, Int.toNat_natCast, if_neg (by rw [hn]; show ¬ (0 : Nat) ≠ 0; omega), if_neg (by omega)]
  have hfT : X.take.fuse ≠ 0 := hf
  have h0 : (X.take.fl (n + 2)).1 = 0 := Decidable.byContradiction (fun e => hfT (fl_err e).2.1)
  have hokT : X.take.Ok (n + 2) := ⟨h.ok.len, h.ok.lo, h.ok.hi, h.ok.puts, h.ok.fuse⟩
  have hnw : ∀ k, k < n + 2 → (X.take.fl (n + 2)).2.now k = X.now k := fun k hk => fl_now (S := X.take) hokT hk
  have hlife := wrap_life h.l0 h.lt (by omega)
  have hl2 : (X.take.fl (n + 2)).2.life = X.life + 1 := (fl_life _ _).trans hlife
  have hI0 : Inv X (n + 2) [] (3 + 2 * j + 1) := Inv.zero h.ok h.byt (by rw [h.p]; rfl) h.l0 h.lt
  refine ⟨by rw [e1]; exact h0, ?_, by rw [e1]; exact hl2, fun rs hd htl hx hok => ?_⟩
  · rw [e1]
    unfold DS.fl
    rw [if_neg hfT]
    rfl
  · have hp2 : (X.take.fl (n + 2)).2.puts = [] := fl_zero h0
    have hring : Rp (oRing (X.take.fl (n + 2)).2 0) n = Rp (oRing X 0) n := by
      funext P
      have := Nat.mod_lt P (show 0 < n by omega)
      show pcOf ((X.take.fl (n + 2)).2.now (0 + 2 + P % n)) = pcOf (X.now (0 + 2 + P % n))
      rw [hnw _ (by omega)]
    have hne2 : oNew (X.take.fl (n + 2)).2 0 = oNew X 0 := by
      unfold oNew
      rw [hnw _ (by omega), hnw _ (by omega)]
    have hfl : Fut (X.take.fl (n + 2)).2 n rs rs.length false := by
      rw [e1] at hok
      exact Fut.flat hok (by omega) hp2 (hd := hd) (by rw [hring, hne2]; exact htl) (by rw [hring, hne2]; exact hx) false
    obtain ⟨f1, f2⟩ := told_flat h.ok (by omega) h.p []
    have hmay := h.fu [] rs hd (by rw [f1, f2]; exact htl) (by rw [f1, f2]; exact hx)
    have hle := htl.le
    have hro := Tells.round (by omega) (Rp_round (oRing X 0) n) htl
    have hIo := hI0.opened (by omega) ((0 : Nat) : Int) (n : Int) hok (by rw [e1]; exact h0) (hd := hd) (by simpa using hle) (by simpa using hro)
    simp only [Int.toNat_natCast, List.nil_append] at hIo
    refine ⟨hmay, hIo.upTo (by omega), by rw [e1]; exact hfl, ⟨N, ?_⟩, by rw [e1]; exact hp2, ?_, ht, fun i hi => ?_⟩
    · rw [e1]
      refine Hold.still hp2 ?_ ho.gd (fun i hi => ?_)
      · rw [hnw _ (by omega), hnw _ (by omega)]; exact num_flat ho h.p
      · rw [hnw _ (by omega), hnow]; exact ho.ri i hi
    · rw [e1, hl2]
      show wrap64 (X.life + 1) = _
      exact hlife
    · rw [e1, hnw _ (by omega)]
      have h1 := hre i hi
      have h2 : (oRing X 0 i).e ≤ rtop (oRing X 0) n := rtop_ge hi (by omega)
      have h3 : (pcOf (X.now (2 + i))).e = (oRing X 0 i).e := by
        show _ = (pcOf (X.now (0 + 2 + i))).e
        rw [Nat.zero_add]
      rw [h3]
      unfold oTop
      omega

/-- What Start leaves of a log that was opened: a log that lives and is empty; or a dead one. -/
theorem start_out {hd : Nat} {rs : List (List Int)} (hi : Inv S (n + 2) [L] (3 + 2 * (j + 1))) (hj : j ≤ 100000) (hf0 : L.f = 0) (hLn : L.n = n) (hb : L.begun = false) (hl : L.life = S.life) (hp : S.puts = []) (ho : ∃ N, Hold S 0 n N (j + 2)) (hfu : Fut S n rs rs.length false) (htop : L.top ≤ j + 2) (hre : ∀ i, i < n → (pcOf (S.now (2 + i))).e ≤ L.top) (_hd : hd = hd) (ok : (L.start S (n + 2)).2.1.Ok (n + 2)) :
    ((L.start S (n + 2)).1 = 0 ∧ S.fuse ≠ 0 ∧ Alive (L.start S (n + 2)).2.1 (L.start S (n + 2)).2.2 n (j + 1) [] 0) ∨
    ((L.start S (n + 2)).1 = 3 ∧ (S.fuse = 0 ∨ S.fuse = 1) ∧ (L.start S (n + 2)).2.1.fuse = 0 ∧ (L.start S (n + 2)).2.2 = L ∧ Inv (L.start S (n + 2)).2.1 (n + 2) [L] (3 + 2 * (j + 1)) ∧ (∃ N, Hold (L.start S (n + 2)).2.1 0 n N (j + 3)) ∧ Fut (L.start S (n + 2)).2.1 n rs rs.length true) := by
  have hL := (hi.at (i := 0) rfl).1
  have n1 := hL.n1
  have n2 := hL.n2
  rw [hLn] at n1 n2
  obtain ⟨N, ho⟩ := ho
  have hi' : Inv (L.start S (n + 2)).2.1 (n + 2) [(L.start S (n + 2)).2.2] (3 + 2 * (j + 1)) := hi.start (i := 0) rfl ok
  by_cases hf : S.fuse = 0
  · right
    have hd : L.dead S = true := by unfold LG.dead; rw [hf]; rfl
    unfold LG.start at hi' ⊢
    rw [if_pos hd] at hi' ⊢
    exact ⟨rfl, .inl hf, hf, rfl, hi', ⟨N, ho.up (by omega)⟩, hfu.loose⟩
  · have hdd : L.dead S = false := by
      unfold LG.dead
      rw [Bool.or_eq_false_iff]
      exact ⟨by rw [beq_eq_false_iff_ne]; exact hf, by rw [hl]; simp⟩
    have hfit := (hi.al L (by simp) hl hf).2 hb
    have hnum := num_flat ho hp
    have hN : N < (L.top + 1) * 4294967296 := by
      have := hfit.2
      rw [hf0] at this
      unfold DS.num at this
      rw [hnum] at this
      exact this
    have eN : (((L.top + 1 : Nat) : Int) * 4294967296 + ((0 : Nat) : Int)) = (((L.top + 1) * 4294967296 : Nat) : Int) := by omega
    have hMg : Good (j + 3) ((L.top + 1) * 4294967296) := ⟨by omega, by omega, by omega⟩
    have hM2 : (L.top + 1) * 4294967296 < 9223372036854775808 := by omega
    have q1 : (L.top + 1) * 4294967296 / 4294967296 = L.top + 1 := Nat.mul_div_cancel _ (by omega)
    have q2 : (L.top + 1) * 4294967296 % 4294967296 = 0 := Nat.mul_mod_left _ _
    have ho3 : Hold S 0 n N (j + 3) := ho.up (by omega)
    have hnum2 : S.num 0 = N := by unfold DS.num; rw [hnum]
    have hro := renew_ok (now_len hi.ok 0 (by omega)) (now_len hi.ok (0 + 1) (by omega)) (N := (L.top + 1) * 4294967296) (by omega) (by rw [hnum]; exact hN)
    have hHa := ho3.anew hi.ok hp (by omega) (by omega) (M := (L.top + 1) * 4294967296) (by rw [hnum2]; exact hN) hM2 hMg
    unfold LG.start at hi' ⊢
    rw [if_neg (by rw [hdd]; decide), if_neg (by rw [hb]; decide), hf0, eN] at hi' ⊢
    by_cases ha : (anew S (n + 2) 0 (((L.top + 1) * 4294967296 : Nat) : Int)).1 = 0
    · left
      rw [if_neg (fun c => c ha)] at hi' ⊢
      obtain ⟨w1, w2⟩ := anew_whole (s := n + 2) (f := 0) (N := (L.top + 1) * 4294967296) hi.ok (by omega) (by omega) hM2 (by rw [hnum2]; exact hN) ha
      have w3 := (anew_num (s := n + 2) (f := 0) (N := (L.top + 1) * 4294967296) hi.ok (by omega) (by omega) hM2 (by rw [hnum2]; exact hN) ha).2
      have w4 : (anew S (n + 2) 0 (((L.top + 1) * 4294967296 : Nat) : Int)).2.life = S.life := anew_life _ _ _ _
      have hH2 : Hold (anew S (n + 2) 0 (((L.top + 1) * 4294967296 : Nat) : Int)).2 0 n ((L.top + 1) * 4294967296) (j + 3) := by
        refine Hold.still w3 w1 hMg (fun i hi2 => ?_)
        rw [w2 _ (by omega) (by omega) (by omega)]
        have := hre i hi2
        rw [Nat.zero_add]
        omega
      have hH3 : Hold (anew S (n + 2) 0 (((L.top + 1) * 4294967296 : Nat) : Int)).2 0 n ((L.top + 1) * 4294967296 + 0) (j + 3) := by
        have hz : (L.top + 1) * 4294967296 + 0 = (L.top + 1) * 4294967296 := by omega
        rw [hz]
        exact hH2
      refine ⟨rfl, hf, ⟨hi', rfl, hLn, rfl, ?_, by show 1 ≤ L.top + 1; omega, by show L.top + 1 ≤ _; omega, hH3, Slots.nil w3 _ _, ⟨(fun d hd => by cases hd), Nat.zero_le _, Nat.le_refl _, fun i hi2 he hp2 => ?_, fun q hq => (by rw [w3] at hq; cases hq), fun m X hm => (by cases hm)⟩, rfl, fun m X hm => (by cases hm)⟩⟩
      · show L.life = _
        rw [w4]; exact hl
      · exfalso
        simp only at he
        rw [← now_flat w3, w2 _ (by omega) (by omega) (by omega)] at he
        have := hre i hi2
        omega
    · right
      rw [if_pos ha] at hi' ⊢
      have hcode := (anew_code (by omega) hro).resolve_left ha
      have hfz := (anew_err (by omega) hro ha).1
      have hone : S.fuse = 0 ∨ S.fuse = 1 := by
        right
        apply Decidable.byContradiction
        intro h1
        apply ha
        unfold anew
        have hsl := srenew_slot (S.now 0) (S.now (0 + 1)) (((L.top + 1) * 4294967296 : Nat) : Int) []
        rw [if_neg hf, if_neg (fun c => c hro)]
        generalize srenew (S.now 0) (S.now (0 + 1)) (((L.top + 1) * 4294967296 : Nat) : Int) [] = Y at *
        rw [show ((0 : Nat) : Int) + (Y.1 : Int) = ((0 + Y.1 : Nat) : Int) by omega, wr_in hf (by omega)]
        rw [if_neg (by simp)]
        have hfu2 : (S.put (0 + Y.1) Y.2.1).wrote.spend.fuse ≠ 0 := by
          show (if 0 < S.fuse then S.fuse - 1 else S.fuse) ≠ 0
          have := hi.ok.fuse
          split <;> omega
        unfold DS.fl
        rw [if_neg hfu2]
      refine ⟨hcode, hone, hfz, rfl, hi', hHa, ?_⟩
      exact anew_fut hi.ok (by omega) hp hnum ho3.gd (by omega) hN hMg (fun i hi2 he => by
        rw [q1] at he
        have := hre i hi2
        omega) hfu ha
end
end Go.Proofs.Ythdgndbmecnimaa
end

section
namespace Go.Proofs.Ythdgndbmecnimaa
open Go.RowKit

/-- A fresh log of n sectors, and what becomes of it as long as nobody cuts or takes it. -/
structure Live (w w' : World) (F : Nat → Prop) (p l n : Nat) (S : DS) (L : LG) : Prop where
  d : DiskR w' F p (n + 2) S
  lp : LogP w' l p L
  nf : ¬ F l
  fF : ∀ k, F k → w.heap.size ≤ k
  lo : w.heap.size ≤ l
  b : Below w.heap.size w w'
  i : Inv S (n + 2) [L] 3
  f : S.fuse = -1
  a : L.life = S.life
  g : L.begun = true
  e : L.ep = 2
  n' : L.n = n
  f0 : L.f = 0

theorem open_yesF {w : World} {p s : Nat} {S : DS} {F : Nat → Prop} (h : DiskR w F p s S) (hby : S.Byt) (f n : Int) (hbig : S.puts.length ≤ 600) (hP : (lopen S s f n).1 = 0) :
    Calls Try.prog 13 #[.pointer (some ⟨p, 0, none⟩), .int .i64 f, .int .i64 n] w fun e w' => ∃ l v rs hd, e = .returned (.tuple #[.pointer (some ⟨l, 0, none⟩), v, .int .i64 0]) ∧ (w.heap.size ≤ l ∧ Told w' w.heap.size l p (LG.new S f.toNat n.toNat) S v rs hd) ∧ DiskR w' F p s (lopen S s f n).2 ∧ Keeps F w w' := by
  refine (Open_any h hby f n (by omega)).mono ?_
  rintro e w' ⟨h1, h2, h3⟩
  unfold Opened at h1
  rw [if_neg (fun c => c hP)] at h1
  obtain ⟨l, v, rs, hd, e1, e2, e3⟩ := h1
  exact ⟨l, v, rs, hd, e1, ⟨e2, e3⟩, h2, h3⟩
theorem RecsAt.nil_form {W : World} {B : Nat} {v : Value} {X : Nat → Prop} (h : RecsAt W B v [] X) : ∃ a c, v = .slice a 0 c := by
  obtain ⟨vs, ⟨hl, ⟨e, h3⟩ | ⟨g, cap, cur, e, hg, hb, h4⟩⟩, h2⟩ := h
  · exact ⟨none, 0, e⟩
  · exact ⟨_, _, e⟩
theorem inv_freshN {w : World} {F : Nat → Prop} {p s : Nat} (h : DiskR w F p s (DS.fresh (List.replicate (s * 512) 0))) : Inv (DS.fresh (List.replicate (s * 512) 0)) s [] 1 :=
  Inv.zero h.ok ⟨Bytes.zeros _, fun q hq => by cases hq⟩ rfl (show (0 : Int) ≤ 1 by decide) (show (1 : Int) ≤ 1 by decide)

/-- What the Open of a fresh log gives. -/
theorem open_freshN {n : Nat} (h18 : 18 ≤ n) (h256 : n ≤ 256) {w : World} {F : Nat → Prop} {p t : Nat} {S : DS} (h : DiskR w F p (n + 2) S) (hi : Inv S (n + 2) [] t) (ht : t ≤ 1000000000000000000) (hf : S.fuse = -1) (hn : oNew S 0 = (1, 0, 0)) (hz : ∀ j, j < n → S.now (0 + 2 + j) = zs 512) :
    Calls Try.prog 13 #[.pointer (some ⟨p, 0, none⟩), .int .i64 0, .int .i64 (n : Int)] w fun e w' => ∃ l a c S' L, e = .returned (.tuple #[.pointer (some ⟨l, 0, none⟩), .slice a 0 c, .int .i64 0]) ∧ w.heap.size ≤ l ∧ LogP w' l p L ∧ DiskR w' F p (n + 2) S' ∧ Keeps F w w' ∧ Inv S' (n + 2) [L] (t + 1) ∧ S'.fuse = -1 ∧ L.life = S'.life ∧ L.begun = false ∧ L.top = 1 ∧ L.n = n ∧ L.f = 0 ∧ ∀ j, j < n → S'.now (0 + 2 + j) = zs 512 := by
  obtain ⟨z1, z2, z3, z4, z5⟩ := open_calm (a := 0) (b := n) h.ok hf (by omega) h18 h256 hn hz
  refine (open_yesF h hi.byt 0 (n : Int) hi.p6 z1).mono ?_
  rintro e w' ⟨l, v, rs, hd, rfl, ⟨e2, e3⟩, h2, h3⟩
  obtain ⟨rfl, rfl⟩ := z4 rs hd e3.t
  obtain ⟨a, c, rfl⟩ := e3.r.nil_form
  have hI := hi.opened ht 0 (n : Int) h2.ok z1 (hd := 0) (by show (oNew S 0).2.1 ≤ 0; rw [hn]; exact Nat.le_refl _) (Nat.zero_le _)
  refine ⟨l, a, c, _, LG.opened S 0 n 0, rfl, e2, e3.p, h2, h3, hI, z2, z3.symm, rfl, z5, rfl, rfl, fun j hj => ?_⟩
  have e1 : lopen S (n + 2) 0 (n : Int) = S.take.fl (n + 2) := by
    have hr0 : lrefuse S (n + 2) 0 (n : Int) = 0 := by
      unfold lrefuse
      rw [if_neg (by omega), if_neg (by omega), if_neg (by omega), if_neg (by omega)]
    unfold lopen
    rw [if_neg (by omega), Int.toNat_natCast, if_neg (by show ¬ (oNew S 0).2.2 ≠ 0; rw [hn]; decide), if_neg (by show ¬ oTop S 0 n = 1073741824; omega)]
  rw [e1, fl_now (S := S.take) ⟨h.ok.len, h.ok.lo, h.ok.hi, h.ok.puts, h.ok.fuse⟩ (by omega)]
  exact hz j hj
theorem start_freshN {w : World} {F : Nat → Prop} {p l t s : Nat} {S : DS} {L : LG} (h : DiskR w F p s S) (hl : LogP w l p L) (hF : ¬ F l) (hi : Inv S s [L] t) (hf : S.fuse = -1) (ha : L.life = S.life) (hb : L.begun = false) (hz : ∀ j, j < L.n → S.now (L.f + 2 + j) = zs 512) :
    Calls Try.prog 32 #[.pointer (some ⟨l, 0, none⟩)] w fun e w' => ∃ S', e = .returned (.int .i64 0) ∧ DiskR w' (more F w w') p s S' ∧ LogP w' l p { L with begun := true, ep := L.top + 1, tail := 0, head := 0 } ∧ Keeps (fun k => F k ∨ k = l) w w' ∧ Inv S' s [{ L with begun := true, ep := L.top + 1, tail := 0, head := 0 }] t ∧ S'.fuse = -1 ∧ S'.life = S.life ∧ Snd S' L.f L.n ((L.top + 1) * 4294967296) (L.top + 1) := by
  obtain ⟨z1, z2, z3, z4⟩ := start_calm (i := 0) hi rfl hf ha hb
  have z5 := Snd.start (i := 0) hi rfl hf ha hb (fun j hj => by rw [hz j hj, fresh_piece.2]; exact Nat.zero_le _)
  refine (Start_any h hl (hi.at (i := 0) rfl).1 hF hi.byt (by have := hi.p6; omega)).mono ?_
  rintro e w' ⟨rfl, h2, h3, h4⟩
  have hI := hi.start (i := 0) rfl h2.ok
  rw [z4] at h3 hI
  exact ⟨_, by rw [z1], h2, h3, h4, hI, z2, z3, z5⟩

set_option maxRecDepth 20000 in
set_option maxHeartbeats 4000000 in
theorem freshN_any {n : Nat} (h18 : 18 ≤ n) (h256 : n ≤ 256) (w : World) : Calls Try.prog 5 #[.int .i64 (n : Int)] w fun e w' => ∃ F p l S L, e = .returned (.tuple #[.pointer (some ⟨p, 0, none⟩), .pointer (some ⟨l, 0, none⟩)]) ∧ Live w w' F p l n S L ∧ L.tail = 0 ∧ L.head = 0 ∧ Snd S 0 n (2 * 4294967296) 2 := by
  have h1 := new_ok (n + 2) w (by omega) (by omega)
  rw [show ((n + 2 : Nat) : Int) = (n : Int) + 2 by omega] at h1
  go_enter Try.func5, Try.ntmps5
  go_wp2_with fail
  refine h1.mono ?_
  rintro e w1 ⟨p, rfl, hd1, hb1⟩
  have hd1 := hd1.r
  have i1 := inv_freshN hd1
  have hf1 : (DS.fresh (List.replicate ((n + 2) * 512) 0)).fuse = -1 := rfl
  generalize DS.fresh (List.replicate ((n + 2) * 512) 0) = S1 at *
  obtain ⟨F1, hF1⟩ : ∃ F1, F1 = (fun k => w.heap.size ≤ k ∧ k < w1.heap.size) := ⟨_, rfl⟩
  rw [← hF1] at hd1
  have hlo1 : ∀ k, F1 k → w.heap.size ≤ k := fun k hk => by rw [hF1] at hk; exact hk.1
  obtain ⟨z1, z2, z3, z4⟩ := format_calm (a := 0) (b := n) i1 (by omega) hf1 (by omega) h18 h256
  rw [show ((0 : Nat) : Int) = 0 from rfl] at z1 z2 z3 z4
  have h2 := Format_any hd1 i1.byt 0 (n : Int) (by have := i1.p6; omega)
  rw [z1] at h2
  have HI1 := Hid.mk i1
  have HLo1 := Hid.mk hlo1
  have HB1 := Hid.mk hb1
  have hz1 := hb1.size
  have HZ := Hid.mk (And.intro z2 (And.intro z3 z4))
  clear h1 hF1 z1 z2 z3 z4 hf1 i1 hd1 hb1 hlo1
  go_wp2_with fail
  refine h2.mono ?_
  rintro e w2 ⟨rfl, hd2, hk2⟩
  have i2 := HI1.out.format (by omega) 0 (n : Int) hd2.ok
  have hz2 := hk2.size
  have HB2 : Hid (Below w.heap.size w w2) := HB1.out.trans (hk2.below HLo1.out hz1)
  have hlo2 : ∀ k, more F1 w1 w2 k → w.heap.size ≤ k := fun k hk => by
    rcases hk with hk | hk
    · exact HLo1.out k hk
    · omega
  have h3 := open_freshN h18 h256 hd2 i2 (by omega) HZ.out.1 HZ.out.2.1 HZ.out.2.2
  have HLt := Hid.mk hd2.lt
  have HLo2 := Hid.mk hlo2
  clear h2 hd2 hk2 i2 hlo2
  generalize more F1 w1 w2 = F2 at *
  go_wp2_with fail
  refine h3.mono ?_
  rintro e w3 ⟨l, a, c, S3, L3, rfl, hll, hlp, hd3, hk3, i3, hf3, hl3, hb3, ht3, hn3, hf0, hzz⟩
  have hz3 := hk3.size
  have hFl : ¬ F2 l := fun hf => by have := HLt.out _ hf; omega
  have h4 := start_freshN hd3 hlp hFl i3 hf3 hl3 hb3 (by rw [hn3, hf0]; exact hzz)
  have HB3 : Hid (Below w.heap.size w w3) := HB2.out.trans (hk3.below HLo2.out (by omega))
  have HLl := Hid.mk hlp.lt
  have HA := Hid.mk (And.intro hl3 (And.intro ht3 (And.intro hn3 hf0)))
  have HFl := Hid.mk hFl
  clear h3 hd3 hk3 i3 hf3 hl3 hb3 ht3 hn3 hlp hFl hf0 hzz
  go_wp2_with fail
  refine h4.mono ?_
  rintro e w4 ⟨S4, rfl, hd4, hlp4, hk4, i4, hf4, hl4, hs4⟩
  have HF : Hid (Live w w4 (more F2 w3 w4) p l n S4 { L3 with begun := true, ep := L3.top + 1, tail := 0, head := 0 } ∧ Snd S4 0 n (2 * 4294967296) 2) := by
    refine ⟨⟨hd4, hlp4, fun hm => ?_, fun k hk => ?_, by omega, HB3.out.trans (hk4.below (fun k hk => ?_) (by omega)), i4, hf4, HA.out.1.trans hl4.symm, rfl, by show L3.top + 1 = 2; rw [HA.out.2.1], HA.out.2.2.1, HA.out.2.2.2⟩, ?_⟩
    · rcases hm with hm | hm
      · exact HFl.out hm
      · have := HLl.out; omega
    · rcases hk with hk | hk
      · exact HLo2.out k hk
      · omega
    · rcases hk with hk | hk
      · exact HLo2.out k hk
      · omega
    · rw [HA.out.2.1, HA.out.2.2.1, HA.out.2.2.2] at hs4
      exact hs4
  clear h4 hd4 hlp4 hk4 i4 hf4 hl4 hs4
  go_wp2
  go_ret2
  exact ⟨_, _, _, _, _, rfl, HF.out.1, rfl, rfl, HF.out.2⟩

section
variable {w wr w' : World} {F : Nat → Prop} {p l n : Nat} {S S' : DS} {L L' : LG}

theorem Live.next (h : Live w wr F p l n S L) (hd : DiskR w' (more F wr w') p (n + 2) S') (hl : LogP w' l p L') (hk : Keeps (fun k => F k ∨ k = l) wr w') (hi : Inv S' (n + 2) [L'] 3) (hf : S'.fuse = -1) (hlf : S'.life = S.life) (ha : L'.life = L.life) (hb : L'.begun = true) (he : L'.ep = 2) (hn : L'.n = L.n) (h0 : L'.f = L.f) : Live w w' (more F wr w') p l n S' L' := by
  have hz := h.b.size
  refine ⟨hd, hl, fun hm => ?_, fun k hk => ?_, h.lo, h.b.trans (hk.below (fun k hk => ?_) hz), hi, hf, by rw [ha, hlf, h.a], hb, he, hn.trans h.n', h0.trans h.f0⟩
  · rcases hm with hm | hm
    · exact h.nf hm
    · have := h.lp.lt; omega
  · rcases hk with hk | hk
    · exact h.fF k hk
    · omega
  · rcases hk with hk | hk
    · exact h.fF k hk
    · rw [hk]; exact h.lo
theorem Live.later (h : Live w wr F p l n S L) (hb : Below wr.heap.size wr w') : Live w w' F p l n S L :=
  ⟨h.d.later hb, h.lp.later hb, h.nf, h.fF, h.lo, h.b.trans (hb.mono h.b.size), h.i, h.f, h.a, h.g, h.e, h.n', h.f0⟩
theorem live_trim (h : Live w wr F p l n S L) : Calls Try.prog 48 #[.pointer (some ⟨l, 0, none⟩)] wr fun e w' => e = .returned (.int .i64 0) ∧ ∃ F' S', Live w w' F' p l n S' { L with tail := L.head } := by
  obtain ⟨z1, z2, z3, z4⟩ := trim_calm (i := 0) h.i rfl h.f h.a h.g
  refine (Trim_any h.d h.lp (h.i.at (i := 0) rfl).1 h.nf h.i.byt (by have := h.i.p6; omega)).mono ?_
  rintro e w' ⟨rfl, h2, h3, h4⟩
  have hI := h.i.trim (i := 0) rfl h2.ok
  rw [z4] at h3 hI
  exact ⟨by rw [z1], _, _, h.next h2 h3 h4 hI z2 z3 rfl h.g h.e rfl rfl⟩
theorem live_append (h : Live w wr F p l n S L) (a : Option Addr) (x k : Nat) (d : List Int) (hs : Src wr a x d) (hF : ∀ y, a = some y → 0 < x → ¬ F y.block) (hd : Bytes d) (hxk : x ≤ k) (hx : x ≤ 140737488355328) (h1 : 1 ≤ x) (h2 : x ≤ 8364) (hp : L.head + 17 ≤ 1073741824) :
    Calls Try.prog 7 #[.pointer (some ⟨l, 0, none⟩), .slice a x k] wr fun e w' => ∃ F' S', (L.head + cntOf x ≤ L.tail + n ∧ e = .returned (.int .i64 0) ∧ Live w w' F' p l n S' { L with head := L.head + cntOf x }) ∨ (L.tail + n < L.head + cntOf x ∧ e = .returned (.int .i64 40) ∧ Live w w' F' p l n S' L) := by
  have hx' := hs.1
  obtain ⟨z1, z2, z3, z4⟩ := append_room (i := 0) (d := d) h.i rfl h.f h.a h.g (by omega) (by omega) hp
  refine (Append_any h.d h.lp (h.i.at (i := 0) rfl).1 h.nf a x k d hs hF hd hxk hx (by have := h.i.p6; omega)).mono ?_
  rintro e w' ⟨rfl, h5, h6, h7⟩
  have hI := h.i.append (i := 0) (d := d) rfl hd h5.ok
  refine ⟨more F wr w', (L.append S (n + 2) d).2.1, ?_⟩
  by_cases q : L.head + cntOf x ≤ L.tail + n
  · left
    obtain ⟨e1, e2⟩ := z3 (by rw [hx', h.n']; exact q)
    rw [e2] at h6 hI
    rw [hx'] at h6 hI
    exact ⟨q, by rw [e1], h.next h5 h6 h7 hI z1 z2 rfl h.g h.e rfl rfl⟩
  · right
    obtain ⟨e1, e2⟩ := z4 (by rw [hx', h.n']; omega)
    rw [e2] at h6 hI
    exact ⟨by omega, by rw [e1], h.next h5 h6 h7 hI z1 z2 rfl h.g h.e rfl rfl⟩
theorem live_sync (h : Live w wr F p l n S L) : Calls Try.prog 12 #[.pointer (some ⟨l, 0, none⟩)] wr fun e w' => e = .returned (.int .i64 0) ∧ ∃ F', Live w w' F' p l n (S.fl (n + 2)).2 L := by
  obtain ⟨z1, z2⟩ := sync_calm (s := n + 2) h.f h.a h.g
  refine (Sync_any h.d h.lp h.nf (by have := h.i.p6; omega)).mono ?_
  rintro e w' ⟨rfl, h2, h3, h4⟩
  have hI := h.i.sync (i := 0) (L := L) rfl
  rw [z1] at h2 hI
  exact ⟨by rw [z1, z2], _, h.next h2.more h3 (h4.mono (fun _ h => .inl h)) hI (fl_calm h.f _) (fl_life _ _) rfl h.g h.e rfl rfl⟩
end
end Go.Proofs.Ythdgndbmecnimaa
end

section
namespace Go.Proofs.Ythdgndbmecnimaa
open Go.RowKit

theorem RecsAt.form {W : World} {B : Nat} {v : Value} {rs : List (List Int)} {X : Nat → Prop} (h : RecsAt W B v rs X) : ∃ a c, v = .slice a rs.length c ∧ ∀ i (hi : i < rs.length), ∃ b g x y, a = some ⟨b, 0, none⟩ ∧ W.cell? ⟨b, i, none⟩ = some (.slice (some ⟨g, 0, none⟩) (rs[i]).length y) ∧ Src W (some ⟨g, 0, none⟩) (rs[i]).length rs[i] ∧ x = g ∧ b < W.heap.size := by
  obtain ⟨vs, h1, _, h2⟩ := h
  by_cases h0 : rs.length = 0
  · obtain ⟨hl, ⟨rfl, h3⟩ | ⟨g, cap, cur, rfl, hg, hb, h4⟩⟩ := h1
    · exact ⟨none, 0, by rw [h0], fun i hi => by omega⟩
    · exact ⟨_, _, rfl, fun i hi => by omega⟩
  · obtain ⟨g, c, rfl, hg, hr, _⟩ := RowAt.of_owns h1 (by
      intro e
      obtain ⟨hl, ⟨rfl, h3⟩ | ⟨g, cap, cur, rfl, hg, hb, h4⟩⟩ := h1
      · exact h0 h3
      · cases e)
    refine ⟨_, _, rfl, fun i hi => ?_⟩
    obtain ⟨g2, c2, e1, e2, e3, _⟩ := h2 i hi
    exact ⟨g, g2, g2, c2, rfl, hr.cell e1, by have := e2.src; simpa using this, rfl, hr.lt⟩

set_option maxRecDepth 20000 in
set_option maxHeartbeats 2000000 in
theorem alike_any {w : World} {B B' : Nat} {v u : Value} {rs : List (List Int)} {X X' : Nat → Prop} (h1 : RecsAt w B v rs X) (h2 : RecsAt w B' u rs X') (hn : rs.length ≤ 1000000) (hl : ∀ i (hi : i < rs.length), (rs[i]).length ≤ 1000000) :
    Calls Try.prog 14 #[v, u] w fun e w' => e = .returned (.bool true) ∧ Below w.heap.size w w' := by
  obtain ⟨a, c, rfl, k1⟩ := h1.form
  obtain ⟨a', c', rfl, k2⟩ := h2.form
  have H1 := Hid.mk k1
  have H2 := Hid.mk k2
  clear h1 h2 k1 k2
  go_enter Try.func14, Try.ntmps14
  go_wp2
  go_loopw [5] (fun i wr => ∃ j : Nat, j ≤ rs.length ∧ i = .int .i64 (j : Int) ∧ Below w.heap.size w wr) (fun i _ => rs.length - (intOf i).toNat)
  case atStart => exact ⟨0, Nat.zero_le _, rfl, Below.refl _ _⟩
  case round =>
    obtain ⟨j, hj, rfl, hbr⟩ := hrel
    have HB := Hid.mk hbr
    have hz := hbr.size
    by_cases hlt : j < rs.length
    · have hlt' : (j : Int) < (rs.length : Int) := by omega
      obtain ⟨b, g, x, y, rfl, c1, s1, _, hb1⟩ := H1.out j hlt
      obtain ⟨b', g', x', y', rfl, c2, s2, _, hb2⟩ := H2.out j hlt
      have c1 := cell_later hbr c1
      have c2 := cell_later hbr c2
      have h3 := same_any (some ⟨g, 0, none⟩) (some ⟨g', 0, none⟩) (rs[j]).length y y' rs[j] wr.drew (by have := hl j hlt; omega) ((s1.later hbr).later (below_drew (Below.refl wr.heap.size wr))) ((s2.later hbr).later (below_drew (Below.refl wr.heap.size wr)))
      clear hbr s1 s2
      go_wp2_with fail
      go_region_held3 (fun w' => w'.cell? ⟨b, j, none⟩ = some (.slice (some ⟨g, 0, none⟩) (rs[j]).length y) ∧ w'.cell? ⟨b', j, none⟩ = some (.slice (some ⟨g', 0, none⟩) (rs[j]).length y'))
        (first | exact ⟨c1, c2⟩ | exact ⟨cell_later hw1 c1, cell_later hw1 c2⟩)
        ((go_at_call 10; refine h3.mono ?_; rintro e w1 ⟨rfl, hw1⟩))
      have HB1 : Hid (Below w.heap.size w w1) := HB.out.trans ((below_drew (Below.refl wr.heap.size wr)).trans hw1 |>.mono hz)
      clear h3 hw1
      go_wp2
      go_roundw
      case rel => exact ⟨j + 1, by omega, by go_num, HB1.out⟩
      case measure => simp [intOf]; omega
    · obtain rfl : j = rs.length := by omega
      have hge : ¬ (rs.length : Int) < (rs.length : Int) := by omega
      go_wp2
      go_ret
      exact ⟨rfl, HB.out⟩
end Go.Proofs.Ythdgndbmecnimaa
end

section

end

section
namespace Go.Proofs.Ythdgndbmecnimaa
open Go.RowKit Go.Maps

/-- A whole block of bytes. -/
def Full (w : World) (g : Nat) (l : List Int) : Prop := w.heap[g]? = some (.cells (bs l).toArray 5 (0, 0))
section
variable {w w' : World} {g g' : Nat} {l : List Int}
theorem Full.lt (h : Full w g l) : g < w.heap.size := (Array.getElem?_eq_some_iff.1 h).1
theorem Full.row (h : Full w g l) (hm : l.length ≤ maxLen) : RowAt w 5 g l.length (bs l) := by
  have := RowAt.of_full h (by simpa [bs] using hm)
  simpa [bs] using this
theorem Full.set (h : Full w g l) (i : Nat) (x : Int) : Full (w.setCell ⟨g, i, none⟩ (.int .u8 x)) g (l.set i x) := by
  refine (heap_setCell_same _ _ i _ _ _ h).trans ?_
  simp [bs, List.map_set]
theorem Full.agree (h : Full w g l) (e : w'.heap[g]? = w.heap[g]?) : Full w' g l := e.trans h
theorem Full.later (h : Full w g l) (hb : Below w.heap.size w w') : Full w' g l := (hb.block g h.lt).trans h
theorem Full.cell (h : Full w g l) {i : Nat} (hi : i < l.length) : w.cell? ⟨g, i, none⟩ = some (.int .u8 (l.getD i 0)) := by
  refine cell_of_block h (u := .int .u8 (l.getD i 0)) ?_
  simp [bs, hi, List.getD]
theorem Full.frozen (h : Full w g l) (i : Nat) : w.frozen? ⟨g, i, none⟩ = false := frozen_of_block h i
theorem below_set {B : Nat} (h : Below B w w') (hg : B ≤ g) (hB : B ≤ w'.heap.size) (i : Nat) (x : Value) : Below B w (w'.setCell ⟨g, i, none⟩ x) :=
  h.trans ((Keeps.setCell (F := fun k => k = g) w' (p := ⟨g, i, none⟩) rfl x).below (fun k e => by rw [e]; exact hg) hB)
theorem Full.src (h : Full w g l) (n : Nat) (hn : n ≤ l.length) : Src w (some ⟨g, 0, none⟩) n (l.take n) := by
  refine ⟨by rw [List.length_take]; omega, (fun e => by cases e), fun y e i hi => ?_⟩
  cases e
  rw [addr_add, Nat.zero_add, h.cell (by omega)]
  simp [List.getD, hi]
end

set_option maxRecDepth 20000 in
set_option maxHeartbeats 4000000 in
/-- A new list with the bytes of another one, and k bytes of room behind them. -/
theorem exact_any (a : Option Addr) (n c : Nat) (l : List Int) (w : World) (hn : n ≤ 140737488355328) (hs : Src w a n l) :
    Calls Try.prog 9 #[.slice a n c] w fun e w' => e = .returned (.slice (some ⟨w.heap.size, 0, none⟩) n n) ∧ Full w' w.heap.size l ∧ Below w.heap.size w w' := by
  obtain ⟨i0, hi, hz0, hz1, hz2⟩ := info_parts infoU8
  have H := Hid.mk hs
  clear hs
  go_enter Try.func9, Try.ntmps9
  go_wp2_with (at_make; refine wpList_make_full _ rfl _ _ 27 rfl w.heap.size 5 i0 (.int .u8 0) 1 Try.underlying27 hi hz0 hz1 _ _ _ _ n rfl rfl ?c1 ?c2 ?c3 ?c4 ?c5 ?_)
  case c1 => rfl
  case c2 => rfl
  case c3 => rw [hz2]; omega
  case c4 => unfold maxLen; omega
  case c5 => exact Nat.le_refl _
  intro w1 hown hgrow
  have hr := made_row hown
  have hb : Below w.heap.size w w1 := (Below.refl _ w).grown hgrow (Nat.le_refl _) (by intro k hk; cases hk)
  have hf := hr.full (by simp [bs])
  have hs1 := H.out.later hb
  have hl := H.out.1
  clear hown hgrow
  obtain ⟨w2, hrun, hh, hk, _⟩ := copy_run w1 3 (some ⟨w.heap.size, 0, none⟩) w.heap.size 0 n n a n c (bs (List.replicate n 0)) l hf hs1 (fun _ => rfl) (by simp [bs])
  have HB : Hid (Below w.heap.size w w2) := hb.trans (hk.below (fun k h => by omega) hb.size)
  have HF : Hid (Full w2 w.heap.size l) := by
    have e : splice (bs (List.replicate n 0)) 0 (bs (l.take n)) = bs l := by
      rw [List.take_of_length_le (by omega)]
      simp [splice, bs]; omega
    rw [e] at hh
    exact hh
  clear hh hf hr hs1 hb hk hi hz0 hz1 hz2 H
  go_wp2
  clear hrun
  go_ret
  exact ⟨rfl, HF.out, HB.out⟩

set_option maxRecDepth 20000 in
set_option maxHeartbeats 4000000 in
theorem hand_any (a : Option Addr) (n c : Nat) (l : List Int) (w : World) (hn : n + 3 ≤ 140737488355328) (hs : Src w a n l) :
    Calls Try.prog 6 #[.slice a n c] w fun e w' => e = .returned (.slice (some ⟨w.heap.size, 0, none⟩) n (n + 3)) ∧ Full w' w.heap.size (l ++ [171, 171, 171]) ∧ Below w.heap.size w w' := by
  obtain ⟨i0, hi, hz0, hz1, hz2⟩ := info_parts infoU8
  have H := Hid.mk hs
  have x1 : IntKind.i64.wrap ((n : Int) + 3) = ((n + 3 : Nat) : Int) := by rw [IntKind.wrap_i64]; all_goals omega
  have x2 : wrap64 ((n : Int) + 3) = ((n + 3 : Nat) : Int) := by unfold wrap64; omega
  obtain ⟨m, hm⟩ : ∃ m, m = n + 3 := ⟨_, rfl⟩
  have Hm := Hid.mk hm
  rw [← hm] at x1 x2 hn ⊢
  clear hs hm
  go_enter Try.func6, Try.ntmps6
  go_wp2_with (at_make; refine wpList_make_full _ rfl _ _ 27 rfl w.heap.size 5 i0 (.int .u8 0) 1 Try.underlying27 hi hz0 hz1 _ _ _ _ m rfl rfl ?c1 ?c2 ?c3 ?c4 ?c5 ?_)
  case c1 => rfl
  case c2 => rfl
  case c3 => rw [hz2]; omega
  case c4 => unfold maxLen; omega
  case c5 => exact Nat.le_refl _
  intro w1 hown hgrow
  have hr := made_row hown
  have hb : Below w.heap.size w w1 := (Below.refl _ w).grown hgrow (Nat.le_refl _) (by intro k hk; cases hk)
  have hf := hr.full (by simp [bs])
  have hs1 := H.out.later hb
  have hl := H.out.1
  clear hown hgrow
  obtain ⟨w2, hrun, hh, hk, _⟩ := copy_run w1 3 (some ⟨w.heap.size, 0, none⟩) w.heap.size 0 m m a n c (bs (List.replicate m 0)) l hf hs1 (fun _ => rfl) (by simp [bs])
  have HB : Hid (Below w.heap.size w w2) := hb.trans (hk.below (fun k h => by omega) hb.size)
  have HF : Hid (Full w2 w.heap.size (l ++ (List.replicate 0 171 ++ List.replicate (3 - 0) 0))) := by
    have hmm := Hm.out
    have e : splice (bs (List.replicate m 0)) 0 (bs (l.take m)) = bs (l ++ (List.replicate 0 171 ++ List.replicate (3 - 0) 0)) := by
      rw [List.take_of_length_le (by omega)]
      have : m - n = 3 := by omega
      simp [splice, bs, hl, this]
    rw [e] at hh
    exact hh
  clear hh hf hr hs1 hb hk hi hz0 hz1 hz2
  go_wp2
  clear hrun
  go_loopw [4] (fun i wr => ∃ k : Nat, k ≤ 3 ∧ i = .int .i64 ((n + k : Nat) : Int) ∧ Full wr w.heap.size (l ++ (List.replicate k 171 ++ List.replicate (3 - k) 0)) ∧ Below w.heap.size w wr) (fun i _ => m - (intOf i).toNat)
  case atStart => exact ⟨0, Nat.zero_le _, rfl, HF.out, HB.out⟩
  case round =>
    clear HF HB
    obtain ⟨k, hk, rfl, hF, hB⟩ := hrel
    have hmm := Hm.out
    have hn0 : (0 : Int) ≤ ((n + k : Nat) : Int) := by omega
    by_cases hlt : k < 3
    · have hlt' : ((n + k : Nat) : Int) < (m : Int) := by omega
      have hlt2 : n + k < m := by omega
      have hc := hF.cell (i := n + k) (by simp [hl]; omega)
      have hfz := hF.frozen (n + k)
      have hs2 : (l ++ (List.replicate k 171 ++ List.replicate (3 - k) 0)).set (n + k) 171 = l ++ (List.replicate (k + 1) 171 ++ List.replicate (3 - (k + 1)) 0) := by
        rw [List.set_append_right _ _ (by omega), hl, show n + k - n = k by omega, List.set_append_right _ _ (by simp), List.length_replicate, Nat.sub_self, show 3 - k = (3 - (k + 1)) + 1 by omega, List.replicate_succ, List.set_cons_zero, List.replicate_succ', List.append_assoc]
        rfl
      have HF := Hid.mk (hF.set (n + k) 171)
      rw [hs2] at HF
      have HB := Hid.mk (below_set (g := w.heap.size) hB (Nat.le_refl _) hB.size (n + k) (.int .u8 171))
      have Hlt := Hid.mk (And.intro hlt hmm)
      clear hF hB hs2 hmm hlt
      obtain ⟨q, hq⟩ : ∃ q, q = n + k := ⟨_, rfl⟩
      have Hq := Hid.mk hq
      rw [← hq] at hc hfz hlt' hlt2 hn0 HF HB ⊢
      have hq4 : q + 1 < 9223372036854775807 := by omega
      clear hq
      go_wp2
      go_roundw
      case rel => exact ⟨k + 1, by have := Hlt.out.1; omega, by rw [Hq.out]; go_num, HF.out, HB.out⟩
      case measure => simp [intOf]; omega
    · obtain rfl : k = 3 := by omega
      have hlt' : ¬ ((n + 3 : Nat) : Int) < (m : Int) := by omega
      have HF := Hid.mk hF
      have HB := Hid.mk hB
      have hnm : (n : Int) ≤ (m : Int) := by omega
      clear hF hB hmm
      go_wp2
      go_ret
      exact ⟨rfl, HF.out, HB.out⟩
end Go.Proofs.Ythdgndbmecnimaa
end

section
namespace Go.Proofs.Ythdgndbmecnimaa
open Go.RowKit Go.Maps

set_option maxRecDepth 20000 in
set_option maxHeartbeats 4000000 in
/-- A list that holds its mark alone. -/
theorem full_low (b o n c : Nat) (m : Int) (w : World) (hn : n ≤ 140737488355328) (h : ∀ i, i < n → w.cell? ⟨b, o + i, none⟩ = some (.int .u8 m)) :
    Calls Try.prog 43 #[.slice (some ⟨b, o, none⟩) n c, .int .u8 m, .int .i64 (n : Int)] w fun e w' => e = .returned (.bool true) ∧ Below w.heap.size w w' := by
  have hnn : (((n : Int)) != (n : Int)) = false := by simp
  have hmm : (m != m) = false := by simp
  have H := Hid.mk h
  clear h
  go_enter Try.func43, Try.ntmps43
  go_wp2
  go_loopw [7] (fun i wr => ∃ k : Nat, k ≤ n ∧ i = .int .i64 k ∧ Below w.heap.size w wr) (fun i _ => n - (intOf i).toNat)
  case atStart => exact ⟨0, Nat.zero_le _, rfl, Below.refl _ _⟩
  case round =>
    obtain ⟨k, hk, rfl, hb⟩ := hrel
    have HB := Hid.mk hb
    by_cases hlt : k < n
    · have c1 := cell_later hb (H.out k hlt)
      have hlt' : (k : Int) < (n : Int) := by omega
      have hk0 : (0 : Int) ≤ (k : Int) := by omega
      clear hb
      go_wp2
      go_roundw
      case rel => exact ⟨k + 1, by omega, by go_num, HB.out⟩
      case measure => simp [intOf]; omega
    · have hlt' : ¬ (k : Int) < (n : Int) := by omega
      clear hb
      go_wp2
      go_ret
      exact ⟨rfl, HB.out⟩
set_option maxRecDepth 20000 in
set_option maxHeartbeats 1000000 in
theorem full_zero (a : Option Addr) (c : Nat) (m : Int) (w : World) :
    Calls Try.prog 43 #[.slice a 0 c, .int .u8 m, .int .i64 0] w fun e w' => e = .returned (.bool true) ∧ w' = w := by
  go_enter Try.func43, Try.ntmps43
  go_wp2
  refine wp_loop_rounds 1 ?_; rw [rounds_succ]; go_wp2
  go_ret
  exact ⟨rfl, rfl⟩
theorem full_any (a : Option Addr) (n c : Nat) (m : Int) (w : World) (hn : n ≤ 140737488355328) (h : Src w a n (List.replicate n m)) :
    Calls Try.prog 43 #[.slice a n c, .int .u8 m, .int .i64 (n : Int)] w fun e w' => e = .returned (.bool true) ∧ Below w.heap.size w w' := by
  by_cases h0 : n = 0
  · subst h0
    exact (full_zero a c m w).mono (by rintro e w' ⟨rfl, rfl⟩; exact ⟨rfl, Below.refl _ _⟩)
  · cases a with
    | none => exact absurd (h.2.1 rfl) h0
    | some x =>
      obtain ⟨b, o, rfl, k⟩ := h.spot (by omega)
      refine full_low b o n c m w hn (fun i hi => ?_)
      rw [k i hi]
      simp [List.getD, hi]

set_option maxRecDepth 20000 in
set_option maxHeartbeats 8000000 in
/-- What was handed in is looked at, and written over. -/
theorem back_any (g : Nat) (a : Option Addr) (n c : Nat) (l : List Int) (w : World) (hn : n + 3 ≤ 140737488355328) (hl : l.length = n) (hF : Full w g (l ++ [171, 171, 171])) (hs : Src w a n l) :
    Calls Try.prog 8 #[.slice (some ⟨g, 0, none⟩) n (n + 3), .slice a n c] w fun e w' => e = .returned (.bool true) ∧ Keeps (fun k => k = g) w w' := by
  have x1 : IntKind.i64.wrap ((n : Int) + 3) = ((n + 3 : Nat) : Int) := by rw [IntKind.wrap_i64]; all_goals omega
  have x2 : wrap64 ((n : Int) + 3) = ((n + 3 : Nat) : Int) := by unfold wrap64; omega
  obtain ⟨m, hm⟩ : ∃ m, m = n + 3 := ⟨_, rfl⟩
  have Hm := Hid.mk hm
  have hsr := hF.src n (by simp [hl])
  rw [List.take_left' hl] at hsr
  have hsm := same_any (some ⟨g, 0, none⟩) a n (n + 3) c l w (by omega) hsr hs
  rw [← hm] at x1 x2 hn hsm ⊢
  have hnm : (n : Int) ≤ (m : Int) := by omega
  have HF := Hid.mk hF
  clear hs hm hsr hF
  go_enter Try.func8, Try.ntmps8
  go_wp2_with fail
  refine hsm.mono ?_
  rintro e w1 ⟨rfl, hb1⟩
  have HF1 := Hid.mk (HF.out.later hb1)
  have HK1 := Hid.mk (Keeps.of_below (fun k => k = g) hb1)
  clear hsm hb1 HF
  go_wp2
  go_loopw [5, 7] (fun v i wr => ∃ k : Nat, k ≤ 3 ∧ v = .bool true ∧ i = .int .i64 ((n + k : Nat) : Int) ∧ Full wr g (l ++ [171, 171, 171]) ∧ Keeps (fun k => k = g) w wr) (fun _ i _ => m - (intOf i).toNat)
  case atStart => exact ⟨0, Nat.zero_le _, rfl, rfl, HF1.out, HK1.out⟩
  case round =>
    clear HF1 HK1
    obtain ⟨k, hk, rfl, rfl, hF, hK⟩ := hrel
    have hmm := Hm.out
    have hn0 : (0 : Int) ≤ ((n + k : Nat) : Int) := by omega
    by_cases hlt : k < 3
    · have hlt' : ((n + k : Nat) : Int) < (m : Int) := by omega
      have hlt2 : n + k < m := by omega
      have hc := hF.cell (i := n + k) (by simp [hl]; omega)
      have hg : (l ++ [171, 171, 171]).getD (n + k) 0 = 171 := by
        rw [List.getD, List.getElem?_append_right (by omega), hl, show n + k - n = k by omega]
        rcases (show k = 0 ∨ k = 1 ∨ k = 2 by omega) with rfl | rfl | rfl <;> rfl
      rw [hg] at hc
      have HR := Hid.mk (And.intro hF hK)
      have Hlt := Hid.mk (And.intro hlt hmm)
      clear hF hK hg hmm hlt
      obtain ⟨q, hq⟩ : ∃ q, q = n + k := ⟨_, rfl⟩
      have Hq := Hid.mk hq
      rw [← hq] at hc hlt' hlt2 hn0 ⊢
      have hq4 : q + 1 < 9223372036854775807 := by omega
      clear hq
      go_wp2
      go_roundw
      case rel => exact ⟨k + 1, by have := Hlt.out.1; omega, rfl, by rw [Hq.out]; go_num, HR.out⟩
      case measure => simp [intOf]; omega
    · obtain rfl : k = 3 := by omega
      have hlt' : ¬ ((n + 3 : Nat) : Int) < (m : Int) := by omega
      have HN : Hid (∃ t : List Int, t.length = m ∧ Full wr g t ∧ Keeps (fun k => k = g) w wr) := ⟨_, by simp [hl]; omega, hF, hK⟩
      clear hF hK hmm
      go_wp2
      go_loopw [8] (fun i wr => ∃ k : Nat, k ≤ m ∧ i = .int .i64 (k : Int) ∧ ∃ t : List Int, t.length = m ∧ Full wr g t ∧ Keeps (fun k => k = g) w wr) (fun i _ => m - (intOf i).toNat)
      case atStart => exact ⟨0, Nat.zero_le _, rfl, HN.out⟩
      case round =>
        clear HN
        obtain ⟨k, hk, rfl, t, ht, hF, hK⟩ := hrel
        by_cases hlt : k < m
        · have hlt' : (k : Int) < (m : Int) := by omega
          have hk0 : (0 : Int) ≤ (k : Int) := by omega
          have hc := hF.cell (i := k) (by omega)
          have hfz := hF.frozen k
          have HN : Hid (∃ t : List Int, t.length = m ∧ Full (wr.setCell ⟨g, k, none⟩ (.int .u8 213)) g t ∧ Keeps (fun k => k = g) w (wr.setCell ⟨g, k, none⟩ (.int .u8 213))) := ⟨_, by simp [ht], hF.set k 213, hK.trans (Keeps.setCell (F := fun k => k = g) wr (p := ⟨g, k, none⟩) rfl _) (fun k e => .inl e)⟩
          clear hF hK
          go_wp2
          go_roundw
          case rel => exact ⟨k + 1, by omega, by go_num, HN.out⟩
          case measure => simp [intOf]; omega
        · have hlt' : ¬ (k : Int) < (m : Int) := by omega
          have HK := Hid.mk hK
          clear hF hK
          go_wp2
          go_ret
          exact ⟨rfl, HK.out⟩
end Go.Proofs.Ythdgndbmecnimaa
end

section
namespace Go.Proofs.Ythdgndbmecnimaa
open Go.RowKit Go.Maps

/-- A byte with the law's bits turned over. -/
def turn5 (x : Int) : Int := bits .xor .u8 x 91
/-- The first k bytes turned. -/
def turnTo (l : List Int) (k : Nat) : List Int := (l.take k).map turn5 ++ l.drop k
theorem turnTo_len (l : List Int) (k : Nat) : (turnTo l k).length = l.length := by
  simp [turnTo, List.length_take, List.length_drop]; omega
theorem turnTo_at {l : List Int} {k : Nat} (hk : k < l.length) : (turnTo l k).getD k 0 = l[k] := by
  unfold turnTo
  rw [List.getD, List.getElem?_append_right (by simp; omega)]
  simp [List.length_take, Nat.min_eq_left (Nat.le_of_lt hk), hk]
theorem turnTo_set {l : List Int} {k : Nat} (hk : k < l.length) : (turnTo l k).set k (turn5 l[k]) = turnTo l (k + 1) := by
  unfold turnTo
  have hlen : ((l.take k).map turn5).length = k := by simp; omega
  rw [List.set_append_right _ _ (by omega), hlen, Nat.sub_self, List.drop_eq_getElem_cons hk, List.set_cons_zero, List.take_succ_eq_append_getElem hk, List.map_append, List.append_assoc]
  rfl
theorem turnTo_all (l : List Int) : turnTo l l.length = l.map turn5 := by simp [turnTo]

set_option maxRecDepth 20000 in
set_option maxHeartbeats 8000000 in
theorem turned_any (g n : Nat) (l : List Int) (w : World) (hn : n ≤ 140737488355328) (hl : l.length = n) (hF : Full w g l) :
    Calls Try.prog 11 #[.slice (some ⟨g, 0, none⟩) n n] w fun e w' => ∃ v, e = .returned v ∧ w'.ownsRow w.heap.size 5 1 v n (bs (l.map turn5)) ∧ Full w' g (l.map turn5) ∧ Keeps (fun k => k = g) w w' := by
  obtain ⟨i0, hi, hz0, hz1, hz2⟩ := info_parts infoU8
  have HF := Hid.mk hF
  clear hF
  go_enter Try.func11, Try.ntmps11
  go_wp2
  go_loopw [3] (fun i wr => ∃ k : Nat, k ≤ n ∧ i = .int .i64 (k : Int) ∧ Full wr g (turnTo l k) ∧ Keeps (fun k => k = g) w wr) (fun i _ => n - (intOf i).toNat)
  case atStart => exact ⟨0, Nat.zero_le _, rfl, HF.out, Keeps.refl _ _⟩
  case round =>
    clear HF
    obtain ⟨k, hk, rfl, hF, hK⟩ := hrel
    by_cases hlt : k < n
    · have hlt' : (k : Int) < (n : Int) := by omega
      have hk0 : (0 : Int) ≤ (k : Int) := by omega
      have hc := hF.cell (i := k) (by rw [turnTo_len]; omega)
      rw [turnTo_at (by omega)] at hc
      have hfz := hF.frozen k
      have hbits : bits .xor .u8 l[k] 91 = turn5 l[k] := rfl
      have HN := Hid.mk (And.intro (turnTo_set (l := l) (k := k) (by omega) ▸ hF.set k (turn5 l[k])) (hK.trans (Keeps.setCell (F := fun k => k = g) wr (p := ⟨g, k, none⟩) rfl (.int .u8 (turn5 l[k]))) (fun k e => .inl e)))
      generalize l[k] = x at *
      generalize turn5 x = y at *
      clear hF hK
      go_wp2
      go_roundw
      case rel => exact ⟨k + 1, by omega, by go_num, HN.out⟩
      case measure => simp [intOf]; omega
    · obtain rfl : k = n := by omega
      have hlt' : ¬ (k : Int) < (k : Int) := by omega
      rw [← hl, turnTo_all] at hF
      have HF := Hid.mk hF
      have HK := Hid.mk hK
      have hbx := below_box wr (.cells #[] 5)
      have hq : (wr.alloc (.cells #[] 5)).heap[wr.heap.size]? = some (.cells #[] 5 (0, 0)) := heap_alloc_new _ _
      have hwz := hK.size
      have HO : Hid ((wr.alloc (.cells #[] 5)).ownsRow w.heap.size 5 1 (.slice (some ⟨wr.heap.size, 0, none⟩) 0 0) 0 []) := ⟨rfl, .inr ⟨wr.heap.size, 0, #[], rfl, hwz, hq, Nat.le_refl _, Nat.zero_le _, rfl, rfl⟩⟩
      obtain ⟨X, hX⟩ : ∃ X, X = bs (l.map turn5) := ⟨_, rfl⟩
      have hsrc : ∀ (j : Nat) (u : Value), X[j]? = some u → (wr.alloc (.cells #[] 5)).cell? (Addr.add ⟨g, 0, none⟩ j) = some u := fun j u hu => by
        rw [hX] at hu
        rw [addr_add, Nat.zero_add]
        exact cell_later hbx (cell_of_block (j := j) hF (by simpa using hu))
      have hone : ∀ u ∈ X, u.oneCell' = true := by rw [hX]; exact bs_one _
      have hXl : X.length = k := by rw [hX]; simp [bs, hl]
      have HS := Hid.mk (And.intro hsrc (And.intro hone (And.intro hXl hX)))
      have HX := Hid.mk hbx
      clear hF hK hsrc hbx hq hone hXl hX
      go_wp2_with (at_builtin; refine wpList_append_own _ rfl _ _ 27 rfl w.heap.size 5 i0 (.int .u8 0) 1 1 Try.underlying27 hi hz0 hz1 hz2 rfl (by decide) _ _ _ rfl HO.out ⟨g, 0, none⟩ k k X rfl ?n0 ?n1 ?n2 ?n3 ?n4 ?n5 ?_)
      case n0 => rw [HS.out.2.2.1]
      case n1 => intro j u hu; have := HS.out.1 j u hu; rw [addr_add, Nat.zero_add] at this; exact this
      case n2 => exact HS.out.2.1
      case n3 => unfold maxLen; omega
      case n5 => first | omega | (simp; omega)
      intro v' w2 hown' hgrow hnil
      have hb2 : Below wr.heap.size wr w2 := HX.out.grown hgrow (by simp) (fun q e => by cases e; exact Nat.le_refl _)
      have hk2 : Keeps (fun k => k = g) w w2 := HK.out.trans (Keeps.of_below (fun k => k = g) hb2) (fun k e => .inl e)
      have hf2 : Full w2 g (l.map turn5) := HF.out.later hb2
      have ho2 : w2.ownsRow w.heap.size 5 1 v' k (bs (l.map turn5)) := by
        rw [← HS.out.2.2.2]
        first | exact hown' | simpa using hown'
      have HR := Hid.mk (And.intro ho2 (And.intro hf2 hk2))
      clear hown' hgrow hnil hk2 hf2 ho2 hb2 HS HX HO
      go_wp2
      go_ret
      exact ⟨_, rfl, HR.out⟩
end Go.Proofs.Ythdgndbmecnimaa
end

section
namespace Go.Proofs.Ythdgndbmecnimaa
open Go.RowKit Go.Maps

section
variable {W W' w w' wr : World} {B : Nat} {e : TypeId} {v v' : Value} {n m : Nat} {xs : List Value} {g : Nat}
theorem rowBlock (h : W.ownsRow B e m v n xs) (hv : v.ownBlock = some g) : ∃ cur, W.heap[g]? = some (.cells cur e (0, 0)) := by
  obtain ⟨_, ⟨rfl, _⟩ | ⟨g', cap, cur, rfl, _, hb, _⟩⟩ := h
  · simp [Value.ownBlock] at hv
  · simp [Value.ownBlock] at hv
    subst hv
    exact ⟨cur, hb⟩
theorem rowAgree (h : W.ownsRow B e m v n xs) (hb : ∀ g, v.ownBlock = some g → W'.heap[g]? = W.heap[g]?) : W'.ownsRow B e m v n xs := by
  obtain ⟨hl, h | ⟨g, cap, cur, rfl, hg, hbk, h1⟩⟩ := h
  · exact ⟨hl, .inl h⟩
  · exact ⟨hl, .inr ⟨g, cap, cur, rfl, hg, (hb g rfl).trans hbk, h1⟩⟩
theorem rowLow (h : W.ownsRow B e m v n xs) (hv : v.ownBlock = some g) : B ≤ g := by
  obtain ⟨_, ⟨rfl, _⟩ | ⟨g', cap, cur, rfl, hg, hb, _⟩⟩ := h
  · simp [Value.ownBlock] at hv
  · simp [Value.ownBlock] at hv
    omega
theorem rowLt (h : W.ownsRow B e m v n xs) (hv : v.ownBlock = some g) : g < W.heap.size := by
  obtain ⟨cur, hc⟩ := rowBlock h hv
  exact (Array.getElem?_eq_some_iff.1 hc).1
theorem typeApart {cur cur' : Array Value} {t t' : TypeId} {fz fz' : Nat × Nat} (h : W.heap[g]? = some (.cells cur t fz)) (h' : W.heap[g]? = some (.cells cur' t' fz')) (ht : t ≠ t') : False := by
  rw [h] at h'
  cases h'
  exact ht rfl
theorem Src.past {a : Option Addr} {l : List Int} {F : Nat → Prop} (h : Src w a n l) (hk : Keeps F w w') (ha : ∀ y, a = some y → 0 < n → ¬ F y.block) : Src w' a n l :=
  ⟨h.1, h.2.1, fun x hx i hi => by
    have h0 := h.2.2 x hx i hi
    have hb : (x.add i).block = x.block := by unfold Addr.add; split <;> rfl
    rw [World.cell?_of_block (w := w) (hk.block _ (World.block_lt_of_cell? _ _ h0) (fun hf => by rw [hb] at hf; exact ha x hx (by omega) hf))]
    exact h0⟩
end

theorem app_list {W : World} {B k : Nat} {v : Value} {vs : List Value} (hrow : W.ownsRow B 27 1 v k vs) (x : Value) (hx : x.oneCell' = true) (hk : k ≤ 100000000) (hB : B ≤ W.heap.size) :
    ∃ g cap w', (Builtin.append_ #[22, 22] 22 #[v, .slice (some ⟨W.heap.size, 0, none⟩) 1 1]).run Try.prog (W.alloc (.cells #[x] 27)) = .ok (.slice (some ⟨g, 0, none⟩) (k + 1) cap) w' ∧ w'.ownsRow B 27 1 (.slice (some ⟨g, 0, none⟩) (k + 1) cap) (k + 1) (vs ++ [x]) ∧ (W.alloc (.cells #[x] 27)).grownBy w' v.ownBlock ∧ (v.ownBlock = some g ∨ g = W.heap.size + 1) := by
  obtain ⟨i0, hi, hz0, hz1, hz2⟩ := info_parts infoRow
  obtain ⟨g, cap, w', h1, h2, h3, h4, _⟩ := run_append_lies (P := Try.prog) (W.alloc (.cells #[x] 27)) 22 22 B 27 i0 (.slice none 0 0) 1 24 Try.underlying22 hi hz0 hz1 hz2 rfl (by decide) v k vs (rowAgree hrow (fun g hg => Below.heap_alloc _ _ _ (rowLt hrow hg))) ⟨W.heap.size, 0, none⟩ 1 1 [x] rfl (World.news_of_block (cs := #[x]) (t := 27) (fr := (0, 0)) (heap_alloc_new W _)) (by simpa using hx) (by omega) (by unfold maxLen; omega) (by omega) (by simp; omega) _ rfl
  exact ⟨g, cap, w', h1, h2, h3, h4.imp (fun e => e) (fun e => e.trans (by simp))⟩
end Go.Proofs.Ythdgndbmecnimaa
end

section
namespace Go.Proofs.Ythdgndbmecnimaa
open Go.RowKit Go.Maps

theorem nextcap_succ (old : Nat) : Builtin.nextslicecap (old + 1) old ≤ old + (old + 768) / 4 + 512 := by
  unfold Builtin.nextslicecap
  split
  · omega
  · split
    · omega
    · rw [growBy_four]
      repeat' split
      all_goals omega

/-- One more list at the end of a row of lists, as long as may be. -/
theorem app_list2 {W : World} {k : Nat} {v : Value} {vs : List Value} (hrow : W.ownsRow 0 27 1 v k vs) (x : Value) (hx : x.oneCell' = true) (hk : k ≤ 7000000000000) :
    ∃ g cap w', (Builtin.append_ #[22, 22] 22 #[v, .slice (some ⟨W.heap.size, 0, none⟩) 1 1]).run Try.prog (W.alloc (.cells #[x] 27)) = .ok (.slice (some ⟨g, 0, none⟩) (k + 1) cap) w' ∧ w'.ownsRow 0 27 1 (.slice (some ⟨g, 0, none⟩) (k + 1) cap) (k + 1) (vs ++ [x]) ∧ (W.alloc (.cells #[x] 27)).grownBy w' v.ownBlock ∧ (v.ownBlock = some g ∨ g = W.heap.size + 1) := by
  by_cases hs : k ≤ 100000000
  · exact app_list hrow x hx hs (Nat.zero_le _)
  · obtain ⟨i0, hi, hz0, hz1, hz2⟩ := info_parts infoRow
    have hcl := hrow
    obtain ⟨hl, ⟨_, h0⟩ | ⟨g, cap, cur, rfl, hg0, hb, hnc, hmc, hcs, ht⟩⟩ := hrow
    · omega
    · simp only [Nat.mul_one] at hl hcs ht
      have hb1 : (W.alloc (.cells #[x] 27)).heap[g]? = some (.cells cur 27 (0, 0)) := (Below.heap_alloc _ _ _ (Array.getElem?_eq_some_iff.1 hb).1).trans hb
      have hnews := World.news_of_block (cs := #[x]) (t := 27) (fr := (0, 0)) (heap_alloc_new W _)
      by_cases hroom : k + 1 ≤ cap
      · have hr := run_append_room (P := Try.prog) (W.alloc (.cells #[x] 27)) 22 22 27 i0 Try.underlying22 hi g k cap cur hb1 ⟨W.heap.size, 0, none⟩ 1 1 [x] (by rw [hz1]; rfl) hnews (by simpa using hx) hroom (by rw [hz1]; simp; omega)
        refine ⟨g, cap, _, hr, ⟨by simp [hl], .inr ⟨g, cap, _, rfl, hg0, setRow_heap _ g cur _ _ _ hb1, hroom, hmc, ?_, ?_⟩⟩, ⟨rfl, rfl, rfl, by simp, fun j _ hj => setRow_other _ g j _ (fun e => hj (by simp [Value.ownBlock, e]))⟩, .inl rfl⟩
        · simp only [hz1, Nat.mul_one, List.size_toArray, List.length_append, List.length_take, List.length_drop, Array.length_toList, List.length_cons, List.length_nil]
          omega
        · simp only [hz1, Nat.mul_one, ht]
          rw [List.take_left' (by simp [hl])]
      · have hr := run_append_grow (P := Try.prog) (W.alloc (.cells #[x] 27)) 22 22 27 i0 (.slice none 0 0) Try.underlying22 hi hz0 ⟨g, 0, none⟩ k cap vs (by rw [hz1]; simpa using hl) (fun j u hu => (World.cell?_of_block (w := W) (by rw [blockOf_add]; exact hb1.trans hb.symm)).trans (hcl.cells (g := g) rfl j u hu)) ⟨W.heap.size, 0, none⟩ 1 1 [x] (by rw [hz1]; rfl) hnews (by omega) (by omega) (by
          obtain rfl : cap = k := by omega
          rw [hz2]
          have := nextcap_succ cap
          omega)
        have hge := grownCap_ge (W.alloc (.cells #[x] 27)) (k + 1) cap 27
        have hcm : grownCap (W.alloc (.cells #[x] 27)) (k + 1) cap 27 ≤ maxLen := grownCap_le_maxLen _ _ _ _ (by unfold maxLen; omega)
        refine ⟨_, _, _, hr, ⟨by simp [hl], .inr ⟨_, _, _, rfl, Nat.zero_le _, heap_alloc_new _ _, hge, hcm, ?_, ?_⟩⟩, ⟨rfl, rfl, rfl, by simp, fun j hj _ => Below.heap_alloc _ _ _ hj⟩, .inr (by simp)⟩
        · simp only [Array.size_append, List.size_toArray, size_zeroCells, hl, Nat.mul_one]
          show k + 1 + (grownCap _ (k + 1) cap _ - (k + 1)) * 1 = _
          omega
        · simp only [Array.toList_append, List.append_assoc, Nat.mul_one]
          rw [← List.append_assoc]
          exact List.take_left' (by simp [hl])
end Go.Proofs.Ythdgndbmecnimaa
end
