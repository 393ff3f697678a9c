import Derived.Test.YtllkjmbcjlbmbaaGreatW20
section
namespace Go.Proofs.YtllkjmbcjlbmbaaGreat

theorem now_put (S : DS) (k : Nat) (l : List Int) (j : Nat) : (S.put k l).now j = if j = k then l else S.now j := by
  have e : pendOf (S.put k l).puts j = if j = k then pendOf S.puts k ++ [l] else pendOf S.puts j := pendOf_snoc _ _ _ _
  by_cases h : j = k
  · subst h
    simp [DS.now, DS.cand, e]
  · have e2 : pendOf (S.put k l).puts j = pendOf S.puts j := by rw [e, if_neg h]
    have e3 : (S.put k l).im = S.im := rfl
    simp [DS.now, DS.cand, e2, e3, h]
theorem wr_now {S : DS} {s k : Nat} (hf : S.fuse ≠ 0) (hk : k < s) (l : List Int) (j : Nat) : (S.wr s (k : Int) 512 l).2.now j = if j = k then l else S.now j := by
  rw [wr_in hf hk]
  exact now_put S k l j
theorem wr_ok {S : DS} {s k : Nat} (h : S.Ok s) (hf : S.fuse ≠ 0) (hk : k < s) {l : List Int} (hl : l.length = 512) : (S.wr s (k : Int) 512 l).2.Ok s := by
  rw [wr_in hf hk]
  refine ⟨h.len, h.lo, h.hi, fun q hq => ?_, ?_⟩
  · have hq' : q ∈ S.puts ++ [(k, l)] := hq
    rcases List.mem_append.1 hq' with hq | hq
    · exact h.puts q hq
    · rw [List.mem_singleton.1 hq]; exact ⟨hk, hl⟩
  · have := h.fuse
    show -1 ≤ (if 0 < S.fuse then S.fuse - 1 else S.fuse) ∧ (if 0 < S.fuse then S.fuse - 1 else S.fuse) ≤ _
    split <;> omega
theorem fl_now {S : DS} {s : Nat} (h : S.Ok s) {j : Nat} (hj : j < s) : (S.fl s).2.now j = S.now j := by
  unfold DS.fl
  split
  · rfl
  · show (S.flush s).now j = S.now j
    rw [now_none _ _ rfl]
    exact sec_imOf s S.now (fun k hk => now_len h k hk) j hj
theorem fl_ok {S : DS} {s : Nat} (h : S.Ok s) : (S.fl s).2.Ok s := by
  unfold DS.fl
  split
  · exact h
  · refine ⟨imOf_len s _ (fun k hk => now_len h k hk), h.lo, h.hi, (fun q hq => by cases hq), ?_⟩
    have := h.fuse
    show -1 ≤ (if 0 < S.fuse then S.fuse - 1 else S.fuse) ∧ (if 0 < S.fuse then S.fuse - 1 else S.fuse) ≤ _
    split <;> omega
theorem wr_life (S : DS) (s : Nat) (x : Int) (n : Nat) (l : List Int) : (S.wr s x n l).2.life = S.life := by
  unfold DS.wr
  split
  · rfl
  · split
    · rfl
    · split <;> rfl
theorem fl_life (S : DS) (s : Nat) : (S.fl s).2.life = S.life := by
  unfold DS.fl
  split <;> rfl
theorem fl_zero {S : DS} {s : Nat} (h : (S.fl s).1 = 0) : (S.fl s).2.puts = [] := by
  unfold DS.fl at *
  split at h
  · simp at h
  · rename_i q; rw [if_neg q]; rfl
theorem fl_err {S : DS} {s : Nat} (h : (S.fl s).1 ≠ 0) : (S.fl s).2 = S ∧ S.fuse = 0 ∧ (S.fl s).1 = 3 := by
  unfold DS.fl at *
  split at h
  · rename_i q; rw [if_pos q]; exact ⟨rfl, q, rfl⟩
  · exact absurd rfl h
theorem wr_err {S : DS} {s k : Nat} {l : List Int} (hk : k < s) (h : (S.wr s (k : Int) 512 l).1 ≠ 0) : (S.wr s (k : Int) 512 l).2 = S ∧ S.fuse = 0 := by
  by_cases hf : S.fuse = 0
  · unfold DS.wr
    rw [if_pos hf]
    exact ⟨rfl, hf⟩
  · rw [wr_in hf hk] at h
    exact absurd rfl h
theorem wr_zero {S : DS} {s k : Nat} {l : List Int} (h : (S.wr s (k : Int) 512 l).1 = 0) : S.fuse ≠ 0 := fun hf => by
  unfold DS.wr at h
  rw [if_pos hf] at h
  simp at h

/-- A greater number can always be laid. -/
theorem renew_ok {l r : List Int} (hl : l.length = 512) (hr : r.length = 512) {N : Nat} (h1 : 1 ≤ N) (h : (snewest l r).2.1 < N) : (srenew l r (N : Int) []).2.2 = 0 := by
  unfold srenew
  rw [if_neg (by omega), if_neg (by omega), if_neg (by simp)]
  simp only
  rw [if_neg (by omega)]
  split <;> rfl
theorem renew_pair {l r : List Int} (hl : l.length = 512) (hr : r.length = 512) {N : Nat} (h1 : 1 ≤ N) (hN : N < 9223372036854775808) (h : (snewest l r).2.1 < N) :
    (snewest (sput l r (srenew l r (N : Int) []).1 (srenew l r (N : Int) []).2.1).1 (sput l r (srenew l r (N : Int) []).1 (srenew l r (N : Int) []).2.1).2).2.1 = N := by
  have e : (srenew l r (N : Int) []) = if (snewest l r).2.2.2 = 0 ∧ (snewest l r).1 = 0 then (1, sform (turnOf (r.getD 0 0) (r.getD 511 0)) (bytes8 N ++ []), 0) else (0, sform (turnOf (l.getD 0 0) (l.getD 511 0)) (bytes8 N ++ []), 0) := by
    unfold srenew
    rw [if_neg (by omega), if_neg (by omega), if_neg (by simp)]
    simp only
    rw [if_neg (by omega), Int.toNat_natCast]
  rw [e]
  by_cases q : (snewest l r).2.2.2 = 0 ∧ (snewest l r).1 = 0
  · rw [if_pos q]
    have := pair_new (data := []) hl hr hN h1 (by simp) h (t := turnOf (r.getD 0 0) (r.getD 511 0)) (by have := turnOf_le (r.getD 0 0) (r.getD 511 0); omega) 1 (by rw [if_pos q])
    simp only
    rw [this]
  · rw [if_neg q]
    have := pair_new (data := []) hl hr hN h1 (by simp) h (t := turnOf (l.getD 0 0) (l.getD 511 0)) (by have := turnOf_le (l.getD 0 0) (l.getD 511 0); omega) 0 (by rw [if_neg q])
    simp only
    rw [this]
theorem anew_life (S : DS) (s f : Nat) (num : Int) : (anew S s f num).2.life = S.life := by
  unfold anew
  split
  · rfl
  · split
    · rfl
    · split
      · exact wr_life _ _ _ _ _
      · rw [fl_life, wr_life]
/-- The newest anchor's number. -/
def DS.num (S : DS) (f : Nat) : Nat := (snewest (S.now f) (S.now (f + 1))).2.1
theorem anew_num {S : DS} {s f N : Nat} (h : S.Ok s) (hf : f + 1 < s) (h1 : 1 ≤ N) (hN : N < 9223372036854775808) (hlt : S.num f < N) (h0 : (anew S s f (N : Int)).1 = 0) : (anew S s f (N : Int)).2.num f = N ∧ (anew S s f (N : Int)).2.puts = [] := by
  have hl := now_len h f (by omega)
  have hr := now_len h (f + 1) hf
  have hok := renew_ok hl hr h1 hlt
  have hp := renew_pair hl hr h1 hN hlt
  have hsl := srenew_slot (S.now f) (S.now (f + 1)) (N : Int) []
  have hfu := srenew_full (S.now f) (S.now (f + 1)) (N : Int) [] hok
  unfold anew at *
  split at h0
  · simp at h0
  · rename_i hfz
    rw [if_neg hfz]
    rw [if_neg (by omega)] at h0 ⊢
    generalize srenew (S.now f) (S.now (f + 1)) (N : Int) [] = Y at *
    rw [show (f : Int) + (Y.1 : Int) = ((f + Y.1 : Nat) : Int) by omega] at h0 ⊢
    have hw0 : (S.wr s ((f + Y.1 : Nat) : Int) 512 Y.2.1).1 = 0 := by rw [wr_in hfz (by omega)]
    rw [if_neg (by omega)] at h0 ⊢
    have hwo := wr_ok h hfz (show f + Y.1 < s by omega) hfu
    refine ⟨?_, fl_zero h0⟩
    unfold DS.num
    rw [fl_now hwo (by omega), fl_now hwo hf, wr_now hfz (by omega), wr_now hfz (by omega)]
    unfold sput at hp
    by_cases q : Y.1 = 0
    · rw [q] at hp ⊢
      rw [if_pos (by omega), if_neg (by omega)]
      rw [if_pos rfl] at hp
      exact hp
    · have q1 : Y.1 = 1 := by omega
      rw [q1] at hp ⊢
      rw [if_neg (by omega), if_pos rfl]
      rw [if_neg (by omega)] at hp
      exact hp
theorem anew_err {S : DS} {s f : Nat} {num : Int} (hf : f + 1 < s) (hok : (srenew (S.now f) (S.now (f + 1)) num []).2.2 = 0) (h0 : (anew S s f num).1 ≠ 0) : (anew S s f num).2.fuse = 0 ∧ (anew S s f num).2.puts.length ≤ S.puts.length + 1 := by
  have hsl := srenew_slot (S.now f) (S.now (f + 1)) num []
  unfold anew at *
  split at h0
  · rename_i hfz; rw [if_pos hfz]; exact ⟨hfz, Nat.le_succ _⟩
  · rename_i hfz
    rw [if_neg hfz]
    rw [if_neg (by omega)] at h0 ⊢
    generalize srenew (S.now f) (S.now (f + 1)) num [] = Y at *
    rw [show (f : Int) + (Y.1 : Int) = ((f + Y.1 : Nat) : Int) by omega] at h0 ⊢
    have hw0 : (S.wr s ((f + Y.1 : Nat) : Int) 512 Y.2.1).1 = 0 := by rw [wr_in hfz (by omega)]
    rw [if_neg (by omega)] at h0 ⊢
    obtain ⟨e1, e2, _⟩ := fl_err h0
    rw [e1]
    exact ⟨e2, wr_puts _ _ _ _ _⟩
theorem aput_life (S : DS) (s f n E P i c : Nat) (l : List Int) : (aput S s f n E P i c l).2.life = S.life := by
  unfold aput
  split
  · rfl
  · exact wr_life _ _ _ _ _
theorem aput_now {S : DS} {s f n E P i c : Nat} {l : List Int} (hn : 1 ≤ n) (hs : f + 2 + n ≤ s) {j : Nat} (hj : j < f + 2) : (aput S s f n E P i c l).2.now j = S.now j := by
  have := Nat.mod_lt P hn
  unfold aput
  split
  · rfl
  · rename_i hf
    rw [wr_now hf (by omega), if_neg (by omega)]
theorem aput_err {S : DS} {s f n E P i c : Nat} {l : List Int} (hn : 1 ≤ n) (hs : f + 2 + n ≤ s) (h : (aput S s f n E P i c l).1 ≠ 0) : (aput S s f n E P i c l).2.fuse = 0 := by
  have := Nat.mod_lt P hn
  unfold aput at *
  split at h
  · rename_i hf; rw [if_pos hf]; exact hf
  · rename_i hf
    rw [wr_in hf (by omega)] at h
    exact absurd rfl h
theorem appTo_keeps {L : LG} {S : DS} {s : Nat} {d : List Int} (hn : 1 ≤ L.n) (hs : L.f + 2 + L.n ≤ s) : ∀ k, (appTo L S s d k).2.life = S.life ∧ (∀ j, j < L.f + 2 → (appTo L S s d k).2.now j = S.now j) ∧ ((appTo L S s d k).1 ≠ 0 → (appTo L S s d k).2.fuse = 0) ∧ (appTo L S s d k).2.puts.length ≤ S.puts.length + k
  | 0 => ⟨rfl, fun _ _ => rfl, fun h => absurd rfl h, Nat.le_refl _⟩
  | k + 1 => by
    obtain ⟨h1, h2, h3, h4⟩ := appTo_keeps (L := L) (S := S) (d := d) hn hs k
    by_cases e : (appTo L S s d k).1 = 0
    · have : appTo L S s d (k + 1) = aput (appTo L S s d k).2 s L.f L.n L.ep (L.head + k) k (cntOf d.length) (partOf d k) := stepsTo_ok e
      rw [this]
      refine ⟨(aput_life _ _ _ _ _ _ _ _ _).trans h1, fun j hj => (aput_now hn hs hj).trans (h2 j hj), fun h => aput_err hn hs h, ?_⟩
      have := aput_puts (appTo L S s d k).2 s L.f L.n L.ep (L.head + k) k (cntOf d.length) (partOf d k)
      omega
    · have : appTo L S s d (k + 1) = appTo L S s d k := stepsTo_err e (k + 1) (by omega)
      rw [this]
      exact ⟨h1, h2, h3, by omega⟩

/-- What wiping does to the sectors. -/
theorem wipeTo_keeps {S : DS} {s f n : Nat} (h : S.Ok s) (hs : f + n ≤ s) : ∀ k, k ≤ n → (wipeTo S s f k).2.life = S.life ∧ (wipeTo S s f k).2.Ok s ∧ ((wipeTo S s f k).1 ≠ 0 → (wipeTo S s f k).2.fuse = 0) ∧ ((wipeTo S s f k).1 = 0 → ∀ j, j < k → (wipeTo S s f k).2.now (f + j) = zs 512)
  | 0, _ => ⟨rfl, h, fun h => absurd rfl h, fun _ j hj => by omega⟩
  | k + 1, hk => by
    obtain ⟨h1, h2, h3, h4⟩ := wipeTo_keeps h hs k (by omega)
    by_cases e : (wipeTo S s f k).1 = 0
    · have e1 : wipeTo S s f (k + 1) = (wipeTo S s f k).2.wr s ((f + k : Nat) : Int) 512 (zs 512) := stepsTo_ok e
      rw [e1]
      by_cases hf : (wipeTo S s f k).2.fuse = 0
      · have e2 : (wipeTo S s f k).2.wr s ((f + k : Nat) : Int) 512 (zs 512) = (3, (wipeTo S s f k).2) := by unfold DS.wr; rw [if_pos hf]
        rw [e2]
        exact ⟨h1, h2, fun _ => hf, fun h => by simp at h⟩
      · refine ⟨(wr_life _ _ _ _ _).trans h1, wr_ok h2 hf (by omega) (zs_len 512), fun h => ?_, fun _ j hj => ?_⟩
        · rw [wr_in hf (by omega)] at h; exact absurd rfl h
        · rw [wr_now hf (by omega)]
          by_cases q : j = k
          · rw [if_pos (by omega)]
          · rw [if_neg (by omega)]; exact h4 e j (by omega)
    · have e1 : wipeTo S s f (k + 1) = wipeTo S s f k := stepsTo_err e (k + 1) (by omega)
      rw [e1]
      exact ⟨h1, h2, h3, fun h => absurd h e⟩
theorem sanchor_zero : (sanchor (zs 512)).1 = 0 := by
  have hb : sbody (zs 512) = [] := by
    unfold sbody
    rw [show slen (zs 512) = 0 from by unfold slen; rw [show (zs 512).getD 1 0 = 0 from rfl, show (zs 512).getD 2 0 = 0 from rfl]; rfl]
    exact List.take_zero
  have hs : sanchor (zs 512) = (0, []) := by
    refine sanchor_short ?_
    unfold sopen
    split
    · exact .inr ⟨_, rfl, .inl (by rw [hb]; decide)⟩
    · exact .inl rfl
  rw [hs]
theorem snewest_zero : (snewest (zs 512) (zs 512)).2.1 = 0 := by
  rw [snewest_eq (zs_len 512) (zs_len 512), if_pos ⟨sanchor_zero, sanchor_zero⟩]
theorem awipe_keeps {S : DS} {s f n : Nat} (h : S.Ok s) (hs : f + 2 + n ≤ s) : (awipe S s f n).2.life = S.life ∧ (awipe S s f n).2.Ok s ∧ ((awipe S s f n).1 ≠ 0 → (awipe S s f n).2.fuse = 0) ∧ ((awipe S s f n).1 = 0 → (awipe S s f n).2.num f = 0 ∧ (awipe S s f n).2.puts = []) := by
  obtain ⟨h1, h2, h3, h4⟩ := wipeTo_keeps (f := f) h (n := n + 2) (by omega) (n + 2) (Nat.le_refl _)
  unfold awipe
  by_cases e : (wipeTo S s f (n + 2)).1 = 0
  · rw [if_neg (by omega)]
    refine ⟨(fl_life _ _).trans h1, fl_ok h2, fun h => ?_, fun h => ⟨?_, fl_zero h⟩⟩
    · obtain ⟨e1, e2, _⟩ := fl_err h
      rw [e1]; exact e2
    · unfold DS.num
      have z0 : (wipeTo S s f (n + 2)).2.now f = zs 512 := h4 e 0 (by omega)
      have z1 := h4 e 1 (by omega)
      rw [fl_now h2 (by omega), fl_now h2 (by omega), z0, z1]
      exact snewest_zero
  · rw [if_pos e]
    exact ⟨h1, h2, h3, fun h => absurd h e⟩
end Go.Proofs.YtllkjmbcjlbmbaaGreat
end

section
namespace Go.Proofs.YtllkjmbcjlbmbaaGreat
open Go.RowKit

/-- What holds of a disk and a log on it that lives. -/
def LG.Fit (L : LG) (S : DS) : Prop :=
  (L.begun = true → S.puts.length ≤ L.head - L.tail ∧ S.num L.f ≤ L.ep * 4294967296 + L.tail) ∧ (L.begun = false → S.puts.length = 0 ∧ S.num L.f < (L.top + 1) * 4294967296)
/-- What holds of a disk and the logs opened on it, behind t steps. -/
structure Inv (S : DS) (s : Nat) (ls : List LG) (t : Nat) : Prop where
  ok : S.Ok s
  byt : S.Byt
  p6 : S.puts.length ≤ 600
  p2 : S.fuse ≠ 0 → S.puts.length ≤ 256
  l0 : 0 ≤ S.life
  lt : S.life ≤ t
  ol : ∀ L ∈ ls, L.Ok s ∧ L.life ≤ S.life
  li : (ls.map LG.life).Pairwise (· < ·)
  al : ∀ L ∈ ls, L.life = S.life → S.fuse ≠ 0 → L.Fit S

theorem wrap_life {x : Int} {t : Nat} (h0 : 0 ≤ x) (h1 : x ≤ t) (ht : t ≤ 1000000000000000000) : wrap64 (x + 1) = x + 1 := by
  unfold wrap64
  omega

section
variable {S S' : DS} {s t i : Nat} {ls : List LG} {L L' : LG}

theorem Inv.zero (ok : S.Ok s) (byt : S.Byt) (hp : S.puts.length = 0) (l0 : 0 ≤ S.life) (lt : S.life ≤ t) : Inv S s [] t :=
  ⟨ok, byt, by omega, fun _ => by omega, l0, lt, fun _ h => (by cases h), List.Pairwise.nil, fun _ h => (by cases h)⟩
theorem Inv.step (h : Inv S s ls t) : Inv S s ls (t + 1) := ⟨h.ok, h.byt, h.p6, h.p2, h.l0, by have := h.lt; omega, h.ol, h.li, h.al⟩
/-- A new life: no log lives. -/
theorem Inv.next (h : Inv S s ls t) (ok : S'.Ok s) (byt : S'.Byt) (p6 : S'.puts.length ≤ 600) (p2 : S'.fuse ≠ 0 → S'.puts.length ≤ 256) (hl : S'.life = S.life + 1) : Inv S' s ls (t + 1) := by
  refine ⟨ok, byt, p6, p2, by have := h.l0; omega, by have := h.lt; omega, fun L hL => ⟨(h.ol L hL).1, ?_⟩, h.li, fun L hL e => ?_⟩
  · have := (h.ol L hL).2; omega
  · have := (h.ol L hL).2; omega
theorem Inv.at (h : Inv S s ls t) (hi : ls[i]? = some L) : L.Ok s ∧ L.life ≤ S.life := h.ol L (List.mem_of_getElem? hi)
theorem lives_alone (h : (ls.map LG.life).Pairwise (· < ·)) (hi : ls[i]? = some L) {j : Nat} (hj : ls[j]? = some L') (e : L'.life = L.life) : j = i := by
  rw [List.pairwise_iff_getElem] at h
  obtain ⟨h1, e1⟩ := List.getElem?_eq_some_iff.1 hi
  obtain ⟨h2, e2⟩ := List.getElem?_eq_some_iff.1 hj
  rcases Nat.lt_trichotomy j i with h3 | h3 | h3
  · have := h j i (by simpa using h2) (by simpa using h1) h3
    simp only [List.getElem_map, e1, e2] at this
    omega
  · exact h3
  · have := h i j (by simpa using h1) (by simpa using h2) h3
    simp only [List.getElem_map, e1, e2] at this
    omega
/-- A step on the log that lives. -/
theorem Inv.on (h : Inv S s ls t) (hi : ls[i]? = some L) (ha : L.life = S.life) (ok : S'.Ok s) (byt : S'.Byt) (hl : S'.life = S.life) (p6 : S'.puts.length ≤ 600) (ok' : L'.Ok s) (hl' : L'.life = L.life) (fit : S'.fuse ≠ 0 → L'.Fit S') : Inv S' s (ls.set i L') t := by
  have hlt : i < ls.length := (List.getElem?_eq_some_iff.1 hi).1
  have hmem : ∀ M ∈ ls.set i L', M = L' ∨ ∃ j, j ≠ i ∧ ls[j]? = some M := fun M hM => by
    obtain ⟨j, hj⟩ := List.mem_iff_getElem?.1 hM
    by_cases e : j = i
    · subst e
      rw [List.getElem?_set_self hlt] at hj
      exact .inl (Option.some.inj hj).symm
    · rw [List.getElem?_set_ne (fun h => e h.symm)] at hj
      exact .inr ⟨j, e, hj⟩
  refine ⟨ok, byt, p6, fun hf => ?_, by have := h.l0; omega, by have := h.lt; omega, fun M hM => ?_, ?_, fun M hM e hf => ?_⟩
  · have := fit hf
    unfold LG.Fit at this
    have a1 := ok'.hn
    have a2 := ok'.n2
    cases hb : L'.begun with
    | true => have := (this.1 hb).1; omega
    | false => have := (this.2 hb).1; omega
  · rcases hmem M hM with rfl | ⟨j, _, hj⟩
    · exact ⟨ok', by omega⟩
    · have := h.at hj; exact ⟨this.1, by omega⟩
  · rw [List.map_set, hl']
    have : ls.map LG.life = (ls.map LG.life).set i L.life := by
      apply List.ext_getElem?
      intro j
      by_cases e : j = i
      · subst e; rw [List.getElem?_set_self (by simpa using hlt), List.getElem?_map, hi]; rfl
      · rw [List.getElem?_set_ne (fun h => e h.symm)]
    rw [← this]
    exact h.li
  · rcases hmem M hM with rfl | ⟨j, hne, hj⟩
    · exact fit hf
    · exact absurd (lives_alone h.li hi hj (by omega)) hne
theorem Inv.same (h : Inv S s ls t) (hi : ls[i]? = some L) : Inv S s (ls.set i L) t := by
  have : ls.set i L = ls := by
    apply List.ext_getElem?
    intro j
    by_cases e : j = i
    · subst e; rw [List.getElem?_set_self (List.getElem?_eq_some_iff.1 hi).1, hi]
    · rw [List.getElem?_set_ne (fun h => e h.symm)]
  rw [this]
  exact h

theorem dead_no (h : L.dead S = false) : L.life = S.life ∧ S.fuse ≠ 0 := by
  unfold LG.dead at h
  rw [Bool.or_eq_false_iff] at h
  have h2 := h.2
  have h1 := h.1
  rw [beq_eq_false_iff_ne] at h1
  have : S.life = L.life := by simpa using h2
  exact ⟨this.symm, h1⟩
theorem unready_no (h : L.unready S = 0) : L.dead S = false ∧ L.begun = true := by
  unfold LG.unready at h
  split at h
  · omega
  · rename_i h1
    split at h
    · rename_i h2; exact ⟨by simpa using h1, h2⟩
    · omega
theorem num_fl {f : Nat} (h : S.Ok s) (hf : f + 1 < s) : (S.fl s).2.num f = S.num f := by
  unfold DS.num
  rw [fl_now h (by omega), fl_now h hf]

theorem Inv.take (h : Inv S s ls t) (ht : t ≤ 1000000000000000000) : Inv S.take s ls (t + 1) :=
  h.next ⟨h.ok.len, h.ok.lo, h.ok.hi, h.ok.puts, h.ok.fuse⟩ h.byt.take h.p6 h.p2 (wrap_life h.l0 h.lt ht)
theorem Inv.crash (h : Inv S s ls t) (ht : t ≤ 1000000000000000000) (l : List P3) (ok : (S.crash s l).Ok s) : Inv (S.crash s l) s ls (t + 1) :=
  h.next ok (h.byt.crash s l) (Nat.zero_le _) (fun _ => Nat.zero_le _) (wrap_life h.l0 h.lt ht)
theorem lay_same (S : DS) (x : Int) : (S.lay x).puts = S.puts ∧ (S.lay x).life = S.life ∧ (S.lay x).im = S.im ∧ ((S.lay x).fuse ≠ 0 → S.fuse ≠ 0) := by
  unfold DS.lay
  split
  · exact ⟨rfl, rfl, rfl, fun h => h⟩
  · rename_i h; exact ⟨rfl, rfl, rfl, fun _ => h⟩
theorem Inv.lay (h : Inv S s ls t) (x : Int) (ok : (S.lay x).Ok s) : Inv (S.lay x) s ls t := by
  obtain ⟨e1, e2, e3, e4⟩ := lay_same S x
  refine ⟨ok, h.byt.lay x, by rw [e1]; exact h.p6, fun hf => by rw [e1]; exact h.p2 (e4 hf), by rw [e2]; exact h.l0, by rw [e2]; exact h.lt, fun L hL => by rw [e2]; exact h.ol L hL, h.li, fun L hL e hf => ?_⟩
  have := h.al L hL (by rw [← e2]; exact e) (e4 hf)
  have en : ∀ k, (S.lay x).now k = S.now k := fun k => by unfold DS.now DS.cand; rw [e1, e3]
  unfold LG.Fit DS.num at *
  rw [en, en, e1]
  exact this

theorem Inv.sync (h : Inv S s ls t) (hi : ls[i]? = some L) : Inv (L.sync S s).2 s (ls.set i L) t := by
  unfold LG.sync
  split
  · exact h.same hi
  · rename_i hu
    obtain ⟨hd, hb⟩ := unready_no (Decidable.of_not_not hu)
    obtain ⟨ha, hf⟩ := dead_no hd
    have hL := (h.at hi).1
    have hfit := h.al L (List.mem_of_getElem? hi) ha hf
    have hs := hL.s
    have hn := hL.n1
    by_cases e : (S.fl s).1 = 0
    · have hp := fl_zero e
      refine h.on hi ha (fl_ok h.ok) (h.byt.fl s) (fl_life S s) (by rw [hp]; exact Nat.zero_le _) hL rfl (fun _ => ⟨fun _ => ⟨by rw [hp]; exact Nat.zero_le _, ?_⟩, fun c => by rw [hb] at c; cases c⟩)
      rw [num_fl h.ok (by omega)]
      exact (hfit.1 hb).2
    · have := fl_err e
      exact absurd this.2.1 hf

theorem fuse_left (hn : (S.fl s).1 = 0) : S.fuse ≠ 0 := fun h => by unfold DS.fl at hn; rw [if_pos h] at hn; cases hn

theorem Inv.start (h : Inv S s ls t) (hi : ls[i]? = some L) (ok : (L.start S s).2.1.Ok s) : Inv (L.start S s).2.1 s (ls.set i (L.start S s).2.2) t := by
  unfold LG.start at *
  split
  · exact h.same hi
  · rename_i hd
    rw [if_neg hd] at ok
    obtain ⟨ha, hf⟩ := dead_no (by simpa using hd : L.dead S = false)
    split
    · exact h.same hi
    · rename_i hb
      rw [if_neg hb] at ok
      have hb' : L.begun = false := by simpa using hb
      have hL := (h.at hi).1
      have hfit := (h.al L (List.mem_of_getElem? hi) ha hf).2 hb'
      have hs := hL.s
      have hn := hL.n1
      have ht := hL.top
      have eN : (((L.top + 1 : Nat) : Int) * 4294967296 + ((0 : Nat) : Int)) = (((L.top + 1) * 4294967296 : Nat) : Int) := by omega
      rw [eN] at ok ⊢
      obtain ⟨N, hN⟩ : ∃ N, N = (L.top + 1) * 4294967296 := ⟨_, rfl⟩
      rw [← hN] at ok hfit ⊢
      have hr := renew_ok (now_len h.ok L.f (by omega)) (now_len h.ok (L.f + 1) (by omega)) (N := N) (by omega) hfit.2
      split
      · rename_i h0
        rw [if_pos h0] at ok
        obtain ⟨e1, e2⟩ := anew_err (by omega) hr h0
        dsimp only at ok ⊢
        exact h.on hi ha ok (h.byt.anew s L.f _) (anew_life _ _ _ _) (by omega) hL rfl (fun c => absurd e1 c)
      · rename_i h0
        rw [if_neg h0] at ok
        obtain ⟨e1, e2⟩ := anew_num (s := s) (f := L.f) (N := N) h.ok (by omega) (by omega) (by omega) hfit.2 (Decidable.of_not_not h0)
        dsimp only at ok ⊢
        refine h.on hi ha ok (h.byt.anew s L.f _) (anew_life _ _ _ _) (by rw [e2]; exact Nat.zero_le _) ⟨hs, hn, hL.n2, by show L.top + 1 ≤ _; omega, hL.top, Nat.le_refl _, by show 0 ≤ _; omega, by show 0 ≤ _; omega, fun _ => by show 0 ≤ _; omega⟩ rfl (fun _ => ⟨fun _ => ⟨by rw [e2]; exact Nat.zero_le _, ?_⟩, fun c => by cases c⟩)
        show (anew S s L.f (N : Int)).2.num L.f ≤ (L.top + 1) * 4294967296 + 0
        rw [e1]
        omega

theorem Inv.trim (h : Inv S s ls t) (hi : ls[i]? = some L) (ok : (L.trim S s).2.1.Ok s) : Inv (L.trim S s).2.1 s (ls.set i (L.trim S s).2.2) t := by
  have hy := h.sync hi
  have hL := (h.at hi).1
  have hlt : i < ls.length := (List.getElem?_eq_some_iff.1 hi).1
  unfold LG.trim at *
  split
  · exact hy
  · rename_i h1
    rw [if_neg h1] at ok
    have hu : L.unready S = 0 := by
      unfold LG.sync at h1
      by_cases c : L.unready S = 0
      · exact c
      · rw [if_pos c] at h1; exact absurd (Decidable.of_not_not h1) c
    obtain ⟨hd, hb⟩ := unready_no hu
    obtain ⟨ha, hf⟩ := dead_no hd
    have hyp : (L.sync S s) = S.fl s := by unfold LG.sync; rw [if_neg (by omega)]
    split
    · exact hy
    · rename_i h2
      rw [if_neg h2] at ok
      have hfit := (h.al L (List.mem_of_getElem? hi) ha hf).1 hb
      rw [hyp] at ok h1 ⊢
      have hp := fl_zero (Decidable.of_not_not h1)
      have hs := hL.s
      have hn := hL.n1
      have hth := hL.th
      have hep := hL.ep
      have hhb := hL.hb hb
      have hnum : (S.fl s).2.num L.f = S.num L.f := num_fl h.ok (by omega)
      have hok := fl_ok (s := s) h.ok
      have eN : ((L.ep : Int) * 4294967296 + (L.head : Int)) = ((L.ep * 4294967296 + L.head : Nat) : Int) := by omega
      rw [eN] at ok ⊢
      obtain ⟨N, hN⟩ : ∃ N, N = L.ep * 4294967296 + L.head := ⟨_, rfl⟩
      have hlN : (S.fl s).2.num L.f < N := by rw [hnum, hN]; omega
      rw [← hN] at ok ⊢
      have hr := renew_ok (now_len hok L.f (by omega)) (now_len hok (L.f + 1) (by omega)) (N := N) (by omega) hlN
      have hlife := fl_life S s
      split
      · rename_i h0
        rw [if_pos h0] at ok
        obtain ⟨e1, e2⟩ := anew_err (by omega) hr h0
        rw [hp] at e2
        dsimp only at ok ⊢
        exact h.on hi ha ok ((h.byt.fl s).anew s L.f _) ((anew_life _ _ _ _).trans hlife) (Nat.le_trans e2 (by simp)) hL rfl (fun c => absurd e1 c)
      · rename_i h0
        rw [if_neg h0] at ok
        obtain ⟨e1, e2⟩ := anew_num (s := s) (f := L.f) (N := N) hok (by omega) (by omega) (by omega) hlN (Decidable.of_not_not h0)
        dsimp only at ok ⊢
        refine h.on hi ha ok ((h.byt.fl s).anew s L.f _) ((anew_life _ _ _ _).trans hlife) (by rw [e2]; exact Nat.zero_le _) ⟨hs, hn, hL.n2, hep, hL.top, Nat.le_refl _, by show L.head ≤ L.head + L.n; omega, hL.hi, hL.hb⟩ rfl (fun _ => ⟨fun _ => ⟨by rw [e2]; exact Nat.zero_le _, ?_⟩, fun c => by rw [show ({ L with tail := L.head } : LG).begun = L.begun from rfl, hb] at c; cases c⟩)
        show (anew (S.fl s).2 s L.f (N : Int)).2.num L.f ≤ L.ep * 4294967296 + L.head
        rw [e1]
        omega

theorem refuses_no (h : L.refuses S i = 0) : L.unready S = 0 ∧ 1 ≤ i ∧ i ≤ 8364 ∧ L.head + cntOf i ≤ 1073741824 ∧ L.head + cntOf i ≤ L.tail + L.n := by
  unfold LG.refuses at h
  repeat' split at h
  all_goals first | omega | (rename_i h1 h2 h3 h4 h5; exact ⟨by omega, by omega, by omega, by omega, by omega⟩)
theorem appTo_byt {d : List Int} (h : S.Byt) (hd : Bytes d) (k : Nat) : (appTo L S s d k).2.Byt :=
  stepsTo_byt h (fun j T hT => by
    unfold aput
    split
    · exact hT
    · exact hT.wr s _ _ (sseal_bytes (pbody_bytes ((hd.drop _).take _)))) k

theorem Inv.append (h : Inv S s ls t) (hi : ls[i]? = some L) {d : List Int} (hd : Bytes d) (ok : (L.append S s d).2.1.Ok s) : Inv (L.append S s d).2.1 s (ls.set i (L.append S s d).2.2) t := by
  unfold LG.append at *
  split
  · exact h.same hi
  · rename_i h1
    rw [if_neg h1] at ok
    obtain ⟨hu, hx1, hx2, hh, hr⟩ := refuses_no (Decidable.of_not_not h1)
    obtain ⟨hdd, hb⟩ := unready_no hu
    obtain ⟨ha, hf⟩ := dead_no hdd
    have hL := (h.at hi).1
    have hfit := (h.al L (List.mem_of_getElem? hi) ha hf).1 hb
    have hs := hL.s
    have hn := hL.n1
    have hn2 := hL.n2
    have hth := hL.th
    have hp2 := h.p2 hf
    have hc : cntOf d.length ≤ 17 := by unfold cntOf; omega
    obtain ⟨k1, k2, k3, k4⟩ := appTo_keeps (L := L) (S := S) (s := s) (d := d) (by omega) hs (cntOf d.length)
    have hby := appTo_byt (L := L) (s := s) h.byt hd (cntOf d.length)
    split
    · rename_i h0
      rw [if_pos h0] at ok
      dsimp only at ok ⊢
      exact h.on hi ha ok hby k1 (by omega) hL rfl (fun c => absurd (k3 h0) c)
    · rename_i h0
      rw [if_neg h0] at ok
      dsimp only at ok ⊢
      refine h.on hi ha ok hby k1 (by omega) ⟨hs, hn, hn2, hL.ep, hL.top, by show L.tail ≤ L.head + _; omega, by show L.head + _ ≤ _; omega, by show L.head + _ ≤ _; omega, fun _ => hh⟩ rfl (fun _ => ⟨fun _ => ⟨?_, ?_⟩, fun c => by rw [show ({ L with head := L.head + cntOf d.length } : LG).begun = L.begun from rfl, hb] at c; cases c⟩)
      · show _ ≤ L.head + cntOf d.length - L.tail
        omega
      · show DS.num _ L.f ≤ _
        unfold DS.num
        rw [k2 L.f (by omega), k2 (L.f + 1) (by omega)]
        exact hfit.2

theorem Inv.format (h : Inv S s ls t) (ht : t ≤ 1000000000000000000) (f n : Int) (ok : (lformat S s f n).2.Ok s) : Inv (lformat S s f n).2 s ls (t + 1) := by
  unfold lformat at *
  split
  · exact h.step
  · rename_i h1
    rw [if_neg h1] at ok
    obtain ⟨hf, a, b, rfl, rfl, hab, hb1, hb2⟩ := lrefuse_zero (Decidable.of_not_not h1)
    simp only [Int.toNat_natCast] at *
    have hlife := wrap_life h.l0 h.lt ht
    have hok : S.take.Ok s := ⟨h.ok.len, h.ok.lo, h.ok.hi, h.ok.puts, h.ok.fuse⟩
    obtain ⟨k1, k2, k3, k4⟩ := awipe_keeps (f := a) (n := b) hok hab
    have hp := awipe_puts S.take s a b
    have hp2 : S.take.puts.length ≤ 256 := h.p2 hf
    split
    · rename_i h0
      rw [if_pos h0] at ok
      exact h.next ok (h.byt.take.wipe s a b) (by omega) (fun c => absurd (k3 h0) c) (k1.trans hlife)
    · rename_i h0
      rw [if_neg h0] at ok
      obtain ⟨q1, q2⟩ := k4 (Decidable.of_not_not h0)
      have hr := renew_ok (now_len k2 a (by omega)) (now_len k2 (a + 1) (by omega)) (N := 4294967296) (by omega) (by show DS.num _ a < _; rw [q1]; omega)
      have hl2 := (anew_life (awipe S.take s a b).2 s a 4294967296).trans (k1.trans hlife)
      by_cases h3 : (anew (awipe S.take s a b).2 s a 4294967296).1 = 0
      · obtain ⟨e1, e2⟩ := anew_num (s := s) (f := a) (N := 4294967296) k2 (by omega) (by omega) (by omega) (by rw [q1]; omega) h3
        have e3 : (anew (awipe S.take s a b).2 s a 4294967296).2.puts.length = 0 := congrArg List.length e2
        exact h.next ok ((h.byt.take.wipe s a b).anew s a _) (by omega) (fun _ => by omega) hl2
      · obtain ⟨e1, e2⟩ := anew_err (by omega) hr h3
        rw [q2] at e2
        exact h.next ok ((h.byt.take.wipe s a b).anew s a _) (Nat.le_trans e2 (by simp)) (fun c => absurd e1 c) hl2

theorem Inv.open_no (h : Inv S s ls t) (ht : t ≤ 1000000000000000000) (f n : Int) (he : (lopen S s f n).1 ≠ 0) : Inv (lopen S s f n).2 s ls (t + 1) := by
  unfold lopen at *
  split
  · exact h.step
  · rename_i h1
    rw [if_neg h1] at he
    split
    · exact h.take ht
    · rename_i h2
      rw [if_neg h2] at he
      split
      · exact h.take ht
      · rename_i h3
        rw [if_neg h3] at he
        obtain ⟨e1, e2, _⟩ := fl_err he
        rw [e1]
        exact h.take ht

/-- The log that an Open gives. -/
def LG.opened (S : DS) (f n hd : Nat) : LG := { LG.new S f n with ep := (oNew S f).1, tail := (oNew S f).2.1, head := hd, top := oTop S f n }
theorem Inv.opened (h : Inv S s ls t) (ht : t ≤ 1000000000000000000) (f n : Int) (ok : (lopen S s f n).2.Ok s) (he : (lopen S s f n).1 = 0) {hd : Nat} (h1 : (oNew S f.toNat).2.1 ≤ hd) (h2 : hd ≤ (oNew S f.toNat).2.1 + n.toNat) : Inv (lopen S s f n).2 s (ls ++ [LG.opened S f.toNat n.toNat hd]) (t + 1) := by
  unfold lopen at *
  split
  · rename_i k1; rw [if_pos k1] at he; exact absurd he k1
  · rename_i k1
    rw [if_neg k1] at ok he
    split
    · rename_i k2; rw [if_pos k2] at he; exact absurd (Int.ofNat_eq_zero.1 he) k2
    · rename_i k2
      rw [if_neg k2] at ok he
      split
      · rename_i k3; rw [if_pos k3] at he; cases he
      · rename_i k3
        rw [if_neg k3] at ok he
        obtain ⟨hf, a, b, rfl, rfl, hab, hb1, hb2⟩ := lrefuse_zero (Decidable.of_not_not k1)
        simp only [Int.toNat_natCast] at *
        have hlife := wrap_life h.l0 h.lt ht
        have hok : S.take.Ok s := ⟨h.ok.len, h.ok.lo, h.ok.hi, h.ok.puts, h.ok.fuse⟩
        have hp := fl_zero he
        have hl2 : (S.take.fl s).2.life = S.life + 1 := (fl_life _ _).trans hlife
        have hz := oNew_ok (Decidable.of_not_not k2)
        have hto := oTop_le (n := b) (Decidable.of_not_not k2)
        have hn := h.next ok (h.byt.take.fl s) (by rw [hp]; exact Nat.zero_le _) (fun _ => by rw [hp]; exact Nat.zero_le _) hl2
        have hLl : (LG.opened S a b hd).life = S.life + 1 := hlife
        refine ⟨hn.ok, hn.byt, hn.p6, hn.p2, hn.l0, hn.lt, fun M hM => ?_, ?_, fun M hM e hf => ?_⟩
        · rcases List.mem_append.1 hM with h3 | h3
          · exact hn.ol M h3
          · obtain rfl := List.mem_singleton.1 h3
            refine ⟨⟨hab, hb1, hb2, hz.2.1, ?_, h1, h2, ?_, fun c => by cases c⟩, by omega⟩
            · show oTop S a b < _; omega
            · show hd ≤ _; omega
        · rw [List.map_append, List.pairwise_append]
          refine ⟨h.li, List.pairwise_singleton _ _, fun x hx y hy => ?_⟩
          obtain ⟨M, hM, rfl⟩ := List.mem_map.1 hx
          have := (h.ol M hM).2
          simp only [List.map_cons, List.map_nil, List.mem_singleton] at hy
          omega
        · rcases List.mem_append.1 hM with h3 | h3
          · have := (h.ol M h3).2; omega
          · obtain rfl := List.mem_singleton.1 h3
            refine ⟨fun c => (by cases c), fun _ => ⟨(by rw [hp]; rfl), ?_⟩⟩
            rw [show (LG.opened S a b hd).f = a from rfl, num_fl hok (by omega)]
            have e1 : S.take.num a = S.num a := rfl
            have e2 : (oNew S a).1 = S.num a / 4294967296 := by
              have k4 := Decidable.of_not_not k2
              unfold oNew lnewest at *
              split at k4
              · cases k4
              · rename_i k5; rw [if_neg k5]; rfl
            have e3 : (oNew S a).1 ≤ oTop S a b := by unfold oTop; omega
            rw [e1]
            show S.num a < (oTop S a b + 1) * 4294967296
            omega
end
end Go.Proofs.YtllkjmbcjlbmbaaGreat
end
