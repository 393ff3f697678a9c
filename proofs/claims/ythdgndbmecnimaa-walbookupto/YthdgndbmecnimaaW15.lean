import Derived.Test.YthdgndbmecnimaaW14
section
namespace Go.Proofs.Ythdgndbmecnimaa
open Go.RowKit

/-- What holds of a disk and a log on it that lives. -/
def LG.Fit (L : LG) (S : DS) : Prop :=
  (L.begun = true → S.puts.length ≤ L.head - L.tail ∧ S.num L.f ≤ L.ep * 4294967296 + L.tail) ∧ (L.begun = false → S.puts.length = 0 ∧ S.num L.f < (L.top + 1) * 4294967296)
/-- What holds of a disk and the logs opened on it, behind t steps. -/
structure Inv (S : DS) (s : Nat) (ls : List LG) (t : Nat) : Prop where
  ok : S.Ok s
  byt : S.Byt
  p6 : S.puts.length ≤ 600
  p2 : S.fuse ≠ 0 → S.puts.length ≤ 256
  l0 : 0 ≤ S.life
  lt : S.life ≤ t
  ol : ∀ L ∈ ls, L.Ok s ∧ L.life ≤ S.life
  li : (ls.map LG.life).Pairwise (· < ·)
  al : ∀ L ∈ ls, L.life = S.life → S.fuse ≠ 0 → L.Fit S

theorem wrap_life {x : Int} {t : Nat} (h0 : 0 ≤ x) (h1 : x ≤ t) (ht : t ≤ 1000000000000000000) : wrap64 (x + 1) = x + 1 := by
  unfold wrap64
  omega

section
variable {S S' : DS} {s t i : Nat} {ls : List LG} {L L' : LG}

theorem Inv.zero (ok : S.Ok s) (byt : S.Byt) (hp : S.puts.length = 0) (l0 : 0 ≤ S.life) (lt : S.life ≤ t) : Inv S s [] t :=
  ⟨ok, byt, by omega, fun _ => by omega, l0, lt, fun _ h => (by cases h), List.Pairwise.nil, fun _ h => (by cases h)⟩
theorem Inv.step (h : Inv S s ls t) : Inv S s ls (t + 1) := ⟨h.ok, h.byt, h.p6, h.p2, h.l0, by have := h.lt; omega, h.ol, h.li, h.al⟩
/-- A new life: no log lives. -/
theorem Inv.next (h : Inv S s ls t) (ok : S'.Ok s) (byt : S'.Byt) (p6 : S'.puts.length ≤ 600) (p2 : S'.fuse ≠ 0 → S'.puts.length ≤ 256) (hl : S'.life = S.life + 1) : Inv S' s ls (t + 1) := by
  refine ⟨ok, byt, p6, p2, by have := h.l0; omega, by have := h.lt; omega, fun L hL => ⟨(h.ol L hL).1, ?_⟩, h.li, fun L hL e => ?_⟩
  · have := (h.ol L hL).2; omega
  · have := (h.ol L hL).2; omega
theorem Inv.at (h : Inv S s ls t) (hi : ls[i]? = some L) : L.Ok s ∧ L.life ≤ S.life := h.ol L (List.mem_of_getElem? hi)
theorem lives_alone (h : (ls.map LG.life).Pairwise (· < ·)) (hi : ls[i]? = some L) {j : Nat} (hj : ls[j]? = some L') (e : L'.life = L.life) : j = i := by
  rw [List.pairwise_iff_getElem] at h
  obtain ⟨h1, e1⟩ := List.getElem?_eq_some_iff.1 hi
  obtain ⟨h2, e2⟩ := List.getElem?_eq_some_iff.1 hj
  rcases Nat.lt_trichotomy j i with h3 | h3 | h3
  · have := h j i (by simpa using h2) (by simpa using h1) h3
    simp only [List.getElem_map, e1, e2] at this
    omega
  · exact h3
  · have := h i j (by simpa using h1) (by simpa using h2) h3
    simp only [List.getElem_map, e1, e2] at this
    omega
/-- A step on the log that lives. -/
theorem Inv.on (h : Inv S s ls t) (hi : ls[i]? = some L) (ha : L.life = S.life) (ok : S'.Ok s) (byt : S'.Byt) (hl : S'.life = S.life) (p6 : S'.puts.length ≤ 600) (ok' : L'.Ok s) (hl' : L'.life = L.life) (fit : S'.fuse ≠ 0 → L'.Fit S') : Inv S' s (ls.set i L') t := by
  have hlt : i < ls.length := (List.getElem?_eq_some_iff.1 hi).1
  have hmem : ∀ M ∈ ls.set i L', M = L' ∨ ∃ j, j ≠ i ∧ ls[j]? = some M := fun M hM => by
    obtain ⟨j, hj⟩ := List.mem_iff_getElem?.1 hM
    by_cases e : j = i
    · subst e
      rw [List.getElem?_set_self hlt] at hj
      exact .inl (Option.some.inj hj).symm
    · rw [List.getElem?_set_ne (fun h => e h.symm)] at hj
      exact .inr ⟨j, e, hj⟩
  refine ⟨ok, byt, p6, fun hf => ?_, by have := h.l0; omega, by have := h.lt; omega, fun M hM => ?_, ?_, fun M hM e hf => ?_⟩
  · have := fit hf
    unfold LG.Fit at this
    have a1 := ok'.hn
    have a2 := ok'.n2
    cases hb : L'.begun with
    | true => have := (this.1 hb).1; omega
    | false => have := (this.2 hb).1; omega
  · rcases hmem M hM with rfl | ⟨j, _, hj⟩
    · exact ⟨ok', by omega⟩
    · have := h.at hj; exact ⟨this.1, by omega⟩
  · rw [List.map_set, hl']
    have : ls.map LG.life = (ls.map LG.life).set i L.life := by
      apply List.ext_getElem?
      intro j
      by_cases e : j = i
      · subst e; rw [List.getElem?_set_self (by simpa using hlt), List.getElem?_map, hi]; rfl
      · rw [List.getElem?_set_ne (fun h => e h.symm)]
    rw [← this]
    exact h.li
  · rcases hmem M hM with rfl | ⟨j, hne, hj⟩
    · exact fit hf
    · exact absurd (lives_alone h.li hi hj (by omega)) hne
theorem Inv.same (h : Inv S s ls t) (hi : ls[i]? = some L) : Inv S s (ls.set i L) t := by
  have : ls.set i L = ls := by
    apply List.ext_getElem?
    intro j
    by_cases e : j = i
    · subst e; rw [List.getElem?_set_self (List.getElem?_eq_some_iff.1 hi).1, hi]
    · rw [List.getElem?_set_ne (fun h => e h.symm)]
  rw [this]
  exact h

theorem dead_no (h : L.dead S = false) : L.life = S.life ∧ S.fuse ≠ 0 := by
  unfold LG.dead at h
  rw [Bool.or_eq_false_iff] at h
  have h2 := h.2
  have h1 := h.1
  rw [beq_eq_false_iff_ne] at h1
  have : S.life = L.life := by simpa using h2
  exact ⟨this.symm, h1⟩
theorem unready_no (h : L.unready S = 0) : L.dead S = false ∧ L.begun = true := by
  unfold LG.unready at h
  split at h
  · omega
  · rename_i h1
    split at h
    · rename_i h2; exact ⟨by simpa using h1, h2⟩
    · omega
theorem num_fl {f : Nat} (h : S.Ok s) (hf : f + 1 < s) : (S.fl s).2.num f = S.num f := by
  unfold DS.num
  rw [fl_now h (by omega), fl_now h hf]

theorem Inv.take (h : Inv S s ls t) (ht : t ≤ 1000000000000000000) : Inv S.take s ls (t + 1) :=
  h.next ⟨h.ok.len, h.ok.lo, h.ok.hi, h.ok.puts, h.ok.fuse⟩ h.byt.take h.p6 h.p2 (wrap_life h.l0 h.lt ht)
theorem Inv.crash (h : Inv S s ls t) (ht : t ≤ 1000000000000000000) (l : List P3) (ok : (S.crash s l).Ok s) : Inv (S.crash s l) s ls (t + 1) :=
  h.next ok (h.byt.crash s l) (Nat.zero_le _) (fun _ => Nat.zero_le _) (wrap_life h.l0 h.lt ht)
theorem lay_same (S : DS) (x : Int) : (S.lay x).puts = S.puts ∧ (S.lay x).life = S.life ∧ (S.lay x).im = S.im ∧ ((S.lay x).fuse ≠ 0 → S.fuse ≠ 0) := by
  unfold DS.lay
  split
  · exact ⟨rfl, rfl, rfl, fun h => h⟩
  · rename_i h; exact ⟨rfl, rfl, rfl, fun _ => h⟩
theorem Inv.lay (h : Inv S s ls t) (x : Int) (ok : (S.lay x).Ok s) : Inv (S.lay x) s ls t := by
  obtain ⟨e1, e2, e3, e4⟩ := lay_same S x
  refine ⟨ok, h.byt.lay x, by rw [e1]; exact h.p6, fun hf => by rw [e1]; exact h.p2 (e4 hf), by rw [e2]; exact h.l0, by rw [e2]; exact h.lt, fun L hL => by rw [e2]; exact h.ol L hL, h.li, fun L hL e hf => ?_⟩
  have := h.al L hL (by rw [← e2]; exact e) (e4 hf)
  have en : ∀ k, (S.lay x).now k = S.now k := fun k => by unfold DS.now DS.cand; rw [e1, e3]
  unfold LG.Fit DS.num at *
  rw [en, en, e1]
  exact this

theorem Inv.sync (h : Inv S s ls t) (hi : ls[i]? = some L) : Inv (L.sync S s).2 s (ls.set i L) t := by
  unfold LG.sync
  split
  · exact h.same hi
  · rename_i hu
    obtain ⟨hd, hb⟩ := unready_no (Decidable.of_not_not hu)
    obtain ⟨ha, hf⟩ := dead_no hd
    have hL := (h.at hi).1
    have hfit := h.al L (List.mem_of_getElem? hi) ha hf
    have hs := hL.s
    have hn := hL.n1
    by_cases e : (S.fl s).1 = 0
    · have hp := fl_zero e
      refine h.on hi ha (fl_ok h.ok) (h.byt.fl s) (fl_life S s) (by rw [hp]; exact Nat.zero_le _) hL rfl (fun _ => ⟨fun _ => ⟨by rw [hp]; exact Nat.zero_le _, ?_⟩, fun c => by rw [hb] at c; cases c⟩)
      rw [num_fl h.ok (by omega)]
      exact (hfit.1 hb).2
    · have := fl_err e
      exact absurd this.2.1 hf

theorem fuse_left (hn : (S.fl s).1 = 0) : S.fuse ≠ 0 := fun h => by unfold DS.fl at hn; rw [if_pos h] at hn; cases hn

theorem Inv.start (h : Inv S s ls t) (hi : ls[i]? = some L) (ok : (L.start S s).2.1.Ok s) : Inv (L.start S s).2.1 s (ls.set i (L.start S s).2.2) t := by
  unfold LG.start at *
  split
  · exact h.same hi
  · rename_i hd
    rw [if_neg hd] at ok
    obtain ⟨ha, hf⟩ := dead_no (by simpa using hd : L.dead S = false)
    split
    · exact h.same hi
    · rename_i hb
      rw [if_neg hb] at ok
      have hb' : L.begun = false := by simpa using hb
      have hL := (h.at hi).1
      have hfit := (h.al L (List.mem_of_getElem? hi) ha hf).2 hb'
      have hs := hL.s
      have hn := hL.n1
      have ht := hL.top
      have eN : (((L.top + 1 : Nat) : Int) * 4294967296 + ((0 : Nat) : Int)) = (((L.top + 1) * 4294967296 : Nat) : Int) := by omega
      rw [eN] at ok ⊢
      obtain ⟨N, hN⟩ : ∃ N, N = (L.top + 1) * 4294967296 := ⟨_, rfl⟩
      rw [← hN] at ok hfit ⊢
      have hr := renew_ok (now_len h.ok L.f (by omega)) (now_len h.ok (L.f + 1) (by omega)) (N := N) (by omega) hfit.2
      split
      · rename_i h0
        rw [if_pos h0] at ok
        obtain ⟨e1, e2⟩ := anew_err (by omega) hr h0
        dsimp only at ok ⊢
        exact h.on hi ha ok (h.byt.anew s L.f _) (anew_life _ _ _ _) (by omega) hL rfl (fun c => absurd e1 c)
      · rename_i h0
        rw [if_neg h0] at ok
        obtain ⟨e1, e2⟩ := anew_num (s := s) (f := L.f) (N := N) h.ok (by omega) (by omega) (by omega) hfit.2 (Decidable.of_not_not h0)
        dsimp only at ok ⊢
        refine h.on hi ha ok (h.byt.anew s L.f _) (anew_life _ _ _ _) (by rw [e2]; exact Nat.zero_le _) ⟨hs, hn, hL.n2, by show L.top + 1 ≤ _; omega, hL.top, Nat.le_refl _, by show 0 ≤ _; omega, by show 0 ≤ _; omega, fun _ => by show 0 ≤ _; omega⟩ rfl (fun _ => ⟨fun _ => ⟨by rw [e2]; exact Nat.zero_le _, ?_⟩, fun c => by cases c⟩)
        show (anew S s L.f (N : Int)).2.num L.f ≤ (L.top + 1) * 4294967296 + 0
        rw [e1]
        omega

theorem Inv.trim (h : Inv S s ls t) (hi : ls[i]? = some L) (ok : (L.trim S s).2.1.Ok s) : Inv (L.trim S s).2.1 s (ls.set i (L.trim S s).2.2) t := by
  have hy := h.sync hi
  have hL := (h.at hi).1
  have hlt : i < ls.length := (List.getElem?_eq_some_iff.1 hi).1
  unfold LG.trim at *
  split
  · exact hy
  · rename_i h1
    rw [if_neg h1] at ok
    have hu : L.unready S = 0 := by
      unfold LG.sync at h1
      by_cases c : L.unready S = 0
      · exact c
      · rw [if_pos c] at h1; exact absurd (Decidable.of_not_not h1) c
    obtain ⟨hd, hb⟩ := unready_no hu
    obtain ⟨ha, hf⟩ := dead_no hd
    have hyp : (L.sync S s) = S.fl s := by unfold LG.sync; rw [if_neg (by omega)]
    split
    · exact hy
    · rename_i h2
      rw [if_neg h2] at ok
      have hfit := (h.al L (List.mem_of_getElem? hi) ha hf).1 hb
      rw [hyp] at ok h1 ⊢
      have hp := fl_zero (Decidable.of_not_not h1)
      have hs := hL.s
      have hn := hL.n1
      have hth := hL.th
      have hep := hL.ep
      have hhb := hL.hb hb
      have hnum : (S.fl s).2.num L.f = S.num L.f := num_fl h.ok (by omega)
      have hok := fl_ok (s := s) h.ok
      have eN : ((L.ep : Int) * 4294967296 + (L.head : Int)) = ((L.ep * 4294967296 + L.head : Nat) : Int) := by omega
      rw [eN] at ok ⊢
      obtain ⟨N, hN⟩ : ∃ N, N = L.ep * 4294967296 + L.head := ⟨_, rfl⟩
      have hlN : (S.fl s).2.num L.f < N := by rw [hnum, hN]; omega
      rw [← hN] at ok ⊢
      have hr := renew_ok (now_len hok L.f (by omega)) (now_len hok (L.f + 1) (by omega)) (N := N) (by omega) hlN
      have hlife := fl_life S s
      split
      · rename_i h0
        rw [if_pos h0] at ok
        obtain ⟨e1, e2⟩ := anew_err (by omega) hr h0
        rw [hp] at e2
        dsimp only at ok ⊢
        exact h.on hi ha ok ((h.byt.fl s).anew s L.f _) ((anew_life _ _ _ _).trans hlife) (Nat.le_trans e2 (by simp)) hL rfl (fun c => absurd e1 c)
      · rename_i h0
        rw [if_neg h0] at ok
        obtain ⟨e1, e2⟩ := anew_num (s := s) (f := L.f) (N := N) hok (by omega) (by omega) (by omega) hlN (Decidable.of_not_not h0)
        dsimp only at ok ⊢
        refine h.on hi ha ok ((h.byt.fl s).anew s L.f _) ((anew_life _ _ _ _).trans hlife) (by rw [e2]; exact Nat.zero_le _) ⟨hs, hn, hL.n2, hep, hL.top, Nat.le_refl _, by show L.head ≤ L.head + L.n; omega, hL.hi, hL.hb⟩ rfl (fun _ => ⟨fun _ => ⟨by rw [e2]; exact Nat.zero_le _, ?_⟩, fun c => by rw [show ({ L with tail := L.head } : LG).begun = L.begun from rfl, hb] at c; cases c⟩)
        show (anew (S.fl s).2 s L.f (N : Int)).2.num L.f ≤ L.ep * 4294967296 + L.head
        rw [e1]
        omega

theorem refuses_no (h : L.refuses S i = 0) : L.unready S = 0 ∧ 1 ≤ i ∧ i ≤ 8364 ∧ L.head + cntOf i ≤ 1073741824 ∧ L.head + cntOf i ≤ L.tail + L.n := by
  unfold LG.refuses at h
  repeat' split at h
  all_goals first | omega | (rename_i h1 h2 h3 h4 h5; exact ⟨by omega, by omega, by omega, by omega, by omega⟩)
theorem appTo_byt {d : List Int} (h : S.Byt) (hd : Bytes d) (k : Nat) : (appTo L S s d k).2.Byt :=
  stepsTo_byt h (fun j T hT => by
    unfold aput
    split
    · exact hT
    · exact hT.wr s _ _ (sseal_bytes (pbody_bytes ((hd.drop _).take _)))) k

theorem Inv.append (h : Inv S s ls t) (hi : ls[i]? = some L) {d : List Int} (hd : Bytes d) (ok : (L.append S s d).2.1.Ok s) : Inv (L.append S s d).2.1 s (ls.set i (L.append S s d).2.2) t := by
  unfold LG.append at *
  split
  · exact h.same hi
  · rename_i h1
    rw [if_neg h1] at ok
    obtain ⟨hu, hx1, hx2, hh, hr⟩ := refuses_no (Decidable.of_not_not h1)
    obtain ⟨hdd, hb⟩ := unready_no hu
    obtain ⟨ha, hf⟩ := dead_no hdd
    have hL := (h.at hi).1
    have hfit := (h.al L (List.mem_of_getElem? hi) ha hf).1 hb
    have hs := hL.s
    have hn := hL.n1
    have hn2 := hL.n2
    have hth := hL.th
    have hp2 := h.p2 hf
    have hc : cntOf d.length ≤ 17 := by unfold cntOf; omega
    obtain ⟨k1, k2, k3, k4⟩ := appTo_keeps (L := L) (S := S) (s := s) (d := d) (by omega) hs (cntOf d.length)
    have hby := appTo_byt (L := L) (s := s) h.byt hd (cntOf d.length)
    split
    · rename_i h0
      rw [if_pos h0] at ok
      dsimp only at ok ⊢
      exact h.on hi ha ok hby k1 (by omega) hL rfl (fun c => absurd (k3 h0) c)
    · rename_i h0
      rw [if_neg h0] at ok
      dsimp only at ok ⊢
      refine h.on hi ha ok hby k1 (by omega) ⟨hs, hn, hn2, hL.ep, hL.top, by show L.tail ≤ L.head + _; omega, by show L.head + _ ≤ _; omega, by show L.head + _ ≤ _; omega, fun _ => hh⟩ rfl (fun _ => ⟨fun _ => ⟨?_, ?_⟩, fun c => by rw [show ({ L with head := L.head + cntOf d.length } : LG).begun = L.begun from rfl, hb] at c; cases c⟩)
      · show _ ≤ L.head + cntOf d.length - L.tail
        omega
      · show DS.num _ L.f ≤ _
        unfold DS.num
        rw [k2 L.f (by omega), k2 (L.f + 1) (by omega)]
        exact hfit.2

theorem Inv.format (h : Inv S s ls t) (ht : t ≤ 1000000000000000000) (f n : Int) (ok : (lformat S s f n).2.Ok s) : Inv (lformat S s f n).2 s ls (t + 1) := by
  unfold lformat at *
  split
  · exact h.step
  · rename_i h1
    rw [if_neg h1] at ok
    obtain ⟨hf, a, b, rfl, rfl, hab, hb1, hb2⟩ := lrefuse_zero (Decidable.of_not_not h1)
    simp only [Int.toNat_natCast] at *
    have hlife := wrap_life h.l0 h.lt ht
    have hok : S.take.Ok s := ⟨h.ok.len, h.ok.lo, h.ok.hi, h.ok.puts, h.ok.fuse⟩
    obtain ⟨k1, k2, k3, k4⟩ := awipe_keeps (f := a) (n := b) hok hab
    have hp := awipe_puts S.take s a b
    have hp2 : S.take.puts.length ≤ 256 := h.p2 hf
    split
    · rename_i h0
      rw [if_pos h0] at ok
      exact h.next ok (h.byt.take.wipe s a b) (by omega) (fun c => absurd (k3 h0) c) (k1.trans hlife)
    · rename_i h0
      rw [if_neg h0] at ok
      obtain ⟨q1, q2⟩ := k4 (Decidable.of_not_not h0)
      have hr := renew_ok (now_len k2 a (by omega)) (now_len k2 (a + 1) (by omega)) (N := 4294967296) (by omega) (by show DS.num _ a < _; rw [q1]; omega)
      have hl2 := (anew_life (awipe S.take s a b).2 s a 4294967296).trans (k1.trans hlife)
      by_cases h3 : (anew (awipe S.take s a b).2 s a 4294967296).1 = 0
      · obtain ⟨e1, e2⟩ := anew_num (s := s) (f := a) (N := 4294967296) k2 (by omega) (by omega) (by omega) (by rw [q1]; omega) h3
        have e3 : (anew (awipe S.take s a b).2 s a 4294967296).2.puts.length = 0 := congrArg List.length e2
        exact h.next ok ((h.byt.take.wipe s a b).anew s a _) (by omega) (fun _ => by omega) hl2
      · obtain ⟨e1, e2⟩ := anew_err (by omega) hr h3
        rw [q2] at e2
        exact h.next ok ((h.byt.take.wipe s a b).anew s a _) (Nat.le_trans e2 (by simp)) (fun c => absurd e1 c) hl2

theorem Inv.open_no (h : Inv S s ls t) (ht : t ≤ 1000000000000000000) (f n : Int) (he : (lopen S s f n).1 ≠ 0) : Inv (lopen S s f n).2 s ls (t + 1) := by
  unfold lopen at *
  split
  · exact h.step
  · rename_i h1
    rw [if_neg h1] at he
    split
    · exact h.take ht
    · rename_i h2
      rw [if_neg h2] at he
      split
      · exact h.take ht
      · rename_i h3
        rw [if_neg h3] at he
        obtain ⟨e1, e2, _⟩ := fl_err he
        rw [e1]
        exact h.take ht

/-- The log that an Open gives. -/
def LG.opened (S : DS) (f n hd : Nat) : LG := { LG.new S f n with ep := (oNew S f).1, tail := (oNew S f).2.1, head := hd, top := oTop S f n }
theorem Inv.opened (h : Inv S s ls t) (ht : t ≤ 1000000000000000000) (f n : Int) (ok : (lopen S s f n).2.Ok s) (he : (lopen S s f n).1 = 0) {hd : Nat} (h1 : (oNew S f.toNat).2.1 ≤ hd) (h2 : hd ≤ (oNew S f.toNat).2.1 + n.toNat) : Inv (lopen S s f n).2 s (ls ++ [LG.opened S f.toNat n.toNat hd]) (t + 1) := by
  unfold lopen at *
  split
  · rename_i k1; rw [if_pos k1] at he; exact absurd he k1
  · rename_i k1
    rw [if_neg k1] at ok he
    split
    · rename_i k2; rw [if_pos k2] at he; exact absurd (Int.ofNat_eq_zero.1 he) k2
    · rename_i k2
      rw [if_neg k2] at ok he
      split
      · rename_i k3; rw [if_pos k3] at he; cases he
      · rename_i k3
        rw [if_neg k3] at ok he
        obtain ⟨hf, a, b, rfl, rfl, hab, hb1, hb2⟩ := lrefuse_zero (Decidable.of_not_not k1)
        simp only [Int.toNat_natCast] at *
        have hlife := wrap_life h.l0 h.lt ht
        have hok : S.take.Ok s := ⟨h.ok.len, h.ok.lo, h.ok.hi, h.ok.puts, h.ok.fuse⟩
        have hp := fl_zero he
        have hl2 : (S.take.fl s).2.life = S.life + 1 := (fl_life _ _).trans hlife
        have hz := oNew_ok (Decidable.of_not_not k2)
        have hto := oTop_le (n := b) (Decidable.of_not_not k2)
        have hn := h.next ok (h.byt.take.fl s) (by rw [hp]; exact Nat.zero_le _) (fun _ => by rw [hp]; exact Nat.zero_le _) hl2
        have hLl : (LG.opened S a b hd).life = S.life + 1 := hlife
        refine ⟨hn.ok, hn.byt, hn.p6, hn.p2, hn.l0, hn.lt, fun M hM => ?_, ?_, fun M hM e hf => ?_⟩
        · rcases List.mem_append.1 hM with h3 | h3
          · exact hn.ol M h3
          · obtain rfl := List.mem_singleton.1 h3
            refine ⟨⟨hab, hb1, hb2, hz.2.1, ?_, h1, h2, ?_, fun c => by cases c⟩, by omega⟩
            · show oTop S a b < _; omega
            · show hd ≤ _; omega
        · rw [List.map_append, List.pairwise_append]
          refine ⟨h.li, List.pairwise_singleton _ _, fun x hx y hy => ?_⟩
          obtain ⟨M, hM, rfl⟩ := List.mem_map.1 hx
          have := (h.ol M hM).2
          simp only [List.map_cons, List.map_nil, List.mem_singleton] at hy
          omega
        · rcases List.mem_append.1 hM with h3 | h3
          · have := (h.ol M h3).2; omega
          · obtain rfl := List.mem_singleton.1 h3
            refine ⟨fun c => (by cases c), fun _ => ⟨(by rw [hp]; rfl), ?_⟩⟩
            rw [show (LG.opened S a b hd).f = a from rfl, num_fl hok (by omega)]
            have e1 : S.take.num a = S.num a := rfl
            have e2 : (oNew S a).1 = S.num a / 4294967296 := by
              have k4 := Decidable.of_not_not k2
              unfold oNew lnewest at *
              split at k4
              · cases k4
              · rename_i k5; rw [if_neg k5]; rfl
            have e3 : (oNew S a).1 ≤ oTop S a b := by unfold oTop; omega
            rw [e1]
            show S.num a < (oTop S a b + 1) * 4294967296
            omega
end
end Go.Proofs.Ythdgndbmecnimaa
end

section
namespace Go.Proofs.Ythdgndbmecnimaa
open Go.RowKit

theorem fl_code (S : DS) (s : Nat) : (S.fl s).1 = 0 ∨ (S.fl s).1 = 3 := by
  unfold DS.fl
  split
  · exact .inr rfl
  · exact .inl rfl
theorem wr_code {S : DS} {s k : Nat} (hk : k < s) (l : List Int) : (S.wr s (k : Int) 512 l).1 = 0 ∨ (S.wr s (k : Int) 512 l).1 = 3 := by
  unfold DS.wr
  split
  · exact .inr rfl
  · rw [if_neg (by omega), if_neg (by omega)]; exact .inl rfl
theorem stepsTo_code {S : DS} {g : Nat → DS → Int × DS} : ∀ (n : Nat), (∀ k T, k < n → (g k T).1 = 0 ∨ (g k T).1 = 3) → (stepsTo S g n).1 = 0 ∨ (stepsTo S g n).1 = 3
  | 0, _ => .inl rfl
  | n + 1, h => by
    unfold stepsTo
    split
    · exact stepsTo_code n (fun k T hk => h k T (by omega))
    · exact h n _ (by omega)
theorem awipe_code {S : DS} {s f n : Nat} (h : f + 2 + n ≤ s) : (awipe S s f n).1 = 0 ∨ (awipe S s f n).1 = 3 := by
  unfold awipe
  split
  · exact stepsTo_code (n + 2) (fun k T hk => wr_code (by omega) _)
  · exact fl_code _ _
theorem anew_code {S : DS} {s f : Nat} {num : Int} (hf : f + 1 < s) (hok : (srenew (S.now f) (S.now (f + 1)) num []).2.2 = 0) : (anew S s f num).1 = 0 ∨ (anew S s f num).1 = 3 := by
  have hsl := srenew_slot (S.now f) (S.now (f + 1)) num []
  unfold anew
  split
  · exact .inr rfl
  · rw [if_neg (by omega)]
    generalize srenew (S.now f) (S.now (f + 1)) num [] = Y at *
    rw [show (f : Int) + (Y.1 : Int) = ((f + Y.1 : Nat) : Int) by omega]
    split
    · exact wr_code (by omega) _
    · exact fl_code _ _

section
variable {S : DS} {s t : Nat} {ls : List LG}

/-- What the law asks of a disk's life behind a call that may refuse its arguments. -/
def LivesOk (S S' : DS) (c : Int) : Prop := (S'.life = S.life ∧ (c = 11 ∨ c = 1 ∨ (c = 3 ∧ (S.fuse == 0) = true))) ∨ (S'.life ≠ S.life ∧ c ≠ 11 ∧ c ≠ 1 ∧ (c = 3 → (S.fuse == 0) = false))
theorem lives_refused {f n : Int} (h : lrefuse S s f n ≠ 0) : LivesOk S S (lrefuse S s f n) := by
  left
  refine ⟨rfl, ?_⟩
  unfold lrefuse at *
  by_cases h1 : S.fuse = 0
  · rw [if_pos h1]; exact .inr (.inr ⟨rfl, by rw [h1]; rfl⟩)
  · rw [if_neg h1] at h ⊢
    split
    · exact .inl rfl
    · split
      · exact .inr (.inl rfl)
      · split
        · exact .inl rfl
        · rename_i h2 h3 h4
          rw [if_neg h2, if_neg h3, if_neg h4] at h
          exact absurd rfl h
theorem lives_taken {S' : DS} {c : Int} (hf : S.fuse ≠ 0) (hl : S'.life = S.life + 1) (hc : c ≠ 11 ∧ c ≠ 1) : LivesOk S S' c :=
  .inr ⟨by omega, hc.1, hc.2, fun _ => by rw [beq_eq_false_iff_ne]; exact hf⟩
theorem lives_format (h : Inv S s ls t) (ht : t ≤ 1000000000000000000) (f n : Int) : LivesOk S (lformat S s f n).2 (lformat S s f n).1 := by
  unfold lformat
  split
  · rename_i h1; exact lives_refused h1
  · rename_i h1
    obtain ⟨hf, a, b, rfl, rfl, hab, hb1, hb2⟩ := lrefuse_zero (Decidable.of_not_not h1)
    simp only [Int.toNat_natCast]
    have hlife := wrap_life h.l0 h.lt ht
    have hok : S.take.Ok s := ⟨h.ok.len, h.ok.lo, h.ok.hi, h.ok.puts, h.ok.fuse⟩
    obtain ⟨k1, k2, k3, k4⟩ := awipe_keeps (f := a) (n := b) hok hab
    have hc1 := awipe_code (S := S.take) (s := s) (f := a) (n := b) hab
    split
    · exact lives_taken hf (k1.trans hlife) (by omega)
    · rename_i h0
      obtain ⟨q1, q2⟩ := k4 (Decidable.of_not_not h0)
      have hr := renew_ok (now_len k2 a (by omega)) (now_len k2 (a + 1) (by omega)) (N := 4294967296) (by omega) (by show DS.num _ a < _; rw [q1]; omega)
      have hc2 := anew_code (S := (awipe S.take s a b).2) (s := s) (f := a) (num := 4294967296) (by omega) hr
      exact lives_taken hf ((anew_life (awipe S.take s a b).2 s a 4294967296).trans (k1.trans hlife)) (by omega)
theorem lives_open (h : Inv S s ls t) (ht : t ≤ 1000000000000000000) (f n : Int) : LivesOk S (lopen S s f n).2 (lopen S s f n).1 := by
  unfold lopen
  split
  · rename_i h1; exact lives_refused h1
  · rename_i h1
    obtain ⟨hf, a, b, rfl, rfl, hab, hb1, hb2⟩ := lrefuse_zero (Decidable.of_not_not h1)
    simp only [Int.toNat_natCast]
    have hlife := wrap_life h.l0 h.lt ht
    split
    · rename_i h2
      have h3 : (oNew S a).2.2 = 6 := by
        unfold oNew lnewest at *
        split
        · rfl
        · rename_i h4; rw [if_neg h4] at h2; exact absurd rfl h2
      rw [h3]
      exact lives_taken hf hlife ⟨by show (_ : Int) ≠ 11; omega, by show (_ : Int) ≠ 1; omega⟩
    · split
      · exact lives_taken hf hlife ⟨by show (_ : Int) ≠ 11; omega, by show (_ : Int) ≠ 1; omega⟩
      · have := fl_code S.take s
        exact lives_taken hf ((fl_life _ _).trans hlife) (by omega)

theorem Tells.small {R : Nat → PC} {E : Nat} (hR : ∀ q, (R q).d.length ≤ 492) : ∀ {rs : List (List Int)} {P h : Nat}, Tells R E P rs h → ∀ d ∈ rs, d.length ≤ 8364
  | [], _, _, _, d, hd => by cases hd
  | x :: xs, P, h, ⟨k, hk, ht⟩, d, hd => by
    rcases List.mem_cons.1 hd with rfl | h1
    · have h2 : ∀ c, (dataTo R P c).length ≤ 492 * c := fun c => by
        induction c with
        | zero => simp [dataTo_zero]
        | succ c ih => rw [dataTo_succ, List.length_append]; have := hR (P + c); omega
      have := h2 k
      have := hk.2.1
      rw [hk.2.2.2]
      omega
    · exact Tells.small hR ht d h1
end


theorem spend_calm {S : DS} (h : S.fuse = -1) : S.spend.fuse = -1 := by
  unfold DS.spend
  simp only
  rw [if_neg (by omega)]
  exact h
theorem wr_calm {S : DS} (h : S.fuse = -1) (s : Nat) (x : Int) (n : Nat) (l : List Int) : (S.wr s x n l).2.fuse = -1 := by
  unfold DS.wr
  split
  · exact h
  · split
    · exact h
    · split
      · exact h
      · exact spend_calm h
theorem fl_calm {S : DS} (h : S.fuse = -1) (s : Nat) : (S.fl s).2.fuse = -1 := by
  unfold DS.fl
  split
  · exact h
  · exact spend_calm h
theorem stepsTo_calm {S : DS} (h : S.fuse = -1) {g : Nat → DS → Int × DS} (hg : ∀ k T, T.fuse = -1 → (g k T).2.fuse = -1) : ∀ n, (stepsTo S g n).2.fuse = -1
  | 0 => h
  | n + 1 => by
    unfold stepsTo
    split
    · exact stepsTo_calm h hg n
    · exact hg n _ (stepsTo_calm h hg n)
theorem awipe_calm {S : DS} (h : S.fuse = -1) (s f n : Nat) : (awipe S s f n).2.fuse = -1 := by
  have h1 : (wipeTo S s f (n + 2)).2.fuse = -1 := stepsTo_calm h (fun k T hT => wr_calm hT _ _ _ _) _
  unfold awipe
  split
  · exact h1
  · exact fl_calm h1 s
theorem anew_calm {S : DS} (h : S.fuse = -1) (s f : Nat) (num : Int) : (anew S s f num).2.fuse = -1 := by
  unfold anew
  split
  · exact h
  · split
    · exact h
    · split
      · exact wr_calm h _ _ _ _
      · exact fl_calm (wr_calm h _ _ _ _) _
theorem appTo_calm {L : LG} {S : DS} (h : S.fuse = -1) (s : Nat) (d : List Int) (k : Nat) : (appTo L S s d k).2.fuse = -1 :=
  stepsTo_calm h (fun k T hT => by
    unfold aput
    split
    · exact hT
    · exact wr_calm hT _ _ _ _) k

theorem renew_whole {l r : List Int} (hl : l.length = 512) (hr : r.length = 512) {N : Nat} (h1 : 1 ≤ N) (hN : N < 9223372036854775808) (h : (snewest l r).2.1 < N) :
    (snewest (sput l r (srenew l r (N : Int) []).1 (srenew l r (N : Int) []).2.1).1 (sput l r (srenew l r (N : Int) []).1 (srenew l r (N : Int) []).2.1).2).2 = (N, [], 0) := by
  have e : (srenew l r (N : Int) []) = if (snewest l r).2.2.2 = 0 ∧ (snewest l r).1 = 0 then (1, sform (turnOf (r.getD 0 0) (r.getD 511 0)) (bytes8 N ++ []), 0) else (0, sform (turnOf (l.getD 0 0) (l.getD 511 0)) (bytes8 N ++ []), 0) := by
    unfold srenew
    rw [if_neg (by omega), if_neg (by omega), if_neg (by simp)]
    simp only
    rw [if_neg (by omega), Int.toNat_natCast]
  rw [e]
  by_cases q : (snewest l r).2.2.2 = 0 ∧ (snewest l r).1 = 0
  · rw [if_pos q]
    have := pair_new (data := []) hl hr hN h1 (by simp) h (t := turnOf (r.getD 0 0) (r.getD 511 0)) (by have := turnOf_le (r.getD 0 0) (r.getD 511 0); omega) 1 (by rw [if_pos q])
    simp only
    rw [this]
  · rw [if_neg q]
    have := pair_new (data := []) hl hr hN h1 (by simp) h (t := turnOf (l.getD 0 0) (l.getD 511 0)) (by have := turnOf_le (l.getD 0 0) (l.getD 511 0); omega) 0 (by rw [if_neg q])
    simp only
    rw [this]
theorem anew_whole {S : DS} {s f N : Nat} (h : S.Ok s) (hf : f + 1 < s) (h1 : 1 ≤ N) (hN : N < 9223372036854775808) (hlt : S.num f < N) (h0 : (anew S s f (N : Int)).1 = 0) : (snewest ((anew S s f (N : Int)).2.now f) ((anew S s f (N : Int)).2.now (f + 1))).2 = (N, [], 0) ∧ ∀ j, j < s → j ≠ f → j ≠ f + 1 → (anew S s f (N : Int)).2.now j = S.now j := by
  have hl := now_len h f (by omega)
  have hr := now_len h (f + 1) hf
  have hok := renew_ok hl hr h1 hlt
  have hp := renew_whole hl hr h1 hN hlt
  have hsl := srenew_slot (S.now f) (S.now (f + 1)) (N : Int) []
  have hfu := srenew_full (S.now f) (S.now (f + 1)) (N : Int) [] hok
  unfold anew at *
  split at h0
  · simp at h0
  · rename_i hfz
    rw [if_neg hfz]
    rw [if_neg (by omega)] at h0 ⊢
    generalize srenew (S.now f) (S.now (f + 1)) (N : Int) [] = Y at *
    rw [show (f : Int) + (Y.1 : Int) = ((f + Y.1 : Nat) : Int) by omega] at h0 ⊢
    have hw0 : (S.wr s ((f + Y.1 : Nat) : Int) 512 Y.2.1).1 = 0 := by rw [wr_in hfz (by omega)]
    rw [if_neg (by omega)] at h0 ⊢
    have hwo := wr_ok h hfz (show f + Y.1 < s by omega) hfu
    refine ⟨?_, fun j hj e1 e2 => ?_⟩
    · rw [fl_now hwo (by omega), fl_now hwo hf, wr_now hfz (by omega), wr_now hfz (by omega)]
      unfold sput at hp
      by_cases q : Y.1 = 0
      · rw [q] at hp ⊢
        rw [if_pos (by omega), if_neg (by omega)]
        rw [if_pos rfl] at hp
        exact hp
      · have q1 : Y.1 = 1 := by omega
        rw [q1] at hp ⊢
        rw [if_neg (by omega), if_pos rfl]
        rw [if_neg (by omega)] at hp
        exact hp
    · rw [fl_now hwo hj, wr_now hfz (by omega), if_neg (by omega)]

theorem sopens_zero : (sopens (zs 512)).2 ≠ 0 ∨ (sopens (zs 512)).1.length < 12 := by
  have hb : sbody (zs 512) = [] := by
    unfold sbody
    rw [show slen (zs 512) = 0 from by unfold slen; rw [show (zs 512).getD 1 0 = 0 from rfl, show (zs 512).getD 2 0 = 0 from rfl]; rfl]
    exact List.take_zero
  unfold sopens
  rw [if_neg (by rw [zs_len]; omega)]
  unfold sopen
  rw [hb]
  split
  · left; show (30 : Nat) ≠ 0; omega
  · rename_i b h
    right
    split at h
    · cases h; show (0 : Nat) < 12; omega
    · cases h
theorem fresh_piece : (pcOf (zs 512)).d = [] ∧ (pcOf (zs 512)).e = 0 := by
  unfold pcOf
  rw [if_pos sopens_zero]
  exact ⟨rfl, rfl⟩
theorem rtop_zero {R : Nat → PC} : ∀ k, (∀ i, i < k → (R i).e = 0) → rtop R k = 0
  | 0, _ => rfl
  | k + 1, h => by
    show (if (R k).e ≤ 1073741824 then max (rtop R k) (R k).e else rtop R k) = 0
    rw [h k (by omega), rtop_zero k (fun i hi => h i (by omega))]
    rfl
theorem awipe_zs {S : DS} {s f n : Nat} (h : S.Ok s) (hs : f + 2 + n ≤ s) (h0 : (awipe S s f n).1 = 0) : ∀ j, j < n + 2 → (awipe S s f n).2.now (f + j) = zs 512 := fun j hj => by
  obtain ⟨h1, h2, h3, h4⟩ := wipeTo_keeps (f := f) h (n := n + 2) (by omega) (n + 2) (Nat.le_refl _)
  unfold awipe at *
  by_cases e : (wipeTo S s f (n + 2)).1 = 0
  · rw [if_neg (by omega), fl_now h2 (by omega)]
    exact h4 e j hj
  · rw [if_pos e] at h0
    exact absurd h0 e

section
variable {S : DS} {s t i : Nat} {ls : List LG} {L : LG}
theorem format_calm (h : Inv S s ls t) (_ht : t ≤ 1000000000000000000) (hf : S.fuse = -1) {a b : Nat} (hab : a + 2 + b ≤ s) (hb1 : 18 ≤ b) (hb2 : b ≤ 256) :
    (lformat S s a b).1 = 0 ∧ (lformat S s a b).2.fuse = -1 ∧ oNew (lformat S s a b).2 a = (1, 0, 0) ∧ ∀ j, j < b → (lformat S s a b).2.now (a + 2 + j) = zs 512 := by
  have hr0 : lrefuse S s (a : Int) (b : Int) = 0 := by
    unfold lrefuse
    rw [if_neg (by omega), if_neg (by omega), if_neg (by omega), if_neg (by omega)]
  unfold lformat
  rw [if_neg (by omega)]
  simp only [Int.toNat_natCast]
  have hok : S.take.Ok s := ⟨h.ok.len, h.ok.lo, h.ok.hi, h.ok.puts, h.ok.fuse⟩
  obtain ⟨k1, k2, k3, k4⟩ := awipe_keeps (f := a) (n := b) hok hab
  have hc1 : (awipe S.take s a b).2.fuse = -1 := awipe_calm (S := S.take) hf s a b
  have h0 : (awipe S.take s a b).1 = 0 := Decidable.byContradiction (fun e => by have := k3 e; omega)
  have hz := awipe_zs hok hab h0
  obtain ⟨q1, q2⟩ := k4 h0
  rw [if_neg (by omega)]
  have hr := renew_ok (now_len k2 a (by omega)) (now_len k2 (a + 1) (by omega)) (N := 4294967296) (by omega) (by show DS.num _ a < _; rw [q1]; omega)
  have hc2 : (anew (awipe S.take s a b).2 s a 4294967296).2.fuse = -1 := anew_calm hc1 s a _
  have h1 : (anew (awipe S.take s a b).2 s a 4294967296).1 = 0 := Decidable.byContradiction (fun e => by have h5 := (anew_err (num := 4294967296) (by omega) hr e).1; rw [hc2] at h5; omega)
  obtain ⟨w1, w2⟩ := anew_whole (s := s) (f := a) (N := 4294967296) k2 (by omega) (by omega) (by omega) (by rw [q1]; omega) h1
  refine ⟨h1, hc2, ?_, fun j hj => ?_⟩
  · unfold oNew lnewest
    generalize snewest ((anew (awipe S.take s a b).2 s a 4294967296).2.now a) ((anew (awipe S.take s a b).2 s a 4294967296).2.now (a + 1)) = X at *
    have w1 : X.2 = (4294967296, [], 0) := w1
    rw [w1]
    decide
  · have := w2 (a + 2 + j) (by omega) (by omega) (by omega)
    refine Eq.trans this ?_
    rw [show a + 2 + j = a + (2 + j) by omega]
    exact hz (2 + j) (by omega)
theorem open_calm {a b : Nat} (_hok : S.Ok s) (hf : S.fuse = -1) (hab : a + 2 + b ≤ s) (hb1 : 18 ≤ b) (hb2 : b ≤ 256) (hn : oNew S a = (1, 0, 0)) (hz : ∀ j, j < b → S.now (a + 2 + j) = zs 512) :
    (lopen S s a b).1 = 0 ∧ (lopen S s a b).2.fuse = -1 ∧ (lopen S s a b).2.life = wrap64 (S.life + 1) ∧ (∀ rs hd, Tells (Rp (oRing S a) b) (oNew S a).1 (oNew S a).2.1 rs hd → rs = [] ∧ hd = 0) ∧ oTop S a b = 1 := by
  have hr0 : lrefuse S s (a : Int) (b : Int) = 0 := by
    unfold lrefuse
    rw [if_neg (by omega), if_neg (by omega), if_neg (by omega), if_neg (by omega)]
  have hR : ∀ j, j < b → (oRing S a j).e = 0 ∧ (oRing S a j).d = [] := fun j hj => by
    unfold oRing
    rw [hz j hj]
    exact ⟨fresh_piece.2, fresh_piece.1⟩
  have ht : oTop S a b = 1 := by
    unfold oTop
    rw [rtop_zero b (fun i hi => (hR i hi).1), hn]
    rfl
  have e1 : lopen S s (a : Int) (b : Int) = S.take.fl s := by
    unfold lopen
    rw [if_neg (by omega), Int.toNat_natCast, Int.toNat_natCast, if_neg (by rw [hn]; decide), if_neg (by omega)]
  rw [e1]
  have hc : (S.take.fl s).2.fuse = -1 := fl_calm (S := S.take) hf s
  refine ⟨Decidable.byContradiction (fun e => by have := (fl_err e).2.1; have : S.take.fuse = -1 := hf; omega), hc, fl_life _ _, fun rs hd htl => ?_, ht⟩
  rw [hn] at htl
  cases rs with
  | nil => exact ⟨rfl, htl⟩
  | cons x xs =>
    obtain ⟨c, hc, _⟩ := htl
    have h1 := (hc.2.2.1 0 (by have := hc.1; omega)).2.2.2.2.1
    have h2 : Rp (oRing S a) b (0 + 0) = oRing S a 0 := by unfold Rp; rw [Nat.add_zero, Nat.zero_mod]
    rw [h2, (hR 0 (by omega)).2] at h1
    simp at h1
theorem start_calm (h : Inv S s ls t) (hi : ls[i]? = some L) (hf : S.fuse = -1) (ha : L.life = S.life) (hb : L.begun = false) :
    (L.start S s).1 = 0 ∧ (L.start S s).2.1.fuse = -1 ∧ (L.start S s).2.1.life = S.life ∧ (L.start S s).2.2 = { L with begun := true, ep := L.top + 1, tail := 0, head := 0 } := by
  have hd : L.dead S = false := by
    unfold LG.dead
    rw [Bool.or_eq_false_iff]
    exact ⟨by rw [beq_eq_false_iff_ne]; omega, by rw [ha]; simp⟩
  have hL := (h.at hi).1
  have hs := hL.s
  have hn := hL.n1
  have hfit := (h.al L (List.mem_of_getElem? hi) ha (by omega)).2 hb
  have eN : (((L.top + 1 : Nat) : Int) * 4294967296 + ((0 : Nat) : Int)) = (((L.top + 1) * 4294967296 : Nat) : Int) := by omega
  unfold LG.start
  rw [if_neg (by rw [hd]; decide), if_neg (by rw [hb]; decide), eN]
  have hr := renew_ok (now_len h.ok L.f (by omega)) (now_len h.ok (L.f + 1) (by omega)) (N := (L.top + 1) * 4294967296) (by omega) hfit.2
  have hc := anew_calm hf s L.f (((L.top + 1) * 4294967296 : Nat) : Int)
  have h0 : (anew S s L.f (((L.top + 1) * 4294967296 : Nat) : Int)).1 = 0 := Decidable.byContradiction (fun e => by have := (anew_err (by omega) hr e).1; omega)
  rw [if_neg (by omega)]
  exact ⟨rfl, hc, anew_life _ _ _ _, rfl⟩
theorem append_calm (h : Inv S s ls t) (hi : ls[i]? = some L) (hf : S.fuse = -1) (ha : L.life = S.life) (hb : L.begun = true) {d : List Int} (hd1 : d.length = 1) (hr : L.head + 1 ≤ L.tail + L.n) (hp : L.head + 1 ≤ 1073741824) :
    (L.append S s d).1 = 0 ∧ (L.append S s d).2.1.fuse = -1 ∧ (L.append S s d).2.1.life = S.life ∧ (L.append S s d).2.2 = { L with head := L.head + 1 } := by
  have hd : L.dead S = false := by
    unfold LG.dead
    rw [Bool.or_eq_false_iff]
    exact ⟨by rw [beq_eq_false_iff_ne]; omega, by rw [ha]; simp⟩
  have hL := (h.at hi).1
  have hs := hL.s
  have hn := hL.n1
  have hu : L.unready S = 0 := by
    unfold LG.unready
    rw [if_neg (by rw [hd]; decide), if_pos hb]
  have hc1 : cntOf 1 = 1 := by decide
  have hrf : L.refuses S d.length = 0 := by
    unfold LG.refuses
    rw [hd1, hc1, if_neg (by omega), if_neg (by omega), if_neg (by omega), if_neg (by omega), if_neg (by omega)]
  obtain ⟨k1, k2, k3, k4⟩ := appTo_keeps (L := L) (S := S) (s := s) (d := d) (by omega) hs (cntOf d.length)
  have hc := appTo_calm (L := L) hf s d (cntOf d.length)
  have h0 : (appTo L S s d (cntOf d.length)).1 = 0 := Decidable.byContradiction (fun e => by have := k3 e; omega)
  unfold LG.append
  rw [if_neg (by omega), if_neg (by omega)]
  refine ⟨rfl, hc, k1, ?_⟩
  show ({ L with head := L.head + cntOf d.length } : LG) = _
  rw [hd1, hc1]
end
end Go.Proofs.Ythdgndbmecnimaa
end

section
namespace Go.Proofs.Ythdgndbmecnimaa
open Go.RowKit


section
variable {S S' : DS} {s t i : Nat} {ls : List LG} {L : LG}

theorem alive_no (hf : S.fuse = -1) (ha : L.life = S.life) : L.dead S = false := by
  unfold LG.dead
  rw [Bool.or_eq_false_iff]
  exact ⟨by rw [beq_eq_false_iff_ne]; omega, by rw [ha]; simp⟩
theorem ready_yes (hf : S.fuse = -1) (ha : L.life = S.life) (hb : L.begun = true) : L.unready S = 0 := by
  unfold LG.unready
  rw [if_neg (by rw [alive_no hf ha]; decide), if_pos hb]
theorem sync_calm (hf : S.fuse = -1) (ha : L.life = S.life) (hb : L.begun = true) : L.sync S s = S.fl s ∧ (S.fl s).1 = 0 := by
  unfold LG.sync
  rw [if_neg (by rw [ready_yes hf ha hb]; decide)]
  exact ⟨rfl, Decidable.byContradiction (fun e => by have := (fl_err e).2.1; omega)⟩
theorem trim_calm (h : Inv S s ls t) (hi : ls[i]? = some L) (hf : S.fuse = -1) (ha : L.life = S.life) (hb : L.begun = true) :
    (L.trim S s).1 = 0 ∧ (L.trim S s).2.1.fuse = -1 ∧ (L.trim S s).2.1.life = S.life ∧ (L.trim S s).2.2 = { L with tail := L.head } := by
  obtain ⟨e1, e2⟩ := sync_calm (s := s) hf ha hb
  have hL := (h.at hi).1
  have hs := hL.s
  have hn := hL.n1
  have hth := hL.th
  have hep := hL.ep
  have hhb := hL.hb hb
  have hfit := (h.al L (List.mem_of_getElem? hi) ha (by omega)).1 hb
  have hc : (S.fl s).2.fuse = -1 := fl_calm hf s
  unfold LG.trim
  rw [e1, if_neg (by omega)]
  split
  · rename_i h2
    refine ⟨rfl, hc, fl_life _ _, ?_⟩
    show L = _
    cases L
    simp only at h2
    subst h2
    rfl
  · rename_i h2
    have hnum : (S.fl s).2.num L.f = S.num L.f := num_fl h.ok (by omega)
    have hok := fl_ok (s := s) h.ok
    have eN : ((L.ep : Int) * 4294967296 + (L.head : Int)) = ((L.ep * 4294967296 + L.head : Nat) : Int) := by omega
    rw [eN]
    have hr := renew_ok (now_len hok L.f (by omega)) (now_len hok (L.f + 1) (by omega)) (N := L.ep * 4294967296 + L.head) (by omega) (by show DS.num _ _ < _; rw [hnum]; omega)
    have hc2 := anew_calm hc s L.f ((L.ep * 4294967296 + L.head : Nat) : Int)
    have h0 : (anew (S.fl s).2 s L.f ((L.ep * 4294967296 + L.head : Nat) : Int)).1 = 0 := Decidable.byContradiction (fun e => by have := (anew_err (by omega) hr e).1; omega)
    rw [if_neg (by omega)]
    exact ⟨rfl, hc2, (anew_life _ _ _ _).trans (fl_life _ _), rfl⟩
/-- An append where no fuse threatens: just what has room is taken. -/
theorem append_room (h : Inv S s ls t) (hi : ls[i]? = some L) (hf : S.fuse = -1) (ha : L.life = S.life) (hb : L.begun = true) {d : List Int} (h1 : 1 ≤ d.length) (h2 : d.length ≤ 8364) (hp : L.head + 17 ≤ 1073741824) :
    (L.append S s d).2.1.fuse = -1 ∧ (L.append S s d).2.1.life = S.life ∧ (L.head + cntOf d.length ≤ L.tail + L.n → (L.append S s d).1 = 0 ∧ (L.append S s d).2.2 = { L with head := L.head + cntOf d.length }) ∧ (L.tail + L.n < L.head + cntOf d.length → (L.append S s d).1 = 40 ∧ (L.append S s d).2.2 = L) := by
  have hu := ready_yes hf ha hb
  have hL := (h.at hi).1
  have hs := hL.s
  have hn := hL.n1
  have hc17 : cntOf d.length ≤ 17 := by unfold cntOf; omega
  obtain ⟨k1, k2, k3, k4⟩ := appTo_keeps (L := L) (S := S) (s := s) (d := d) (by omega) hs (cntOf d.length)
  have hc := appTo_calm (L := L) hf s d (cntOf d.length)
  have h0 : (appTo L S s d (cntOf d.length)).1 = 0 := Decidable.byContradiction (fun e => by have := k3 e; omega)
  by_cases q : L.head + cntOf d.length ≤ L.tail + L.n
  · have hrf : L.refuses S d.length = 0 := by
      unfold LG.refuses
      rw [if_neg (by omega), if_neg (by omega), if_neg (by omega), if_neg (by omega), if_neg (by omega)]
    have e : L.append S s d = (0, (appTo L S s d (cntOf d.length)).2, { L with head := L.head + cntOf d.length }) := by
      unfold LG.append
      rw [if_neg (by omega), if_neg (by omega)]
    rw [e]
    exact ⟨hc, k1, fun _ => ⟨rfl, rfl⟩, fun h => by omega⟩
  · have hrf : L.refuses S d.length = 40 := by
      unfold LG.refuses
      rw [if_neg (by omega), if_neg (by omega), if_neg (by omega), if_neg (by omega), if_pos (by omega)]
    have e : L.append S s d = (40, S, L) := by
      unfold LG.append
      rw [if_pos (by omega), hrf]
    rw [e]
    exact ⟨hf, rfl, fun h => by omega, fun _ => ⟨rfl, rfl⟩⟩
/-- Any append where no fuse threatens. -/
theorem append_safe (h : Inv S s ls t) (hi : ls[i]? = some L) (hf : S.fuse = -1) (d : List Int) : (L.append S s d).2.1.fuse = -1 ∧ (L.append S s d).2.1.life = S.life ∧ ∃ c, (L.append S s d).2.2 = { L with head := L.head + c } ∧ (L.append S s d).2.1 = (appTo L S s d c).2 := by
  have hL := (h.at hi).1
  have hs := hL.s
  have hn := hL.n1
  obtain ⟨k1, k2, k3, k4⟩ := appTo_keeps (L := L) (S := S) (s := s) (d := d) (by omega) hs (cntOf d.length)
  have hc := appTo_calm (L := L) hf s d (cntOf d.length)
  have h0 : (appTo L S s d (cntOf d.length)).1 = 0 := Decidable.byContradiction (fun e => by have := k3 e; omega)
  unfold LG.append
  split
  · exact ⟨hf, rfl, 0, rfl, rfl⟩
  · rw [if_neg (by omega)]
    exact ⟨hc, k1, cntOf d.length, rfl, rfl⟩
end


theorem leb_le : ∀ (n m : Nat), m < 2 ^ (8 * n) → le (leb n m) = m
  | 0, m, h => by
    have : m = 0 := by simpa using h
    subst this
    rfl
  | n + 1, m, h => by
    have e : 2 ^ (8 * (n + 1)) = 2 ^ (8 * n) * 256 := by rw [Nat.mul_succ, Nat.pow_add]
    have h2 : m / 256 < 2 ^ (8 * n) := by rw [Nat.div_lt_iff_lt_mul (by omega), ← e]; exact h
    show (((m % 256 : Nat) : Int).toNat + 256 * le (leb n (m / 256))) = m
    rw [leb_le n (m / 256) h2]
    omega
theorem pc_e {l : List Int} (h1 : (sopens l).2 = 0) (h2 : 12 ≤ (sopens l).1.length) : (pcOf l).e = le (((sopens l).1).take 4) := by
  unfold pcOf
  rw [if_neg (by omega)]
  rfl
theorem pc_sealed {old : List Int} (ho : old.length = 512) {E P i c : Nat} {l : List Int} (hl : l.length ≤ 492) (hE : E < 4294967296) : (pcOf (sseal old (pbody E P i c l)).1).e = E := by
  have hlen : (pbody E P i c l).length = 12 + l.length := by unfold pbody; simp [leb_len]; omega
  rw [sseal_ok ho (by omega)]
  have h1 := sopen_form (turnOf (old.getD 0 0) (old.getD 511 0)) (pbody E P i c l) (by omega) (by have := turnOf_le (old.getD 0 0) (old.getD 511 0); omega)
  have h2 := sopens_some (by have := (sseal_full (body := pbody E P i c l) ho (by omega)).2; rw [sseal_ok ho (by omega)] at this; exact this) h1
  have h3 := pc_e (by rw [h2]) (by rw [h2]; show 12 ≤ (pbody E P i c l).length; omega)
  rw [h3, h2]
  show le ((pbody E P i c l).take 4) = E
  unfold pbody
  rw [List.take_left' (by rw [leb_len])]
  exact leb_le 4 E hE
end Go.Proofs.Ythdgndbmecnimaa
end

section
namespace Go.Proofs.Ythdgndbmecnimaa
open Go.RowKit

/-- The newest anchor is of that number, and no sector of the ring is of a later epoch than E. -/
def Snd (S : DS) (f n N E : Nat) : Prop := (snewest (S.now f) (S.now (f + 1))).2 = (N, [], 0) ∧ ∀ i, i < n → (pcOf (S.now (f + 2 + i))).e ≤ E

section
variable {S S' : DS} {s t i f n N E : Nat} {ls : List LG} {L : LG}

theorem Snd.same (h : Snd S f n N E) (he : ∀ j, j < f + 2 + n → S'.now j = S.now j) : Snd S' f n N E := by
  refine ⟨?_, fun i hi => ?_⟩
  · rw [he f (by omega), he (f + 1) (by omega)]; exact h.1
  · rw [he (f + 2 + i) (by omega)]; exact h.2 i hi
theorem Snd.fl (h : Snd S f n N E) (hok : S.Ok s) (hs : f + 2 + n ≤ s) : Snd (S.fl s).2 f n N E := h.same (fun j hj => fl_now hok (by omega))
theorem Snd.take (h : Snd S f n N E) : Snd S.take f n N E := h
theorem crash_now (hok : S.Ok s) (hp : S.puts = []) (l : List P3) {j : Nat} (hj : j < s) : (S.crash s l).now j = S.now j := by
  have e1 : S.now j = dsec S.im j := now_none _ _ (by rw [hp]; rfl)
  rw [now_none _ _ rfl]
  show dsec (imOf s (cutOf S l)) j = S.now j
  rw [sec_imOf s (cutOf S l) (fun k hk => cut_len hok l k hk) j hj, e1]
  unfold cutOf
  rw [if_pos (by rw [hp]; rfl)]
theorem Snd.crash (h : Snd S f n N E) (hok : S.Ok s) (hs : f + 2 + n ≤ s) (hp : S.puts = []) (l : List P3) : Snd (S.crash s l) f n N E := h.same (fun j hj => crash_now hok hp l (by omega))

theorem aput_ring (hok : S.Ok s) (hf : S.fuse ≠ 0) (hn : 1 ≤ n) (hs : f + 2 + n ≤ s) {P j c : Nat} {l : List Int} (hl : l.length ≤ 492) (hE : E < 4294967296) : (aput S s f n E P j c l).2.Ok s ∧ ∀ k, (aput S s f n E P j c l).2.now k = S.now k ∨ (pcOf ((aput S s f n E P j c l).2.now k)).e = E := by
  have hm : P % n < n := Nat.mod_lt _ hn
  have ho := now_len hok (f + 2 + P % n) (by omega)
  have hlen : (pbody E P j c l).length ≤ 504 := by unfold pbody; simp [leb_len]; omega
  unfold aput
  rw [if_neg hf]
  refine ⟨wr_ok hok hf (by omega) (sseal_full ho hlen).2, fun k => ?_⟩
  rw [wr_now hf (by omega)]
  split
  · right; exact pc_sealed ho hl hE
  · exact .inl rfl
theorem appTo_ring (hok : S.Ok s) (hf : S.fuse = -1) (hn : 1 ≤ L.n) (hs : L.f + 2 + L.n ≤ s) (hE : L.ep < 4294967296) {d : List Int} : ∀ k, (appTo L S s d k).2.Ok s ∧ ∀ j, (appTo L S s d k).2.now j = S.now j ∨ (pcOf ((appTo L S s d k).2.now j)).e = L.ep
  | 0 => ⟨hok, fun j => .inl rfl⟩
  | k + 1 => by
    obtain ⟨h1, h2⟩ := appTo_ring hok hf hn hs hE (d := d) k
    have hc := appTo_calm (L := L) hf s d k
    by_cases e : (appTo L S s d k).1 = 0
    · have e2 : appTo L S s d (k + 1) = aput (appTo L S s d k).2 s L.f L.n L.ep (L.head + k) k (cntOf d.length) (partOf d k) := by
        show (if (appTo L S s d k).1 ≠ 0 then appTo L S s d k else _) = _
        rw [if_neg (fun h => h e)]
        rfl
      have hl : (partOf d k).length ≤ 492 := by unfold partOf; rw [List.length_take]; omega
      obtain ⟨h3, h4⟩ := aput_ring (n := L.n) (f := L.f) (E := L.ep) (P := L.head + k) (j := k) (c := cntOf d.length) (l := partOf d k) h1 (by omega) hn hs hl hE
      rw [e2]
      refine ⟨h3, fun j => ?_⟩
      rcases h4 j with h5 | h5
      · rw [h5]; exact h2 j
      · exact .inr h5
    · have e2 : appTo L S s d (k + 1) = appTo L S s d k := stepsTo_err e (k + 1) (by omega)
      rw [e2]
      exact ⟨h1, h2⟩
theorem Snd.append (h : Snd S L.f L.n N E) (hi : Inv S s ls t) (hL : ls[i]? = some L) (hf : S.fuse = -1) (hE : L.ep ≤ E) (d : List Int) : Snd (L.append S s d).2.1 L.f L.n N E := by
  obtain ⟨_, _, c, _, e⟩ := append_safe hi hL hf d
  have hk := (hi.at hL).1
  have h1 := hk.s
  have h2 := hk.n1
  have h3 := hk.ep
  rw [e]
  obtain ⟨_, k2, _, _⟩ := appTo_keeps (L := L) (S := S) (s := s) (d := d) (by omega) h1 c
  refine ⟨?_, fun j hj => ?_⟩
  · rw [k2 L.f (by omega), k2 (L.f + 1) (by omega)]; exact h.1
  · rcases (appTo_ring (L := L) (d := d) hi.ok hf (by omega) h1 (by omega) c).2 (L.f + 2 + j) with h5 | h5
    · rw [h5]; exact h.2 j hj
    · rw [h5]; exact hE

theorem rtop_bound {R : Nat → PC} : ∀ k, (∀ i, i < k → (R i).e ≤ E) → rtop R k ≤ E
  | 0, _ => Nat.zero_le _
  | k + 1, h => by
    show (if (R k).e ≤ 1073741824 then max (rtop R k) (R k).e else rtop R k) ≤ E
    have := rtop_bound k (fun i hi => h i (by omega))
    have := h k (by omega)
    split <;> omega
/-- The Open of a sound log. -/
theorem open_sound (h : Snd S f n (E * 4294967296) E) (hE1 : 1 ≤ E) (hE2 : E < 1073741824) (hok : S.Ok s) (hf : S.fuse = -1) (hab : f + 2 + n ≤ s) (hb1 : 18 ≤ n) (hb2 : n ≤ 256) :
    (lopen S s f n).1 = 0 ∧ (lopen S s f n).2.fuse = -1 ∧ (lopen S s f n).2.life = wrap64 (S.life + 1) ∧ (∀ j, j < s → (lopen S s f n).2.now j = S.now j) ∧ (lopen S s f n).2.puts = [] ∧ oNew S f = (E, 0, 0) := by
  have hr0 : lrefuse S s (f : Int) (n : Int) = 0 := by
    unfold lrefuse
    rw [if_neg (by omega), if_neg (by omega), if_neg (by omega), if_neg (by omega)]
  have hn : oNew S f = (E, 0, 0) := by
    unfold oNew lnewest
    have h1 := h.1
    generalize snewest (S.now f) (S.now (f + 1)) = X at *
    rw [h1]
    simp only [List.length_nil]
    rw [if_neg (by omega), Nat.mul_div_cancel E (by omega : 0 < 4294967296), Nat.mul_mod_left]
  have ht : oTop S f n = E := by
    unfold oTop
    rw [hn]
    have := rtop_bound (R := oRing S f) (E := E) n h.2
    show max E (rtop (oRing S f) n) = E
    omega
  have e1 : lopen S s (f : Int) (n : Int) = S.take.fl s := by
    unfold lopen
    rw [if_neg (by omega), Int.toNat_natCast, Int.toNat_natCast, if_neg (by rw [hn]; show ¬ (0 : Nat) ≠ 0; omega), if_neg (by omega)]
  have h0 : (S.take.fl s).1 = 0 := Decidable.byContradiction (fun e => by have := (fl_err e).2.1; have : S.take.fuse = -1 := hf; omega)
  rw [e1]
  exact ⟨h0, fl_calm (S := S.take) hf s, fl_life _ _, fun j hj => fl_now (S := S.take) ⟨hok.len, hok.lo, hok.hi, hok.puts, hok.fuse⟩ hj, fl_zero h0, hn⟩
/-- What is told is a matter of the sectors alone. -/
theorem told_same {rs rs' : List (List Int)} {T hd hd' : Nat} (he : ∀ j, j < f + 2 + n → S'.now j = S.now j) (hn : 1 ≤ n) (h1 : Tells (Rp (oRing S f) n) E T rs hd) (h2 : ∀ c d, ¬ Rec (Rp (oRing S f) n) E hd c d) (h3 : Tells (Rp (oRing S' f) n) E T rs' hd') (h4 : ∀ c d, ¬ Rec (Rp (oRing S' f) n) E hd' c d) : rs = rs' := by
  have e : Rp (oRing S' f) n = Rp (oRing S f) n := by
    funext P
    have := Nat.mod_lt P hn
    show pcOf (S'.now (f + 2 + P % n)) = pcOf (S.now (f + 2 + P % n))
    rw [he _ (by omega)]
  rw [e] at h3 h4
  exact (Tells.unique h1 h2 h3 h4).1
/-- Behind the Start of a log whose ring is clean. -/
theorem Snd.start (h : Inv S s ls t) (hi : ls[i]? = some L) (hf : S.fuse = -1) (ha : L.life = S.life) (hb : L.begun = false) (hr : ∀ j, j < L.n → (pcOf (S.now (L.f + 2 + j))).e ≤ L.top + 1) : Snd (L.start S s).2.1 L.f L.n ((L.top + 1) * 4294967296) (L.top + 1) := by
  have hd := alive_no hf ha
  have hL := (h.at hi).1
  have hs := hL.s
  have hn := hL.n1
  have ht := hL.top
  have hfit := (h.al L (List.mem_of_getElem? hi) ha (by omega)).2 hb
  have eN : (((L.top + 1 : Nat) : Int) * 4294967296 + ((0 : Nat) : Int)) = (((L.top + 1) * 4294967296 : Nat) : Int) := by omega
  have hrn := renew_ok (now_len h.ok L.f (by omega)) (now_len h.ok (L.f + 1) (by omega)) (N := (L.top + 1) * 4294967296) (by omega) hfit.2
  have hc := anew_calm hf s L.f (((L.top + 1) * 4294967296 : Nat) : Int)
  have h0 : (anew S s L.f (((L.top + 1) * 4294967296 : Nat) : Int)).1 = 0 := Decidable.byContradiction (fun e => by have := (anew_err (by omega) hrn e).1; omega)
  obtain ⟨w1, w2⟩ := anew_whole (s := s) (f := L.f) (N := (L.top + 1) * 4294967296) h.ok (by omega) (by omega) (by omega) hfit.2 h0
  unfold LG.start
  rw [if_neg (by rw [hd]; decide), if_neg (by rw [hb]; decide), eN, if_neg (by omega)]
  refine ⟨w1, fun j hj => ?_⟩
  show (pcOf ((anew S s L.f (((L.top + 1) * 4294967296 : Nat) : Int)).2.now (L.f + 2 + j))).e ≤ _
  rw [w2 (L.f + 2 + j) (by omega) (by omega) (by omega)]
  exact hr j hj
end
end Go.Proofs.Ythdgndbmecnimaa
end
