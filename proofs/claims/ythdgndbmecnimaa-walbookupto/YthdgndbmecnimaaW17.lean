import Derived.Test.YthdgndbmecnimaaW16
section
namespace Go.Proofs.Ythdgndbmecnimaa
open Go.RowKit

/-- The pieces of a record that lies at P. -/
def recPcs (E P : Nat) (d : List Int) : List PC := (List.range (cntOf d.length)).map (fun i => ⟨E, P + i, i, cntOf d.length, partOf d i⟩)
/-- The pieces of records, one behind the other from P on. -/
def pcsOf (E : Nat) : Nat → List (List Int) → List PC
  | _, [] => []
  | P, d :: r => recPcs E P d ++ pcsOf E (P + cntOf d.length) r
/-- How many sectors records take. -/
def lenOf : List (List Int) → Nat
  | [] => 0
  | d :: r => cntOf d.length + lenOf r

theorem recPcs_len (E P : Nat) (d : List Int) : (recPcs E P d).length = cntOf d.length := by simp [recPcs]
theorem recPcs_at {E P i : Nat} {d : List Int} (hi : i < cntOf d.length) : (recPcs E P d)[i]? = some ⟨E, P + i, i, cntOf d.length, partOf d i⟩ := by
  unfold recPcs
  rw [List.getElem?_map, List.getElem?_range hi]
  rfl
theorem pcsOf_len (E : Nat) : ∀ (P : Nat) (ds : List (List Int)), (pcsOf E P ds).length = lenOf ds
  | _, [] => rfl
  | P, d :: r => by
    show (recPcs E P d ++ pcsOf E (P + cntOf d.length) r).length = cntOf d.length + lenOf r
    rw [List.length_append, recPcs_len, pcsOf_len E _ r]
theorem pcsOf_at (E : Nat) : ∀ (ds : List (List Int)) (P m : Nat) (X : PC), (pcsOf E P ds)[m]? = some X → X.e = E ∧ X.p = P + m
  | [], _, _, _, h => by cases h
  | d :: r, P, m, X, h => by
    have h' : (recPcs E P d ++ pcsOf E (P + cntOf d.length) r)[m]? = some X := h
    by_cases hm : m < cntOf d.length
    · rw [List.getElem?_append_left (by rw [recPcs_len]; exact hm), recPcs_at hm] at h'
      cases h'
      exact ⟨rfl, rfl⟩
    · rw [List.getElem?_append_right (by rw [recPcs_len]; omega), recPcs_len] at h'
      have := pcsOf_at E r _ _ _ h'
      exact ⟨this.1, by rw [this.2]; omega⟩
theorem lenOf_append : ∀ (a b : List (List Int)), lenOf (a ++ b) = lenOf a + lenOf b
  | [], b => by simp [lenOf]
  | d :: r, b => by
    show cntOf d.length + lenOf (r ++ b) = cntOf d.length + lenOf r + lenOf b
    rw [lenOf_append r b]
    omega
theorem pcsOf_append (E : Nat) : ∀ (a b : List (List Int)) (P : Nat), pcsOf E P (a ++ b) = pcsOf E P a ++ pcsOf E (P + lenOf a) b
  | [], b, P => by simp [pcsOf, lenOf]
  | d :: r, b, P => by
    show recPcs E P d ++ pcsOf E (P + cntOf d.length) (r ++ b) = (recPcs E P d ++ pcsOf E (P + cntOf d.length) r) ++ pcsOf E (P + (cntOf d.length + lenOf r)) b
    rw [pcsOf_append E r b, List.append_assoc, Nat.add_assoc]
theorem pcsOf_snoc (E P : Nat) (a : List (List Int)) (d : List Int) : pcsOf E P (a ++ [d]) = pcsOf E P a ++ recPcs E (P + lenOf a) d := by
  rw [pcsOf_append]
  show pcsOf E P a ++ (recPcs E (P + lenOf a) d ++ []) = _
  rw [List.append_nil]
theorem parts_join (d : List Int) : ∀ k, ((List.range k).flatMap (partOf d)) = d.take (492 * k)
  | 0 => by simp
  | k + 1 => by
    rw [List.range_succ, List.flatMap_append, parts_join d k]
    simp only [List.flatMap_cons, List.flatMap_nil, List.append_nil]
    unfold partOf
    rw [show 492 * (k + 1) = 492 * k + 492 by omega, List.take_add]
theorem cnt_bounds {d : List Int} (h1 : 1 ≤ d.length) (h2 : d.length ≤ 8364) : 1 ≤ cntOf d.length ∧ cntOf d.length ≤ 17 ∧ d.length ≤ 492 * cntOf d.length ∧ 492 * cntOf d.length < d.length + 492 := by
  unfold cntOf
  omega
theorem rec_of {R : Nat → PC} {E T : Nat} {d : List Int} (h1 : 1 ≤ d.length) (h2 : d.length ≤ 8364) (hall : ∀ i, i < cntOf d.length → R (T + i) = ⟨E, T + i, i, cntOf d.length, partOf d i⟩) : Rec R E T (cntOf d.length) d := by
  obtain ⟨c1, c2, c3, c4⟩ := cnt_bounds h1 h2
  refine ⟨c1, c2, fun i hi => ?_, ?_⟩
  · rw [hall i hi]
    refine ⟨rfl, rfl, rfl, rfl, ?_, fun hne => ?_⟩
    · show 0 < (partOf d i).length
      rw [partOf_len]; unfold chLen; omega
    · show (partOf d i).length = 492
      rw [partOf_len]; unfold chLen; omega
  · unfold dataTo
    have e : (List.range (cntOf d.length)).flatMap (fun i => (R (T + i)).d) = (List.range (cntOf d.length)).flatMap (partOf d) := by
      rw [List.flatMap_def, List.flatMap_def]
      congr 1
      refine List.map_congr_left fun i hi => ?_
      rw [hall i (List.mem_range.1 hi)]
    rw [e, parts_join, List.take_of_length_le c3]

/-- What a ring tells, of which only the pieces of these records are of the epoch: the first so many of them, and all that lie there whole. -/
theorem tells_prefix {R : Nat → PC} {E : Nat} : ∀ (ds : List (List Int)) (T : Nat), (∀ d ∈ ds, 1 ≤ d.length ∧ d.length ≤ 8364) → (∀ P, T ≤ P → (R P).e = E → (R P).p = P → ∃ m : Nat, (pcsOf E T ds)[m]? = some (R P)) →
    ∃ k hd, k ≤ ds.length ∧ Tells R E T (ds.take k) hd ∧ (∀ c d, ¬ Rec R E hd c d) ∧ ∀ low, low ≤ ds.length → (∀ (m : Nat) (X : PC), m < lenOf (ds.take low) → (pcsOf E T ds)[m]? = some X → R (T + m) = X) → low ≤ k
  | [], T, _, only => by
    refine ⟨0, T, Nat.le_refl _, rfl, fun c d hr => ?_, fun low hl _ => hl⟩
    have h0 := hr.2.2.1 0 hr.1
    obtain ⟨m, hm⟩ := only T (Nat.le_refl _) (by simpa using h0.1) (by simpa using h0.2.1)
    cases hm
  | d :: r, T, hsz, only => by
    obtain ⟨s1, s2⟩ := hsz d (List.mem_cons_self ..)
    obtain ⟨c1, c2, c3, c4⟩ := cnt_bounds s1 s2
    have hpc : pcsOf E T (d :: r) = recPcs E T d ++ pcsOf E (T + cntOf d.length) r := rfl
    -- what is of the epoch is the piece of its place
    have is : ∀ i, i < cntOf d.length → (R (T + i)).e = E → (R (T + i)).p = T + i → R (T + i) = ⟨E, T + i, i, cntOf d.length, partOf d i⟩ := fun i hi h1 h2 => by
      obtain ⟨m, hm⟩ := only (T + i) (by omega) h1 h2
      have hp := (pcsOf_at E _ _ _ _ hm).2
      have em : m = i := by omega
      subst em
      rw [hpc, List.getElem?_append_left (by rw [recPcs_len]; exact hi), recPcs_at hi] at hm
      exact (Option.some.inj hm).symm
    by_cases hall : ∀ i, i < cntOf d.length → R (T + i) = ⟨E, T + i, i, cntOf d.length, partOf d i⟩
    · have hrec := rec_of s1 s2 hall
      obtain ⟨k, hd, k1, k2, k3, k4⟩ := tells_prefix r (T + cntOf d.length) (fun x hx => hsz x (List.mem_cons_of_mem _ hx)) (fun P hP h1 h2 => by
        obtain ⟨m, hm⟩ := only P (by omega) h1 h2
        have hp := (pcsOf_at E _ _ _ _ hm).2
        rw [hpc, List.getElem?_append_right (by rw [recPcs_len]; omega), recPcs_len] at hm
        exact ⟨_, hm⟩)
      refine ⟨k + 1, hd, by simp only [List.length_cons]; omega, ⟨_, hrec, k2⟩, k3, fun low hl hlow => ?_⟩
      cases low with
      | zero => exact Nat.zero_le _
      | succ low =>
        have := k4 low (by simp only [List.length_cons] at hl; omega) (fun m X hm hX => by
          have := hlow (cntOf d.length + m) X (by
            show cntOf d.length + m < cntOf d.length + lenOf (r.take low)
            omega) (by rw [hpc, List.getElem?_append_right (by rw [recPcs_len]; omega), recPcs_len, Nat.add_sub_cancel_left]; exact hX)
          rw [← this, Nat.add_assoc])
        omega
    · refine ⟨0, T, Nat.zero_le _, rfl, fun c x hr => hall (fun i hi => ?_), fun low hl hlow => ?_⟩
      · have h0 := hr.2.2.1 0 hr.1
        have hT := is 0 (by omega) (by simpa using h0.1) (by simpa using h0.2.1)
        have hc : c = cntOf d.length := by
          have := hr.count
          rw [show T = T + 0 by omega, hT] at this
          exact this.symm
        have hi' := hr.2.2.1 i (by omega)
        exact is i hi hi'.1 hi'.2.1
      · cases low with
        | zero => exact Nat.le_refl _
        | succ low =>
          exfalso
          refine hall (fun i hi => ?_)
          exact hlow i _ (by show i < cntOf d.length + lenOf (r.take low); omega) (by rw [hpc, List.getElem?_append_left (by rw [recPcs_len]; exact hi), recPcs_at hi])

section
variable {S S' : DS} {n N E T Em low : Nat} {ds : List (List Int)} {L : LG}

/-- A sector's content, as far as it is of the epoch and not from before T, is one of these pieces. -/
def Cl (E T : Nat) (Xs : List PC) (Y : List Int) : Prop := (pcOf Y).e = E → T ≤ (pcOf Y).p → ∃ m : Nat, Xs[m]? = some (pcOf Y)
theorem Cl.more {Xs Ys : List PC} {Y : List Int} (h : Cl E T Xs Y) : Cl E T (Xs ++ Ys) Y := fun h1 h2 => by
  obtain ⟨m, hm⟩ := h h1 h2
  refine ⟨m, ?_⟩
  rw [List.getElem?_append_left (List.getElem?_eq_some_iff.1 hm).1]
  exact hm

/-- The ring of a log at sector 0: which records lie in it, how many of them last. -/
structure Laid (S : DS) (n E T : Nat) (ds : List (List Int)) (low : Nat) : Prop where
  sz : ∀ d ∈ ds, 1 ≤ d.length ∧ d.length ≤ 8364
  fit : lenOf ds ≤ n
  lo : low ≤ ds.length
  oi : ∀ i, i < n → Cl E T (pcsOf E T ds) (dsec S.im (2 + i))
  op : ∀ q ∈ S.puts, 2 ≤ q.1 → Cl E T (pcsOf E T ds) q.2
  du : ∀ (m : Nat) (X : PC), m < lenOf (ds.take low) → (pcsOf E T ds)[m]? = some X → pcOf (dsec S.im (2 + (T + m) % n)) = X ∧ pendOf S.puts (2 + (T + m) % n) = []

/-- What may be told behind any cut. -/
def Fut (S : DS) (n : Nat) (ds : List (List Int)) (low : Nat) (none : Bool) : Prop :=
  ∀ pl rs hd, Tells (Rp (oRing (S.crash (n + 2) pl) 0) n) (oNew (S.crash (n + 2) pl) 0).1 (oNew (S.crash (n + 2) pl) 0).2.1 rs hd → (∀ c d, ¬ Rec (Rp (oRing (S.crash (n + 2) pl) 0) n) (oNew (S.crash (n + 2) pl) 0).1 hd c d) →
    (none = true ∧ rs = []) ∨ (low ≤ rs.length ∧ rs.length ≤ ds.length ∧ rs = ds.take rs.length)

theorem Laid.cut (h : Laid S n E T ds low) (ho : Once S) (hok : S.Ok (n + 2)) (hn : 1 ≤ n) (hE : 1 ≤ E) (pl : List P3) {rs : List (List Int)} {hd : Nat} (ht : Tells (Rp (oRing (S.crash (n + 2) pl) 0) n) E T rs hd) (hx : ∀ c d, ¬ Rec (Rp (oRing (S.crash (n + 2) pl) 0) n) E hd c d) :
    low ≤ rs.length ∧ rs.length ≤ ds.length ∧ rs = ds.take rs.length := by
  have hR : ∀ P, Rp (oRing (S.crash (n + 2) pl) 0) n P = pcOf ((S.crash (n + 2) pl).now (2 + P % n)) := fun P => by
    show pcOf ((S.crash (n + 2) pl).now (0 + 2 + P % n)) = _
    rw [Nat.zero_add]
  have hlt : ∀ P, 2 + P % n < n + 2 := fun P => by have := Nat.mod_lt P hn; omega
  have only : ∀ P, T ≤ P → (Rp (oRing (S.crash (n + 2) pl) 0) n P).e = E → (Rp (oRing (S.crash (n + 2) pl) 0) n P).p = P → ∃ m : Nat, (pcsOf E T ds)[m]? = some (Rp (oRing (S.crash (n + 2) pl) 0) n P) := fun P hP h1 h2 => by
    rw [hR] at h1 h2 ⊢
    have hmod := Nat.mod_lt P hn
    rcases ho.crash hok (hlt P) pl with e | e | e
    · rw [e] at h1 h2 ⊢
      exact h.oi (P % n) hmod h1 (by omega)
    · rw [e] at h1 h2 ⊢
      by_cases hp : pendOf S.puts (2 + P % n) = []
      · rw [now_none _ _ hp] at h1 h2 ⊢
        exact h.oi (P % n) hmod h1 (by omega)
      · obtain ⟨l, body, e1, _, _, e4⟩ := ho.pend hp
        rw [e4] at h1 h2 ⊢
        exact h.op _ (pend_in (by rw [e1]; exact List.mem_singleton.2 rfl)) (by show 2 ≤ 2 + P % n; omega) h1 (by rw [h2]; exact hP)
    · have hlen : ((S.crash (n + 2) pl).now (2 + P % n)).length = 512 := by
        rw [now_none _ _ rfl]
        show (dsec (imOf (n + 2) (cutOf S pl)) (2 + P % n)).length = 512
        rw [sec_imOf (n + 2) (cutOf S pl) (fun j hj => cut_len hok pl j hj) _ (hlt P)]
        exact cut_len hok pl _ (hlt P)
      rw [pc_none hlen e] at h1
      omega
  obtain ⟨k, hd', k1, k2, k3, k4⟩ := tells_prefix ds T h.sz only
  obtain ⟨rfl, rfl⟩ := Tells.unique ht hx k2 k3
  have hlk := k4 low h.lo (fun m X hm hX => by
    obtain ⟨d1, d2⟩ := h.du m X hm hX
    rw [hR, cut_same hok (hlt _) d2]
    exact d1)
  have el : (ds.take k).length = k := by rw [List.length_take]; omega
  rw [el]
  exact ⟨hlk, k1, rfl⟩
end
end Go.Proofs.Ythdgndbmecnimaa
end

section
namespace Go.Proofs.Ythdgndbmecnimaa
open Go.RowKit

/-- What a sealed piece reads as. -/
theorem pc_full {old : List Int} (ho : old.length = 512) {E P i c : Nat} {l : List Int} (hl : l.length ≤ 492) (hE : E < 4294967296) (hP : P < 4294967296) (hi : i < 65536) (hc : c < 65536) : pcOf (sseal old (pbody E P i c l)).1 = ⟨E, P, i, c, l⟩ := by
  have hlen : (pbody E P i c l).length = 12 + l.length := by unfold pbody; simp [leb_len]; omega
  rw [sseal_ok ho (by omega)]
  have h1 := sopen_form (turnOf (old.getD 0 0) (old.getD 511 0)) (pbody E P i c l) (by omega) (by have := turnOf_le (old.getD 0 0) (old.getD 511 0); omega)
  have h2 := sopens_some (by have := (sseal_full (body := pbody E P i c l) ho (by omega)).2; rw [sseal_ok ho (by omega)] at this; exact this) h1
  unfold pcOf
  rw [if_neg (by rw [h2]; show ¬ ((0 : Nat) ≠ 0 ∨ (pbody E P i c l).length < 12); omega), h2]
  show pcBody (pbody E P i c l) = _
  have e4 : (leb 4 E).length = 4 := leb_len 4 E
  have p4 : (leb 4 P).length = 4 := leb_len 4 P
  have i2 : (leb 2 i).length = 2 := leb_len 2 i
  have c2 : (leb 2 c).length = 2 := leb_len 2 c
  have d4 : (pbody E P i c l).drop 4 = leb 4 P ++ (leb 2 i ++ (leb 2 c ++ l)) := by unfold pbody; rw [List.drop_left' e4]
  have d8 : (pbody E P i c l).drop 8 = leb 2 i ++ (leb 2 c ++ l) := by rw [show 8 = 4 + 4 by omega, ← List.drop_drop, d4, List.drop_left' p4]
  have d10 : (pbody E P i c l).drop 10 = leb 2 c ++ l := by rw [show 10 = 8 + 2 by omega, ← List.drop_drop, d8, List.drop_left' i2]
  have d12 : (pbody E P i c l).drop 12 = l := by rw [show 12 = 10 + 2 by omega, ← List.drop_drop, d10, List.drop_left' c2]
  have t0 : (pbody E P i c l).take 4 = leb 4 E := by unfold pbody; rw [List.take_left' e4]
  unfold pcBody
  rw [t0, d4, d8, d10, d12, List.take_left' p4, List.take_left' i2, List.take_left' c2, leb_le 4 E hE, leb_le 4 P hP, leb_le 2 i hi, leb_le 2 c hc]

section
variable {S S' : DS} {n N E T Em low j : Nat} {ds : List (List Int)} {L : LG} {none : Bool}

theorem crash_same (hi : S'.im = S.im) (hp : S'.puts = S.puts) (pl : List P3) : (S'.crash (n + 2) pl).im = (S.crash (n + 2) pl).im := by
  have hc : ∀ k j, S'.cand k j = S.cand k j := fun k j => by unfold DS.cand; rw [hi, hp]
  have hk : ∀ k, keysOf S' k = keysOf S k := fun k => by unfold keysOf; rw [hp]
  have hcut : cutOf S' pl = cutOf S pl := by
    funext k
    unfold cutOf tornBy tornOf
    rw [hp, hi, hk]
    simp only [hc]
  show imOf (n + 2) (cutOf S' pl) = imOf (n + 2) (cutOf S pl)
  rw [hcut]
theorem now_of' (hi : S'.im = S.im) (hp : S'.puts = S.puts) (k : Nat) : S'.now k = S.now k := by unfold DS.now DS.cand; rw [hi, hp]
theorem now_flat (hp : S.puts = []) (k : Nat) : S.now k = dsec S.im k := now_none _ _ (by rw [hp]; rfl)
theorem ring_same (h : ∀ k, S'.now k = S.now k) : oRing S' 0 = oRing S 0 ∧ oNew S' 0 = oNew S 0 := by
  refine ⟨?_, ?_⟩
  · funext i
    show pcOf (S'.now _) = pcOf (S.now _)
    rw [h]
  · unfold oNew
    rw [h, h]
theorem Fut.same (h : Fut S n ds low none) (hi : S'.im = S.im) (hp : S'.puts = S.puts) : Fut S' n ds low none := fun pl rs hd ht hx => by
  have hn : ∀ k, (S'.crash (n + 2) pl).now k = (S.crash (n + 2) pl).now k := fun k => by rw [now_flat rfl, now_flat rfl, crash_same hi hp]
  obtain ⟨e1, e2⟩ := ring_same hn
  rw [e1, e2] at ht hx
  exact h pl rs hd ht hx
/-- Where nothing pends nothing is cut. -/
theorem crash_flat (hok : S.Ok (n + 2)) (hp : S.puts = []) (pl : List P3) {k : Nat} (hk : k < n + 2) : (S.crash (n + 2) pl).now k = S.now k := by
  rw [cut_same hok hk (by rw [hp]; rfl), now_flat hp]
theorem told_flat (hok : S.Ok (n + 2)) (hn : 1 ≤ n) (hp : S.puts = []) (pl : List P3) : Rp (oRing (S.crash (n + 2) pl) 0) n = Rp (oRing S 0) n ∧ oNew (S.crash (n + 2) pl) 0 = oNew S 0 := by
  refine ⟨?_, ?_⟩
  · funext P
    have := Nat.mod_lt P hn
    show pcOf ((S.crash (n + 2) pl).now (0 + 2 + P % n)) = pcOf (S.now (0 + 2 + P % n))
    rw [crash_flat hok hp pl (by omega)]
  · unfold oNew
    rw [crash_flat hok hp pl (by omega), crash_flat hok hp pl (by omega)]
/-- What is told where nothing pends is told again. -/
theorem Fut.flat (hok : S.Ok (n + 2)) (hn : 1 ≤ n) (hp : S.puts = []) {rs : List (List Int)} {hd : Nat} (ht : Tells (Rp (oRing S 0) n) (oNew S 0).1 (oNew S 0).2.1 rs hd) (hx : ∀ c d, ¬ Rec (Rp (oRing S 0) n) (oNew S 0).1 hd c d) (none : Bool) : Fut S n rs rs.length none := fun pl rs' hd' ht' hx' => by
  obtain ⟨e1, e2⟩ := told_flat hok hn hp pl
  rw [e1, e2] at ht' hx'
  obtain ⟨rfl, _⟩ := Tells.unique ht hx ht' hx'
  exact .inr ⟨Nat.le_refl _, Nat.le_refl _, (List.take_length).symm⟩
/-- A cut behind a cut. -/
theorem Fut.crash (h : Fut S n ds low none) (hn : 1 ≤ n) (pl : List P3) (hok2 : (S.crash (n + 2) pl).Ok (n + 2)) : Fut (S.crash (n + 2) pl) n ds low none := fun pl2 rs hd ht hx => by
  obtain ⟨e1, e2⟩ := told_flat hok2 hn rfl pl2
  rw [e1, e2] at ht hx
  exact h pl rs hd ht hx
theorem Fut.loose (h : Fut S n ds low none) : Fut S n ds low true := fun pl rs hd ht hx => by
  rcases h pl rs hd ht hx with h | h
  · exact .inl ⟨rfl, h.2⟩
  · exact .inr h

/-- A log that was started on this very disk, and what lies in it. -/
structure Alive (S : DS) (L : LG) (n j : Nat) (ds : List (List Int)) (low : Nat) : Prop where
  i : Inv S (n + 2) [L] (3 + 2 * j)
  f0 : L.f = 0
  n' : L.n = n
  g : L.begun = true
  life : L.life = S.life
  e1 : 1 ≤ L.ep
  e2 : L.ep ≤ j + 2
  ho : Hold S 0 n (L.ep * 4294967296 + L.tail) (j + 2)
  sl : Slots S L L.tail L.head
  la : Laid S n L.ep L.tail ds low
  hd : L.head = L.tail + lenOf ds
  nw : ∀ (m : Nat) (X : PC), m < lenOf ds → (pcsOf L.ep L.tail ds)[m]? = some X → pcOf (S.now (2 + (L.tail + m) % n)) = X

theorem Alive.nb (h : Alive S L n j ds low) : 18 ≤ n ∧ n ≤ 256 := by
  have hL := (h.i.at (i := 0) rfl).1
  have h1 := hL.n1
  have h2 := hL.n2
  rw [h.n'] at h1 h2
  exact ⟨h1, h2⟩
theorem slots_ring (h : Slots S L L.tail L.head) (hf : L.f = 0) : ∀ q ∈ S.puts, 2 ≤ q.1 := fun q hq => by
  obtain ⟨P, _, _, e⟩ := h q hq
  rw [hf] at e
  omega
/-- Behind any cut the pair is what it was, where no anchor pends. -/
theorem cut_pair (hok : S.Ok (n + 2)) (hq : ∀ q ∈ S.puts, 2 ≤ q.1) (pl : List P3) : (S.crash (n + 2) pl).now 0 = dsec S.im 0 ∧ (S.crash (n + 2) pl).now 1 = dsec S.im 1 :=
  ⟨cut_same hok (by omega) (pend_none_in (fun q hm e => by have := hq q hm; omega)), cut_same hok (by omega) (pend_none_in (fun q hm e => by have := hq q hm; omega))⟩
theorem new_of {l r : List Int} (h : (snewest l r).2 = (N, [], 0)) (hg : Good Em N) (hE : Em < 1073741824) : lnewest l r = (N / 4294967296, N % 4294967296, 0) := by
  obtain ⟨g1, g2, g3⟩ := hg
  unfold lnewest
  generalize snewest l r = X at *
  rw [h]
  simp only [List.length_nil]
  rw [if_neg (by omega)]
theorem parts_of (E T : Nat) (hT : T < 4294967296) : (E * 4294967296 + T) / 4294967296 = E ∧ (E * 4294967296 + T) % 4294967296 = T := by omega

theorem laid_fut (la : Laid S n E T ds low) (ho : Hold S 0 n (E * 4294967296 + T) Em) (hEm : Em < 1073741824) (hok : S.Ok (n + 2)) (hn : 1 ≤ n) (hE : 1 ≤ E) (hT : T < 4294967296) (hq : ∀ q ∈ S.puts, 2 ≤ q.1) (none : Bool) : Fut S n ds low none := fun pl rs hd ht hx => by
  obtain ⟨p0, p1⟩ := cut_pair hok hq pl
  have hnew : oNew (S.crash (n + 2) pl) 0 = (E, T, 0) := by
    have hold := ho.old
    have e := new_of (l := dsec S.im 0) (r := dsec S.im (0 + 1)) hold ho.gd hEm
    obtain ⟨a, b⟩ := parts_of E T hT
    unfold oNew
    rw [p0, show 0 + 1 = 1 from rfl, p1]
    rw [a, b] at e
    exact e
  rw [hnew] at ht hx
  exact .inr (la.cut ho.once hok hn hE pl ht hx)
theorem Alive.fut (h : Alive S L n j ds low) (hj : j ≤ 100000) (none : Bool) : Fut S n ds low none := by
  obtain ⟨n1, n2⟩ := h.nb
  have hL := (h.i.at (i := 0) rfl).1
  have hb := hL.hb h.g
  have hth := hL.th
  exact laid_fut h.la h.ho (by omega) h.i.ok (by omega) h.e1 (by omega) (slots_ring h.sl h.f0) none

theorem Alive.ready (h : Alive S L n j ds low) (hf : S.fuse ≠ 0) : L.unready S = 0 := by
  have hd : L.dead S = false := by
    unfold LG.dead
    rw [Bool.or_eq_false_iff]
    exact ⟨by rw [beq_eq_false_iff_ne]; exact hf, by rw [h.life]; simp⟩
  unfold LG.unready
  rw [if_neg (by rw [hd]; decide), if_pos h.g]
theorem Alive.up (h : Alive S L n j ds low) : Alive S L n (j + 1) ds low :=
  ⟨h.i.upTo (by omega), h.f0, h.n', h.g, h.life, h.e1, by have := h.e2; omega, h.ho.up (by omega), h.sl, h.la, h.hd, h.nw⟩
theorem Alive.lay (h : Alive S L n j ds low) (x : Int) (ok : (S.lay x).Ok (n + 2)) : Alive (S.lay x) L n j ds low := by
  obtain ⟨l1, l2, l3, l4⟩ := lay_same S x
  have hn := now_of' l3 l1
  refine ⟨h.i.lay x ok, h.f0, h.n', h.g, h.life.trans l2.symm, h.e1, h.e2, h.ho.same l3 l1, ?_, ?_, h.hd, ?_⟩
  · have := h.sl
    unfold Slots at this ⊢
    rw [l1]
    exact this
  · exact ⟨h.la.sz, h.la.fit, h.la.lo, by rw [l3]; exact h.la.oi, by rw [l1]; exact h.la.op, by rw [l3, l1]; exact h.la.du⟩
  · intro m X hm hX
    rw [hn]
    exact h.nw m X hm hX
end
end Go.Proofs.Ythdgndbmecnimaa
end

section
namespace Go.Proofs.Ythdgndbmecnimaa
open Go.RowKit

section
variable {S S' : DS} {n N E T Em low j s : Nat} {ds : List (List Int)} {L : LG} {d : List Int}

theorem mod_ne {a b : Nat} (_hn : 1 ≤ n) (h1 : a < b) (h2 : b < a + n) : a % n ≠ b % n := fun e => by
  have d1 := Nat.div_add_mod a n
  have d2 := Nat.div_add_mod b n
  rw [e] at d1
  have hq1 : n * (a / n) < n * (b / n) := by omega
  have hq2 : a / n < b / n := Nat.lt_of_mul_lt_mul_left hq1
  have hq3 : n * (a / n + 1) ≤ n * (b / n) := Nat.mul_le_mul_left _ hq2
  rw [Nat.mul_add, Nat.mul_one] at hq3
  omega
theorem appTo_life : ∀ k, (appTo L S s d k).2.life = S.life
  | 0 => rfl
  | k + 1 => by
    have ih := appTo_life k
    by_cases e : (appTo L S s d k).1 = 0
    · have e2 : appTo L S s d (k + 1) = aput (appTo L S s d k).2 s L.f L.n L.ep (L.head + k) k (cntOf d.length) (partOf d k) := by
        show (if (appTo L S s d k).1 ≠ 0 then appTo L S s d k else _) = _
        rw [if_neg (fun h => h e)]
        rfl
      rw [e2, aput_life]
      exact ih
    · have e2 : appTo L S s d (k + 1) = appTo L S s d k := stepsTo_err e (k + 1) (by omega)
      rw [e2]
      exact ih
theorem appTo_code (hn : 1 ≤ L.n) (hs : L.f + 2 + L.n ≤ s) (k : Nat) : (appTo L S s d k).1 = 0 ∨ (appTo L S s d k).1 = 3 := by
  refine stepsTo_code k (fun i T _ => ?_)
  show (aput T s L.f L.n L.ep (L.head + i) i (cntOf d.length) (partOf d i)).1 = 0 ∨ _
  unfold aput
  split
  · exact .inr rfl
  · exact wr_code (by have := Nat.mod_lt (L.head + i) hn; omega) _
/-- The piece of a record that is due. -/
def pieceOf (E P : Nat) (d : List Int) (i : Nat) : PC := ⟨E, P + i, i, cntOf d.length, partOf d i⟩
/-- What the laying of the first k pieces makes of a disk. -/
theorem appTo_pieces (ho : Once S) (hok : S.Ok (n + 2)) (hsl : Slots S L L.tail L.head) (hf0 : L.f = 0) (hLn : L.n = n) (hn : 1 ≤ n) (hth : L.tail ≤ L.head) (hE : L.ep < 4294967296) (hc : cntOf d.length ≤ 17) (hhi : L.head + 17 < 4294967296) : ∀ k, k ≤ cntOf d.length → L.head + k ≤ L.tail + n →
    (appTo L S (n + 2) d k).2.im = S.im ∧ (∀ q ∈ (appTo L S (n + 2) d k).2.puts, q ∈ S.puts ∨ ∃ i, i < k ∧ q.1 = 2 + (L.head + i) % n ∧ pcOf q.2 = pieceOf L.ep L.head d i) ∧
    ((appTo L S (n + 2) d k).1 = 0 → (∀ i, i < k → pcOf ((appTo L S (n + 2) d k).2.now (2 + (L.head + i) % n)) = pieceOf L.ep L.head d i) ∧ ∀ b, (∀ i, i < k → b ≠ 2 + (L.head + i) % n) → (appTo L S (n + 2) d k).2.now b = S.now b)
  | 0, _, _ => ⟨rfl, fun q hq => .inl hq, fun _ => ⟨fun i hi => by omega, fun b _ => rfl⟩⟩
  | k + 1, hk, hr => by
    obtain ⟨a1, a2, a3⟩ := appTo_pieces ho hok hsl hf0 hLn hn hth hE hc hhi k (by omega) (by omega)
    obtain ⟨_, p2, _⟩ := appTo_once ho hok hsl (by rw [hLn]; exact hn) (by rw [hf0, hLn]; omega) hth (d := d) k (by rw [hLn]; omega)
    by_cases e : (appTo L S (n + 2) d k).1 = 0
    · obtain ⟨b1, b2⟩ := a3 e
      have e2 : appTo L S (n + 2) d (k + 1) = aput (appTo L S (n + 2) d k).2 (n + 2) L.f L.n L.ep (L.head + k) k (cntOf d.length) (partOf d k) := by
        show (if (appTo L S (n + 2) d k).1 ≠ 0 then appTo L S (n + 2) d k else _) = _
        rw [if_neg (fun h => h e)]
        rfl
      rw [e2, hf0, hLn]
      generalize (appTo L S (n + 2) d k).2 = T at *
      have hl : (partOf d k).length ≤ 492 := by unfold partOf; rw [List.length_take]; omega
      have hm : (L.head + k) % n < n := Nat.mod_lt _ hn
      have hpos : 0 + 2 + (L.head + k) % n = 2 + (L.head + k) % n := by omega
      unfold aput
      rw [hpos]
      have hold := now_len p2 (2 + (L.head + k) % n) (by omega)
      have hpc := pc_full hold (E := L.ep) (P := L.head + k) (i := k) (c := cntOf d.length) hl hE (by omega) (by omega) (by omega)
      split
      · exact ⟨a1, fun q hq => (a2 q hq).imp id (fun ⟨i, h1, h2⟩ => ⟨i, by omega, h2⟩), fun h => by cases h⟩
      · rename_i hf
        obtain ⟨w1, w2⟩ := wr_puts_eq (S := T) (s := n + 2) (k := 2 + (L.head + k) % n) hf (by omega) (sseal (T.now (2 + (L.head + k) % n)) (pbody L.ep (L.head + k) k (cntOf d.length) (partOf d k))).1
        have w3 := wr_now (S := T) (s := n + 2) (k := 2 + (L.head + k) % n) hf (by omega) (sseal (T.now (2 + (L.head + k) % n)) (pbody L.ep (L.head + k) k (cntOf d.length) (partOf d k))).1
        refine ⟨w2.trans a1, fun q hq => ?_, fun _ => ⟨fun i hi => ?_, fun b hb => ?_⟩⟩
        · rw [w1] at hq
          rcases List.mem_append.1 hq with h5 | h5
          · exact (a2 q h5).imp id (fun ⟨i, h1, h2⟩ => ⟨i, by omega, h2⟩)
          · obtain rfl := List.mem_singleton.1 h5
            exact .inr ⟨k, by omega, rfl, hpc⟩
        · rw [w3]
          by_cases ei : i = k
          · subst ei
            rw [if_pos rfl]
            exact hpc
          · have := mod_ne (n := n) hn (show L.head + i < L.head + k by omega) (by omega)
            rw [if_neg (by omega)]
            exact b1 i (by omega)
        · rw [w3, if_neg (hb k (by omega))]
          exact b2 b (fun i hi => hb i (by omega))
    · have e2 : appTo L S (n + 2) d (k + 1) = appTo L S (n + 2) d k := stepsTo_err e (k + 1) (by omega)
      rw [e2]
      exact ⟨a1, fun q hq => (a2 q hq).imp id (fun ⟨i, h1, h2⟩ => ⟨i, by omega, h2⟩), fun h => absurd h e⟩

theorem lenOf_take (low : Nat) : ∀ (ds : List (List Int)), lenOf (ds.take low) ≤ lenOf ds
  | [] => by rw [List.take_nil]; exact Nat.le_refl _
  | x :: r => by
    cases low with
    | zero => exact Nat.zero_le _
    | succ low =>
      show cntOf x.length + lenOf (r.take low) ≤ cntOf x.length + lenOf r
      have := lenOf_take low r
      omega
/-- The laying of a record, as far as it went. -/
theorem Alive.part (h : Alive S L n j ds low) (hj : j ≤ 100000) (h1 : 1 ≤ d.length) (h2 : d.length ≤ 8364) (hro : L.head + cntOf d.length ≤ L.tail + n) (hp : L.head + cntOf d.length ≤ 1073741824) :
    Laid (appTo L S (n + 2) d (cntOf d.length)).2 n L.ep L.tail (ds ++ [d]) low ∧
    ((appTo L S (n + 2) d (cntOf d.length)).1 = 0 → ∀ (m : Nat) (X : PC), m < lenOf (ds ++ [d]) → (pcsOf L.ep L.tail (ds ++ [d]))[m]? = some X → pcOf ((appTo L S (n + 2) d (cntOf d.length)).2.now (2 + (L.tail + m) % n)) = X) := by
  obtain ⟨n1, n2⟩ := h.nb
  obtain ⟨c1, c2, c3, c4⟩ := cnt_bounds h1 h2
  have hL := (h.i.at (i := 0) rfl).1
  have hth := hL.th
  have he := h.e2
  have hh := h.hd
  have hlt := lenOf_take low ds
  have hl1 : lenOf (ds ++ [d]) = lenOf ds + cntOf d.length := by rw [lenOf_append]; rfl
  have htk : (ds ++ [d]).take low = ds.take low := List.take_append_of_le_length h.la.lo
  have hpc := pcsOf_snoc L.ep L.tail ds d
  rw [← hh] at hpc
  have hlen := pcsOf_len L.ep L.tail ds
  obtain ⟨a1, a2, a3⟩ := appTo_pieces (d := d) h.ho.once h.i.ok h.sl h.f0 h.n' (by omega) hth (by omega) c2 (by omega) (cntOf d.length) (Nat.le_refl _) hro
  have apart : ∀ m i, m < lenOf ds → i < cntOf d.length → 2 + (L.tail + m) % n ≠ 2 + (L.head + i) % n := fun m i hm hi => by
    have := mod_ne (n := n) (by omega) (show L.tail + m < L.head + i by omega) (by omega)
    omega
  have hat : ∀ i, i < cntOf d.length → (recPcs L.ep L.head d)[i]? = some (pieceOf L.ep L.head d i) := fun i hi => recPcs_at hi
  refine ⟨⟨fun x hx => ?_, by rw [hl1]; omega, by rw [List.length_append]; have := h.la.lo; omega, fun i hi => ?_, fun q hq h2 => ?_, fun m X hm hX => ?_⟩, fun e m X hm hX => ?_⟩
  · rcases List.mem_append.1 hx with hx | hx
    · exact h.la.sz x hx
    · rw [List.mem_singleton.1 hx]; exact ⟨h1, h2⟩
  · rw [a1, hpc]; exact (h.la.oi i hi).more
  · rcases a2 q hq with hq | ⟨i, hi, _, e⟩
    · rw [hpc]; exact (h.la.op q hq h2).more
    · intro _ _
      refine ⟨lenOf ds + i, ?_⟩
      rw [hpc, List.getElem?_append_right (by rw [hlen]; omega), hlen, Nat.add_sub_cancel_left, e]
      exact hat i hi
  · rw [htk] at hm
    rw [hpc, List.getElem?_append_left (by rw [hlen]; omega)] at hX
    obtain ⟨d1, d2⟩ := h.la.du m X hm hX
    rw [a1]
    refine ⟨d1, pend_none_in (fun q hq eq => ?_)⟩
    rcases a2 q hq with hq | ⟨i, hi, e, _⟩
    · have := pend_of hq
      rw [eq, d2] at this
      cases this
    · exact apart m i (by omega) hi (eq.symm.trans e)
  · obtain ⟨b1, b2⟩ := a3 e
    rw [hpc] at hX
    rw [hl1] at hm
    by_cases hml : m < lenOf ds
    · rw [List.getElem?_append_left (by rw [hlen]; exact hml)] at hX
      rw [b2 _ (fun i hi => apart m i hml hi)]
      exact h.nw m X hml hX
    · rw [List.getElem?_append_right (by rw [hlen]; omega), hlen, hat _ (by omega)] at hX
      have := b1 (m - lenOf ds) (by omega)
      rw [show L.tail + m = L.head + (m - lenOf ds) by omega, this]
      exact Option.some.inj hX

/-- What Append leaves: the log as it was; the log with the record; or a dead one, whose record may be there. -/
theorem Alive.append (h : Alive S L n j ds low) (hj : j ≤ 100000) (hd : Bytes d) (ok : (L.append S (n + 2) d).2.1.Ok (n + 2)) :
    ((L.append S (n + 2) d).1 ≠ 0 ∧ ((L.append S (n + 2) d).1 = 3 → S.fuse = 0) ∧ (L.append S (n + 2) d).2 = (S, L)) ∨
    ((L.append S (n + 2) d).1 = 0 ∧ S.fuse ≠ 0 ∧ 1 ≤ d.length ∧ d.length ≤ 8364 ∧ Alive (L.append S (n + 2) d).2.1 (L.append S (n + 2) d).2.2 n j (ds ++ [d]) low) ∨
    ((L.append S (n + 2) d).1 = 3 ∧ S.fuse ≠ 0 ∧ (L.append S (n + 2) d).2.1.fuse = 0 ∧ (L.append S (n + 2) d).2.2 = L ∧ Inv (L.append S (n + 2) d).2.1 (n + 2) [L] (3 + 2 * j) ∧ (∃ N, Hold (L.append S (n + 2) d).2.1 0 n N (j + 2)) ∧ Fut (L.append S (n + 2) d).2.1 n (ds ++ [d]) low false) := by
  obtain ⟨n1, n2⟩ := h.nb
  have hL := (h.i.at (i := 0) rfl).1
  have e0 := h.f0
  have en := h.n'
  have hi := h.i.append (i := 0) rfl hd ok
  have ti : Tidy S L := ⟨h.ho.once, fun _ => h.sl⟩
  have ho' : Hold S L.f L.n (L.ep * 4294967296 + L.tail) (j + 2) := by rw [e0, en]; exact h.ho
  have hh := ho'.append (i := 0) ti h.i rfl h.e2 (by omega) d
  have ht := ti.append (i := 0) h.i rfl d
  rw [e0, en] at hh
  by_cases hr : L.refuses S d.length = 0
  · obtain ⟨hu, hx1, hx2, hhp, hro⟩ := refuses_no hr
    rw [en] at hro
    obtain ⟨la, nw⟩ := h.part (d := d) hj hx1 hx2 hro hhp
    have hfz := unready_fuse hu
    unfold LG.append at hi hh ht ⊢
    rw [if_neg (by omega)] at hi hh ht ⊢
    by_cases ha : (appTo L S (n + 2) d (cntOf d.length)).1 = 0
    · right; left
      rw [if_neg (by omega)] at hi hh ht ⊢
      refine ⟨rfl, hfz, hx1, hx2, ⟨hi, e0, en, h.g, ?_, h.e1, h.e2, hh, ht.2 rfl, la, ?_, nw ha⟩⟩
      · show L.life = (appTo L S (n + 2) d (cntOf d.length)).2.life
        rw [appTo_life]; exact h.life
      · show L.head + cntOf d.length = L.tail + lenOf (ds ++ [d])
        rw [lenOf_append, h.hd]
        show _ = L.tail + (lenOf ds + (cntOf d.length + 0))
        omega
    · right; right
      rw [if_pos ha] at hi hh ht ⊢
      have hfu := appTo_fuse (by omega) hL.s _ ha
      have hcode : (appTo L S (n + 2) d (cntOf d.length)).1 = 3 := by
        rcases appTo_code (L := L) (S := S) (s := n + 2) (d := d) (by omega) hL.s (cntOf d.length) with e | e
        · exact absurd e ha
        · exact e
      have hb := hL.hb h.g
      have hth := hL.th
      refine ⟨hcode, hfz, hfu, rfl, hi, ⟨_, hh⟩, laid_fut la hh (by omega) hi.ok (by omega) h.e1 (by omega) (fun q hq => ?_) false⟩
      obtain ⟨_, _, hsl⟩ := appTo_once (d := d) h.ho.once h.i.ok h.sl (by omega) hL.s hth (cntOf d.length) (by rw [en]; exact hro)
      obtain ⟨P, _, _, e⟩ := hsl q hq
      rw [e0] at e
      omega
  · left
    unfold LG.append
    rw [if_pos hr]
    refine ⟨hr, fun e3 => ?_, rfl⟩
    unfold LG.refuses at e3
    by_cases hu : L.unready S = 0
    · rw [if_neg (by omega)] at e3
      exfalso
      revert e3
      split
      · intro c; cases c
      · split
        · intro c; cases c
        · split
          · intro c; cases c
          · split
            · intro c; cases c
            · intro c; cases c
    · apply Decidable.byContradiction
      intro hf
      exact hu (h.ready hf)
end
end Go.Proofs.Ythdgndbmecnimaa
end

section
namespace Go.Proofs.Ythdgndbmecnimaa
open Go.RowKit

section
variable {S S' : DS} {n N E T Em low j s f : Nat} {ds : List (List Int)} {L : LG} {d : List Int} {none : Bool}

theorem lenOf_zero {ds : List (List Int)} (h : ∀ d ∈ ds, 1 ≤ d.length ∧ d.length ≤ 8364) (h0 : lenOf ds = 0) : ds = [] := by
  cases ds with
  | nil => rfl
  | cons d r =>
    obtain ⟨a, b⟩ := h d (List.mem_cons_self ..)
    have := (cnt_bounds a b).1
    have : cntOf d.length + lenOf r = 0 := h0
    omega
theorem Fut.lower (h : Fut S n ds low none) {low' : Nat} (hl : low' ≤ low) : Fut S n ds low' none := fun pl rs hd ht hx => (h pl rs hd ht hx).imp id (fun h => ⟨by omega, h.2⟩)
theorem Hold.flN (h : Hold S 0 n N E) (hok : S.Ok (n + 2)) (hn : 1 ≤ n) (hq : ∀ q ∈ S.puts, 2 ≤ q.1) (h0 : (S.fl (n + 2)).1 = 0) : Hold (S.fl (n + 2)).2 0 n N E := by
  have hnow : ∀ k, k < n + 2 → (S.fl (n + 2)).2.now k = S.now k := fun k hk => fl_now hok hk
  have hlen : ∀ k, k < n + 2 → ((S.fl (n + 2)).2.now k).length = 512 := fun k hk => by rw [hnow k hk]; exact now_len hok k hk
  have hp : ∀ k, k < 2 → pendOf S.puts k = [] := fun k hk => pend_none_in (fun q hm e => by have := hq q hm; omega)
  refine Hold.still (fl_zero h0) ?_ h.gd (h.ring (s := n + 2) (by omega) _ hlen (fun k hk => .inr (.inl (hnow k hk))))
  rw [hnow 0 (by omega), hnow (0 + 1) (by omega), now_none _ _ (hp 0 (by omega)), now_none _ _ (hp (0 + 1) (by omega))]
  exact h.old
theorem Laid.now (h : Laid S n E T ds low) (ho : Once S) {i : Nat} (hi : i < n) : Cl E T (pcsOf E T ds) (S.now (2 + i)) := by
  by_cases hp : pendOf S.puts (2 + i) = []
  · rw [now_none _ _ hp]; exact h.oi i hi
  · obtain ⟨l, body, e1, _, _, e4⟩ := ho.pend hp
    rw [e4]
    exact h.op _ (pend_in (by rw [e1]; exact List.mem_singleton.2 rfl)) (by show 2 ≤ 2 + i; omega)

/-- What Sync leaves. -/
theorem Alive.sync (h : Alive S L n j ds low) : (S.fuse = 0 ∧ L.sync S (n + 2) = (3, S)) ∨ (S.fuse ≠ 0 ∧ (L.sync S (n + 2)).1 = 0 ∧ Alive (L.sync S (n + 2)).2 L n j ds ds.length) := by
  obtain ⟨n1, n2⟩ := h.nb
  by_cases hf : S.fuse = 0
  · left
    refine ⟨hf, ?_⟩
    have hd : L.dead S = true := by unfold LG.dead; rw [hf]; rfl
    have hu : L.unready S = 3 := by unfold LG.unready; rw [if_pos hd]
    unfold LG.sync
    rw [hu, if_pos (by omega)]
  · right
    have hu := h.ready hf
    have e : L.sync S (n + 2) = S.fl (n + 2) := by unfold LG.sync; rw [if_neg (by omega)]
    have h0 : (S.fl (n + 2)).1 = 0 := Decidable.byContradiction (fun c => hf (fl_err c).2.1)
    have hi : Inv (L.sync S (n + 2)).2 (n + 2) [L] (3 + 2 * j) := h.i.sync (i := 0) rfl
    have hnow : ∀ k, k < n + 2 → (S.fl (n + 2)).2.now k = S.now k := fun k hk => fl_now h.i.ok hk
    have hp := fl_zero h0
    have hds : ∀ k, k < n + 2 → dsec (S.fl (n + 2)).2.im k = S.now k := fun k hk => by rw [← now_flat hp, hnow k hk]
    rw [e] at hi ⊢
    refine ⟨hf, h0, ⟨hi, h.f0, h.n', h.g, h.life.trans (fl_life S (n + 2)).symm, h.e1, h.e2, h.ho.flN h.i.ok (by omega) (slots_ring h.sl h.f0) h0, Slots.nil hp _ _, ⟨h.la.sz, h.la.fit, Nat.le_refl _, fun i hi => ?_, fun q hq => (by rw [hp] at hq; cases hq), fun m X hm hX => ?_⟩, h.hd, fun m X hm hX => ?_⟩⟩
    · rw [hds (2 + i) (by omega)]; exact h.la.now h.ho.once hi
    · rw [List.take_length] at hm
      have := Nat.mod_lt (L.tail + m) (show 0 < n by omega)
      rw [hds _ (by omega), hp]
      exact ⟨h.nw m X hm hX, rfl⟩
    · have := Nat.mod_lt (L.tail + m) (show 0 < n by omega)
      rw [hnow _ (by omega)]
      exact h.nw m X hm hX

theorem srenew_data {l r : List Int} (hl : l.length = 512) (hr : r.length = 512) {M : Nat} (h1 : 1 ≤ M) (hM : M < 9223372036854775808) (h : (snewest l r).2.1 < M) : sanchor (srenew l r (M : Int) []).2.1 = (M, []) := by
  have hb : ∀ t : Nat, t ≤ 2 → sanchor (sform (t : Int) (bytes8 M ++ [])) = (M, []) := fun t ht => sanchor_form (by omega) hM (by simp)
  unfold srenew
  rw [if_neg (by omega), if_neg (by omega), if_neg (by simp)]
  simp only
  rw [if_neg (by omega), Int.toNat_natCast]
  split
  · exact hb _ (turnOf_le _ _)
  · exact hb _ (turnOf_le _ _)
/-- No piece of the ring is of this epoch and not from before this place. -/
def Clear (S : DS) (n E T : Nat) : Prop := ∀ i, i < n → (pcOf (S.now (2 + i))).e = E → (pcOf (S.now (2 + i))).p < T
theorem clear_told {R : Nat → PC} (hR : (R T).e = E → (R T).p ≠ T) {rs : List (List Int)} {hd : Nat} (ht : Tells R E T rs hd) : rs = [] := by
  cases rs with
  | nil => rfl
  | cons d r =>
    obtain ⟨c, hr, _⟩ := ht
    have h0 := hr.2.2.1 0 hr.1
    exact absurd (by simpa using h0.2.1) (hR (by simpa using h0.1))

/-- An anchor is to be written where nothing pends, and it is cut: what was told, or nothing. -/
theorem anew_fut (hok : S.Ok (n + 2)) (hn : 1 ≤ n) (hp : S.puts = []) (hold : (snewest (S.now 0) (S.now (0 + 1))).2 = (N, [], 0)) (hg : Good Em N) (hE : Em < 1073741824) {M : Nat} (hM : N < M) (hgM : Good Em M) (hcl : Clear S n (M / 4294967296) (M % 4294967296)) (hfut : Fut S n ds low none) (herr : (anew S (n + 2) 0 (M : Int)).1 ≠ 0) : Fut (anew S (n + 2) 0 (M : Int)).2 n ds low true := by
  obtain ⟨g1, g2, g3⟩ := hgM
  have hl := now_len hok 0 (by omega)
  have hr := now_len hok (0 + 1) (by omega)
  have hnum : (snewest (S.now 0) (S.now (0 + 1))).2.1 = N := by rw [hold]
  have hM1 : 1 ≤ M := by omega
  have hM2 : M < 9223372036854775808 := by omega
  have hsl := srenew_slot (S.now 0) (S.now (0 + 1)) (M : Int) []
  have hsame : Fut S n ds low true := hfut.loose
  have hro := renew_ok hl hr (N := M) hM1 (by rw [hnum]; exact hM)
  unfold anew at herr ⊢
  by_cases h1 : S.fuse = 0
  · rw [if_pos h1]; exact hsame
  rw [if_neg h1] at herr ⊢
  rw [if_neg (fun c => c hro)] at herr ⊢
  have hform := srenew_form hro
  have hdata := srenew_data hl hr hM1 hM2 (by rw [hnum]; exact hM)
  have hwhole := renew_whole hl hr hM1 hM2 (by rw [hnum]; exact hM)
  have hwhere := srenew_where hl hr hM1 (by rw [hnum]; exact hM)
  generalize hY : srenew (S.now 0) (S.now (0 + 1)) (M : Int) [] = Y at *
  rw [show ((0 : Nat) : Int) + (Y.1 : Int) = ((0 + Y.1 : Nat) : Int) by omega] at herr ⊢
  have hw0 : (S.wr (n + 2) ((0 + Y.1 : Nat) : Int) 512 Y.2.1).1 = 0 := by rw [wr_in h1 (by omega)]
  rw [if_neg (fun c => c hw0)] at herr ⊢
  obtain ⟨w1, w2⟩ := wr_puts_eq (S := S) (s := n + 2) (k := 0 + Y.1) h1 (by omega) Y.2.1
  rw [(fl_err herr).1]
  have hfull : Y.2.1.length = 512 := by rw [← hY]; exact srenew_full _ _ _ _ (by rw [hY]; exact hro)
  have hokW : (S.wr (n + 2) ((0 + Y.1 : Nat) : Int) 512 Y.2.1).2.Ok (n + 2) := wr_ok hok h1 (by omega) hfull
  have honce : Once (S.wr (n + 2) ((0 + Y.1 : Nat) : Int) 512 Y.2.1).2 := by
    obtain ⟨body, hb, e⟩ := hform
    refine (Once.nil hp).wr hok (by omega) h1 (by rw [hp]; rfl) hb ?_
    rw [e]
    by_cases q : Y.1 = 0
    · rw [q, if_pos rfl]
    · have q1 : Y.1 = 1 := by omega
      rw [q1, if_neg (by omega)]
  rw [hp, List.nil_append] at w1
  have hnS : ∀ k, dsec S.im k = S.now k := fun k => (now_flat hp k).symm
  generalize (S.wr (n + 2) ((0 + Y.1 : Nat) : Int) 512 Y.2.1).2 = W at *
  intro pl rs hd ht hx
  -- the ring is as it was
  have hring : Rp (oRing (W.crash (n + 2) pl) 0) n = Rp (oRing S 0) n := by
    funext P
    have := Nat.mod_lt P hn
    show pcOf ((W.crash (n + 2) pl).now (0 + 2 + P % n)) = pcOf (S.now (0 + 2 + P % n))
    rw [cut_same hokW (by omega) (pend_none_in (fun q hm e => by rw [w1] at hm; rw [List.mem_singleton.1 hm] at e; simp only at e; omega)), w2, hnS]
  -- the pair is what it was, or new
  have hslot : Y.1 ≤ 1 := hsl
  have hother : (W.crash (n + 2) pl).now (1 - Y.1) = S.now (1 - Y.1) := by
    rw [cut_same hokW (by omega) (pend_none_in (fun q hm e => by rw [w1] at hm; rw [List.mem_singleton.1 hm] at e; simp only at e; omega)), w2, hnS]
  have hpn : pendOf W.puts (0 + Y.1) = [Y.2.1] := by rw [w1]; unfold pendOf; simp
  have hcr := honce.crash hokW (show 0 + Y.1 < n + 2 by omega) pl
  have hWn : W.now (0 + Y.1) = Y.2.1 := by unfold DS.now DS.cand; rw [hpn]; rfl
  have hlen : ((W.crash (n + 2) pl).now (0 + Y.1)).length = 512 := by
    rw [now_none _ _ rfl]
    show (dsec (imOf (n + 2) (cutOf W pl)) (0 + Y.1)).length = 512
    rw [sec_imOf (n + 2) (cutOf W pl) (fun j hj => cut_len hokW pl j hj) _ (by omega)]
    exact cut_len hokW pl _ (by omega)
  rw [hWn, w2, hnS] at hcr
  have hpair : ((W.crash (n + 2) pl).now 0, (W.crash (n + 2) pl).now (0 + 1)) = sput (S.now 0) (S.now (0 + 1)) Y.1 ((W.crash (n + 2) pl).now (0 + Y.1)) := by
    unfold sput
    rcases (show Y.1 = 0 ∨ Y.1 = 1 by omega) with z | z
    · rw [z] at hother ⊢
      rw [if_pos rfl]
      exact Prod.ext rfl hother
    · rw [z] at hother ⊢
      rw [if_neg (by omega)]
      exact Prod.ext hother rfl
  have ef : (W.crash (n + 2) pl).now 0 = (sput (S.now 0) (S.now (0 + 1)) Y.1 ((W.crash (n + 2) pl).now (0 + Y.1))).1 := congrArg Prod.fst hpair
  have eg : (W.crash (n + 2) pl).now (0 + 1) = (sput (S.now 0) (S.now (0 + 1)) Y.1 ((W.crash (n + 2) pl).now (0 + Y.1))).2 := congrArg Prod.snd hpair
  have hold2 : (snewest ((W.crash (n + 2) pl).now 0) ((W.crash (n + 2) pl).now (0 + 1))).2 = (N, [], 0) ∨ (snewest ((W.crash (n + 2) pl).now 0) ((W.crash (n + 2) pl).now (0 + 1))).2 = (M, [], 0) := by
    rw [ef, eg]
    rcases hcr with hc | hc | hc
    · left
      rw [hc]
      have : sput (S.now 0) (S.now (0 + 1)) Y.1 (S.now (0 + Y.1)) = (S.now 0, S.now (0 + 1)) := by
        unfold sput
        rcases (show Y.1 = 0 ∨ Y.1 = 1 by omega) with z | z
        · rw [z, if_pos rfl]
        · rw [z, if_neg (by omega)]
      rw [this]
      exact hold
    · right; rw [hc]; exact hwhole
    · left
      rw [pair_old hl hr hlen (sanchor_none hc) Y.1 hwhere]
      exact hold
  rcases hold2 with hN | hMM
  · have e1 : oNew (W.crash (n + 2) pl) 0 = oNew S 0 := by
      unfold oNew
      rw [new_of hN hg hE, new_of hold hg hE]
    rw [hring, e1] at ht hx
    obtain ⟨f1, f2⟩ := told_flat hok hn hp pl
    exact (hfut pl rs hd (by rw [f1, f2]; exact ht) (by rw [f1, f2]; exact hx)).imp (fun h => ⟨rfl, h.2⟩) id
  · left
    refine ⟨rfl, ?_⟩
    have e1 : oNew (W.crash (n + 2) pl) 0 = (M / 4294967296, M % 4294967296, 0) := by
      unfold oNew
      exact new_of hMM ⟨g1, g2, g3⟩ hE
    rw [hring, e1] at ht
    have ht' : Tells (Rp (oRing S 0) n) (M / 4294967296) (M % 4294967296) rs hd := ht
    refine clear_told (fun he hpp => ?_) ht'
    have hmod := Nat.mod_lt (M % 4294967296) hn
    have := hcl (M % 4294967296 % n) hmod
    have eR : Rp (oRing S 0) n (M % 4294967296) = pcOf (S.now (2 + M % 4294967296 % n)) := by
      show pcOf (S.now (0 + 2 + M % 4294967296 % n)) = _
      rw [Nat.zero_add]
    rw [eR] at he hpp
    have := this he
    omega
end
end Go.Proofs.Ythdgndbmecnimaa
end
