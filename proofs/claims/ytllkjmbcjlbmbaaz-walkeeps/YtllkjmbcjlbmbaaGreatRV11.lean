import Derived.Test.YtllkjmbcjlbmbaaGreatRV10
namespace Go.Proofs.YtllkjmbcjlbmbaaGreat
open Go.RowKit

/-- The pieces of a record that lies at P. -/
def recPcs (E P : Nat) (d : List Int) : List PC := (List.range (cntOf d.length)).map (fun i => ⟨E, P + i, i, cntOf d.length, partOf d i⟩)
/-- The pieces of records, one behind the other from P on. -/
def pcsOf (E : Nat) : Nat → List (List Int) → List PC
  | _, [] => []
  | P, d :: r => recPcs E P d ++ pcsOf E (P + cntOf d.length) r
/-- How many sectors records take. -/
def lenOf : List (List Int) → Nat
  | [] => 0
  | d :: r => cntOf d.length + lenOf r

theorem recPcs_len (E P : Nat) (d : List Int) : (recPcs E P d).length = cntOf d.length := by simp [recPcs]
theorem recPcs_at {E P i : Nat} {d : List Int} (hi : i < cntOf d.length) : (recPcs E P d)[i]? = some ⟨E, P + i, i, cntOf d.length, partOf d i⟩ := by
  unfold recPcs
  rw [List.getElem?_map, List.getElem?_range hi]
  rfl
theorem pcsOf_len (E : Nat) : ∀ (P : Nat) (ds : List (List Int)), (pcsOf E P ds).length = lenOf ds
  | _, [] => rfl
  | P, d :: r => by
    show (recPcs E P d ++ pcsOf E (P + cntOf d.length) r).length = cntOf d.length + lenOf r
    rw [List.length_append, recPcs_len, pcsOf_len E _ r]
theorem pcsOf_at (E : Nat) : ∀ (ds : List (List Int)) (P m : Nat) (X : PC), (pcsOf E P ds)[m]? = some X → X.e = E ∧ X.p = P + m
  | [], _, _, _, h => by cases h
  | d :: r, P, m, X, h => by
    have h' : (recPcs E P d ++ pcsOf E (P + cntOf d.length) r)[m]? = some X := h
    by_cases hm : m < cntOf d.length
    · rw [List.getElem?_append_left (by rw [recPcs_len]; exact hm), recPcs_at hm] at h'
      cases h'
      exact ⟨rfl, rfl⟩
    · rw [List.getElem?_append_right (by rw [recPcs_len]; omega), recPcs_len] at h'
      have := pcsOf_at E r _ _ _ h'
      exact ⟨this.1, by rw [this.2]; omega⟩
theorem lenOf_append : ∀ (a b : List (List Int)), lenOf (a ++ b) = lenOf a + lenOf b
  | [], b => by simp [lenOf]
  | d :: r, b => by
    show cntOf d.length + lenOf (r ++ b) = cntOf d.length + lenOf r + lenOf b
    rw [lenOf_append r b]
    omega
theorem pcsOf_append (E : Nat) : ∀ (a b : List (List Int)) (P : Nat), pcsOf E P (a ++ b) = pcsOf E P a ++ pcsOf E (P + lenOf a) b
  | [], b, P => by simp [pcsOf, lenOf]
  | d :: r, b, P => by
    show recPcs E P d ++ pcsOf E (P + cntOf d.length) (r ++ b) = (recPcs E P d ++ pcsOf E (P + cntOf d.length) r) ++ pcsOf E (P + (cntOf d.length + lenOf r)) b
    rw [pcsOf_append E r b, List.append_assoc, Nat.add_assoc]
theorem pcsOf_snoc (E P : Nat) (a : List (List Int)) (d : List Int) : pcsOf E P (a ++ [d]) = pcsOf E P a ++ recPcs E (P + lenOf a) d := by
  rw [pcsOf_append]
  show pcsOf E P a ++ (recPcs E (P + lenOf a) d ++ []) = _
  rw [List.append_nil]
theorem parts_join (d : List Int) : ∀ k, ((List.range k).flatMap (partOf d)) = d.take (492 * k)
  | 0 => by simp
  | k + 1 => by
    rw [List.range_succ, List.flatMap_append, parts_join d k]
    simp only [List.flatMap_cons, List.flatMap_nil, List.append_nil]
    unfold partOf
    rw [show 492 * (k + 1) = 492 * k + 492 by omega, List.take_add]
theorem cnt_bounds {d : List Int} (h1 : 1 ≤ d.length) (h2 : d.length ≤ 8364) : 1 ≤ cntOf d.length ∧ cntOf d.length ≤ 17 ∧ d.length ≤ 492 * cntOf d.length ∧ 492 * cntOf d.length < d.length + 492 := by
  unfold cntOf
  omega
theorem rec_of {R : Nat → PC} {E T : Nat} {d : List Int} (h1 : 1 ≤ d.length) (h2 : d.length ≤ 8364) (hall : ∀ i, i < cntOf d.length → R (T + i) = ⟨E, T + i, i, cntOf d.length, partOf d i⟩) : Rec R E T (cntOf d.length) d := by
  obtain ⟨c1, c2, c3, c4⟩ := cnt_bounds h1 h2
  refine ⟨c1, c2, fun i hi => ?_, ?_⟩
  · rw [hall i hi]
    refine ⟨rfl, rfl, rfl, rfl, ?_, fun hne => ?_⟩
    · show 0 < (partOf d i).length
      rw [partOf_len]; unfold chLen; omega
    · show (partOf d i).length = 492
      rw [partOf_len]; unfold chLen; omega
  · unfold dataTo
    have e : (List.range (cntOf d.length)).flatMap (fun i => (R (T + i)).d) = (List.range (cntOf d.length)).flatMap (partOf d) := by
      rw [List.flatMap_def, List.flatMap_def]
      congr 1
      refine List.map_congr_left fun i hi => ?_
      rw [hall i (List.mem_range.1 hi)]
    rw [e, parts_join, List.take_of_length_le c3]

/-- What a ring tells, of which only the pieces of these records are of the epoch: the first so many of them, and all that lie there whole. -/
theorem tells_prefix {R : Nat → PC} {E : Nat} : ∀ (ds : List (List Int)) (T : Nat), (∀ d ∈ ds, 1 ≤ d.length ∧ d.length ≤ 8364) → (∀ P, T ≤ P → (R P).e = E → (R P).p = P → ∃ m : Nat, (pcsOf E T ds)[m]? = some (R P)) →
    ∃ k hd, k ≤ ds.length ∧ Tells R E T (ds.take k) hd ∧ (∀ c d, ¬ Rec R E hd c d) ∧ ∀ low, low ≤ ds.length → (∀ (m : Nat) (X : PC), m < lenOf (ds.take low) → (pcsOf E T ds)[m]? = some X → R (T + m) = X) → low ≤ k
  | [], T, _, only => by
    refine ⟨0, T, Nat.le_refl _, rfl, fun c d hr => ?_, fun low hl _ => hl⟩
    have h0 := hr.2.2.1 0 hr.1
    obtain ⟨m, hm⟩ := only T (Nat.le_refl _) (by simpa using h0.1) (by simpa using h0.2.1)
    cases hm
  | d :: r, T, hsz, only => by
    obtain ⟨s1, s2⟩ := hsz d (List.mem_cons_self ..)
    obtain ⟨c1, c2, c3, c4⟩ := cnt_bounds s1 s2
    have hpc : pcsOf E T (d :: r) = recPcs E T d ++ pcsOf E (T + cntOf d.length) r := rfl
    -- what is of the epoch is the piece of its place
    have is : ∀ i, i < cntOf d.length → (R (T + i)).e = E → (R (T + i)).p = T + i → R (T + i) = ⟨E, T + i, i, cntOf d.length, partOf d i⟩ := fun i hi h1 h2 => by
      obtain ⟨m, hm⟩ := only (T + i) (by omega) h1 h2
      have hp := (pcsOf_at E _ _ _ _ hm).2
      have em : m = i := by omega
      subst em
      rw [hpc, List.getElem?_append_left (by rw [recPcs_len]; exact hi), recPcs_at hi] at hm
      exact (Option.some.inj hm).symm
    by_cases hall : ∀ i, i < cntOf d.length → R (T + i) = ⟨E, T + i, i, cntOf d.length, partOf d i⟩
    · have hrec := rec_of s1 s2 hall
      obtain ⟨k, hd, k1, k2, k3, k4⟩ := tells_prefix r (T + cntOf d.length) (fun x hx => hsz x (List.mem_cons_of_mem _ hx)) (fun P hP h1 h2 => by
        obtain ⟨m, hm⟩ := only P (by omega) h1 h2
        have hp := (pcsOf_at E _ _ _ _ hm).2
        rw [hpc, List.getElem?_append_right (by rw [recPcs_len]; omega), recPcs_len] at hm
        exact ⟨_, hm⟩)
      refine ⟨k + 1, hd, by simp only [List.length_cons]; omega, ⟨_, hrec, k2⟩, k3, fun low hl hlow => ?_⟩
      cases low with
      | zero => exact Nat.zero_le _
      | succ low =>
        have := k4 low (by simp only [List.length_cons] at hl; omega) (fun m X hm hX => by
          have := hlow (cntOf d.length + m) X (by
            show cntOf d.length + m < cntOf d.length + lenOf (r.take low)
            omega) (by rw [hpc, List.getElem?_append_right (by rw [recPcs_len]; omega), recPcs_len, Nat.add_sub_cancel_left]; exact hX)
          rw [← this, Nat.add_assoc])
        omega
    · refine ⟨0, T, Nat.zero_le _, rfl, fun c x hr => hall (fun i hi => ?_), fun low hl hlow => ?_⟩
      · have h0 := hr.2.2.1 0 hr.1
        have hT := is 0 (by omega) (by simpa using h0.1) (by simpa using h0.2.1)
        have hc : c = cntOf d.length := by
          have := hr.count
          rw [show T = T + 0 by omega, hT] at this
          exact this.symm
        have hi' := hr.2.2.1 i (by omega)
        exact is i hi hi'.1 hi'.2.1
      · cases low with
        | zero => exact Nat.le_refl _
        | succ low =>
          exfalso
          refine hall (fun i hi => ?_)
          exact hlow i _ (by show i < cntOf d.length + lenOf (r.take low); omega) (by rw [hpc, List.getElem?_append_left (by rw [recPcs_len]; exact hi), recPcs_at hi])

section
variable {S S' : DS} {n N E T Em low : Nat} {ds : List (List Int)} {L : LG}

/-- A sector's content, as far as it is of the epoch and not from before T, is one of these pieces. -/
def Cl (E T : Nat) (Xs : List PC) (Y : List Int) : Prop := (pcOf Y).e = E → T ≤ (pcOf Y).p → ∃ m : Nat, Xs[m]? = some (pcOf Y)
theorem Cl.more {Xs Ys : List PC} {Y : List Int} (h : Cl E T Xs Y) : Cl E T (Xs ++ Ys) Y := fun h1 h2 => by
  obtain ⟨m, hm⟩ := h h1 h2
  refine ⟨m, ?_⟩
  rw [List.getElem?_append_left (List.getElem?_eq_some_iff.1 hm).1]
  exact hm

/-- The ring of a log at sector 0: which records lie in it, how many of them last. -/
structure Laid (S : DS) (n E T : Nat) (ds : List (List Int)) (low : Nat) : Prop where
  sz : ∀ d ∈ ds, 1 ≤ d.length ∧ d.length ≤ 8364
  fit : lenOf ds ≤ n
  lo : low ≤ ds.length
  oi : ∀ i, i < n → Cl E T (pcsOf E T ds) (dsec S.im (2 + i))
  op : ∀ q ∈ S.puts, 2 ≤ q.1 → Cl E T (pcsOf E T ds) q.2
  du : ∀ (m : Nat) (X : PC), m < lenOf (ds.take low) → (pcsOf E T ds)[m]? = some X → pcOf (dsec S.im (2 + (T + m) % n)) = X ∧ pendOf S.puts (2 + (T + m) % n) = []

/-- What may be told behind any cut. -/
def Fut (S : DS) (n : Nat) (ds : List (List Int)) (low : Nat) (none : Bool) : Prop :=
  ∀ pl rs hd, Tells (Rp (oRing (S.crash (n + 2) pl) 0) n) (oNew (S.crash (n + 2) pl) 0).1 (oNew (S.crash (n + 2) pl) 0).2.1 rs hd → (∀ c d, ¬ Rec (Rp (oRing (S.crash (n + 2) pl) 0) n) (oNew (S.crash (n + 2) pl) 0).1 hd c d) →
    (none = true ∧ rs = []) ∨ (low ≤ rs.length ∧ rs.length ≤ ds.length ∧ rs = ds.take rs.length)

theorem Laid.cut (h : Laid S n E T ds low) (ho : Once S) (hok : S.Ok (n + 2)) (hn : 1 ≤ n) (hE : 1 ≤ E) (pl : List P3) {rs : List (List Int)} {hd : Nat} (ht : Tells (Rp (oRing (S.crash (n + 2) pl) 0) n) E T rs hd) (hx : ∀ c d, ¬ Rec (Rp (oRing (S.crash (n + 2) pl) 0) n) E hd c d) :
    low ≤ rs.length ∧ rs.length ≤ ds.length ∧ rs = ds.take rs.length := by
  have hR : ∀ P, Rp (oRing (S.crash (n + 2) pl) 0) n P = pcOf ((S.crash (n + 2) pl).now (2 + P % n)) := fun P => by
    show pcOf ((S.crash (n + 2) pl).now (0 + 2 + P % n)) = _
    rw [Nat.zero_add]
  have hlt : ∀ P, 2 + P % n < n + 2 := fun P => by have := Nat.mod_lt P hn; omega
  have only : ∀ P, T ≤ P → (Rp (oRing (S.crash (n + 2) pl) 0) n P).e = E → (Rp (oRing (S.crash (n + 2) pl) 0) n P).p = P → ∃ m : Nat, (pcsOf E T ds)[m]? = some (Rp (oRing (S.crash (n + 2) pl) 0) n P) := fun P hP h1 h2 => by
    rw [hR] at h1 h2 ⊢
    have hmod := Nat.mod_lt P hn
    rcases ho.crash hok (hlt P) pl with e | e | e
    · rw [e] at h1 h2 ⊢
      exact h.oi (P % n) hmod h1 (by omega)
    · rw [e] at h1 h2 ⊢
      by_cases hp : pendOf S.puts (2 + P % n) = []
      · rw [now_none _ _ hp] at h1 h2 ⊢
        exact h.oi (P % n) hmod h1 (by omega)
      · obtain ⟨l, body, e1, _, _, e4⟩ := ho.pend hp
        rw [e4] at h1 h2 ⊢
        exact h.op _ (pend_in (by rw [e1]; exact List.mem_singleton.2 rfl)) (by show 2 ≤ 2 + P % n; omega) h1 (by rw [h2]; exact hP)
    · have hlen : ((S.crash (n + 2) pl).now (2 + P % n)).length = 512 := by
        rw [now_none _ _ rfl]
        show (dsec (imOf (n + 2) (cutOf S pl)) (2 + P % n)).length = 512
        rw [sec_imOf (n + 2) (cutOf S pl) (fun j hj => cut_len hok pl j hj) _ (hlt P)]
        exact cut_len hok pl _ (hlt P)
      rw [pc_none hlen e] at h1
      omega
  obtain ⟨k, hd', k1, k2, k3, k4⟩ := tells_prefix ds T h.sz only
  obtain ⟨rfl, rfl⟩ := Tells.unique ht hx k2 k3
  have hlk := k4 low h.lo (fun m X hm hX => by
    obtain ⟨d1, d2⟩ := h.du m X hm hX
    rw [hR, cut_same hok (hlt _) d2]
    exact d1)
  have el : (ds.take k).length = k := by rw [List.length_take]; omega
  rw [el]
  exact ⟨hlk, k1, rfl⟩
end
end Go.Proofs.YtllkjmbcjlbmbaaGreat
