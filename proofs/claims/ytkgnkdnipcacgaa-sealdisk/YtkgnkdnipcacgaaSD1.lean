import Derived.Test.YtkgnkdnipcacgaaSMPairD
namespace Go.Proofs.Ytkgnkdnipcacgaa
open Go.RowKit

/-- All that a disk holds are bytes. -/
def DS.Byt (S : DS) : Prop := Bytes S.im ∧ ∀ q ∈ S.puts, Bytes q.2
theorem dsec_bytes {im : List Int} (h : Bytes im) (k : Nat) : Bytes (dsec im k) := (h.drop _).take _
theorem pend_bytes {S : DS} (h : S.Byt) (k j : Nat) : Bytes ((pendOf S.puts k).getD j []) := by
  rcases Nat.lt_or_ge j (pendOf S.puts k).length with hj | hj
  · rw [List.getD, List.getElem?_eq_getElem hj, Option.getD_some]
    have hm := List.getElem_mem hj
    unfold pendOf at hm
    obtain ⟨q, hq, e⟩ := List.mem_map.1 hm
    have := h.2 q (List.mem_filter.1 hq).1
    unfold pendOf
    rw [← e]
    exact this
  · rw [List.getD, List.getElem?_eq_none hj]
    exact Bytes.nil
theorem cand_bytes {S : DS} (h : S.Byt) (k j : Nat) : Bytes (S.cand k j) := by
  unfold DS.cand
  split
  · exact dsec_bytes h.1 k
  · exact pend_bytes h k _
theorem DS.Byt.now {S : DS} (h : S.Byt) (k : Nat) : Bytes (S.now k) := cand_bytes h k _
theorem imOf_bytes {s : Nat} {f : Nat → List Int} (h : ∀ k, Bytes (f k)) : Bytes (imOf s f) := by
  intro x hx
  obtain ⟨k, _, hk⟩ := List.mem_flatMap.1 hx
  exact h k x hk
theorem DS.Byt.wr {S : DS} (h : S.Byt) (s : Nat) (x : Int) (n : Nat) {l : List Int} (hl : Bytes l) : (S.wr s x n l).2.Byt := by
  unfold DS.wr
  split
  · exact h
  · split
    · exact h
    · split
      · exact h
      · refine ⟨h.1, fun q hq => ?_⟩
        rcases List.mem_append.1 hq with hq | hq
        · exact h.2 q hq
        · rw [List.mem_singleton.1 hq]; exact hl
theorem DS.Byt.fl {S : DS} (h : S.Byt) (s : Nat) : (S.fl s).2.Byt := by
  unfold DS.fl
  split
  · exact h
  · exact ⟨imOf_bytes h.now, fun q hq => by cases hq⟩
theorem DS.Byt.take {S : DS} (h : S.Byt) : S.take.Byt := h
theorem DS.Byt.lay {S : DS} (h : S.Byt) (x : Int) : (S.lay x).Byt := by
  unfold DS.lay
  split
  · exact h
  · exact h
theorem torn_bytes {S : DS} (h : S.Byt) (k A B C : Nat) : Bytes (tornOf S k A B C) := by
  unfold tornOf
  exact ((cand_bytes h k _).take _).append ((cand_bytes h k _).drop _)
theorem DS.Byt.crash {S : DS} (h : S.Byt) (s : Nat) (l : List P3) : (S.crash s l).Byt := by
  refine ⟨imOf_bytes (fun k => ?_), fun q hq => by cases hq⟩
  unfold cutOf
  split
  · exact dsec_bytes h.1 k
  · exact torn_bytes h k _ _ _
theorem wr_in {S : DS} {s k : Nat} (hf : S.fuse ≠ 0) (hk : k < s) (l : List Int) : S.wr s (k : Int) 512 l = (0, (S.put k l).wrote.spend) := by
  unfold DS.wr
  rw [if_neg hf, if_neg (by omega), if_neg (by omega), Int.toNat_natCast]
theorem rd_in {S : DS} {s k : Nat} (h : S.fuse ≠ 0) (hk : k < s) : S.rd s (k : Int) = (0, S.read, S.now k) := by
  unfold DS.rd
  rw [if_neg h, if_neg (by omega)]
  simp
theorem now_put (S : DS) (k : Nat) (l : List Int) (j : Nat) : (S.put k l).now j = if j = k then l else S.now j := by
  have e : pendOf (S.put k l).puts j = if j = k then pendOf S.puts k ++ [l] else pendOf S.puts j := pendOf_snoc _ _ _ _
  by_cases h : j = k
  · subst h
    simp [DS.now, DS.cand, e]
  · have e2 : pendOf (S.put k l).puts j = pendOf S.puts j := by rw [e, if_neg h]
    have e3 : (S.put k l).im = S.im := rfl
    simp [DS.now, DS.cand, e2, e3, h]
theorem wr_now {S : DS} {s k : Nat} (hf : S.fuse ≠ 0) (hk : k < s) (l : List Int) (j : Nat) : (S.wr s (k : Int) 512 l).2.now j = if j = k then l else S.now j := by
  rw [wr_in hf hk]
  exact now_put S k l j
theorem fl_now {S : DS} {s : Nat} (h : S.Ok s) {j : Nat} (hj : j < s) : (S.fl s).2.now j = S.now j := by
  unfold DS.fl
  split
  · rfl
  · show (S.flush s).now j = S.now j
    rw [now_none _ _ rfl]
    exact sec_imOf s S.now (fun k hk => now_len h k hk) j hj
theorem spend_calm {S : DS} (h : S.fuse = -1) : S.spend.fuse = -1 := by
  unfold DS.spend
  simp only
  rw [if_neg (by omega)]
  exact h
theorem wr_calm {S : DS} (h : S.fuse = -1) (s : Nat) (x : Int) (n : Nat) (l : List Int) : (S.wr s x n l).2.fuse = -1 := by
  unfold DS.wr
  split
  · exact h
  · split
    · exact h
    · split
      · exact h
      · exact spend_calm h
theorem fl_calm {S : DS} (h : S.fuse = -1) (s : Nat) : (S.fl s).2.fuse = -1 := by
  unfold DS.fl
  split
  · exact h
  · exact spend_calm h
section
variable {S : DS} {s k : Nat}
theorem cut_same {pl : List P3} (hok : S.Ok s) (hk : k < s) (hp : pendOf S.puts k = []) : (S.crash s pl).now k = dsec S.im k := by
  rw [now_none _ _ rfl]
  show dsec (imOf s (cutOf S pl)) k = _
  rw [sec_imOf s (cutOf S pl) (fun j hj => cut_len hok pl j hj) k hk]
  unfold cutOf
  rw [if_pos hp]
theorem cut_full (hok : S.Ok s) (hk : k < s) (pl : List P3) : ((S.crash s pl).now k).length = 512 := by
  rw [now_none _ _ rfl]
  show (dsec (imOf s (cutOf S pl)) k).length = 512
  rw [sec_imOf s (cutOf S pl) (fun j hj => cut_len hok pl j hj) k hk]
  exact cut_len hok pl _ hk
/-- A sector with one pending write, sealed over what lies there, behind any cut: what it was, what it was to be, or it tells that it is torn. -/
theorem cut_one (hok : S.Ok s) (hk : k < s) {l body : List Int} (hl : pendOf S.puts k = [l]) (hb : body.length ≤ 504) (e : l = sform (turnOf ((dsec S.im k).getD 0 0) ((dsec S.im k).getD 511 0)) body) (pl : List P3) :
    (S.crash s pl).now k = dsec S.im k ∨ (S.crash s pl).now k = l ∨ sopen ((S.crash s pl).now k) = none := by
  have hold : (dsec S.im k).length = 512 := dsec_len hok.len hk
  have e0 : (S.crash s pl).now k = cutOf S pl k := by
    rw [now_none _ _ rfl]
    exact sec_imOf s (cutOf S pl) (fun j hj => cut_len hok pl j hj) k hk
  rw [e0]
  unfold cutOf
  rw [if_neg (by rw [hl]; simp)]
  unfold tornBy tornOf
  rw [hl]
  generalize (max (pickN pl (keysOf S k).length).1 0).toNat = A
  generalize (max (pickN pl (keysOf S k).length).2.1 0).toNat = B
  generalize (max (pickN pl (keysOf S k).length).2.2 0).toNat = C
  have c0 : S.cand k 0 = dsec S.im k := rfl
  have c1 : S.cand k 1 = l := by unfold DS.cand; rw [hl]; rfl
  have hA : A % ([l].length + 1) = 0 ∨ A % ([l].length + 1) = 1 := by simp; omega
  have hB : B % ([l].length + 1) = 0 ∨ B % ([l].length + 1) = 1 := by simp; omega
  have hC : C % 513 ≤ 512 := by omega
  have ht := turnOf_ne ((dsec S.im k).getD 0 0) ((dsec S.im k).getD 511 0)
  have key := torn hold ht.1 ht.2 hb hC
  rw [← e] at key
  rcases hA with hA | hA <;> rcases hB with hB | hB <;> rw [hA, hB]
  · left; rw [c0, List.take_append_drop]
  · rw [c0, c1]; exact key.1
  · rw [c0, c1]; exact key.2
  · right; left; rw [c1, List.take_append_drop]
end

abbrev NwT := Nat × Nat × List Int × Nat
/-- What the bench knows of its disk: su: what the pair tells if all that is pending is lost; ma: if it is kept; op: whether an anchor is pending. -/
structure Knows (S : DS) (su ma : NwT) (op : Bool) : Prop where
  fu : S.fuse = -1
  byt : S.Byt
  isMa : ma = snewest (S.now 1) (S.now 3)
  isSu : su = snewest (dsec S.im 1) (dsec S.im 3)
  shut : op = false → pendOf S.puts 1 = [] ∧ pendOf S.puts 3 = []
  pends : op = true → ∃ slot body, slot ≤ 1 ∧ slot = (if su.2.2.2 = 0 ∧ su.1 = 0 then 1 else 0) ∧ body.length ≤ 504 ∧ pendOf S.puts (1 + 2 * slot) = [sform (turnOf ((dsec S.im (1 + 2 * slot)).getD 0 0) ((dsec S.im (1 + 2 * slot)).getD 511 0)) body] ∧ pendOf S.puts (3 - 2 * slot) = []

section
variable {S S' : DS} {su ma : NwT} {op : Bool}
theorem now_of (hi : S'.im = S.im) (hp : S'.puts = S.puts) (k : Nat) : S'.now k = S.now k := by
  unfold DS.now DS.cand
  rw [hi, hp]
theorem Knows.same (h : Knows S su ma op) (hi : S'.im = S.im) (hp : S'.puts = S.puts) (hf : S'.fuse = S.fuse) : Knows S' su ma op := by
  refine ⟨hf.trans h.fu, ⟨by rw [hi]; exact h.byt.1, by rw [hp]; exact h.byt.2⟩, ?_, ?_, ?_, ?_⟩
  · rw [now_of hi hp, now_of hi hp]; exact h.isMa
  · rw [hi]; exact h.isSu
  · rw [hp]; exact h.shut
  · rw [hp, hi]; exact h.pends
theorem Knows.shutSame (h : Knows S su ma false) : su = ma := by
  obtain ⟨h1, h3⟩ := h.shut rfl
  rw [h.isSu, h.isMa, now_none _ _ h1, now_none _ _ h3]
theorem Knows.flush (h : Knows S su ma op) (hok : S.Ok 5) : Knows (S.fl 5).2 ma ma false ∧ (S.fl 5).1 = 0 := by
  have hf : S.fuse ≠ 0 := by rw [h.fu]; decide
  have e : S.fl 5 = (0, (S.flush 5).spend) := by unfold DS.fl; rw [if_neg hf]
  have hp : (S.fl 5).2.puts = [] := by rw [e]; rfl
  have n1 := fl_now hok (show 1 < 5 by omega)
  have n3 := fl_now hok (show 3 < 5 by omega)
  refine ⟨⟨fl_calm h.fu 5, h.byt.fl 5, by rw [n1, n3]; exact h.isMa, ?_, fun _ => ⟨by rw [hp]; rfl, by rw [hp]; rfl⟩, fun h => by cases h⟩, by rw [e]⟩
  rw [← now_none (S.fl 5).2 1 (by rw [hp]; rfl), ← now_none (S.fl 5).2 3 (by rw [hp]; rfl), n1, n3]
  exact h.isMa
theorem Knows.crash (h : Knows S su ma op) (hok : S.Ok 5) (pl : List P3) : ∃ m, (m = su ∨ m = ma) ∧ m = snewest ((S.crash 5 pl).now 1) ((S.crash 5 pl).now 3) ∧ Knows (S.crash 5 pl) m m false := by
  have hl : (dsec S.im 1).length = 512 := dsec_len hok.len (by omega)
  have hr : (dsec S.im 3).length = 512 := dsec_len hok.len (by omega)
  have key : snewest ((S.crash 5 pl).now 1) ((S.crash 5 pl).now 3) = su ∨ snewest ((S.crash 5 pl).now 1) ((S.crash 5 pl).now 3) = ma := by
    cases op with
    | false =>
      obtain ⟨h1, h3⟩ := h.shut rfl
      left
      rw [cut_same hok (by omega) h1, cut_same hok (by omega) h3]
      exact h.isSu.symm
    | true =>
      obtain ⟨slot, body, s1, s2, b1, q1, q2⟩ := h.pends rfl
      have hcr := cut_one hok (show 1 + 2 * slot < 5 by omega) q1 b1 rfl pl
      have hlen := cut_full hok (show 1 + 2 * slot < 5 by omega) pl
      have hnow : S.now (1 + 2 * slot) = sform (turnOf ((dsec S.im (1 + 2 * slot)).getD 0 0) ((dsec S.im (1 + 2 * slot)).getD 511 0)) body := by
        unfold DS.now DS.cand
        rw [q1]
        rfl
      rw [← hnow] at hcr
      have hs := h.isSu
      rw [hs] at s2
      have hpair : ∀ T : DS, T.now (3 - 2 * slot) = dsec S.im (3 - 2 * slot) → (T.now 1, T.now 3) = sput (dsec S.im 1) (dsec S.im 3) slot (T.now (1 + 2 * slot)) := fun T hT => by
        unfold sput
        rcases (show slot = 0 ∨ slot = 1 by omega) with z | z
        · subst z
          rw [if_pos rfl]
          exact Prod.ext rfl hT
        · subst z
          rw [if_neg (by omega)]
          exact Prod.ext hT rfl
      have hC := hpair (S.crash 5 pl) (cut_same hok (by omega) q2)
      have hN := hpair S (now_none _ _ q2)
      have ef := congrArg Prod.fst hC
      have eg := congrArg Prod.snd hC
      simp only at ef eg
      rcases hcr with hc | hc | hc
      · left
        rw [ef, eg, hc]
        have : sput (dsec S.im 1) (dsec S.im 3) slot (dsec S.im (1 + 2 * slot)) = (dsec S.im 1, dsec S.im 3) := by
          unfold sput
          rcases (show slot = 0 ∨ slot = 1 by omega) with z | z
          · subst z; rw [if_pos rfl]
          · subst z; rw [if_neg (by omega)]
        rw [this]
        exact hs.symm
      · right
        rw [ef, eg, hc, ← hN]
        exact h.isMa.symm
      · left
        rw [ef, eg, pair_old hl hr hlen (sanchor_none hc) slot s2]
        exact hs.symm
  refine ⟨_, key, rfl, rfl, h.byt.crash 5 pl, rfl, ?_, fun _ => ⟨rfl, rfl⟩, fun h => by cases h⟩
  rw [← now_none (S.crash 5 pl) 1 rfl, ← now_none (S.crash 5 pl) 3 rfl]
theorem Knows.other (h : Knows S su ma op) {k : Nat} (hk : k < 5) (k1 : k ≠ 1) (k3 : k ≠ 3) {l : List Int} (hl : Bytes l) : Knows (S.wr 5 (k : Int) 512 l).2 su ma op := by
  have hf : S.fuse ≠ 0 := by rw [h.fu]; decide
  have n := wr_now hf hk l
  have e := wr_in hf hk l
  have hp : ∀ j, j ≠ k → pendOf (S.wr 5 (k : Int) 512 l).2.puts j = pendOf S.puts j := fun j hj => by
    rw [e]
    exact (pendOf_snoc _ _ _ _).trans (if_neg hj)
  have hi : (S.wr 5 (k : Int) 512 l).2.im = S.im := by rw [e]; rfl
  refine ⟨wr_calm h.fu _ _ _ _, h.byt.wr _ _ _ hl, ?_, by rw [hi]; exact h.isSu, fun ho => ?_, fun ho => ?_⟩
  · rw [n, n, if_neg (Ne.symm k1), if_neg (Ne.symm k3)]; exact h.isMa
  · rw [hp _ (Ne.symm k1), hp _ (Ne.symm k3)]; exact h.shut ho
  · obtain ⟨slot, body, s1, s2, b1, q1, q2⟩ := h.pends ho
    refine ⟨slot, body, s1, s2, b1, ?_, ?_⟩
    · rw [hp _ (by omega), hi]; exact q1
    · rw [hp _ (by omega)]; exact q2
theorem Knows.renew (h : Knows S su ma false) (hok : S.Ok 5) {N : Nat} (h1 : 1 ≤ N) (hN : N < 9223372036854775808) (hlt : su.2.1 < N) {dt : List Int} (hd : dt.length ≤ 496) (hb : Bytes dt) :
    ∃ slot X, slot ≤ 1 ∧ srenew (S.now 1) (S.now 3) (N : Int) dt = (slot, X, 0) ∧ X.length = 512 ∧ Knows (S.wr 5 ((1 + 2 * slot : Nat) : Int) 512 X).2 su (slot, N, dt, 0) true := by
  obtain ⟨p1, p3⟩ := h.shut rfl
  have hf : S.fuse ≠ 0 := by rw [h.fu]; decide
  have hl : (dsec S.im 1).length = 512 := dsec_len hok.len (by omega)
  have hr : (dsec S.im 3).length = 512 := dsec_len hok.len (by omega)
  have hbl : (bytes8 N ++ dt).length ≤ 504 := by rw [List.length_append, bytes8_len]; omega
  have hs := h.isSu
  rw [hs] at hlt
  have fin : ∀ slot, slot ≤ 1 → slot = (if (snewest (dsec S.im 1) (dsec S.im 3)).2.2.2 = 0 ∧ (snewest (dsec S.im 1) (dsec S.im 3)).1 = 0 then 1 else 0) →
      srenew (S.now 1) (S.now 3) (N : Int) dt = (slot, sform (turnOf ((dsec S.im (1 + 2 * slot)).getD 0 0) ((dsec S.im (1 + 2 * slot)).getD 511 0)) (bytes8 N ++ dt), 0) →
      ∃ slot X, slot ≤ 1 ∧ srenew (S.now 1) (S.now 3) (N : Int) dt = (slot, X, 0) ∧ X.length = 512 ∧ Knows (S.wr 5 ((1 + 2 * slot : Nat) : Int) 512 X).2 su (slot, N, dt, 0) true := fun slot s1 s2 e => by
    refine ⟨slot, _, s1, e, sform_len hbl, ?_⟩
    generalize hX : sform (turnOf ((dsec S.im (1 + 2 * slot)).getD 0 0) ((dsec S.im (1 + 2 * slot)).getD 511 0)) (bytes8 N ++ dt) = X
    have hk : 1 + 2 * slot < 5 := by omega
    have n := wr_now hf hk X
    have ew := wr_in hf hk X
    have hp : ∀ j, pendOf (S.wr 5 ((1 + 2 * slot : Nat) : Int) 512 X).2.puts j = if j = 1 + 2 * slot then pendOf S.puts (1 + 2 * slot) ++ [X] else pendOf S.puts j := fun j => by
      rw [ew]
      exact pendOf_snoc _ _ _ _
    have hi : (S.wr 5 ((1 + 2 * slot : Nat) : Int) 512 X).2.im = S.im := by rw [ew]; rfl
    have t2 := turnOf_le ((dsec S.im (1 + 2 * slot)).getD 0 0) ((dsec S.im (1 + 2 * slot)).getD 511 0)
    have hXb : Bytes X := by rw [← hX]; exact sform_bytes ((bytes8_bytes N).append hb) hbl (by omega)
    have hpn := pair_new hl hr hN h1 hd hlt (t := ((turnOf ((dsec S.im (1 + 2 * slot)).getD 0 0) ((dsec S.im (1 + 2 * slot)).getD 511 0) : Nat) : Int)) (by omega) slot s2
    rw [hX] at hpn
    refine ⟨wr_calm h.fu _ _ _ _, h.byt.wr _ _ _ hXb, ?_, by rw [hi]; exact hs, (fun h => by cases h), fun _ => ⟨slot, bytes8 N ++ dt, s1, by rw [hs]; exact s2, hbl, ?_, ?_⟩⟩
    · rw [← hpn, n, n, now_none _ _ p1, now_none _ _ p3]
      unfold sput
      rcases (show slot = 0 ∨ slot = 1 by omega) with z | z
      · subst z; rfl
      · subst z; rfl
    · rw [hp, if_pos rfl, hi, ← hX]
      rcases (show slot = 0 ∨ slot = 1 by omega) with z | z
      · subst z; rw [show pendOf S.puts (1 + 2 * 0) = [] from p1]; rfl
      · subst z; rw [show pendOf S.puts (1 + 2 * 1) = [] from p3]; rfl
    · rw [hp, if_neg (by omega)]
      rcases (show slot = 0 ∨ slot = 1 by omega) with z | z
      · subst z; exact p3
      · subst z; exact p1
  have e0 : srenew (S.now 1) (S.now 3) (N : Int) dt = srenew (dsec S.im 1) (dsec S.im 3) (N : Int) dt := by rw [now_none _ _ p1, now_none _ _ p3]
  by_cases z : (snewest (dsec S.im 1) (dsec S.im 3)).2.2.2 = 0 ∧ (snewest (dsec S.im 1) (dsec S.im 3)).1 = 0
  · refine fin 1 (by omega) (by rw [if_pos z]) ?_
    rw [e0]
    unfold srenew
    rw [if_neg (by omega), if_neg (by omega), if_neg (by omega)]
    simp only
    rw [if_neg (by omega), if_pos z, Int.toNat_natCast]
  · refine fin 0 (by omega) (by rw [if_neg z]) ?_
    rw [e0]
    unfold srenew
    rw [if_neg (by omega), if_neg (by omega), if_neg (by omega)]
    simp only
    rw [if_neg (by omega), if_neg z, Int.toNat_natCast]
theorem Knows.first : Knows (DS.fresh (List.replicate (5 * 512) 0)) (0, 0, [], 30) (0, 0, [], 30) false := by
  have e : ∀ k, k < 5 → dsec (List.replicate (5 * 512) 0) k = List.replicate 512 0 := fun k hk => by
    unfold dsec
    rw [List.drop_replicate, List.take_replicate]
    congr 1
    omega
  have z : snewest (List.replicate 512 0) (List.replicate 512 0) = (0, 0, [], 30) := by
    have h0 : sanchor (List.replicate 512 0) = (0, []) := by decide +kernel
    unfold snewest
    rw [if_neg (by rw [List.length_replicate]; omega), h0, if_pos ⟨rfl, rfl⟩]
  refine ⟨rfl, ⟨Bytes.zeros _, fun q hq => by cases hq⟩, ?_, ?_, fun _ => ⟨rfl, rfl⟩, fun h => by cases h⟩
  · rw [now_none _ _ rfl, now_none _ _ rfl]
    show _ = snewest (dsec (List.replicate (5 * 512) 0) 1) (dsec (List.replicate (5 * 512) 0) 3)
    rw [e 1 (by omega), e 3 (by omega), z]
  · show _ = snewest (dsec (List.replicate (5 * 512) 0) 1) (dsec (List.replicate (5 * 512) 0) 3)
    rw [e 1 (by omega), e 3 (by omega), z]
end
end Go.Proofs.Ytkgnkdnipcacgaa
