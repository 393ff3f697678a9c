import Derived.Test.YtllkjmbcjlbmbaaGreatRV11
namespace Go.Proofs.YtllkjmbcjlbmbaaGreat
open Go.RowKit

/-- What a sealed piece reads as. -/
theorem pc_full {old : List Int} (ho : old.length = 512) {E P i c : Nat} {l : List Int} (hl : l.length ≤ 492) (hE : E < 4294967296) (hP : P < 4294967296) (hi : i < 65536) (hc : c < 65536) : pcOf (sseal old (pbody E P i c l)).1 = ⟨E, P, i, c, l⟩ := by
  have hlen : (pbody E P i c l).length = 12 + l.length := by unfold pbody; simp [leb_len]; omega
  rw [sseal_ok ho (by omega)]
  have h1 := sopen_form (turnOf (old.getD 0 0) (old.getD 511 0)) (pbody E P i c l) (by omega) (by have := turnOf_le (old.getD 0 0) (old.getD 511 0); omega)
  have h2 := sopens_some (by have := (sseal_full (body := pbody E P i c l) ho (by omega)).2; rw [sseal_ok ho (by omega)] at this; exact this) h1
  unfold pcOf
  rw [if_neg (by rw [h2]; show ¬ ((0 : Nat) ≠ 0 ∨ (pbody E P i c l).length < 12); omega), h2]
  show pcBody (pbody E P i c l) = _
  have e4 : (leb 4 E).length = 4 := leb_len 4 E
  have p4 : (leb 4 P).length = 4 := leb_len 4 P
  have i2 : (leb 2 i).length = 2 := leb_len 2 i
  have c2 : (leb 2 c).length = 2 := leb_len 2 c
  have d4 : (pbody E P i c l).drop 4 = leb 4 P ++ (leb 2 i ++ (leb 2 c ++ l)) := by unfold pbody; rw [List.drop_left' e4]
  have d8 : (pbody E P i c l).drop 8 = leb 2 i ++ (leb 2 c ++ l) := by rw [show 8 = 4 + 4 by omega, ← List.drop_drop, d4, List.drop_left' p4]
  have d10 : (pbody E P i c l).drop 10 = leb 2 c ++ l := by rw [show 10 = 8 + 2 by omega, ← List.drop_drop, d8, List.drop_left' i2]
  have d12 : (pbody E P i c l).drop 12 = l := by rw [show 12 = 10 + 2 by omega, ← List.drop_drop, d10, List.drop_left' c2]
  have t0 : (pbody E P i c l).take 4 = leb 4 E := by unfold pbody; rw [List.take_left' e4]
  unfold pcBody
  rw [t0, d4, d8, d10, d12, List.take_left' p4, List.take_left' i2, List.take_left' c2, leb_le 4 E hE, leb_le 4 P hP, leb_le 2 i hi, leb_le 2 c hc]

section
variable {S S' : DS} {n N E T Em low j : Nat} {ds : List (List Int)} {L : LG} {none : Bool}

theorem crash_same (hi : S'.im = S.im) (hp : S'.puts = S.puts) (pl : List P3) : (S'.crash (n + 2) pl).im = (S.crash (n + 2) pl).im := by
  have hc : ∀ k j, S'.cand k j = S.cand k j := fun k j => by unfold DS.cand; rw [hi, hp]
  have hk : ∀ k, keysOf S' k = keysOf S k := fun k => by unfold keysOf; rw [hp]
  have hcut : cutOf S' pl = cutOf S pl := by
    funext k
    unfold cutOf tornBy tornOf
    rw [hp, hi, hk]
    simp only [hc]
  show imOf (n + 2) (cutOf S' pl) = imOf (n + 2) (cutOf S pl)
  rw [hcut]
theorem now_of' (hi : S'.im = S.im) (hp : S'.puts = S.puts) (k : Nat) : S'.now k = S.now k := by unfold DS.now DS.cand; rw [hi, hp]
theorem now_flat (hp : S.puts = []) (k : Nat) : S.now k = dsec S.im k := now_none _ _ (by rw [hp]; rfl)
theorem ring_same (h : ∀ k, S'.now k = S.now k) : oRing S' 0 = oRing S 0 ∧ oNew S' 0 = oNew S 0 := by
  refine ⟨?_, ?_⟩
  · funext i
    show pcOf (S'.now _) = pcOf (S.now _)
    rw [h]
  · unfold oNew
    rw [h, h]
theorem Fut.same (h : Fut S n ds low none) (hi : S'.im = S.im) (hp : S'.puts = S.puts) : Fut S' n ds low none := fun pl rs hd ht hx => by
  have hn : ∀ k, (S'.crash (n + 2) pl).now k = (S.crash (n + 2) pl).now k := fun k => by rw [now_flat rfl, now_flat rfl, crash_same hi hp]
  obtain ⟨e1, e2⟩ := ring_same hn
  rw [e1, e2] at ht hx
  exact h pl rs hd ht hx
/-- Where nothing pends nothing is cut. -/
theorem crash_flat (hok : S.Ok (n + 2)) (hp : S.puts = []) (pl : List P3) {k : Nat} (hk : k < n + 2) : (S.crash (n + 2) pl).now k = S.now k := by
  rw [cut_same hok hk (by rw [hp]; rfl), now_flat hp]
theorem told_flat (hok : S.Ok (n + 2)) (hn : 1 ≤ n) (hp : S.puts = []) (pl : List P3) : Rp (oRing (S.crash (n + 2) pl) 0) n = Rp (oRing S 0) n ∧ oNew (S.crash (n + 2) pl) 0 = oNew S 0 := by
  refine ⟨?_, ?_⟩
  · funext P
    have := Nat.mod_lt P hn
    show pcOf ((S.crash (n + 2) pl).now (0 + 2 + P % n)) = pcOf (S.now (0 + 2 + P % n))
    rw [crash_flat hok hp pl (by omega)]
  · unfold oNew
    rw [crash_flat hok hp pl (by omega), crash_flat hok hp pl (by omega)]
/-- What is told where nothing pends is told again. -/
theorem Fut.flat (hok : S.Ok (n + 2)) (hn : 1 ≤ n) (hp : S.puts = []) {rs : List (List Int)} {hd : Nat} (ht : Tells (Rp (oRing S 0) n) (oNew S 0).1 (oNew S 0).2.1 rs hd) (hx : ∀ c d, ¬ Rec (Rp (oRing S 0) n) (oNew S 0).1 hd c d) (none : Bool) : Fut S n rs rs.length none := fun pl rs' hd' ht' hx' => by
  obtain ⟨e1, e2⟩ := told_flat hok hn hp pl
  rw [e1, e2] at ht' hx'
  obtain ⟨rfl, _⟩ := Tells.unique ht hx ht' hx'
  exact .inr ⟨Nat.le_refl _, Nat.le_refl _, (List.take_length).symm⟩
/-- A cut behind a cut. -/
theorem Fut.crash (h : Fut S n ds low none) (hn : 1 ≤ n) (pl : List P3) (hok2 : (S.crash (n + 2) pl).Ok (n + 2)) : Fut (S.crash (n + 2) pl) n ds low none := fun pl2 rs hd ht hx => by
  obtain ⟨e1, e2⟩ := told_flat hok2 hn rfl pl2
  rw [e1, e2] at ht hx
  exact h pl rs hd ht hx
theorem Fut.loose (h : Fut S n ds low none) : Fut S n ds low true := fun pl rs hd ht hx => by
  rcases h pl rs hd ht hx with h | h
  · exact .inl ⟨rfl, h.2⟩
  · exact .inr h

/-- A log that was started on this very disk, and what lies in it. -/
structure Alive (S : DS) (L : LG) (n j : Nat) (ds : List (List Int)) (low : Nat) : Prop where
  i : Inv S (n + 2) [L] (3 + 2 * j)
  f0 : L.f = 0
  n' : L.n = n
  g : L.begun = true
  life : L.life = S.life
  e1 : 1 ≤ L.ep
  e2 : L.ep ≤ j + 2
  ho : Hold S 0 n (L.ep * 4294967296 + L.tail) (j + 2)
  sl : Slots S L L.tail L.head
  la : Laid S n L.ep L.tail ds low
  hd : L.head = L.tail + lenOf ds
  nw : ∀ (m : Nat) (X : PC), m < lenOf ds → (pcsOf L.ep L.tail ds)[m]? = some X → pcOf (S.now (2 + (L.tail + m) % n)) = X

theorem Alive.nb (h : Alive S L n j ds low) : 18 ≤ n ∧ n ≤ 256 := by
  have hL := (h.i.at (i := 0) rfl).1
  have h1 := hL.n1
  have h2 := hL.n2
  rw [h.n'] at h1 h2
  exact ⟨h1, h2⟩
theorem slots_ring (h : Slots S L L.tail L.head) (hf : L.f = 0) : ∀ q ∈ S.puts, 2 ≤ q.1 := fun q hq => by
  obtain ⟨P, _, _, e⟩ := h q hq
  rw [hf] at e
  omega
/-- Behind any cut the pair is what it was, where no anchor pends. -/
theorem cut_pair (hok : S.Ok (n + 2)) (hq : ∀ q ∈ S.puts, 2 ≤ q.1) (pl : List P3) : (S.crash (n + 2) pl).now 0 = dsec S.im 0 ∧ (S.crash (n + 2) pl).now 1 = dsec S.im 1 :=
  ⟨cut_same hok (by omega) (pend_none_in (fun q hm e => by have := hq q hm; omega)), cut_same hok (by omega) (pend_none_in (fun q hm e => by have := hq q hm; omega))⟩
theorem new_of {l r : List Int} (h : (snewest l r).2 = (N, [], 0)) (hg : Good Em N) (hE : Em < 1073741824) : lnewest l r = (N / 4294967296, N % 4294967296, 0) := by
  obtain ⟨g1, g2, g3⟩ := hg
  unfold lnewest
  generalize snewest l r = X at *
  rw [h]
  simp only [List.length_nil]
  rw [if_neg (by omega)]
theorem parts_of (E T : Nat) (hT : T < 4294967296) : (E * 4294967296 + T) / 4294967296 = E ∧ (E * 4294967296 + T) % 4294967296 = T := by omega

theorem laid_fut (la : Laid S n E T ds low) (ho : Hold S 0 n (E * 4294967296 + T) Em) (hEm : Em < 1073741824) (hok : S.Ok (n + 2)) (hn : 1 ≤ n) (hE : 1 ≤ E) (hT : T < 4294967296) (hq : ∀ q ∈ S.puts, 2 ≤ q.1) (none : Bool) : Fut S n ds low none := fun pl rs hd ht hx => by
  obtain ⟨p0, p1⟩ := cut_pair hok hq pl
  have hnew : oNew (S.crash (n + 2) pl) 0 = (E, T, 0) := by
    have hold := ho.old
    have e := new_of (l := dsec S.im 0) (r := dsec S.im (0 + 1)) hold ho.gd hEm
    obtain ⟨a, b⟩ := parts_of E T hT
    unfold oNew
    rw [p0, show 0 + 1 = 1 from rfl, p1]
    rw [a, b] at e
    exact e
  rw [hnew] at ht hx
  exact .inr (la.cut ho.once hok hn hE pl ht hx)
theorem Alive.fut (h : Alive S L n j ds low) (hj : j ≤ 100000) (none : Bool) : Fut S n ds low none := by
  obtain ⟨n1, n2⟩ := h.nb
  have hL := (h.i.at (i := 0) rfl).1
  have hb := hL.hb h.g
  have hth := hL.th
  exact laid_fut h.la h.ho (by omega) h.i.ok (by omega) h.e1 (by omega) (slots_ring h.sl h.f0) none

theorem Alive.ready (h : Alive S L n j ds low) (hf : S.fuse ≠ 0) : L.unready S = 0 := by
  have hd : L.dead S = false := by
    unfold LG.dead
    rw [Bool.or_eq_false_iff]
    exact ⟨by rw [beq_eq_false_iff_ne]; exact hf, by rw [h.life]; simp⟩
  unfold LG.unready
  rw [if_neg (by rw [hd]; decide), if_pos h.g]
theorem Alive.up (h : Alive S L n j ds low) : Alive S L n (j + 1) ds low :=
  ⟨h.i.upTo (by omega), h.f0, h.n', h.g, h.life, h.e1, by have := h.e2; omega, h.ho.up (by omega), h.sl, h.la, h.hd, h.nw⟩
theorem Alive.lay (h : Alive S L n j ds low) (x : Int) (ok : (S.lay x).Ok (n + 2)) : Alive (S.lay x) L n j ds low := by
  obtain ⟨l1, l2, l3, l4⟩ := lay_same S x
  have hn := now_of' l3 l1
  refine ⟨h.i.lay x ok, h.f0, h.n', h.g, h.life.trans l2.symm, h.e1, h.e2, h.ho.same l3 l1, ?_, ?_, h.hd, ?_⟩
  · have := h.sl
    unfold Slots at this ⊢
    rw [l1]
    exact this
  · exact ⟨h.la.sz, h.la.fit, h.la.lo, by rw [l3]; exact h.la.oi, by rw [l1]; exact h.la.op, by rw [l3, l1]; exact h.la.du⟩
  · intro m X hm hX
    rw [hn]
    exact h.nw m X hm hX
end
end Go.Proofs.YtllkjmbcjlbmbaaGreat
