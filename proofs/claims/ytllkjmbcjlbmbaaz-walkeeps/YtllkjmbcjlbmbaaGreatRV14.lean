import Derived.Test.YtllkjmbcjlbmbaaGreatRV13
namespace Go.Proofs.YtllkjmbcjlbmbaaGreat
open Go.RowKit

section
variable {S S' : DS} {n N E T Em low j s f : Nat} {ds : List (List Int)} {L : LG} {d : List Int} {none : Bool}

theorem lenOf_zero {ds : List (List Int)} (h : ∀ d ∈ ds, 1 ≤ d.length ∧ d.length ≤ 8364) (h0 : lenOf ds = 0) : ds = [] := by
  cases ds with
  | nil => rfl
  | cons d r =>
    obtain ⟨a, b⟩ := h d (List.mem_cons_self ..)
    have := (cnt_bounds a b).1
    have : cntOf d.length + lenOf r = 0 := h0
    omega
theorem Fut.lower (h : Fut S n ds low none) {low' : Nat} (hl : low' ≤ low) : Fut S n ds low' none := fun pl rs hd ht hx => (h pl rs hd ht hx).imp id (fun h => ⟨by omega, h.2⟩)
theorem Hold.flN (h : Hold S 0 n N E) (hok : S.Ok (n + 2)) (hn : 1 ≤ n) (hq : ∀ q ∈ S.puts, 2 ≤ q.1) (h0 : (S.fl (n + 2)).1 = 0) : Hold (S.fl (n + 2)).2 0 n N E := by
  have hnow : ∀ k, k < n + 2 → (S.fl (n + 2)).2.now k = S.now k := fun k hk => fl_now hok hk
  have hlen : ∀ k, k < n + 2 → ((S.fl (n + 2)).2.now k).length = 512 := fun k hk => by rw [hnow k hk]; exact now_len hok k hk
  have hp : ∀ k, k < 2 → pendOf S.puts k = [] := fun k hk => pend_none_in (fun q hm e => by have := hq q hm; omega)
  refine Hold.still (fl_zero h0) ?_ h.gd (h.ring (s := n + 2) (by omega) _ hlen (fun k hk => .inr (.inl (hnow k hk))))
  rw [hnow 0 (by omega), hnow (0 + 1) (by omega), now_none _ _ (hp 0 (by omega)), now_none _ _ (hp (0 + 1) (by omega))]
  exact h.old
theorem Laid.now (h : Laid S n E T ds low) (ho : Once S) {i : Nat} (hi : i < n) : Cl E T (pcsOf E T ds) (S.now (2 + i)) := by
  by_cases hp : pendOf S.puts (2 + i) = []
  · rw [now_none _ _ hp]; exact h.oi i hi
  · obtain ⟨l, body, e1, _, _, e4⟩ := ho.pend hp
    rw [e4]
    exact h.op _ (pend_in (by rw [e1]; exact List.mem_singleton.2 rfl)) (by show 2 ≤ 2 + i; omega)

/-- What Sync leaves. -/
theorem Alive.sync (h : Alive S L n j ds low) : (S.fuse = 0 ∧ L.sync S (n + 2) = (3, S)) ∨ (S.fuse ≠ 0 ∧ (L.sync S (n + 2)).1 = 0 ∧ Alive (L.sync S (n + 2)).2 L n j ds ds.length) := by
  obtain ⟨n1, n2⟩ := h.nb
  by_cases hf : S.fuse = 0
  · left
    refine ⟨hf, ?_⟩
    have hd : L.dead S = true := by unfold LG.dead; rw [hf]; rfl
    have hu : L.unready S = 3 := by unfold LG.unready; rw [if_pos hd]
    unfold LG.sync
    rw [hu, if_pos (by omega)]
  · right
    have hu := h.ready hf
    have e : L.sync S (n + 2) = S.fl (n + 2) := by unfold LG.sync; rw [if_neg (by omega)]
    have h0 : (S.fl (n + 2)).1 = 0 := Decidable.byContradiction (fun c => hf (fl_err c).2.1)
    have hi : Inv (L.sync S (n + 2)).2 (n + 2) [L] (3 + 2 * j) := h.i.sync (i := 0) rfl
    have hnow : ∀ k, k < n + 2 → (S.fl (n + 2)).2.now k = S.now k := fun k hk => fl_now h.i.ok hk
    have hp := fl_zero h0
    have hds : ∀ k, k < n + 2 → dsec (S.fl (n + 2)).2.im k = S.now k := fun k hk => by rw [← now_flat hp, hnow k hk]
    rw [e] at hi ⊢
    refine ⟨hf, h0, ⟨hi, h.f0, h.n', h.g, h.life.trans (fl_life S (n + 2)).symm, h.e1, h.e2, h.ho.flN h.i.ok (by omega) (slots_ring h.sl h.f0) h0, Slots.nil hp _ _, ⟨h.la.sz, h.la.fit, Nat.le_refl _, fun i hi => ?_, fun q hq => (by rw [hp] at hq; cases hq), fun m X hm hX => ?_⟩, h.hd, fun m X hm hX => ?_⟩⟩
    · rw [hds (2 + i) (by omega)]; exact h.la.now h.ho.once hi
    · rw [List.take_length] at hm
      have := Nat.mod_lt (L.tail + m) (show 0 < n by omega)
      rw [hds _ (by omega), hp]
      exact ⟨h.nw m X hm hX, rfl⟩
    · have := Nat.mod_lt (L.tail + m) (show 0 < n by omega)
      rw [hnow _ (by omega)]
      exact h.nw m X hm hX

theorem srenew_data {l r : List Int} (hl : l.length = 512) (hr : r.length = 512) {M : Nat} (h1 : 1 ≤ M) (hM : M < 9223372036854775808) (h : (snewest l r).2.1 < M) : sanchor (srenew l r (M : Int) []).2.1 = (M, []) := by
  have hb : ∀ t : Nat, t ≤ 2 → sanchor (sform (t : Int) (bytes8 M ++ [])) = (M, []) := fun t ht => sanchor_form (by omega) hM (by simp)
  unfold srenew
  rw [if_neg (by omega), if_neg (by omega), if_neg (by simp)]
  simp only
  rw [if_neg (by omega), Int.toNat_natCast]
  split
  · exact hb _ (turnOf_le _ _)
  · exact hb _ (turnOf_le _ _)
/-- No piece of the ring is of this epoch and not from before this place. -/
def Clear (S : DS) (n E T : Nat) : Prop := ∀ i, i < n → (pcOf (S.now (2 + i))).e = E → (pcOf (S.now (2 + i))).p < T
theorem clear_told {R : Nat → PC} (hR : (R T).e = E → (R T).p ≠ T) {rs : List (List Int)} {hd : Nat} (ht : Tells R E T rs hd) : rs = [] := by
  cases rs with
  | nil => rfl
  | cons d r =>
    obtain ⟨c, hr, _⟩ := ht
    have h0 := hr.2.2.1 0 hr.1
    exact absurd (by simpa using h0.2.1) (hR (by simpa using h0.1))

/-- An anchor is to be written where nothing pends, and it is cut: what was told, or nothing. -/
theorem anew_fut (hok : S.Ok (n + 2)) (hn : 1 ≤ n) (hp : S.puts = []) (hold : (snewest (S.now 0) (S.now (0 + 1))).2 = (N, [], 0)) (hg : Good Em N) (hE : Em < 1073741824) {M : Nat} (hM : N < M) (hgM : Good Em M) (hcl : Clear S n (M / 4294967296) (M % 4294967296)) (hfut : Fut S n ds low none) (herr : (anew S (n + 2) 0 (M : Int)).1 ≠ 0) : Fut (anew S (n + 2) 0 (M : Int)).2 n ds low true := by
  obtain ⟨g1, g2, g3⟩ := hgM
  have hl := now_len hok 0 (by omega)
  have hr := now_len hok (0 + 1) (by omega)
  have hnum : (snewest (S.now 0) (S.now (0 + 1))).2.1 = N := by rw [hold]
  have hM1 : 1 ≤ M := by omega
  have hM2 : M < 9223372036854775808 := by omega
  have hsl := srenew_slot (S.now 0) (S.now (0 + 1)) (M : Int) []
  have hsame : Fut S n ds low true := hfut.loose
  have hro := renew_ok hl hr (N := M) hM1 (by rw [hnum]; exact hM)
  unfold anew at herr ⊢
  by_cases h1 : S.fuse = 0
  · rw [if_pos h1]; exact hsame
  rw [if_neg h1] at herr ⊢
  rw [if_neg (fun c => c hro)] at herr ⊢
  have hform := srenew_form hro
  have hdata := srenew_data hl hr hM1 hM2 (by rw [hnum]; exact hM)
  have hwhole := renew_whole hl hr hM1 hM2 (by rw [hnum]; exact hM)
  have hwhere := srenew_where hl hr hM1 (by rw [hnum]; exact hM)
  generalize hY : srenew (S.now 0) (S.now (0 + 1)) (M : Int) [] = Y at *
  rw [show ((0 : Nat) : Int) + (Y.1 : Int) = ((0 + Y.1 : Nat) : Int) by omega] at herr ⊢
  have hw0 : (S.wr (n + 2) ((0 + Y.1 : Nat) : Int) 512 Y.2.1).1 = 0 := by rw [wr_in h1 (by omega)]
  rw [if_neg (fun c => c hw0)] at herr ⊢
  obtain ⟨w1, w2⟩ := wr_puts_eq (S := S) (s := n + 2) (k := 0 + Y.1) h1 (by omega) Y.2.1
  rw [(fl_err herr).1]
  have hfull : Y.2.1.length = 512 := by rw [← hY]; exact srenew_full _ _ _ _ (by rw [hY]; exact hro)
  have hokW : (S.wr (n + 2) ((0 + Y.1 : Nat) : Int) 512 Y.2.1).2.Ok (n + 2) := wr_ok hok h1 (by omega) hfull
  have honce : Once (S.wr (n + 2) ((0 + Y.1 : Nat) : Int) 512 Y.2.1).2 := by
    obtain ⟨body, hb, e⟩ := hform
    refine (Once.nil hp).wr hok (by omega) h1 (by rw [hp]; rfl) hb ?_
    rw [e]
    by_cases q : Y.1 = 0
    · rw [q, if_pos rfl]
    · have q1 : Y.1 = 1 := by omega
      rw [q1, if_neg (by omega)]
  rw [hp, List.nil_append] at w1
  have hnS : ∀ k, dsec S.im k = S.now k := fun k => (now_flat hp k).symm
  generalize (S.wr (n + 2) ((0 + Y.1 : Nat) : Int) 512 Y.2.1).2 = W at *
  intro pl rs hd ht hx
  -- the ring is as it was
  have hring : Rp (oRing (W.crash (n + 2) pl) 0) n = Rp (oRing S 0) n := by
    funext P
    have := Nat.mod_lt P hn
    show pcOf ((W.crash (n + 2) pl).now (0 + 2 + P % n)) = pcOf (S.now (0 + 2 + P % n))
    rw [cut_same hokW (by omega) (pend_none_in (fun q hm e => by rw [w1] at hm; rw [List.mem_singleton.1 hm] at e; simp only at e; omega)), w2, hnS]
  -- the pair is what it was, or new
  have hslot : Y.1 ≤ 1 := hsl
  have hother : (W.crash (n + 2) pl).now (1 - Y.1) = S.now (1 - Y.1) := by
    rw [cut_same hokW (by omega) (pend_none_in (fun q hm e => by rw [w1] at hm; rw [List.mem_singleton.1 hm] at e; simp only at e; omega)), w2, hnS]
  have hpn : pendOf W.puts (0 + Y.1) = [Y.2.1] := by rw [w1]; unfold pendOf; simp
  have hcr := honce.crash hokW (show 0 + Y.1 < n + 2 by omega) pl
  have hWn : W.now (0 + Y.1) = Y.2.1 := by unfold DS.now DS.cand; rw [hpn]; rfl
  have hlen : ((W.crash (n + 2) pl).now (0 + Y.1)).length = 512 := by
    rw [now_none _ _ rfl]
    show (dsec (imOf (n + 2) (cutOf W pl)) (0 + Y.1)).length = 512
    rw [sec_imOf (n + 2) (cutOf W pl) (fun j hj => cut_len hokW pl j hj) _ (by omega)]
    exact cut_len hokW pl _ (by omega)
  rw [hWn, w2, hnS] at hcr
  have hpair : ((W.crash (n + 2) pl).now 0, (W.crash (n + 2) pl).now (0 + 1)) = sput (S.now 0) (S.now (0 + 1)) Y.1 ((W.crash (n + 2) pl).now (0 + Y.1)) := by
    unfold sput
    rcases (show Y.1 = 0 ∨ Y.1 = 1 by omega) with z | z
    · rw [z] at hother ⊢
      rw [if_pos rfl]
      exact Prod.ext rfl hother
    · rw [z] at hother ⊢
      rw [if_neg (by omega)]
      exact Prod.ext hother rfl
  have ef : (W.crash (n + 2) pl).now 0 = (sput (S.now 0) (S.now (0 + 1)) Y.1 ((W.crash (n + 2) pl).now (0 + Y.1))).1 := congrArg Prod.fst hpair
  have eg : (W.crash (n + 2) pl).now (0 + 1) = (sput (S.now 0) (S.now (0 + 1)) Y.1 ((W.crash (n + 2) pl).now (0 + Y.1))).2 := congrArg Prod.snd hpair
  have hold2 : (snewest ((W.crash (n + 2) pl).now 0) ((W.crash (n + 2) pl).now (0 + 1))).2 = (N, [], 0) ∨ (snewest ((W.crash (n + 2) pl).now 0) ((W.crash (n + 2) pl).now (0 + 1))).2 = (M, [], 0) := by
    rw [ef, eg]
    rcases hcr with hc | hc | hc
    · left
      rw [hc]
      have : sput (S.now 0) (S.now (0 + 1)) Y.1 (S.now (0 + Y.1)) = (S.now 0, S.now (0 + 1)) := by
        unfold sput
        rcases (show Y.1 = 0 ∨ Y.1 = 1 by omega) with z | z
        · rw [z, if_pos rfl]
        · rw [z, if_neg (by omega)]
      rw [this]
      exact hold
    · right; rw [hc]; exact hwhole
    · left
      rw [pair_old hl hr hlen (sanchor_none hc) Y.1 hwhere]
      exact hold
  rcases hold2 with hN | hMM
  · have e1 : oNew (W.crash (n + 2) pl) 0 = oNew S 0 := by
      unfold oNew
      rw [new_of hN hg hE, new_of hold hg hE]
    rw [hring, e1] at ht hx
    obtain ⟨f1, f2⟩ := told_flat hok hn hp pl
    exact (hfut pl rs hd (by rw [f1, f2]; exact ht) (by rw [f1, f2]; exact hx)).imp (fun h => ⟨rfl, h.2⟩) id
  · left
    refine ⟨rfl, ?_⟩
    have e1 : oNew (W.crash (n + 2) pl) 0 = (M / 4294967296, M % 4294967296, 0) := by
      unfold oNew
      exact new_of hMM ⟨g1, g2, g3⟩ hE
    rw [hring, e1] at ht
    have ht' : Tells (Rp (oRing S 0) n) (M / 4294967296) (M % 4294967296) rs hd := ht
    refine clear_told (fun he hpp => ?_) ht'
    have hmod := Nat.mod_lt (M % 4294967296) hn
    have := hcl (M % 4294967296 % n) hmod
    have eR : Rp (oRing S 0) n (M % 4294967296) = pcOf (S.now (2 + M % 4294967296 % n)) := by
      show pcOf (S.now (0 + 2 + M % 4294967296 % n)) = _
      rw [Nat.zero_add]
    rw [eR] at he hpp
    have := this he
    omega
end
end Go.Proofs.YtllkjmbcjlbmbaaGreat
