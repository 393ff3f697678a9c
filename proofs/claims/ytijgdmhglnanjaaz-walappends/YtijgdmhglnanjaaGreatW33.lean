import Derived.Test.YtijgdmhglnanjaaGreatW32
section
namespace Go.Proofs.YtijgdmhglnanjaaGreat
open Go.RowKit

theorem fl_code (S : DS) (s : Nat) : (S.fl s).1 = 0 ∨ (S.fl s).1 = 3 := by
  unfold DS.fl
  split
  · exact .inr rfl
  · exact .inl rfl
theorem wr_code {S : DS} {s k : Nat} (hk : k < s) (l : List Int) : (S.wr s (k : Int) 512 l).1 = 0 ∨ (S.wr s (k : Int) 512 l).1 = 3 := by
  unfold DS.wr
  split
  · exact .inr rfl
  · rw [if_neg (by omega), if_neg (by omega)]; exact .inl rfl
theorem stepsTo_code {S : DS} {g : Nat → DS → Int × DS} : ∀ (n : Nat), (∀ k T, k < n → (g k T).1 = 0 ∨ (g k T).1 = 3) → (stepsTo S g n).1 = 0 ∨ (stepsTo S g n).1 = 3
  | 0, _ => .inl rfl
  | n + 1, h => by
    unfold stepsTo
    split
    · exact stepsTo_code n (fun k T hk => h k T (by omega))
    · exact h n _ (by omega)
theorem awipe_code {S : DS} {s f n : Nat} (h : f + 2 + n ≤ s) : (awipe S s f n).1 = 0 ∨ (awipe S s f n).1 = 3 := by
  unfold awipe
  split
  · exact stepsTo_code (n + 2) (fun k T hk => wr_code (by omega) _)
  · exact fl_code _ _
theorem anew_code {S : DS} {s f : Nat} {num : Int} (hf : f + 1 < s) (hok : (srenew (S.now f) (S.now (f + 1)) num []).2.2 = 0) : (anew S s f num).1 = 0 ∨ (anew S s f num).1 = 3 := by
  have hsl := srenew_slot (S.now f) (S.now (f + 1)) num []
  unfold anew
  split
  · exact .inr rfl
  · rw [if_neg (by omega)]
    generalize srenew (S.now f) (S.now (f + 1)) num [] = Y at *
    rw [show (f : Int) + (Y.1 : Int) = ((f + Y.1 : Nat) : Int) by omega]
    split
    · exact wr_code (by omega) _
    · exact fl_code _ _

section
variable {S : DS} {s t : Nat} {ls : List LG}

/-- What the law asks of a disk's life behind a call that may refuse its arguments. -/
def LivesOk (S S' : DS) (c : Int) : Prop := (S'.life = S.life ∧ (c = 11 ∨ c = 1 ∨ (c = 3 ∧ (S.fuse == 0) = true))) ∨ (S'.life ≠ S.life ∧ c ≠ 11 ∧ c ≠ 1 ∧ (c = 3 → (S.fuse == 0) = false))
theorem lives_refused {f n : Int} (h : lrefuse S s f n ≠ 0) : LivesOk S S (lrefuse S s f n) := by
  left
  refine ⟨rfl, ?_⟩
  unfold lrefuse at *
  by_cases h1 : S.fuse = 0
  · rw [if_pos h1]; exact .inr (.inr ⟨rfl, by rw [h1]; rfl⟩)
  · rw [if_neg h1] at h ⊢
    split
    · exact .inl rfl
    · split
      · exact .inr (.inl rfl)
      · split
        · exact .inl rfl
        · rename_i h2 h3 h4
          rw [if_neg h2, if_neg h3, if_neg h4] at h
          exact absurd rfl h
theorem lives_taken {S' : DS} {c : Int} (hf : S.fuse ≠ 0) (hl : S'.life = S.life + 1) (hc : c ≠ 11 ∧ c ≠ 1) : LivesOk S S' c :=
  .inr ⟨by omega, hc.1, hc.2, fun _ => by rw [beq_eq_false_iff_ne]; exact hf⟩
theorem lives_format (h : Inv S s ls t) (ht : t ≤ 1000000000000000000) (f n : Int) : LivesOk S (lformat S s f n).2 (lformat S s f n).1 := by
  unfold lformat
  split
  · rename_i h1; exact lives_refused h1
  · rename_i h1
    obtain ⟨hf, a, b, rfl, rfl, hab, hb1, hb2⟩ := lrefuse_zero (Decidable.of_not_not h1)
    simp only [Int.toNat_natCast]
    have hlife := wrap_life h.l0 h.lt ht
    have hok : S.take.Ok s := ⟨h.ok.len, h.ok.lo, h.ok.hi, h.ok.puts, h.ok.fuse⟩
    obtain ⟨k1, k2, k3, k4⟩ := awipe_keeps (f := a) (n := b) hok hab
    have hc1 := awipe_code (S := S.take) (s := s) (f := a) (n := b) hab
    split
    · exact lives_taken hf (k1.trans hlife) (by omega)
    · rename_i h0
      obtain ⟨q1, q2⟩ := k4 (Decidable.of_not_not h0)
      have hr := renew_ok (now_len k2 a (by omega)) (now_len k2 (a + 1) (by omega)) (N := 4294967296) (by omega) (by show DS.num _ a < _; rw [q1]; omega)
      have hc2 := anew_code (S := (awipe S.take s a b).2) (s := s) (f := a) (num := 4294967296) (by omega) hr
      exact lives_taken hf ((anew_life (awipe S.take s a b).2 s a 4294967296).trans (k1.trans hlife)) (by omega)
theorem lives_open (h : Inv S s ls t) (ht : t ≤ 1000000000000000000) (f n : Int) : LivesOk S (lopen S s f n).2 (lopen S s f n).1 := by
  unfold lopen
  split
  · rename_i h1; exact lives_refused h1
  · rename_i h1
    obtain ⟨hf, a, b, rfl, rfl, hab, hb1, hb2⟩ := lrefuse_zero (Decidable.of_not_not h1)
    simp only [Int.toNat_natCast]
    have hlife := wrap_life h.l0 h.lt ht
    split
    · rename_i h2
      have h3 : (oNew S a).2.2 = 6 := by
        unfold oNew lnewest at *
        split
        · rfl
        · rename_i h4; rw [if_neg h4] at h2; exact absurd rfl h2
      rw [h3]
      exact lives_taken hf hlife ⟨by show (_ : Int) ≠ 11; omega, by show (_ : Int) ≠ 1; omega⟩
    · split
      · exact lives_taken hf hlife ⟨by show (_ : Int) ≠ 11; omega, by show (_ : Int) ≠ 1; omega⟩
      · have := fl_code S.take s
        exact lives_taken hf ((fl_life _ _).trans hlife) (by omega)

theorem Tells.small {R : Nat → PC} {E : Nat} (hR : ∀ q, (R q).d.length ≤ 492) : ∀ {rs : List (List Int)} {P h : Nat}, Tells R E P rs h → ∀ d ∈ rs, d.length ≤ 8364
  | [], _, _, _, d, hd => by cases hd
  | x :: xs, P, h, ⟨k, hk, ht⟩, d, hd => by
    rcases List.mem_cons.1 hd with rfl | h1
    · have h2 : ∀ c, (dataTo R P c).length ≤ 492 * c := fun c => by
        induction c with
        | zero => simp [dataTo_zero]
        | succ c ih => rw [dataTo_succ, List.length_append]; have := hR (P + c); omega
      have := h2 k
      have := hk.2.1
      rw [hk.2.2.2]
      omega
    · exact Tells.small hR ht d h1
end


theorem spend_calm {S : DS} (h : S.fuse = -1) : S.spend.fuse = -1 := by
  unfold DS.spend
  simp only
  rw [if_neg (by omega)]
  exact h
theorem wr_calm {S : DS} (h : S.fuse = -1) (s : Nat) (x : Int) (n : Nat) (l : List Int) : (S.wr s x n l).2.fuse = -1 := by
  unfold DS.wr
  split
  · exact h
  · split
    · exact h
    · split
      · exact h
      · exact spend_calm h
theorem fl_calm {S : DS} (h : S.fuse = -1) (s : Nat) : (S.fl s).2.fuse = -1 := by
  unfold DS.fl
  split
  · exact h
  · exact spend_calm h
theorem stepsTo_calm {S : DS} (h : S.fuse = -1) {g : Nat → DS → Int × DS} (hg : ∀ k T, T.fuse = -1 → (g k T).2.fuse = -1) : ∀ n, (stepsTo S g n).2.fuse = -1
  | 0 => h
  | n + 1 => by
    unfold stepsTo
    split
    · exact stepsTo_calm h hg n
    · exact hg n _ (stepsTo_calm h hg n)
theorem awipe_calm {S : DS} (h : S.fuse = -1) (s f n : Nat) : (awipe S s f n).2.fuse = -1 := by
  have h1 : (wipeTo S s f (n + 2)).2.fuse = -1 := stepsTo_calm h (fun k T hT => wr_calm hT _ _ _ _) _
  unfold awipe
  split
  · exact h1
  · exact fl_calm h1 s
theorem anew_calm {S : DS} (h : S.fuse = -1) (s f : Nat) (num : Int) : (anew S s f num).2.fuse = -1 := by
  unfold anew
  split
  · exact h
  · split
    · exact h
    · split
      · exact wr_calm h _ _ _ _
      · exact fl_calm (wr_calm h _ _ _ _) _
theorem appTo_calm {L : LG} {S : DS} (h : S.fuse = -1) (s : Nat) (d : List Int) (k : Nat) : (appTo L S s d k).2.fuse = -1 :=
  stepsTo_calm h (fun k T hT => by
    unfold aput
    split
    · exact hT
    · exact wr_calm hT _ _ _ _) k

theorem renew_whole {l r : List Int} (hl : l.length = 512) (hr : r.length = 512) {N : Nat} (h1 : 1 ≤ N) (hN : N < 9223372036854775808) (h : (snewest l r).2.1 < N) :
    (snewest (sput l r (srenew l r (N : Int) []).1 (srenew l r (N : Int) []).2.1).1 (sput l r (srenew l r (N : Int) []).1 (srenew l r (N : Int) []).2.1).2).2 = (N, [], 0) := by
  have e : (srenew l r (N : Int) []) = if (snewest l r).2.2.2 = 0 ∧ (snewest l r).1 = 0 then (1, sform (turnOf (r.getD 0 0) (r.getD 511 0)) (bytes8 N ++ []), 0) else (0, sform (turnOf (l.getD 0 0) (l.getD 511 0)) (bytes8 N ++ []), 0) := by
    unfold srenew
    rw [if_neg (by omega), if_neg (by omega), if_neg (by simp)]
    simp only
    rw [if_neg (by omega), Int.toNat_natCast]
  rw [e]
  by_cases q : (snewest l r).2.2.2 = 0 ∧ (snewest l r).1 = 0
  · rw [if_pos q]
    have := pair_new (data := []) hl hr hN h1 (by simp) h (t := turnOf (r.getD 0 0) (r.getD 511 0)) (by have := turnOf_le (r.getD 0 0) (r.getD 511 0); omega) 1 (by rw [if_pos q])
    simp only
    rw [this]
  · rw [if_neg q]
    have := pair_new (data := []) hl hr hN h1 (by simp) h (t := turnOf (l.getD 0 0) (l.getD 511 0)) (by have := turnOf_le (l.getD 0 0) (l.getD 511 0); omega) 0 (by rw [if_neg q])
    simp only
    rw [this]
theorem anew_whole {S : DS} {s f N : Nat} (h : S.Ok s) (hf : f + 1 < s) (h1 : 1 ≤ N) (hN : N < 9223372036854775808) (hlt : S.num f < N) (h0 : (anew S s f (N : Int)).1 = 0) : (snewest ((anew S s f (N : Int)).2.now f) ((anew S s f (N : Int)).2.now (f + 1))).2 = (N, [], 0) ∧ ∀ j, j < s → j ≠ f → j ≠ f + 1 → (anew S s f (N : Int)).2.now j = S.now j := by
  have hl := now_len h f (by omega)
  have hr := now_len h (f + 1) hf
  have hok := renew_ok hl hr h1 hlt
  have hp := renew_whole hl hr h1 hN hlt
  have hsl := srenew_slot (S.now f) (S.now (f + 1)) (N : Int) []
  have hfu := srenew_full (S.now f) (S.now (f + 1)) (N : Int) [] hok
  unfold anew at *
  split at h0
  · simp at h0
  · rename_i hfz
    rw [if_neg hfz]
    rw [if_neg (by omega)] at h0 ⊢
    generalize srenew (S.now f) (S.now (f + 1)) (N : Int) [] = Y at *
    rw [show (f : Int) + (Y.1 : Int) = ((f + Y.1 : Nat) : Int) by omega] at h0 ⊢
    have hw0 : (S.wr s ((f + Y.1 : Nat) : Int) 512 Y.2.1).1 = 0 := by rw [wr_in hfz (by omega)]
    rw [if_neg (by omega)] at h0 ⊢
    have hwo := wr_ok h hfz (show f + Y.1 < s by omega) hfu
    refine ⟨?_, fun j hj e1 e2 => ?_⟩
    · rw [fl_now hwo (by omega), fl_now hwo hf, wr_now hfz (by omega), wr_now hfz (by omega)]
      unfold sput at hp
      by_cases q : Y.1 = 0
      · rw [q] at hp ⊢
        rw [if_pos (by omega), if_neg (by omega)]
        rw [if_pos rfl] at hp
        exact hp
      · have q1 : Y.1 = 1 := by omega
        rw [q1] at hp ⊢
        rw [if_neg (by omega), if_pos rfl]
        rw [if_neg (by omega)] at hp
        exact hp
    · rw [fl_now hwo hj, wr_now hfz (by omega), if_neg (by omega)]

theorem sopens_zero : (sopens (zs 512)).2 ≠ 0 ∨ (sopens (zs 512)).1.length < 12 := by
  have hb : sbody (zs 512) = [] := by
    unfold sbody
    rw [show slen (zs 512) = 0 from by unfold slen; rw [show (zs 512).getD 1 0 = 0 from rfl, show (zs 512).getD 2 0 = 0 from rfl]; rfl]
    exact List.take_zero
  unfold sopens
  rw [if_neg (by rw [zs_len]; omega)]
  unfold sopen
  rw [hb]
  split
  · left; show (30 : Nat) ≠ 0; omega
  · rename_i b h
    right
    split at h
    · cases h; show (0 : Nat) < 12; omega
    · cases h
theorem fresh_piece : (pcOf (zs 512)).d = [] ∧ (pcOf (zs 512)).e = 0 := by
  unfold pcOf
  rw [if_pos sopens_zero]
  exact ⟨rfl, rfl⟩
theorem rtop_zero {R : Nat → PC} : ∀ k, (∀ i, i < k → (R i).e = 0) → rtop R k = 0
  | 0, _ => rfl
  | k + 1, h => by
    show (if (R k).e ≤ 1073741824 then max (rtop R k) (R k).e else rtop R k) = 0
    rw [h k (by omega), rtop_zero k (fun i hi => h i (by omega))]
    rfl
theorem awipe_zs {S : DS} {s f n : Nat} (h : S.Ok s) (hs : f + 2 + n ≤ s) (h0 : (awipe S s f n).1 = 0) : ∀ j, j < n + 2 → (awipe S s f n).2.now (f + j) = zs 512 := fun j hj => by
  obtain ⟨h1, h2, h3, h4⟩ := wipeTo_keeps (f := f) h (n := n + 2) (by omega) (n + 2) (Nat.le_refl _)
  unfold awipe at *
  by_cases e : (wipeTo S s f (n + 2)).1 = 0
  · rw [if_neg (by omega), fl_now h2 (by omega)]
    exact h4 e j hj
  · rw [if_pos e] at h0
    exact absurd h0 e

section
variable {S : DS} {s t i : Nat} {ls : List LG} {L : LG}
theorem format_calm (h : Inv S s ls t) (_ht : t ≤ 1000000000000000000) (hf : S.fuse = -1) {a b : Nat} (hab : a + 2 + b ≤ s) (hb1 : 18 ≤ b) (hb2 : b ≤ 256) :
    (lformat S s a b).1 = 0 ∧ (lformat S s a b).2.fuse = -1 ∧ oNew (lformat S s a b).2 a = (1, 0, 0) ∧ ∀ j, j < b → (lformat S s a b).2.now (a + 2 + j) = zs 512 := by
  have hr0 : lrefuse S s (a : Int) (b : Int) = 0 := by
    unfold lrefuse
    rw [if_neg (by omega), if_neg (by omega), if_neg (by omega), if_neg (by omega)]
  unfold lformat
  rw [if_neg (by omega)]
  simp only [Int.toNat_natCast]
  have hok : S.take.Ok s := ⟨h.ok.len, h.ok.lo, h.ok.hi, h.ok.puts, h.ok.fuse⟩
  obtain ⟨k1, k2, k3, k4⟩ := awipe_keeps (f := a) (n := b) hok hab
  have hc1 : (awipe S.take s a b).2.fuse = -1 := awipe_calm (S := S.take) hf s a b
  have h0 : (awipe S.take s a b).1 = 0 := Decidable.byContradiction (fun e => by have := k3 e; omega)
  have hz := awipe_zs hok hab h0
  obtain ⟨q1, q2⟩ := k4 h0
  rw [if_neg (by omega)]
  have hr := renew_ok (now_len k2 a (by omega)) (now_len k2 (a + 1) (by omega)) (N := 4294967296) (by omega) (by show DS.num _ a < _; rw [q1]; omega)
  have hc2 : (anew (awipe S.take s a b).2 s a 4294967296).2.fuse = -1 := anew_calm hc1 s a _
  have h1 : (anew (awipe S.take s a b).2 s a 4294967296).1 = 0 := Decidable.byContradiction (fun e => by have h5 := (anew_err (num := 4294967296) (by omega) hr e).1; rw [hc2] at h5; omega)
  obtain ⟨w1, w2⟩ := anew_whole (s := s) (f := a) (N := 4294967296) k2 (by omega) (by omega) (by omega) (by rw [q1]; omega) h1
  refine ⟨h1, hc2, ?_, fun j hj => ?_⟩
  · unfold oNew lnewest
    generalize snewest ((anew (awipe S.take s a b).2 s a 4294967296).2.now a) ((anew (awipe S.take s a b).2 s a 4294967296).2.now (a + 1)) = X at *
    have w1 : X.2 = (4294967296, [], 0) := w1
    rw [w1]
    decide
  · have := w2 (a + 2 + j) (by omega) (by omega) (by omega)
    refine Eq.trans this ?_
    rw [show a + 2 + j = a + (2 + j) by omega]
    exact hz (2 + j) (by omega)
theorem open_calm {a b : Nat} (_hok : S.Ok s) (hf : S.fuse = -1) (hab : a + 2 + b ≤ s) (hb1 : 18 ≤ b) (hb2 : b ≤ 256) (hn : oNew S a = (1, 0, 0)) (hz : ∀ j, j < b → S.now (a + 2 + j) = zs 512) :
    (lopen S s a b).1 = 0 ∧ (lopen S s a b).2.fuse = -1 ∧ (lopen S s a b).2.life = wrap64 (S.life + 1) ∧ (∀ rs hd, Tells (Rp (oRing S a) b) (oNew S a).1 (oNew S a).2.1 rs hd → rs = [] ∧ hd = 0) ∧ oTop S a b = 1 := by
  have hr0 : lrefuse S s (a : Int) (b : Int) = 0 := by
    unfold lrefuse
    rw [if_neg (by omega), if_neg (by omega), if_neg (by omega), if_neg (by omega)]
  have hR : ∀ j, j < b → (oRing S a j).e = 0 ∧ (oRing S a j).d = [] := fun j hj => by
    unfold oRing
    rw [hz j hj]
    exact ⟨fresh_piece.2, fresh_piece.1⟩
  have ht : oTop S a b = 1 := by
    unfold oTop
    rw [rtop_zero b (fun i hi => (hR i hi).1), hn]
    rfl
  have e1 : lopen S s (a : Int) (b : Int) = S.take.fl s := by
    unfold lopen
    rw [if_neg (by omega), Int.toNat_natCast, Int.toNat_natCast, if_neg (by rw [hn]; decide), if_neg (by omega)]
  rw [e1]
  have hc : (S.take.fl s).2.fuse = -1 := fl_calm (S := S.take) hf s
  refine ⟨Decidable.byContradiction (fun e => by have := (fl_err e).2.1; have : S.take.fuse = -1 := hf; omega), hc, fl_life _ _, fun rs hd htl => ?_, ht⟩
  rw [hn] at htl
  cases rs with
  | nil => exact ⟨rfl, htl⟩
  | cons x xs =>
    obtain ⟨c, hc, _⟩ := htl
    have h1 := (hc.2.2.1 0 (by have := hc.1; omega)).2.2.2.2.1
    have h2 : Rp (oRing S a) b (0 + 0) = oRing S a 0 := by unfold Rp; rw [Nat.add_zero, Nat.zero_mod]
    rw [h2, (hR 0 (by omega)).2] at h1
    simp at h1
theorem start_calm (h : Inv S s ls t) (hi : ls[i]? = some L) (hf : S.fuse = -1) (ha : L.life = S.life) (hb : L.begun = false) :
    (L.start S s).1 = 0 ∧ (L.start S s).2.1.fuse = -1 ∧ (L.start S s).2.1.life = S.life ∧ (L.start S s).2.2 = { L with begun := true, ep := L.top + 1, tail := 0, head := 0 } := by
  have hd : L.dead S = false := by
    unfold LG.dead
    rw [Bool.or_eq_false_iff]
    exact ⟨by rw [beq_eq_false_iff_ne]; omega, by rw [ha]; simp⟩
  have hL := (h.at hi).1
  have hs := hL.s
  have hn := hL.n1
  have hfit := (h.al L (List.mem_of_getElem? hi) ha (by omega)).2 hb
  have eN : (((L.top + 1 : Nat) : Int) * 4294967296 + ((0 : Nat) : Int)) = (((L.top + 1) * 4294967296 : Nat) : Int) := by omega
  unfold LG.start
  rw [if_neg (by rw [hd]; decide), if_neg (by rw [hb]; decide), eN]
  have hr := renew_ok (now_len h.ok L.f (by omega)) (now_len h.ok (L.f + 1) (by omega)) (N := (L.top + 1) * 4294967296) (by omega) hfit.2
  have hc := anew_calm hf s L.f (((L.top + 1) * 4294967296 : Nat) : Int)
  have h0 : (anew S s L.f (((L.top + 1) * 4294967296 : Nat) : Int)).1 = 0 := Decidable.byContradiction (fun e => by have := (anew_err (by omega) hr e).1; omega)
  rw [if_neg (by omega)]
  exact ⟨rfl, hc, anew_life _ _ _ _, rfl⟩
theorem append_calm (h : Inv S s ls t) (hi : ls[i]? = some L) (hf : S.fuse = -1) (ha : L.life = S.life) (hb : L.begun = true) {d : List Int} (hd1 : d.length = 1) (hr : L.head + 1 ≤ L.tail + L.n) (hp : L.head + 1 ≤ 1073741824) :
    (L.append S s d).1 = 0 ∧ (L.append S s d).2.1.fuse = -1 ∧ (L.append S s d).2.1.life = S.life ∧ (L.append S s d).2.2 = { L with head := L.head + 1 } := by
  have hd : L.dead S = false := by
    unfold LG.dead
    rw [Bool.or_eq_false_iff]
    exact ⟨by rw [beq_eq_false_iff_ne]; omega, by rw [ha]; simp⟩
  have hL := (h.at hi).1
  have hs := hL.s
  have hn := hL.n1
  have hu : L.unready S = 0 := by
    unfold LG.unready
    rw [if_neg (by rw [hd]; decide), if_pos hb]
  have hc1 : cntOf 1 = 1 := by decide
  have hrf : L.refuses S d.length = 0 := by
    unfold LG.refuses
    rw [hd1, hc1, if_neg (by omega), if_neg (by omega), if_neg (by omega), if_neg (by omega), if_neg (by omega)]
  obtain ⟨k1, k2, k3, k4⟩ := appTo_keeps (L := L) (S := S) (s := s) (d := d) (by omega) hs (cntOf d.length)
  have hc := appTo_calm (L := L) hf s d (cntOf d.length)
  have h0 : (appTo L S s d (cntOf d.length)).1 = 0 := Decidable.byContradiction (fun e => by have := k3 e; omega)
  unfold LG.append
  rw [if_neg (by omega), if_neg (by omega)]
  refine ⟨rfl, hc, k1, ?_⟩
  show ({ L with head := L.head + cntOf d.length } : LG) = _
  rw [hd1, hc1]
end
end Go.Proofs.YtijgdmhglnanjaaGreat
end

section
namespace Go.Proofs.YtijgdmhglnanjaaGreat
open Go.RowKit

section
variable {w : World} {q p r s t : Nat} {lab : Nat → Nat} {S : DS} {v u : Value} {ps rs : List Nat} {ls : List LG} {kd A B : Int} {da pa : Option Addr} {dn dc pn pc : Nat}

theorem open_no_any {F : Nat → Prop} (h : DiskR w F p s S) (hby : S.Byt) (f n : Int) (hbig : S.puts.length ≤ 600) (hP : (lopen S s f n).1 ≠ 0) :
    Calls Tryz.prog 51 #[.pointer (some ⟨p, 0, none⟩), .int .i64 f, .int .i64 n] w fun e w' => e = .returned (.tuple #[.pointer none, .slice none 0 0, .int .i64 (lopen S s f n).1]) ∧ DiskR w' F p s (lopen S s f n).2 ∧ Keeps F w w' := by
  refine (Open_any h hby f n (by omega)).mono ?_
  rintro e w' ⟨h1, h2, h3⟩
  unfold Opened at h1
  rw [if_pos hP] at h1
  exact ⟨h1, h2, h3⟩
theorem open_yes_any {F : Nat → Prop} (h : DiskR w F p s S) (hby : S.Byt) (f n : Int) (hbig : S.puts.length ≤ 600) (hP : (lopen S s f n).1 = 0) :
    Calls Tryz.prog 51 #[.pointer (some ⟨p, 0, none⟩), .int .i64 f, .int .i64 n] w fun e w' => ∃ l v rs hd, e = .returned (.tuple #[.pointer (some ⟨l, 0, none⟩), v, .int .i64 0]) ∧ (w.heap.size ≤ l ∧ Told w' w.heap.size l p (LG.new S f.toNat n.toNat) S v rs hd) ∧ DiskR w' F p s (lopen S s f n).2 ∧ Keeps F w w' := by
  refine (Open_any h hby f n (by omega)).mono ?_
  rintro e w' ⟨h1, h2, h3⟩
  unfold Opened at h1
  rw [if_neg (fun c => c hP)] at h1
  obtain ⟨l, v, rs, hd, e1, e2, e3⟩ := h1
  exact ⟨l, v, rs, hd, e1, ⟨e2, e3⟩, h2, h3⟩
theorem ropen_no_any {F : Nat → Prop} (h : RefAt w F r s S) (hby : S.Byt) (f n : Int) (hbig : S.puts.length ≤ 600) (hP : (lopen S s f n).1 ≠ 0) :
    Calls Tryz.prog 52 #[.pointer (some ⟨r, 0, none⟩), .int .i64 f, .int .i64 n] w fun e w' => e = .returned (.tuple #[.pointer none, .slice none 0 0, .int .i64 (lopen S s f n).1]) ∧ RefAt w' F r s (lopen S s f n).2 ∧ Keeps F w w' := by
  refine (rOpen_any h hby f n (by omega)).mono ?_
  rintro e w' ⟨h1, h2, h3⟩
  unfold ROpened at h1
  rw [if_pos hP] at h1
  exact ⟨h1, h2, h3⟩
theorem ropen_yes_any {F : Nat → Prop} (h : RefAt w F r s S) (hby : S.Byt) (f n : Int) (hbig : S.puts.length ≤ 600) (hP : (lopen S s f n).1 = 0) :
    Calls Tryz.prog 52 #[.pointer (some ⟨r, 0, none⟩), .int .i64 f, .int .i64 n] w fun e w' => ∃ l v rs hd, e = .returned (.tuple #[.pointer (some ⟨l, 0, none⟩), v, .int .i64 0]) ∧ (w.heap.size ≤ l ∧ RTold w' w.heap.size l r (LG.new S f.toNat n.toNat) S v rs hd) ∧ RefAt w' F r s (lopen S s f n).2 ∧ Keeps F w w' := by
  refine (rOpen_any h hby f n (by omega)).mono ?_
  rintro e w' ⟨h1, h2, h3⟩
  unfold ROpened at h1
  rw [if_neg (fun c => c hP)] at h1
  obtain ⟨l, v, rs, hd, e1, e2, e3⟩ := h1
  exact ⟨l, v, rs, hd, e1, ⟨e2, e3⟩, h2, h3⟩

set_option maxRecDepth 20000 in
set_option maxHeartbeats 8000000 in
theorem opens_no (h : Wd w q lab p r s S S v u ps rs ls ls) (hi : Inv S s ls t) (ht : t ≤ 1000000000000000000) (hP : (lopen S s A B).1 ≠ 0) :
    Calls Tryz.prog 19 #[ptrL q, .agg (opD kd A B da dn dc pa pn pc)] w fun e w' => e = .returned (.bool true) ∧ StepOut w w' q lab p r s (ls.length + 1) (t + 1) := by
  have hb0 := below_box w (.cells (opD kd A B da dn dc pa pn pc) 37)
  have h0 := h.later hb0
  have hn0 : (w.alloc (.cells (opD kd A B da dn dc pa pn pc) 37)).heap[w.heap.size]? = some (.cells (opD kd A B da dn dc pa pn pc) 37 (0, 0)) := heap_alloc_new _ _
  have hlz := h.lz w.heap.size (Nat.le_refl _)
  have c0 := h0.c0
  have h1 := dlife h0.d
  have HLi := Hid.mk (lives_open hi ht A B)
  have HI := Hid.mk hi
  have HV := Hid.mk (hi.open_no ht A B hP)
  clear h hi
  go_enter Tryz.func19, Tryz.ntmps19
  go_wp2_with fail
  refine h1.mono ?_
  rintro e w1 ⟨rfl, hw1⟩
  have hw1' := hw1.symm
  clear hw1
  subst hw1'
  have c1 := h0.c1
  have h2 := rburnt_at h0.e
  clear h1
  go_wp2_with fail
  refine h2.mono ?_
  rintro e w1 ⟨rfl, hw1⟩
  have hw1' := hw1.symm
  clear hw1
  subst hw1'
  have HB0 := Hid.mk hb0
  have HN0 := Hid.mk hn0
  have HW0 := Hid.mk h0
  have kA := cell_of_block hn0 (j := 1) rfl
  have kB := cell_of_block hn0 (j := 2) rfl
  have hsz : w.heap.size < (w.alloc (.cells (opD kd A B da dn dc pa pn pc) 37)).heap.size := lt_there hn0
  have hz0 := hb0.size
  clear h2 hn0 hb0 h0
  generalize w.alloc (.cells (opD kd A B da dn dc pa pn pc) 37) = w0 at *
  obtain ⟨bf, hbf⟩ : ∃ bf, bf = (S.fuse == 0) := ⟨_, rfl⟩
  rw [← hbf]
  have HBf := Hid.mk hbf
  have hdr := below_drew (Below.refl w0.heap.size w0)
  have hWd := HW0.out.later hdr
  have h3 := open_no_any hWd.d HI.out.byt A B HI.out.p6 hP
  have HDr := Hid.mk hdr
  have HWd := Hid.mk hWd
  obtain ⟨P, hPP⟩ : ∃ P, P = lopen S s A B := ⟨_, rfl⟩
  rw [← hPP] at h3 hP HLi HV
  have hR : ∀ w', RefAt w' (ofL lab 2) r s S → Calls Tryz.prog 52 #[.pointer (some ⟨r, 0, none⟩), .int .i64 A, .int .i64 B] w' fun e w'' => e = .returned (.tuple #[.pointer none, .slice none 0 0, .int .i64 P.1]) ∧ RefAt w'' (ofL lab 2) r s P.2 ∧ Keeps (ofL lab 2) w' w'' := fun w' h => by
    have := ropen_no_any h HI.out.byt A B HI.out.p6 (hPP ▸ hP)
    rw [← hPP] at this
    exact this
  have HR := Hid.mk hR
  clear hPP hbf hdr hWd hR
  go_wp2_with fail
  go_region_held3 (fun w' => w'.cell? ⟨q, 0, none⟩ = some (ptrL p) ∧ w'.cell? ⟨w.heap.size, 1, none⟩ = some (.int .i64 A) ∧ w'.cell? ⟨w.heap.size, 2, none⟩ = some (.int .i64 B))
    (first | exact ⟨c0, kA, kB⟩ | exact ⟨c0', kA', kB'⟩)
    ((go_at_call 51; refine h3.mono ?_; rintro e w1 ⟨rfl, hd1, hk1⟩; have hW1 := HWd.out.disk0 hd1 hk1; have c0' := hW1.c0; have hn1 := (hk1.block w.heap.size hsz (by show ¬ lab w.heap.size = 1; omega)).trans ((HDr.out.block w.heap.size hsz).trans HN0.out); have kA' := cell_of_block hn1 (j := 1) rfl; have kB' := cell_of_block hn1 (j := 2) rfl))
  have c1' := hW1.c1
  have hz1 := hk1.size
  have HW1 := Hid.mk hW1
  have HN1 := Hid.mk hn1
  have HK1 := Hid.mk hk1
  have hdr1 := below_drew (Below.refl w1.heap.size w1)
  have hWd1 := hW1.later hdr1
  have h4 := HR.out _ hWd1.e
  have HWd1 := Hid.mk hWd1
  have HDr1 := Hid.mk hdr1
  have hsz1 : w.heap.size < w1.heap.size := lt_there hn1
  clear h3 hd1 hk1 hW1 hn1 c0 kA kB c0' hdr1 hWd1 c1
  go_wp2_with fail
  go_region_held3 (fun w' => w'.cell? ⟨q, 1, none⟩ = some (ptrL r) ∧ w'.cell? ⟨w.heap.size, 1, none⟩ = some (.int .i64 A) ∧ w'.cell? ⟨w.heap.size, 2, none⟩ = some (.int .i64 B))
    (first | exact ⟨c1', kA', kB'⟩ | exact ⟨c1'', kA'', kB''⟩)
    ((go_at_call 52; refine h4.mono ?_; rintro e w2 ⟨rfl, hd2, hk2⟩; have hW2 := HWd1.out.ref0 hd2 hk2; have c1'' := hW2.c1; have hn2 := (hk2.block w.heap.size hsz1 (by show ¬ lab w.heap.size = 2; omega)).trans ((HDr1.out.block w.heap.size hsz1).trans HN1.out); have kA'' := cell_of_block hn2 (j := 1) rfl; have kB'' := cell_of_block hn2 (j := 2) rfl))
  have h5 := alike_any (RecsAt.nil w2 0 (fun _ => False)) (RecsAt.nil w2 0 (fun _ => False)) (Nat.zero_le _) (fun i hi => by cases hi)
  have HW2 := Hid.mk hW2
  have HK2 : Hid (Kept w w2 lab lab) := (Kept.later lab HB0.out).trans ((Kept.later lab HDr.out).trans ((Kept.same HK1.out (labF (by omega))).trans ((Kept.later lab HDr1.out).trans (Kept.same hk2 (labF (by omega))))))
  clear h4 hd2 hk2 hW2 hn2 kA' kB' c1' c1'' kA'' kB''
  go_wp2_with fail
  refine h5.mono ?_
  rintro e w3 ⟨rfl, hb3⟩
  have hW3 := HW2.out.later hb3
  have h6 := lives_any hW3.d hW3.c0 P.1 S.life bf (by have := HLi.out; unfold LivesOk at this; rw [HBf.out]; exact this)
  have HF : Hid (StepOut w w3 q lab p r s (ls.length + 1) (t + 1)) := hW3.stepOut HV.out (Nat.le_succ _) (HK2.out.trans (Kept.later lab hb3))
  clear h5 hb3 hW3
  go_wp2_with fail
  refine h6.mono ?_
  rintro e w4 ⟨rfl, hw4⟩
  have hw4' := hw4.symm
  clear hw4 h6
  subst hw4'
  go_wp2
  go_ret
  exact ⟨rfl, HF.out⟩
end
end Go.Proofs.YtijgdmhglnanjaaGreat
end

section
namespace Go.Proofs.YtijgdmhglnanjaaGreat
open Go.RowKit

/-- Records in new memory, beside what is owned. -/
theorem RecsAt.aside {w w' : World} {B : Nat} {v : Value} {rs : List (List Int)} {F : Nat → Prop} (h : RecsAt w B v rs (fun _ => False)) (hk : Keeps F w w') (hF : ∀ k, F k → k < B) : RecsAt w' B v rs (fun _ => False) := by
  obtain ⟨vs, h1, h2⟩ := h
  refine ⟨vs, owns_agree h1 (fun g hg => hk.block g (owns_lt h1 hg) (fun hf => by have := own_lo h1 hg; have := hF _ hf; omega)), fun i hi => ?_⟩
  obtain ⟨g, c, e, hr, hb, hx⟩ := h2 i hi
  exact ⟨g, c, e, hr.agree (hk.block g hr.lt (fun hf => by have := hF _ hf; omega)), hb, hx⟩

section
variable {w : World} {q p r s t : Nat} {lab : Nat → Nat} {S : DS} {v u : Value} {ps rs : List Nat} {ls : List LG} {kd A B : Int} {da pa : Option Addr} {dn dc pn pc : Nat}

/-- What is told of the records. -/
theorem told_small {a b : Nat} (hby : S.Byt) (hb1 : 1 ≤ b) (hb2 : b ≤ 256) {E T hd : Nat} {rr : List (List Int)} (ht : Tells (Rp (oRing S a) b) E T rr hd) : rr.length ≤ 1000000 ∧ (∀ i (hi : i < rr.length), (rr[i]).length ≤ 1000000) ∧ T ≤ hd ∧ hd ≤ T + b := by
  have h1 := Tells.round hb1 (Rp_round (oRing S a) b) ht
  have h2 := Tells.length ht
  have h3 := Tells.le ht
  refine ⟨by omega, fun i hi => ?_, h3, h1⟩
  have := Tells.small (fun q => (pcOf_small (hby.now (a + 2 + q % b))).2.2.2.2.1) ht rr[i] (List.getElem_mem hi)
  omega

set_option maxRecDepth 20000 in
set_option maxHeartbeats 8000000 in
theorem opens_yes (h : Wd w q lab p r s S S v u ps rs ls ls) (hi : Inv S s ls t) (ht : t ≤ 1000000000000000000) (hP : (lopen S s A B).1 = 0) (hlen : (ls.length + 1) * 8 ≤ 140737488355328) :
    Calls Tryz.prog 19 #[ptrL q, .agg (opD kd A B da dn dc pa pn pc)] w fun e w' => e = .returned (.bool true) ∧ StepOut w w' q lab p r s (ls.length + 1) (t + 1) := by
  have hb0 := below_box w (.cells (opD kd A B da dn dc pa pn pc) 37)
  have h0 := h.later hb0
  have hn0 : (w.alloc (.cells (opD kd A B da dn dc pa pn pc) 37)).heap[w.heap.size]? = some (.cells (opD kd A B da dn dc pa pn pc) 37 (0, 0)) := heap_alloc_new _ _
  have hlz := h.lz w.heap.size (Nat.le_refl _)
  have c0 := h0.c0
  have h1 := dlife h0.d
  have HLi := Hid.mk (lives_open hi ht A B)
  have HI := Hid.mk hi
  have HT := Hid.mk ht
  have HP0 := Hid.mk hP
  clear h hi
  go_enter Tryz.func19, Tryz.ntmps19
  go_wp2_with fail
  refine h1.mono ?_
  rintro e w1 ⟨rfl, hw1⟩
  have hw1' := hw1.symm
  clear hw1
  subst hw1'
  have c1 := h0.c1
  have h2 := rburnt_at h0.e
  clear h1
  go_wp2_with fail
  refine h2.mono ?_
  rintro e w1 ⟨rfl, hw1⟩
  have hw1' := hw1.symm
  clear hw1
  subst hw1'
  have HB0 := Hid.mk hb0
  have HN0 := Hid.mk hn0
  have HW0 := Hid.mk h0
  have kA := cell_of_block hn0 (j := 1) rfl
  have kB := cell_of_block hn0 (j := 2) rfl
  have hsz : w.heap.size < (w.alloc (.cells (opD kd A B da dn dc pa pn pc) 37)).heap.size := lt_there hn0
  have hz0 := hb0.size
  clear h2 hn0 hb0 h0
  generalize w.alloc (.cells (opD kd A B da dn dc pa pn pc) 37) = w0 at *
  obtain ⟨bf, hbf⟩ : ∃ bf, bf = (S.fuse == 0) := ⟨_, rfl⟩
  rw [← hbf]
  have HBf := Hid.mk hbf
  have hdr := below_drew (Below.refl w0.heap.size w0)
  have hWd := HW0.out.later hdr
  have h3 := open_yes_any hWd.d HI.out.byt A B HI.out.p6 HP0.out
  have HDr := Hid.mk hdr
  have HWd := Hid.mk hWd
  have hR : ∀ w', RefAt w' (ofL lab 2) r s S → Calls Tryz.prog 52 #[.pointer (some ⟨r, 0, none⟩), .int .i64 A, .int .i64 B] w' fun e w'' => ∃ l v rs hd, e = .returned (.tuple #[.pointer (some ⟨l, 0, none⟩), v, .int .i64 0]) ∧ (w'.heap.size ≤ l ∧ RTold w'' w'.heap.size l r (LG.new S A.toNat B.toNat) S v rs hd) ∧ RefAt w'' (ofL lab 2) r s (lopen S s A B).2 ∧ Keeps (ofL lab 2) w' w'' := fun w' h => ropen_yes_any h HI.out.byt A B HI.out.p6 HP0.out
  have HR := Hid.mk hR
  have hlr : lrefuse S s A B = 0 := by
    apply Decidable.byContradiction
    intro e
    have := HP0.out
    rw [lopen_refused e] at this
    exact e this
  have hab := lrefuse_zero hlr
  have HAb : Hid (18 ≤ B.toNat ∧ B.toNat ≤ 256) := by
    obtain ⟨_, a, b, ha, hb, h1, h2, h3⟩ := hab
    rw [hb, Int.toNat_natCast]
    exact ⟨h2, h3⟩
  have hdl : w0.drew.heap.size = w0.heap.size := rfl
  clear hP hbf hdr hWd hR hlr hab
  go_wp2_with fail
  go_region_held3 (fun w' => w'.cell? ⟨q, 0, none⟩ = some (ptrL p) ∧ w'.cell? ⟨w.heap.size, 1, none⟩ = some (.int .i64 A) ∧ w'.cell? ⟨w.heap.size, 2, none⟩ = some (.int .i64 B))
    (first | exact ⟨c0, kA, kB⟩ | exact ⟨c0', kA', kB'⟩)
    ((go_at_call 51; refine h3.mono ?_; rintro e w1 ⟨l, v1, rr1, hd1, rfl, ⟨hll, htold⟩, hdd1, hk1⟩; have hW1 := HWd.out.disk0 hdd1 hk1; have c0' := hW1.c0; have hn1 := (hk1.block w.heap.size hsz (by show ¬ lab w.heap.size = 1; omega)).trans ((HDr.out.block w.heap.size hsz).trans HN0.out); have kA' := cell_of_block hn1 (j := 1) rfl; have kB' := cell_of_block hn1 (j := 2) rfl))
  have c1' := hW1.c1
  have hz1 := hk1.size
  have HW1 := Hid.mk hW1
  have HN1 := Hid.mk hn1
  have HK1 := Hid.mk hk1
  have HTo1 := Hid.mk htold
  have hdr1 := below_drew (Below.refl w1.heap.size w1)
  have hWd1 := hW1.later hdr1
  have h4 := HR.out _ hWd1.e
  have HWd1 := Hid.mk hWd1
  have HDr1 := Hid.mk hdr1
  have hsz1 : w.heap.size < w1.heap.size := lt_there hn1
  clear h3 hdd1 hk1 hW1 hn1 c0 kA kB c0' hdr1 hWd1 c1 htold
  go_wp2_with fail
  go_region_held3 (fun w' => w'.cell? ⟨q, 1, none⟩ = some (ptrL r) ∧ w'.cell? ⟨w.heap.size, 1, none⟩ = some (.int .i64 A) ∧ w'.cell? ⟨w.heap.size, 2, none⟩ = some (.int .i64 B))
    (first | exact ⟨c1', kA', kB'⟩ | exact ⟨c1'', kA'', kB''⟩)
    ((go_at_call 52; refine h4.mono ?_; rintro e w2 ⟨k, v2, rr2, hd2, rfl, ⟨hkl, hrtold⟩, hdd2, hk2⟩; have hW2 := HWd1.out.ref0 hdd2 hk2; have c1'' := hW2.c1; have hn2 := (hk2.block w.heap.size hsz1 (by show ¬ lab w.heap.size = 2; omega)).trans ((HDr1.out.block w.heap.size hsz1).trans HN1.out); have kA'' := cell_of_block hn2 (j := 1) rfl; have kB'' := cell_of_block hn2 (j := 2) rfl))
  have hz2 := hk2.size
  have hF2 : ∀ k, ofL lab 2 k → k < w0.heap.size := HW0.out.e.lt
  have hto1 := (HTo1.out.keep (Keeps.of_below (fun _ => False) HDr1.out) (fun _ h => h.elim) (fun h => h)).keep hk2 hF2 (fun hf => by have := hF2 _ hf; have : w0.heap.size ≤ l := hll; omega)
  obtain ⟨er, eh⟩ := Tells.unique hto1.t hto1.x hrtold.t hrtold.x
  subst er
  subst eh
  obtain ⟨hs1, hs2, hs3, hs4⟩ := told_small HI.out.byt (by have := HAb.out; omega) HAb.out.2 hto1.t
  have h5 := alike_any hto1.r hrtold.rc hs1 hs2
  have HW2 := Hid.mk hW2
  have HTo2 := Hid.mk hto1
  have HRt2 := Hid.mk hrtold
  have HK2 : Hid (Kept w w2 lab lab) := (Kept.later lab HB0.out).trans ((Kept.later lab HDr.out).trans ((Kept.same HK1.out (labF (by omega))).trans ((Kept.later lab HDr1.out).trans (Kept.same hk2 (labF (by omega))))))
  have HV := Hid.mk (HI.out.opened HT.out A B hW2.d.ok HP0.out hs3 hs4)
  clear h4 hdd2 hk2 hW2 hn2 kA' kB' c1' c1'' kA'' kB'' hto1 hrtold hF2
  go_wp2_with fail
  refine h5.mono ?_
  rintro e w3 ⟨rfl, hb3⟩
  have hW3 := HW2.out.later hb3
  have h6 := lives_any hW3.d hW3.c0 0 S.life bf (by have := HLi.out; unfold LivesOk at this; rw [HP0.out] at this; rw [HBf.out]; exact this)
  have hlp3 := HTo2.out.p.later hb3
  have hlr3 := HRt2.out.p.later hb3
  have hll' : w0.heap.size ≤ l := hll
  have hkl' : w1.heap.size ≤ k := hkl
  have hz3 := hb3.size
  have hz01 : w0.heap.size ≤ w1.heap.size := hz1
  have hz12 : w1.heap.size ≤ w2.heap.size := hz2
  have hl0 : lab l = 0 := HW0.out.lz l hll'
  have hk0 : lab k = 0 := HW1.out.lz k hkl'
  have hlk : k ≠ l := fun e => by
    have h1 := HTo1.out.p.lt
    omega
  have hlog : LogP w3 l p (LG.opened S A.toNat B.toNat hd1) := hlp3
  have hrlog : LogR w3 k r (LG.opened S A.toNat B.toNat hd1) := hlr3
  obtain ⟨g4, cap4, w4, lab4, hrun, hq4, hW4, hkp4, hold4⟩ := hW3.push hlog hl0 hlen
  have hc2 := hW3.c2
  have q4 := cell_of_block hq4 (j := 2) rfl
  have f4 := frozen_of_block hq4 2
  have hrl4 : LogR (w4.setCell ⟨q, 2, none⟩ (.slice (some ⟨g4, 0, none⟩) (ls.length + 1) cap4)) k r (LG.opened S A.toNat B.toNat hd1) := hrlog.keep hkp4 (fun h => h hk0)
  obtain ⟨g5, cap5, w5, lab5, hrun5, hq5, hW5, hkp5, hold5⟩ := hW4.rpush hrl4 ((hold4 k hrlog.lt hlk).trans hk0) hlen
  have hc3 := hW4.c3
  have q5 := cell_of_block hq5 (j := 3) rfl
  have f5 := frozen_of_block hq5 3
  have HRun4 := Hid.mk hrun
  have hsz4 : (w4.setCell ⟨q, 2, none⟩ (.slice (some ⟨g4, 0, none⟩) (ls.length + 1) cap4)).heap.size = w4.heap.size := by simp
  rw [hsz4] at hrun5
  have HRun5 := Hid.mk hrun5
  have hz4 := hkp4.size
  have HF : Hid (StepOut w (w5.setCell ⟨q, 3, none⟩ (.slice (some ⟨g5, 0, none⟩) (ls.length + 1) cap5)) q lab p r s (ls.length + 1) (t + 1)) := by
    refine hW5.stepOut HV.out (by simp) ⟨?_, fun j hj => ?_⟩
    · have k3 := HK2.out.k.trans (Keeps.of_below (fun k => lab k ≠ 0) hb3) (fun _ h => .inl h)
      have k4 := k3.trans hkp4 (fun _ h => .inl h)
      refine k4.trans hkp5 (fun j hj => ?_)
      by_cases e : j < w.heap.size
      · left
        intro e0
        exact hj ((hold4 j (by omega) (by omega)).trans e0)
      · exact .inr (by omega)
    · exact (hold5 j (by omega) (by omega)).trans (hold4 j (by omega) (by omega))
  clear h5 hb3 hW3 hlp3 hlr3 hlog hrlog hrun hrun5 hq4 hq5 hW4 hW5 hkp4 hkp5 hold4 hold5 hrl4
  go_wp2_with fail
  refine h6.mono ?_
  rintro e w6 ⟨rfl, hw6⟩
  have hw6' := hw6.symm
  clear hw6 h6
  subst hw6'
  go_wp2_with (at_builtin; first | refine wpList_append_run rfl _ _ 29 rfl v (.slice (some ⟨w3.heap.size, 0, none⟩) 1 1) _ rfl rfl HRun4.out ?_ | refine wpList_append_run rfl _ _ 30 rfl u (.slice (some ⟨w4.heap.size, 0, none⟩) 1 1) _ rfl rfl HRun5.out ?_)
  go_wp2
  go_ret
  exact ⟨rfl, HF.out⟩
end
end Go.Proofs.YtijgdmhglnanjaaGreat
end

section
namespace Go.Proofs.YtijgdmhglnanjaaGreat
open Go.RowKit

set_option maxRecDepth 20000 in
set_option maxHeartbeats 8000000 in
theorem looks_any {w : World} {F G : Nat → Prop} {p r s q : Nat} {S : DS} {v u : Value} (h : DiskR w F p s S) (he : RefAt w G r s S) (hFG : ∀ k, F k → ¬ G k) (hb : w.heap[q]? = some (.cells (wdC p r v u) 32 (0, 0))) (hFq : ¬ F q) (hbig : S.puts.length + 1 ≤ 4000000000000) :
    Calls Tryz.prog 11 #[.pointer (some ⟨q, 0, none⟩)] w fun e w' => e = .returned (.bool true) ∧ DiskR w' F p s S ∧ Keeps F w w' := by
  have HLt := Hid.mk h.lt
  have HD := Hid.mk h
  have HE := Hid.mk he
  have HBq := Hid.mk hb
  have hss := h.ok.hi
  have hqlt := lt_there hb
  have HOk := Hid.mk h.ok
  have h1 := dimage h
  have c0 : w.cell? ⟨q, 0, none⟩ = some (ptrL p) := cell_of_block hb (j := 0) rfl
  obtain ⟨bf, hbf⟩ : ∃ bf, bf = (S.fuse == 0) := ⟨_, rfl⟩
  have HB1f : Hid (∀ w', DiskR w' F p s S → Calls Tryz.prog 31 #[.pointer (some ⟨p, 0, none⟩)] w' fun e w'' => e = .returned (.bool bf) ∧ w'' = w') := fun w' h => by rw [hbf]; exact dburnt h
  have HB2f : Hid (∀ w', RefAt w' G r s S → Calls Tryz.prog 15 #[.pointer (some ⟨r, 0, none⟩)] w' fun e w'' => e = .returned (.bool bf) ∧ w'' = w') := fun w' h => by rw [hbf]; exact rburnt_at h
  clear h he hb hbf
  go_enter Tryz.func11, Tryz.ntmps11
  go_wp2_with fail
  refine h1.mono ?_
  rintro e w1 ⟨g1, cc1, rfl, hg1, hr1, hb1⟩
  have hbq1 := (hb1.block q hqlt).trans HBq.out
  have c0' : w1.cell? ⟨q, 0, none⟩ = some (ptrL p) := cell_of_block hbq1 (j := 0) rfl
  have c1' : w1.cell? ⟨q, 1, none⟩ = some (ptrL r) := cell_of_block hbq1 (j := 1) rfl
  have hs1 := hr1.src
  rw [HOk.out.len] at hs1
  have HS1 := Hid.mk hs1
  have HB1 := Hid.mk hb1
  have HB1d := Hid.mk (below_drew hb1)
  have h2 := rimage_any (HE.out.later HB1d.out)
  have hz1 := hb1.size
  clear h1 hr1 hs1 hb1 hbq1 c0
  go_wp2_with fail
  go_region_held3 (fun w' => w'.cell? ⟨q, 0, none⟩ = some (ptrL p) ∧ w'.cell? ⟨q, 1, none⟩ = some (ptrL r))
    (first | exact ⟨c0', c1'⟩ | exact ⟨c0d, c1d⟩ | exact ⟨c0e, c1e⟩)
    (first
      | (go_at_call 30; refine h2.mono ?_; rintro e w2 ⟨g2, cc2, rfl, hg2, hr2, hb2⟩; have hs2 := hr2.src; rw [HOk.out.len] at hs2; have c0d := cell_later hb2 c0'; have c1d := cell_later hb2 c1')
      | (go_at_call 29; refine (same_any (some ⟨g1, 0, none⟩) (some ⟨g2, 0, none⟩) (s * 512) cc1 cc2 S.im w2 (by omega) (HS1.out.later ((below_drew (Below.refl w1.heap.size w1)).trans hb2)) hs2).mono ?_; rintro e w3 ⟨rfl, hb3⟩; have c0e := cell_later hb3 c0d; have c1e := cell_later hb3 c1d; have HB3 := Hid.mk (HB1d.out.trans ((hb2.mono hz1).trans (hb3.mono (Nat.le_trans hz1 hb2.size)))))
      | (go_at_call 31; refine (HB1f.out _ (HD.out.later HB3.out)).mono ?_; rintro e w4 ⟨rfl, hw4⟩; have hw4' := hw4.symm; clear hw4; subst hw4')
      | (go_at_call 15; refine (HB2f.out _ (HE.out.later HB3.out)).mono ?_; rintro e w5 ⟨rfl, hw5⟩; have hw5' := hw5.symm; clear hw5; subst hw5'))
  have HC0 := Hid.mk c0e
  have HC1 := Hid.mk c1e
  have hz3 := HB3.out.size
  have hk1 := dcounts (HD.out.later HB3.out) (by omega)
  clear h2 hs2 hr2 hb2 hb3 c0' c1' c0d c1d c1e
  go_wp2_with fail
  refine hk1.mono ?_
  rintro e w4 ⟨rr, rfl, hb4⟩
  have hz4 := hb4.size
  have HB4 : Hid (Below w.heap.size w w4) := HB3.out.trans (hb4.mono hz3)
  have hb5 := below_box w4 (.cells (cnCells rr S.writes S.flushes S.refused S.puts.length) 55)
  have hB5 : Below w.heap.size w (w4.alloc (.cells (cnCells rr S.writes S.flushes S.refused S.puts.length) 55)) := HB4.out.trans (hb5.mono (by omega))
  have c14 := cell_later hb5 (cell_later hb4 HC1.out)
  have hn5 : (w4.alloc (.cells (cnCells rr S.writes S.flushes S.refused S.puts.length) 55)).heap[w4.heap.size]? = some (.cells (cnCells rr S.writes S.flushes S.refused S.puts.length) 55 (0, 0)) := heap_alloc_new _ _
  have hk2 := rcounts_at (HE.out.later hB5)
  have hz5 := hb5.size
  have HB5 := Hid.mk hB5
  have HN5 := Hid.mk hn5
  clear hk1 hb4 c0e hb5 hB5 hn5
  go_wp2_with fail
  refine hk2.mono ?_
  rintro e w6 ⟨rfl, hb6⟩
  have hz6 := hb6.size
  have hb7 := below_box w6 (.cells (cnCells S.reads S.writes S.flushes S.refused S.puts.length) 55)
  have hn6 := (hb7.block w4.heap.size (Nat.lt_of_lt_of_le (lt_there HN5.out) hz6)).trans ((hb6.block w4.heap.size (lt_there HN5.out)).trans HN5.out)
  have hn7 : (w6.alloc (.cells (cnCells S.reads S.writes S.flushes S.refused S.puts.length) 55)).heap[w6.heap.size]? = some (.cells (cnCells S.reads S.writes S.flushes S.refused S.puts.length) 55 (0, 0)) := heap_alloc_new _ _
  have a1 := cell_of_block hn6 (j := 1) rfl
  have a2 := cell_of_block hn6 (j := 2) rfl
  have a3 := cell_of_block hn6 (j := 3) rfl
  have a4 := cell_of_block hn6 (j := 4) rfl
  have b1 := cell_of_block hn7 (j := 1) rfl
  have b2 := cell_of_block hn7 (j := 2) rfl
  have b3 := cell_of_block hn7 (j := 3) rfl
  have b4 := cell_of_block hn7 (j := 4) rfl
  have hz45 : w.heap.size ≤ w4.heap.size := Nat.le_trans hz3 hz4
  have HB7 : Hid (Below w.heap.size w (w6.alloc (.cells (cnCells S.reads S.writes S.flushes S.refused S.puts.length) 55))) := HB5.out.trans ((hb6.mono (Nat.le_trans hz45 hz5)).trans (hb7.mono (Nat.le_trans hz45 (Nat.le_trans hz5 hz6))))
  clear hk2 hb6 hb7 hn6 hn7 c14 HB4 HB3 HB1 HB1d HS1 HC0 HC1
  go_wp2
  generalize w6.alloc (.cells (cnCells S.reads S.writes S.flushes S.refused S.puts.length) 55) = w7 at *
  clear a1 a2 a3 a4 b1 b2 b3 b4
  have hz7 := HB7.out.size
  have HD7 := Hid.mk (HD.out.later HB7.out)
  have HE7 := Hid.mk (HE.out.later HB7.out)
  have HQ7 := Hid.mk ((HB7.out.block q hqlt).trans HBq.out)
  go_loopw [6] (fun i wr => ∃ j : Nat, j ≤ s ∧ i = .int .i64 (j : Int) ∧ DiskR wr F p s S ∧ Keeps F w7 wr) (fun i _ => s - (intOf i).toNat)
  case atStart => exact ⟨0, Nat.zero_le _, rfl, HD7.out, Keeps.refl _ _⟩
  case round =>
    obtain ⟨j, hj, rfl, hd, hk⟩ := hrel
    have HDr := Hid.mk hd
    have HKr := Hid.mk hk
    have hqr := (hk.block q (by omega) hFq).trans HQ7.out
    have c0 : wr.cell? ⟨q, 0, none⟩ = some (ptrL p) := cell_of_block hqr (j := 0) rfl
    have c1 : wr.cell? ⟨q, 1, none⟩ = some (ptrL r) := cell_of_block hqr (j := 1) rfl
    have her := HE7.out.keep hk (fun k hg hf => hFG k hf hg)
    have hs1 := rsectors_at her
    have hs2 := rburnt_at her
    have hzr := hk.size
    have HEr := Hid.mk her
    have HQr := Hid.mk hqr
    clear hd hk hqr her
    by_cases hlt : j < s
    · have hlt' : (j : Int) < (s : Int) := by omega
      go_wp2_with fail
      refine hs1.mono ?_
      rintro e w8 ⟨rfl, hw8⟩
      have hw8' := hw8.symm
      clear hw8
      subst hw8'
      go_wp2_with fail
      refine hs2.mono ?_
      rintro e w8 ⟨rfl, hw8⟩
      have hw8' := hw8.symm
      clear hw8 hs1 hs2
      subst hw8'
      by_cases hf : S.fuse = 0
      · have d : (S.fuse == 0) = true := by rw [hf]; rfl
        have HF : Hid (DiskR wr F p s S ∧ Keeps F w wr) := ⟨HDr.out, (Keeps.of_below F HB7.out).trans HKr.out (fun _ h => .inl h)⟩
        go_wp2
        go_ret
        exact ⟨rfl, HF.out⟩
      · have d : (S.fuse == 0) = false := by rw [beq_eq_false_iff_ne]; exact hf
        have h9 := dread_ok HDr.out j hlt hbig hf
        go_wp2_with fail
        refine h9.mono ?_
        rintro e w9 ⟨v9, rfl, ho9, hd9, hk9⟩
        obtain ⟨a9, c9, rfl, hs9, _⟩ := ho9
        have hlen9 := now_len HOk.out j hlt
        rw [hlen9] at hs9 ⊢
        have he9 := HEr.out.keep hk9 (fun k hg hf => hFG k hf hg)
        have hq9 := (hk9.block q (by omega) hFq).trans HQr.out
        have c1' : w9.cell? ⟨q, 1, none⟩ = some (ptrL r) := cell_of_block hq9 (j := 1) rfl
        have h10 := rnow_at he9 j hlt (by omega)
        have HD9 := Hid.mk hd9
        have HK9 : Hid (Keeps F w7 w9) := HKr.out.trans hk9 (fun _ h => .inl h)
        have hz9 := hk9.size
        clear h9 hd9 hk9 he9 hq9 c0 c1
        go_wp2_with fail
        refine h10.mono ?_
        rintro e w10 ⟨g10, c10, rfl, _, hr10, hw10⟩
        have hw10' := hw10.symm
        clear hw10
        subst hw10'
        have hs10 := hr10.src
        rw [hlen9] at hs10
        have h11 := same_any a9 (some ⟨g10, 0, none⟩) 512 c9 c10 (S.now j) w9 (by omega) hs9 hs10
        clear h10 hr10 hs9 hs10
        go_wp2_with fail
        refine h11.mono ?_
        rintro e w11 ⟨rfl, hb11⟩
        have HZ : Hid (DiskR w11 F p s S ∧ Keeps F w7 w11) := ⟨HD9.out.later hb11, HK9.out.trans (Keeps.of_below F hb11) (fun _ h => .inl h)⟩
        clear h11 hb11
        go_wp2
        go_roundw
        case rel => exact ⟨j + 1, by omega, by go_num, HZ.out⟩
        case measure => simp [intOf]; omega
    · obtain rfl : j = s := by omega
      have hge : ¬ (j : Int) < (j : Int) := by omega
      have HF : Hid (DiskR wr F p j S ∧ Keeps F w wr) := ⟨HDr.out, (Keeps.of_below F HB7.out).trans HKr.out (fun _ h => .inl h)⟩
      go_wp2_with fail
      refine hs1.mono ?_
      rintro e w8 ⟨rfl, hw8⟩
      have hw8' := hw8.symm
      clear hw8
      subst hw8'
      go_wp2
      go_ret
      exact ⟨rfl, HF.out⟩
end Go.Proofs.YtijgdmhglnanjaaGreat
end
