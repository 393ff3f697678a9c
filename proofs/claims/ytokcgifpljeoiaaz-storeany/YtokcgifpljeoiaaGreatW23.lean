import Derived.Test.YtokcgifpljeoiaaGreatW21
import Derived.Test.YtokcgifpljeoiaaGreatW22
section
namespace Go.Proofs.YtokcgifpljeoiaaGreat
open Go.RowKit Go.Maps

section
variable {w w' : World} {F : Nat → Prop} {p r s c : Nat} {S S' : DS} {L : LG} {x : Int}
/-- What Open comes to, with so many reads at most. -/
def StOpened5 (w : World) (F : Nat → Prop) (p s c : Nat) (S : DS) (e : Ending) (w' : World) : Prop := ∃ x S' cR, cR ≤ c + 261 ∧ SOut S s x S' ∧ Keeps F w w' ∧ ((x ≠ 0 ∧ e = .returned (.tuple #[.pointer none, .int .i64 x]) ∧ B.DiskR w' (more F w w') p s S' cR) ∨ (x = 0 ∧ ∃ q l m L F', SLog S s L ∧ e = .returned (.tuple #[.pointer (some ⟨q, 0, none⟩), .int .i64 0]) ∧ (∀ k, F' k → more F w w' k) ∧ w.heap.size ≤ q ∧ w.heap.size ≤ l ∧ w.heap.size ≤ m ∧ StW w' F' p s cR q l m S' ⟨lyOf (S.now 0), L, [], false⟩))
theorem stOpen_any (h : B.DiskR w F p s S c) (hby : S.Byt) (hbig : S.puts.length + 6000 ≤ 4000000000000) :
    Calls Tryz.prog 11 #[.pointer (some ⟨p, 0, none⟩)] w fun e w' => StOpened5 w F p s c S e w' := by
  by_cases hno : S.fuse = 0 ∨ ¬ SupAt (S.now 0) s
  · have hx0 : ∀ x, SOut S s x S → x ≠ 0 := fun x ho e => by
      rcases ho with ⟨_, n, _⟩ | ⟨a, b, _⟩
      · exact n e
      · exact hno.elim b (fun h => h a)
    refine (stOpen_no h hby (by omega) hno).mono ?_
    rintro e w' ⟨x, rfl, h1, h2, h3⟩
    exact ⟨x, S, c + 1, by omega, h1, h3, .inl ⟨hx0 x h1, rfl, h2.more⟩⟩
  · have hsup := Classical.byContradiction (fun e => hno (.inr e))
    refine (stOpen_ok h hby hbig (fun e => hno (.inl e)) hsup).mono ?_
    rintro e w' ⟨x, S', cR, h1, h2⟩
    exact ⟨x, S', cR, by have := stOpen_geo hsup; omega, h2⟩
theorem sbring_lf {home : Nat} : ∀ {ms : CM} {S : DS}, (sbring S s home ms).2.life = S.life
  | [], _ => rfl
  | q :: qs, S => by
    have h1 := wr_life S s ((home + q.1 : Nat) : Int) 512 q.2
    unfold sbring
    split
    · exact h1
    · exact sbring_lf.trans h1
theorem lopen_lf (S : DS) (s : Nat) (f n : Int) : (lopen S s f n).2 = S ∨ (lopen S s f n).2.life = wrap64 (S.life + 1) := by
  unfold lopen
  split
  · exact .inl rfl
  · split
    · exact .inr rfl
    · split
      · exact .inr rfl
      · exact .inr (fl_life _ _)
theorem sredo_lf {y : LY} {ov : CM} {rs : List (List Int)} : (sredo S s y ov rs).2.life = S.life := by
  unfold sredo
  split
  · rfl
  · split
    · exact sbring_lf
    · exact (fl_life _ _).trans sbring_lf
theorem start_lf : (L.start S s).2.1.life = S.life := by
  unfold LG.start
  split
  · rfl
  · split
    · rfl
    · split <;> exact anew_life _ _ _ _
/-- An Open leaves the disk as it is, or gives it a new life. -/
theorem SOut.life (h : SOut S s x S') : (S' = S ∧ x ≠ 0) ∨ S'.life = wrap64 (S.life + 1) := by
  rcases h with ⟨_, n, rfl⟩ | ⟨hsup, hf, k⟩
  · exact .inl ⟨rfl, n⟩
  · rcases k with ⟨_, n, rfl⟩ | ⟨z1, rs, hd, hta, k⟩
    · exact (lopen_lf S s 1 (((lyOf (S.now 0)).log : Nat) : Int)).imp (fun h => ⟨h, n⟩) id
    · refine .inr ?_
      have ho : (lopen S s 1 (((lyOf (S.now 0)).log : Nat) : Int)).2.life = wrap64 (S.life + 1) := by
        obtain ⟨_, _, _, e⟩ := lopen_zero (f := 1) z1
        have e' : lopen S s 1 (((lyOf (S.now 0)).log : Nat) : Int) = S.take.fl s := e
        rw [e']
        exact fl_life _ _
      rcases k with ⟨_, _, rfl⟩ | ⟨ov, hov, k⟩
      · exact ho
      · rcases k with ⟨_, _, rfl⟩ | ⟨_, _, rfl⟩
        · exact sredo_lf.trans ho
        · exact start_lf.trans (sredo_lf.trans ho)
theorem stepsTo_lf {g : Nat → DS → Int × DS} (hg : ∀ j T, (g j T).2.life = T.life) : ∀ k, (stepsTo S g k).2.life = S.life
  | 0 => rfl
  | k + 1 => by
    have := stepsTo_lf hg k
    unfold stepsTo
    split
    · exact this
    · exact (hg k _).trans this
theorem swipe_lf (S : DS) (s a n : Nat) : (swipe S s a n).2.life = S.life := by
  unfold swipe
  split
  · exact sbring_lf
  · exact (fl_life _ _).trans sbring_lf
end
end Go.Proofs.YtokcgifpljeoiaaGreat
end

section
namespace Go.Proofs.YtokcgifpljeoiaaGreat
open Go.RowKit

section
variable {S : DS} {s : Nat}
theorem spend_calm {S : DS} (h : S.fuse = -1) : S.spend.fuse = -1 := by
  unfold DS.spend
  simp only
  rw [if_neg (by omega)]
  exact h
theorem wr_calm {S : DS} (h : S.fuse = -1) (s : Nat) (x : Int) (n : Nat) (l : List Int) : (S.wr s x n l).2.fuse = -1 := by
  unfold DS.wr
  split
  · exact h
  · split
    · exact h
    · split
      · exact h
      · exact spend_calm h
theorem fl_calm {S : DS} (h : S.fuse = -1) (s : Nat) : (S.fl s).2.fuse = -1 := by
  unfold DS.fl
  split
  · exact h
  · exact spend_calm h
theorem stepsTo_calm {S : DS} (h : S.fuse = -1) {g : Nat → DS → Int × DS} (hg : ∀ k T, T.fuse = -1 → (g k T).2.fuse = -1) : ∀ n, (stepsTo S g n).2.fuse = -1
  | 0 => h
  | n + 1 => by
    unfold stepsTo
    split
    · exact stepsTo_calm h hg n
    · exact hg n _ (stepsTo_calm h hg n)
theorem awipe_calm {S : DS} (h : S.fuse = -1) (s f n : Nat) : (awipe S s f n).2.fuse = -1 := by
  have h1 : (wipeTo S s f (n + 2)).2.fuse = -1 := stepsTo_calm h (fun k T hT => wr_calm hT _ _ _ _) _
  unfold awipe
  split
  · exact h1
  · exact fl_calm h1 s
theorem anew_calm {S : DS} (h : S.fuse = -1) (s f : Nat) (num : Int) : (anew S s f num).2.fuse = -1 := by
  unfold anew
  split
  · exact h
  · split
    · exact h
    · split
      · exact wr_calm h _ _ _ _
      · exact fl_calm (wr_calm h _ _ _ _) _
theorem renew_whole {l r : List Int} (hl : l.length = 512) (hr : r.length = 512) {N : Nat} (h1 : 1 ≤ N) (hN : N < 9223372036854775808) (h : (snewest l r).2.1 < N) :
    (snewest (sput l r (srenew l r (N : Int) []).1 (srenew l r (N : Int) []).2.1).1 (sput l r (srenew l r (N : Int) []).1 (srenew l r (N : Int) []).2.1).2).2 = (N, [], 0) := by
  have e : (srenew l r (N : Int) []) = if (snewest l r).2.2.2 = 0 ∧ (snewest l r).1 = 0 then (1, sform (turnOf (r.getD 0 0) (r.getD 511 0)) (bytes8 N ++ []), 0) else (0, sform (turnOf (l.getD 0 0) (l.getD 511 0)) (bytes8 N ++ []), 0) := by
    unfold srenew
    rw [if_neg (by omega), if_neg (by omega), if_neg (by simp)]
    simp only
    rw [if_neg (by omega), Int.toNat_natCast]
  rw [e]
  by_cases q : (snewest l r).2.2.2 = 0 ∧ (snewest l r).1 = 0
  · rw [if_pos q]
    have := pair_new (data := []) hl hr hN h1 (by simp) h (t := turnOf (r.getD 0 0) (r.getD 511 0)) (by have := turnOf_le (r.getD 0 0) (r.getD 511 0); omega) 1 (by rw [if_pos q])
    simp only
    rw [this]
  · rw [if_neg q]
    have := pair_new (data := []) hl hr hN h1 (by simp) h (t := turnOf (l.getD 0 0) (l.getD 511 0)) (by have := turnOf_le (l.getD 0 0) (l.getD 511 0); omega) 0 (by rw [if_neg q])
    simp only
    rw [this]
theorem anew_whole {S : DS} {s f N : Nat} (h : S.Ok s) (hf : f + 1 < s) (h1 : 1 ≤ N) (hN : N < 9223372036854775808) (hlt : S.num f < N) (h0 : (anew S s f (N : Int)).1 = 0) : (snewest ((anew S s f (N : Int)).2.now f) ((anew S s f (N : Int)).2.now (f + 1))).2 = (N, [], 0) ∧ ∀ j, j < s → j ≠ f → j ≠ f + 1 → (anew S s f (N : Int)).2.now j = S.now j := by
  have hl := now_len h f (by omega)
  have hr := now_len h (f + 1) hf
  have hok := renew_ok hl hr h1 hlt
  have hp := renew_whole hl hr h1 hN hlt
  have hsl := srenew_slot (S.now f) (S.now (f + 1)) (N : Int) []
  have hfu := srenew_full (S.now f) (S.now (f + 1)) (N : Int) [] hok
  unfold anew at *
  split at h0
  · simp at h0
  · rename_i hfz
    rw [if_neg hfz]
    rw [if_neg (by omega)] at h0 ⊢
    generalize srenew (S.now f) (S.now (f + 1)) (N : Int) [] = Y at *
    rw [show (f : Int) + (Y.1 : Int) = ((f + Y.1 : Nat) : Int) by omega] at h0 ⊢
    have hw0 : (S.wr s ((f + Y.1 : Nat) : Int) 512 Y.2.1).1 = 0 := by rw [wr_in hfz (by omega)]
    rw [if_neg (by omega)] at h0 ⊢
    have hwo := wr_ok h hfz (show f + Y.1 < s by omega) hfu
    refine ⟨?_, fun j hj e1 e2 => ?_⟩
    · rw [fl_now hwo (by omega), fl_now hwo hf, wr_now hfz (by omega), wr_now hfz (by omega)]
      unfold sput at hp
      by_cases q : Y.1 = 0
      · rw [q] at hp ⊢
        rw [if_pos (by omega), if_neg (by omega)]
        rw [if_pos rfl] at hp
        exact hp
      · have q1 : Y.1 = 1 := by omega
        rw [q1] at hp ⊢
        rw [if_neg (by omega), if_pos rfl]
        rw [if_neg (by omega)] at hp
        exact hp
    · rw [fl_now hwo hj, wr_now hfz (by omega), if_neg (by omega)]

theorem sopens_zero : (sopens (zs 512)).2 ≠ 0 ∨ (sopens (zs 512)).1.length < 12 := by
  have hb : sbody (zs 512) = [] := by
    unfold sbody
    rw [show slen (zs 512) = 0 from by unfold slen; rw [show (zs 512).getD 1 0 = 0 from rfl, show (zs 512).getD 2 0 = 0 from rfl]; rfl]
    exact List.take_zero
  unfold sopens
  rw [if_neg (by rw [zs_len]; omega)]
  unfold sopen
  rw [hb]
  split
  · left; show (30 : Nat) ≠ 0; omega
  · rename_i b h
    right
    split at h
    · cases h; show (0 : Nat) < 12; omega
    · cases h
theorem fresh_piece : (pcOf (zs 512)).d = [] ∧ (pcOf (zs 512)).e = 0 := by
  unfold pcOf
  rw [if_pos sopens_zero]
  exact ⟨rfl, rfl⟩
theorem rtop_zero {R : Nat → PC} : ∀ k, (∀ i, i < k → (R i).e = 0) → rtop R k = 0
  | 0, _ => rfl
  | k + 1, h => by
    show (if (R k).e ≤ 1073741824 then max (rtop R k) (R k).e else rtop R k) = 0
    rw [h k (by omega), rtop_zero k (fun i hi => h i (by omega))]
    rfl
theorem awipe_zs {S : DS} {s f n : Nat} (h : S.Ok s) (hs : f + 2 + n ≤ s) (h0 : (awipe S s f n).1 = 0) : ∀ j, j < n + 2 → (awipe S s f n).2.now (f + j) = zs 512 := fun j hj => by
  obtain ⟨h1, h2, h3, h4⟩ := wipeTo_keeps (f := f) h (n := n + 2) (by omega) (n + 2) (Nat.le_refl _)
  unfold awipe at *
  by_cases e : (wipeTo S s f (n + 2)).1 = 0
  · rw [if_neg (by omega), fl_now h2 (by omega)]
    exact h4 e j hj
  · rw [if_pos e] at h0
    exact absurd h0 e

theorem format_calm (h : S.Ok s) (hf : S.fuse = -1) {a b : Nat} (hab : a + 2 + b ≤ s) (hb1 : 18 ≤ b) (hb2 : b ≤ 256) :
    (lformat S s a b).1 = 0 ∧ (lformat S s a b).2.fuse = -1 ∧ oNew (lformat S s a b).2 a = (1, 0, 0) ∧ ∀ j, j < b → (lformat S s a b).2.now (a + 2 + j) = zs 512 := by
  have hr0 : lrefuse S s (a : Int) (b : Int) = 0 := by
    unfold lrefuse
    rw [if_neg (by omega), if_neg (by omega), if_neg (by omega), if_neg (by omega)]
  unfold lformat
  rw [if_neg (by omega)]
  simp only [Int.toNat_natCast]
  have hok : S.take.Ok s := ⟨h.len, h.lo, h.hi, h.puts, h.fuse⟩
  obtain ⟨k1, k2, k3, k4⟩ := awipe_keeps (f := a) (n := b) hok hab
  have hc1 := awipe_calm (S := S.take) hf s a b
  have h0 := Decidable.byContradiction (fun e => by have := k3 e; omega)
  have hz := awipe_zs hok hab h0
  obtain ⟨q1, q2⟩ := k4 h0
  rw [if_neg (by omega)]
  have hr := renew_ok (now_len k2 a (by omega)) (now_len k2 (a + 1) (by omega)) (N := 4294967296) (by omega) (by show DS.num _ a < _; rw [q1]; omega)
  have hc2 : (anew (awipe S.take s a b).2 s a 4294967296).2.fuse = -1 := anew_calm hc1 s a _
  have h1 : (anew (awipe S.take s a b).2 s a 4294967296).1 = 0 := Decidable.byContradiction (fun e => by have h5 := (anew_err (num := 4294967296) (by omega) hr e).1; rw [hc2] at h5; omega)
  obtain ⟨w1, w2⟩ := anew_whole (s := s) (f := a) (N := 4294967296) k2 (by omega) (by omega) (by omega) (by rw [q1]; omega) h1
  refine ⟨h1, hc2, ?_, fun j hj => ?_⟩
  · unfold oNew lnewest
    generalize snewest ((anew (awipe S.take s a b).2 s a 4294967296).2.now a) ((anew (awipe S.take s a b).2 s a 4294967296).2.now (a + 1)) = X at *
    have w1 := w1
    rw [w1]
    decide
  · have := w2 (a + 2 + j) (by omega) (by omega) (by omega)
    refine Eq.trans this ?_
    rw [show a + 2 + j = a + (2 + j) by omega]
    exact hz (2 + j) (by omega)
theorem open_calm {a b : Nat} (_hok : S.Ok s) (hf : S.fuse = -1) (hab : a + 2 + b ≤ s) (hb1 : 18 ≤ b) (hb2 : b ≤ 256) (hn : oNew S a = (1, 0, 0)) (hz : ∀ j, j < b → S.now (a + 2 + j) = zs 512) :
    (lopen S s a b).1 = 0 ∧ (lopen S s a b).2.fuse = -1 ∧ (lopen S s a b).2.life = wrap64 (S.life + 1) ∧ (∀ rs hd, Tells (Rp (oRing S a) b) (oNew S a).1 (oNew S a).2.1 rs hd → rs = [] ∧ hd = 0) ∧ oTop S a b = 1 := by
  have hr0 : lrefuse S s (a : Int) (b : Int) = 0 := by
    unfold lrefuse
    rw [if_neg (by omega), if_neg (by omega), if_neg (by omega), if_neg (by omega)]
  have hR : ∀ j, j < b → (oRing S a j).e = 0 ∧ (oRing S a j).d = [] := fun j hj => by
    unfold oRing
    rw [hz j hj]
    exact ⟨fresh_piece.2, fresh_piece.1⟩
  have ht : oTop S a b = 1 := by
    unfold oTop
    rw [rtop_zero b (fun i hi => (hR i hi).1), hn]
    rfl
  have e1 : lopen S s (a : Int) (b : Int) = S.take.fl s := by
    unfold lopen
    rw [if_neg (by omega), Int.toNat_natCast, Int.toNat_natCast, if_neg (by rw [hn]; decide), if_neg (by omega)]
  rw [e1]
  have hc := fl_calm (S := S.take) hf s
  refine ⟨Decidable.byContradiction (fun e => by have := (fl_err e).2.1; have : S.take.fuse = -1 := hf; omega), hc, fl_life _ _, fun rs hd htl => ?_, ht⟩
  rw [hn] at htl
  cases rs with
  | nil => exact ⟨rfl, htl⟩
  | cons x xs =>
    obtain ⟨c, hc, _⟩ := htl
    have h1 := (hc.2.2.1 0 (by have := hc.1; omega)).2.2.2.2.1
    have h2 : Rp (oRing S a) b (0 + 0) = oRing S a 0 := by unfold Rp; rw [Nat.add_zero, Nat.zero_mod]
    rw [h2, (hR 0 (by omega)).2] at h1
    simp at h1
end
end Go.Proofs.YtokcgifpljeoiaaGreat
end

section
namespace Go.Proofs.YtokcgifpljeoiaaGreat
open Go.RowKit Go.Maps

/-! A disk with power without end: what Format and Open leave on it. -/
section
variable {S S2 : DS} {s h0 : Nat} {x : Int}
theorem sbring_calm : ∀ {ms : CM} {S : DS}, S.fuse = -1 → (sbring S s h0 ms).2.fuse = -1
  | [], _, h => h
  | q :: qs, S, h => by
    have h1 := wr_calm h s ((h0 + q.1 : Nat) : Int) 512 q.2
    unfold sbring
    split
    · exact h1
    · exact sbring_calm h1
theorem sbring_zs : ∀ {ms : CM} {S : DS}, S.fuse = -1 → (∀ q ∈ ms, h0 + q.1 < s ∧ q.2 = zs 512) → (∀ j, j < s → S.now j = zs 512) → ∀ j, j < s → (sbring S s h0 ms).2.now j = zs 512
  | [], _, _, _, hz => hz
  | q :: qs, S, h, hm, hz => by
    obtain ⟨m1, m2⟩ := hm q (List.mem_cons_self ..)
    have h2 : ∀ j, j < s → (S.wr s ((h0 + q.1 : Nat) : Int) 512 q.2).2.now j = zs 512 := fun j hj => by
      rw [wr_now (by omega) m1]
      split
      · exact m2
      · exact hz j hj
    unfold sbring
    split
    · exact h2
    · exact sbring_zs (wr_calm h s ((h0 + q.1 : Nat) : Int) 512 q.2) (fun x hx => hm x (List.mem_cons_of_mem _ hx)) h2
theorem zrow_in {n a : Nat} (hn : a + n ≤ s) : ∀ q ∈ zrow n, a + q.1 < s ∧ q.2 = zs 512 := fun q hq => by
  unfold zrow at hq
  obtain ⟨i, hi, rfl⟩ := List.mem_map.1 hq
  have := List.mem_range.1 hi
  exact ⟨by show a + i < s; omega, rfl⟩
theorem fl_done (hf : S.fuse = -1) : (S.fl s).1 = 0 := Decidable.byContradiction (fun e => by have := (fl_err e).2.1; omega)
theorem swipe_calm {a n : Nat} (hok : S.Ok s) (hf : S.fuse = -1) (hn : a + n ≤ s) (hz : ∀ j, j < s → S.now j = zs 512) : (swipe S s a n).1 = 0 ∧ (swipe S s a n).2.fuse = -1 ∧ (swipe S s a n).2.Ok s ∧ (swipe S s a n).2.puts = [] ∧ (∀ j, j < s → (swipe S s a n).2.now j = zs 512) := by
  obtain ⟨a1, _, _, a4⟩ := swipe_facts hok hn
  obtain ⟨_, _, b3, b4, _⟩ := sbring_facts (h0 := a) (ms := zrow n) hok (fun q hq => ⟨(zrow_in hn q hq).1, by rw [(zrow_in hn q hq).2]; exact zs_len 512⟩)
  have c1 := sbring_calm (s := s) (h0 := a) (ms := zrow n) hf
  have c3 := Decidable.byContradiction (fun e => by have := b4 e; omega)
  have e : swipe S s a n = (sbring S s a (zrow n)).2.fl s := by unfold swipe; rw [if_neg (fun h => h c3)]
  have d0 : (swipe S s a n).1 = 0 := by rw [e]; exact fl_done c1
  refine ⟨d0, by rw [e]; exact fl_calm c1 s, a1, a4 d0, fun j hj => ?_⟩
  rw [e, fl_now b3 hj]
  exact (sbring_zs (s := s) (h0 := a) hf (zrow_in hn) hz) j hj
theorem wr_far {k : Nat} (hk : k < s) (l : List Int) {j : Nat} (hj : j ≠ k) : (S.wr s (k : Int) 512 l).2.now j = S.now j := by
  by_cases hf : S.fuse = 0
  · unfold DS.wr
    rw [if_pos hf]
  · rw [wr_now hf hk, if_neg hj]
theorem wipeTo_far {f j : Nat} : ∀ k, f + k ≤ s → f + k ≤ j → (wipeTo S s f k).2.now j = S.now j
  | 0, _, _ => rfl
  | k + 1, h1, h2 => by
    have h3 : (wipeTo S s f k).2.now j = S.now j := wipeTo_far k (by omega) (by omega)
    show (stepsTo S _ (k + 1)).2.now j = _
    unfold stepsTo
    split
    · exact h3
    · exact (wr_far (k := f + k) (by omega) _ (by omega)).trans h3
theorem lformat_far {a b j : Nat} (hok : S.Ok s) (hab : a + 2 + b ≤ s) (hj : a + 2 + b ≤ j) (hjs : j < s) : (lformat S s (a : Int) (b : Int)).2.now j = S.now j := by
  have htk : S.take.Ok s := ⟨hok.len, hok.lo, hok.hi, hok.puts, hok.fuse⟩
  obtain ⟨_, k2, _, _⟩ := wipeTo_keeps (f := a) htk (n := b + 2) (by omega) (b + 2) (Nat.le_refl _)
  have h1 : (wipeTo S.take s a (b + 2)).2.now j = S.now j := wipeTo_far (S := S.take) (b + 2) (by omega) (by omega)
  have h2 : (awipe S.take s a b).2.now j = S.now j := by
    unfold awipe
    split
    · exact h1
    · exact (fl_now k2 hjs).trans h1
  obtain ⟨_, k3, _, _⟩ := awipe_keeps (f := a) (n := b) htk hab
  unfold lformat
  split
  · rfl
  · simp only [Int.toNat_natCast]
    split
    · exact h2
    · exact ((anew_far k3 (by omega) _).2 j (by omega) hjs).trans h2
theorem lebTake (n k : Nat) : (leb n k).take n = leb n k := List.take_of_length_le (by rw [leb_len]; omega)
/-- A superblock that was laid is read as it was laid. -/
theorem sup_read {a b c : Nat} (hg : Geo a b c) : SupAt (supOf a b c) a ∧ (lyOf (supOf a b c)).log = b ∧ (lyOf (supOf a b c)).home = 3 + b ∧ (lyOf (supOf a b c)).blocks = a - (3 + b) := by
  have hg' := hg
  obtain ⟨⟨h1, h2⟩, ⟨h3, h4⟩, h5, h6, h7⟩ := hg
  have hlen := sealed_sup a b c
  have hhead : headL.length = 8 := rfl
  have hp : ∀ q m, q + m ≤ 508 → part (sealed (supBody a b c)) q m = part (supBody a b c) q m := fun q m h => part_appl _ _ _ _ (by rw [supBody_len]; exact h)
  have q8 : u32 (sealed (supBody a b c)) 8 = a := by
    unfold u32
    rw [hp 8 4 (by omega)]
    unfold supBody
    rw [part_appl _ _ _ _ (by simp only [List.length_append, leb_len, hhead]; omega), part_appl _ _ _ _ (by simp only [List.length_append, leb_len, hhead]; omega), part_appl _ _ _ _ (by simp only [List.length_append, leb_len, hhead]; omega), part_app _ _ _ _ hhead.symm, lebTake, le_leb _ _ (by omega)]
  have q12 : u32 (sealed (supBody a b c)) 12 = b := by
    unfold u32
    rw [hp 12 4 (by omega)]
    unfold supBody
    rw [part_appl _ _ _ _ (by simp only [List.length_append, leb_len, hhead]; omega), part_appl _ _ _ _ (by simp only [List.length_append, leb_len, hhead]; omega), part_app _ _ _ _ (by simp only [List.length_append, leb_len, hhead]), lebTake, le_leb _ _ (by omega)]
  have q16 : u32 (sealed (supBody a b c)) 16 = c := by
    unfold u32
    rw [hp 16 4 (by omega)]
    unfold supBody
    rw [part_appl _ _ _ _ (by simp only [List.length_append, leb_len, hhead]; omega), part_app _ _ _ _ (by simp only [List.length_append, leb_len, hhead]), lebTake, le_leb _ _ (by omega)]
  have hb : Bytes (sealed (supBody a b c)) := (supBody_bytes _ _ _).append (leb_bytes _ _)
  refine ⟨⟨(super_iff hb hlen).2 ⟨?_, ?_⟩, q8⟩, ?_, ?_, ?_⟩
  · rw [q8, q12, q16]; exact hg'
  · rw [q8, q12, q16]
  · unfold lyOf; exact q12
  · unfold lyOf; show 3 + u32 _ 12 = _; rw [q12]
  · unfold lyOf; show u32 _ 8 - (3 + u32 _ 12) = _; rw [q8, q12]
/-- What a Format leaves on a new disk. -/
theorem sformat_calm {a b c : Nat} (hok : S.Ok a) (hby : S.Byt) (hf : S.fuse = -1) (hl0 : 0 ≤ S.life) (hl1 : S.life ≤ 1) (hg : Geo a b c) (hz : ∀ j, j < a → S.now j = zs 512) :
    (sformat S a a b c).1 = 0 ∧ (sformat S a a b c).2.fuse = -1 ∧ (sformat S a a b c).2.Ok a ∧ (sformat S a a b c).2.puts = [] ∧ (sformat S a a b c).2.now 0 = supOf a b c ∧ oNew (sformat S a a b c).2 1 = (1, 0, 0) ∧ ∀ j, 3 ≤ j → j < a → (sformat S a a b c).2.now j = zs 512 := by
  obtain ⟨⟨g1, g2⟩, ⟨g3, g4⟩, g5, g6, g7⟩ := hg
  have hg : Geo a b c := ⟨⟨g1, g2⟩, ⟨g3, g4⟩, g5, g6, g7⟩
  have htk : S.take.Ok a := ⟨hok.len, hok.lo, hok.hi, hok.puts, hok.fuse⟩
  have e0 : sformat S a a b c = sformed S a b c := by
    unfold sformat
    rw [if_neg (by omega)]
    haveI := geoDec (a : Int) (b : Int) (c : Int)
    rw [if_pos ⟨hg, rfl⟩, Int.toNat_natCast, Int.toNat_natCast]
  obtain ⟨a1, a2, a3, a4, a5⟩ := swipe_calm (s := a) (a := 0) (n := 1) htk hf (by omega) (fun j hj => hz j hj)
  have ab := swipe_byt hby.take a 0 1
  have al := swipe_lf S.take a 0 1
  have f1 : fmt1 S a = swipe S.take a 0 1 := rfl
  rw [← f1] at a1 a2 a3 a4 a5 ab al
  obtain ⟨b1, b2, b3, b4, b5⟩ := swipe_calm (s := a) (a := 1) (n := a - 1) a3 a2 (by omega) a5
  have bb := swipe_byt ab a 1 (a - 1)
  have bl := (swipe_lf (fmt1 S a).2 a 1 (a - 1)).trans al
  have f2 : fmt2 S a = swipe (fmt1 S a).2 a 1 (a - 1) := rfl
  rw [← f2] at b1 b2 b3 b4 b5 bb bl
  have hlt : S.take.life = S.life + 1 := by show wrap64 (S.life + 1) = _; unfold wrap64; omega
  obtain ⟨c1, c2, c3, c4⟩ := format_calm (a := 1) (b := b) b3 b2 (by omega) (by omega) (by omega)
  obtain ⟨d1, _, d3⟩ := lformat_facts (S := (fmt2 S a).2) (s := a) (t := 10) b3 (by omega) (by omega) (by omega) (by omega) b4 1 (b : Int)
  have dfar : ∀ j, 3 + b ≤ j → j < a → (lformat (fmt2 S a).2 a 1 (b : Int)).2.now j = zs 512 := fun j h1 h2 => (lformat_far (a := 1) (b := b) b3 (by omega) (by omega) h2).trans (b5 j h2)
  have c1 : (fmt3 S a b).1 = 0 := c1
  have c2 : (fmt3 S a b).2.fuse = -1 := c2
  have c3 : oNew (fmt3 S a b).2 1 = (1, 0, 0) := c3
  have c4 : ∀ j, j < b → (fmt3 S a b).2.now (1 + 2 + j) = zs 512 := c4
  have d1 : (fmt3 S a b).2.Ok a := d1
  have dfar : ∀ j, 3 + b ≤ j → j < a → (fmt3 S a b).2.now j = zs 512 := dfar
  have hsl : (supOf a b c).length = 512 := sealed_sup _ _ _
  have f4 : fmt4 S a b c = (fmt3 S a b).2.wr a ((0 : Nat) : Int) 512 (supOf a b c) := rfl
  have e1 : (fmt4 S a b c).1 = 0 := by rw [f4, wr_in (by omega) (by omega)]
  have e2 : (fmt4 S a b c).2.fuse = -1 := wr_calm c2 _ _ _ _
  have e3 : (fmt4 S a b c).2.Ok a := by rw [f4]; exact wr_ok d1 (by omega) (by omega) hsl
  have e4 : ∀ j, (fmt4 S a b c).2.now j = if j = 0 then supOf a b c else (fmt3 S a b).2.now j := fun j => by rw [f4]; exact wr_now (by omega) (by omega) _ j
  have e5 : sformed S a b c = (fmt4 S a b c).2.fl a := by
    unfold sformed
    rw [if_neg (fun h => h a1), if_neg (fun h => h b1), if_neg (fun h => h c1), if_neg (fun h => h e1)]
  rw [e0, e5]
  have hfl : ∀ j, j < a → ((fmt4 S a b c).2.fl a).2.now j = (fmt4 S a b c).2.now j := fun j hj => fl_now e3 hj
  refine ⟨fl_done e2, fl_calm e2 a, fl_ok e3, fl_zero (fl_done e2), ?_, ?_, fun j h1 h2 => ?_⟩
  · rw [hfl 0 (by omega), e4 0, if_pos rfl]
  · have o1 : ((fmt4 S a b c).2.fl a).2.now 1 = (fmt3 S a b).2.now 1 := by rw [hfl 1 (by omega), e4 1, if_neg (by omega)]
    have o2 : ((fmt4 S a b c).2.fl a).2.now 2 = (fmt3 S a b).2.now 2 := by rw [hfl 2 (by omega), e4 2, if_neg (by omega)]
    rw [← c3]
    unfold oNew
    rw [o1, o2]
  · rw [hfl j h2, e4 j, if_neg (by omega)]
    by_cases h3 : j < 3 + b
    · have := c4 (j - 3) (by omega)
      rwa [show 1 + 2 + (j - 3) = j by omega] at this
    · exact dfar j (by omega) h2
theorem start_calm5 {L : LG} (hf : S.fuse = -1) : (L.start S s).2.1.fuse = -1 := by
  unfold LG.start
  split
  · exact hf
  · split
    · exact hf
    · split <;> exact anew_calm hf _ _ _
theorem start_Llife {L : LG} : (L.start S s).2.2.life = L.life := by
  unfold LG.start
  split
  · rfl
  · split
    · rfl
    · split <;> rfl
theorem SLog.life {L : LG} (h : SLog S s L) : L.life = wrap64 (S.life + 1) := by
  obtain ⟨rs, hd, ov, _, _, rfl⟩ := h
  exact start_Llife
/-- What an Open makes of such a disk. -/
theorem sopen_calm (hok : S.Ok s) (hby : S.Byt) (hf : S.fuse = -1) (hsup : SupAt (S.now 0) s) (hn : oNew S 1 = (1, 0, 0)) (hz : ∀ j, j < (lyOf (S.now 0)).log → S.now (1 + 2 + j) = zs 512) (ho : SOut S s x S2) : x = 0 ∧ S2.fuse = -1 ∧ ∀ j, 3 ≤ j → j < s → S2.now j = S.now j := by
  have hgeo := stOpen_geo hsup
  obtain ⟨c1, c2, c3, c4, c5⟩ := open_calm (a := 1) (b := (lyOf (S.now 0)).log) hok hf (by omega) (by omega) (by omega) hn hz
  have c1' : (lopen S s 1 (((lyOf (S.now 0)).log : Nat) : Int)).1 = 0 := c1
  obtain ⟨_, z2, z3, hlo⟩ := lopen_zero (f := 1) c1'
  have hlo' : lopen S s 1 (((lyOf (S.now 0)).log : Nat) : Int) = S.take.fl s := hlo
  have htk : S.take.Ok s := ⟨hok.len, hok.lo, hok.hi, hok.puts, hok.fuse⟩
  rcases ho with ⟨hl, n1, rfl⟩ | ⟨_, _, k⟩
  · exfalso
    rcases hl with ⟨a1, _, _⟩ | ⟨_, _, _, e⟩ | ⟨_, a2, _, _⟩
    · omega
    · exact n1 e
    · exact a2 hsup
  · rcases k with ⟨e1, m1, _⟩ | ⟨_, rs, hd, hta, k⟩
    · exact absurd (e1.symm.trans c1') m1
    · obtain ⟨rfl, rfl⟩ := c4 rs hd hta.t
      rcases k with ⟨a1, _, _⟩ | ⟨ov, hov, k⟩
      · cases a1
      · have hr : sredo (lopen S s 1 (((lyOf (S.now 0)).log : Nat) : Int)).2 s (lyOf (S.now 0)) ov [] = (0, (lopen S s 1 (((lyOf (S.now 0)).log : Nat) : Int)).2) := by unfold sredo; rw [if_pos rfl]
        rw [hr] at k
        rcases k with ⟨a1, a2, _⟩ | ⟨_, a2, rfl⟩
        · exact absurd a1.symm a2
        · have hlok := lgOf_ok (s := s) hta hby z2 z3 (by omega) (by omega) (by omega)
          have hnt : S.num 1 < ((lgOf S 1 (lyOf (S.now 0)).log 0).top + 1) * 4294967296 := num_top z2
          rw [hlo'] at a2 ⊢
          have hokP := fl_ok (s := s) htk
          have hnow : ∀ j, j < s → (S.take.fl s).2.now j = S.now j := fun j hj => fl_now (S := S.take) htk hj
          have hnum : (S.take.fl s).2.num (lgOf S 1 (lyOf (S.now 0)).log 0).f < ((lgOf S 1 (lyOf (S.now 0)).log 0).top + 1) * 4294967296 := by
            show (S.take.fl s).2.num 1 < _
            rw [num_eq (S := S) (S' := (S.take.fl s).2) (hnow 1 (by omega)) (hnow 2 (by omega))]
            exact hnt
          have hlf : (lgOf S 1 (lyOf (S.now 0)).log 0).life = (S.take.fl s).2.life := (fl_life S.take s).symm
          have hfP := fl_calm (S := S.take) hf s
          have hfu := start_calm5 (s := s) (L := lgOf S 1 (lyOf (S.now 0)).log 0) hfP
          refine ⟨Decidable.byContradiction (fun e => ?_), hfu, fun j h1 h2 => ?_⟩
          · have := (start_err hokP hlok rfl hlf hnum (by show ((lgOf S 1 (lyOf (S.now 0)).log 0).start (S.take.fl s).2 s).1 ≠ 0; rw [a2]; exact e)).1
            omega
          · refine Eq.trans ?_ (hnow j h2)
            show ((lgOf S 1 (lyOf (S.now 0)).log 0).start (S.take.fl s).2 s).2.1.now j = _
            unfold LG.start
            split
            · rfl
            · split
              · rfl
              · split <;> exact (anew_far hokP (by show 1 + 1 < s; omega) _).2 j (by show 1 + 2 ≤ j; omega) h2
end
end Go.Proofs.YtokcgifpljeoiaaGreat
end

section
namespace Go.Proofs.YtokcgifpljeoiaaGreat
open Go.RowKit Go.Maps

/-! Nothing is asked of the disk that it refuses. -/
section
variable {S S' : DS} {s f : Nat} {L : LG} {G : SG}
theorem wr_rf (S : DS) {s : Nat} {x : Int} (h0 : 0 ≤ x) (h1 : x < (s : Int)) (l : List Int) : (S.wr s x 512 l).2.refused = S.refused := by
  unfold DS.wr
  split
  · rfl
  · rw [if_neg (by omega), if_neg (by decide)]
    rfl
theorem fl_rf (S : DS) (s : Nat) : (S.fl s).2.refused = S.refused := by
  unfold DS.fl
  split <;> rfl
theorem anew_rf (S : DS) {s f : Nat} (hf : f + 1 < s) (num : Int) : (anew S s f num).2.refused = S.refused := by
  have hsl := srenew_slot (S.now f) (S.now (f + 1)) num []
  unfold anew
  split
  · rfl
  · split
    · rfl
    · have h1 := wr_rf S (s := s) (x := (f : Int) + ((srenew (S.now f) (S.now (f + 1)) num []).1 : Int)) (by omega) (by omega) (srenew (S.now f) (S.now (f + 1)) num []).2.1
      split
      · exact h1
      · exact (fl_rf _ _).trans h1
theorem sync_rf (L : LG) (S : DS) (s : Nat) : (L.sync S s).2.refused = S.refused := by
  unfold LG.sync
  split
  · rfl
  · exact fl_rf _ _
theorem trim_rf (hf : L.f + 1 < s) : (L.trim S s).2.1.refused = S.refused := by
  have h1 := sync_rf L S s
  have h2 := anew_rf (L.sync S s).2 hf ((L.ep : Int) * 4294967296 + (L.head : Int))
  unfold LG.trim
  split
  · exact h1
  · split
    · exact h1
    · split <;> exact h2.trans h1
theorem sbring_rf {home : Nat} : ∀ {ms : CM} {S : DS}, (∀ q ∈ ms, home + q.1 < s) → (sbring S s home ms).2.refused = S.refused
  | [], _, _ => rfl
  | q :: qs, S, h => by
    have hq := h q (List.mem_cons_self ..)
    have h1 := wr_rf S (s := s) (x := ((home + q.1 : Nat) : Int)) (by omega) (by omega) q.2
    unfold sbring
    split
    · exact h1
    · exact (sbring_rf (fun x hx => h x (List.mem_cons_of_mem _ hx))).trans h1
theorem check_rf (hM : ∀ q ∈ G.ov, G.y.home + q.1 < s) (hf : G.L.f + 1 < s) : (G.check S s).2.1.refused = S.refused := by
  have h1 := sync_rf G.L S s
  have h2 := (sbring_rf (S := (G.L.sync S s).2) hM).trans h1
  have h3 := (trim_rf (S := (sbring (G.L.sync S s).2 s G.y.home G.ov).2) hf).trans h2
  unfold SG.check
  split
  · exact h1
  · split
    · exact h2
    · split <;> exact h3
theorem stepsTo_rf {g : Nat → DS → Int × DS} : ∀ k, (∀ j, j < k → ∀ T, (g j T).2.refused = T.refused) → (stepsTo S g k).2.refused = S.refused
  | 0, _ => rfl
  | k + 1, hg => by
    have := stepsTo_rf k (fun j hj => hg j (by omega))
    unfold stepsTo
    split
    · exact this
    · exact (hg k (by omega) _).trans this
theorem aput_rf {n E P i c : Nat} {l : List Int} (hn : 1 ≤ n) (hs : f + 2 + n ≤ s) : (aput S s f n E P i c l).2.refused = S.refused := by
  have := Nat.mod_lt P hn
  unfold aput
  split
  · rfl
  · exact wr_rf S (by omega) (by omega) _
theorem append_rf {d : List Int} (hn : 1 ≤ L.n) (hs : L.f + 2 + L.n ≤ s) : (L.append S s d).2.1.refused = S.refused := by
  have h1 : (appTo L S s d (cntOf d.length)).2.refused = S.refused := stepsTo_rf _ (fun _ _ _ => aput_rf hn hs)
  unfold LG.append
  split
  · rfl
  · split <;> exact h1
theorem trim_fn (L : LG) (S : DS) (s : Nat) : (L.trim S s).2.2.f = L.f ∧ (L.trim S s).2.2.n = L.n := by
  unfold LG.trim
  split
  · exact ⟨rfl, rfl⟩
  · split
    · exact ⟨rfl, rfl⟩
    · split <;> exact ⟨rfl, rfl⟩
theorem check_fn (G : SG) (S : DS) (s : Nat) : (G.check S s).2.2.L.f = G.L.f ∧ (G.check S s).2.2.L.n = G.L.n := by
  have h := trim_fn G.L (sbring (G.L.sync S s).2 s G.y.home G.ov).2 s
  unfold SG.check
  split
  · exact ⟨rfl, rfl⟩
  · split
    · exact ⟨rfl, rfl⟩
    · split <;> exact h
theorem commit_rf {c : CM} (hM : ∀ q ∈ G.ov, G.y.home + q.1 < s) (hn : 1 ≤ G.L.n) (hs : G.L.f + 2 + G.L.n ≤ s) : (G.commit S s c).2.1.refused = S.refused := by
  have hm : (G.made S s (recOf c).length).2.1.refused = S.refused ∧ (G.made S s (recOf c).length).2.2.L.f = G.L.f ∧ (G.made S s (recOf c).length).2.2.L.n = G.L.n := by
    unfold SG.made
    split
    · exact ⟨rfl, rfl, rfl⟩
    · exact ⟨check_rf hM (by omega), check_fn G S s⟩
  unfold SG.commit
  split
  · rfl
  · split
    · exact hm.1
    · have h2 := append_rf (S := (G.made S s (recOf c).length).2.1) (s := s) (L := (G.made S s (recOf c).length).2.2.L) (d := recOf c) (by rw [hm.2.2]; exact hn) (by rw [hm.2.1, hm.2.2]; exact hs)
      split <;> exact h2.trans hm.1
theorem tcommit_rf {T : TG} (hM : ∀ q ∈ G.ov, G.y.home + q.1 < s) (hn : 1 ≤ G.L.n) (hs : G.L.f + 2 + G.L.n ≤ s) : (T.commit G S s).2.1.refused = S.refused := by
  unfold TG.commit
  split
  · rfl
  · split
    · rfl
    · split <;> exact commit_rf hM hn hs
theorem start_rf (hf : L.f + 1 < s) : (L.start S s).2.1.refused = S.refused := by
  unfold LG.start
  split
  · rfl
  · split
    · rfl
    · split <;> exact anew_rf _ hf _
theorem lopen_rf (S : DS) (s : Nat) (f n : Int) : (lopen S s f n).2.refused = S.refused := by
  unfold lopen
  split
  · rfl
  · split
    · rfl
    · split
      · rfl
      · exact fl_rf _ _
theorem sredo_rf {y : LY} {ov : CM} {rs : List (List Int)} (hM : ∀ q ∈ ov, y.home + q.1 < s) : (sredo S s y ov rs).2.refused = S.refused := by
  have h1 := sbring_rf (S := S) hM
  unfold sredo
  split
  · rfl
  · split
    · exact h1
    · exact (fl_rf _ _).trans h1
theorem SOut.rf {x : Int} (h : SOut S s x S') : S'.refused = S.refused := by
  rcases h with ⟨_, _, rfl⟩ | ⟨hsup, hf, k⟩
  · rfl
  · have hgeo := stOpen_geo hsup
    have ho := lopen_rf S s 1 (((lyOf (S.now 0)).log : Nat) : Int)
    rcases k with ⟨_, _, rfl⟩ | ⟨z1, rs, hd, hta, k⟩
    · exact ho
    · rcases k with ⟨_, _, rfl⟩ | ⟨ov, hov, k⟩
      · exact ho
      · have h512 := rdAll_512 hov (fun q hq => by cases hq)
        have hr := (sredo_rf (S := (lopen S s 1 (((lyOf (S.now 0)).log : Nat) : Int)).2) (s := s) (y := lyOf (S.now 0)) (ov := ov) (rs := rs) (fun q hq => by have := (h512 q hq).1; omega)).trans ho
        rcases k with ⟨_, _, rfl⟩ | ⟨_, _, rfl⟩
        · exact hr
        · exact (start_rf (by show 1 + 1 < s; omega)).trans hr
end
end Go.Proofs.YtokcgifpljeoiaaGreat
end

section
namespace Go.Proofs.YtokcgifpljeoiaaGreat
open Go.RowKit

theorem lebN_le : ∀ (n m : Nat), m < 2 ^ (8 * n) → le (leb n m) = m
  | 0, m, h => by
    have : m = 0 := by simpa using h
    subst this
    rfl
  | n + 1, m, h => by
    have e : 2 ^ (8 * (n + 1)) = 2 ^ (8 * n) * 256 := by rw [Nat.mul_succ, Nat.pow_add]
    have h2 : m / 256 < 2 ^ (8 * n) := by rw [Nat.div_lt_iff_lt_mul (by omega), ← e]; exact h
    show (((m % 256 : Nat) : Int).toNat + 256 * le (leb n (m / 256))) = m
    rw [lebN_le n (m / 256) h2]
    omega
theorem pc_full {old : List Int} (ho : old.length = 512) {E P i c : Nat} {l : List Int} (hl : l.length ≤ 492) (hE : E < 4294967296) (hP : P < 4294967296) (hi : i < 65536) (hc : c < 65536) : pcOf (sseal old (pbody E P i c l)).1 = ⟨E, P, i, c, l⟩ := by
  have hlen : (pbody E P i c l).length = 12 + l.length := by unfold pbody; simp [leb_len]; omega
  rw [sseal_ok ho (by omega)]
  have h1 := sopen_form (turnOf (old.getD 0 0) (old.getD 511 0)) (pbody E P i c l) (by omega) (by have := turnOf_le (old.getD 0 0) (old.getD 511 0); omega)
  have h2 := sopens_some (by have := (sseal_full (body := pbody E P i c l) ho (by omega)).2; rw [sseal_ok ho (by omega)] at this; exact this) h1
  unfold pcOf
  rw [if_neg (by rw [h2]; show ¬ ((0 : Nat) ≠ 0 ∨ (pbody E P i c l).length < 12); omega), h2]
  show pcBody (pbody E P i c l) = _
  have e4 : (leb 4 E).length = 4 := leb_len 4 E
  have p4 : (leb 4 P).length = 4 := leb_len 4 P
  have i2 : (leb 2 i).length = 2 := leb_len 2 i
  have c2 : (leb 2 c).length = 2 := leb_len 2 c
  have d4 : (pbody E P i c l).drop 4 = leb 4 P ++ (leb 2 i ++ (leb 2 c ++ l)) := by unfold pbody; rw [List.drop_left' e4]
  have d8 : (pbody E P i c l).drop 8 = leb 2 i ++ (leb 2 c ++ l) := by rw [show 8 = 4 + 4 by omega, ← List.drop_drop, d4, List.drop_left' p4]
  have d10 : (pbody E P i c l).drop 10 = leb 2 c ++ l := by rw [show 10 = 8 + 2 by omega, ← List.drop_drop, d8, List.drop_left' i2]
  have d12 : (pbody E P i c l).drop 12 = l := by rw [show 12 = 10 + 2 by omega, ← List.drop_drop, d10, List.drop_left' c2]
  have t0 : (pbody E P i c l).take 4 = leb 4 E := by unfold pbody; rw [List.take_left' e4]
  unfold pcBody
  rw [t0, d4, d8, d10, d12, List.take_left' p4, List.take_left' i2, List.take_left' c2, lebN_le 4 E hE, lebN_le 4 P hP, lebN_le 2 i hi, lebN_le 2 c hc]

/-- The pieces of a record that lies at P. -/
def recPcs (E P : Nat) (d : List Int) : List PC := (List.range (cntOf d.length)).map (fun i => ⟨E, P + i, i, cntOf d.length, partOf d i⟩)
/-- The pieces of records, one behind the other from P on. -/
def pcsOf (E : Nat) : Nat → List (List Int) → List PC
  | _, [] => []
  | P, d :: r => recPcs E P d ++ pcsOf E (P + cntOf d.length) r
/-- How many sectors records take. -/
def lenOf : List (List Int) → Nat
  | [] => 0
  | d :: r => cntOf d.length + lenOf r

theorem recPcs_len (E P : Nat) (d : List Int) : (recPcs E P d).length = cntOf d.length := by simp [recPcs]
theorem recPcs_at {E P i : Nat} {d : List Int} (hi : i < cntOf d.length) : (recPcs E P d)[i]? = some ⟨E, P + i, i, cntOf d.length, partOf d i⟩ := by
  unfold recPcs
  rw [List.getElem?_map, List.getElem?_range hi]
  rfl
theorem pcsOf_at (E : Nat) : ∀ (ds : List (List Int)) (P m : Nat) (X : PC), (pcsOf E P ds)[m]? = some X → X.e = E ∧ X.p = P + m
  | [], _, _, _, h => by cases h
  | d :: r, P, m, X, h => by
    have h' : (recPcs E P d ++ pcsOf E (P + cntOf d.length) r)[m]? = some X := h
    by_cases hm : m < cntOf d.length
    · rw [List.getElem?_append_left (by rw [recPcs_len]; exact hm), recPcs_at hm] at h'
      cases h'
      exact ⟨rfl, rfl⟩
    · rw [List.getElem?_append_right (by rw [recPcs_len]; omega), recPcs_len] at h'
      have := pcsOf_at E r _ _ _ h'
      exact ⟨this.1, by rw [this.2]; omega⟩
theorem parts_join (d : List Int) : ∀ k, ((List.range k).flatMap (partOf d)) = d.take (492 * k)
  | 0 => by simp
  | k + 1 => by
    rw [List.range_succ, List.flatMap_append, parts_join d k]
    simp only [List.flatMap_cons, List.flatMap_nil, List.append_nil]
    unfold partOf
    rw [show 492 * (k + 1) = 492 * k + 492 by omega, List.take_add]
theorem cnt_bounds {d : List Int} (h1 : 1 ≤ d.length) (h2 : d.length ≤ 8364) : 1 ≤ cntOf d.length ∧ cntOf d.length ≤ 17 ∧ d.length ≤ 492 * cntOf d.length ∧ 492 * cntOf d.length < d.length + 492 := by
  unfold cntOf
  omega
theorem rec_of {R : Nat → PC} {E T : Nat} {d : List Int} (h1 : 1 ≤ d.length) (h2 : d.length ≤ 8364) (hall : ∀ i, i < cntOf d.length → R (T + i) = ⟨E, T + i, i, cntOf d.length, partOf d i⟩) : Rec R E T (cntOf d.length) d := by
  obtain ⟨c1, c2, c3, c4⟩ := cnt_bounds h1 h2
  refine ⟨c1, c2, fun i hi => ?_, ?_⟩
  · rw [hall i hi]
    refine ⟨rfl, rfl, rfl, rfl, ?_, fun hne => ?_⟩
    · show 0 < (partOf d i).length
      rw [partOf_len]; unfold chLen; omega
    · show (partOf d i).length = 492
      rw [partOf_len]; unfold chLen; omega
  · unfold dataTo
    have e : (List.range (cntOf d.length)).flatMap (fun i => (R (T + i)).d) = (List.range (cntOf d.length)).flatMap (partOf d) := by
      rw [List.flatMap_def, List.flatMap_def]
      congr 1
      refine List.map_congr_left fun i hi => ?_
      rw [hall i (List.mem_range.1 hi)]
    rw [e, parts_join, List.take_of_length_le c3]

/-- What a ring tells, of which only the pieces of these records are of the epoch: the first so many of them, and all that lie there whole. -/
theorem tells_prefix {R : Nat → PC} {E : Nat} : ∀ (ds : List (List Int)) (T : Nat), (∀ d ∈ ds, 1 ≤ d.length ∧ d.length ≤ 8364) → (∀ P, T ≤ P → (R P).e = E → (R P).p = P → ∃ m : Nat, (pcsOf E T ds)[m]? = some (R P)) →
    ∃ k hd, k ≤ ds.length ∧ Tells R E T (ds.take k) hd ∧ (∀ c d, ¬ Rec R E hd c d) ∧ ∀ low, low ≤ ds.length → (∀ (m : Nat) (X : PC), m < lenOf (ds.take low) → (pcsOf E T ds)[m]? = some X → R (T + m) = X) → low ≤ k
  | [], T, _, only => by
    refine ⟨0, T, Nat.le_refl _, rfl, fun c d hr => ?_, fun low hl _ => hl⟩
    have h0 := hr.2.2.1 0 hr.1
    obtain ⟨m, hm⟩ := only T (Nat.le_refl _) (by simpa using h0.1) (by simpa using h0.2.1)
    cases hm
  | d :: r, T, hsz, only => by
    obtain ⟨s1, s2⟩ := hsz d (List.mem_cons_self ..)
    obtain ⟨c1, c2, c3, c4⟩ := cnt_bounds s1 s2
    have hpc : pcsOf E T (d :: r) = recPcs E T d ++ pcsOf E (T + cntOf d.length) r := rfl
    -- what is of the epoch is the piece of its place
    have is : ∀ i, i < cntOf d.length → (R (T + i)).e = E → (R (T + i)).p = T + i → R (T + i) = ⟨E, T + i, i, cntOf d.length, partOf d i⟩ := fun i hi h1 h2 => by
      obtain ⟨m, hm⟩ := only (T + i) (by omega) h1 h2
      have hp := (pcsOf_at E _ _ _ _ hm).2
      have em : m = i := by omega
      subst em
      rw [hpc, List.getElem?_append_left (by rw [recPcs_len]; exact hi), recPcs_at hi] at hm
      exact (Option.some.inj hm).symm
    by_cases hall : ∀ i, i < cntOf d.length → R (T + i) = ⟨E, T + i, i, cntOf d.length, partOf d i⟩
    · have hrec := rec_of s1 s2 hall
      obtain ⟨k, hd, k1, k2, k3, k4⟩ := tells_prefix r (T + cntOf d.length) (fun x hx => hsz x (List.mem_cons_of_mem _ hx)) (fun P hP h1 h2 => by
        obtain ⟨m, hm⟩ := only P (by omega) h1 h2
        have hp := (pcsOf_at E _ _ _ _ hm).2
        rw [hpc, List.getElem?_append_right (by rw [recPcs_len]; omega), recPcs_len] at hm
        exact ⟨_, hm⟩)
      refine ⟨k + 1, hd, by simp only [List.length_cons]; omega, ⟨_, hrec, k2⟩, k3, fun low hl hlow => ?_⟩
      cases low with
      | zero => exact Nat.zero_le _
      | succ low =>
        have := k4 low (by simp only [List.length_cons] at hl; omega) (fun m X hm hX => by
          have := hlow (cntOf d.length + m) X (by
            show cntOf d.length + m < cntOf d.length + lenOf (r.take low)
            omega) (by rw [hpc, List.getElem?_append_right (by rw [recPcs_len]; omega), recPcs_len, Nat.add_sub_cancel_left]; exact hX)
          rw [← this, Nat.add_assoc])
        omega
    · refine ⟨0, T, Nat.zero_le _, rfl, fun c x hr => hall (fun i hi => ?_), fun low hl hlow => ?_⟩
      · have h0 := hr.2.2.1 0 hr.1
        have hT := is 0 (by omega) (by simpa using h0.1) (by simpa using h0.2.1)
        have hc : c = cntOf d.length := by
          have := hr.count
          rw [show T = T + 0 by omega, hT] at this
          exact this.symm
        have hi' := hr.2.2.1 i (by omega)
        exact is i hi hi'.1 hi'.2.1
      · cases low with
        | zero => exact Nat.le_refl _
        | succ low =>
          exfalso
          refine hall (fun i hi => ?_)
          exact hlow i _ (by show i < cntOf d.length + lenOf (r.take low); omega) (by rw [hpc, List.getElem?_append_left (by rw [recPcs_len]; exact hi), recPcs_at hi])

theorem mod_ne {n a b : Nat} (_hn : 1 ≤ n) (h1 : a < b) (h2 : b < a + n) : a % n ≠ b % n := fun e => by
  have d1 := Nat.div_add_mod a n
  have d2 := Nat.div_add_mod b n
  rw [e] at d1
  have hq1 : n * (a / n) < n * (b / n) := by omega
  have hq2 : a / n < b / n := Nat.lt_of_mul_lt_mul_left hq1
  have hq3 : n * (a / n + 1) ≤ n * (b / n) := Nat.mul_le_mul_left _ hq2
  rw [Nat.mul_add, Nat.mul_one] at hq3
  omega

/-- A piece of a record. -/
def pieceOf (E P : Nat) (d : List Int) (i : Nat) : PC := ⟨E, P + i, i, cntOf d.length, partOf d i⟩
theorem aput_calm {S : DS} {s f n E P j c : Nat} {l : List Int} (hok : S.Ok s) (hf : S.fuse = -1) (hn : 1 ≤ n) (hs : f + 2 + n ≤ s) (hl : l.length ≤ 492) (hE : E < 4294967296) (hP : P < 4294967296) (hj : j < 65536) (hc : c < 65536) :
    (aput S s f n E P j c l).1 = 0 ∧ (aput S s f n E P j c l).2.fuse = -1 ∧ pcOf ((aput S s f n E P j c l).2.now (f + 2 + P % n)) = ⟨E, P, j, c, l⟩ ∧ ∀ b, b ≠ f + 2 + P % n → (aput S s f n E P j c l).2.now b = S.now b := by
  have hm : P % n < n := Nat.mod_lt _ hn
  have hf0 : S.fuse ≠ 0 := by omega
  have hold := now_len hok (f + 2 + P % n) (by omega)
  have hpc := pc_full hold (E := E) (P := P) (i := j) (c := c) hl hE hP hj hc
  have w3 := wr_now (S := S) (s := s) (k := f + 2 + P % n) hf0 (by omega) (sseal (S.now (f + 2 + P % n)) (pbody E P j c l)).1
  unfold aput
  rw [if_neg hf0]
  refine ⟨?_, wr_calm hf _ _ _ _, ?_, fun b hb => ?_⟩
  · unfold DS.wr
    rw [if_neg hf0, if_neg (by omega), if_neg (by omega)]
  · rw [w3, if_pos rfl]; exact hpc
  · rw [w3, if_neg hb]
/-- The laying of the first k pieces of a record, with power. -/
theorem appTo_laid {L : LG} {S : DS} {s : Nat} {d : List Int} (hok : S.Ok s) (hf : S.fuse = -1) (hn : 1 ≤ L.n) (hs : L.f + 2 + L.n ≤ s) (hE : L.ep < 4294967296) (hc : cntOf d.length ≤ 17) (hhi : L.head + 17 < 4294967296) : ∀ k, k ≤ cntOf d.length → k ≤ L.n →
    (appTo L S s d k).1 = 0 ∧ (appTo L S s d k).2.fuse = -1 ∧ (∀ i, i < k → pcOf ((appTo L S s d k).2.now (L.f + 2 + (L.head + i) % L.n)) = pieceOf L.ep L.head d i) ∧ ∀ b, (∀ i, i < k → b ≠ L.f + 2 + (L.head + i) % L.n) → (appTo L S s d k).2.now b = S.now b
  | 0, _, _ => ⟨rfl, hf, fun i hi => by omega, fun b _ => rfl⟩
  | k + 1, hk, hr => by
    obtain ⟨a1, a2, a3, a4⟩ := appTo_laid hok hf hn hs hE hc hhi k (by omega) (by omega)
    have hok2 := (appTo_far hok hn hs (d := d) k).1
    have e2 : appTo L S s d (k + 1) = aput (appTo L S s d k).2 s L.f L.n L.ep (L.head + k) k (cntOf d.length) (partOf d k) := stepsTo_ok a1
    rw [e2]
    generalize (appTo L S s d k).2 = T at *
    have hl : (partOf d k).length ≤ 492 := by unfold partOf; rw [List.length_take]; omega
    obtain ⟨b1, b2, b3, b4⟩ := aput_calm (E := L.ep) (P := L.head + k) (j := k) (c := cntOf d.length) hok2 a2 hn hs hl hE (by omega) (by omega) (by omega)
    refine ⟨b1, b2, fun i hi => ?_, fun b hb => ?_⟩
    · by_cases ei : i = k
      · subst ei; exact b3
      · have := mod_ne (n := L.n) hn (show L.head + i < L.head + k by omega) (by omega)
        rw [b4 _ (by omega)]
        exact a3 i (by omega)
    · rw [b4 b (hb k (by omega))]
      exact a4 b (fun i hi => hb i (by omega))

/-- A store that was opened just now: nothing pends, nothing is away from home, and the log is empty. -/
structure Clean (S : DS) (s : Nat) (y : LY) (L : LG) : Prop where
  ok : S.Ok s
  byt : S.Byt
  fu : S.fuse = -1
  p : S.puts = []
  sup : SupAt (S.now 0) s
  y' : lyOf (S.now 0) = y
  an : (snewest (S.now 1) (S.now (1 + 1))).2 = (L.ep * 4294967296, [], 0)
  e1 : 1 ≤ L.ep
  e2 : L.ep ≤ 1073741824
  ri : ∀ i, i < y.log → (pcOf (S.now (1 + 2 + i))).e ≠ L.ep
  f1 : L.f = 1
  n1 : L.n = y.log
  bg : L.begun = true
  tl : L.tail = 0
  hd : L.head = 0
  lf : L.life = S.life
theorem Clean.geo {S : DS} {s : Nat} {y : LY} {L : LG} (h : Clean S s y L) : y.home + y.blocks ≤ s ∧ 1 + 2 + y.log ≤ s ∧ 18 ≤ y.log ∧ y.log ≤ 256 ∧ y.blocks ≤ 2048 ∧ y.home = 3 + y.log := by
  have := stOpen_geo h.sup
  rw [h.y'] at this
  refine ⟨this.1, this.2.1, this.2.2.1, this.2.2.2.1, this.2.2.2.2, ?_⟩
  rw [← h.y']; rfl
/-- What a log tells in which just these pieces are of the newest epoch. -/
theorem tells_all {S : DS} {n E : Nat} {ds : List (List Int)} (hn : 1 ≤ n) (han : (snewest (S.now 1) (S.now (1 + 1))).2 = (E * 4294967296, [], 0)) (e1 : 1 ≤ E) (e2 : E ≤ 1073741824) (hsz : ∀ d ∈ ds, 1 ≤ d.length ∧ d.length ≤ 8364)
    (only : ∀ i, i < n → (pcOf (S.now (1 + 2 + i))).e = E → ∃ m : Nat, (pcsOf E 0 ds)[m]? = some (pcOf (S.now (1 + 2 + i)))) (all : ∀ (m : Nat) (X : PC), (pcsOf E 0 ds)[m]? = some X → pcOf (S.now (1 + 2 + m % n)) = X) : oNew S 1 = (E, 0, 0) ∧ ∃ hd, TellsAt S 1 n ds hd := by
  have hnew : oNew S 1 = (E, 0, 0) := by
    unfold oNew lnewest
    rw [han]
    rw [if_neg (by simp only [List.length_nil]; omega)]
    simp only [Prod.mk.injEq, and_true]
    omega
  refine ⟨hnew, ?_⟩
  obtain ⟨k, hd, k1, k2, k3, k4⟩ := tells_prefix (R := Rp (oRing S 1) n) (E := E) ds 0 hsz (fun P _ h1 _ => only (P % n) (Nat.mod_lt _ hn) h1)
  have hk : ds.length ≤ k := k4 ds.length (Nat.le_refl _) (fun m X _ hX => by rw [Nat.zero_add]; exact all m X hX)
  rw [List.take_of_length_le hk] at k2
  exact ⟨hd, by rw [hnew]; exact k2, by rw [hnew]; exact k3⟩
end Go.Proofs.YtokcgifpljeoiaaGreat
end

section
namespace Go.Proofs.YtokcgifpljeoiaaGreat
open Go.RowKit

theorem zipc_flat : ∀ (c : CM), (∀ q ∈ c, q.2.length = 512) → zipc (c.map (·.1)) (c.flatMap (·.2)) = c
  | [], _ => rfl
  | q :: r, h => by
    have hq : q.2.length = 512 := h q List.mem_cons_self
    rw [List.map_cons, List.flatMap_cons, zipc, List.take_left' hq, List.drop_left' hq, zipc_flat r (fun x hx => h x (List.mem_cons_of_mem _ hx))]
theorem names_at : ∀ (c : CM) (T : List Int) (i : Nat) (hi : i < c.length), ((c.flatMap (fun q => leb 4 q.1) ++ T).drop (4 * i)).take 4 = leb 4 c[i].1
  | [], _, i, hi => by simp at hi
  | q :: r, T, 0, _ => by
    rw [List.flatMap_cons, Nat.mul_zero, List.drop_zero, List.append_assoc, List.take_left' (leb_len 4 q.1)]
    rfl
  | q :: r, T, i + 1, hi => by
    rw [List.flatMap_cons, List.append_assoc, show 4 * (i + 1) = 4 + 4 * i by omega, ← List.drop_drop, List.drop_left' (leb_len 4 q.1), names_at r T i (by simpa using hi)]
    rfl
theorem rec_from {blocks : Nat} {c : CM} (ho : CM.Ok c) (hk : ∀ q ∈ c, q.1 < blocks ∧ q.2.length = 512) (hbl : blocks ≤ 2048) : ∀ (j i lo : Nat), i + j = c.length → (∀ (hi : i < c.length), lo ≤ c[i].1) →
    rdFrom blocks (recOf c) c.length ((c.take i).map (·.1)) lo i = some c
  | 0, i, lo, hj, _ => by
    obtain rfl : i = c.length := by omega
    have h512 : ∀ q ∈ c, q.2.length = 512 := fun q hq => (hk q hq).2
    rw [List.take_length, rdFrom_end (by simp) (recOf_len h512)]
    unfold recOf
    rw [← List.drop_drop, List.drop_left' (leb_len 2 _), List.drop_left' (names_len c), zipc_flat c h512]
  | j + 1, i, lo, hj, hlo => by
    have hi : i < c.length := by omega
    have h512 : ∀ q ∈ c, q.2.length = 512 := fun q hq => (hk q hq).2
    have hki := hk _ (List.getElem_mem hi)
    have e : le (((recOf c).drop (2 + 4 * i)).take 4) = c[i].1 := by
      unfold recOf
      rw [← List.drop_drop, List.drop_left' (leb_len 2 _), names_at c _ i hi, lebN_le 4 _ (by omega)]
    rw [rdFrom_step hi (recOf_len h512), e, if_pos ⟨hlo hi, hki.1⟩]
    have et : ((c.take i).map (·.1)) ++ [c[i].1] = (c.take (i + 1)).map (·.1) := by
      rw [List.take_succ_eq_append_getElem hi, List.map_append]
      rfl
    rw [et]
    refine rec_from ho hk hbl j (i + 1) (c[i].1 + 1) (by omega) (fun hi' => ?_)
    have := (List.pairwise_iff_getElem.1 ho) i (i + 1) hi hi' (by omega)
    omega
/-- What is read of a record is what it was made of. -/
theorem rdRec_recOf {blocks : Nat} {c : CM} (ho : CM.Ok c) (h1 : 1 ≤ c.length) (h16 : c.length ≤ 16) (hk : ∀ q ∈ c, q.1 < blocks ∧ q.2.length = 512) (hbl : blocks ≤ 2048) : rdRec blocks (recOf c) = some c := by
  have hl := recOf_len (fun q hq => (hk q hq).2)
  have e : le ((recOf c).take 2) = c.length := by
    unfold recOf
    rw [List.take_left' (leb_len 2 _), lebN_le 2 _ (by omega)]
  rw [rdRec_from (by omega) (by rw [e]; omega), e]
  have := rec_from ho hk hbl c.length 0 0 (by omega) (fun _ => Nat.zero_le _)
  simpa using this
theorem over_self : ∀ {c : CM}, CM.Ok c → ∀ k, CM.get (CM.over [] c) k = CM.get c k := by
  intro c ho k
  rw [CM.get_over nilOk k ho]
  cases CM.get c k <;> rfl
end Go.Proofs.YtokcgifpljeoiaaGreat
end
