import Derived.Test.YtokcgifpljeoiaaGreatV01
import Derived.Test.YtokcgifpljeoiaaGreatV17
import Derived.Test.YtokcgifpljeoiaaGreatV18
import Derived.Deep.OwnRows
section
namespace Go.Proofs.YtokcgifpljeoiaaGreat
open Go.RowKit

section
variable {S : DS} {s : Nat}
theorem spend_calm {S : DS} (h : S.fuse = -1) : S.spend.fuse = -1 := by
  unfold DS.spend
  simp only
  rw [if_neg (by omega)]
  exact h
theorem wr_calm {S : DS} (h : S.fuse = -1) (s : Nat) (x : Int) (n : Nat) (l : List Int) : (S.wr s x n l).2.fuse = -1 := by
  unfold DS.wr
  split
  · exact h
  · split
    · exact h
    · split
      · exact h
      · exact spend_calm h
theorem fl_calm {S : DS} (h : S.fuse = -1) (s : Nat) : (S.fl s).2.fuse = -1 := by
  unfold DS.fl
  split
  · exact h
  · exact spend_calm h
theorem stepsTo_calm {S : DS} (h : S.fuse = -1) {g : Nat → DS → Int × DS} (hg : ∀ k T, T.fuse = -1 → (g k T).2.fuse = -1) : ∀ n, (stepsTo S g n).2.fuse = -1
  | 0 => h
  | n + 1 => by
    unfold stepsTo
    split
    · exact stepsTo_calm h hg n
    · exact hg n _ (stepsTo_calm h hg n)
theorem awipe_calm {S : DS} (h : S.fuse = -1) (s f n : Nat) : (awipe S s f n).2.fuse = -1 := by
  have h1 : (wipeTo S s f (n + 2)).2.fuse = -1 := stepsTo_calm h (fun k T hT => wr_calm hT _ _ _ _) _
  unfold awipe
  split
  · exact h1
  · exact fl_calm h1 s
theorem anew_calm {S : DS} (h : S.fuse = -1) (s f : Nat) (num : Int) : (anew S s f num).2.fuse = -1 := by
  unfold anew
  split
  · exact h
  · split
    · exact h
    · split
      · exact wr_calm h _ _ _ _
      · exact fl_calm (wr_calm h _ _ _ _) _
theorem renew_whole {l r : List Int} (hl : l.length = 512) (hr : r.length = 512) {N : Nat} (h1 : 1 ≤ N) (hN : N < 9223372036854775808) (h : (snewest l r).2.1 < N) :
    (snewest (sput l r (srenew l r (N : Int) []).1 (srenew l r (N : Int) []).2.1).1 (sput l r (srenew l r (N : Int) []).1 (srenew l r (N : Int) []).2.1).2).2 = (N, [], 0) := by
  have e : (srenew l r (N : Int) []) = if (snewest l r).2.2.2 = 0 ∧ (snewest l r).1 = 0 then (1, sform (turnOf (r.getD 0 0) (r.getD 511 0)) (bytes8 N ++ []), 0) else (0, sform (turnOf (l.getD 0 0) (l.getD 511 0)) (bytes8 N ++ []), 0) := by
    unfold srenew
    rw [if_neg (by omega), if_neg (by omega), if_neg (by simp)]
    simp only
    rw [if_neg (by omega), Int.toNat_natCast]
  rw [e]
  by_cases q : (snewest l r).2.2.2 = 0 ∧ (snewest l r).1 = 0
  · rw [if_pos q]
    have := pair_new (data := []) hl hr hN h1 (by simp) h (t := turnOf (r.getD 0 0) (r.getD 511 0)) (by have := turnOf_le (r.getD 0 0) (r.getD 511 0); omega) 1 (by rw [if_pos q])
    simp only
    rw [this]
  · rw [if_neg q]
    have := pair_new (data := []) hl hr hN h1 (by simp) h (t := turnOf (l.getD 0 0) (l.getD 511 0)) (by have := turnOf_le (l.getD 0 0) (l.getD 511 0); omega) 0 (by rw [if_neg q])
    simp only
    rw [this]
theorem anew_whole {S : DS} {s f N : Nat} (h : S.Ok s) (hf : f + 1 < s) (h1 : 1 ≤ N) (hN : N < 9223372036854775808) (hlt : S.num f < N) (h0 : (anew S s f (N : Int)).1 = 0) : (snewest ((anew S s f (N : Int)).2.now f) ((anew S s f (N : Int)).2.now (f + 1))).2 = (N, [], 0) ∧ ∀ j, j < s → j ≠ f → j ≠ f + 1 → (anew S s f (N : Int)).2.now j = S.now j := by
  have hl := now_len h f (by omega)
  have hr := now_len h (f + 1) hf
  have hok := renew_ok hl hr h1 hlt
  have hp := renew_whole hl hr h1 hN hlt
  have hsl := srenew_slot (S.now f) (S.now (f + 1)) (N : Int) []
  have hfu := srenew_full (S.now f) (S.now (f + 1)) (N : Int) [] hok
  unfold anew at *
  split at h0
  · simp at h0
  · rename_i hfz
    rw [if_neg hfz]
    rw [if_neg (by omega)] at h0 ⊢
    generalize srenew (S.now f) (S.now (f + 1)) (N : Int) [] = Y at *
    rw [show (f : Int) + (Y.1 : Int) = ((f + Y.1 : Nat) : Int) by omega] at h0 ⊢
    have hw0 : (S.wr s ((f + Y.1 : Nat) : Int) 512 Y.2.1).1 = 0 := by rw [wr_in hfz (by omega)]
    rw [if_neg (by omega)] at h0 ⊢
    have hwo := wr_ok h hfz (show f + Y.1 < s by omega) hfu
    refine ⟨?_, fun j hj e1 e2 => ?_⟩
    · rw [fl_now hwo (by omega), fl_now hwo hf, wr_now hfz (by omega), wr_now hfz (by omega)]
      unfold sput at hp
      by_cases q : Y.1 = 0
      · rw [q] at hp ⊢
        rw [if_pos (by omega), if_neg (by omega)]
        rw [if_pos rfl] at hp
        exact hp
      · have q1 : Y.1 = 1 := by omega
        rw [q1] at hp ⊢
        rw [if_neg (by omega), if_pos rfl]
        rw [if_neg (by omega)] at hp
        exact hp
    · rw [fl_now hwo hj, wr_now hfz (by omega), if_neg (by omega)]

theorem sopens_zero : (sopens (zs 512)).2 ≠ 0 ∨ (sopens (zs 512)).1.length < 12 := by
  have hb : sbody (zs 512) = [] := by
    unfold sbody
    rw [show slen (zs 512) = 0 from by unfold slen; rw [show (zs 512).getD 1 0 = 0 from rfl, show (zs 512).getD 2 0 = 0 from rfl]; rfl]
    exact List.take_zero
  unfold sopens
  rw [if_neg (by rw [zs_len]; omega)]
  unfold sopen
  rw [hb]
  split
  · left; show (30 : Nat) ≠ 0; omega
  · rename_i b h
    right
    split at h
    · cases h; show (0 : Nat) < 12; omega
    · cases h
theorem fresh_piece : (pcOf (zs 512)).d = [] ∧ (pcOf (zs 512)).e = 0 := by
  unfold pcOf
  rw [if_pos sopens_zero]
  exact ⟨rfl, rfl⟩
theorem rtop_zero {R : Nat → PC} : ∀ k, (∀ i, i < k → (R i).e = 0) → rtop R k = 0
  | 0, _ => rfl
  | k + 1, h => by
    show (if (R k).e ≤ 1073741824 then max (rtop R k) (R k).e else rtop R k) = 0
    rw [h k (by omega), rtop_zero k (fun i hi => h i (by omega))]
    rfl
theorem awipe_zs {S : DS} {s f n : Nat} (h : S.Ok s) (hs : f + 2 + n ≤ s) (h0 : (awipe S s f n).1 = 0) : ∀ j, j < n + 2 → (awipe S s f n).2.now (f + j) = zs 512 := fun j hj => by
  obtain ⟨h1, h2, h3, h4⟩ := wipeTo_keeps (f := f) h (n := n + 2) (by omega) (n + 2) (Nat.le_refl _)
  unfold awipe at *
  by_cases e : (wipeTo S s f (n + 2)).1 = 0
  · rw [if_neg (by omega), fl_now h2 (by omega)]
    exact h4 e j hj
  · rw [if_pos e] at h0
    exact absurd h0 e

theorem format_calm (h : S.Ok s) (hf : S.fuse = -1) {a b : Nat} (hab : a + 2 + b ≤ s) (hb1 : 18 ≤ b) (hb2 : b ≤ 256) :
    (lformat S s a b).1 = 0 ∧ (lformat S s a b).2.fuse = -1 ∧ oNew (lformat S s a b).2 a = (1, 0, 0) ∧ ∀ j, j < b → (lformat S s a b).2.now (a + 2 + j) = zs 512 := by
  have hr0 : lrefuse S s (a : Int) (b : Int) = 0 := by
    unfold lrefuse
    rw [if_neg (by omega), if_neg (by omega), if_neg (by omega), if_neg (by omega)]
  unfold lformat
  rw [if_neg (by omega)]
  simp only [Int.toNat_natCast]
  have hok : S.take.Ok s := ⟨h.len, h.lo, h.hi, h.puts, h.fuse⟩
  obtain ⟨k1, k2, k3, k4⟩ := awipe_keeps (f := a) (n := b) hok hab
  have hc1 := awipe_calm (S := S.take) hf s a b
  have h0 := Decidable.byContradiction (fun e => by have := k3 e; omega)
  have hz := awipe_zs hok hab h0
  obtain ⟨q1, q2⟩ := k4 h0
  rw [if_neg (by omega)]
  have hr := renew_ok (now_len k2 a (by omega)) (now_len k2 (a + 1) (by omega)) (N := 4294967296) (by omega) (by show DS.num _ a < _; rw [q1]; omega)
  have hc2 : (anew (awipe S.take s a b).2 s a 4294967296).2.fuse = -1 := anew_calm hc1 s a _
  have h1 : (anew (awipe S.take s a b).2 s a 4294967296).1 = 0 := Decidable.byContradiction (fun e => by have h5 := (anew_err (num := 4294967296) (by omega) hr e).1; rw [hc2] at h5; omega)
  obtain ⟨w1, w2⟩ := anew_whole (s := s) (f := a) (N := 4294967296) k2 (by omega) (by omega) (by omega) (by rw [q1]; omega) h1
  refine ⟨h1, hc2, ?_, fun j hj => ?_⟩
  · unfold oNew lnewest
    generalize snewest ((anew (awipe S.take s a b).2 s a 4294967296).2.now a) ((anew (awipe S.take s a b).2 s a 4294967296).2.now (a + 1)) = X at *
    have w1 := w1
    rw [w1]
    decide
  · have := w2 (a + 2 + j) (by omega) (by omega) (by omega)
    refine Eq.trans this ?_
    rw [show a + 2 + j = a + (2 + j) by omega]
    exact hz (2 + j) (by omega)
theorem open_calm {a b : Nat} (_hok : S.Ok s) (hf : S.fuse = -1) (hab : a + 2 + b ≤ s) (hb1 : 18 ≤ b) (hb2 : b ≤ 256) (hn : oNew S a = (1, 0, 0)) (hz : ∀ j, j < b → S.now (a + 2 + j) = zs 512) :
    (lopen S s a b).1 = 0 ∧ (lopen S s a b).2.fuse = -1 ∧ (lopen S s a b).2.life = wrap64 (S.life + 1) ∧ (∀ rs hd, Tells (Rp (oRing S a) b) (oNew S a).1 (oNew S a).2.1 rs hd → rs = [] ∧ hd = 0) ∧ oTop S a b = 1 := by
  have hr0 : lrefuse S s (a : Int) (b : Int) = 0 := by
    unfold lrefuse
    rw [if_neg (by omega), if_neg (by omega), if_neg (by omega), if_neg (by omega)]
  have hR : ∀ j, j < b → (oRing S a j).e = 0 ∧ (oRing S a j).d = [] := fun j hj => by
    unfold oRing
    rw [hz j hj]
    exact ⟨fresh_piece.2, fresh_piece.1⟩
  have ht : oTop S a b = 1 := by
    unfold oTop
    rw [rtop_zero b (fun i hi => (hR i hi).1), hn]
    rfl
  have e1 : lopen S s (a : Int) (b : Int) = S.take.fl s := by
    unfold lopen
    rw [if_neg (by omega), Int.toNat_natCast, Int.toNat_natCast, if_neg (by rw [hn]; decide), if_neg (by omega)]
  rw [e1]
  have hc := fl_calm (S := S.take) hf s
  refine ⟨Decidable.byContradiction (fun e => by have := (fl_err e).2.1; have : S.take.fuse = -1 := hf; omega), hc, fl_life _ _, fun rs hd htl => ?_, ht⟩
  rw [hn] at htl
  cases rs with
  | nil => exact ⟨rfl, htl⟩
  | cons x xs =>
    obtain ⟨c, hc, _⟩ := htl
    have h1 := (hc.2.2.1 0 (by have := hc.1; omega)).2.2.2.2.1
    have h2 : Rp (oRing S a) b (0 + 0) = oRing S a 0 := by unfold Rp; rw [Nat.add_zero, Nat.zero_mod]
    rw [h2, (hR 0 (by omega)).2] at h1
    simp at h1
end
end Go.Proofs.YtokcgifpljeoiaaGreat
end

section
namespace Go.Proofs.YtokcgifpljeoiaaGreat
open Go.RowKit Go.Maps

/-! A disk with power without end: what Format and Open leave on it. -/
section
variable {S S2 : DS} {s h0 : Nat} {x : Int}
theorem sbring_calm : ∀ {ms : CM} {S : DS}, S.fuse = -1 → (sbring S s h0 ms).2.fuse = -1
  | [], _, h => h
  | q :: qs, S, h => by
    have h1 := wr_calm h s ((h0 + q.1 : Nat) : Int) 512 q.2
    unfold sbring
    split
    · exact h1
    · exact sbring_calm h1
theorem sbring_zs : ∀ {ms : CM} {S : DS}, S.fuse = -1 → (∀ q ∈ ms, h0 + q.1 < s ∧ q.2 = zs 512) → (∀ j, j < s → S.now j = zs 512) → ∀ j, j < s → (sbring S s h0 ms).2.now j = zs 512
  | [], _, _, _, hz => hz
  | q :: qs, S, h, hm, hz => by
    obtain ⟨m1, m2⟩ := hm q (List.mem_cons_self ..)
    have h2 : ∀ j, j < s → (S.wr s ((h0 + q.1 : Nat) : Int) 512 q.2).2.now j = zs 512 := fun j hj => by
      rw [wr_now (by omega) m1]
      split
      · exact m2
      · exact hz j hj
    unfold sbring
    split
    · exact h2
    · exact sbring_zs (wr_calm h s ((h0 + q.1 : Nat) : Int) 512 q.2) (fun x hx => hm x (List.mem_cons_of_mem _ hx)) h2
theorem zrow_in {n a : Nat} (hn : a + n ≤ s) : ∀ q ∈ zrow n, a + q.1 < s ∧ q.2 = zs 512 := fun q hq => by
  unfold zrow at hq
  obtain ⟨i, hi, rfl⟩ := List.mem_map.1 hq
  have := List.mem_range.1 hi
  exact ⟨by show a + i < s; omega, rfl⟩
theorem fl_done (hf : S.fuse = -1) : (S.fl s).1 = 0 := Decidable.byContradiction (fun e => by have := (fl_err e).2.1; omega)
theorem swipe_calm {a n : Nat} (hok : S.Ok s) (hf : S.fuse = -1) (hn : a + n ≤ s) (hz : ∀ j, j < s → S.now j = zs 512) : (swipe S s a n).1 = 0 ∧ (swipe S s a n).2.fuse = -1 ∧ (swipe S s a n).2.Ok s ∧ (swipe S s a n).2.puts = [] ∧ (∀ j, j < s → (swipe S s a n).2.now j = zs 512) := by
  obtain ⟨a1, _, _, a4⟩ := swipe_facts hok hn
  obtain ⟨_, _, b3, b4, _⟩ := sbring_facts (h0 := a) (ms := zrow n) hok (fun q hq => ⟨(zrow_in hn q hq).1, by rw [(zrow_in hn q hq).2]; exact zs_len 512⟩)
  have c1 := sbring_calm (s := s) (h0 := a) (ms := zrow n) hf
  have c3 := Decidable.byContradiction (fun e => by have := b4 e; omega)
  have e : swipe S s a n = (sbring S s a (zrow n)).2.fl s := by unfold swipe; rw [if_neg (fun h => h c3)]
  have d0 : (swipe S s a n).1 = 0 := by rw [e]; exact fl_done c1
  refine ⟨d0, by rw [e]; exact fl_calm c1 s, a1, a4 d0, fun j hj => ?_⟩
  rw [e, fl_now b3 hj]
  exact (sbring_zs (s := s) (h0 := a) hf (zrow_in hn) hz) j hj
theorem wr_far {k : Nat} (hk : k < s) (l : List Int) {j : Nat} (hj : j ≠ k) : (S.wr s (k : Int) 512 l).2.now j = S.now j := by
  by_cases hf : S.fuse = 0
  · unfold DS.wr
    rw [if_pos hf]
  · rw [wr_now hf hk, if_neg hj]
theorem wipeTo_far {f j : Nat} : ∀ k, f + k ≤ s → f + k ≤ j → (wipeTo S s f k).2.now j = S.now j
  | 0, _, _ => rfl
  | k + 1, h1, h2 => by
    have h3 : (wipeTo S s f k).2.now j = S.now j := wipeTo_far k (by omega) (by omega)
    show (stepsTo S _ (k + 1)).2.now j = _
    unfold stepsTo
    split
    · exact h3
    · exact (wr_far (k := f + k) (by omega) _ (by omega)).trans h3
theorem lformat_far {a b j : Nat} (hok : S.Ok s) (hab : a + 2 + b ≤ s) (hj : a + 2 + b ≤ j) (hjs : j < s) : (lformat S s (a : Int) (b : Int)).2.now j = S.now j := by
  have htk : S.take.Ok s := ⟨hok.len, hok.lo, hok.hi, hok.puts, hok.fuse⟩
  obtain ⟨_, k2, _, _⟩ := wipeTo_keeps (f := a) htk (n := b + 2) (by omega) (b + 2) (Nat.le_refl _)
  have h1 : (wipeTo S.take s a (b + 2)).2.now j = S.now j := wipeTo_far (S := S.take) (b + 2) (by omega) (by omega)
  have h2 : (awipe S.take s a b).2.now j = S.now j := by
    unfold awipe
    split
    · exact h1
    · exact (fl_now k2 hjs).trans h1
  obtain ⟨_, k3, _, _⟩ := awipe_keeps (f := a) (n := b) htk hab
  unfold lformat
  split
  · rfl
  · simp only [Int.toNat_natCast]
    split
    · exact h2
    · exact ((anew_far k3 (by omega) _).2 j (by omega) hjs).trans h2
theorem lebTake (n k : Nat) : (leb n k).take n = leb n k := List.take_of_length_le (by rw [leb_len]; omega)
/-- A superblock that was laid is read as it was laid. -/
theorem sup_read {a b c : Nat} (hg : Geo a b c) : SupAt (supOf a b c) a ∧ (lyOf (supOf a b c)).log = b ∧ (lyOf (supOf a b c)).home = 3 + b ∧ (lyOf (supOf a b c)).blocks = a - (3 + b) := by
  have hg' := hg
  obtain ⟨⟨h1, h2⟩, ⟨h3, h4⟩, h5, h6, h7⟩ := hg
  have hlen := sealed_sup a b c
  have hhead : headL.length = 8 := rfl
  have hp : ∀ q m, q + m ≤ 508 → part (sealed (supBody a b c)) q m = part (supBody a b c) q m := fun q m h => part_appl _ _ _ _ (by rw [supBody_len]; exact h)
  have q8 : u32 (sealed (supBody a b c)) 8 = a := by
    unfold u32
    rw [hp 8 4 (by omega)]
    unfold supBody
    rw [part_appl _ _ _ _ (by simp only [List.length_append, leb_len, hhead]; omega), part_appl _ _ _ _ (by simp only [List.length_append, leb_len, hhead]; omega), part_appl _ _ _ _ (by simp only [List.length_append, leb_len, hhead]; omega), part_app _ _ _ _ hhead.symm, lebTake, le_leb _ _ (by omega)]
  have q12 : u32 (sealed (supBody a b c)) 12 = b := by
    unfold u32
    rw [hp 12 4 (by omega)]
    unfold supBody
    rw [part_appl _ _ _ _ (by simp only [List.length_append, leb_len, hhead]; omega), part_appl _ _ _ _ (by simp only [List.length_append, leb_len, hhead]; omega), part_app _ _ _ _ (by simp only [List.length_append, leb_len, hhead]), lebTake, le_leb _ _ (by omega)]
  have q16 : u32 (sealed (supBody a b c)) 16 = c := by
    unfold u32
    rw [hp 16 4 (by omega)]
    unfold supBody
    rw [part_appl _ _ _ _ (by simp only [List.length_append, leb_len, hhead]; omega), part_app _ _ _ _ (by simp only [List.length_append, leb_len, hhead]), lebTake, le_leb _ _ (by omega)]
  have hb : Bytes (sealed (supBody a b c)) := (supBody_bytes _ _ _).append (leb_bytes _ _)
  refine ⟨⟨(super_iff hb hlen).2 ⟨?_, ?_⟩, q8⟩, ?_, ?_, ?_⟩
  · rw [q8, q12, q16]; exact hg'
  · rw [q8, q12, q16]
  · unfold lyOf; exact q12
  · unfold lyOf; show 3 + u32 _ 12 = _; rw [q12]
  · unfold lyOf; show u32 _ 8 - (3 + u32 _ 12) = _; rw [q8, q12]
/-- What a Format leaves on a new disk. -/
theorem sformat_calm {a b c : Nat} (hok : S.Ok a) (hby : S.Byt) (hf : S.fuse = -1) (hl0 : 0 ≤ S.life) (hl1 : S.life ≤ 1) (hg : Geo a b c) (hz : ∀ j, j < a → S.now j = zs 512) :
    (sformat S a a b c).1 = 0 ∧ (sformat S a a b c).2.fuse = -1 ∧ (sformat S a a b c).2.Ok a ∧ (sformat S a a b c).2.puts = [] ∧ (sformat S a a b c).2.now 0 = supOf a b c ∧ oNew (sformat S a a b c).2 1 = (1, 0, 0) ∧ ∀ j, 3 ≤ j → j < a → (sformat S a a b c).2.now j = zs 512 := by
  obtain ⟨⟨g1, g2⟩, ⟨g3, g4⟩, g5, g6, g7⟩ := hg
  have hg : Geo a b c := ⟨⟨g1, g2⟩, ⟨g3, g4⟩, g5, g6, g7⟩
  have htk : S.take.Ok a := ⟨hok.len, hok.lo, hok.hi, hok.puts, hok.fuse⟩
  have e0 : sformat S a a b c = sformed S a b c := by
    unfold sformat
    rw [if_neg (by omega)]
    haveI := geoDec (a : Int) (b : Int) (c : Int)
    rw [if_pos ⟨hg, rfl⟩, Int.toNat_natCast, Int.toNat_natCast]
  obtain ⟨a1, a2, a3, a4, a5⟩ := swipe_calm (s := a) (a := 0) (n := 1) htk hf (by omega) (fun j hj => hz j hj)
  have ab := swipe_byt hby.take a 0 1
  have al := swipe_lf S.take a 0 1
  have f1 : fmt1 S a = swipe S.take a 0 1 := rfl
  rw [← f1] at a1 a2 a3 a4 a5 ab al
  obtain ⟨b1, b2, b3, b4, b5⟩ := swipe_calm (s := a) (a := 1) (n := a - 1) a3 a2 (by omega) a5
  have bb := swipe_byt ab a 1 (a - 1)
  have bl := (swipe_lf (fmt1 S a).2 a 1 (a - 1)).trans al
  have f2 : fmt2 S a = swipe (fmt1 S a).2 a 1 (a - 1) := rfl
  rw [← f2] at b1 b2 b3 b4 b5 bb bl
  have hlt : S.take.life = S.life + 1 := by show wrap64 (S.life + 1) = _; unfold wrap64; omega
  obtain ⟨c1, c2, c3, c4⟩ := format_calm (a := 1) (b := b) b3 b2 (by omega) (by omega) (by omega)
  obtain ⟨d1, _, d3⟩ := lformat_facts (S := (fmt2 S a).2) (s := a) (t := 10) b3 (by omega) (by omega) (by omega) (by omega) b4 1 (b : Int)
  have dfar : ∀ j, 3 + b ≤ j → j < a → (lformat (fmt2 S a).2 a 1 (b : Int)).2.now j = zs 512 := fun j h1 h2 => (lformat_far (a := 1) (b := b) b3 (by omega) (by omega) h2).trans (b5 j h2)
  have c1 : (fmt3 S a b).1 = 0 := c1
  have c2 : (fmt3 S a b).2.fuse = -1 := c2
  have c3 : oNew (fmt3 S a b).2 1 = (1, 0, 0) := c3
  have c4 : ∀ j, j < b → (fmt3 S a b).2.now (1 + 2 + j) = zs 512 := c4
  have d1 : (fmt3 S a b).2.Ok a := d1
  have dfar : ∀ j, 3 + b ≤ j → j < a → (fmt3 S a b).2.now j = zs 512 := dfar
  have hsl : (supOf a b c).length = 512 := sealed_sup _ _ _
  have f4 : fmt4 S a b c = (fmt3 S a b).2.wr a ((0 : Nat) : Int) 512 (supOf a b c) := rfl
  have e1 : (fmt4 S a b c).1 = 0 := by rw [f4, wr_in (by omega) (by omega)]
  have e2 : (fmt4 S a b c).2.fuse = -1 := wr_calm c2 _ _ _ _
  have e3 : (fmt4 S a b c).2.Ok a := by rw [f4]; exact wr_ok d1 (by omega) (by omega) hsl
  have e4 : ∀ j, (fmt4 S a b c).2.now j = if j = 0 then supOf a b c else (fmt3 S a b).2.now j := fun j => by rw [f4]; exact wr_now (by omega) (by omega) _ j
  have e5 : sformed S a b c = (fmt4 S a b c).2.fl a := by
    unfold sformed
    rw [if_neg (fun h => h a1), if_neg (fun h => h b1), if_neg (fun h => h c1), if_neg (fun h => h e1)]
  rw [e0, e5]
  have hfl : ∀ j, j < a → ((fmt4 S a b c).2.fl a).2.now j = (fmt4 S a b c).2.now j := fun j hj => fl_now e3 hj
  refine ⟨fl_done e2, fl_calm e2 a, fl_ok e3, fl_zero (fl_done e2), ?_, ?_, fun j h1 h2 => ?_⟩
  · rw [hfl 0 (by omega), e4 0, if_pos rfl]
  · have o1 : ((fmt4 S a b c).2.fl a).2.now 1 = (fmt3 S a b).2.now 1 := by rw [hfl 1 (by omega), e4 1, if_neg (by omega)]
    have o2 : ((fmt4 S a b c).2.fl a).2.now 2 = (fmt3 S a b).2.now 2 := by rw [hfl 2 (by omega), e4 2, if_neg (by omega)]
    rw [← c3]
    unfold oNew
    rw [o1, o2]
  · rw [hfl j h2, e4 j, if_neg (by omega)]
    by_cases h3 : j < 3 + b
    · have := c4 (j - 3) (by omega)
      rwa [show 1 + 2 + (j - 3) = j by omega] at this
    · exact dfar j (by omega) h2
theorem start_calm5 {L : LG} (hf : S.fuse = -1) : (L.start S s).2.1.fuse = -1 := by
  unfold LG.start
  split
  · exact hf
  · split
    · exact hf
    · split <;> exact anew_calm hf _ _ _
theorem start_Llife {L : LG} : (L.start S s).2.2.life = L.life := by
  unfold LG.start
  split
  · rfl
  · split
    · rfl
    · split <;> rfl
theorem SLog.life {L : LG} (h : SLog S s L) : L.life = wrap64 (S.life + 1) := by
  obtain ⟨rs, hd, ov, _, _, rfl⟩ := h
  exact start_Llife
/-- What an Open makes of such a disk. -/
theorem sopen_calm (hok : S.Ok s) (hby : S.Byt) (hf : S.fuse = -1) (hsup : SupAt (S.now 0) s) (hn : oNew S 1 = (1, 0, 0)) (hz : ∀ j, j < (lyOf (S.now 0)).log → S.now (1 + 2 + j) = zs 512) (ho : SOut S s x S2) : x = 0 ∧ S2.fuse = -1 ∧ ∀ j, 3 ≤ j → j < s → S2.now j = S.now j := by
  have hgeo := stOpen_geo hsup
  obtain ⟨c1, c2, c3, c4, c5⟩ := open_calm (a := 1) (b := (lyOf (S.now 0)).log) hok hf (by omega) (by omega) (by omega) hn hz
  have c1' : (lopen S s 1 (((lyOf (S.now 0)).log : Nat) : Int)).1 = 0 := c1
  obtain ⟨_, z2, z3, hlo⟩ := lopen_zero (f := 1) c1'
  have hlo' : lopen S s 1 (((lyOf (S.now 0)).log : Nat) : Int) = S.take.fl s := hlo
  have htk : S.take.Ok s := ⟨hok.len, hok.lo, hok.hi, hok.puts, hok.fuse⟩
  rcases ho with ⟨hl, n1, rfl⟩ | ⟨_, _, k⟩
  · exfalso
    rcases hl with ⟨a1, _, _⟩ | ⟨_, _, _, e⟩ | ⟨_, a2, _, _⟩
    · omega
    · exact n1 e
    · exact a2 hsup
  · rcases k with ⟨e1, m1, _⟩ | ⟨_, rs, hd, hta, k⟩
    · exact absurd (e1.symm.trans c1') m1
    · obtain ⟨rfl, rfl⟩ := c4 rs hd hta.t
      rcases k with ⟨a1, _, _⟩ | ⟨ov, hov, k⟩
      · cases a1
      · have hr : sredo (lopen S s 1 (((lyOf (S.now 0)).log : Nat) : Int)).2 s (lyOf (S.now 0)) ov [] = (0, (lopen S s 1 (((lyOf (S.now 0)).log : Nat) : Int)).2) := by unfold sredo; rw [if_pos rfl]
        rw [hr] at k
        rcases k with ⟨a1, a2, _⟩ | ⟨_, a2, rfl⟩
        · exact absurd a1.symm a2
        · have hlok := lgOf_ok (s := s) hta hby z2 z3 (by omega) (by omega) (by omega)
          have hnt : S.num 1 < ((lgOf S 1 (lyOf (S.now 0)).log 0).top + 1) * 4294967296 := num_top z2
          rw [hlo'] at a2 ⊢
          have hokP := fl_ok (s := s) htk
          have hnow : ∀ j, j < s → (S.take.fl s).2.now j = S.now j := fun j hj => fl_now (S := S.take) htk hj
          have hnum : (S.take.fl s).2.num (lgOf S 1 (lyOf (S.now 0)).log 0).f < ((lgOf S 1 (lyOf (S.now 0)).log 0).top + 1) * 4294967296 := by
            show (S.take.fl s).2.num 1 < _
            rw [num_eq (S := S) (S' := (S.take.fl s).2) (hnow 1 (by omega)) (hnow 2 (by omega))]
            exact hnt
          have hlf : (lgOf S 1 (lyOf (S.now 0)).log 0).life = (S.take.fl s).2.life := (fl_life S.take s).symm
          have hfP := fl_calm (S := S.take) hf s
          have hfu := start_calm5 (s := s) (L := lgOf S 1 (lyOf (S.now 0)).log 0) hfP
          refine ⟨Decidable.byContradiction (fun e => ?_), hfu, fun j h1 h2 => ?_⟩
          · have := (start_err hokP hlok rfl hlf hnum (by show ((lgOf S 1 (lyOf (S.now 0)).log 0).start (S.take.fl s).2 s).1 ≠ 0; rw [a2]; exact e)).1
            omega
          · refine Eq.trans ?_ (hnow j h2)
            show ((lgOf S 1 (lyOf (S.now 0)).log 0).start (S.take.fl s).2 s).2.1.now j = _
            unfold LG.start
            split
            · rfl
            · split
              · rfl
              · split <;> exact (anew_far hokP (by show 1 + 1 < s; omega) _).2 j (by show 1 + 2 ≤ j; omega) h2
end
end Go.Proofs.YtokcgifpljeoiaaGreat
end

section
namespace Go.Proofs.YtokcgifpljeoiaaGreat
open Go.RowKit Go.Maps

/-! Nothing is asked of the disk that it refuses. -/
section
variable {S S' : DS} {s f : Nat} {L : LG} {G : SG}
end
end Go.Proofs.YtokcgifpljeoiaaGreat
end

section
namespace Go.Proofs.YtokcgifpljeoiaaGreat
open Go.RowKit

/-- The pieces of a record that lies at P. -/
def recPcs (E P : Nat) (d : List Int) : List PC := (List.range (cntOf d.length)).map (fun i => ⟨E, P + i, i, cntOf d.length, partOf d i⟩)
/-- The pieces of records, one behind the other from P on. -/
def pcsOf (E : Nat) : Nat → List (List Int) → List PC
  | _, [] => []
  | P, d :: r => recPcs E P d ++ pcsOf E (P + cntOf d.length) r
/-- How many sectors records take. -/
def lenOf : List (List Int) → Nat
  | [] => 0
  | d :: r => cntOf d.length + lenOf r

theorem recPcs_len (E P : Nat) (d : List Int) : (recPcs E P d).length = cntOf d.length := by simp [recPcs]
theorem recPcs_at {E P i : Nat} {d : List Int} (hi : i < cntOf d.length) : (recPcs E P d)[i]? = some ⟨E, P + i, i, cntOf d.length, partOf d i⟩ := by
  unfold recPcs
  rw [List.getElem?_map, List.getElem?_range hi]
  rfl
theorem pcsOf_at (E : Nat) : ∀ (ds : List (List Int)) (P m : Nat) (X : PC), (pcsOf E P ds)[m]? = some X → X.e = E ∧ X.p = P + m
  | [], _, _, _, h => by cases h
  | d :: r, P, m, X, h => by
    have h' : (recPcs E P d ++ pcsOf E (P + cntOf d.length) r)[m]? = some X := h
    by_cases hm : m < cntOf d.length
    · rw [List.getElem?_append_left (by rw [recPcs_len]; exact hm), recPcs_at hm] at h'
      cases h'
      exact ⟨rfl, rfl⟩
    · rw [List.getElem?_append_right (by rw [recPcs_len]; omega), recPcs_len] at h'
      have := pcsOf_at E r _ _ _ h'
      exact ⟨this.1, by rw [this.2]; omega⟩
theorem parts_join (d : List Int) : ∀ k, ((List.range k).flatMap (partOf d)) = d.take (492 * k)
  | 0 => by simp
  | k + 1 => by
    rw [List.range_succ, List.flatMap_append, parts_join d k]
    simp only [List.flatMap_cons, List.flatMap_nil, List.append_nil]
    unfold partOf
    rw [show 492 * (k + 1) = 492 * k + 492 by omega, List.take_add]
theorem cnt_bounds {d : List Int} (h1 : 1 ≤ d.length) (h2 : d.length ≤ 8364) : 1 ≤ cntOf d.length ∧ cntOf d.length ≤ 17 ∧ d.length ≤ 492 * cntOf d.length ∧ 492 * cntOf d.length < d.length + 492 := by
  unfold cntOf
  omega
theorem rec_of {R : Nat → PC} {E T : Nat} {d : List Int} (h1 : 1 ≤ d.length) (h2 : d.length ≤ 8364) (hall : ∀ i, i < cntOf d.length → R (T + i) = ⟨E, T + i, i, cntOf d.length, partOf d i⟩) : Rec R E T (cntOf d.length) d := by
  obtain ⟨c1, c2, c3, c4⟩ := cnt_bounds h1 h2
  refine ⟨c1, c2, fun i hi => ?_, ?_⟩
  · rw [hall i hi]
    refine ⟨rfl, rfl, rfl, rfl, ?_, fun hne => ?_⟩
    · show 0 < (partOf d i).length
      rw [partOf_len]; unfold chLen; omega
    · show (partOf d i).length = 492
      rw [partOf_len]; unfold chLen; omega
  · unfold dataTo
    have e : (List.range (cntOf d.length)).flatMap (fun i => (R (T + i)).d) = (List.range (cntOf d.length)).flatMap (partOf d) := by
      rw [List.flatMap_def, List.flatMap_def]
      congr 1
      refine List.map_congr_left fun i hi => ?_
      rw [hall i (List.mem_range.1 hi)]
    rw [e, parts_join, List.take_of_length_le c3]

/-- What a ring tells, of which only the pieces of these records are of the epoch: the first so many of them, and all that lie there whole. -/
theorem tells_prefix {R : Nat → PC} {E : Nat} : ∀ (ds : List (List Int)) (T : Nat), (∀ d ∈ ds, 1 ≤ d.length ∧ d.length ≤ 8364) → (∀ P, T ≤ P → (R P).e = E → (R P).p = P → ∃ m : Nat, (pcsOf E T ds)[m]? = some (R P)) →
    ∃ k hd, k ≤ ds.length ∧ Tells R E T (ds.take k) hd ∧ (∀ c d, ¬ Rec R E hd c d) ∧ ∀ low, low ≤ ds.length → (∀ (m : Nat) (X : PC), m < lenOf (ds.take low) → (pcsOf E T ds)[m]? = some X → R (T + m) = X) → low ≤ k
  | [], T, _, only => by
    refine ⟨0, T, Nat.le_refl _, rfl, fun c d hr => ?_, fun low hl _ => hl⟩
    have h0 := hr.2.2.1 0 hr.1
    obtain ⟨m, hm⟩ := only T (Nat.le_refl _) (by simpa using h0.1) (by simpa using h0.2.1)
    cases hm
  | d :: r, T, hsz, only => by
    obtain ⟨s1, s2⟩ := hsz d (List.mem_cons_self ..)
    obtain ⟨c1, c2, c3, c4⟩ := cnt_bounds s1 s2
    have hpc : pcsOf E T (d :: r) = recPcs E T d ++ pcsOf E (T + cntOf d.length) r := rfl
    -- what is of the epoch is the piece of its place
    have is : ∀ i, i < cntOf d.length → (R (T + i)).e = E → (R (T + i)).p = T + i → R (T + i) = ⟨E, T + i, i, cntOf d.length, partOf d i⟩ := fun i hi h1 h2 => by
      obtain ⟨m, hm⟩ := only (T + i) (by omega) h1 h2
      have hp := (pcsOf_at E _ _ _ _ hm).2
      have em : m = i := by omega
      subst em
      rw [hpc, List.getElem?_append_left (by rw [recPcs_len]; exact hi), recPcs_at hi] at hm
      exact (Option.some.inj hm).symm
    by_cases hall : ∀ i, i < cntOf d.length → R (T + i) = ⟨E, T + i, i, cntOf d.length, partOf d i⟩
    · have hrec := rec_of s1 s2 hall
      obtain ⟨k, hd, k1, k2, k3, k4⟩ := tells_prefix r (T + cntOf d.length) (fun x hx => hsz x (List.mem_cons_of_mem _ hx)) (fun P hP h1 h2 => by
        obtain ⟨m, hm⟩ := only P (by omega) h1 h2
        have hp := (pcsOf_at E _ _ _ _ hm).2
        rw [hpc, List.getElem?_append_right (by rw [recPcs_len]; omega), recPcs_len] at hm
        exact ⟨_, hm⟩)
      refine ⟨k + 1, hd, by simp only [List.length_cons]; omega, ⟨_, hrec, k2⟩, k3, fun low hl hlow => ?_⟩
      cases low with
      | zero => exact Nat.zero_le _
      | succ low =>
        have := k4 low (by simp only [List.length_cons] at hl; omega) (fun m X hm hX => by
          have := hlow (cntOf d.length + m) X (by
            show cntOf d.length + m < cntOf d.length + lenOf (r.take low)
            omega) (by rw [hpc, List.getElem?_append_right (by rw [recPcs_len]; omega), recPcs_len, Nat.add_sub_cancel_left]; exact hX)
          rw [← this, Nat.add_assoc])
        omega
    · refine ⟨0, T, Nat.zero_le _, rfl, fun c x hr => hall (fun i hi => ?_), fun low hl hlow => ?_⟩
      · have h0 := hr.2.2.1 0 hr.1
        have hT := is 0 (by omega) (by simpa using h0.1) (by simpa using h0.2.1)
        have hc : c = cntOf d.length := by
          have := hr.count
          rw [show T = T + 0 by omega, hT] at this
          exact this.symm
        have hi' := hr.2.2.1 i (by omega)
        exact is i hi hi'.1 hi'.2.1
      · cases low with
        | zero => exact Nat.le_refl _
        | succ low =>
          exfalso
          refine hall (fun i hi => ?_)
          exact hlow i _ (by show i < cntOf d.length + lenOf (r.take low); omega) (by rw [hpc, List.getElem?_append_left (by rw [recPcs_len]; exact hi), recPcs_at hi])

/-- A store that was opened just now: nothing pends, nothing is away from home, and the log is empty. -/
structure Clean (S : DS) (s : Nat) (y : LY) (L : LG) : Prop where
  ok : S.Ok s
  byt : S.Byt
  fu : S.fuse = -1
  p : S.puts = []
  sup : SupAt (S.now 0) s
  y' : lyOf (S.now 0) = y
  an : (snewest (S.now 1) (S.now (1 + 1))).2 = (L.ep * 4294967296, [], 0)
  e1 : 1 ≤ L.ep
  e2 : L.ep ≤ 1073741824
  ri : ∀ i, i < y.log → (pcOf (S.now (1 + 2 + i))).e ≠ L.ep
  f1 : L.f = 1
  n1 : L.n = y.log
  bg : L.begun = true
  tl : L.tail = 0
  hd : L.head = 0
  lf : L.life = S.life
/-- What a log tells in which just these pieces are of the newest epoch. -/
theorem tells_all {S : DS} {n E : Nat} {ds : List (List Int)} (hn : 1 ≤ n) (han : (snewest (S.now 1) (S.now (1 + 1))).2 = (E * 4294967296, [], 0)) (e1 : 1 ≤ E) (e2 : E ≤ 1073741824) (hsz : ∀ d ∈ ds, 1 ≤ d.length ∧ d.length ≤ 8364)
    (only : ∀ i, i < n → (pcOf (S.now (1 + 2 + i))).e = E → ∃ m : Nat, (pcsOf E 0 ds)[m]? = some (pcOf (S.now (1 + 2 + i)))) (all : ∀ (m : Nat) (X : PC), (pcsOf E 0 ds)[m]? = some X → pcOf (S.now (1 + 2 + m % n)) = X) : oNew S 1 = (E, 0, 0) ∧ ∃ hd, TellsAt S 1 n ds hd := by
  have hnew : oNew S 1 = (E, 0, 0) := by
    unfold oNew lnewest
    rw [han]
    rw [if_neg (by simp only [List.length_nil]; omega)]
    simp only [Prod.mk.injEq, and_true]
    omega
  refine ⟨hnew, ?_⟩
  obtain ⟨k, hd, k1, k2, k3, k4⟩ := tells_prefix (R := Rp (oRing S 1) n) (E := E) ds 0 hsz (fun P _ h1 _ => only (P % n) (Nat.mod_lt _ hn) h1)
  have hk : ds.length ≤ k := k4 ds.length (Nat.le_refl _) (fun m X _ hX => by rw [Nat.zero_add]; exact all m X hX)
  rw [List.take_of_length_le hk] at k2
  exact ⟨hd, by rw [hnew]; exact k2, by rw [hnew]; exact k3⟩
end Go.Proofs.YtokcgifpljeoiaaGreat
end

section
namespace Go.Proofs.YtokcgifpljeoiaaGreat
open Go.RowKit

end Go.Proofs.YtokcgifpljeoiaaGreat
end

section
namespace Go.Proofs.YtokcgifpljeoiaaGreat
open Go.RowKit

theorem rtop_ge {R : Nat → PC} : ∀ {n i : Nat}, i < n → (R i).e ≤ 1073741824 → (R i).e ≤ rtop R n
  | 0, i, hi, _ => by omega
  | n + 1, i, hi, he => by
    unfold rtop
    by_cases e : i = n
    · subst e
      rw [if_pos he]
      omega
    · have := rtop_ge (R := R) (n := n) (i := i) (by omega) he
      split <;> omega
section
variable {S S1 : DS} {s : Nat} {x : Int}
theorem anew_flat {f : Nat} {num : Int} (h0 : (anew S s f num).1 = 0) : (anew S s f num).2.puts = [] := by
  unfold anew at *
  split at h0
  · cases h0
  · rename_i h1
    rw [if_neg h1]
    split at h0
    · rename_i h2
      exact absurd (by simpa using h0) h2
    · rename_i h2
      rw [if_neg h2]
      split at h0
      · rename_i h3
        exact absurd h0 h3
      · rename_i h3
        rw [if_neg h3]
        exact fl_zero h0
theorem sredo_calm {y : LY} {ov : CM} {rs : List (List Int)} (hf : S.fuse = -1) : (sredo S s y ov rs).2.fuse = -1 := by
  unfold sredo
  split
  · exact hf
  · split
    · exact sbring_calm hf
    · exact fl_calm (sbring_calm hf) s
/-- What the sectors hold behind a redo. -/
theorem sredo_now {y : LY} {ov : CM} {rs : List (List Int)} (hok : S.Ok s) (ho : CM.Ok ov) (hM : ∀ q ∈ ov, y.home + q.1 < s ∧ q.2.length = 512) (hnil : rs = [] → ov = []) (h0 : (sredo S s y ov rs).1 = 0) :
    (∀ b, y.home + b < s → (sredo S s y ov rs).2.now (y.home + b) = (CM.get ov b).getD (S.now (y.home + b))) ∧ ∀ j, j < y.home → j < s → (sredo S s y ov rs).2.now j = S.now j := by
  obtain ⟨b1, b2, b3, b4, b5⟩ := sbring_facts (h0 := y.home) (ms := ov) hok hM
  unfold sredo at *
  split at h0
  · rename_i hr
    rw [if_pos hr]
    rw [hnil hr]
    exact ⟨fun b _ => rfl, fun j _ _ => rfl⟩
  · rename_i hr
    rw [if_neg hr]
    split at h0
    · rename_i h1
      exact absurd h0 h1
    · rename_i h1
      rw [if_neg h1]
      have h1' : (sbring S s y.home ov).1 = 0 := Decidable.byContradiction h1
      refine ⟨fun b hb => ?_, fun j hj hjs => ?_⟩
      · rw [fl_now b3 hb]
        cases hg : CM.get ov b with
        | some c => exact sbring_at hok ho hM h1' hg
        | none =>
          refine b5 _ (fun q hq e => ?_)
          have : CM.get ov b = some q.2 := CM.get_of_mem ho (by rw [show b = q.1 by omega]; exact hq)
          rw [hg] at this
          cases this
      · rw [fl_now b3 hjs]
        exact b5 j (fun q hq e => by omega)
theorem lnewest_code (l r : List Int) : (lnewest l r).2.2 = 0 ∨ (lnewest l r).2.2 = 6 := by
  unfold lnewest
  split
  · exact .inr rfl
  · exact .inl rfl
theorem take_writes (S : DS) (s : Nat) : (S.take.fl s).2.writes = S.writes := by
  unfold DS.fl
  split <;> rfl

/-- What an Open of a disk on which nothing pends makes of it. -/
theorem SOut.clean (hok : S.Ok s) (hby : S.Byt) (hf : S.fuse = -1) (hp : S.puts = []) (hl0 : 0 ≤ S.life) (hl1 : S.life ≤ 900000000000000000) (h : SOut S s x S1) :
    (x ≠ 0 → ((x = 6 ∧ (¬ SupAt (S.now 0) s ∨ (oNew S 1).2.2 ≠ 0 ∨ ∃ rs hd, TellsAt S 1 (lyOf (S.now 0)).log rs hd ∧ rdAll (lyOf (S.now 0)).blocks [] rs = none)) ∨ (x = 41 ∧ oTop S 1 (lyOf (S.now 0)).log = 1073741824)) ∧ S1.writes = S.writes) ∧
    (x = 0 → ∀ L, SLog S s L → Clean S1 s (lyOf (S.now 0)) L ∧ L.ep = oTop S 1 (lyOf (S.now 0)).log + 1 ∧ (∀ i, i < (lyOf (S.now 0)).log → S1.now (1 + 2 + i) = S.now (1 + 2 + i)) ∧ ∃ rs hd ov, TellsAt S 1 (lyOf (S.now 0)).log rs hd ∧ rdAll (lyOf (S.now 0)).blocks [] rs = some ov ∧ ∀ b, b < (lyOf (S.now 0)).blocks → S1.now ((lyOf (S.now 0)).home + b) = (CM.get ov b).getD (S.now ((lyOf (S.now 0)).home + b))) := by
  have hinv : V.Inv S s [] S.life.toNat := V.Inv.zero hok hby (by rw [hp]; rfl) hl0 (by omega)
  have hsop := hinv.sopen (by omega) h
  have hlife : x = 0 → ∀ L, SLog S s L → L.life = S1.life := fun h0 L hL => by
    rw [hL.life]
    rcases h.life with ⟨_, h9⟩ | h9
    · exact absurd h0 h9
    · exact h9.symm
  have hf0 : S.fuse ≠ 0 := by omega
  have htk : S.take.Ok s := ⟨hok.len, hok.lo, hok.hi, hok.puts, hok.fuse⟩
  rcases h with ⟨hl, n1, rfl⟩ | ⟨hsup, _, k⟩
  · refine ⟨fun _ => ⟨?_, rfl⟩, fun h0 => absurd h0 n1⟩
    rcases hl with ⟨a1, _, _⟩ | ⟨_, _, _, e⟩ | ⟨_, a2, _, e⟩
    · exact absurd a1 hf0
    · exact absurd e n1
    · exact .inl ⟨e, .inl a2⟩
  · have hgeo := stOpen_geo hsup
    have hhome : (lyOf (S.now 0)).home = 3 + (lyOf (S.now 0)).log := rfl
    obtain ⟨y, hy⟩ : ∃ y, y = lyOf (S.now 0) := ⟨_, rfl⟩
    unfold SLog at hsop hlife ⊢
    rw [← hy] at hgeo hhome k hsop hlife ⊢
    rcases k with ⟨e1, m1, rfl⟩ | ⟨z1, rs, hd, hta, k⟩
    · refine ⟨fun _ => ?_, fun h0 => absurd h0 m1⟩
      have hrf : lrefuse S s 1 (y.log : Int) = 0 := by
        unfold lrefuse
        rw [if_neg hf0, if_neg (by omega), if_neg (by omega), if_neg (by omega)]
      unfold lopen at e1 ⊢
      rw [if_neg (by rw [hrf]; exact fun h => h rfl)] at e1 ⊢
      split at e1
      · rename_i q
        rw [if_pos q]
        refine ⟨.inl ⟨?_, .inr (.inl q)⟩, rfl⟩
        rcases lnewest_code (S.now (1 : Int).toNat) (S.now ((1 : Int).toNat + 1)) with h9 | h9
        · exact absurd h9 q
        · rw [← e1]
          show (((oNew S (1 : Int).toNat).2.2 : Nat) : Int) = 6
          unfold oNew
          rw [h9]; rfl
      · rename_i q
        rw [if_neg q]
        split at e1
        · rename_i q2
          rw [if_pos q2]
          exact ⟨.inr ⟨e1.symm, by simpa using q2⟩, rfl⟩
        · exfalso
          apply m1
          rw [← e1]
          show (S.take.fl s).1 = 0
          exact fl_done (S := S.take) hf
    · obtain ⟨hlz1, hlz2, hlz3, hlz4⟩ := lopen_zero (f := 1) z1
      have hlo : lopen S s 1 (y.log : Int) = S.take.fl s := hlz4
      rw [hlo] at k hsop hlife ⊢
      have hz9 : (S.take.fl s).1 = 0 := by rw [← hlo]; exact z1
      rcases k with ⟨a1, rfl, rfl⟩ | ⟨ov, hov, k⟩
      · exact ⟨fun _ => ⟨.inl ⟨rfl, .inr (.inr ⟨rs, hd, hta, a1⟩)⟩, take_writes S s⟩, fun h0 => absurd h0 (by decide)⟩
      · have hp1 := fl_zero hz9
        have hok1 := fl_ok (s := s) htk
        have hfP := fl_calm (S := S.take) hf s
        have hwl : wrap64 (S.life + 1) = S.life + 1 := wrap_life hl0 (t := S.life.toNat) (by omega) (by omega)
        have hl1' : (S.take.fl s).2.life = S.life + 1 := (fl_life _ _).trans hwl
        have hn1 : ∀ i, i < s → (S.take.fl s).2.now i = S.now i := fun i hi => fl_now (S := S.take) htk hi
        have hnt : S.num 1 < ((lgOf S 1 y.log hd).top + 1) * 4294967296 := num_top hlz2
        have hlgl : (lgOf S 1 y.log hd).life = S.life + 1 := hwl
        have h512 := rdAll_512 hov (fun q hq => by cases hq)
        have hMk : ∀ q ∈ ov, y.home + q.1 < s ∧ q.2.length = 512 := fun q hq => ⟨by have := (h512 q hq).1; omega, (h512 q hq).2⟩
        have hovo : CM.Ok ov := rdAll_ok hov nilOk
        have hovl : ov.length ≤ 2048 := by
          have := hok.hi
          rcases CM.length_le (n := 2048) hovo (fun q hq => by have := (hMk q hq).1; omega) 0 (fun _ _ => Nat.zero_le _) with h1 | h1
          · omega
          · rw [h1]; simp
        have hnil : rs = [] → ov = [] := fun e => by
          rw [e] at hov
          exact (Option.some.inj hov).symm
        have hlok := lgOf_ok (s := s) hta hby hlz2 hlz3 (by omega) (by omega) (by omega)
        generalize S.take.fl s = P at *
        obtain ⟨r1, r2, r3, r4, r5, r6⟩ := sredo_facts (y := y) (rs := rs) hok1 hp1 hMk hovl (by omega) (by omega)
        have hrc := sredo_calm (s := s) (y := y) (ov := ov) (rs := rs) hfP
        have hrn := sredo_now (y := y) (ov := ov) (rs := rs) hok1 hovo hMk hnil
        rcases k with ⟨a1, a2, _⟩ | ⟨hz0, a2, rfl⟩
        · exfalso
          have := r3 (by rw [a1]; exact a2)
          omega
        · have hlogs : ∀ L, (∃ rs' hd' ov', TellsAt S 1 y.log rs' hd' ∧ rdAll y.blocks [] rs' = some ov' ∧ L = ((lgOf S 1 y.log hd').start (sredo P.2 s y ov' rs').2 s).2.2) → L = ((lgOf S 1 y.log hd).start (sredo P.2 s y ov rs).2 s).2.2 := fun L hL => by
            obtain ⟨rs', hd', ov', t2, o2, rfl⟩ := hL
            obtain ⟨rfl, rfl⟩ := hta.same t2
            obtain rfl : ov = ov' := Option.some.inj (hov.symm.trans o2)
            rfl
          obtain ⟨hr1, hr2⟩ := hrn hz0
          generalize sredo P.2 s y ov rs = Rd at *
          have hnumR : Rd.2.num (lgOf S 1 y.log hd).f < ((lgOf S 1 y.log hd).top + 1) * 4294967296 := by
            show Rd.2.num 1 < _
            rw [num_eq (S := S) (S' := Rd.2) ((r6 1 (by omega)).trans (hn1 1 (by omega))) ((r6 2 (by omega)).trans (hn1 2 (by omega)))]
            exact hnt
          have hlal : (lgOf S 1 y.log hd).life = Rd.2.life := by rw [hlgl, r2, hl1']
          have hfu := start_calm5 (s := s) (L := lgOf S 1 y.log hd) hrc
          have hx0 : x = 0 := Decidable.byContradiction (fun e => by
            have := (start_err r1 hlok rfl hlal hnumR (by rw [a2]; exact e)).1
            omega)
          refine ⟨fun e => absurd hx0 e, fun _ L hL => ?_⟩
          have hI := hsop.2 hx0 L hL
          have hlf := hlife hx0 L hL
          clear hsop hlife
          obtain rfl := hlogs L hL
          have htop : (lgOf S 1 y.log hd).top < 1073741824 := hlok.top
          have hs0 : ((lgOf S 1 y.log hd).start Rd.2 s).1 = 0 := a2.trans hx0
          have hnd : ¬ (lgOf S 1 y.log hd).dead Rd.2 = true := by
            unfold LG.dead
            rw [hlal, hrc]
            simp
          have eN : ((((lgOf S 1 y.log hd).top + 1 : Nat) : Int) * 4294967296 + ((0 : Nat) : Int)) = ((((lgOf S 1 y.log hd).top + 1) * 4294967296 : Nat) : Int) := by omega
          have hst : (lgOf S 1 y.log hd).start Rd.2 s = if (anew Rd.2 s 1 ((((lgOf S 1 y.log hd).top + 1) * 4294967296 : Nat) : Int)).1 ≠ 0 then ((anew Rd.2 s 1 ((((lgOf S 1 y.log hd).top + 1) * 4294967296 : Nat) : Int)).1, (anew Rd.2 s 1 ((((lgOf S 1 y.log hd).top + 1) * 4294967296 : Nat) : Int)).2, lgOf S 1 y.log hd) else (0, (anew Rd.2 s 1 ((((lgOf S 1 y.log hd).top + 1) * 4294967296 : Nat) : Int)).2, { lgOf S 1 y.log hd with begun := true, ep := (lgOf S 1 y.log hd).top + 1, tail := 0, head := 0 }) := by
            unfold LG.start
            rw [if_neg hnd, if_neg (by exact fun h => by cases h), eN]
            rfl
          have hring : ∀ i, i < y.log → (oRing S 1 i).e ≤ 1073741824 → (oRing S 1 i).e ≤ (lgOf S 1 y.log hd).top := fun i hi he => Nat.le_trans (rtop_ge hi he) (Nat.le_max_right _ _)
          generalize hLG : lgOf S 1 y.log hd = LL at *
          have hLf : LL.f = 1 := by rw [← hLG]; rfl
          have hLn : LL.n = y.log := by rw [← hLG]; rfl
          have ha0 : (anew Rd.2 s 1 (((LL.top + 1) * 4294967296 : Nat) : Int)).1 = 0 := by
            rw [hst] at hs0
            split at hs0
            · rename_i q; exact absurd hs0 q
            · rename_i q; exact Decidable.byContradiction q
          rw [if_neg (by rw [ha0]; exact fun h => h rfl)] at hst
          obtain ⟨w1, w2⟩ := anew_whole r1 (by omega) (by omega) (by omega) (by rw [hLf] at hnumR; exact hnumR) ha0
          have w3 := anew_flat ha0
          rw [hst] at hI hfu hlf ⊢
          generalize anew Rd.2 s 1 (((LL.top + 1) * 4294967296 : Nat) : Int) = A at *
          have hlow : ∀ j, j < y.home → j < s → Rd.2.now j = S.now j := fun j h1 h2 => (hr2 j h1 h2).trans (hn1 j h2)
          have h00 : A.2.now 0 = S.now 0 := (w2 0 (by omega) (by omega) (by omega)).trans (hlow 0 (by omega) (by omega))
          refine ⟨⟨hI.ok, hI.byt, hfu, w3, by show SupAt (A.2.now 0) s; rw [h00]; exact hsup, by show lyOf (A.2.now 0) = y; rw [h00]; exact hy.symm, w1, Nat.le_add_left 1 _, by show LL.top + 1 ≤ _; omega, fun i hi => ?_, hLf, hLn, rfl, rfl, rfl, ?_⟩, ?_, fun i hi => ?_, rs, hd, ov, hta, hov, fun b hb => ?_⟩
          · show (pcOf (A.2.now (1 + 2 + i))).e ≠ LL.top + 1
            rw [w2 _ (by omega) (by omega) (by omega), hlow _ (by omega) (by omega)]
            intro e
            have h9 := hring i hi (by show (pcOf (S.now (1 + 2 + i))).e ≤ _; omega)
            have h8 : (oRing S 1 i).e = LL.top + 1 := e
            omega
          · exact hlf
          · show LL.top + 1 = _
            rw [← hLG]
            rfl
          · show A.2.now (1 + 2 + i) = _
            rw [w2 _ (by omega) (by omega) (by omega), hlow _ (by omega) (by omega)]
          · show A.2.now (y.home + b) = _
            rw [w2 _ (by omega) (by omega) (by omega), hr1 b (by omega), hn1 _ (by omega)]
end
end Go.Proofs.YtokcgifpljeoiaaGreat
end

section
namespace Go.Proofs.YtokcgifpljeoiaaGreat
open Go.RowKit

section
variable {S S' S1 S2 : DS} {s : Nat} {y : LY} {L L' : LG} {x : Int} {c : CM} {busy : Bool}
theorem Clean.ready (h : Clean S s y L) : L.dead S = false ∧ L.unready S = 0 := by
  have h1 : L.dead S = false := by
    unfold LG.dead
    rw [h.lf, h.fu]
    simp
  refine ⟨h1, ?_⟩
  unfold LG.unready
  rw [h1, h.bg]
  rfl
end
end Go.Proofs.YtokcgifpljeoiaaGreat
end

section
namespace Go.Proofs.YtokcgifpljeoiaaGreat
open Go.RowKit Go.Maps

theorem fresh_now {s j : Nat} (hj : j < s) : (DS.fresh (List.replicate (s * 512) 0)).now j = zs 512 := by
  show dsec (List.replicate (s * 512) 0) j = zs 512
  unfold dsec zs
  rw [List.drop_replicate, List.take_replicate]
  congr 1
  omega
/-- What a new disk of 30 sectors is once it has been formatted. -/
structure Made30 (S : DS) : Prop where
  c : (sformat S 30 30 18 4).1 = 0
  f : (sformat S 30 30 18 4).2.fuse = -1
  i : V.Inv (sformat S 30 30 18 4).2 30 [] 3
  u : SupAt ((sformat S 30 30 18 4).2.now 0) 30
  l : (lyOf ((sformat S 30 30 18 4).2.now 0)).log = 18
  h : (lyOf ((sformat S 30 30 18 4).2.now 0)).home = 21
  b : (lyOf ((sformat S 30 30 18 4).2.now 0)).blocks = 9
  n : oNew (sformat S 30 30 18 4).2 1 = (1, 0, 0)
  z : ∀ j, 3 ≤ j → j < 30 → (sformat S 30 30 18 4).2.now j = zs 512
theorem made_30 {S : DS} (hok : S.Ok 30) (hby : S.Byt) (hp : S.puts.length = 0) (hf : S.fuse = -1) (hl : S.life = 1) (hz : ∀ j, j < 30 → S.now j = zs 512) : Made30 S := by
  have hg : Geo (30 : Nat) (18 : Nat) (4 : Nat) := by unfold Geo; decide
  obtain ⟨a1, a2, a3, a4, a5, a6, a7⟩ := sformat_calm (a := 30) (b := 18) (c := 4) hok hby hf (by omega) (by omega) hg hz
  obtain ⟨b1, b2, b3, b4⟩ := sup_read hg
  have hi : V.Inv S 30 [] 1 := V.Inv.zero hok hby hp (by omega) (by omega)
  have a5 : (sformat S 30 30 18 4).2.now 0 = supOf 30 18 4 := a5
  exact ⟨a1, a2, hi.sfmt (by omega) 30 18 4, by rw [a5]; exact b1, by rw [a5]; exact b2, by rw [a5]; exact b3, by rw [a5]; exact b4, a6, a7⟩
theorem begin_free0 {G : SG} {S : DS} (hd : G.L.dead S = false) (hb : G.busy = false) : G.begin S = 0 := by
  unfold SG.begin
  rw [hd, hb]
  rfl
theorem refusal_none {G : SG} {S : DS} {b : Int} (hd : G.L.dead S = false) (h0 : 0 ≤ b) (h1 : b < (G.y.blocks : Int)) : (⟨[], 0, false⟩ : TG).refusal G S b = 0 := by
  have e1 : (⟨[], 0, false⟩ : TG).over G S = 0 := by unfold TG.over; rw [hd]; rfl
  have e2 : (⟨[], 0, false⟩ : TG).state G S = 0 := by unfold TG.state; rw [e1]; rfl
  unfold TG.refusal
  rw [e2, if_neg (fun h => h rfl), if_neg (by omega)]
set_option maxRecDepth 20000 in
set_option maxHeartbeats 8000000 in
theorem made5_any (w : World) : Calls Tryz.prog 10 #[] w fun e w' => e = .returned (.bool true) ∧ Below w.heap.size w w' := by
  have k1 := new_ok 30 w (by omega) (by omega)
  rw [show ((30 : Nat) : Int) = 30 from rfl] at k1
  go_enter Tryz.func10, Tryz.ntmps10
  go_wp2_with fail
  refine k1.mono ?_
  rintro e w1 ⟨p, rfl, hd1, hb1⟩
  have hd1' : B.DiskR w1 (fun k => w.heap.size ≤ k ∧ k < w1.heap.size) p 30 (DS.fresh (List.replicate (30 * 512) 0)) 0 := ⟨0, hd1, fun _ => ⟨Int.le_refl _, Int.le_refl _⟩⟩
  have hm := made_30 hd1.ok ⟨Bytes.zeros _, fun q hq => by cases hq⟩ rfl rfl rfl (fun j hj => fresh_now hj)
  have hby : (DS.fresh (List.replicate (30 * 512) 0)).Byt := ⟨Bytes.zeros _, fun q hq => by cases hq⟩
  have hpu : (DS.fresh (List.replicate (30 * 512) 0)).puts.length = 0 := rfl
  generalize DS.fresh (List.replicate (30 * 512) 0) = S0 at *
  have hlo1 : ∀ k, (fun k => w.heap.size ≤ k ∧ k < w1.heap.size) k → w.heap.size ≤ k := fun k hk => hk.1
  have hlt1 : ∀ k, (fun k => w.heap.size ≤ k ∧ k < w1.heap.size) k → k < w1.heap.size := fun k hk => hk.2
  generalize (fun k => w.heap.size ≤ k ∧ k < w1.heap.size) = F1 at *
  have k2 := sformat_any hd1' hby 30 18 4 (by omega)
  obtain ⟨m1, m2, m3, m4, m5, m6, m7, m8, m9⟩ := hm
  rw [m1] at k2
  generalize (sformat S0 30 30 18 4).2 = S1 at *
  have HB1 := hb1
  have HI := m3
  have HZ := m9
  have HLo1 := hlo1
  have zz1 := hb1.size
  clear k1 hd1 hd1' hb1 hby hpu m1 m3 m9 hlo1
  go_wp2_with fail
  refine k2.mono ?_
  rintro e w2 ⟨rfl, hd2, hk2⟩
  have k3 := stOpen_any hd2 HI.byt (by have := HI.p6; omega)
  have HD2lt := hd2.lt
  have HK2 := hk2
  have zz2 := hk2.size
  clear k2 hd2 hk2
  go_wp2_with fail
  refine k3.mono ?_
  rintro e w3 ⟨x, S2, cR, _, hso, hk3, hcase⟩
  obtain ⟨n1, n2, n3⟩ := sopen_calm HI.ok HI.byt m2 m4 m8 (fun j hj => HZ (1 + 2 + j) (by omega) (by omega)) hso
  rcases hcase with ⟨hx, _⟩ | ⟨_, q, l, m, L, F', hsl, rfl, hF', hq, hl, hm', hst⟩
  · exact absurd n1 hx
  · have hlf : L.life = S2.life := by
      rw [hsl.life]
      rcases hso.life with ⟨_, h9⟩ | h9
      · exact absurd n1 h9
      · exact h9.symm
    have hdead : L.dead S2 = false := by
      unfold LG.dead
      rw [hlf, n2]
      simp
    have k4 := (sbegin_any hst).mono (fun e w' h => by unfold BegOut at h; rw [if_neg (fun h => h (begin_free0 hdead rfl))] at h; exact h)
    have hp2 := ((HI.sopen (by omega) hso).2 n1 L hsl).p6
    have HSt := hst
    have HSo := hso
    have HK3 := hk3
    have HF' := hF'
    have zz3 := hk3.size
    clear k3 hst hso hk3 hF' hsl n1
    go_wp2_with fail
    refine k4.mono ?_
    rintro e w4 ⟨t, n, rfl, hn4, ht4, htn, htx4, hch4, hst4, hk4⟩
    have hstW : StW w4 F' p 30 cR q l m S2 ⟨lyOf (S1.now 0), L, [], true⟩ := ⟨HSt.d.keep hk4 (fun g hg e => HSt.nq (e ▸ hg)), hst4, HSt.lp.keep hk4 (fun e => HSt.ql e.symm), HSt.ch.keep hk4 (fun e => HSt.qm e.symm), HSt.nq, HSt.nl, HSt.nm, HSt.ql, HSt.qm, HSt.lm, HSt.lk, HSt.bg, HSt.hs, HSt.kb⟩
    have hFl := HSt.d.lt
    have hql := HSt.st.lt
    have hll := HSt.lp.lt
    have hml := HSt.ch.lt
    have htW : TxW w4 F' q l m t n ⟨lyOf (S1.now 0), L, [], true⟩ ⟨[], 0, false⟩ := ⟨htx4, hch4, fun hx => by have := hFl _ hx; omega, fun hx => by have := hFl _ hx; omega, by omega, by omega, by omega, htn, by omega, by omega, by omega, fun x hx => by cases hx⟩
    have hrz : (⟨[], 0, false⟩ : TG).refusal ⟨lyOf (S1.now 0), L, [], true⟩ S2 8 = 0 := refusal_none hdead (by omega) (by show 8 < ((lyOf (S1.now 0)).blocks : Int); omega)
    have hse : (⟨[], 0, false⟩ : TG).sees ⟨lyOf (S1.now 0), L, [], true⟩ S2 (8 : Int).toNat = zs 512 := by
      show S2.now ((lyOf (S1.now 0)).home + 8) = zs 512
      rw [m6, n3 29 (by omega) (by omega)]
      exact HZ 29 (by omega) (by omega)
    have k5 := (Get_any hstW htW 8 (by omega)).mono (fun e w' h => by rw [hse] at h; unfold GetOut at h; rw [if_neg (fun h => h hrz)] at h; exact h)
    have HK4 := hk4
    have zz4 := hk4.size
    clear k4 htx4 hch4 hst4 hk4 hstW htW hrz hse
    go_wp2_with fail
    refine k5.mono ?_
    rintro e w5 ⟨⟨g5, rfl, hg5, hblk⟩, hd5, hk5⟩
    have HBk := hblk
    have hb5 : Below w.heap.size w w5 := by
      have f2 : ∀ g, more F1 w1 w2 g → w.heap.size ≤ g := fun g hg => hg.elim (HLo1 g) (fun h => by omega)
      have f3 := fun g hg => (HF' g hg).elim (f2 g) (fun h => by omega)
      exact (((HB1.trans (HK2.below HLo1 zz1)).trans (HK3.below f2 (by omega))).trans (HK4.below (fun g hg => by omega) (by omega))).trans (hk5.below f3 (by omega))
    have HB5 := hb5
    have zz5 := hk5.size
    clear k5 hblk hd5 hk5 hb5
    have hmk : (Instr.makeSlice 22 (.int .i64 512) (.int .i64 512)).run Tryz.prog w5 = .ok (.slice (some ⟨w5.heap.size, 0, none⟩) 512 512) (w5.alloc (.cells (madeCells #[.int .u8 0] 512) 5)) := run_make_row' (P := Tryz.prog) 22 5 (.int .u8 0) 1 Tryz.underlying22 infoU8 rfl .i64 .i64 512 (by omega) (by omega) w5
    obtain ⟨w6, hw6⟩ : ∃ w6, w6 = w5.alloc (.cells (madeCells #[.int .u8 0] 512) 5) := ⟨_, rfl⟩
    rw [← hw6] at hmk
    have hb6 : Below w5.heap.size w5 w6 := by rw [hw6]; exact below_box _ _
    have hr' : RowAt w6 5 w5.heap.size 512 (bs (zs 512)) := by
      rw [hw6]
      exact made_row (World.ownsRow_lit (base := w5.heap.size) w5 (madeCells #[.int .u8 0] 512) 512 (Nat.le_refl _) (by unfold maxLen; omega) (by simp [madeCells]))
    have hs6 : Src w6 (some ⟨w5.heap.size, 0, none⟩) 512 (zs 512) := by have := hr'.src; rwa [zs_len] at this
    have k6 := same_any (some ⟨g5, 0, none⟩) (some ⟨w5.heap.size, 0, none⟩) 512 512 512 (zs 512) w6 (by omega) (by
        have h9 := (HBk.keep (hb6.block g5 HBk.lt)).src (o := 0) (n := 512) (by have := zs_len 512; omega)
        rwa [List.drop_zero, List.take_of_length_le (by rw [zs_len]; omega)] at h9) hs6
    have HB6 := (HB5.trans (hb6.mono (by omega)))
    have zz6 := hb6.size
    clear hr' hb6 hs6 hw6
    go_wp2_with fail
    refine k6.mono ?_
    rintro e w7 ⟨rfl, hb7⟩
    have HB7 := (HB6.trans (hb7.mono (by omega)))
    clear k6 hb7
    go_wp2
    go_ret
    exact ⟨rfl, HB7⟩
end Go.Proofs.YtokcgifpljeoiaaGreat
end

section
namespace Go.Proofs.YtokcgifpljeoiaaGreat
open Go.RowKit Go.Maps

theorem wrapS {z : Int} (h0 : -4611686018427387904 ≤ z) (h1 : z ≤ 4611686018427387904) : wrap64 z = z := by
  unfold wrap64
  omega
/-- n turned into lo to hi. -/
def wthn (n : Int) (lo hi : Nat) : Nat := lo + (n.emod (hi - lo + 1 : Nat)).toNat
theorem wthn_in (n : Int) {lo hi : Nat} (h : lo ≤ hi) : lo ≤ wthn n lo hi ∧ wthn n lo hi ≤ hi := by
  unfold wthn
  have h1 : (0 : Int) < ((hi - lo + 1 : Nat) : Int) := by omega
  have h2 := Int.emod_nonneg n (by omega : ((hi - lo + 1 : Nat) : Int) ≠ 0)
  have h3 := Int.emod_lt_of_pos n h1
  have h4 : n.emod ((hi - lo + 1 : Nat) : Int) = n % ((hi - lo + 1 : Nat) : Int) := rfl
  omega
theorem tmod_emod {n : Int} {m : Nat} (hm : 0 < m) : (0 ≤ n.tmod m → n.tmod m = n % m) ∧ (n.tmod m < 0 → n.tmod m + m = n % m) := by
  have h0 : (m : Int) ≠ 0 := by omega
  have h1 := Int.emod_nonneg n h0
  have h2 := Int.emod_lt_of_pos n (by omega : (0 : Int) < m)
  have h3 := Int.tmod_add_mul_tdiv n m
  have h4 := Int.emod_add_mul_ediv n m
  have h5 : n.tmod m < m := Int.tmod_lt_of_pos n (by omega)
  have h6 : -(m : Int) < n.tmod m := Int.neg_lt_of_neg_lt (by
    have := Int.lt_tmod_of_pos n (by omega : (0 : Int) < m)
    omega)
  have key : ∀ r : Int, 0 ≤ r → r < m → ∀ q : Int, r + m * q = n → r = n % m := fun r hr0 hr1 q hq => by
    rw [← hq, Int.add_mul_emod_self_left, Int.emod_eq_of_lt hr0 hr1]
  refine ⟨fun h => key _ h h5 _ h3, fun h => key _ (by omega) (by omega) (n.tdiv m - 1) ?_⟩
  rw [Int.mul_sub]
  omega
set_option maxRecDepth 20000 in
theorem within5_any (n : Int) (lo hi : Nat) (h : lo ≤ hi) (hh : hi ≤ 1000000) (_hn : -9223372036854775808 ≤ n ∧ n ≤ 9223372036854775807) (w : World) : Calls Tryz.prog 15 #[.int .i64 n, .int .i64 (lo : Int), .int .i64 (hi : Int)] w fun e w' => e = .returned (.int .i64 (wthn n lo hi : Int)) ∧ w' = w := by
  obtain ⟨m, hm⟩ : ∃ m : Nat, m = hi - lo + 1 := ⟨_, rfl⟩
  have hr : (wthn n lo hi : Int) = (lo : Int) + n % (m : Int) := by
    have h2 := Int.emod_nonneg n (by omega : (m : Int) ≠ 0)
    unfold wthn
    rw [← hm]
    have h4 : n.emod (m : Int) = n % (m : Int) := rfl
    omega
  obtain ⟨t1, t2⟩ := tmod_emod (n := n) (m := m) (by omega)
  have h2 := Int.emod_nonneg n (by omega : (m : Int) ≠ 0)
  have h3 := Int.emod_lt_of_pos n (by omega : (0 : Int) < m)
  have hmi : (hi : Int) - (lo : Int) + 1 = (m : Int) := by omega
  have e4 : ((hi : Int) - (lo : Int) + 1 == 0) = false := by rw [hmi]; simpa using (by omega : (m : Int) ≠ 0)
  obtain ⟨R, hR⟩ : ∃ R : Int, R = n.tmod m := ⟨_, rfl⟩
  have e5 : n.tmod ((hi : Int) - (lo : Int) + 1) = R := by rw [hmi]; exact hR.symm
  rw [hr]
  rw [← hR] at t1 t2
  have hRb : -1000002 ≤ R ∧ R ≤ 1000002 := by
    by_cases q : 0 ≤ R
    · have := t1 q; omega
    · have := t2 (by omega); omega
  obtain ⟨V, hV⟩ : ∃ V : Int, V = (lo : Int) + n % (m : Int) := ⟨_, rfl⟩
  rw [← hV]
  by_cases q : 0 ≤ R
  · have q1 : ¬ R < 0 := by omega
    have e7 : (lo : Int) + R = V := by have := t1 q; omega
    have e8 : wrap64 V = V := wrapS (by omega) (by omega)
    clear hr t1 t2 h2 h3 hR hV q hm hmi
    go_enter Tryz.func15, Tryz.ntmps15
    go_wp2
    go_ret
    exact ⟨rfl, rfl⟩
  · have q1 : R < 0 := by omega
    obtain ⟨R2, hR2⟩ : ∃ R2 : Int, R + ((hi : Int) - (lo : Int) + 1) = R2 := ⟨_, rfl⟩
    have e6 : wrap64 R2 = R2 := wrapS (by omega) (by omega)
    have e7 : (lo : Int) + R2 = V := by have := t2 q1; omega
    have e8 : wrap64 V = V := wrapS (by omega) (by omega)
    clear hr t1 t2 h2 h3 hR hV q hm hmi
    go_enter Tryz.func15, Tryz.ntmps15
    go_wp2
    go_ret
    exact ⟨rfl, rfl⟩
end Go.Proofs.YtokcgifpljeoiaaGreat
end
