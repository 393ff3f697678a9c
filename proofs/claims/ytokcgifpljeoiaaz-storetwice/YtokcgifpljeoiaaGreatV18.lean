import Derived.Test.YtokcgifpljeoiaaGreatV01
import Derived.Test.YtokcgifpljeoiaaGreatV04
import Derived.Test.YtokcgifpljeoiaaGreatV05
import Derived.Test.YtokcgifpljeoiaaGreatV10
import Derived.Test.YtokcgifpljeoiaaGreatV11
import Derived.Test.YtokcgifpljeoiaaGreatV12
import Derived.Test.YtokcgifpljeoiaaGreatV13
import Derived.Test.YtokcgifpljeoiaaGreatV14
import Derived.Test.YtokcgifpljeoiaaGreatV16
import Derived.Test.YtokcgifpljeoiaaGreatV17
import Derived.Deep.RegionLaw
import Derived.BigRegion
section
namespace Go.Proofs.YtokcgifpljeoiaaGreat
open Go.RowKit

namespace V
/-- What holds of a disk and the logs opened on it, behind t steps. -/
structure Inv (S : DS) (s : Nat) (ls : List LG) (t : Nat) : Prop where
  ok : S.Ok s
  byt : S.Byt
  p6 : S.puts.length ≤ 6000
  p2 : S.fuse ≠ 0 → S.puts.length ≤ 256
  l0 : 0 ≤ S.life
  lt : S.life ≤ t
  ol : ∀ L ∈ ls, L.Ok s ∧ L.life ≤ S.life
  li : (ls.map LG.life).Pairwise (· < ·)
  al : ∀ L ∈ ls, L.life = S.life → S.fuse ≠ 0 → L.Fit S

theorem wrap_life {x : Int} {t : Nat} (h0 : 0 ≤ x) (h1 : x ≤ t) (ht : t ≤ 1000000000000000000) : wrap64 (x + 1) = x + 1 := by
  unfold wrap64
  omega

section
variable {S S' : DS} {s t i : Nat} {ls : List LG} {L L' : LG}

theorem Inv.zero (ok : S.Ok s) (byt : S.Byt) (hp : S.puts.length = 0) (l0 : 0 ≤ S.life) (lt : S.life ≤ t) : Inv S s [] t :=
  ⟨ok, byt, by omega, fun _ => by omega, l0, lt, fun _ h => (by cases h), List.Pairwise.nil, fun _ h => (by cases h)⟩
theorem Inv.step (h : Inv S s ls t) : Inv S s ls (t + 1) := ⟨h.ok, h.byt, h.p6, h.p2, h.l0, by have := h.lt; omega, h.ol, h.li, h.al⟩
/-- A new life: no log lives. -/
theorem Inv.next (h : Inv S s ls t) (ok : S'.Ok s) (byt : S'.Byt) (p6 : S'.puts.length ≤ 6000) (p2 : S'.fuse ≠ 0 → S'.puts.length ≤ 256) (hl : S'.life = S.life + 1) : Inv S' s ls (t + 1) := by
  refine ⟨ok, byt, p6, p2, by have := h.l0; omega, by have := h.lt; omega, fun L hL => ⟨(h.ol L hL).1, ?_⟩, h.li, fun L hL e => ?_⟩
  · have := (h.ol L hL).2; omega
  · have := (h.ol L hL).2; omega
theorem Inv.at (h : Inv S s ls t) (hi : ls[i]? = some L) : L.Ok s ∧ L.life ≤ S.life := h.ol L (List.mem_of_getElem? hi)
theorem lives_alone (h : (ls.map LG.life).Pairwise (· < ·)) (hi : ls[i]? = some L) {j : Nat} (hj : ls[j]? = some L') (e : L'.life = L.life) : j = i := by
  rw [List.pairwise_iff_getElem] at h
  obtain ⟨h1, e1⟩ := List.getElem?_eq_some_iff.1 hi
  obtain ⟨h2, e2⟩ := List.getElem?_eq_some_iff.1 hj
  rcases Nat.lt_trichotomy j i with h3 | h3 | h3
  · have := h j i (by simpa using h2) (by simpa using h1) h3
    simp only [List.getElem_map, e1, e2] at this
    omega
  · exact h3
  · have := h i j (by simpa using h1) (by simpa using h2) h3
    simp only [List.getElem_map, e1, e2] at this
    omega
/-- A step on the log that lives. -/
theorem Inv.on (h : Inv S s ls t) (hi : ls[i]? = some L) (ha : L.life = S.life) (ok : S'.Ok s) (byt : S'.Byt) (hl : S'.life = S.life) (p6 : S'.puts.length ≤ 6000) (ok' : L'.Ok s) (hl' : L'.life = L.life) (fit : S'.fuse ≠ 0 → L'.Fit S') : Inv S' s (ls.set i L') t := by
  have hlt := (List.getElem?_eq_some_iff.1 hi).1
  have hmem : ∀ M ∈ ls.set i L', M = L' ∨ ∃ j, j ≠ i ∧ ls[j]? = some M := fun M hM => by
    obtain ⟨j, hj⟩ := List.mem_iff_getElem?.1 hM
    by_cases e : j = i
    · subst e
      rw [List.getElem?_set_self hlt] at hj
      exact .inl (Option.some.inj hj).symm
    · rw [List.getElem?_set_ne (fun h => e h.symm)] at hj
      exact .inr ⟨j, e, hj⟩
  refine ⟨ok, byt, p6, fun hf => ?_, by have := h.l0; omega, by have := h.lt; omega, fun M hM => ?_, ?_, fun M hM e hf => ?_⟩
  · have := fit hf
    unfold LG.Fit at this
    have a1 := ok'.hn
    have a2 := ok'.n2
    cases hb : L'.begun with
    | true => have := (this.1 hb).1; omega
    | false => have := (this.2 hb).1; omega
  · rcases hmem M hM with rfl | ⟨j, _, hj⟩
    · exact ⟨ok', by omega⟩
    · have := h.at hj; exact ⟨this.1, by omega⟩
  · rw [List.map_set, hl']
    have : ls.map LG.life = (ls.map LG.life).set i L.life := by
      apply List.ext_getElem?
      intro j
      by_cases e : j = i
      · subst e; rw [List.getElem?_set_self (by simpa using hlt), List.getElem?_map, hi]; rfl
      · rw [List.getElem?_set_ne (fun h => e h.symm)]
    rw [← this]
    exact h.li
  · rcases hmem M hM with rfl | ⟨j, hne, hj⟩
    · exact fit hf
    · exact absurd (lives_alone h.li hi hj (by omega)) hne
theorem Inv.same (h : Inv S s ls t) (hi : ls[i]? = some L) : Inv S s (ls.set i L) t := by
  have : ls.set i L = ls := by
    apply List.ext_getElem?
    intro j
    by_cases e : j = i
    · subst e; rw [List.getElem?_set_self (List.getElem?_eq_some_iff.1 hi).1, hi]
    · rw [List.getElem?_set_ne (fun h => e h.symm)]
  rw [this]
  exact h

theorem dead_no (h : L.dead S = false) : L.life = S.life ∧ S.fuse ≠ 0 := by
  unfold LG.dead at h
  rw [Bool.or_eq_false_iff] at h
  have h1 := h.1
  rw [beq_eq_false_iff_ne] at h1
  have : S.life = L.life := by simpa using h.2
  exact ⟨this.symm, h1⟩
theorem unready_no (h : L.unready S = 0) : L.dead S = false ∧ L.begun = true := by
  unfold LG.unready at h
  split at h
  · omega
  · rename_i h1
    split at h
    · rename_i h2; exact ⟨by simpa using h1, h2⟩
    · omega
theorem num_fl {f : Nat} (h : S.Ok s) (hf : f + 1 < s) : (S.fl s).2.num f = S.num f := by
  unfold DS.num
  rw [fl_now h (by omega), fl_now h hf]

theorem Inv.take (h : Inv S s ls t) (ht : t ≤ 1000000000000000000) : Inv S.take s ls (t + 1) :=
  h.next ⟨h.ok.len, h.ok.lo, h.ok.hi, h.ok.puts, h.ok.fuse⟩ h.byt.take h.p6 h.p2 (wrap_life h.l0 h.lt ht)
theorem Inv.start (h : Inv S s ls t) (hi : ls[i]? = some L) (ok : (L.start S s).2.1.Ok s) : Inv (L.start S s).2.1 s (ls.set i (L.start S s).2.2) t := by
  unfold LG.start at *
  split
  · exact h.same hi
  · rename_i hd
    rw [if_neg hd] at ok
    obtain ⟨ha, hf⟩ := dead_no (by simpa using hd : L.dead S = false)
    split
    · exact h.same hi
    · rename_i hb
      rw [if_neg hb] at ok
      have hb' : L.begun = false := by simpa using hb
      have hL := (h.at hi).1
      have hfit := (h.al L (List.mem_of_getElem? hi) ha hf).2 hb'
      have hs := hL.s
      have hn := hL.n1
      have ht := hL.top
      have eN : (((L.top + 1 : Nat) : Int) * 4294967296 + ((0 : Nat) : Int)) = (((L.top + 1) * 4294967296 : Nat) : Int) := by omega
      rw [eN] at ok ⊢
      obtain ⟨N, hN⟩ : ∃ N, N = (L.top + 1) * 4294967296 := ⟨_, rfl⟩
      rw [← hN] at ok hfit ⊢
      have hr := renew_ok (now_len h.ok L.f (by omega)) (now_len h.ok (L.f + 1) (by omega)) (N := N) (by omega) hfit.2
      split
      · rename_i h0
        rw [if_pos h0] at ok
        obtain ⟨e1, e2⟩ := anew_err (by omega) hr h0
        dsimp only at ok ⊢
        exact h.on hi ha ok (h.byt.anew s L.f _) (anew_life _ _ _ _) (by omega) hL rfl (fun c => absurd e1 c)
      · rename_i h0
        rw [if_neg h0] at ok
        obtain ⟨e1, e2⟩ := anew_num (s := s) (f := L.f) (N := N) h.ok (by omega) (by omega) (by omega) hfit.2 (Decidable.of_not_not h0)
        dsimp only at ok ⊢
        refine h.on hi ha ok (h.byt.anew s L.f _) (anew_life _ _ _ _) (by rw [e2]; exact Nat.zero_le _) ⟨hs, hn, hL.n2, by show L.top + 1 ≤ _; omega, hL.top, Nat.le_refl _, by show 0 ≤ _; omega, by show 0 ≤ _; omega, fun _ => by show 0 ≤ _; omega⟩ rfl (fun _ => ⟨fun _ => ⟨by rw [e2]; exact Nat.zero_le _, ?_⟩, fun c => by cases c⟩)
        show (anew S s L.f (N : Int)).2.num L.f ≤ (L.top + 1) * 4294967296 + 0
        rw [e1]
        omega

theorem refuses_no (h : L.refuses S i = 0) : L.unready S = 0 ∧ 1 ≤ i ∧ i ≤ 8364 ∧ L.head + cntOf i ≤ 1073741824 ∧ L.head + cntOf i ≤ L.tail + L.n := by
  unfold LG.refuses at h
  repeat' split at h
  all_goals first | omega | (rename_i h1 h2 h3 h4 h5; exact ⟨by omega, by omega, by omega, by omega, by omega⟩)
theorem appTo_byt {d : List Int} (h : S.Byt) (hd : Bytes d) (k : Nat) : (appTo L S s d k).2.Byt :=
  stepsTo_byt h (fun j T hT => by
    unfold aput
    split
    · exact hT
    · exact hT.wr s _ _ (sseal_bytes (pbody_bytes ((hd.drop _).take _)))) k

theorem Inv.append (h : Inv S s ls t) (hi : ls[i]? = some L) {d : List Int} (hd : Bytes d) (ok : (L.append S s d).2.1.Ok s) : Inv (L.append S s d).2.1 s (ls.set i (L.append S s d).2.2) t := by
  unfold LG.append at *
  split
  · exact h.same hi
  · rename_i h1
    rw [if_neg h1] at ok
    obtain ⟨hu, hx1, hx2, hh, hr⟩ := refuses_no (Decidable.of_not_not h1)
    obtain ⟨hdd, hb⟩ := unready_no hu
    obtain ⟨ha, hf⟩ := dead_no hdd
    have hL := (h.at hi).1
    have hfit := (h.al L (List.mem_of_getElem? hi) ha hf).1 hb
    have hs := hL.s
    have hn := hL.n1
    have hn2 := hL.n2
    have hth := hL.th
    have hp2 := h.p2 hf
    have hc : cntOf d.length ≤ 17 := by unfold cntOf; omega
    obtain ⟨k1, k2, k3, k4⟩ := appTo_keeps (L := L) (S := S) (s := s) (d := d) (by omega) hs (cntOf d.length)
    have hby := appTo_byt (L := L) (s := s) h.byt hd (cntOf d.length)
    split
    · rename_i h0
      rw [if_pos h0] at ok
      dsimp only at ok ⊢
      exact h.on hi ha ok hby k1 (by omega) hL rfl (fun c => absurd (k3 h0) c)
    · rename_i h0
      rw [if_neg h0] at ok
      dsimp only at ok ⊢
      refine h.on hi ha ok hby k1 (by omega) ⟨hs, hn, hn2, hL.ep, hL.top, by show L.tail ≤ L.head + _; omega, by show L.head + _ ≤ _; omega, by show L.head + _ ≤ _; omega, fun _ => hh⟩ rfl (fun _ => ⟨fun _ => ⟨?_, ?_⟩, fun c => by rw [show ({ L with head := L.head + cntOf d.length } : LG).begun = L.begun from rfl, hb] at c; cases c⟩)
      · show _ ≤ L.head + cntOf d.length - L.tail
        omega
      · show DS.num _ L.f ≤ _
        unfold DS.num
        rw [k2 L.f (by omega), k2 (L.f + 1) (by omega)]
        exact hfit.2

theorem Inv.format (h : Inv S s ls t) (ht : t ≤ 1000000000000000000) (f n : Int) (ok : (lformat S s f n).2.Ok s) : Inv (lformat S s f n).2 s ls (t + 1) := by
  unfold lformat at *
  split
  · exact h.step
  · rename_i h1
    rw [if_neg h1] at ok
    obtain ⟨hf, a, b, rfl, rfl, hab, hb1, hb2⟩ := lrefuse_zero (Decidable.of_not_not h1)
    simp only [Int.toNat_natCast] at *
    have hlife := wrap_life h.l0 h.lt ht
    have hok : S.take.Ok s := ⟨h.ok.len, h.ok.lo, h.ok.hi, h.ok.puts, h.ok.fuse⟩
    obtain ⟨k1, k2, k3, k4⟩ := awipe_keeps (f := a) (n := b) hok hab
    have hp := awipe_puts S.take s a b
    have hp2 : S.take.puts.length ≤ 256 := h.p2 hf
    split
    · rename_i h0
      rw [if_pos h0] at ok
      exact h.next ok (h.byt.take.wipe s a b) (by omega) (fun c => absurd (k3 h0) c) (k1.trans hlife)
    · rename_i h0
      rw [if_neg h0] at ok
      obtain ⟨q1, q2⟩ := k4 (Decidable.of_not_not h0)
      have hr := renew_ok (now_len k2 a (by omega)) (now_len k2 (a + 1) (by omega)) (N := 4294967296) (by omega) (by show DS.num _ a < _; rw [q1]; omega)
      have hl2 := (anew_life (awipe S.take s a b).2 s a 4294967296).trans (k1.trans hlife)
      by_cases h3 : (anew (awipe S.take s a b).2 s a 4294967296).1 = 0
      · obtain ⟨e1, e2⟩ := anew_num (s := s) (f := a) (N := 4294967296) k2 (by omega) (by omega) (by omega) (by rw [q1]; omega) h3
        have e3 : (anew (awipe S.take s a b).2 s a 4294967296).2.puts.length = 0 := congrArg List.length e2
        exact h.next ok ((h.byt.take.wipe s a b).anew s a _) (by omega) (fun _ => by omega) hl2
      · obtain ⟨e1, e2⟩ := anew_err (by omega) hr h3
        rw [q2] at e2
        exact h.next ok ((h.byt.take.wipe s a b).anew s a _) (Nat.le_trans e2 (by simp)) (fun c => absurd e1 c) hl2

theorem Inv.open_no (h : Inv S s ls t) (ht : t ≤ 1000000000000000000) (f n : Int) (he : (lopen S s f n).1 ≠ 0) : Inv (lopen S s f n).2 s ls (t + 1) := by
  unfold lopen at *
  split
  · exact h.step
  · rename_i h1
    rw [if_neg h1] at he
    split
    · exact h.take ht
    · rename_i h2
      rw [if_neg h2] at he
      split
      · exact h.take ht
      · rename_i h3
        rw [if_neg h3] at he
        obtain ⟨e1, e2, _⟩ := fl_err he
        rw [e1]
        exact h.take ht

theorem Inv.opened (h : Inv S s ls t) (ht : t ≤ 1000000000000000000) (f n : Int) (ok : (lopen S s f n).2.Ok s) (he : (lopen S s f n).1 = 0) {hd : Nat} (h1 : (oNew S f.toNat).2.1 ≤ hd) (h2 : hd ≤ (oNew S f.toNat).2.1 + n.toNat) : Inv (lopen S s f n).2 s (ls ++ [LG.opened S f.toNat n.toNat hd]) (t + 1) := by
  unfold lopen at *
  split
  · rename_i k1; rw [if_pos k1] at he; exact absurd he k1
  · rename_i k1
    rw [if_neg k1] at ok he
    split
    · rename_i k2; rw [if_pos k2] at he; exact absurd (Int.ofNat_eq_zero.1 he) k2
    · rename_i k2
      rw [if_neg k2] at ok he
      split
      · rename_i k3; rw [if_pos k3] at he; cases he
      · rename_i k3
        rw [if_neg k3] at ok he
        obtain ⟨hf, a, b, rfl, rfl, hab, hb1, hb2⟩ := lrefuse_zero (Decidable.of_not_not k1)
        simp only [Int.toNat_natCast] at *
        have hlife := wrap_life h.l0 h.lt ht
        have hok : S.take.Ok s := ⟨h.ok.len, h.ok.lo, h.ok.hi, h.ok.puts, h.ok.fuse⟩
        have hp := fl_zero he
        have hl2 : (S.take.fl s).2.life = S.life + 1 := (fl_life _ _).trans hlife
        have hz := oNew_ok (Decidable.of_not_not k2)
        have hto := oTop_le (n := b) (Decidable.of_not_not k2)
        have hn := h.next ok (h.byt.take.fl s) (by rw [hp]; exact Nat.zero_le _) (fun _ => by rw [hp]; exact Nat.zero_le _) hl2
        have hLl : (LG.opened S a b hd).life = S.life + 1 := hlife
        refine ⟨hn.ok, hn.byt, hn.p6, hn.p2, hn.l0, hn.lt, fun M hM => ?_, ?_, fun M hM e hf => ?_⟩
        · rcases List.mem_append.1 hM with h3 | h3
          · exact hn.ol M h3
          · obtain rfl := List.mem_singleton.1 h3
            refine ⟨⟨hab, hb1, hb2, hz.2.1, ?_, h1, h2, ?_, fun c => by cases c⟩, by omega⟩
            · show oTop S a b < _; omega
            · show hd ≤ _; omega
        · rw [List.map_append, List.pairwise_append]
          refine ⟨h.li, List.pairwise_singleton _ _, fun x hx y hy => ?_⟩
          obtain ⟨M, hM, rfl⟩ := List.mem_map.1 hx
          have := (h.ol M hM).2
          simp only [List.map_cons, List.map_nil, List.mem_singleton] at hy
          omega
        · rcases List.mem_append.1 hM with h3 | h3
          · have := (h.ol M h3).2; omega
          · obtain rfl := List.mem_singleton.1 h3
            refine ⟨fun c => (by cases c), fun _ => ⟨(by rw [hp]; rfl), ?_⟩⟩
            rw [show (LG.opened S a b hd).f = a from rfl, num_fl hok (by omega)]
            have e1 : S.take.num a = S.num a := rfl
            have e2 : (oNew S a).1 = S.num a / 4294967296 := by
              have k4 := Decidable.of_not_not k2
              unfold oNew lnewest at *
              split at k4
              · cases k4
              · rename_i k5; rw [if_neg k5]; rfl
            have e3 : (oNew S a).1 ≤ oTop S a b := by unfold oTop; omega
            rw [e1]
            show S.num a < (oTop S a b + 1) * 4294967296
            omega
end
end V
end Go.Proofs.YtokcgifpljeoiaaGreat
end

section
namespace Go.Proofs.YtokcgifpljeoiaaGreat
open Go.RowKit

theorem nilOk : CM.Ok [] := List.Pairwise.nil
/-- What lies below b. -/
def below (ms : CM) (b : Nat) : CM := ms.filter (fun q => decide (q.1 < b))
end Go.Proofs.YtokcgifpljeoiaaGreat
end

section
namespace Go.Proofs.YtokcgifpljeoiaaGreat
open Go.RowKit Go.Maps

end Go.Proofs.YtokcgifpljeoiaaGreat
end

section
namespace Go.Proofs.YtokcgifpljeoiaaGreat
open Go.RowKit Go.Maps

end Go.Proofs.YtokcgifpljeoiaaGreat
end

section
namespace Go.Proofs.YtokcgifpljeoiaaGreat
open Go.RowKit Go.Maps

end Go.Proofs.YtokcgifpljeoiaaGreat
end

section
namespace Go.Proofs.YtokcgifpljeoiaaGreat
open Go.RowKit Go.Maps

/-- A list of changes in memory, all of it in blocks of which X holds. -/
structure PL (w : World) (X : Nat → Prop) (v : Value) (ps : List (Nat × List Int)) (xs : List Value) : Prop where
  own : w.ownsRow 0 57 2 v ps.length xs
  row : ∀ g, v.ownBlock = some g → X g
  put : ∀ i (hi : i < ps.length), ∃ g c, xs[2 * i]? = some (.int .i64 ((ps[i].1 : Nat) : Int)) ∧ xs[2 * i + 1]? = some (.slice (some ⟨g, 0, none⟩) 512 c) ∧ X g ∧ RowAt w 5 g c (bs ps[i].2)
  len : ∀ q ∈ ps, q.2.length = 512 ∧ Bytes q.2
def Pl (w : World) (X : Nat → Prop) (v : Value) (ps : List (Nat × List Int)) : Prop := ∃ xs, PL w X v ps xs

section
variable {w w' : World} {X Y G : Nat → Prop} {v : Value} {ps : List (Nat × List Int)} {xs : List Value}
end
end Go.Proofs.YtokcgifpljeoiaaGreat
end

section
namespace Go.Proofs.YtokcgifpljeoiaaGreat
open Go.RowKit Go.Maps

end Go.Proofs.YtokcgifpljeoiaaGreat
end

section
namespace Go.Proofs.YtokcgifpljeoiaaGreat
open Go.RowKit Go.Maps

end Go.Proofs.YtokcgifpljeoiaaGreat
end

section
namespace Go.Proofs.YtokcgifpljeoiaaGreat
open Go.RowKit Go.Maps

end Go.Proofs.YtokcgifpljeoiaaGreat
end

section
namespace Go.Proofs.YtokcgifpljeoiaaGreat
open Go.RowKit Go.Maps

end Go.Proofs.YtokcgifpljeoiaaGreat
end

section
namespace Go.Proofs.YtokcgifpljeoiaaGreat
open Go.RowKit Go.Maps

end Go.Proofs.YtokcgifpljeoiaaGreat
end

section
namespace Go.Proofs.YtokcgifpljeoiaaGreat
open Go.RowKit Go.Maps

end Go.Proofs.YtokcgifpljeoiaaGreat
end

section
namespace Go.Proofs.YtokcgifpljeoiaaGreat
open Go.RowKit Go.Maps

end Go.Proofs.YtokcgifpljeoiaaGreat
end

section
namespace Go.Proofs.YtokcgifpljeoiaaGreat
open Go.RowKit Go.Maps

end Go.Proofs.YtokcgifpljeoiaaGreat
end

section
namespace Go.Proofs.YtokcgifpljeoiaaGreat
open Go.RowKit Go.Maps

end Go.Proofs.YtokcgifpljeoiaaGreat
end

section
namespace Go.Proofs.YtokcgifpljeoiaaGreat
open Go.RowKit

section
variable {w w' : World} {F G : Nat → Prop} {r s k : Nat} {S : DS} {L : LG}
end
end Go.Proofs.YtokcgifpljeoiaaGreat
end

section
namespace Go.Proofs.YtokcgifpljeoiaaGreat
open Go.RowKit Go.Maps

section
variable {w w' : World} {F X : Nat → Prop} {r s k kl t hm : Nat} {S : DS} {y : LY} {L : LG} {G : SG} {T : TG} {pv nv tv : Value} {ps us : List (Nat × List Int)}
end
end Go.Proofs.YtokcgifpljeoiaaGreat
end

section
namespace Go.Proofs.YtokcgifpljeoiaaGreat
open Go.RowKit Go.Maps

section
variable {w w' : World} {F X : Nat → Prop} {r s k kl t hm : Nat} {S : DS} {y : LY} {L : LG} {G : SG} {T : TG} {pv nv tv : Value} {ps us : List (Nat × List Int)}

end
end Go.Proofs.YtokcgifpljeoiaaGreat
end

section
namespace Go.Proofs.YtokcgifpljeoiaaGreat
open Go.RowKit Go.Maps

theorem wr_code5 {S : DS} {s k : Nat} (hk : k < s) (l : List Int) : (S.wr s (k : Int) 512 l).1 = 0 ∨ (S.wr s (k : Int) 512 l).1 = 3 := by
  unfold DS.wr
  split
  · exact .inr rfl
  · rw [if_neg (by omega), if_neg (by omega)]; exact .inl rfl
theorem sbring_facts {s h0 : Nat} : ∀ {ms : CM} {S : DS}, S.Ok s → (∀ q ∈ ms, h0 + q.1 < s ∧ q.2.length = 512) → ((sbring S s h0 ms).1 = 0 ∨ (sbring S s h0 ms).1 = 3) ∧ (sbring S s h0 ms).2.life = S.life ∧ (sbring S s h0 ms).2.Ok s ∧ ((sbring S s h0 ms).1 ≠ 0 → (sbring S s h0 ms).2.fuse = 0) ∧ (∀ j, (∀ q ∈ ms, h0 + q.1 ≠ j) → (sbring S s h0 ms).2.now j = S.now j)
  | [], S, hS, _ => ⟨.inl rfl, rfl, hS, fun h => absurd rfl h, fun _ _ => rfl⟩
  | q :: qs, S, hS, hk => by
    have hq := hk q List.mem_cons_self
    rw [sbring_cons]
    by_cases e : (S.wr s ((h0 + q.1 : Nat) : Int) 512 q.2).1 ≠ 0
    · rw [if_pos e]
      obtain ⟨e1, e2⟩ := wr_err hq.1 e
      refine ⟨wr_code5 hq.1 _, wr_life _ _ _ _ _, by rw [e1]; exact hS, fun _ => by rw [e1]; exact e2, fun j _ => by rw [e1]⟩
    · rw [if_neg e]
      have hf := wr_zero (Decidable.not_not.1 e)
      obtain ⟨a1, a2, a3, a4, a5⟩ := sbring_facts (ms := qs) (wr_ok hS hf hq.1 hq.2) (fun x hx => hk x (List.mem_cons_of_mem _ hx))
      refine ⟨a1, a2.trans (wr_life _ _ _ _ _), a3, a4, fun j hj => ?_⟩
      rw [a5 j (fun x hx => hj x (List.mem_cons_of_mem _ hx)), wr_now hf hq.1, if_neg (fun h => hj q List.mem_cons_self h.symm)]
theorem sbring_at {s h0 b : Nat} {c : List Int} : ∀ {ms : CM} {S : DS}, S.Ok s → CM.Ok ms → (∀ q ∈ ms, h0 + q.1 < s ∧ q.2.length = 512) → (sbring S s h0 ms).1 = 0 → CM.get ms b = some c → (sbring S s h0 ms).2.now (h0 + b) = c
  | [], S, _, _, _, _, h => by cases h
  | q :: qs, S, hS, ho, hk, h0', hg => by
    have hq := hk q List.mem_cons_self
    have hp := List.pairwise_cons.1 ho
    rw [sbring_cons] at h0' ⊢
    by_cases e : (S.wr s ((h0 + q.1 : Nat) : Int) 512 q.2).1 ≠ 0
    · rw [if_pos e] at h0'
      exact absurd h0' e
    · rw [if_neg e] at h0' ⊢
      have hf := wr_zero (Decidable.not_not.1 e)
      have hS2 := wr_ok hS hf hq.1 hq.2
      have hk2 := fun x hx => hk x (List.mem_cons_of_mem _ hx)
      rw [CM.get_cons] at hg
      by_cases e2 : q.1 = b
      · rw [if_pos e2] at hg
        cases hg
        rw [(sbring_facts hS2 hk2).2.2.2.2 _ (fun x hx => by have := hp.1 x hx; omega), wr_now hf hq.1, if_pos (by omega)]
      · rw [if_neg e2] at hg
        exact sbring_at hS2 hp.2 hk2 h0' hg
section
variable {w w' : World} {F X : Nat → Prop} {r s k kl t hm : Nat} {S : DS} {y : LY} {v : Value} {ps : List (Nat × List Int)}
end
end Go.Proofs.YtokcgifpljeoiaaGreat
end

section
namespace Go.Proofs.YtokcgifpljeoiaaGreat
open Go.RowKit Go.Maps

section
variable {w w' : World} {F X : Nat → Prop} {r s k kl t hm : Nat} {S : DS} {G : SG} {T : TG} {pv nv tv : Value} {ps us : List (Nat × List Int)}
end
end Go.Proofs.YtokcgifpljeoiaaGreat
end

section
namespace Go.Proofs.YtokcgifpljeoiaaGreat
open Go.RowKit

end Go.Proofs.YtokcgifpljeoiaaGreat
end

section
namespace Go.Proofs.YtokcgifpljeoiaaGreat
open Go.RowKit Go.Maps

section
variable {w w' w1 w2 : World} {F X : Nat → Prop} {r s k kl t hm : Nat} {S : DS} {G : SG} {T : TG} {v pv nv tv : Value} {ps us : List (Nat × List Int)} {xs : List Value}
end
end Go.Proofs.YtokcgifpljeoiaaGreat
end

section
namespace Go.Proofs.YtokcgifpljeoiaaGreat
open Go.RowKit

end Go.Proofs.YtokcgifpljeoiaaGreat
end

section
namespace Go.Proofs.YtokcgifpljeoiaaGreat
open Go.RowKit

end Go.Proofs.YtokcgifpljeoiaaGreat
end

section
namespace Go.Proofs.YtokcgifpljeoiaaGreat
open Go.RowKit Go.Maps

section
variable {w w' w1 w2 : World} {F X : Nat → Prop} {r s k kl t hm : Nat} {S : DS} {G : SG} {T : TG} {v pv nv tv : Value} {ps us : List (Nat × List Int)} {xs : List Value}
end
end Go.Proofs.YtokcgifpljeoiaaGreat
end

section
namespace Go.Proofs.YtokcgifpljeoiaaGreat
open Go.RowKit Go.Maps

section
variable {w w' w1 w2 : World} {F X : Nat → Prop} {r s k kl t hm : Nat} {S : DS} {G : SG} {T : TG} {v pv nv tv : Value} {ps us : List (Nat × List Int)} {xs : List Value}
end
end Go.Proofs.YtokcgifpljeoiaaGreat
end

section
namespace Go.Proofs.YtokcgifpljeoiaaGreat
open Go.RowKit

section
variable {w w' : World} {F G : Nat → Prop} {r s k : Nat} {S : DS} {L : LG}

end
end Go.Proofs.YtokcgifpljeoiaaGreat
end

section
namespace Go.Proofs.YtokcgifpljeoiaaGreat
open Go.RowKit

section
variable {w w' : World} {F G : Nat → Prop} {r s k : Nat} {S : DS} {L : LG}

end
end Go.Proofs.YtokcgifpljeoiaaGreat
end

section
namespace Go.Proofs.YtokcgifpljeoiaaGreat
open Go.RowKit

section
variable {w w' : World} {F G : Nat → Prop} {r s k : Nat} {S : DS} {L : LG}

end
end Go.Proofs.YtokcgifpljeoiaaGreat
end

section
namespace Go.Proofs.YtokcgifpljeoiaaGreat
open Go.RowKit

section
variable {w w' : World} {F G : Nat → Prop} {r s k : Nat} {S : DS} {L : LG}

end
end Go.Proofs.YtokcgifpljeoiaaGreat
end

section
namespace Go.Proofs.YtokcgifpljeoiaaGreat
open Go.RowKit

end Go.Proofs.YtokcgifpljeoiaaGreat
end

section
namespace Go.Proofs.YtokcgifpljeoiaaGreat
open Go.RowKit

section
variable {w w' : World} {F G : Nat → Prop} {r s k : Nat} {S : DS} {L : LG}

end
end Go.Proofs.YtokcgifpljeoiaaGreat
end

section
namespace Go.Proofs.YtokcgifpljeoiaaGreat
open Go.RowKit

section
variable {w w' : World} {F G : Nat → Prop} {r s k : Nat} {S : DS} {L : LG}

end
end Go.Proofs.YtokcgifpljeoiaaGreat
end

section
namespace Go.Proofs.YtokcgifpljeoiaaGreat
open Go.RowKit Go.Maps

section
variable {w w' w1 w2 : World} {F X Y : Nat → Prop} {r s k kl t hm : Nat} {S : DS} {G : SG} {T : TG} {L : LG} {v u pv nv tv : Value} {ps qs us : List (Nat × List Int)} {xs ys : List Value}
end
end Go.Proofs.YtokcgifpljeoiaaGreat
end

section
namespace Go.Proofs.YtokcgifpljeoiaaGreat
open Go.RowKit Go.Maps

section
variable {S : DS} {s f : Nat} {L : LG} {G : SG}
theorem anew_far (h : S.Ok s) (hf : f + 1 < s) (num : Int) : (anew S s f num).2.Ok s ∧ ∀ j, f + 2 ≤ j → j < s → (anew S s f num).2.now j = S.now j := by
  unfold anew
  by_cases h1 : S.fuse = 0
  · rw [if_pos h1]; exact ⟨h, fun _ _ _ => rfl⟩
  · rw [if_neg h1]
    by_cases h2 : (srenew (S.now f) (S.now (f + 1)) num []).2.2 ≠ 0
    · rw [if_pos h2]; exact ⟨h, fun _ _ _ => rfl⟩
    · rw [if_neg h2]
      have hsl := srenew_slot (S.now f) (S.now (f + 1)) num []
      have hfu := srenew_full (S.now f) (S.now (f + 1)) num [] (by omega)
      generalize srenew (S.now f) (S.now (f + 1)) num [] = Y at *
      rw [show (f : Int) + (Y.1 : Int) = ((f + Y.1 : Nat) : Int) by omega]
      by_cases h3 : (S.wr s ((f + Y.1 : Nat) : Int) 512 Y.2.1).1 ≠ 0
      · exact absurd (wr_err (by omega) h3).2 h1
      · rw [if_neg h3]
        have hwo := wr_ok h h1 (show f + Y.1 < s by omega) hfu
        refine ⟨fl_ok hwo, fun j hj hjs => ?_⟩
        rw [fl_now hwo hjs, wr_now h1 (by omega), if_neg (by omega)]
end

section
variable {w w' : World} {F X : Nat → Prop} {r s k kl t hm : Nat} {S : DS} {G : SG} {pv nv : Value} {ps : List (Nat × List Int)}
theorem num_eq {S S' : DS} {f : Nat} (h1 : S'.now f = S.now f) (h2 : S'.now (f + 1) = S.now (f + 1)) : S'.num f = S.num f := by unfold DS.num; rw [h1, h2]
end
end Go.Proofs.YtokcgifpljeoiaaGreat
end

section
namespace Go.Proofs.YtokcgifpljeoiaaGreat
open Go.RowKit Go.Maps

section
variable {w w' : World} {F X : Nat → Prop} {r s k kl t hm : Nat} {S : DS} {G : SG} {pv nv : Value} {ps : List (Nat × List Int)}
end
end Go.Proofs.YtokcgifpljeoiaaGreat
end

section
namespace Go.Proofs.YtokcgifpljeoiaaGreat
open Go.RowKit Go.Maps

section
variable {w w' w1 w2 : World} {F F' X X' Y Z : Nat → Prop} {r s k kl t hm : Nat} {S : DS} {G : SG} {T : TG} {L : LG} {v u pv pv' nv tv : Value} {ps qs us : List (Nat × List Int)} {xs ys : List Value}
end
end Go.Proofs.YtokcgifpljeoiaaGreat
end

section
namespace Go.Proofs.YtokcgifpljeoiaaGreat
open Go.RowKit Go.Maps

section
variable {T : TG} {G : SG} {S : DS} {b : Nat} {l : List Int}
end
section
variable {w w' w5 w6 w7 : World} {F F5 X : Nat → Prop} {r s k kl t hm hm5 g2 cap2 : Nat} {S S5 : DS} {G G5 : SG} {T : TG} {pv nv tv lv : Value} {ps us : List (Nat × List Int)} {ns : CM} {xs ys : List Value}
end
end Go.Proofs.YtokcgifpljeoiaaGreat
end

section
namespace Go.Proofs.YtokcgifpljeoiaaGreat
open Go.RowKit Go.Maps

section
variable {w w' w5 w6 w7 : World} {F F5 X : Nat → Prop} {r s k kl t hm hm5 g2 cap2 : Nat} {S S5 : DS} {G G5 : SG} {T : TG} {pv nv tv lv : Value} {ps us : List (Nat × List Int)} {ns : CM} {xs ys : List Value}
end

section
variable {w w' w1 w2 : World} {F F' X X' : Nat → Prop} {r s k kl t hm : Nat} {S : DS} {G : SG} {T : TG} {pv nv tv : Value} {ps us : List (Nat × List Int)}
end
end Go.Proofs.YtokcgifpljeoiaaGreat
end

section
namespace Go.Proofs.YtokcgifpljeoiaaGreat
open Go.RowKit

section
variable {S : DS} {s t i : Nat} {ls : List LG} {L : LG} {G : SG}
end
end Go.Proofs.YtokcgifpljeoiaaGreat
end

section

end

section
namespace Go.Proofs.YtokcgifpljeoiaaGreat
open Go.RowKit

section
variable {w w' : World} {F G : Nat → Prop} {r s k : Nat} {S : DS} {L : LG}

end
end Go.Proofs.YtokcgifpljeoiaaGreat
end

section
namespace Go.Proofs.YtokcgifpljeoiaaGreat
open Go.RowKit Go.Maps

end Go.Proofs.YtokcgifpljeoiaaGreat
end

section
namespace Go.Proofs.YtokcgifpljeoiaaGreat
open Go.RowKit Go.Maps

theorem rdAll_cons (blocks : Nat) (ms : CM) (r : List Int) (rs : List (List Int)) : rdAll blocks ms (r :: rs) = match rdRec blocks r with | none => none | some cs => rdAll blocks (CM.over ms cs) rs := rfl
theorem num_top {S : DS} {a b : Nat} (h : (oNew S a).2.2 = 0) : S.num a < (oTop S a b + 1) * 4294967296 := by
  have e2 : (oNew S a).1 = S.num a / 4294967296 := by
    unfold oNew lnewest at *
    split at h
    · cases h
    · rename_i k5; rw [if_neg k5]; rfl
  have e3 : (oNew S a).1 ≤ oTop S a b := by unfold oTop; omega
  omega
section
variable {w w' : World} {X Y : Nat → Prop} {B B' : Nat} {v u : Value} {ps qs : List (Nat × List Int)}
end
end Go.Proofs.YtokcgifpljeoiaaGreat
end

section
namespace Go.Proofs.YtokcgifpljeoiaaGreat
open Go.RowKit

end Go.Proofs.YtokcgifpljeoiaaGreat
end

section
namespace Go.Proofs.YtokcgifpljeoiaaGreat
open Go.RowKit

end Go.Proofs.YtokcgifpljeoiaaGreat
end

section
namespace Go.Proofs.YtokcgifpljeoiaaGreat
open Go.RowKit

theorem sealed_sup (s l n : Nat) : (sealed (supBody s l n)).length = 512 := (sealed_len _).trans (congrArg (· + 4) (supBody_len s l n))
end Go.Proofs.YtokcgifpljeoiaaGreat
end

section
namespace Go.Proofs.YtokcgifpljeoiaaGreat
open Go.RowKit

section
variable {w w' : World} {F G : Nat → Prop} {r s k : Nat} {S : DS} {L : LG}

end
end Go.Proofs.YtokcgifpljeoiaaGreat
end

section
namespace Go.Proofs.YtokcgifpljeoiaaGreat
open Go.RowKit

section
variable {w w' : World} {F G : Nat → Prop} {r s k : Nat} {S : DS} {L : LG}

end
end Go.Proofs.YtokcgifpljeoiaaGreat
end

section
namespace Go.Proofs.YtokcgifpljeoiaaGreat
open Go.RowKit

section
variable {w w' : World} {F G : Nat → Prop} {r s k : Nat} {S : DS} {L : LG}

end
end Go.Proofs.YtokcgifpljeoiaaGreat
end

section
namespace Go.Proofs.YtokcgifpljeoiaaGreat
open Go.RowKit

section
variable {w w' : World} {F G : Nat → Prop} {r s k : Nat} {S : DS} {L : LG}

end
end Go.Proofs.YtokcgifpljeoiaaGreat
end

section
namespace Go.Proofs.YtokcgifpljeoiaaGreat
open Go.RowKit Go.Maps

section
variable {w w' : World} {F : Nat → Prop} {r s : Nat} {S : DS}
end
end Go.Proofs.YtokcgifpljeoiaaGreat
end

section
namespace Go.Proofs.YtokcgifpljeoiaaGreat
open Go.RowKit Go.Maps

section
variable {w w' U wx wy wz : World} {F : Nat → Prop} {r s : Nat} {S S' : DS}
end
end Go.Proofs.YtokcgifpljeoiaaGreat
end

section
namespace Go.Proofs.YtokcgifpljeoiaaGreat
open Go.RowKit

section
variable {S S' : DS} {s t i : Nat} {ls : List LG} {L : LG} {G : SG}
/-- No log lives, and none comes to life. -/
theorem V.Inv.idle (h : V.Inv S s ls t) (hno : ∀ M ∈ ls, M.life < S.life) (ok : S'.Ok s) (byt : S'.Byt) (p6 : S'.puts.length ≤ 6000) (p2 : S'.fuse ≠ 0 → S'.puts.length ≤ 256) (hl : S'.life = S.life) : V.Inv S' s ls t :=
  ⟨ok, byt, p6, p2, by rw [hl]; exact h.l0, by rw [hl]; exact h.lt, fun M hM => by rw [hl]; exact h.ol M hM, h.li, fun M hM e => by have := hno M hM; omega⟩
theorem fl_facts (h : S.Ok s) : (S.fl s).2.Ok s ∧ (S.fl s).2.life = S.life ∧ ((S.fl s).1 ≠ 0 → (S.fl s).2.fuse = 0 ∧ (S.fl s).2.puts.length ≤ S.puts.length) ∧ ((S.fl s).1 = 0 → (S.fl s).2.puts = []) :=
  ⟨fl_ok h, fl_life _ _, fun he => by obtain ⟨e1, e2, _⟩ := fl_err he; rw [e1]; exact ⟨e2, Nat.le_refl _⟩, fl_zero⟩
theorem swipe_facts (h : S.Ok s) {a n : Nat} (hn : a + n ≤ s) : (swipe S s a n).2.Ok s ∧ (swipe S s a n).2.life = S.life ∧ ((swipe S s a n).1 ≠ 0 → (swipe S s a n).2.fuse = 0) ∧ ((swipe S s a n).1 = 0 → (swipe S s a n).2.puts = []) := by
  obtain ⟨b1, b2, b3, b4, b5⟩ := sbring_facts (h0 := a) (ms := zrow n) h (fun q hq => by
    unfold zrow at hq
    obtain ⟨i, hi, rfl⟩ := List.mem_map.1 hq
    have := List.mem_range.1 hi
    exact ⟨by show a + i < s; omega, zs_len 512⟩)
  unfold swipe
  split
  · rename_i q; exact ⟨b3, b2, b4, fun h0 => absurd h0 q⟩
  · obtain ⟨c1, c2, c3, c4⟩ := fl_facts b3
    exact ⟨c1, c2.trans b2, fun he => (c3 he).1, c4⟩
theorem lformat_facts (h : S.Ok s) (hl0 : 0 ≤ S.life) {t : Nat} (hlt : S.life ≤ t) (ht : t ≤ 1000000000000000000) (_hf : S.fuse ≠ 0) (hp : S.puts = []) (f n : Int) : (lformat S s f n).2.Ok s ∧ (S.life ≤ (lformat S s f n).2.life) ∧ ((lformat S s f n).1 = 0 → (lformat S s f n).2.puts = []) := by
  unfold lformat
  split
  · exact ⟨h, Int.le_refl _, fun _ => hp⟩
  · rename_i h1
    obtain ⟨_, a, b, rfl, rfl, hab, hb1, hb2⟩ := lrefuse_zero (Decidable.of_not_not h1)
    simp only [Int.toNat_natCast]
    have hlife := wrap_life hl0 hlt ht
    have hok : S.take.Ok s := ⟨h.len, h.lo, h.hi, h.puts, h.fuse⟩
    obtain ⟨k1, k2, k3, k4⟩ := awipe_keeps (f := a) (n := b) hok hab
    have hkl := k1.trans hlife
    split
    · rename_i h0
      exact ⟨k2, by omega, fun h9 => absurd h9 h0⟩
    · rename_i h0
      obtain ⟨q1, q2⟩ := k4 (Decidable.of_not_not h0)
      have hl2 := (anew_life (awipe S.take s a b).2 s a 4294967296).trans hkl
      refine ⟨(anew_far k2 (by omega) _).1, by omega, fun h3 => ?_⟩
      exact (anew_num (s := s) (f := a) (N := 4294967296) k2 (by omega) (by omega) (by omega) (by rw [q1]; omega) h3).2
theorem V.Inv.sfmt (h : V.Inv S s ls t) (ht : t + 2 ≤ 1000000000000000000) (a b c : Int) : V.Inv (sformat S s a b c).2 s ls (t + 2) := by
  unfold sformat
  split
  · exact h.step.step
  · rename_i hf
    split
    · rename_i hg
      obtain ⟨hg1, hs⟩ := hg
      obtain ⟨⟨l1, l2⟩, ⟨n1, n2⟩, h3, s1, s2⟩ := hg1
      have hs1 : 1 ≤ s := by omega
      have htk := h.take (by omega : t ≤ 1000000000000000000)
      have htl : S.take.life = S.life + 1 := wrap_life h.l0 h.lt (by omega)
      have hno : ∀ M ∈ ls, M.life < S.life + 1 := fun M hM => by have := (h.ol M hM).2; omega
      have hp2 := h.p2 hf
      obtain ⟨a1, a2, a3, a4⟩ := swipe_facts htk.ok (a := 0) (n := 1) (by omega)
      have ab := swipe_byt htk.byt s 0 1
      have ap := swipe_puts S.take s 0 1
      have htp : S.take.puts.length = S.puts.length := rfl
      unfold sformed
      have e1 : fmt1 S s = swipe S.take s 0 1 := rfl
      have e2 : fmt2 S s = swipe (fmt1 S s).2 s 1 (s - 1) := rfl
      have e3 : ∀ l, fmt3 S s l = lformat (fmt2 S s).2 s 1 (l : Int) := fun _ => rfl
      have e4 : ∀ l n, fmt4 S s l n = (fmt3 S s l).2.wr s 0 512 (supOf s l n) := fun _ _ => rfl
      rw [← e1] at a1 a2 a3 a4 ab ap
      generalize fmt1 S s = P1 at *
      by_cases q1 : P1.1 ≠ 0
      · rw [if_pos q1]
        exact (htk.idle (by rw [htl]; exact hno) a1 ab (by have := h.p6; omega) (fun c => absurd (a3 q1) c) a2).step
      · rw [if_neg q1]
        obtain ⟨b1, b2, b3, b4⟩ := swipe_facts a1 (a := 1) (n := s - 1) (by omega)
        have bb := swipe_byt ab s 1 (s - 1)
        have bp := swipe_puts P1.2 s 1 (s - 1)
        have hsm := h.ok.hi
        rw [← e2] at b1 b2 b3 b4 bb bp
        generalize fmt2 S s = P2 at *
        by_cases q2 : P2.1 ≠ 0
        · rw [if_pos q2]
          exact (htk.idle (by rw [htl]; exact hno) b1 bb (by rw [(a4 (Decidable.not_not.1 q1))] at bp; simp at bp; omega) (fun c => absurd (b3 q2) c) (b2.trans a2)).step
        · rw [if_neg q2]
          have bp0 := b4 (Decidable.not_not.1 q2)
          have hi2 := htk.idle (by rw [htl]; exact hno) b1 bb (by rw [bp0]; exact Nat.zero_le _) (fun _ => by rw [bp0]; exact Nat.zero_le _) (b2.trans a2)
          by_cases hf2 : P2.2.fuse = 0
          · have e5 : ∀ l, fmt3 S s l = (3, P2.2) := fun l => by
              rw [e3]
              unfold lformat lrefuse
              rw [if_pos hf2]
              simp
            rw [e5, if_pos (by show (3 : Int) ≠ 0; decide)]
            exact hi2.step
          · obtain ⟨c1, c2, c3⟩ := lformat_facts b1 hi2.l0 hi2.lt (by omega) hf2 bp0 1 ((b.toNat : Nat) : Int)
            have hi3 := hi2.format (by omega) 1 ((b.toNat : Nat) : Int) c1
            rw [← e3] at c1 c2 c3 hi3
            have e4' := e4 b.toNat c.toNat
            generalize fmt3 S s b.toNat = P3 at *
            have hno3 : ∀ M ∈ ls, M.life < P3.2.life := fun M hM => by have := hno M hM; omega
            by_cases q3 : P3.1 ≠ 0
            · rw [if_pos q3]
              exact hi3
            · rw [if_neg q3]
              have hwl2 := wr_life P3.2 s 0 512 (supOf s b.toNat c.toNat)
              have hwp := wr_puts P3.2 s 0 512 (supOf s b.toNat c.toNat)
              have hslen : (supOf s b.toNat c.toNat).length = 512 := sealed_sup _ _ _
              have hsb : Bytes (supOf s b.toNat c.toNat) := (supBody_bytes _ _ _).append (leb_bytes _ _)
              have hwb := hi3.byt.wr s 0 512 hsb
              have hwo : (P3.2.wr s 0 512 (supOf s b.toNat c.toNat)).2.Ok s := by
                by_cases hf3 : P3.2.fuse = 0
                · have : P3.2.wr s 0 512 (supOf s b.toNat c.toNat) = (3, P3.2) := by unfold DS.wr; rw [if_pos hf3]
                  rw [this]; exact hi3.ok
                · exact wr_ok (k := 0) hi3.ok hf3 (by omega) hslen
              rw [← e4'] at hwl2 hwp hwb hwo
              rw [(c3 (Decidable.not_not.1 q3))] at hwp
              generalize fmt4 S s b.toNat c.toNat = P4 at *
              have hi4 : V.Inv P4.2 s ls (t + 2) := hi3.idle hno3 hwo hwb (by simp at hwp; omega) (fun _ => by simp at hwp; omega) hwl2
              by_cases q4 : P4.1 ≠ 0
              · rw [if_pos q4]
                exact hi4
              · rw [if_neg q4]
                obtain ⟨d1, d2, d3, d4⟩ := fl_facts hwo
                refine hi4.idle (by rw [hwl2]; exact hno3) d1 (hwb.fl s) ?_ ?_ d2
                · have := fl_putsS P4.2 s
                  have := hi4.p6
                  omega
                · intro _
                  have := fl_putsS P4.2 s
                  simp at hwp
                  omega
    · exact h.step.step
end
end Go.Proofs.YtokcgifpljeoiaaGreat
end

section
namespace Go.Proofs.YtokcgifpljeoiaaGreat
open Go.RowKit

section
variable {S S1 S2 : DS} {s t : Nat} {ls : List LG} {L L' : LG} {x y : Int}
theorem TellsAt.same {f n hd hd' : Nat} {rs rs' : List (List Int)} (h1 : TellsAt S f n rs hd) (h2 : TellsAt S f n rs' hd') : rs = rs' ∧ hd = hd' := Tells.unique h1.t h1.x h2.t h2.x
theorem start_err (hok : S.Ok s) (hl : L.Ok s) (hb : L.begun = false) (ha : L.life = S.life) (hn : S.num L.f < (L.top + 1) * 4294967296) (h0 : (L.start S s).1 ≠ 0) : (L.start S s).2.1.fuse = 0 ∧ (L.start S s).2.1.life = S.life ∧ (L.start S s).2.1.Ok s ∧ (L.start S s).2.1.puts.length ≤ S.puts.length + 1 := by
  have hs := hl.s
  have hn1 := hl.n1
  have htp := hl.top
  unfold LG.start at h0 ⊢
  by_cases hd : L.dead S = true
  · rw [if_pos hd]
    refine ⟨?_, rfl, hok, by show S.puts.length ≤ _; omega⟩
    unfold LG.dead at hd
    rw [ha] at hd
    simpa using hd
  · rw [if_neg hd, if_neg (by rw [hb]; decide)] at h0 ⊢
    have eN : (((L.top + 1 : Nat) : Int) * 4294967296 + ((0 : Nat) : Int)) = (((L.top + 1) * 4294967296 : Nat) : Int) := by omega
    rw [eN] at h0 ⊢
    by_cases h1 : (anew S s L.f (((L.top + 1) * 4294967296 : Nat) : Int)).1 ≠ 0
    · rw [if_pos h1]
      obtain ⟨e1, e2⟩ := anew_err (by omega) (renew_ok (now_len hok L.f (by omega)) (now_len hok (L.f + 1) (by omega)) (N := (L.top + 1) * 4294967296) (by omega) hn) h1
      exact ⟨e1, anew_life _ _ _ _, (anew_far hok (by omega) _).1, e2⟩
    · rw [if_neg h1] at h0
      exact absurd rfl h0
theorem rdCons_512 : ∀ {ks : List Nat} {l r : List Int} {cs : CM}, rdCons ks l = some (cs, r) → ∀ q ∈ cs, q.2.length = 512
  | [], l, r, cs, h => by
    simp only [rdCons, Option.some.injEq, Prod.mk.injEq] at h
    obtain ⟨rfl, _⟩ := h
    intro q hq
    cases hq
  | k :: ks, l, r, cs, h => by
    rw [rdCons_cons] at h
    split at h
    · cases h
    · rename_i hl
      cases hr : rdCons ks (l.drop 512) with
      | none => rw [hr] at h; cases h
      | some x =>
        rw [hr] at h
        simp only [Option.map_some, Option.some.injEq, Prod.mk.injEq] at h
        obtain ⟨rfl, rfl⟩ := h
        intro q hq
        rcases List.mem_cons.1 hq with rfl | hq
        · show (l.take 512).length = 512
          rw [List.length_take]; omega
        · exact rdCons_512 (cs := x.1) (r := x.2) hr q hq
theorem rdRec_512 {blocks : Nat} {d : List Int} {cs : CM} (h : rdRec blocks d = some cs) : ∀ q ∈ cs, q.1 < blocks ∧ q.2.length = 512 := fun q hq => by
  refine ⟨rdRec_keys h q hq, ?_⟩
  unfold rdRec at h
  split at h
  · cases h
  · split at h
    · cases hr : rdNums blocks (le (d.take 2)) 0 (d.drop 2) with
      | none => rw [hr] at h; cases h
      | some x =>
        obtain ⟨ks, r⟩ := x
        rw [hr] at h
        have h' : rdTail (rdCons ks r) = some cs := h
        cases hx : rdCons ks r with
        | none => rw [hx] at h'; cases h'
        | some y =>
          obtain ⟨c2, r2⟩ := y
          rw [hx] at h'
          cases r2 with
          | nil =>
            simp only [rdTail, Option.some.injEq] at h'
            subst h'
            exact rdCons_512 hx q hq
          | cons a b => cases h'
    · cases h
theorem rdAll_512 {blocks : Nat} : ∀ {rs : List (List Int)} {ms ov : CM}, rdAll blocks ms rs = some ov → (∀ q ∈ ms, q.1 < blocks ∧ q.2.length = 512) → ∀ q ∈ ov, q.1 < blocks ∧ q.2.length = 512
  | [], ms, ov, h, hm => by
    simp only [rdAll, Option.some.injEq] at h
    rw [← h]; exact hm
  | r :: rs, ms, ov, h, hm => by
    rw [rdAll_cons] at h
    cases hr : rdRec blocks r with
    | none => rw [hr] at h; cases h
    | some cs =>
      rw [hr] at h
      exact rdAll_512 h (fun q hq => (over_mem hq).elim (hm q) (rdRec_512 hr q))
theorem rdAll_ok {blocks : Nat} : ∀ {rs : List (List Int)} {ms ov : CM}, rdAll blocks ms rs = some ov → CM.Ok ms → CM.Ok ov
  | [], ms, ov, h, hm => by
    simp only [rdAll, Option.some.injEq] at h
    rw [← h]; exact hm
  | r :: rs, ms, ov, h, hm => by
    rw [rdAll_cons] at h
    cases hr : rdRec blocks r with
    | none => rw [hr] at h; cases h
    | some cs =>
      rw [hr] at h
      exact rdAll_ok h (CM.over_ok hm cs)
theorem start_ok (hok : S.Ok s) (hl : L.Ok s) : (L.start S s).2.1.Ok s := by
  have hs := hl.s
  have hn1 := hl.n1
  unfold LG.start
  split
  · exact hok
  · split
    · exact hok
    · split <;> exact (anew_far hok (by omega) _).1
theorem sredo_facts {y : LY} {ov : CM} {rs : List (List Int)} (hok : S.Ok s) (hp : S.puts = []) (hM : ∀ q ∈ ov, y.home + q.1 < s ∧ q.2.length = 512) (hl : ov.length ≤ 2048) (hyh : 3 ≤ y.home) (hs3 : 3 ≤ s) : (sredo S s y ov rs).2.Ok s ∧ (sredo S s y ov rs).2.life = S.life ∧ ((sredo S s y ov rs).1 ≠ 0 → (sredo S s y ov rs).2.fuse = 0) ∧ ((sredo S s y ov rs).1 = 0 → (sredo S s y ov rs).2.puts = []) ∧ (sredo S s y ov rs).2.puts.length ≤ 3000 ∧ ∀ i, i < 3 → (sredo S s y ov rs).2.now i = S.now i := by
  obtain ⟨b1, b2, b3, b4, b5⟩ := sbring_facts (h0 := y.home) (ms := ov) hok hM
  have hbp := sbring_puts S s y.home ov
  rw [hp] at hbp
  have hbp' : (sbring S s y.home ov).2.puts.length ≤ 2048 := by simp at hbp; omega
  unfold sredo
  split
  · exact ⟨hok, rfl, fun h => absurd rfl h, fun _ => hp, by show S.puts.length ≤ 3000; rw [hp]; exact Nat.zero_le _, fun _ _ => rfl⟩
  · split
    · rename_i q
      exact ⟨b3, b2, b4, fun h => absurd h q, by omega, fun i hi => b5 i (fun q hq e => by omega)⟩
    · obtain ⟨c1, c2, c3, c4⟩ := fl_facts b3
      have := fl_putsS (sbring S s y.home ov).2 s
      exact ⟨c1, c2.trans b2, fun he => (c3 he).1, c4, by omega, fun i hi => (fl_now b3 (by omega)).trans (b5 i (fun q hq e => by omega))⟩
/-- The invariant behind an Open. -/
theorem V.Inv.sopen (h : V.Inv S s ls t) (ht : t + 2 ≤ 1000000000000000000) (ho : SOut S s x S1) : (x ≠ 0 → V.Inv S1 s ls (t + 1)) ∧ (x = 0 → ∀ L, SLog S s L → V.Inv S1 s (ls ++ [L]) (t + 1)) := by
  rcases ho with ⟨_, n1, rfl⟩ | ⟨hsup, hf, k⟩
  · exact ⟨fun _ => h.step, fun h0 => absurd h0 n1⟩
  · rcases k with ⟨e1, m1, rfl⟩ | ⟨z1, rs, hd, hta, k⟩
    · exact ⟨fun _ => h.open_no (by omega) _ _ (by rw [e1]; exact m1), fun h0 => absurd h0 m1⟩
    · have hgeo := stOpen_geo hsup
      obtain ⟨y, hy⟩ : ∃ y, y = lyOf (S.now 0) := ⟨_, rfl⟩
      have hyh : 3 ≤ y.home := by rw [hy]; show 3 ≤ 3 + u32 (S.now 0) 12; omega
      unfold SLog
      rw [← hy] at hgeo z1 hta k ⊢
      obtain ⟨hlz1, hlz2, hlz3, hlz4⟩ := lopen_zero (f := 1) z1
      obtain ⟨hrn, hrb, hh1, hh2⟩ := hta.small h.byt (by omega)
      have hlok := lgOf_ok (s := s) hta h.byt hlz2 hlz3 (by omega) (by omega) (by omega)
      have hwl := wrap_life h.l0 h.lt (by omega : t ≤ 1000000000000000000)
      have htk : S.take.Ok s := ⟨h.ok.len, h.ok.lo, h.ok.hi, h.ok.puts, h.ok.fuse⟩
      have hlo : lopen S s 1 (y.log : Int) = S.take.fl s := hlz4
      have hz9 : (S.take.fl s).1 = 0 := by rw [← hlo]; exact z1
      have hp1 := fl_zero hz9
      have hok1 := fl_ok (s := s) htk
      have hby1 := h.byt.take.fl s
      have hl1 : (S.take.fl s).2.life = S.life + 1 := (fl_life _ _).trans hwl
      have hn1 : ∀ i, i < s → (S.take.fl s).2.now i = S.now i := fun i hi => fl_now (S := S.take) htk hi
      have hnt : S.num 1 < ((lgOf S 1 y.log hd).top + 1) * 4294967296 := num_top hlz2
      have hlgl : (lgOf S 1 y.log hd).life = S.life + 1 := hwl
      have hno : ∀ M ∈ ls, M.life < S.life + 1 := fun M hM => by have := (h.ol M hM).2; omega
      have hopd := h.opened (by omega : t ≤ 1000000000000000000) 1 (y.log : Int) (by rw [hlo]; exact hok1) z1 (hd := hd) hh1 (by simpa using hh2)
      rw [hlo] at k hopd ⊢
      have hbase := h.next hok1 hby1 (by rw [hp1]; exact Nat.zero_le _) (fun _ => by rw [hp1]; exact Nat.zero_le _) hl1
      have hopd' : V.Inv (S.take.fl s).2 s (ls ++ [lgOf S 1 y.log hd]) (t + 1) := hopd
      generalize S.take.fl s = P at *
      have hnoP : ∀ M ∈ ls, M.life < P.2.life := by rw [hl1]; exact hno
      rcases k with ⟨a1, rfl, rfl⟩ | ⟨ov, hov, k⟩
      · exact ⟨fun _ => hbase, fun h0 => absurd h0 (by decide)⟩
      · have h512 := rdAll_512 hov (fun q hq => by cases hq)
        have hMk : ∀ q ∈ ov, y.home + q.1 < s ∧ q.2.length = 512 := fun q hq => ⟨by have := (h512 q hq).1; omega, (h512 q hq).2⟩
        have hovl : ov.length ≤ 2048 := by
          have := h.ok.hi
          rcases CM.length_le (n := 2048) (rdAll_ok hov nilOk) (fun q hq => by have := (hMk q hq).1; omega) 0 (fun _ _ => Nat.zero_le _) with h1 | h1
          · omega
          · rw [h1]; simp
        obtain ⟨r1, r2, r3, r4, r5, r6⟩ := sredo_facts (rs := rs) hok1 hp1 hMk hovl hyh (by omega)
        have hrb2 := sredo_byt (s := s) (y := y) (rs := rs) hby1 (rdAll_bytes hov (fun x hx => by cases hx) (fun r hr => (hrb r hr).1))
        have hlogs : ∀ L, (∃ rs' hd' ov', TellsAt S 1 y.log rs' hd' ∧ rdAll y.blocks [] rs' = some ov' ∧ L = ((lgOf S 1 y.log hd').start (sredo P.2 s y ov' rs').2 s).2.2) → L = ((lgOf S 1 y.log hd).start (sredo P.2 s y ov rs).2 s).2.2 := fun L hL => by
          obtain ⟨rs', hd', ov', t2, o2, rfl⟩ := hL
          obtain ⟨rfl, rfl⟩ := hta.same t2
          obtain rfl : ov = ov' := Option.some.inj (hov.symm.trans o2)
          rfl
        generalize sredo P.2 s y ov rs = Rd at *
        have hidle := hbase.idle hnoP r1 hrb2 (by omega) (fun hf2 => by
          by_cases q : Rd.1 = 0
          · rw [r4 q]; exact Nat.zero_le _
          · exact absurd (r3 q) hf2) r2
        have hnumR : Rd.2.num (lgOf S 1 y.log hd).f < ((lgOf S 1 y.log hd).top + 1) * 4294967296 := by
          show Rd.2.num 1 < _
          rw [num_eq (S := S) (S' := Rd.2) ((r6 1 (by omega)).trans (hn1 1 (by omega))) ((r6 2 (by omega)).trans (hn1 2 (by omega)))]
          exact hnt
        have hlal : (lgOf S 1 y.log hd).life = Rd.2.life := by rw [hlgl, r2, hl1]
        rcases k with ⟨rfl, m2, rfl⟩ | ⟨m1, rfl, rfl⟩
        · exact ⟨fun _ => hidle, fun h0 => absurd h0 m2⟩
        · have hstb : ((lgOf S 1 y.log hd).start Rd.2 s).2.1.Byt := by
            unfold LG.start
            split
            · exact hrb2
            · split
              · exact hrb2
              · split <;> exact hrb2.anew s _ _
          refine ⟨fun hx => ?_, fun _ L hL => ?_⟩
          · obtain ⟨e1, e2, e3, e4⟩ := start_err r1 hlok rfl hlal hnumR hx
            exact hidle.idle (by rw [r2]; exact hnoP) e3 hstb (by omega) (fun c => absurd e1 c) e2
          · rw [hlogs L hL]
            have hi : (ls ++ [lgOf S 1 y.log hd])[ls.length]? = some (lgOf S 1 y.log hd) := by simp
            have h2 := hopd'.on hi (by rw [hlgl, hl1]) r1 hrb2 r2 (by omega) hlok rfl (fun _ => ⟨fun c => (by cases c), fun _ => ⟨by rw [r4 m1]; rfl, hnumR⟩⟩)
            have hset : (ls ++ [lgOf S 1 y.log hd]).set ls.length (lgOf S 1 y.log hd) = ls ++ [lgOf S 1 y.log hd] := by simp
            rw [hset] at h2
            have h3 := h2.start hi (start_ok r1 hlok)
            have hset2 : (ls ++ [lgOf S 1 y.log hd]).set ls.length ((lgOf S 1 y.log hd).start Rd.2 s).2.2 = ls ++ [((lgOf S 1 y.log hd).start Rd.2 s).2.2] := by simp
            rw [hset2] at h3
            exact h3
end
end Go.Proofs.YtokcgifpljeoiaaGreat
end

section
namespace Go.Proofs.YtokcgifpljeoiaaGreat
open Go.RowKit Go.Maps

section
variable {w w' : World} {F : Nat → Prop} {p r s c : Nat} {S S' : DS} {L : LG} {x : Int}
/-- What Open comes to, with so many reads at most. -/
def StOpened5 (w : World) (F : Nat → Prop) (p s c : Nat) (S : DS) (e : Ending) (w' : World) : Prop := ∃ x S' cR, cR ≤ c + 261 ∧ SOut S s x S' ∧ Keeps F w w' ∧ ((x ≠ 0 ∧ e = .returned (.tuple #[.pointer none, .int .i64 x]) ∧ B.DiskR w' (more F w w') p s S' cR) ∨ (x = 0 ∧ ∃ q l m L F', SLog S s L ∧ e = .returned (.tuple #[.pointer (some ⟨q, 0, none⟩), .int .i64 0]) ∧ (∀ k, F' k → more F w w' k) ∧ w.heap.size ≤ q ∧ w.heap.size ≤ l ∧ w.heap.size ≤ m ∧ StW w' F' p s cR q l m S' ⟨lyOf (S.now 0), L, [], false⟩))
theorem stOpen_any (h : B.DiskR w F p s S c) (hby : S.Byt) (hbig : S.puts.length + 6000 ≤ 4000000000000) :
    Calls Tryz.prog 11 #[.pointer (some ⟨p, 0, none⟩)] w fun e w' => StOpened5 w F p s c S e w' := by
  by_cases hno : S.fuse = 0 ∨ ¬ SupAt (S.now 0) s
  · have hx0 : ∀ x, SOut S s x S → x ≠ 0 := fun x ho e => by
      rcases ho with ⟨_, n, _⟩ | ⟨a, b, _⟩
      · exact n e
      · exact hno.elim b (fun h => h a)
    refine (stOpen_no h hby (by omega) hno).mono ?_
    rintro e w' ⟨x, rfl, h1, h2, h3⟩
    exact ⟨x, S, c + 1, by omega, h1, h3, .inl ⟨hx0 x h1, rfl, h2.more⟩⟩
  · have hsup := Classical.byContradiction (fun e => hno (.inr e))
    refine (stOpen_ok h hby hbig (fun e => hno (.inl e)) hsup).mono ?_
    rintro e w' ⟨x, S', cR, h1, h2⟩
    exact ⟨x, S', cR, by have := stOpen_geo hsup; omega, h2⟩
theorem sbring_lf {home : Nat} : ∀ {ms : CM} {S : DS}, (sbring S s home ms).2.life = S.life
  | [], _ => rfl
  | q :: qs, S => by
    have h1 := wr_life S s ((home + q.1 : Nat) : Int) 512 q.2
    unfold sbring
    split
    · exact h1
    · exact sbring_lf.trans h1
theorem lopen_lf (S : DS) (s : Nat) (f n : Int) : (lopen S s f n).2 = S ∨ (lopen S s f n).2.life = wrap64 (S.life + 1) := by
  unfold lopen
  split
  · exact .inl rfl
  · split
    · exact .inr rfl
    · split
      · exact .inr rfl
      · exact .inr (fl_life _ _)
theorem sredo_lf {y : LY} {ov : CM} {rs : List (List Int)} : (sredo S s y ov rs).2.life = S.life := by
  unfold sredo
  split
  · rfl
  · split
    · exact sbring_lf
    · exact (fl_life _ _).trans sbring_lf
theorem start_lf : (L.start S s).2.1.life = S.life := by
  unfold LG.start
  split
  · rfl
  · split
    · rfl
    · split <;> exact anew_life _ _ _ _
/-- An Open leaves the disk as it is, or gives it a new life. -/
theorem SOut.life (h : SOut S s x S') : (S' = S ∧ x ≠ 0) ∨ S'.life = wrap64 (S.life + 1) := by
  rcases h with ⟨_, n, rfl⟩ | ⟨hsup, hf, k⟩
  · exact .inl ⟨rfl, n⟩
  · rcases k with ⟨_, n, rfl⟩ | ⟨z1, rs, hd, hta, k⟩
    · exact (lopen_lf S s 1 (((lyOf (S.now 0)).log : Nat) : Int)).imp (fun h => ⟨h, n⟩) id
    · refine .inr ?_
      have ho : (lopen S s 1 (((lyOf (S.now 0)).log : Nat) : Int)).2.life = wrap64 (S.life + 1) := by
        obtain ⟨_, _, _, e⟩ := lopen_zero (f := 1) z1
        have e' : lopen S s 1 (((lyOf (S.now 0)).log : Nat) : Int) = S.take.fl s := e
        rw [e']
        exact fl_life _ _
      rcases k with ⟨_, _, rfl⟩ | ⟨ov, hov, k⟩
      · exact ho
      · rcases k with ⟨_, _, rfl⟩ | ⟨_, _, rfl⟩
        · exact sredo_lf.trans ho
        · exact start_lf.trans (sredo_lf.trans ho)
theorem swipe_lf (S : DS) (s a n : Nat) : (swipe S s a n).2.life = S.life := by
  unfold swipe
  split
  · exact sbring_lf
  · exact (fl_life _ _).trans sbring_lf
end
end Go.Proofs.YtokcgifpljeoiaaGreat
end
