import Derived.Test.YtokcgifpljeoiaaGreatV03
import Derived.Test.YtokcgifpljeoiaaGreatV20
import Derived.ProofKit
import Derived.OpenShut
import Derived.ChangeOld
import Derived.Deep.Slices
section
namespace Go.Proofs.YtokcgifpljeoiaaGreat
open Go.RowKit

section
variable {S S' S1 : DS} {s n : Nat} {x x0 : Int} {y : LY} {K : Nat → List Int} {E : Nat}
theorem new_form (h : (oNew S 1).2.2 = 0) : ∃ N, (snewest (S.now 1) (S.now (1 + 1))).2 = (N, [], 0) ∧ N < (oTop S 1 n + 1) * 4294967296 := by
  have hn := num_top (S := S) (a := 1) (b := n) h
  refine ⟨(snewest (S.now 1) (S.now (1 + 1))).2.1, ?_, hn⟩
  unfold oNew lnewest at h
  split at h
  · cases h
  · rename_i q
    have q1 : (snewest (S.now 1) (S.now (1 + 1))).2.2.2 = 0 := Decidable.byContradiction (fun e => q (.inl e))
    have q2 : (snewest (S.now 1) (S.now (1 + 1))).2.2.1 = [] := List.eq_nil_of_length_eq_zero (by omega)
    rw [← q1, ← q2]
theorem new_same {N : Nat} (h1 : (snewest (S.now 1) (S.now (1 + 1))).2 = (N, [], 0)) (h2 : (snewest (S'.now 1) (S'.now (1 + 1))).2 = (N, [], 0)) : oNew S' 1 = oNew S 1 := by
  unfold oNew lnewest
  rw [h1, h2]
/-- What an Open with power makes of it. -/
theorem Kp2.opens (h : Kp2 S s y K E) (hf : S.fuse = -1) (hl0 : 0 ≤ S.life) (hl1 : S.life ≤ 900000000000000000) (ho : SOut S s x S1) :
    (x ≠ 0 → x = 41 ∧ oTop S 1 y.log = 1073741824) ∧ (x = 0 → oTop S 1 y.log < 1073741824 ∧ ∀ L, SLog S s L → Clean S1 s y L ∧ (∀ b, b < y.blocks → S1.now (y.home + b) = K b) ∧ Kp2 S1 s y K (oTop S 1 y.log + 1) ∧ oTop S1 1 y.log = oTop S 1 y.log + 1) := by
  have hcl := ho.clean h.ok h.byt hf h.p hl0 hl1
  have hcode := ho.code h.ok h.byt hf h.p hl0 hl1
  obtain ⟨rs, hd, ov, t1, t2, t3⟩ := h.tl
  unfold OCode at hcode
  rw [h.y'] at hcl hcode
  refine ⟨fun hx => ?_, fun hx => ?_⟩
  · rcases (hcl.1 hx).1 with ⟨_, e | e | ⟨rs', hd', a1, a2⟩⟩ | e
    · exact absurd h.sup e
    · exact absurd h.nw e
    · obtain ⟨rfl, _⟩ := t1.same a1
      rw [t2] at a2
      cases a2
    · exact e
  · have htl := oTop_le (n := y.log) h.nw
    have htop : oTop S 1 y.log ≠ 1073741824 := by
      rcases hcode with ⟨a1, _⟩ | ⟨_, ⟨a1, _⟩ | ⟨_, ⟨_, a1⟩ | ⟨a1, _⟩⟩⟩
      · exact absurd h.sup a1
      · exact absurd h.nw a1
      · rw [hx] at a1; cases a1
      · exact a1
    refine ⟨by omega, fun L hL => ?_⟩
    obtain ⟨d1, d2, d3, rs', hd', ov', u1, u2, u3⟩ := hcl.2 hx L hL
    obtain ⟨rfl, rfl⟩ := t1.same u1
    obtain rfl : ov = ov' := Option.some.inj (t2.symm.trans u2)
    have hk : ∀ b, b < y.blocks → S1.now (y.home + b) = K b := fun b hb => (u3 b hb).trans (t3 b hb)
    obtain ⟨f1, f2⟩ := h.fresh (T := oTop S 1 y.log) d1.ok d1.byt d1.p d1.sup d1.y' d3 rfl (by omega) (by rw [← d2]; exact d1.an) hk
    exact ⟨d1, hk, f1, f2⟩
theorem sbring_pend {h0 : Nat} : ∀ {ms : CM} {S : DS}, (∀ q ∈ ms, h0 + q.1 < s) → (sbring S s h0 ms).2.im = S.im ∧ ∀ q ∈ (sbring S s h0 ms).2.puts, q ∈ S.puts ∨ ∃ r ∈ ms, q.1 = h0 + r.1
  | [], S, _ => ⟨rfl, fun q hq => .inl hq⟩
  | q :: qs, S, h => by
    have hq := h q List.mem_cons_self
    have hw : (S.wr s ((h0 + q.1 : Nat) : Int) 512 q.2).2.im = S.im ∧ ∀ r ∈ (S.wr s ((h0 + q.1 : Nat) : Int) 512 q.2).2.puts, r ∈ S.puts ∨ r.1 = h0 + q.1 := by
      by_cases hf : S.fuse = 0
      · unfold DS.wr
        rw [if_pos hf]
        exact ⟨rfl, fun r hr => .inl hr⟩
      · obtain ⟨p1, p2⟩ := wr_puts_eq (S := S) (s := s) (k := h0 + q.1) hf hq q.2
        refine ⟨p2, fun r hr => ?_⟩
        rw [p1] at hr
        rcases List.mem_append.1 hr with h1 | h1
        · exact .inl h1
        · exact .inr (by rw [List.mem_singleton.1 h1])
    unfold sbring
    split
    · exact ⟨hw.1, fun r hr => (hw.2 r hr).imp id (fun e => ⟨q, List.mem_cons_self, e⟩)⟩
    · obtain ⟨i1, i2⟩ := sbring_pend (ms := qs) (S := (S.wr s ((h0 + q.1 : Nat) : Int) 512 q.2).2) (fun r hr => h r (List.mem_cons_of_mem _ hr))
      refine ⟨i1.trans hw.1, fun r hr => ?_⟩
      rcases i2 r hr with h1 | ⟨z, h1, h2⟩
      · exact (hw.2 r h1).imp id (fun e => ⟨q, List.mem_cons_self, e⟩)
      · exact .inr ⟨z, List.mem_cons_of_mem _ h1, h2⟩
/-- Wherever an Open is cut, the store that the disk holds is the same. -/
theorem Kp2.cut (h : Kp2 S s y K E) (hE : E < 1073741824) (hl0 : 0 ≤ S.life) (hl1 : S.life ≤ 900000000000000000) (ho : SOut S s x S1) (pl : List P3) (okc : (S1.crash s pl).Ok s) (byc : (S1.crash s pl).Byt) : Kp2 (S1.crash s pl) s y K (E + 1) := by
  obtain ⟨g1, g2, g3, g4, g5, g6⟩ := h.geo
  have hpc : (S1.crash s pl).puts = [] := rfl
  have htE := h.top
  rcases ho with ⟨_, _, rfl⟩ | ⟨hsup, hf, k⟩
  · exact (h.same okc byc hpc (fun j hj => crash_now5 h.ok h.p pl hj)).up (by omega)
  · have hlo := lopen_on h.ok hf hsup h.nw (by rw [h.y']; omega)
    obtain ⟨p1, p2, p3, p4⟩ := take_flat h.ok hf h.p
    rw [hlo, h.y'] at k
    obtain ⟨rs0, hd0, ov0, t1, t2, t3⟩ := h.tl
    have hwl : (S.take.fl s).2.life = S.life + 1 := (fl_life _ _).trans (wrap_life hl0 (t := S.life.toNat) (by omega) (by omega))
    have hwg : (lgOf S 1 y.log hd0).life = S.life + 1 := wrap_life hl0 (t := S.life.toNat) (by omega) (by omega)
    generalize S.take.fl s = P at *
    rcases k with ⟨e1, m1, _⟩ | ⟨_, rs, hd, hta, k⟩
    · exact absurd (e1.symm.trans p1) m1
    · obtain ⟨rfl, rfl⟩ := t1.same hta
      rcases k with ⟨a1, _⟩ | ⟨ov, hov, k⟩
      · rw [t2] at a1; cases a1
      · obtain rfl : ov0 = ov := Option.some.inj (t2.symm.trans hov)
        have h512 := rdAll_512 hov (fun q hq => by cases hq)
        have hMk : ∀ q ∈ ov0, y.home + q.1 < s ∧ q.2.length = 512 := fun q hq => ⟨by have := (h512 q hq).1; omega, (h512 q hq).2⟩
        have hovo : CM.Ok ov0 := rdAll_ok hov nilOk
        have hovl : ov0.length ≤ 2048 := by
          have := h.ok.hi
          rcases CM.length_le (n := 2048) hovo (fun q hq => by have := (hMk q hq).1; omega) 0 (fun _ _ => Nat.zero_le _) with h1 | h1
          · omega
          · rw [h1]; simp
        have hnil : rs0 = [] → ov0 = [] := fun e => by
          rw [e] at hov
          exact (Option.some.inj hov).symm
        rcases k with ⟨a1, a2, rfl⟩ | ⟨hz0, a2, rfl⟩
        · -- the homes are under way
          obtain ⟨i1, i2⟩ := sbring_pend (s := s) (h0 := y.home) (S := P.2) (fun q hq => (hMk q hq).1)
          obtain ⟨b1, b2, b3, b4, b5⟩ := sbring_facts (h0 := y.home) (ms := ov0) p3 hMk
          have hS1 : (sredo P.2 s y ov0 rs0).2 = (sbring P.2 s y.home ov0).2 := by
            unfold sredo at a1 ⊢
            split at a1
            · exact absurd a1.symm a2
            · rename_i q1
              rw [if_neg q1]
              split at a1
              · rename_i q2
                rw [if_pos q2]
              · rename_i q2
                rw [if_neg q2]
                exact (fl_err (by rw [a1]; exact a2)).1
          rw [hS1] at okc byc ⊢
          have hno : ∀ j, j < s → (∀ r ∈ ov0, y.home + r.1 ≠ j) → ((sbring P.2 s y.home ov0).2.crash s pl).now j = S.now j := fun j hj hr => by
            rw [cut_same b3 hj (pend_none_in (fun q hq e => by
              rcases i2 q hq with h1 | ⟨r, h1, h2⟩
              · rw [p2] at h1; cases h1
              · exact hr r h1 (by omega))), i1, ← p4 j hj]
            exact (now_none _ _ (by rw [p2]; rfl)).symm
          refine (h.moved okc byc rfl (hno 0 (by omega) (fun r hr e => by omega)) (by unfold oNew; rw [hno 1 (by omega) (fun r hr e => by omega), hno (1 + 1) (by omega) (fun r hr e => by omega)]) (fun i hi => hno _ (by omega) (fun r hr e => by omega)) (fun rs' hd' ov' u1 u2 b hb => ?_)).up (by omega)
          obtain ⟨rfl, _⟩ := t1.same u1
          obtain rfl : ov0 = ov' := Option.some.inj (t2.symm.trans u2)
          cases hg : CM.get ov0 b with
          | some c => rfl
          | none =>
            show ((sbring P.2 s y.home ov0).2.crash s pl).now (y.home + b) = S.now (y.home + b)
            refine hno _ (by omega) (fun r hr e => ?_)
            have h9 : CM.get ov0 b = some r.2 := CM.get_of_mem hovo (by rw [show b = r.1 by omega]; exact hr)
            rw [hg] at h9
            cases h9
        · -- the homes are written
          obtain ⟨r1, r2, r3, r4, r5, r6⟩ := sredo_facts (y := y) (rs := rs0) p3 p2 hMk hovl (by omega) (by omega)
          obtain ⟨q1, q2⟩ := sredo_now (y := y) (ov := ov0) (rs := rs0) p3 hovo hMk hnil hz0
          have hp3 := r4 hz0
          generalize sredo P.2 s y ov0 rs0 = Rd at *
          have hlow : ∀ j, j < y.home → j < s → Rd.2.now j = S.now j := fun j h1 h2 => (q2 j h1 h2).trans (p4 j h2)
          have hhome : ∀ b, b < y.blocks → Rd.2.now (y.home + b) = K b := fun b hb => by
            rw [q1 b (by omega), p4 _ (by omega)]
            exact t3 b hb
          have hRd : ∀ (ok : Rd.2.Ok s) (byt : (Rd.2.crash s pl).Byt) (okc : (Rd.2.crash s pl).Ok s), Kp2 (Rd.2.crash s pl) s y K (E + 1) := fun ok byt okc => by
            have hc : ∀ j, j < s → (Rd.2.crash s pl).now j = Rd.2.now j := fun j hj => crash_now5 ok hp3 pl hj
            refine (h.moved okc byt rfl ((hc 0 (by omega)).trans (hlow 0 (by omega) (by omega))) (by unfold oNew; rw [hc 1 (by omega), hc (1 + 1) (by omega), hlow 1 (by omega) (by omega), hlow (1 + 1) (by omega) (by omega)]) (fun i hi => (hc _ (by omega)).trans (hlow _ (by omega) (by omega))) (fun rs' hd' ov' u1 u2 b hb => ?_)).up (by omega)
            obtain ⟨rfl, _⟩ := t1.same u1
            obtain rfl : ov0 = ov' := Option.some.inj (t2.symm.trans u2)
            rw [hc _ (by omega), hhome b hb, t3 b hb]
            cases hg : CM.get ov0 b with
            | some c =>
              have := t3 b hb
              rw [hg] at this
              exact this
            | none => rfl
          have hst : ((lgOf S 1 y.log hd0).start Rd.2 s).2.1 = Rd.2 ∨ ((lgOf S 1 y.log hd0).start Rd.2 s).2.1 = (anew Rd.2 s 1 (((oTop S 1 y.log + 1) * 4294967296 : Nat) : Int)).2 := by
            have eN : ((((lgOf S 1 y.log hd0).top + 1 : Nat) : Int) * 4294967296 + ((0 : Nat) : Int)) = (((oTop S 1 y.log + 1) * 4294967296 : Nat) : Int) := by
              show (((oTop S 1 y.log + 1 : Nat) : Int) * 4294967296 + ((0 : Nat) : Int)) = _
              omega
            unfold LG.start
            split
            · exact .inl rfl
            · split
              · exact .inl rfl
              · rw [eN]
                split <;> exact .inr rfl
          rcases hst with e | e
          · rw [e] at okc byc ⊢
            exact hRd r1 byc okc
          · rw [e] at okc byc ⊢
            obtain ⟨N, n1, n2⟩ := new_form (n := y.log) h.nw
            obtain ⟨c1, c2⟩ := anew_cut (S := Rd.2) (s := s) (f := 1) r1 hp3 (by omega) (M := (oTop S 1 y.log + 1) * 4294967296) (N := N) (by rw [hlow 1 (by omega) (by omega), hlow (1 + 1) (by omega) (by omega)]; exact n1) n2 (by omega) pl
            have hring : ∀ i, i < y.log → ((anew Rd.2 s 1 (((oTop S 1 y.log + 1) * 4294967296 : Nat) : Int)).2.crash s pl).now (1 + 2 + i) = S.now (1 + 2 + i) := fun i hi => (c1 _ (by omega) (by omega) (by omega)).trans (hlow _ (by omega) (by omega))
            have hz : ((anew Rd.2 s 1 (((oTop S 1 y.log + 1) * 4294967296 : Nat) : Int)).2.crash s pl).now 0 = S.now 0 := (c1 0 (by omega) (by omega) (by omega)).trans (hlow 0 (by omega) (by omega))
            have hhm : ∀ b, b < y.blocks → ((anew Rd.2 s 1 (((oTop S 1 y.log + 1) * 4294967296 : Nat) : Int)).2.crash s pl).now (y.home + b) = K b := fun b hb => (c1 _ (by omega) (by omega) (by omega)).trans (hhome b hb)
            rcases c2 with c2 | c2
            · refine (h.moved okc byc rfl hz (new_same n1 c2) hring (fun rs' hd' ov' u1 u2 b hb => ?_)).up (by omega)
              obtain ⟨rfl, _⟩ := t1.same u1
              obtain rfl : ov0 = ov' := Option.some.inj (t2.symm.trans u2)
              rw [hhm b hb, t3 b hb]
              cases hg : CM.get ov0 b with
              | some c =>
                have := t3 b hb
                rw [hg] at this
                exact this
              | none => rfl
            · exact (h.fresh (T := oTop S 1 y.log) okc byc rfl (by rw [hz]; exact h.sup) (by rw [hz]; exact h.y') hring rfl (by omega) c2 hhm).1.up (by omega)
end
end Go.Proofs.YtokcgifpljeoiaaGreat
end

section
namespace Go.Proofs.YtokcgifpljeoiaaGreat
open Go.RowKit Go.Maps

section
variable {S S0 S1 : DS} {s : Nat} {x x0 : Int}
theorem OCode.moved (hs1 : 1 ≤ s) (h : ∀ j, j < s → S.now j = S0.now j) (hc : OCode S0 s x) : OCode S s x := by
  unfold OCode at hc ⊢
  rw [h 0 (by omega)]
  rcases hc with a1 | ⟨a1, hc⟩
  · exact .inl a1
  · have hg := stOpen_geo a1
    have hm := fun j (h1 : 1 ≤ j) (h2 : j < 1 + 2 + (lyOf (S0.now 0)).log) => h j (by omega)
    obtain ⟨_, e2, e3⟩ := log_same (S := S0) (S' := S) (n := (lyOf (S0.now 0)).log) (by omega) hm
    rw [e2, e3]
    refine .inr ⟨a1, ?_⟩
    rcases hc with a2 | ⟨a2, a3 | ⟨a3, rs, hd, a4, a5⟩⟩
    · exact .inl a2
    · exact .inr ⟨a2, .inl a3⟩
    · exact .inr ⟨a2, .inr ⟨a3, rs, hd, a4.moved (by omega) hm, a5⟩⟩
/-- A disk that holds what another one held that was refused. -/
structure Er (S0 S : DS) (s : Nat) : Prop where
  ok : S.Ok s
  byt : S.Byt
  p : S.puts = []
  now : ∀ j, j < s → S.now j = S0.now j
theorem Er.opens (h : Er S0 S s) (hc : OCode S0 s x0) (hx0 : x0 ≠ 0) (hf : S.fuse = -1) (hl0 : 0 ≤ S.life) (hl1 : S.life ≤ 900000000000000000) (ho : SOut S s x S1) (byt : S1.Byt) : x = x0 ∧ Er S0 S1 s := by
  have hs1 := h.ok.lo
  have e := OCode.same hs1 h.now hc (ho.code h.ok h.byt hf h.p hl0 hl1)
  obtain ⟨a1, a2, a3⟩ := (OCode.moved hs1 h.now hc).still hx0 h.ok h.p ho
  exact ⟨e, a2, byt, a1, fun j hj => (a3 j hj).trans (h.now j hj)⟩
theorem Er.cut (h : Er S0 S s) (hc : OCode S0 s x0) (hx0 : x0 ≠ 0) (ho : SOut S s x S1) (pl : List P3) (ok : (S1.crash s pl).Ok s) (byt : (S1.crash s pl).Byt) : Er S0 (S1.crash s pl) s := by
  obtain ⟨a1, a2, a3⟩ := (OCode.moved h.ok.lo h.now hc).still hx0 h.ok h.p ho
  exact ⟨ok, byt, rfl, fun j hj => (crash_now5 a2 a1 pl hj).trans ((a3 j hj).trans (h.now j hj))⟩
theorem Kp2.of_code (hok : S.Ok s) (hby : S.Byt) (hp : S.puts = []) (hc : OCode S s 0) : oTop S 1 (lyOf (S.now 0)).log < 1073741824 ∧ ∃ K, Kp2 S s (lyOf (S.now 0)) K (oTop S 1 (lyOf (S.now 0)).log) := by
  rcases hc with ⟨_, a1⟩ | ⟨a1, ⟨_, a2⟩ | ⟨a2, ⟨_, a3⟩ | ⟨a3, rs, hd, a4, ⟨_, a5⟩ | ⟨⟨ov, a5⟩, _⟩⟩⟩⟩
  · cases a1
  · cases a2
  · cases a3
  · cases a5
  · have := oTop_le (n := (lyOf (S.now 0)).log) a2
    exact ⟨by omega, fun b => (CM.get ov b).getD (S.now ((lyOf (S.now 0)).home + b)), hok, hby, hp, a1, rfl, a2, Nat.le_refl _, rs, hd, ov, a4, a5, fun _ _ => rfl⟩
theorem lay_now5 (S : DS) (k : Int) : (S.lay k).puts = S.puts ∧ (S.lay k).life = S.life ∧ (∀ j, (S.lay k).now j = S.now j) ∧ (S.Byt → (S.lay k).Byt) := by
  unfold DS.lay
  split
  · exact ⟨rfl, rfl, fun _ => rfl, id⟩
  · exact ⟨rfl, rfl, fun _ => rfl, fun h => ⟨h.1, h.2⟩⟩
end
/-- An Open, on a disk on which nothing pends. -/
def OpenX (w : World) (F : Nat → Prop) (p s : Nat) (S : DS) (e : Ending) (w' : World) : Prop :=
  ∃ x S' c' F' v, e = .returned (.tuple #[v, .int .i64 x]) ∧ SOut S s x S' ∧ Keeps F w w' ∧ (∀ k, F' k → more F w w' k) ∧ B.DiskR w' F' p s S' c' ∧ S'.Byt ∧ S'.puts.length ≤ 6000 ∧ 0 ≤ S'.life ∧ S'.life ≤ S.life + 1 ∧ (S.fuse = -1 → S'.fuse = -1) ∧ (x ≠ 0 → v = .pointer none) ∧
    (x = 0 → ∃ q l m L, v = .pointer (some ⟨q, 0, none⟩) ∧ SLog S s L ∧ w.heap.size ≤ q ∧ w.heap.size ≤ l ∧ w.heap.size ≤ m ∧ StW w' F' p s c' q l m S' ⟨lyOf (S.now 0), L, [], false⟩)
theorem SOut.calm {S S1 : DS} {s : Nat} {x : Int} (hf : S.fuse = -1) (h : SOut S s x S1) : S1.fuse = -1 := by
  rcases h with ⟨_, _, rfl⟩ | ⟨_, _, k⟩
  · exact hf
  · have hl : ∀ n : Int, (lopen S s 1 n).2.fuse = -1 := fun n => by
      unfold lopen
      split
      · exact hf
      · split
        · exact hf
        · split
          · exact hf
          · exact fl_calm (S := S.take) hf s
    rcases k with ⟨_, _, rfl⟩ | ⟨_, rs, hd, _, ⟨_, _, rfl⟩ | ⟨ov, _, ⟨_, _, rfl⟩ | ⟨_, _, rfl⟩⟩⟩
    · exact hl _
    · exact hl _
    · exact sredo_calm (hl _)
    · exact start_calm5 (sredo_calm (hl _))
theorem openX_any {w : World} {F : Nat → Prop} {p s c : Nat} {S : DS} (h : B.DiskR w F p s S c) (hby : S.Byt) (hp : S.puts = []) (hl0 : 0 ≤ S.life) (hl1 : S.life ≤ 900000000000000000) :
    Calls Tryz.prog 11 #[.pointer (some ⟨p, 0, none⟩)] w fun e w' => OpenX w F p s S e w' := by
  refine (stOpen_any h hby (by rw [hp]; simp)).mono ?_
  rintro e w' ⟨x, S', cR, _, hso, hk, hcase⟩
  have hinv : V.Inv S s [] S.life.toNat := V.Inv.zero h.ok hby (by rw [hp]; rfl) hl0 (by omega)
  have hsop := hinv.sopen (by omega) hso
  rcases hcase with ⟨hx, rfl, hd⟩ | ⟨hx, q, l, m, L, F', hsl, rfl, hF', hq, hl, hm, hst⟩
  · have hI := hsop.1 hx
    have := hI.lt
    exact ⟨x, S', cR, _, _, rfl, hso, hk, fun _ h => h, hd, hI.byt, hI.p6, hI.l0, by omega, hso.calm, fun _ => rfl, fun e => absurd e hx⟩
  · have hI := hsop.2 hx L hsl
    have := hI.lt
    subst hx
    exact ⟨0, S', cR, F', _, rfl, hso, hk, hF', hst.d, hI.byt, hI.p6, hI.l0, by omega, hso.calm, fun e => absurd rfl e, fun _ => ⟨q, l, m, L, rfl, hsl, hq, hl, hm, hst⟩⟩
/-- A list of cuts that is only read. -/
def CutsIn (w : World) (B : Nat) (sa : Option Addr) (n : Nat) : Prop :=
  (sa = none → n = 0) ∧ ∀ y, sa = some y → ∀ i, i < n → ∃ b o, y = ⟨b, o, none⟩ ∧ b < B ∧ ∃ (x : Int) (pa : Option Addr) (pn pc : Nat) (pl : List P3), w.cell? ⟨b, o + i * 2, none⟩ = some (.int .i64 x) ∧ w.cell? ⟨b, o + i * 2 + 1, none⟩ = some (.slice pa pn pc) ∧ (-9223372036854775808 ≤ x ∧ x ≤ 9223372036854775807) ∧ PSrc w pa pn pl ∧ (∀ y, pa = some y → 0 < pn → y.block < B) ∧ 24 * pn ≤ 140737488355328
theorem PSrc.far5 {w w' : World} {B : Nat} {a : Option Addr} {n : Nat} {l : List P3} (h : PSrc w a n l) (hb : Below B w w') (hB : ∀ y, a = some y → 0 < n → y.block < B) : PSrc w' a n l := by
  refine ⟨h.1, h.2.1, fun x hx i hi => ?_, h.2.2.2⟩
  obtain ⟨b, o, rfl, h1, h2, h3⟩ := h.2.2.1 x hx i hi
  have e := hb.block b (hB _ hx (by have := h.1; omega))
  exact ⟨b, o, rfl, (World.cell?_of_block (w := w) (a := ⟨b, _, none⟩) e).trans h1, (World.cell?_of_block (w := w) (a := ⟨b, _, none⟩) e).trans h2, (World.cell?_of_block (w := w) (a := ⟨b, _, none⟩) e).trans h3⟩
theorem dfuse5 {w : World} {F : Nat → Prop} {p s c : Nat} {S : DS} (h : B.DiskR w F p s S c) (calls : Int) (hc : calls ≤ 9223372036854775807) : Calls Tryz.prog 14 #[.pointer (some ⟨p, 0, none⟩), .int .i64 calls] w fun e w' => e = .returned (.tuple #[]) ∧ B.DiskR w' F p s (S.lay calls) c ∧ Keeps F w w' := by
  obtain ⟨r, h1, h2⟩ := h
  refine (fuse_at h1 calls hc).mono ?_
  rintro e w' ⟨rfl, h3, h4⟩
  refine ⟨rfl, ⟨r, ?_, h2⟩, h4⟩
  have e1 : (S.rds r).lay calls = (S.lay calls).rds r := by
    unfold DS.lay
    by_cases q : S.fuse = 0
    · rw [if_pos q, if_pos (show (S.rds r).fuse = 0 from q)]
    · rw [if_neg q, if_neg (show ¬ (S.rds r).fuse = 0 from q)]
      rfl
  rw [← e1]
  exact h3
end Go.Proofs.YtokcgifpljeoiaaGreat
end

section
namespace Go.Proofs.YtokcgifpljeoiaaGreat
open Go.RowKit Go.Maps

/-- The disk that is opened again and again, and the other one beside it. -/
def LD (w wr : World) (F2 : Nat → Prop) (pd pc s : Nat) (S0 : DS) (N : Nat) (P : DS → Prop) : Prop :=
  ∃ c' F S, B.DiskR wr F pd s S c' ∧ (∀ k, F k → w.heap.size ≤ k ∧ ¬ F2 k) ∧ S.fuse = -1 ∧ 0 ≤ S.life ∧ S.life ≤ N ∧ S.Byt ∧ S.puts = [] ∧ P S ∧ B.DiskR wr F2 pc s S0 0 ∧ Below w.heap.size w wr
/-- What an Open of it leaves. -/
def LDO (w _wr : World) (F2 : Nat → Prop) (pd pc s : Nat) (S0 : DS) (N : Nat) (P : DS → Prop) (x : Int) (v : Value) (w' : World) : Prop :=
  ∃ S S', P S ∧ S.Ok s ∧ S.fuse = -1 ∧ 0 ≤ S.life ∧ S.life ≤ N ∧ SOut S s x S' ∧ S'.Byt ∧ (∀ P' : DS → Prop, P' S' → S'.puts = [] → LD w w' F2 pd pc s S0 (N + 1) P') ∧ (x ≠ 0 → v = .pointer none) ∧
    (x = 0 → ∃ q l m L c' F', v = .pointer (some ⟨q, 0, none⟩) ∧ SLog S s L ∧ w.heap.size ≤ q ∧ (¬ F2 q) ∧ StW w' F' pd s c' q l m S' ⟨lyOf (S.now 0), L, [], false⟩ ∧ (∀ k, F' k → w.heap.size ≤ k ∧ ¬ F2 k)) ∧ B.DiskR w' F2 pc s S0 0 ∧ Below w.heap.size w w'
theorem LD.open {w wr : World} {F2 : Nat → Prop} {pd pc s N : Nat} {S0 : DS} {P : DS → Prop} (h : LD w wr F2 pd pc s S0 N P) (hN : N ≤ 800000000000000000) :
    Calls Tryz.prog 11 #[.pointer (some ⟨pd, 0, none⟩)] wr fun e w' => ∃ x v, e = .returned (.tuple #[v, .int .i64 x]) ∧ LDO w wr F2 pd pc s S0 N P x v w' := by
  obtain ⟨c', F, S, hd, hF, hf, hl0, hl1, hby, hp, hP, hd2, hbe⟩ := h
  refine (openX_any hd hby hp hl0 (by omega)).mono ?_
  rintro e w' ⟨x, S', c'', F', v, rfl, hso, hk, hF', hd', hby', hpu, hl0', hl1', hfu, hx1, hx2⟩
  have hz := hk.size
  have hzw := hbe.size
  have h2lt := hd2.lt
  have hFF : ∀ k, F' k → w.heap.size ≤ k ∧ ¬ F2 k := fun k hk' => by
    rcases hF' k hk' with h9 | h9
    · exact hF k h9
    · exact ⟨by omega, fun h8 => by have := h2lt k h8; omega⟩
  have hd2' := hd2.keep hk (fun k h9 h8 => (hF k h8).2 h9)
  have hbe' : Below w.heap.size w w' := hbe.trans (hk.below (fun k h9 => (hF k h9).1) hzw)
  refine ⟨x, v, rfl, S, S', hP, hd.ok, hf, hl0, hl1, hso, hby', fun P' hP' hp' => ⟨c'', F', S', hd', hFF, hfu hf, hl0', by omega, hby', hp', hP', hd2', hbe'⟩, hx1, fun e => ?_, hd2', hbe'⟩
  obtain ⟨q, l, m, L, rfl, hsl, hq, _, _, hst⟩ := hx2 e
  exact ⟨q, l, m, L, c'', F', rfl, hsl, by omega, fun h8 => by have := h2lt q h8; omega, hst, hFF⟩
/-- The disk whose Opens are cut, and the blocks that were told of the first. -/
def LC (w wr : World) (X : Nat → Prop) (v : Value) (cs : List (List Int)) (pc s : Nat) (N : Nat) (P : DS → Prop) : Prop :=
  ∃ c' F S, B.DiskR wr F pc s S c' ∧ (∀ k, F k → w.heap.size ≤ k ∧ ¬ X k) ∧ S.fuse = -1 ∧ 0 ≤ S.life ∧ S.life ≤ N ∧ S.Byt ∧ S.puts = [] ∧ P S ∧ HL wr X v cs ∧ (∀ k, X k → k < wr.heap.size) ∧ Below w.heap.size w wr
theorem crash_life5 {S : DS} {s : Nat} {pl : List P3} (h0 : 0 ≤ S.life) (h1 : S.life ≤ 900000000000000000) : (S.crash s pl).life = S.life + 1 := wrap_life h0 (t := S.life.toNat) (by omega) (by omega)
/-- How a round of cutting ends. -/
theorem LC.cut {w wo wz : World} {X : Nat → Prop} {v : Value} {cs : List (List Int)} {pc s N c'' : Nat} {F' : Nat → Prop} {S' : DS} {pl : List P3} {P' : DS → Prop} (hF : ∀ k, F' k → w.heap.size ≤ k ∧ ¬ X k) (hby : S'.Byt) (hl0 : 0 ≤ S'.life) (hl1 : S'.life ≤ N) (hN : N ≤ 800000000000000000) (hHL : HL wo X v cs) (hX : ∀ k, X k → k < wo.heap.size) (hbe : Below w.heap.size w wo) (hd : B.DiskR wz F' pc s (S'.crash s pl) c'') (hk : Keeps F' wo wz) (hP : P' (S'.crash s pl)) : LC w wz X v cs pc s (N + 1) P' := by
  have hl := crash_life5 (S := S') (s := s) (pl := pl) hl0 (by omega)
  have hz := hk.size
  exact ⟨c'', F', _, hd, hF, rfl, by rw [hl]; omega, by rw [hl]; omega, hby.crash s pl, rfl, hP, hHL.keep hk (fun k h9 h8 => (hF k h8).2 h9), fun k h9 => by have := hX k h9; omega, hbe.trans (hk.below (fun k h9 => (hF k h9).1) hbe.size)⟩
end Go.Proofs.YtokcgifpljeoiaaGreat
end

section
namespace Go.Proofs.YtokcgifpljeoiaaGreat
open Go.RowKit Go.Maps

set_option maxRecDepth 20000 in
set_option maxHeartbeats 32000000 in
theorem stwice_ok (a : Option Addr) (n c s : Nat) (l : List Int) (sa : Option Addr) (cn cc : Nat) (w : World) (hn : n = s * 512) (h1 : 1 ≤ s) (h2 : s ≤ 2048) (hs : Src w a n l) (hbl : Bytes l) (hci : CutsIn w w.heap.size sa cn) (hcn : cn ≤ 140737488355328) :
    Calls Tryz.prog 3 #[.slice a n c, .slice sa cn cc] w fun e w' => e = .returned (.bool true) ∧ Below w.heap.size w w' := by
  have hn47 : n ≤ 140737488355328 := by omega
  have ht := twin_any a n c l w hn47 hs
  have hll := hs.1
  have km := made5_any
  have HN := Hid.mk hn
  have HCi := Hid.mk hci
  have HSr := Hid.mk hs
  clear hs hn hci
  go_enter Tryz.func3, Tryz.ntmps3
  go_wp2_with fail
  refine ht.mono ?_
  rintro e w1 ⟨g, rfl, hg, hr, hb1⟩
  have hl := load_ok ⟨g, 0, none⟩ n n s l w1 HN.out h1 h2 hll (fun i hi => hr.byte (by omega))
  have hz1 := hb1.size
  clear hr ht hg
  go_wp2_with fail
  refine hl.mono ?_
  rintro e w2 ⟨pd, rfl, hd, hb2⟩
  have hz2 := hb2.size
  have hb : Below w.heap.size w w2 := hb1.trans (hb2.mono hb1.size)
  have ht2 := twin_any a n c l w2 hn47 (HSr.out.later hb)
  have hdr : B.DiskR w2 (fun k => w1.heap.size ≤ k ∧ k < w2.heap.size) pd s (DS.fresh l) 0 := ⟨0, hd, fun _ => ⟨Int.le_refl _, Int.le_refl _⟩⟩
  have HD1 := Hid.mk (And.intro hb hdr)
  clear hl hd hdr hb hb1 hb2
  go_wp2_with fail
  refine ht2.mono ?_
  rintro e w3 ⟨g2, rfl, hg2, hr2, hb3⟩
  have hl2 := load_ok ⟨g2, 0, none⟩ n n s l w3 HN.out h1 h2 hll (fun i hi => hr2.byte (by omega))
  have hz3 := hb3.size
  have HD2 := Hid.mk (And.intro (HD1.out.1.trans (hb3.mono HD1.out.1.size)) (HD1.out.2.later hb3))
  clear hr2 ht2 hg2 hb3 HD1
  go_wp2_with fail
  refine hl2.mono ?_
  rintro e w4 ⟨pc, rfl, hd4, hb4⟩
  have hz4 := hb4.size
  have hdr : B.DiskR w4 (fun k => w3.heap.size ≤ k ∧ k < w4.heap.size) pc s (DS.fresh l) 0 := ⟨0, hd4, fun _ => ⟨Int.le_refl _, Int.le_refl _⟩⟩
  have HD3 := Hid.mk (And.intro (HD2.out.1.trans (hb4.mono HD2.out.1.size)) (And.intro (HD2.out.2.later hb4) hdr))
  clear hl2 hd4 hdr hb4 HD2
  go_wp2_with fail
  refine (km _).mono ?_
  rintro e w5 ⟨rfl, hb5⟩
  have hz5 := hb5.size
  have hbe := HD3.out.1.trans (hb5.mono HD3.out.1.size)
  have hd1 : B.DiskR w5 (fun k => w1.heap.size ≤ k ∧ k < w2.heap.size) pd s (DS.fresh l) 0 := HD3.out.2.1.later hb5
  have hd2 : B.DiskR w5 (fun k => w3.heap.size ≤ k ∧ k < w4.heap.size) pc s (DS.fresh l) 0 := HD3.out.2.2.later hb5
  obtain ⟨F2, hF2d⟩ : ∃ F2 : Nat → Prop, F2 = fun k => w3.heap.size ≤ k ∧ k < w4.heap.size := ⟨_, rfl⟩
  rw [← hF2d] at hd2
  have HF2 : Hid (∀ k, F2 k → w.heap.size ≤ k) := fun k h => by rw [hF2d] at h; have := h.1; omega
  have hS0 : (DS.fresh l).puts = [] ∧ (DS.fresh l).fuse = -1 ∧ (DS.fresh l).life = 1 ∧ (DS.fresh l).Byt := ⟨rfl, rfl, rfl, hbl, fun q hq => by cases hq⟩
  generalize DS.fresh l = S0 at *
  have HS0 := Hid.mk hS0
  have hLD : LD w w5 F2 pd pc s S0 5 (fun S => S = S0) := ⟨0, _, S0, hd1, fun k h => ⟨by have := h.1; omega, fun h8 => by rw [hF2d] at h8; have := h.2; have := h8.1; omega⟩, hS0.2.1, by rw [hS0.2.2.1]; decide, by rw [hS0.2.2.1]; decide, hS0.2.2.2, hS0.1, rfl, hd2, hbe⟩
  have hok0 := hd2.ok
  have ko := hLD.open (by omega)
  clear hd1 hd2 hb5 hbe hS0 hF2d hLD HD3 km hbl hll HN HSr hn47 hz1 hz2 hz3 hz4 hz5
  go_wp2_with fail
  refine ko.mono ?_
  rintro e w6 ⟨x0, v0, rfl, Sx, S1, hPx, hok, hfu, hl0, hl1, hso, hby, hnext, hv1, hv2, hdc, hbe⟩
  subst hPx
  have hcode := hso.code hok HS0.out.2.2.2 hfu HS0.out.1 hl0 (by omega)
  have HC0 := Hid.mk hcode
  clear ko hdc
  by_cases hx0 : x0 = 0
  · obtain ⟨hT, K, hK0⟩ := Kp2.of_code hok HS0.out.2.2.2 HS0.out.1 (by rw [hx0] at hcode; exact hcode)
    obtain ⟨o3, o4⟩ := (hK0.opens hfu hl0 (by omega) hso).2 hx0
    obtain ⟨q7, l7, m7, L7, c7, F7, rfl, hsl, _⟩ := hv2 hx0
    obtain ⟨r1, r2, r3, r4⟩ := o4 L7 hsl
    obtain ⟨y, hy⟩ : ∃ y, y = lyOf (Sx.now 0) := ⟨_, rfl⟩
    rw [← hy] at hT hK0 r1 r2 r3 r4
    obtain ⟨T0, hT0⟩ : ∃ T0, T0 = oTop Sx 1 y.log := ⟨_, rfl⟩
    rw [← hT0] at hT hK0 r3 r4
    have HL0 : Hid (LD w w6 F2 pd pc s Sx (10 + 0) (fun S => Kp2 S s y K (T0 + 1 + 0) ∧ oTop S 1 y.log = T0 + 1 + 0)) := by
      obtain ⟨c', F, S, a1, a2, a3, a4, a5, a6⟩ := hnext (fun S => Kp2 S s y K (T0 + 1 + 0) ∧ oTop S 1 y.log = T0 + 1 + 0) ⟨r3, r4⟩ r1.p
      exact ⟨c', F, S, a1, a2, a3, a4, by omega, a6⟩
    have HK0 : Hid (Kp2 Sx s y K (T0 + 0)) := hK0
    subst hx0
    clear hcode hK0 hok hfu hl0 hl1 hso hby hnext hv1 hv2 hbe hsl r1 r2 r3 r4 o3 o4 hy hT0 HC0 hok0
    go_wp2
    go_loopw [11] (fun iv wr => ∃ i : Nat, iv = .int .i64 i ∧ i ≤ cn ∧ LD w wr F2 pd pc s Sx (10 + i) (fun S => Kp2 S s y K (T0 + 1 + i) ∧ oTop S 1 y.log = T0 + 1 + i)) (fun iv _ => cn - (intOf iv).toNat)
    case atStart => exact ⟨0, rfl, Nat.zero_le _, HL0.out⟩
    case round =>
      obtain ⟨i, rfl, hi, hLD⟩ := hrel
      by_cases hlt : i < cn
      · have hlt' : (i : Int) < (cn : Int) := by omega
        have ko := hLD.open (by omega)
        clear hLD HL0
        go_wp2_with fail
        refine ko.mono ?_
        rintro e w7 ⟨x, v7, rfl, S, S', hP, hok, hfu, hl0, hl1, hso, hby, hnext, hv1, hv2, hd2, hbe⟩
        obtain ⟨hk1, hk2⟩ := hP
        obtain ⟨o1, o2⟩ := hk1.opens hfu hl0 (by omega) hso
        by_cases qx : x = 0
        · obtain ⟨o3, o4⟩ := o2 qx
          obtain ⟨q7, l7, m7, L7, c7, F7, rfl, hsl, _⟩ := hv2 qx
          obtain ⟨r1, r2, r3, r4⟩ := o4 L7 hsl
          rw [hk2] at r3 r4
          have HN := Hid.mk (hnext (fun S => Kp2 S s y K (T0 + 1 + (i + 1)) ∧ oTop S 1 y.log = T0 + 1 + (i + 1)) ⟨r3, r4⟩ r1.p)
          subst qx
          clear ko hk1 hk2 o1 o2 o3 o4 hok hfu hl0 hl1 hso hby hnext hv1 hv2 hd2 hbe hsl r1 r2 r3 r4
          go_wp2
          go_roundw
          case rel => exact ⟨i + 1, by go_num, by omega, HN.out⟩
          case measure => simp [intOf]; omega
        · have q41 := (o1 qx).1
          subst q41
          have HB := Hid.mk hbe
          clear ko hk1 hk2 o1 o2 hok hfu hl0 hl1 hso hby hnext hv1 hv2 hd2 hbe
          go_wp2
          go_ret
          exact ⟨rfl, HB.out⟩
      · have hlt' : ¬ (i : Int) < (cn : Int) := by omega
        have hic : i = cn := by omega
        rw [hic] at hLD
        have HLD := Hid.mk hLD
        clear hLD HL0 hic hi
        have ko := HLD.out.open (by omega)
        clear HLD
        go_wp2_with fail
        refine ko.mono ?_
        rintro e w7 ⟨x, v7, rfl, S, S', hP, hok, hfu, hl0, hl1, hso, hby, hnext, hv1, hv2, hd2, hbe⟩
        obtain ⟨hk1, hk2⟩ := hP
        obtain ⟨o1, o2⟩ := hk1.opens hfu hl0 (by omega) hso
        by_cases qx : x = 0
        · obtain ⟨o3, o4⟩ := o2 qx
          obtain ⟨q7, l7, m7, L7, c7, F7, rfl, hsl, hqw, hqF, hst7, hF7⟩ := hv2 qx
          obtain ⟨r1, r2, r3, r4⟩ := o4 L7 hsl
          have hTT : T0 + 1 + cn < 1073741824 := by omega
          rw [hk1.y'] at hst7
          have kl7 := layout_any hst7.st
          have hgeo := hk1.geo
          have hfld : ∀ wx, (Instr.field 37 (.agg #[.int .i64 (y.log : Int), .int .i64 (y.home : Int), .int .i64 (y.blocks : Int), .int .i64 (y.nodes : Int), .int .i64 (y.data : Int)]) 2).run Tryz.prog wx = .ok (.int .i64 (y.blocks : Int)) wx := fun wx => by kernel_rfl
          have HO := Hid.mk (And.intro hst7 (And.intro r1 (And.intro r2 (And.intro hF7 (And.intro hd2 hbe)))))
          have hzw := hbe.size
          subst qx
          clear ko hk1 hk2 o1 o2 o3 o4 hok hfu hl0 hl1 hso hby hnext hv1 hv2 hd2 hbe hsl r1 r2 r3 r4 hst7 hF7
          go_wp2_with fail
          refine kl7.mono ?_
          rintro e wl ⟨rfl, hbl7⟩
          have hst8 := HO.out.1.later hbl7
          have ka := all5_any hst8 HO.out.2.1.ready.1 rfl (by rw [HO.out.2.1.p]; simp) (by show y.blocks ≤ 2048; exact hgeo.2.2.2.2.1)
          have hzl := hbl7.size
          have HP6 := Hid.mk (And.intro (HO.out.2.2.2.2.1.later hbl7) (HO.out.2.2.2.2.2.trans (hbl7.mono HO.out.2.2.2.2.2.size)))
          clear kl7 hbl7 hst8
          go_wp2_with fail
          refine ka.mono ?_
          rintro e wa ⟨vH, rfl, hHL6, _, hk6⟩
          have hza := hk6.size
          obtain ⟨cs, hcs⟩ : ∃ cs, cs = blks ⟨y, L7, [], false⟩ S' y.blocks := ⟨_, rfl⟩
          have HCs : Hid (cs.length = y.blocks ∧ ∀ b (hb : b < cs.length), cs[b] = K b) := by
            subst hcs
            refine ⟨blks_len _ _ _, fun b hb => ?_⟩
            simp only [blks, List.getElem_map, List.getElem_range]
            exact HO.out.2.2.1 b (by rw [blks_len] at hb; exact hb)
          have hHL7 : HL wa (fun k => wl.heap.size ≤ k ∧ k < wa.heap.size) vH cs := by rw [hcs]; exact hHL6
          obtain ⟨X, hXd⟩ : ∃ X : Nat → Prop, X = fun k => wl.heap.size ≤ k ∧ k < wa.heap.size := ⟨_, rfl⟩
          rw [← hXd] at hHL7
          have hXl : ∀ k, X k → k < wa.heap.size := fun k h => by rw [hXd] at h; exact h.2
          have hdl := HP6.out.1.lt
          have hdc := HP6.out.1.keep hk6 (by
            rintro k h9 (h8 | h8)
            · exact (HO.out.2.2.2.1 k h8).2 h9
            · exact hqF (h8 ▸ h9))
          have hbF : Below w.heap.size w wa := HP6.out.2.trans (hk6.below (by
            rintro k (h8 | h8)
            · exact (HO.out.2.2.2.1 k h8).1
            · omega) HP6.out.2.size)
          have hFc : ∀ k, F2 k → w.heap.size ≤ k ∧ ¬ X k := fun k h9 => ⟨HF2.out k h9, fun h => by rw [hXd] at h; have := hdl k h9; omega⟩
          have HLC0 : Hid (LC w wa X vH cs pc s (10 + 3 * 0) (fun S => Kp2 S s y K (T0 + 0))) := ⟨0, F2, Sx, hdc, hFc, HS0.out.2.1, by rw [HS0.out.2.2.1]; decide, by rw [HS0.out.2.2.1]; decide, HS0.out.2.2.2, HS0.out.1, HK0.out, hHL7, hXl, hbF⟩
          clear ka hHL6 hHL7 hk6 hcs hXd hXl hdl hdc hbF hFc HO HP6
          go_wp2
          go_loopw [17] (fun iv wr => ∃ i : Nat, iv = .int .i64 i ∧ i ≤ cn ∧ LC w wr X vH cs pc s (10 + 3 * i) (fun S => Kp2 S s y K (T0 + i))) (fun iv _ => cn - (intOf iv).toNat)
          case atStart => exact ⟨0, rfl, Nat.zero_le _, HLC0.out⟩
          case round =>
            obtain ⟨i, rfl, hi, c', F, S, hd, hF, hfu, hl0, hl1, hby, hp, hP, hHL, hX, hbe⟩ := hrel
            by_cases hlt : i < cn
            · have hlt' : (i : Int) < (cn : Int) := by omega
              obtain ⟨sy, rfl⟩ : ∃ sy, sa = some sy := by
                cases hsa : sa with
                | none => have := HCi.out.1 hsa; omega
                | some sy => exact ⟨sy, rfl⟩
              obtain ⟨pb, po, rfl, hpb, x, pa, pn, pq, pl, cx, cy, hx, hps, hpB, hpn⟩ := HCi.out.2 sy rfl i hlt
              have cx' : wr.cell? ⟨pb, po + i * 2, none⟩ = some (.int .i64 x) := (World.cell?_of_block (w := w) (a := ⟨pb, _, none⟩) (hbe.block pb hpb)).trans cx
              have kw := within5_any x 0 40 (by omega) (by omega) hx wr
              have hwb := (wthn_in x (lo := 0) (hi := 40) (by omega)).2
              generalize wthn x 0 40 = k0 at *
              have kf := dfuse5 hd (k0 : Int) (by omega)
              have HS := Hid.mk (And.intro hF (And.intro hfu (And.intro hl0 (And.intro hl1 (And.intro hby (And.intro hp (And.intro hP (And.intro hHL (And.intro hX (And.intro hbe (And.intro cy (And.intro hps (And.intro hpB hd.lt)))))))))))))
              clear hd hF hfu hl0 hl1 hby hp hP hHL hX hbe cx cy hps hpB hwb HLC0
              go_wp2_with fail
              refine kw.mono ?_
              rintro e wy ⟨rfl, hwy⟩
              have hwy' := hwy.symm
              subst hwy'
              clear hwy kw cx'
              go_wp2_with fail
              refine kf.mono ?_
              rintro e wf ⟨rfl, hdf, hkf⟩
              obtain ⟨y1, y2, y3, y4⟩ := lay_now5 S (k0 : Int)
              have ko := openX_any hdf (y4 HS.out.2.2.2.2.1) (by rw [y1]; exact HS.out.2.2.2.2.2.1) (by rw [y2]; exact HS.out.2.2.1) (by rw [y2]; have := HS.out.2.2.2.1; omega)
              have hzf := hkf.size
              have HF := Hid.mk (And.intro hdf (And.intro y1 (And.intro y2 (And.intro y3 (And.intro (y4 HS.out.2.2.2.2.1) (And.intro (HS.out.2.2.2.2.2.2.2.1.keep hkf (fun k h9 h8 => (HS.out.1 k h8).2 h9)) (HS.out.2.2.2.2.2.2.2.2.2.1.trans (hkf.below (fun k h9 => (HS.out.1 k h9).1) HS.out.2.2.2.2.2.2.2.2.2.1.size))))))))
              clear kf hdf hkf y1 y2 y3 y4
              go_wp2_with fail
              refine ko.mono ?_
              rintro e wo ⟨x5, S', c5, F', v5, rfl, hso, hk5, hF5, hd5, hby5, hpu5, hl05, hl15, _, _, _⟩
              have hz5 := hk5.size
              have hFX : ∀ k, F' k → w.heap.size ≤ k ∧ ¬ X k := fun k h9 => by
                have := HS.out.2.2.2.2.2.2.2.2.2.1.size
                rcases hF5 k h9 with h8 | h8
                · exact HS.out.1 k h8
                · exact ⟨by omega, fun h7 => by have := HS.out.2.2.2.2.2.2.2.2.1 k h7; omega⟩
              have hHL5 := HF.out.2.2.2.2.2.1.keep hk5 (fun k h9 h8 => (HS.out.1 k h8).2 h9)
              have hbe5 : Below w.heap.size w wo := HF.out.2.2.2.2.2.2.trans (hk5.below (fun k h9 => (HS.out.1 k h9).1) HF.out.2.2.2.2.2.2.size)
              have cy' : wo.cell? ⟨pb, po + i * 2 + 1, none⟩ = some (.slice pa pn pq) := (World.cell?_of_block (w := w) (a := ⟨pb, _, none⟩) (hbe5.block pb hpb)).trans HS.out.2.2.2.2.2.2.2.2.2.2.1
              have kt := twinp_any pa pn pq pl wo hpn (HS.out.2.2.2.2.2.2.2.2.2.2.2.1.far5 hbe5 HS.out.2.2.2.2.2.2.2.2.2.2.2.2.1)
              have hlay : S'.life ≤ ((10 + 3 * i + 1 : Nat) : Int) := by have h7 := HF.out.2.2.1; have h8 := HS.out.2.2.2.1; omega
              have HO := Hid.mk (And.intro hso (And.intro hd5 (And.intro hby5 (And.intro hpu5 (And.intro hl05 (And.intro hFX (And.intro hHL5 (And.intro hbe5 hlay))))))))
              clear ko hso hk5 hF5 hd5 hby5 hpu5 hl05 hl15 hFX hHL5 hbe5 hlay
              go_wp2_with fail
              refine kt.mono ?_
              rintro e wt ⟨g, rfl, hg, hps2, hbt⟩
              have hzt := hbt.size
              have kr := B.dcrash (HO.out.2.1.later hbt) (by have := HO.out.2.2.2.1; omega) (some ⟨g, 0, none⟩) pn pn pl hps2 (by omega) (fun y e h9 => by cases e; have h8 : F' g := h9; have := HO.out.2.1.lt _ h8; omega)
              have HT := Hid.mk (And.intro (HO.out.2.2.2.2.2.2.1.later hbt) (HO.out.2.2.2.2.2.2.2.1.trans (hbt.mono HO.out.2.2.2.2.2.2.2.1.size)))
              clear kt hps2 hbt cy'
              go_wp2_with fail
              refine kr.mono ?_
              rintro e wz ⟨rfl, hdz, hkz⟩
              have hPz : (fun S => Kp2 S s y K (T0 + (i + 1))) (S'.crash s pl) := by
                have h8 : Kp2 (S.lay (k0 : Int)) s y K (T0 + i) := HS.out.2.2.2.2.2.2.1.same HF.out.1.ok HF.out.2.2.2.2.1 (by rw [HF.out.2.1]; exact HS.out.2.2.2.2.2.1) (fun j _ => HF.out.2.2.2.1 j)
                exact h8.cut (by omega) (by rw [HF.out.2.2.1]; exact HS.out.2.2.1) (by rw [HF.out.2.2.1]; have := HS.out.2.2.2.1; omega) HO.out.1 pl hdz.ok (HO.out.2.2.1.crash s pl)
              have hend : LC w wz X vH cs pc s (10 + 3 * (i + 1)) (fun S => Kp2 S s y K (T0 + (i + 1))) := by
                have h9 := LC.cut (N := 10 + 3 * i + 2) (P' := fun S => Kp2 S s y K (T0 + (i + 1))) HO.out.2.2.2.2.2.1 HO.out.2.2.1 HO.out.2.2.2.2.1 (by have := HO.out.2.2.2.2.2.2.2.2; omega) (by omega) HT.out.1 (fun k h9 => by have := HS.out.2.2.2.2.2.2.2.2.1 k h9; omega) HT.out.2 hdz hkz hPz
                exact h9
              have HEnd := Hid.mk hend
              clear kr hdz hkz hPz hend HO HT HF HS
              go_wp2
              go_roundw
              case rel => exact ⟨i + 1, by go_num, by omega, HEnd.out⟩
              case measure => simp [intOf]; omega
            · have hlt' : ¬ (i : Int) < (cn : Int) := by omega
              have ko := openX_any hd hby hp hl0 (by omega)
              have HS := Hid.mk (And.intro hF (And.intro hfu (And.intro hl0 (And.intro hl1 (And.intro hby (And.intro hP (And.intro hHL (And.intro hX hbe))))))))
              clear hd hF hfu hl0 hl1 hby hp hP hHL hX hbe HLC0
              go_wp2_with fail
              refine ko.mono ?_
              rintro e wo ⟨x5, S', c5, F', v5, rfl, hso, hk5, hF5, hd5, hby5, hpu5, hl05, hl15, _, hv1, hv2⟩
              have hz5 := hk5.size
              have hbe5 : Below w.heap.size w wo := HS.out.2.2.2.2.2.2.2.2.trans (hk5.below (fun k h9 => (HS.out.1 k h9).1) HS.out.2.2.2.2.2.2.2.2.size)
              obtain ⟨o1, o2⟩ := HS.out.2.2.2.2.2.1.opens HS.out.2.1 HS.out.2.2.1 (by have := HS.out.2.2.2.1; omega) hso
              have hx5 : x5 = 0 := Decidable.byContradiction (fun e => by
                have h8 := (o1 e).2
                have h9 := HS.out.2.2.2.2.2.1.top
                omega)
              obtain ⟨o3, o4⟩ := o2 hx5
              obtain ⟨q5, l5, m5, L5, rfl, hsl5, hq5, _, _, hst5⟩ := hv2 hx5
              obtain ⟨r1, r2, r3, r4⟩ := o4 L5 hsl5
              rw [HS.out.2.2.2.2.2.1.y'] at hst5
              have kl5 := layout_any hst5.st
              have hXo : ∀ k, X k → k < wr.heap.size := HS.out.2.2.2.2.2.2.2.1
              have hHL5 := HS.out.2.2.2.2.2.2.1.keep hk5 (fun k h9 h8 => (HS.out.1 k h8).2 h9)
              have hF5w : ∀ k, F' k → w.heap.size ≤ k ∧ ¬ X k := fun k h9 => by
                have := HS.out.2.2.2.2.2.2.2.2.size
                rcases hF5 k h9 with h8 | h8
                · exact HS.out.1 k h8
                · exact ⟨by omega, fun h7 => by have := hXo k h7; omega⟩
              have hqw : w.heap.size ≤ q5 := by have := HS.out.2.2.2.2.2.2.2.2.size; omega
              have hqX : ¬ X q5 := fun h7 => by have := hXo q5 h7; omega
              have HO := Hid.mk (And.intro hst5 (And.intro r1 (And.intro r2 (And.intro hHL5 (And.intro hF5w hbe5)))))
              subst hx5
              have hcb := hgeo.2.2.2.2.1
              clear ko hso hk5 hF5 hd5 hby5 hpu5 hl05 hl15 hv1 hv2 hbe5 HS o1 o2 o3 o4 hsl5 hst5 r1 r2 r3 r4 hHL5 hF5w hXo
              go_wp2_with fail
              refine kl5.mono ?_
              rintro e wl ⟨rfl, hbl5⟩
              have hst6 := HO.out.1.later hbl5
              have ka := all5_any hst6 HO.out.2.1.ready.1 rfl (by rw [HO.out.2.1.p]; simp) (by show y.blocks ≤ 2048; exact hcb)
              have hzl := hbl5.size
              have HP6 := Hid.mk (And.intro (HO.out.2.2.2.1.later hbl5) (HO.out.2.2.2.2.2.trans (hbl5.mono HO.out.2.2.2.2.2.size)))
              clear kl5 hbl5 hst6
              go_wp2_with fail
              refine ka.mono ?_
              rintro e wa ⟨v6, rfl, hHL6, _, hk6⟩
              have hb6 : blks ⟨y, L5, [], false⟩ S' y.blocks = cs := by
                refine List.ext_getElem (by rw [blks_len]; exact HCs.out.1.symm) (fun b hb1 hb2 => ?_)
                rw [HCs.out.2 b hb2]
                simp only [blks, List.getElem_map, List.getElem_range]
                exact HO.out.2.2.1 b (by rw [← HCs.out.1]; exact hb2)
              have hHL7 : HL wa (fun k => wl.heap.size ≤ k ∧ k < wa.heap.size) v6 cs := by
                have h9 := hHL6
                rw [show blks ⟨y, L5, [], false⟩ S' (⟨y, L5, [], false⟩ : SG).y.blocks = cs from hb6] at h9
                exact h9
              have hHv := HP6.out.1.keep hk6 (by
                rintro k h9 (h8 | h8)
                · exact (HO.out.2.2.2.2.1 k h8).2 h9
                · exact hqX (h8 ▸ h9))
              have hbF : Below w.heap.size w wa := HP6.out.2.trans (hk6.below (by
                rintro k (h8 | h8)
                · exact (HO.out.2.2.2.2.1 k h8).1
                · omega) HP6.out.2.size)
              have kal := alike5_any hHL7 hHv (by rw [HCs.out.1]; omega)
              have HB := Hid.mk hbF
              clear ka hHL6 hHL7 hHv hk6 hb6 hbF HO HP6
              go_wp2_with fail
              refine kal.mono ?_
              rintro e wz ⟨rfl, hbz⟩
              have HB2 := Hid.mk (HB.out.trans (hbz.mono HB.out.size))
              clear kal hbz HB
              go_wp2
              go_ret
              exact ⟨rfl, HB2.out⟩
        · have q41 := (o1 qx).1
          have hvv := hv1 qx
          subst q41
          subst hvv
          have HB := Hid.mk hbe
          clear ko hk1 hk2 o1 o2 hok hfu hl0 hl1 hso hby hnext hv1 hv2 hd2 hbe
          go_wp2
          go_ret
          exact ⟨rfl, HB.out⟩
  · have hEr := (Er.opens (S0 := Sx) (S := Sx) ⟨hok, HS0.out.2.2.2, HS0.out.1, fun _ _ => rfl⟩ hcode hx0 hfu hl0 (by omega) hso hby).2
    have hvv := hv1 hx0
    subst hvv
    have HL0 : Hid (LD w w6 F2 pd pc s Sx (10 + 0) (fun S => Er Sx S s)) := by
      obtain ⟨c', F, S, a1, a2, a3, a4, a5, a6⟩ := hnext (fun S => Er Sx S s) hEr hEr.p
      exact ⟨c', F, S, a1, a2, a3, a4, by omega, a6⟩
    obtain ⟨X, hXd⟩ : ∃ X : Nat → Prop, X = fun _ => False := ⟨_, rfl⟩
    have hX0 : ∀ k, ¬ X k := fun k h => by rw [hXd] at h; exact h
    obtain ⟨cs, hcs⟩ : ∃ cs : List (List Int), cs = [] := ⟨_, rfl⟩
    have d0 : (x0 == 0) = false := by rw [beq_eq_false_iff_ne]; exact hx0
    clear hcode hok hfu hl0 hl1 hso hby hnext hv1 hv2 hbe hEr hXd hok0
    go_wp2
    go_loopw [11] (fun iv wr => ∃ i : Nat, iv = .int .i64 i ∧ i ≤ cn ∧ LD w wr F2 pd pc s Sx (10 + i) (fun S => Er Sx S s)) (fun iv _ => cn - (intOf iv).toNat)
    case atStart => exact ⟨0, rfl, Nat.zero_le _, HL0.out⟩
    case round =>
      obtain ⟨i, rfl, hi, hLD⟩ := hrel
      by_cases hlt : i < cn
      · have hlt' : (i : Int) < (cn : Int) := by omega
        have ko := hLD.open (by omega)
        clear hLD HL0
        go_wp2_with fail
        refine ko.mono ?_
        rintro e w7 ⟨x, v7, rfl, S, S', hP, hok, hfu, hl0, hl1, hso, hby, hnext, hv1, hv2, hd2, hbe⟩
        obtain ⟨ex, hEr⟩ := hP.opens HC0.out hx0 hfu hl0 (by omega) hso hby
        have HN := Hid.mk (hnext (fun S => Er Sx S s) hEr hEr.p)
        have hvv := hv1 (by rw [ex]; exact hx0)
        subst ex
        subst hvv
        clear ko hP hok hfu hl0 hl1 hso hby hnext hv1 hv2 hd2 hbe hEr
        by_cases q41 : x = 41
        · have d41 : (x == 41) = true := by rw [beq_iff_eq]; exact q41
          have HQ := Hid.mk q41
          clear q41
          go_wp2
          go_roundw
          case rel => exact ⟨i + 1, by go_num, by omega, HN.out⟩
          case measure => simp [intOf]; omega
        · have d41 : (x == 41) = false := by rw [beq_eq_false_iff_ne]; exact q41
          have HQ := Hid.mk q41
          clear q41
          go_wp2
          go_roundw
          case rel => exact ⟨i + 1, by go_num, by omega, HN.out⟩
          case measure => simp [intOf]; omega
      · have hlt' : ¬ (i : Int) < (cn : Int) := by omega
        have hic : i = cn := by omega
        rw [hic] at hLD
        have HLD := Hid.mk hLD
        clear hLD HL0 hic hi
        clear hcs
        obtain ⟨_, _, _, _, _, _, _, _, _, _, _, hdc, hbe⟩ := HLD.out
        have hFc : ∀ k, F2 k → w.heap.size ≤ k ∧ ¬ X k := fun k h9 => ⟨HF2.out k h9, hX0 k⟩
        have HLC0 : Hid (LC w wr X (.slice none 0 0) [] pc s (10 + 3 * 0) (fun S => Er Sx S s)) := ⟨0, F2, Sx, hdc, hFc, HS0.out.2.1, by rw [HS0.out.2.2.1]; decide, by rw [HS0.out.2.2.1]; decide, HS0.out.2.2.2, HS0.out.1, ⟨hdc.ok, HS0.out.2.2.2, HS0.out.1, fun _ _ => rfl⟩, HL.nil _ _, fun k h => absurd h (hX0 k), hbe⟩
        clear hdc hbe hFc HLD
        go_wp2
        go_loopw [17] (fun iv wr => ∃ i : Nat, iv = .int .i64 i ∧ i ≤ cn ∧ LC w wr X (.slice none 0 0) [] pc s (10 + 3 * i) (fun S => Er Sx S s)) (fun iv _ => cn - (intOf iv).toNat)
        case atStart => exact ⟨0, rfl, Nat.zero_le _, HLC0.out⟩
        case round =>
          obtain ⟨i, rfl, hi, c', F, S, hd, hF, hfu, hl0, hl1, hby, hp, hP, hHL, hX, hbe⟩ := hrel
          by_cases hlt : i < cn
          · have hlt' : (i : Int) < (cn : Int) := by omega
            obtain ⟨sy, rfl⟩ : ∃ sy, sa = some sy := by
              cases hsa : sa with
              | none => have := HCi.out.1 hsa; omega
              | some sy => exact ⟨sy, rfl⟩
            obtain ⟨pb, po, rfl, hpb, x, pa, pn, pq, pl, cx, cy, hx, hps, hpB, hpn⟩ := HCi.out.2 sy rfl i hlt
            have cx' : wr.cell? ⟨pb, po + i * 2, none⟩ = some (.int .i64 x) := (World.cell?_of_block (w := w) (a := ⟨pb, _, none⟩) (hbe.block pb hpb)).trans cx
            have kw := within5_any x 0 40 (by omega) (by omega) hx wr
            have hwb := (wthn_in x (lo := 0) (hi := 40) (by omega)).2
            generalize wthn x 0 40 = k0 at *
            have kf := dfuse5 hd (k0 : Int) (by omega)
            have HS := Hid.mk (And.intro hF (And.intro hfu (And.intro hl0 (And.intro hl1 (And.intro hby (And.intro hp (And.intro hP (And.intro hHL (And.intro hX (And.intro hbe (And.intro cy (And.intro hps (And.intro hpB hd.lt)))))))))))))
            clear hd hF hfu hl0 hl1 hby hp hP hHL hX hbe cx cy hps hpB hwb HLC0
            go_wp2_with fail
            refine kw.mono ?_
            rintro e wy ⟨rfl, hwy⟩
            have hwy' := hwy.symm
            subst hwy'
            clear hwy kw cx'
            go_wp2_with fail
            refine kf.mono ?_
            rintro e wf ⟨rfl, hdf, hkf⟩
            obtain ⟨y1, y2, y3, y4⟩ := lay_now5 S (k0 : Int)
            have ko := openX_any hdf (y4 HS.out.2.2.2.2.1) (by rw [y1]; exact HS.out.2.2.2.2.2.1) (by rw [y2]; exact HS.out.2.2.1) (by rw [y2]; have := HS.out.2.2.2.1; omega)
            have hzf := hkf.size
            have HF := Hid.mk (And.intro hdf (And.intro y1 (And.intro y2 (And.intro y3 (And.intro (y4 HS.out.2.2.2.2.1) (And.intro (HS.out.2.2.2.2.2.2.2.1.keep hkf (fun k h9 h8 => (HS.out.1 k h8).2 h9)) (HS.out.2.2.2.2.2.2.2.2.2.1.trans (hkf.below (fun k h9 => (HS.out.1 k h9).1) HS.out.2.2.2.2.2.2.2.2.2.1.size))))))))
            clear kf hdf hkf y1 y2 y3 y4
            go_wp2_with fail
            refine ko.mono ?_
            rintro e wo ⟨x5, S', c5, F', v5, rfl, hso, hk5, hF5, hd5, hby5, hpu5, hl05, hl15, _, _, _⟩
            have hz5 := hk5.size
            have hFX : ∀ k, F' k → w.heap.size ≤ k ∧ ¬ X k := fun k h9 => by
              have := HS.out.2.2.2.2.2.2.2.2.2.1.size
              rcases hF5 k h9 with h8 | h8
              · exact HS.out.1 k h8
              · exact ⟨by omega, fun h7 => by have := HS.out.2.2.2.2.2.2.2.2.1 k h7; omega⟩
            have hHL5 := HF.out.2.2.2.2.2.1.keep hk5 (fun k h9 h8 => (HS.out.1 k h8).2 h9)
            have hbe5 : Below w.heap.size w wo := HF.out.2.2.2.2.2.2.trans (hk5.below (fun k h9 => (HS.out.1 k h9).1) HF.out.2.2.2.2.2.2.size)
            have cy' : wo.cell? ⟨pb, po + i * 2 + 1, none⟩ = some (.slice pa pn pq) := (World.cell?_of_block (w := w) (a := ⟨pb, _, none⟩) (hbe5.block pb hpb)).trans HS.out.2.2.2.2.2.2.2.2.2.2.1
            have kt := twinp_any pa pn pq pl wo hpn (HS.out.2.2.2.2.2.2.2.2.2.2.2.1.far5 hbe5 HS.out.2.2.2.2.2.2.2.2.2.2.2.2.1)
            have hlay : S'.life ≤ ((10 + 3 * i + 1 : Nat) : Int) := by have h7 := HF.out.2.2.1; have h8 := HS.out.2.2.2.1; omega
            have HO := Hid.mk (And.intro hso (And.intro hd5 (And.intro hby5 (And.intro hpu5 (And.intro hl05 (And.intro hFX (And.intro hHL5 (And.intro hbe5 hlay))))))))
            clear ko hso hk5 hF5 hd5 hby5 hpu5 hl05 hl15 hFX hHL5 hbe5 hlay
            go_wp2_with fail
            refine kt.mono ?_
            rintro e wt ⟨g, rfl, hg, hps2, hbt⟩
            have hzt := hbt.size
            have kr := B.dcrash (HO.out.2.1.later hbt) (by have := HO.out.2.2.2.1; omega) (some ⟨g, 0, none⟩) pn pn pl hps2 (by omega) (fun y e h9 => by cases e; have h8 : F' g := h9; have := HO.out.2.1.lt _ h8; omega)
            have HT := Hid.mk (And.intro (HO.out.2.2.2.2.2.2.1.later hbt) (HO.out.2.2.2.2.2.2.2.1.trans (hbt.mono HO.out.2.2.2.2.2.2.2.1.size)))
            clear kt hps2 hbt cy'
            go_wp2_with fail
            refine kr.mono ?_
            rintro e wz ⟨rfl, hdz, hkz⟩
            have hPz : (fun S => Er Sx S s) (S'.crash s pl) := by
              exact Er.cut (S := S.lay (k0 : Int)) ⟨HF.out.1.ok, HF.out.2.2.2.2.1, by rw [HF.out.2.1]; exact HS.out.2.2.2.2.2.1, fun j hj => (HF.out.2.2.2.1 j).trans (HS.out.2.2.2.2.2.2.1.now j hj)⟩ HC0.out hx0 HO.out.1 pl hdz.ok (HO.out.2.2.1.crash s pl)
            have hend : LC w wz X (.slice none 0 0) [] pc s (10 + 3 * (i + 1)) (fun S => Er Sx S s) := by
              have h9 := LC.cut (N := 10 + 3 * i + 2) (P' := fun S => Er Sx S s) HO.out.2.2.2.2.2.1 HO.out.2.2.1 HO.out.2.2.2.2.1 (by have := HO.out.2.2.2.2.2.2.2.2; omega) (by omega) HT.out.1 (fun k h9 => by have := HS.out.2.2.2.2.2.2.2.2.1 k h9; omega) HT.out.2 hdz hkz hPz
              exact h9
            have HEnd := Hid.mk hend
            clear kr hdz hkz hPz hend HO HT HF HS
            go_wp2
            go_roundw
            case rel => exact ⟨i + 1, by go_num, by omega, HEnd.out⟩
            case measure => simp [intOf]; omega
          · have hlt' : ¬ (i : Int) < (cn : Int) := by omega
            have ko := openX_any hd hby hp hl0 (by omega)
            have HS := Hid.mk (And.intro hF (And.intro hfu (And.intro hl0 (And.intro hl1 (And.intro hby (And.intro hP (And.intro hHL (And.intro hX hbe))))))))
            clear hd hF hfu hl0 hl1 hby hp hP hHL hX hbe HLC0
            go_wp2_with fail
            refine ko.mono ?_
            rintro e wo ⟨x5, S', c5, F', v5, rfl, hso, hk5, hF5, hd5, hby5, hpu5, hl05, hl15, _, hv1, hv2⟩
            have hz5 := hk5.size
            have hbe5 : Below w.heap.size w wo := HS.out.2.2.2.2.2.2.2.2.trans (hk5.below (fun k h9 => (HS.out.1 k h9).1) HS.out.2.2.2.2.2.2.2.2.size)
            have ex := (HS.out.2.2.2.2.2.1.opens HC0.out hx0 HS.out.2.1 HS.out.2.2.1 (by have := HS.out.2.2.2.1; omega) hso hby5).1
            have hvv := hv1 (by rw [ex]; exact hx0)
            subst ex
            subst hvv
            have HB := Hid.mk hbe5
            clear ko hso hk5 hF5 hd5 hby5 hpu5 hl05 hl15 hv1 hv2 hbe5 HS
            go_wp2
            go_ret
            exact ⟨rfl, HB.out⟩
end Go.Proofs.YtokcgifpljeoiaaGreat
end

section
namespace Go.Proofs.YtokcgifpljeoiaaGreat
open Go.RowKit Go.Maps

set_option maxRecDepth 20000 in
set_option maxHeartbeats 1000000 in
theorem stwice_bad (a : Option Addr) (n c : Nat) (l : List Int) (v : Value) (w : World) (hn : n ≤ 140737488355328) (hs : Src w a n l) (h : n % 512 ≠ 0) :
    Calls Tryz.prog 3 #[.slice a n c, v] w fun e w' => e = .returned (.bool true) ∧ Below w.heap.size w w' := by
  have h' : (((n : Int) % 512) != 0) = true := by rw [bne_iff_ne]; omega
  have ht := twin_any a n c l w hn hs
  have km := made5_any
  have HSr := Hid.mk hs
  clear hs
  go_enter Tryz.func3, Tryz.ntmps3
  go_wp2_with fail
  refine ht.mono ?_
  rintro e w1 ⟨g, rfl, _, _, hb⟩
  have hl := load_bad (some ⟨g, 0, none⟩) n n w1 h hn
  have ht2 := twin_any a n c l w1 hn (HSr.out.later hb)
  clear ht
  go_wp2_with fail
  refine hl.mono ?_
  rintro e w2 ⟨rfl, hw2⟩
  subst hw2
  clear hl
  go_wp2_with fail
  refine ht2.mono ?_
  rintro e w3 ⟨g2, rfl, _, _, hb2⟩
  have hl := load_bad (some ⟨g2, 0, none⟩) n n w3 h hn
  have hbb := hb.trans (hb2.mono hb.size)
  clear ht2 hb hb2
  go_wp2_with fail
  refine hl.mono ?_
  rintro e w4 ⟨rfl, hw4⟩
  subst hw4
  clear hl
  go_wp2_with fail
  refine (km _).mono ?_
  rintro e w5 ⟨rfl, hb3⟩
  have HB := Hid.mk (hbb.trans (hb3.mono hbb.size))
  clear hbb hb3 km
  go_wp2
  go_ret
  exact ⟨rfl, HB.out⟩
set_option maxRecDepth 20000 in
set_option maxHeartbeats 1000000 in
theorem stwice_no (a : Option Addr) (n c : Nat) (l : List Int) (v : Value) (w : World) (hn : n ≤ 140737488355328) (hs : Src w a n l) (h : n % 512 = 0) (h0 : n = 0 ∨ 1048576 < n) :
    Calls Tryz.prog 3 #[.slice a n c, v] w fun e w' => e = .returned (.bool true) ∧ Below w.heap.size w w' := by
  have h' : (((n : Int) % 512) != 0) = false := by rw [Bool.eq_false_iff, ne_eq, bne_iff_ne]; omega
  have key : ((n : Int) == 0) = true ∨ (((n : Int) == 0) = false ∧ (1048576 : Int) < (n : Int)) := by
    rw [Bool.eq_false_iff, ne_eq, beq_iff_eq]
    omega
  have ht := twin_any a n c l w hn hs
  have km := made5_any
  have kl := fun g w1 => load_no (some ⟨g, 0, none⟩) n n w1 h h0 hn
  have HSr := Hid.mk hs
  clear hs h0 h
  rcases key with h1 | ⟨h1, h2⟩
  all_goals
    go_enter Tryz.func3, Tryz.ntmps3
    go_wp2_with fail
    refine ht.mono ?_
    rintro e w1 ⟨g, rfl, _, _, hb⟩
    have hl := kl g w1
    have ht2 := twin_any a n c l w1 hn (HSr.out.later hb)
    clear ht
    go_wp2_with fail
    refine hl.mono ?_
    rintro e w2 ⟨rfl, hw2⟩
    subst hw2
    clear hl
    go_wp2_with fail
    refine ht2.mono ?_
    rintro e w3 ⟨g2, rfl, _, _, hb2⟩
    have hl := kl g2 w3
    have hbb := hb.trans (hb2.mono hb.size)
    clear ht2 hb hb2
    go_wp2_with fail
    refine hl.mono ?_
    rintro e w4 ⟨rfl, hw4⟩
    subst hw4
    clear hl
    go_wp2_with fail
    refine (km _).mono ?_
    rintro e w5 ⟨rfl, hb3⟩
    have HB := Hid.mk (hbb.trans (hb3.mono hbb.size))
    clear hbb hb3 km
    go_wp2
    go_ret
    exact ⟨rfl, HB.out⟩
theorem storeTwice_any (a : Option Addr) (n c : Nat) (l : List Int) (sa : Option Addr) (cn cc : Nat) (w : World) (hn : n ≤ 140737488355328) (hs : Src w a n l) (hbl : Bytes l) (hci : CutsIn w w.heap.size sa cn) (hcn : cn ≤ 140737488355328) :
    Calls Tryz.prog 3 #[.slice a n c, .slice sa cn cc] w fun e w' => e = .returned (.bool true) ∧ Below w.heap.size w w' := by
  by_cases h : n % 512 = 0
  · by_cases h0 : n = 0 ∨ 1048576 < n
    · exact stwice_no a n c l _ w hn hs h h0
    · exact stwice_ok a n c (n / 512) l sa cn cc w (by omega) (by omega) (by omega) hs hbl hci hcn
  · exact stwice_bad a n c l _ w hn hs h
end Go.Proofs.YtokcgifpljeoiaaGreat
end

section
namespace Go.Proofs.YtokcgifpljeoiaaGreat
open Go.ChangeShapes Go.WideShapes Go.ChangeAt Go.RowKit Go.Deep

theorem cellsI5 : Tryz.prog.cellsOf 3 = 1 := by kernel_rfl
section
variable {H : Type} {enc : TypeId × Value → H} {W : World} {base : Nat} {spare : Nat → Bool} {held : Bool}
end
end Go.Proofs.YtokcgifpljeoiaaGreat
end
