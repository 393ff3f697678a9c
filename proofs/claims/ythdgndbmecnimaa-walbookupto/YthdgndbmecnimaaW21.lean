import Derived.Test.YthdgndbmecnimaaW20
import Derived.Deep.CutBlock
import Derived.Deep.DeepCutAuto
import Derived.Lib.AppendZeros
section
namespace Go.Proofs.Ythdgndbmecnimaa
open Go.RowKit Go.Maps

theorem start_ring {S : DS} {s t i : Nat} {ls : List LG} {L : LG} (h : Inv S s ls t) (hi : ls[i]? = some L) (hf : S.fuse = -1) (ha : L.life = S.life) (hb : L.begun = false) : ∀ j, j < L.n → (L.start S s).2.1.now (L.f + 2 + j) = S.now (L.f + 2 + j) := by
  have hd := alive_no hf ha
  have hL := (h.at hi).1
  have hs := hL.s
  have hn := hL.n1
  have ht := hL.top
  have hfit := (h.al L (List.mem_of_getElem? hi) ha (by omega)).2 hb
  have eN : (((L.top + 1 : Nat) : Int) * 4294967296 + ((0 : Nat) : Int)) = (((L.top + 1) * 4294967296 : Nat) : Int) := by omega
  have hrn := renew_ok (now_len h.ok L.f (by omega)) (now_len h.ok (L.f + 1) (by omega)) (N := (L.top + 1) * 4294967296) (by omega) hfit.2
  have hc := anew_calm hf s L.f (((L.top + 1) * 4294967296 : Nat) : Int)
  have h0 : (anew S s L.f (((L.top + 1) * 4294967296 : Nat) : Int)).1 = 0 := Decidable.byContradiction (fun e => by have := (anew_err (by omega) hrn e).1; omega)
  obtain ⟨w1, w2⟩ := anew_whole (s := s) (f := L.f) (N := (L.top + 1) * 4294967296) h.ok (by omega) (by omega) (by omega) hfit.2 h0
  unfold LG.start
  rw [if_neg (by rw [hd]; decide), if_neg (by rw [hb]; decide), eN, if_neg (by omega)]
  exact fun j hj => w2 (L.f + 2 + j) (by omega) (by omega) (by omega)
theorem start_freshK {w : World} {F : Nat → Prop} {p l t s : Nat} {S : DS} {L : LG} (h : DiskR w F p s S) (hl : LogP w l p L) (hF : ¬ F l) (hi : Inv S s [L] t) (hf : S.fuse = -1) (ha : L.life = S.life) (hb : L.begun = false) (hz : ∀ j, j < L.n → S.now (L.f + 2 + j) = zs 512) :
    Calls Try.prog 32 #[.pointer (some ⟨l, 0, none⟩)] w fun e w' => ∃ S', e = .returned (.int .i64 0) ∧ DiskR w' (more F w w') p s S' ∧ LogP w' l p { L with begun := true, ep := L.top + 1, tail := 0, head := 0 } ∧ Keeps (fun k => F k ∨ k = l) w w' ∧ Inv S' s [{ L with begun := true, ep := L.top + 1, tail := 0, head := 0 }] t ∧ S'.fuse = -1 ∧ S'.life = S.life ∧ Snd S' L.f L.n ((L.top + 1) * 4294967296) (L.top + 1) ∧ ∀ j, j < L.n → S'.now (L.f + 2 + j) = zs 512 := by
  obtain ⟨z1, z2, z3, z4⟩ := start_calm (i := 0) hi rfl hf ha hb
  have z5 := Snd.start (i := 0) hi rfl hf ha hb (fun j hj => by rw [hz j hj, fresh_piece.2]; exact Nat.zero_le _)
  have z6 := start_ring (i := 0) hi rfl hf ha hb
  refine (Start_any h hl (hi.at (i := 0) rfl).1 hF hi.byt (by have := hi.p6; omega)).mono ?_
  rintro e w' ⟨rfl, h2, h3, h4⟩
  have hI := hi.start (i := 0) rfl h2.ok
  rw [z4] at h3 hI
  exact ⟨_, by rw [z1], h2, h3, h4, hI, z2, z3, z5, fun j hj => (z6 j hj).trans (hz j hj)⟩

set_option maxRecDepth 20000 in
set_option maxHeartbeats 4000000 in
theorem freshK_any {n : Nat} (h18 : 18 ≤ n) (h256 : n ≤ 256) (w : World) : Calls Try.prog 5 #[.int .i64 (n : Int)] w fun e w' => ∃ F p l S L, e = .returned (.tuple #[.pointer (some ⟨p, 0, none⟩), .pointer (some ⟨l, 0, none⟩)]) ∧ Live w w' F p l n S L ∧ L.tail = 0 ∧ L.head = 0 ∧ Snd S 0 n (2 * 4294967296) 2 ∧ ∀ i, i < n → S.now (2 + i) = zs 512 := by
  have h1 := new_ok (n + 2) w (by omega) (by omega)
  rw [show ((n + 2 : Nat) : Int) = (n : Int) + 2 by omega] at h1
  go_enter Try.func5, Try.ntmps5
  go_wp2_with fail
  refine h1.mono ?_
  rintro e w1 ⟨p, rfl, hd1, hb1⟩
  have hd1 := hd1.r
  have i1 := inv_freshN hd1
  have hf1 : (DS.fresh (List.replicate ((n + 2) * 512) 0)).fuse = -1 := rfl
  generalize DS.fresh (List.replicate ((n + 2) * 512) 0) = S1 at *
  obtain ⟨F1, hF1⟩ : ∃ F1, F1 = (fun k => w.heap.size ≤ k ∧ k < w1.heap.size) := ⟨_, rfl⟩
  rw [← hF1] at hd1
  have hlo1 : ∀ k, F1 k → w.heap.size ≤ k := fun k hk => by rw [hF1] at hk; exact hk.1
  obtain ⟨z1, z2, z3, z4⟩ := format_calm (a := 0) (b := n) i1 (by omega) hf1 (by omega) h18 h256
  rw [show ((0 : Nat) : Int) = 0 from rfl] at z1 z2 z3 z4
  have h2 := Format_any hd1 i1.byt 0 (n : Int) (by have := i1.p6; omega)
  rw [z1] at h2
  have HI1 := Hid.mk i1
  have HLo1 := Hid.mk hlo1
  have HB1 := Hid.mk hb1
  have hz1 := hb1.size
  have HZ := Hid.mk (And.intro z2 (And.intro z3 z4))
  clear h1 hF1 z1 z2 z3 z4 hf1 i1 hd1 hb1 hlo1
  go_wp2_with fail
  refine h2.mono ?_
  rintro e w2 ⟨rfl, hd2, hk2⟩
  have i2 := HI1.out.format (by omega) 0 (n : Int) hd2.ok
  have hz2 := hk2.size
  have HB2 : Hid (Below w.heap.size w w2) := HB1.out.trans (hk2.below HLo1.out hz1)
  have hlo2 : ∀ k, more F1 w1 w2 k → w.heap.size ≤ k := fun k hk => by
    rcases hk with hk | hk
    · exact HLo1.out k hk
    · omega
  have h3 := open_freshN h18 h256 hd2 i2 (by omega) HZ.out.1 HZ.out.2.1 HZ.out.2.2
  have HLt := Hid.mk hd2.lt
  have HLo2 := Hid.mk hlo2
  clear h2 hd2 hk2 i2 hlo2
  generalize more F1 w1 w2 = F2 at *
  go_wp2_with fail
  refine h3.mono ?_
  rintro e w3 ⟨l, a, c, S3, L3, rfl, hll, hlp, hd3, hk3, i3, hf3, hl3, hb3, ht3, hn3, hf0, hzz⟩
  have hz3 := hk3.size
  have hFl : ¬ F2 l := fun hf => by have := HLt.out _ hf; omega
  have h4 := start_freshK hd3 hlp hFl i3 hf3 hl3 hb3 (by rw [hn3, hf0]; exact hzz)
  have HB3 : Hid (Below w.heap.size w w3) := HB2.out.trans (hk3.below HLo2.out (by omega))
  have HLl := Hid.mk hlp.lt
  have HA := Hid.mk (And.intro hl3 (And.intro ht3 (And.intro hn3 hf0)))
  have HFl := Hid.mk hFl
  clear h3 hd3 hk3 i3 hf3 hl3 hb3 ht3 hn3 hlp hFl hf0 hzz
  go_wp2_with fail
  refine h4.mono ?_
  rintro e w4 ⟨S4, rfl, hd4, hlp4, hk4, i4, hf4, hl4, hs4, hz4⟩
  have HF : Hid (Live w w4 (more F2 w3 w4) p l n S4 { L3 with begun := true, ep := L3.top + 1, tail := 0, head := 0 } ∧ Snd S4 0 n (2 * 4294967296) 2 ∧ ∀ i, i < n → S4.now (2 + i) = zs 512) := by
    refine ⟨⟨hd4, hlp4, fun hm => ?_, fun k hk => ?_, by omega, HB3.out.trans (hk4.below (fun k hk => ?_) (by omega)), i4, hf4, HA.out.1.trans hl4.symm, rfl, by show L3.top + 1 = 2; rw [HA.out.2.1], HA.out.2.2.1, HA.out.2.2.2⟩, ?_, fun i hi => ?_⟩
    · rcases hm with hm | hm
      · exact HFl.out hm
      · have := HLl.out; omega
    · rcases hk with hk | hk
      · exact HLo2.out k hk
      · omega
    · rcases hk with hk | hk
      · exact HLo2.out k hk
      · omega
    · rw [HA.out.2.1, HA.out.2.2.1, HA.out.2.2.2] at hs4
      exact hs4
    · have := hz4 i (by rw [HA.out.2.2.1]; exact hi)
      rw [HA.out.2.2.2, Nat.zero_add] at this
      exact this
  clear h4 hd4 hlp4 hk4 i4 hf4 hl4 hs4 hz4
  go_wp2
  go_ret2
  exact ⟨_, _, _, _, _, rfl, HF.out.1, rfl, rfl, HF.out.2⟩

theorem fresh_alive {w w1 : World} {F : Nat → Prop} {p l n : Nat} {S : DS} {L : LG} (h : Live w w1 F p l n S L) (ht : L.tail = 0) (hh : L.head = 0) (hs : Snd S 0 n (2 * 4294967296) 2) (hz : ∀ i, i < n → S.now (2 + i) = zs 512) : Alive S L n 0 [] 0 := by
  have hp0 : S.puts = [] := by
    have hfit := (h.i.al L (by simp) h.a (by rw [h.f]; decide)).1 h.g
    exact List.eq_nil_of_length_eq_zero (by omega)
  have hgd : Good 2 (2 * 4294967296) := ⟨by omega, by omega, by omega⟩
  refine ⟨h.i, h.f0, h.n', h.g, h.a, by rw [h.e]; omega, by rw [h.e]; omega, ?_, Slots.nil hp0 _ _, ⟨(fun d hd => by cases hd), Nat.zero_le _, Nat.le_refl _, fun i hi he _ => ?_, fun q hq => (by rw [hp0] at hq; cases hq), fun m X hm => (by cases hm)⟩, by rw [hh, ht]; rfl, fun m X hm => (by cases hm)⟩
  · have := Hold.still hp0 hs.1 hgd hs.2
    rw [h.e, ht]
    exact this
  · exfalso
    rw [← now_flat hp0, hz i hi, fresh_piece.2, h.e] at he
    cases he

section
variable {S : DS} {n j low : Nat} {L : LG} {ds : List (List Int)}
theorem lenOf_ge : ∀ {ds : List (List Int)}, (∀ d ∈ ds, 1 ≤ d.length ∧ d.length ≤ 8364) → ds.length ≤ lenOf ds
  | [], _ => Nat.le_refl _
  | d :: r, h => by
    obtain ⟨a, b⟩ := h d (List.mem_cons_self ..)
    have := (cnt_bounds a b).1
    have := lenOf_ge (ds := r) (fun x hx => h x (List.mem_cons_of_mem _ hx))
    show r.length + 1 ≤ cntOf d.length + lenOf r
    omega
theorem Alive.few (h : Alive S L n j ds low) : ds.length ≤ 256 := by
  have := lenOf_ge h.la.sz
  have := h.la.fit
  have := h.nb
  omega
theorem Alive.appendOk (h : Alive S L n j ds low) (d : List Int) : (L.append S (n + 2) d).2.1.Ok (n + 2) := by
  have hL := (h.i.at (i := 0) rfl).1
  have hn1 := hL.n1
  unfold LG.append
  split
  · exact h.i.ok
  · rename_i hr
    obtain ⟨_, _, _, _, hro⟩ := refuses_no (Decidable.of_not_not hr)
    have := (appTo_once (d := d) h.ho.once h.i.ok h.sl (by omega) hL.s hL.th (cntOf d.length) hro).2.1
    split
    · exact this
    · exact this
end
end Go.Proofs.Ythdgndbmecnimaa
end

section
namespace Go.Proofs.Ythdgndbmecnimaa
open Go.RowKit Go.Maps

theorem append_fuse {S : DS} {L : LG} {s : Nat} {d : List Int} (hf : S.fuse = -1) : (L.append S s d).2.1.fuse = -1 := by
  unfold LG.append
  split
  · exact hf
  · split <;> exact appTo_calm hf _ _ _
/-- Where nothing pends. -/
theorem Alive.flat {S : DS} {L : LG} {n j low : Nat} {ds : List (List Int)} (h : Alive S L n j ds low) (hj : j ≤ 100000) (hp : S.puts = []) : Flat S n j ds low false :=
  ⟨h.i.ok, h.i.byt, hp, h.i.l0, by have := h.i.lt; omega, ⟨_, h.ho⟩, h.fut hj false⟩
section
variable {lab lab' : Nat → Nat} {w w' : World} {X : Nat → Prop} {ds : List (List Int)} {low : Nat}
theorem DiskR.gro {p s : Nat} {S : DS} {x : Nat} (h : DiskR w (ofL lab x) p s S) (g : Gro lab lab' w w' X) (hx : x ≠ 0) (hX : ¬ X x) : DiskR w' (ofL lab' x) p s S :=
  (h.keep g.kp (fun k (hf : lab k = x) hq => hX (hf ▸ hq))).mono (fun k hf => g.tag (h.lt k hf) hf) (fun k (hf : lab' k = x) => by
    apply Decidable.byContradiction
    intro hn
    rw [g.lz k (by omega)] at hf
    exact hx hf.symm)
/-- A disk with its log in memory, by owners: the disk's blocks are labelled 1, the log's 2. -/
structure Dl (w : World) (lab : Nat → Nat) (p l n : Nat) (S : DS) (L : LG) : Prop where
  d : DiskR w (ofL lab 1) p (n + 2) S
  lp : LogP w l p L
  ll : lab l = 2
variable {p l n : Nat} {S : DS} {L : LG}
theorem Dl.gro (h : Dl w lab p l n S L) (g : Gro lab lab' w w' X) (h1 : ¬ X 1) (h2 : ¬ X 2) : Dl w' lab' p l n S L :=
  ⟨h.d.gro g (by omega) h1, (g.block h.lp.lt h.ll h2).trans h.lp, g.tag h.lp.lt h.ll⟩
theorem Dl.nf (h : Dl w lab p l n S L) : ¬ ofL lab 1 l := fun e => by
  have e1 : lab l = 1 := e
  have := h.ll
  omega
/-- What is new becomes the disk's. -/
theorem Dl.next (h : Dl w lab p l n S L) (hz : LZ lab w) {S' : DS} {L' : LG} (hd : DiskR w' (more (ofL lab 1) w w') p (n + 2) S') (hl : LogP w' l p L') (hk : Keeps (fun k => ofL lab 1 k ∨ k = l) w w') :
    Gro lab (relab lab w.heap.size w'.heap.size 1) w w' (fun y => y = 1 ∨ y = 2) ∧ Dl w' (relab lab w.heap.size w'.heap.size 1) p l n S' L' := by
  obtain ⟨m1, m2⟩ := more_lab (x := 1) hz hk.size (by omega)
  refine ⟨⟨hk.mono (fun k hk => ?_), fun k hk => relab_old hk, fun k h1 => ?_, fun k h1 => ?_⟩, hd.mono m1 m2, hl, (relab_old h.lp.lt).trans h.ll⟩
  · rcases hk with hk | hk
    · exact .inl hk
    · subst hk
      exact .inr h.ll
  · by_cases h2 : k < w'.heap.size
    · exact .inr (.inl (relab_new h1 h2))
    · exact .inl ((relab_far (by omega)).trans (hz k h1))
  · exact (relab_far h1).trans (hz k (Nat.le_trans hk.size h1))
/-- Append. -/
theorem Dl.append (h : Dl w lab p l n S L) (hz : LZ lab w) (hA : Alive S L n 0 ds low) (a : Option Addr) (x k : Nat) (d : List Int) (hs : Src w a x d) (ha : ∀ y, a = some y → 0 < x → lab y.block ≠ 1) (hd : Bytes d) (hxk : x ≤ k) (hx : x ≤ 140737488355328) (hf : S.fuse = -1) :
    Calls Try.prog 7 #[.pointer (some ⟨l, 0, none⟩), .slice a x k] w fun e w' => ∃ lab' E S' L', e = .returned (.int .i64 E) ∧ Gro lab lab' w w' (fun y => y = 1 ∨ y = 2) ∧ Dl w' lab' p l n S' L' ∧ S'.fuse = -1 ∧ ((E = 0 ∧ Alive S' L' n 0 (ds ++ [d]) low) ∨ (E ≠ 0 ∧ Alive S' L' n 0 ds low)) := by
  refine (Append_any h.d h.lp (hA.i.at (i := 0) rfl).1 h.nf a x k d hs ha hd hxk hx (by have := hA.i.p6; omega)).mono ?_
  rintro e w' ⟨rfl, h5, h6, h7⟩
  obtain ⟨G, D⟩ := h.next hz h5 h6 h7
  have hff : (L.append S (n + 2) d).2.1.fuse = -1 := append_fuse hf
  rcases hA.append (by omega) hd h5.ok with ⟨q1, _, q2⟩ | ⟨q1, _, _, _, q2⟩ | ⟨_, _, q2, _⟩
  · exact ⟨_, _, _, _, rfl, G, D, hff, .inr ⟨by omega, by rw [q2]; exact hA⟩⟩
  · exact ⟨_, _, _, _, rfl, G, D, hff, .inl ⟨by omega, q2⟩⟩
  · rw [hff] at q2
    cases q2
/-- Sync. -/
theorem Dl.sync (h : Dl w lab p l n S L) (hz : LZ lab w) (hA : Alive S L n 0 ds low) (hf : S.fuse = -1) :
    Calls Try.prog 12 #[.pointer (some ⟨l, 0, none⟩)] w fun e w' => ∃ S', e = .returned (.int .i64 0) ∧ Gro lab lab w w' (fun y => y = 1) ∧ DiskR w' (ofL lab 1) p (n + 2) S' ∧ S'.fuse = -1 ∧ Flat S' n 0 ds ds.length false := by
  obtain ⟨z1, z2⟩ := sync_calm (s := n + 2) hf hA.life hA.g
  refine (Sync_any h.d h.lp h.nf (by have := hA.i.p6; omega)).mono ?_
  rintro e w' ⟨rfl, h2, h3, h4⟩
  rcases hA.sync with ⟨q, _⟩ | ⟨_, _, q⟩
  · rw [hf] at q
    cases q
  · rw [z1] at h2 q
    exact ⟨_, by rw [z1, z2], Gro.plain hz h4 (fun k _ hk => hk), h2, fl_calm hf _, q.flat (by omega) (fl_zero z2)⟩
end
end Go.Proofs.Ythdgndbmecnimaa
end

section
namespace Go.Proofs.Ythdgndbmecnimaa
open Go.RowKit Go.Maps

/-- Which of these slices lies in block k. -/
def whichV (vs : List Value) (k : Nat) : Option Nat := (List.range vs.length).find? (fun i => decide ((vs[i]?.bind Value.ownBlock) = some k))
theorem which_some {vs : List Value} {k i : Nat} (h : whichV vs k = some i) : i < vs.length ∧ (vs[i]?.bind Value.ownBlock) = some k := by
  unfold whichV at h
  have h1 := List.mem_of_find?_eq_some h
  have h2 := List.find?_some h
  exact ⟨by simpa using h1, by simpa using h2⟩
theorem which_at {vs : List Value} {k i : Nat} (hd : Dj vs) (h : (vs[i]?.bind Value.ownBlock) = some k) : whichV vs k = some i := by
  have hi : i < vs.length := by
    apply Decidable.byContradiction
    intro hn
    rw [List.getElem?_eq_none (by omega)] at h
    simp at h
  cases hw : whichV vs k with
  | none =>
    exfalso
    unfold whichV at hw
    rw [List.find?_eq_none] at hw
    exact hw i (by simpa using hi) (by simpa using h)
  | some j =>
    obtain ⟨hj, h2⟩ := which_some hw
    by_cases e : i = j
    · rw [e]
    · exfalso
      by_cases e2 : i < j
      · exact hd i j k e2 h h2
      · exact hd j i k (by omega) h2 h
/-- The owners behind an Open: the list has yr, its i-th record yb i. -/
def labO (lab : Nat → Nat) (v : Value) (vs : List Value) (yr : Nat) (yb : Nat → Nat) (k : Nat) : Nat :=
  if v.ownBlock = some k then yr else match whichV vs k with
    | some i => yb i
    | none => lab k
theorem row_zero {w : World} {B : Nat} {e : TypeId} {v : Value} {n : Nat} {xs : List Value} (h : w.ownsRow B e 1 v n xs) : w.ownsRow 0 e 1 v n xs := by
  obtain ⟨hl, h | ⟨g, cap, cur, rfl, hg, hbk, h1⟩⟩ := h
  · exact ⟨hl, .inl h⟩
  · exact ⟨hl, .inr ⟨g, cap, cur, rfl, Nat.zero_le _, hbk, h1⟩⟩
/-- What is told gets owners. -/
theorem RecsAt.own {lab : Nat → Nat} {w w' : World} {v : Value} {ds : List (List Int)} {Y : Nat → Prop} {x : Nat} (h : RecsAt w' w.heap.size v ds Y) (hz : LZ lab w) (hk : Keeps (ofL lab x) w w') (yr : Nat) (yb : Nat → Nat) :
    ∃ lab' vs, Gro lab lab' w w' (fun y => y = x ∨ y = yr ∨ ∃ i, i < ds.length ∧ y = yb i) ∧ OR w' lab' yr 27 v ds.length vs ∧ ∀ i (hi : i < ds.length), ∃ u, vs[i]? = some u ∧ OR w' lab' (yb i) 5 u (ds[i]).length (bs ds[i]) := by
  obtain ⟨vs, h1, hd, h2⟩ := h
  have hl : vs.length = ds.length := by have := h1.1; simpa using this
  have low : ∀ k i, whichV vs k = some i → i < ds.length ∧ w.heap.size ≤ k ∧ k < w'.heap.size := fun k i hw => by
    obtain ⟨hi, hb⟩ := which_some hw
    rw [hl] at hi
    obtain ⟨g, c, e, hr, hB, _⟩ := h2 i hi
    rw [e] at hb
    obtain rfl : g = k := by simpa [Value.ownBlock] using hb
    exact ⟨hi, hB, hr.lt⟩
  have rlow : ∀ k, v.ownBlock = some k → w.heap.size ≤ k ∧ k < w'.heap.size := fun k hv => ⟨own_lo h1 hv, by obtain ⟨cur, hc⟩ := owns_block h1 hv; exact lt_there hc⟩
  refine ⟨labO lab v vs yr yb, vs, ⟨hk.mono (fun k (e : lab k = x) => .inl e), fun k hk1 => ?_, fun k hk1 => ?_, fun k hk1 => ?_⟩, ⟨row_zero h1, fun g hg => ?_⟩, fun i hi => ?_⟩
  · unfold labO
    rw [if_neg (fun e => by have := rlow k e; omega)]
    cases hw : whichV vs k with
    | none => rfl
    | some i => have := low k i hw; omega
  · unfold labO
    split
    · exact .inr (.inr (.inl rfl))
    · cases hw : whichV vs k with
      | none => exact .inl (hz k hk1)
      | some i => exact .inr (.inr (.inr ⟨i, (low k i hw).1, rfl⟩))
  · unfold labO
    rw [if_neg (fun e => by have := rlow k e; omega)]
    cases hw : whichV vs k with
    | none => exact hz k (Nat.le_trans hk.size hk1)
    | some i => have := low k i hw; omega
  · unfold labO
    rw [if_pos hg]
  · obtain ⟨g, c, e, hr, hB, _⟩ := h2 i hi
    refine ⟨_, e, ?_, fun q hq => ?_⟩
    · have := hr.owns
      simp only [bs, List.length_map] at this ⊢
      exact this
    · obtain rfl : g = q := by simpa [Value.ownBlock] using hq
      have hne : v.ownBlock ≠ some g := fun hv => by
        obtain ⟨cur, hc⟩ := owns_block h1 hv
        obtain ⟨cur2, hc2, _⟩ := hr
        exact type_ne hc hc2 (by decide)
      unfold labO
      rw [if_neg hne, which_at hd (i := i) (by rw [e]; rfl)]
section
variable {lab : Nat → Nat} {w : World} {n j p x : Nat} {X : DS} {ds : List (List Int)}
/-- Open of a log that nobody cut: all is told, in memory of its own. -/
theorem open_flat (h : DiskR w (ofL lab x) p (n + 2) X) (hx : x ≠ 0) (hz : LZ lab w) (hF : Flat X n j ds ds.length false) (hj : j ≤ 1000) (hf : X.fuse = -1) (h18 : 18 ≤ n) (h256 : n ≤ 256) (yr : Nat) (yb : Nat → Nat) :
    Calls Try.prog 13 #[.pointer (some ⟨p, 0, none⟩), .int .i64 0, .int .i64 (n : Int)] w fun e w' => ∃ l v lab' vs X', e = .returned (.tuple #[.pointer (some ⟨l, 0, none⟩), v, .int .i64 0]) ∧ Gro lab lab' w w' (fun y => y = x ∨ y = yr ∨ ∃ i, i < ds.length ∧ y = yb i) ∧ DiskR w' (ofL lab' x) p (n + 2) X' ∧ Flat X' n (j + 1) ds ds.length false ∧ X'.fuse = -1 ∧ OR w' lab' yr 27 v ds.length vs ∧ ∀ i (hi : i < ds.length), ∃ u, vs[i]? = some u ∧ OR w' lab' (yb i) 5 u (ds[i]).length (bs ds[i]) := by
  obtain ⟨o1, o2, o3, o4⟩ := hF.open (by omega) h18 h256 (by rw [hf]; decide)
  refine (open_yesF h hF.byt ((0 : Nat) : Int) (n : Int) (by rw [hF.p]; simp) o1).mono ?_
  rintro e w' ⟨l, v, rs, hd, rfl, ⟨hl, ht⟩, hd2, hk⟩
  obtain ⟨q1, q2, q3, q4, q5, _⟩ := o4 rs hd ht.t ht.x hd2.ok
  obtain rfl : rs = ds := by
    rcases q1 with ⟨q, _⟩ | ⟨a1, a2, a3⟩
    · cases q
    · rw [a3, List.take_of_length_le (by omega)]
  obtain ⟨lab', vs, G, oR, oB⟩ := ht.r.own hz hk yr yb
  obtain ⟨N, ho⟩ := q4
  refine ⟨l, v, lab', vs, _, rfl, G, hd2.mono (fun k hf => (G.old k (h.lt k hf)).trans hf) (fun k (e : lab' k = x) => ?_), ⟨hd2.ok, q2.byt, q5, q2.l0, by have := q2.lt; omega, ⟨N, ho.up (by omega)⟩, q3⟩, by rw [o2, hf]; rfl, oR, oB⟩
  apply Decidable.byContradiction
  intro hn
  rw [G.lz k (by omega)] at e
  exact hx e.symm
end
end Go.Proofs.Ythdgndbmecnimaa
end

section
namespace Go.Proofs.Ythdgndbmecnimaa
open Go.RowKit Go.Maps

/-- A list of one byte. -/
def Mk (w : World) (m : Nat) (x : Value) : Prop := ∃ g c, x = .slice (some ⟨g, 0, none⟩) 1 c ∧ 1 ≤ c ∧ w.cell? ⟨g, 0, none⟩ = some (.int .u8 (m : Int))
theorem Mk.later {w w' : World} {m : Nat} {x : Value} (h : Mk w m x) (hb : Below w.heap.size w w') : Mk w' m x := by
  obtain ⟨g, c, e, h1, h2⟩ := h
  exact ⟨g, c, e, h1, cell_later hb h2⟩
/-- A row of lists of one byte. -/
def MkR (w : World) (a : Option Addr) (n m : Nat) : Prop := ∀ i, i < n → ∃ b x, a = some ⟨b, 0, none⟩ ∧ w.cell? ⟨b, i, none⟩ = some x ∧ Mk w m x
theorem MkR.later {w w' : World} {a : Option Addr} {n m : Nat} (h : MkR w a n m) (hb : Below w.heap.size w w') : MkR w' a n m := fun i hi => by
  obtain ⟨b, x, e, h1, h2⟩ := h i hi
  exact ⟨b, x, e, cell_later hb h1, h2.later hb⟩
theorem wrap_small {m : Nat} (h : m < 256) : IntKind.i64.wrap (m : Int) = (m : Int) := by
  rw [IntKind.wrap_i64] <;> omega
set_option maxRecDepth 20000 in
set_option maxHeartbeats 2000000 in
theorem marked_any (a : Option Addr) (n c m : Nat) (w : World) (hn : n ≤ 1000000) (hm : m < 256) (h : MkR w a n m) :
    Calls Try.prog 17 #[.slice a n c, .int .i64 (m : Int)] w fun e w' => e = .returned (.bool true) ∧ Below w.heap.size w w' := by
  have hw1 := wrap_small hm
  have hne : ((m : Int) != (m : Int)) = false := by simp
  have H := Hid.mk h
  clear h
  go_enter Try.func17, Try.ntmps17
  go_wp2
  go_loopw [5] (fun i wr => ∃ j : Nat, j ≤ n ∧ i = .int .i64 (j : Int) ∧ Below w.heap.size w wr) (fun i _ => n - (intOf i).toNat)
  case atStart => exact ⟨0, Nat.zero_le _, rfl, Below.refl _ _⟩
  case round =>
    obtain ⟨j, hj, rfl, hbr⟩ := hrel
    have HB := Hid.mk hbr
    by_cases hlt : j < n
    · have hlt' : (j : Int) < (n : Int) := by omega
      have hj0 : (0 : Int) ≤ (j : Int) := by omega
      obtain ⟨b, x, rfl, c1, g, c2, rfl, h1, c3⟩ := H.out j hlt
      have c1 := cell_later hbr c1
      have c3 := cell_later hbr c3
      clear hbr
      go_wp2
      go_roundw
      case rel => exact ⟨j + 1, by omega, by go_num, HB.out⟩
      case measure => simp [intOf]; omega
    · obtain rfl : j = n := by omega
      have hge : ¬ (j : Int) < (j : Int) := by omega
      clear hbr
      go_wp2
      go_ret
      exact ⟨rfl, HB.out⟩
/-- Lists that were appended to, by one, by two and so on. -/
def GwR (w : World) (a : Option Addr) (n r K : Nat) : Prop := ∀ k, k < K → ∃ b g c, a = some ⟨b, 0, none⟩ ∧ w.cell? ⟨b, k, none⟩ = some (.slice (some ⟨g, 0, none⟩) (n + k + 1) c) ∧ n + k + 1 ≤ c ∧ c ≤ 9223372036854775807 ∧ ∀ o, o < n + k + 1 → ∃ x, w.cell? ⟨g, o, none⟩ = some x ∧ Mk w (if o < n then r else 200 + r) x
theorem GwR.later {w w' : World} {a : Option Addr} {n r K : Nat} (h : GwR w a n r K) (hb : Below w.heap.size w w') : GwR w' a n r K := fun k hk => by
  obtain ⟨b, g, c, e, h1, h2, h3, h4⟩ := h k hk
  refine ⟨b, g, c, e, cell_later hb h1, h2, h3, fun o ho => ?_⟩
  obtain ⟨x, h5, h6⟩ := h4 o ho
  exact ⟨x, cell_later hb h5, h6.later hb⟩
set_option maxRecDepth 20000 in
set_option maxHeartbeats 4000000 in
theorem grownSo_any (a : Option Addr) (n c r : Nat) (w : World) (hn : n ≤ 1000) (hr : r < 10) (h : GwR w a n r 96) :
    Calls Try.prog 18 #[.slice a 96 c, .int .i64 (n : Int), .int .i64 (r : Int)] w fun e w' => e = .returned (.bool true) ∧ Below w.heap.size w w' := by
  have H := Hid.mk h
  clear h
  go_enter Try.func18, Try.ntmps18
  go_wp2
  go_loopw [7] (fun i wr => ∃ j : Nat, j ≤ 96 ∧ i = .int .i64 (j : Int) ∧ Below w.heap.size w wr) (fun i _ => 96 - (intOf i).toNat)
  case atStart => exact ⟨0, Nat.zero_le _, rfl, Below.refl _ _⟩
  case round =>
    obtain ⟨k, hk, rfl, hbr⟩ := hrel
    have HB := Hid.mk hbr
    by_cases hlt : k < 96
    · have hlt' : (k : Int) < 96 := by omega
      have hk0 : (0 : Int) ≤ (k : Int) := by omega
      obtain ⟨b, g, c2, rfl, c1, hc2, hc3, hcell⟩ := H.out k hlt
      obtain ⟨N, hN⟩ : ∃ N, N = n + k + 1 := ⟨_, rfl⟩
      rw [← hN] at c1 hc2 hcell
      have c1 := cell_later hbr c1
      have x1 : wrap64 ((n : Int) + (k : Int)) = (n : Int) + (k : Int) := by unfold wrap64; omega
      have x2 : wrap64 ((n : Int) + (k : Int) + 1) = (N : Int) := by unfold wrap64; omega
      have x3 : ((N : Int) != (N : Int)) = false := by simp
      have x4 : ((N : Int) != (n : Int) + (k : Int) + 1) = false := by simp; omega
      have hnN : (n : Int) ≤ (N : Int) := by omega
      have hn0 : (0 : Int) ≤ (n : Int) := by omega
      have hnc : (n : Int) ≤ (c2 : Int) := by omega
      have hmk := marked_any (some ⟨g, 0, none⟩) n c2 r wr (by omega) (by omega) (fun i hi => by
        obtain ⟨x, h1, h2⟩ := hcell i (by omega)
        rw [if_pos hi] at h2
        exact ⟨g, x, rfl, cell_later hbr h1, h2.later hbr⟩)
      have HC := Hid.mk hcell
      have HN := Hid.mk hN
      clear hbr hcell hN
      go_wp2_with fail
      refine hmk.mono ?_
      rintro e w1 ⟨rfl, hb1⟩
      have HB1 : Hid (Below w.heap.size w w1) := HB.out.trans (hb1.mono HB.out.size)
      clear hmk hb1 c1
      go_wp2_with fail
      clear x1 x2 x3 x4
      rename World => wo
      go_loopw [9] (fun i wr => ∃ j : Nat, n ≤ j ∧ j ≤ N ∧ i = .int .i64 (j : Int) ∧ Below w.heap.size w wr) (fun i _ => N - (intOf i).toNat)
      case atStart => exact ⟨n, Nat.le_refl _, by have := HN.out; omega, rfl, HB1.out⟩
      case round =>
        obtain ⟨j, hj1, hj, rfl, hbr⟩ := hrel
        have HB := Hid.mk hbr
        by_cases hlt2 : j < N
        · have hlt2' : (j : Int) < (N : Int) := by omega
          have hj0 : (0 : Int) ≤ (j : Int) := by omega
          obtain ⟨x, c4, hx⟩ := HC.out j hlt2
          rw [if_neg (by omega)] at hx
          obtain ⟨g2, c5, rfl, h1, c6⟩ := hx
          have c4 := cell_later hbr c4
          have c6 := cell_later hbr c6
          obtain ⟨M, hM⟩ : ∃ M, M = 200 + r := ⟨_, rfl⟩
          rw [← hM] at c6
          have y1 := wrap_small (m := M) (by omega)
          have y2 : wrap64 (200 + (r : Int)) = (M : Int) := by unfold wrap64; omega
          have y3 : ((M : Int) != (M : Int)) = false := by simp
          have y4 : ((M : Int) != 200 + (r : Int)) = false := by simp; omega
          clear hbr hM
          go_wp2
          go_roundw
          case rel => exact ⟨j + 1, by omega, by omega, by go_num, HB.out⟩
          case measure => simp [intOf]; omega
        · obtain rfl : j = N := by omega
          have hge : ¬ (j : Int) < (j : Int) := by omega
          clear hbr
          go_wp2
          go_roundw
          case rel => exact ⟨k + 1, by omega, by go_num, HB.out⟩
          case measure => simp [intOf]; omega
    · obtain rfl : k = 96 := by omega
      clear hbr
      go_wp2
      go_ret
      exact ⟨rfl, HB.out⟩
end Go.Proofs.Ythdgndbmecnimaa
end

section
namespace Go.Proofs.Ythdgndbmecnimaa
open Go.RowKit Go.Maps

/-- A list of bytes of its own, nobody's. -/
def TV (w : World) (lab : Nat → Nat) (l : List Int) (s : SV) : Prop := ∃ g, s = ⟨some ⟨g, 0, none⟩, l.length, l.length⟩ ∧ Full w g l ∧ lab g = 0
theorem TV.gro {w w' : World} {lab lab' : Nat → Nat} {X : Nat → Prop} {l : List Int} {s : SV} (h : TV w lab l s) (g : Gro lab lab' w w' X) (h0 : ¬ X 0) : TV w' lab' l s := by
  obtain ⟨b, e, hf, hl⟩ := h
  exact ⟨b, e, hf.agree (g.block hf.lt hl h0), g.tag hf.lt hl⟩
theorem TV.mk {w : World} {lab : Nat → Nat} (hz : LZ lab w) (l : List Int) : TV (w.alloc (.cells (bs l).toArray 5)) lab l ⟨some ⟨w.heap.size, 0, none⟩, l.length, l.length⟩ := ⟨_, rfl, heap_alloc_new _ _, hz _ (Nat.le_refl _)⟩
theorem split_at {α : Type} {ds : List α} {i : Nat} {d : α} (h : ds[i]? = some d) : ∃ A B, ds = A ++ d :: B ∧ A.length = i ∧ ∀ x, ds.set i x = A ++ x :: B := by
  obtain ⟨hi, e⟩ := List.getElem?_eq_some_iff.1 h
  have hs : ∀ x, ds.set i x = ds.take i ++ x :: ds.drop (i + 1) := fun x => by rw [List.set_eq_take_append_cons_drop, if_pos hi]
  refine ⟨ds.take i, ds.drop (i + 1), ?_, by simp; omega, hs⟩
  rw [← hs d, ← e, List.set_getElem_self]
/-- The owners of the told lists. -/
abbrev yA (i : Nat) : Nat := 26 + i
theorem yA_ne {i j : Nat} (h : i ≠ j) : yA i ≠ yA j := by show 26 + i ≠ 26 + j; omega
def isA (y : Nat) : Prop := y = 8 ∨ (26 ≤ y ∧ y ≤ 28)
theorem isA_yA {i : Nat} (h : i < 3) : isA (yA i) := .inr (by show 26 ≤ 26 + i ∧ 26 + i ≤ 28; omega)
theorem isA_0 : ¬ isA 0 := fun h => by rcases h with h | h <;> omega
section
variable {w w' : World} {lab lab' : Nat → Nat} {yr : Nat} {yb : Nat → Nat} {v : Value} {ds : List (List SV)} {X : Nat → Prop} {d : List SV} {i : Nat}
theorem LV.put2 (h : LV w lab yr yb v ds) (hz : LZ lab w) (hi : ds[i]? = some d) (hr : yr ≠ yb i) (hne : ∀ k, k ≠ i → yb k ≠ yb i) {j : Nat} (hj : j < d.length) (x : SV) : ∃ gL cL g c y0, v = .slice (some ⟨gL, 0, none⟩) ds.length cL ∧ w.cell? ⟨gL, i, none⟩ = some (.slice (some ⟨g, 0, none⟩) d.length c) ∧ w.cell? ⟨g, j, none⟩ = some (SV.v y0) ∧ w.frozen? ⟨g, j, none⟩ = false ∧ d.length ≤ c ∧ Gro lab lab w (w.setCell ⟨g, j, none⟩ x.v) (fun y => y = yb i) ∧ LV (w.setCell ⟨g, j, none⟩ x.v) lab yr yb v (ds.set i (d.set j x)) := by
  obtain ⟨A, B, e, rfl, hs⟩ := split_at hi
  rw [hs]
  rw [e] at h ⊢
  exact h.put hz hr hne hj x
theorem LV.at2 (h : LV w lab yr yb v ds) (hi : ds[i]? = some d) : ∃ g cap u, v = .slice (some ⟨g, 0, none⟩) ds.length cap ∧ w.cell? ⟨g, i, none⟩ = some u ∧ OR w lab (yb i) 27 u d.length (vls d) := by
  obtain ⟨hi1, e⟩ := List.getElem?_eq_some_iff.1 hi
  subst e
  exact h.at hi1
theorem LV.app2 (h : LV w lab yr yb v ds) (hz : LZ lab w) (hi : ds[i]? = some d) (hr : yr ≠ yb i) (hne : ∀ k, k ≠ i → yb k ≠ yb i) {n' : Nat} {v' : Value} {l' : List SV} (h' : OR w lab (yb i) 27 v' n' (vls l')) (hnn : d.length ≤ n') (ad : Addr) (m c : Nat) (nw : List SV) (hm : nw.length = m) (hnw : ∀ j u, (vls nw)[j]? = some u → w.cell? (ad.add j) = some u) (h0 : 0 < m) (hb : n' + m ≤ 1000000000) :
    ∃ g' cap' w', (Builtin.append_ #[22, 22] 22 #[v', .slice (some ad) m c]).run Try.prog w = .ok (.slice (some ⟨g', 0, none⟩) (n' + m) cap') w' ∧ ∃ lab', Gro lab lab' w w' (fun x => x = yb i) ∧ OR w' lab' (yb i) 27 (.slice (some ⟨g', 0, none⟩) (n' + m) cap') (n' + m) (vls (l' ++ nw)) ∧ LV w' lab' yr yb v ds := by
  obtain ⟨A, B, e, rfl, hs⟩ := split_at hi
  rw [e] at h ⊢
  exact h.app hz hr hne h' hnn ad m c nw hm hnw h0 hb
end
/-- The first m rows are written full of their own. -/
def Ok1 (w : World) (L : Nat → Nat) (m : Nat) (ds : List (List SV)) : Prop := ∀ (r : Nat) (d : List SV) (k : Nat) (s : SV), r < m → ds[r]? = some d → d[k]? = some s → TV w L [1, (r : Int), (k : Int)] s
theorem Ok1.gro {w w' : World} {L L' : Nat → Nat} {X : Nat → Prop} {m : Nat} {ds : List (List SV)} (h : Ok1 w L m ds) (g : Gro L L' w w' X) (h0 : ¬ X 0) : Ok1 w' L' m ds := fun r d k s h1 h2 h3 => (h r d k s h1 h2 h3).gro g h0
/-- So far is the writing. -/
structure A1 (w : World) (lab : Nat → Nat) (la : Option Addr) (lc K : Nat) (wr : World) (i : Nat) (ds : List (List SV)) (L : Nat → Nat) : Prop where
  n : ds.length = 3
  k : ∀ d ∈ ds, d.length = K
  l : LV wr L 6 yA (.slice la 3 lc) ds
  g : Gro lab L w wr isA
  o : Ok1 wr L i ds
theorem u8w {k : Nat} (h : k < 256) : IntKind.u8.wrap (k : Int) = (k : Int) := by
  rw [IntKind.wrap_u8] <;> omega
end Go.Proofs.Ythdgndbmecnimaa
end

section
namespace Go.Proofs.Ythdgndbmecnimaa
open Go.RowKit Go.Maps

/-- The i-th row, as far as it is written. -/
def OkR (w : World) (L : Nat → Nat) (i k : Nat) (ds : List (List SV)) : Prop := ∀ (d : List SV) (j : Nat) (s : SV), j < k → ds[i]? = some d → d[j]? = some s → TV w L [1, (i : Int), (j : Int)] s
theorem OkR.gro {w w' : World} {L L' : Nat → Nat} {X : Nat → Prop} {i k : Nat} {ds : List (List SV)} (h : OkR w L i k ds) (g : Gro L L' w w' X) (h0 : ¬ X 0) : OkR w' L' i k ds := fun d j s h1 h2 h3 => (h d j s h1 h2 h3).gro g h0
section
variable {w wr : World} {lab L : Nat → Nat} {la : Option Addr} {lc K i k : Nat} {ds : List (List SV)}
theorem A1.later (h : A1 w lab la lc K wr i ds L) {w' : World} (hb : Below wr.heap.size wr w') : A1 w lab la lc K w' i ds L := by
  have G := Gro.below h.g.lz hb (fun _ => False)
  exact ⟨h.n, h.k, h.l.gro G (fun h => h) (fun _ _ h => h), h.g.join G (Z := isA) (fun _ h => h) (fun _ h => h.elim), h.o.gro G (fun h => h)⟩
theorem A1.row (h : A1 w lab la lc K wr i ds L) {r : Nat} (hr : r < 3) : ∃ d g gc cap u, ds[r]? = some d ∧ d.length = K ∧ la = some ⟨g, 0, none⟩ ∧ wr.cell? ⟨g, r, none⟩ = some (.slice u K gc) ∧ OR wr L (yA r) 27 (.slice u K gc) K (vls d) ∧ cap = lc := by
  have hl := h.n
  obtain ⟨d, hd⟩ : ∃ d, ds[r]? = some d := ⟨_, List.getElem?_eq_getElem (by omega)⟩
  have hk := h.k d (List.mem_of_getElem? hd)
  obtain ⟨g, cap, u, e1, e2, e3⟩ := h.l.at2 hd
  rw [hk] at e3
  obtain ⟨a, c, rfl⟩ := e3.form
  refine ⟨d, g, c, lc, a, hd, hk, ?_, e2, e3, rfl⟩
  injection e1
/-- One more is written. -/
theorem A1.put (h : A1 w lab la lc K wr i ds L) (hi : i < 3) (o : OkR wr L i k ds) (hk : k < K) : ∃ gL g c y0, la = some ⟨gL, 0, none⟩ ∧ wr.cell? ⟨gL, i, none⟩ = some (.slice (some ⟨g, 0, none⟩) K c) ∧ (wr.alloc (.cells #[.int .u8 1, .int .u8 (i : Int), .int .u8 (k : Int)] 5)).cell? ⟨g, k, none⟩ = some (SV.v y0) ∧ (wr.alloc (.cells #[.int .u8 1, .int .u8 (i : Int), .int .u8 (k : Int)] 5)).frozen? ⟨g, k, none⟩ = false ∧ K ≤ c ∧ ∃ ds', A1 w lab la lc K ((wr.alloc (.cells #[.int .u8 1, .int .u8 (i : Int), .int .u8 (k : Int)] 5)).setCell ⟨g, k, none⟩ (.slice (some ⟨wr.heap.size, 0, none⟩) 3 3)) i ds' L ∧ OkR ((wr.alloc (.cells #[.int .u8 1, .int .u8 (i : Int), .int .u8 (k : Int)] 5)).setCell ⟨g, k, none⟩ (.slice (some ⟨wr.heap.size, 0, none⟩) 3 3)) L i (k + 1) ds' := by
  obtain ⟨d, g0, gc, cap, u, hd, hdk, hla, hc, hor, _⟩ := h.row hi
  have hT : TV (wr.alloc (.cells #[.int .u8 1, .int .u8 (i : Int), .int .u8 (k : Int)] 5)) L [1, (i : Int), (k : Int)] ⟨some ⟨wr.heap.size, 0, none⟩, 3, 3⟩ := TV.mk h.g.lz [1, (i : Int), (k : Int)]
  have hB := below_box wr (.cells #[.int .u8 1, .int .u8 (i : Int), .int .u8 (k : Int)] 5)
  obtain ⟨W1, hW1⟩ : ∃ W1, W1 = wr.alloc (.cells #[.int .u8 1, .int .u8 (i : Int), .int .u8 (k : Int)] 5) := ⟨_, rfl⟩
  rw [← hW1] at hB hT ⊢
  have h1 := h.later hB
  have G0 := Gro.below h.g.lz hB (fun _ => False)
  obtain ⟨gL, cL, g, c, y0, e1, e2, e3, e4, e5, G, hl⟩ := h1.l.put2 h1.g.lz hd (by show 6 ≠ 26 + i; omega) (fun q hq => yA_ne hq) (j := k) (by omega) ⟨some ⟨wr.heap.size, 0, none⟩, 3, 3⟩
  have e6 : la = some ⟨gL, 0, none⟩ := by injection e1
  obtain rfl : gL = g0 := by
    rw [hla] at e6
    injection e6 with q
    injection q with q1
    exact q1.symm
  have hz0 : ¬ (fun y => y = yA i) 0 := fun e => by have e' : 0 = 26 + i := e; omega
  have hc1 := cell_later hB hc
  rw [hc1, hdk] at e2
  have e7 : .slice u K gc = Value.slice (some ⟨g, 0, none⟩) K c := by injection e2
  refine ⟨gL, g, c, y0, e6, by rw [hc, e7], e3, e4, by omega, ds.set i (d.set k ⟨some ⟨wr.heap.size, 0, none⟩, 3, 3⟩), ⟨by simpa using h.n, fun x hx => ?_, hl, h1.g.join G (Z := isA) (fun _ h => h) (fun y e => by subst e; exact isA_yA hi), fun r d' j s hr h2 h3 => ?_⟩, fun d' j s hj h2 h3 => ?_⟩
  · rcases List.mem_or_eq_of_mem_set hx with hx | hx
    · exact h.k x hx
    · rw [hx]; simpa using hdk
  · rw [List.getElem?_set_ne (by omega)] at h2
    exact ((h.o r d' j s hr h2 h3).gro G0 (fun h => h)).gro G hz0
  · have hil : i < ds.length := by have := h.n; omega
    rw [List.getElem?_set_self hil] at h2
    cases h2
    by_cases ej : j = k
    · subst ej
      rw [List.getElem?_set_self (by omega)] at h3
      cases h3
      exact hT.gro G hz0
    · rw [List.getElem?_set_ne (fun e => ej e.symm)] at h3
      exact ((o d j s (by omega) hd h3).gro G0 (fun h => h)).gro G hz0
end
/-- What the k-th of the r-th list holds in the end. -/
def wantL (K r k : Nat) : List Int := if k < K then [1, (r : Int), (k : Int)] else [2, (r : Int), ((k - K : Nat) : Int)]
theorem wantL_low {K r k : Nat} (h : k < K) : wantL K r k = [1, (r : Int), (k : Int)] := by unfold wantL; rw [if_pos h]
theorem wantL_high {K r t : Nat} : wantL K r (K + t) = [2, (r : Int), (t : Int)] := by
  unfold wantL
  rw [if_neg (by omega), show K + t - K = t by omega]
/-- A list that grows. -/
structure G2 (wr : World) (L : Nat → Nat) (K i t : Nat) (u : Value) (l : List SV) : Prop where
  r : OR wr L (yA i) 27 u (K + t) (vls l)
  n : l.length = K + t
  o : ∀ (k : Nat) (s : SV), l[k]? = some s → TV wr L (wantL K i k) s
theorem G2.gro {wr w' : World} {L L' : Nat → Nat} {K i t : Nat} {u : Value} {l : List SV} {X : Nat → Prop} (h : G2 wr L K i t u l) (g : Gro L L' wr w' X) (h0 : ¬ X 0) (h1 : ¬ X (yA i)) : G2 w' L' K i t u l :=
  ⟨h.r.gro g h1, h.n, fun k s hk => (h.o k s hk).gro g h0⟩
/-- So far are the lists appended to. -/
structure A2 (wr : World) (L : Nat → Nat) (K m : Nat) (gv : Value) (es : List (List SV)) : Prop where
  n : es.length = m
  l : LV wr L 8 yA gv es
  e : ∀ (r : Nat) (d : List SV), es[r]? = some d → d.length = K + 96
  o : ∀ (r : Nat) (d : List SV) (k : Nat) (s : SV), es[r]? = some d → d[k]? = some s → TV wr L (wantL K r k) s
theorem A2.gro {wr w' : World} {L L' : Nat → Nat} {K m : Nat} {gv : Value} {es : List (List SV)} {X : Nat → Prop} (h : A2 wr L K m gv es) (g : Gro L L' wr w' X) (h0 : ¬ X 0) (h1 : ¬ X 8) (h2 : ∀ i, i < m → ¬ X (yA i)) : A2 w' L' K m gv es :=
  ⟨h.n, h.l.gro g h1 (fun i hi => h2 i (by have := h.n; omega)), h.e, fun r d k s h3 h4 => (h.o r d k s h3 h4).gro g h0⟩
section
variable {w wr : World} {lab L : Nat → Nat} {la : Option Addr} {lc K i t : Nat} {ds es : List (List SV)} {gv u : Value} {l : List SV}
/-- One more is appended. -/
theorem A2.app (hA : A1 w lab la lc K wr 3 ds L) (hE : A2 wr L K i gv es) (hG : G2 wr L K i t u l) (hi : i < 3) (hK : K ≤ 256) (ht : t < 96) {W2 : World}
    (hW : W2 = (wr.alloc (.cells #[.int .u8 2, .int .u8 (i : Int), .int .u8 (t : Int)] 5)).alloc (.cells #[.slice (some ⟨wr.heap.size, 0, none⟩) 3 3] 27)) :
    ∃ g' cap' w', (Builtin.append_ #[22, 22] 22 #[u, .slice (some ⟨wr.heap.size + 1, 0, none⟩) 1 1]).run Try.prog W2 = .ok (.slice (some ⟨g', 0, none⟩) (K + t + 1) cap') w' ∧ ∃ L' l', A1 w lab la lc K w' 3 ds L' ∧ A2 w' L' K i gv es ∧ G2 w' L' K i (t + 1) (.slice (some ⟨g', 0, none⟩) (K + t + 1) cap') l' := by
  subst hW
  obtain ⟨W1, hW1⟩ : ∃ W1, W1 = wr.alloc (.cells #[.int .u8 2, .int .u8 (i : Int), .int .u8 (t : Int)] 5) := ⟨_, rfl⟩
  have hT : TV W1 L [2, (i : Int), (t : Int)] ⟨some ⟨wr.heap.size, 0, none⟩, 3, 3⟩ := by rw [hW1]; exact TV.mk hA.g.lz [2, (i : Int), (t : Int)]
  have hB1 : Below wr.heap.size wr W1 := by rw [hW1]; exact below_box _ _
  have hs1 : W1.heap.size = wr.heap.size + 1 := by rw [hW1]; simp
  rw [← hW1, ← hs1]
  have hB2 := below_box W1 (.cells #[.slice (some ⟨wr.heap.size, 0, none⟩) 3 3] 27)
  have hnew : ∀ j u, (vls [⟨some ⟨wr.heap.size, 0, none⟩, 3, 3⟩])[j]? = some u → (W1.alloc (.cells #[.slice (some ⟨wr.heap.size, 0, none⟩) 3 3] 27)).cell? ((⟨W1.heap.size, 0, none⟩ : Addr).add j) = some u := World.news_of_block (cs := #[.slice (some ⟨wr.heap.size, 0, none⟩) 3 3]) (t := 27) (fr := (0, 0)) (heap_alloc_new W1 _)
  obtain ⟨W2, hW2⟩ : ∃ W2, W2 = W1.alloc (.cells #[.slice (some ⟨wr.heap.size, 0, none⟩) 3 3] 27) := ⟨_, rfl⟩
  rw [← hW2] at hB2 hnew ⊢
  have G1 := Gro.below hA.g.lz hB1 (fun _ => False)
  have G2' := Gro.below G1.lz hB2 (fun _ => False)
  have GG := G1.join G2' (Z := fun _ => False) (fun _ h => h) (fun _ h => h)
  obtain ⟨d, hd⟩ : ∃ d, ds[i]? = some d := ⟨_, List.getElem?_eq_getElem (by have := hA.n; omega)⟩
  have hdk := hA.k d (List.mem_of_getElem? hd)
  obtain ⟨g', cap', w', hrun, L', G3, o3, l3⟩ := (hA.l.gro GG (fun h => h) (fun _ _ h => h)).app2 GG.lz hd (by show 6 ≠ 26 + i; omega) (fun q hq => yA_ne hq) (hG.r.gro GG (fun h => h)) (by omega) ⟨W1.heap.size, 0, none⟩ 1 1 [⟨some ⟨wr.heap.size, 0, none⟩, 3, 3⟩] rfl hnew (by omega) (by omega)
  have hz0 : ¬ (fun y => y = yA i) 0 := fun e => by have e' : 0 = 26 + i := e; omega
  refine ⟨g', cap', w', hrun, L', l ++ [⟨some ⟨wr.heap.size, 0, none⟩, 3, 3⟩], ⟨hA.n, hA.k, l3, (hA.g.join GG (Z := isA) (fun _ h => h) (fun _ h => h.elim)).join G3 (Z := isA) (fun _ h => h) (fun y e => by subst e; exact isA_yA hi), (hA.o.gro GG (fun h => h)).gro G3 hz0⟩, (hE.gro GG (fun h => h) (fun h => h) (fun _ _ h => h)).gro G3 hz0 (fun e => by have e' : 8 = 26 + i := e; omega) (fun j hj e => yA_ne (by omega) e), ⟨o3, by rw [List.length_append, hG.n]; rfl, fun k s hk => ?_⟩⟩
  by_cases e : k < l.length
  · rw [List.getElem?_append_left e] at hk
    exact ((hG.o k s hk).gro GG (fun h => h)).gro G3 hz0
  · have hkl : k = K + t := by
      have h1 := (List.getElem?_eq_some_iff.1 hk).1
      rw [List.length_append, List.length_singleton, hG.n] at h1
      have := hG.n
      omega
    subst hkl
    rw [List.getElem?_append_right (by have := hG.n; omega), hG.n, Nat.sub_self] at hk
    cases hk
    rw [wantL_high]
    exact (hT.gro G2' (fun h => h)).gro G3 hz0
/-- The list joins the others. -/
theorem A2.push (hA : A1 w lab la lc K wr 3 ds L) (hE : A2 wr L K i gv es) (hG : G2 wr L K i 96 u l) (hi : i < 3) : ∃ g' cap' w', (Builtin.append_ #[36, 36] 36 #[gv, .slice (some ⟨wr.heap.size, 0, none⟩) 1 1]).run Try.prog (wr.alloc (.cells #[u] 22)) = .ok (.slice (some ⟨g', 0, none⟩) (i + 1) cap') w' ∧ ∃ L' es', A1 w lab la lc K w' 3 ds L' ∧ A2 w' L' K (i + 1) (.slice (some ⟨g', 0, none⟩) (i + 1) cap') es' := by
  have hn := hE.n
  obtain ⟨g', cap', w', hrun, L', G, hl⟩ := hE.l.push hA.g.lz (fun q => by show 8 ≠ 26 + q; omega) (by omega) (u := u) (d := l) (by rw [hn, hG.n]; exact hG.r)
  rw [hn] at hrun hl
  have hz0 : ¬ (fun y => y = 8) 0 := fun e => by have e' : 0 = 8 := e; omega
  refine ⟨g', cap', w', hrun, L', es ++ [l], ⟨hA.n, hA.k, hA.l.gro G (fun e => by have e' : 6 = 8 := e; omega) (fun q _ e => by have e' : 26 + q = 8 := e; omega), hA.g.join G (Z := isA) (fun _ h => h) (fun y e => .inl e), hA.o.gro G hz0⟩, by rw [List.length_append, hn]; rfl, hl, fun r d hd => ?_, fun r d k s hd hs => ?_⟩
  · by_cases e : r < es.length
    · rw [List.getElem?_append_left e] at hd
      exact hE.e r d hd
    · have h1 := (List.getElem?_eq_some_iff.1 hd).1
      rw [List.length_append, List.length_singleton] at h1
      obtain rfl : r = es.length := by omega
      rw [List.getElem?_append_right (Nat.le_refl _), Nat.sub_self] at hd
      cases hd
      exact hG.n
  · by_cases e : r < es.length
    · rw [List.getElem?_append_left e] at hd
      exact (hE.o r d k s hd hs).gro G hz0
    · have h1 := (List.getElem?_eq_some_iff.1 hd).1
      rw [List.length_append, List.length_singleton] at h1
      obtain rfl : r = es.length := by omega
      rw [List.getElem?_append_right (Nat.le_refl _), Nat.sub_self] at hd
      cases hd
      rw [hn]
      exact (hG.o k s hs).gro G hz0
end
set_option maxRecDepth 20000 in
set_option maxHeartbeats 8000000 in
theorem apart_any {w : World} {lab : Nat → Nat} {v : Value} {ds : List (List SV)} {K : Nat} (h : LV w lab 6 yA v ds) (hz : LZ lab w) (hM : ds.length = 3) (hK : ∀ d ∈ ds, d.length = K) (hK2 : K ≤ 256) :
    Calls Try.prog 21 #[v] w fun e w' => e = .returned (.bool true) ∧ ∃ lab', Gro lab lab' w w' isA := by
  obtain ⟨la, lc, hv⟩ := h.form
  rw [hM] at hv
  subst hv
  have H0 : Hid (A1 w lab la lc K w 0 ds lab) := ⟨hM, hK, h, Gro.refl hz _, fun r d k s hr => absurd hr (Nat.not_lt_zero _)⟩
  clear h hM hK
  go_enter Try.func21, Try.ntmps21
  go_upto_block 0 with fail
  go_cut [4] (fun _ wx => ∃ (ds : List (List SV)) (L : Nat → Nat), A1 w lab la lc K wx 3 ds L)
  case first =>
    go_wp2_with fail
    go_loopw [4] (fun iv wr => ∃ (i : Nat) (ds : List (List SV)) (L : Nat → Nat), i ≤ 3 ∧ iv = .int .i64 (i : Int) ∧ A1 w lab la lc K wr i ds L) (fun iv _ => 3 - (intOf iv).toNat)
    case atStart => exact ⟨0, ds, lab, by omega, rfl, H0.out⟩
    case round =>
      clear H0
      obtain ⟨i, ds, L, hi, rfl, hA⟩ := hrel
      have HA := Hid.mk hA
      by_cases hlt : i < 3
      · have hlt' : (i : Int) < 3 := by omega
        have hi0 : (0 : Int) ≤ (i : Int) := by omega
        clear hA
        go_wp2_with fail
        rename World => wo
        go_loopw [5] (fun kv wr => ∃ (k : Nat) (ds : List (List SV)) (L : Nat → Nat), k ≤ K ∧ kv = .int .i64 (k : Int) ∧ A1 w lab la lc K wr i ds L ∧ OkR wr L i k ds) (fun kv _ => K - (intOf kv).toNat)
        case atStart => exact ⟨0, ds, L, Nat.zero_le _, rfl, HA.out, fun d j s hj => absurd hj (Nat.not_lt_zero _)⟩
        case round =>
          clear HA
          obtain ⟨k, ds, L, hk, rfl, hA, hO⟩ := hrel
          by_cases hlt2 : k < K
          · have hlt2' : (k : Int) < (K : Int) := by omega
            have hk0 : (0 : Int) ≤ (k : Int) := by omega
            obtain ⟨gL, g, c, y0, rfl, c1, c2, c3, hc, ds', A', O'⟩ := hA.put hlt hO hlt2
            have u1 := u8w (k := i) (by omega)
            have u2 := u8w (k := k) (by omega)
            have HR := Hid.mk (And.intro A' O')
            obtain ⟨ya, yn, yc⟩ := y0
            unfold SV.v at c2
            simp only at c2
            clear hA hO A' O'
            go_wp2
            go_roundw
            case rel => exact ⟨k + 1, ds', L, by omega, by go_num, HR.out⟩
            case measure => simp [intOf]; omega
          · obtain rfl : k = K := by omega
            have hge : ¬ (k : Int) < (k : Int) := by omega
            obtain ⟨d, gL, gc, cap, u, hd, hdk, rfl, c1, hor, _⟩ := hA.row hlt
            have HR : Hid (A1 w lab (some ⟨gL, 0, none⟩) lc k wr (i + 1) ds L) := ⟨hA.n, hA.k, hA.l, hA.g, fun r d' j s hr h2 h3 => by
              by_cases e : r = i
              · subst e
                exact hO d' j s (by have := hA.k d' (List.mem_of_getElem? h2); have := (List.getElem?_eq_some_iff.1 h3).1; omega) h2 h3
              · exact hA.o r d' j s (by omega) h2 h3⟩
            clear hA hO hd hdk hor
            go_wp2
            go_roundw
            case rel => exact ⟨i + 1, ds, L, by omega, by go_num, HR.out⟩
            case measure => simp [intOf]; omega
      · obtain rfl : i = 3 := by omega
        clear hA
        go_wp2
        go_meet
        case rel => exact ⟨ds, L, HA.out⟩
  case rest =>
  obtain ⟨ds1, L1, hA1⟩ := hcut
  have H1 := Hid.mk hA1
  clear H0 hA1
  go_upto_block 4 with fail
  go_cut [3] (fun gv wx => ∃ (L : Nat → Nat) (es : List (List SV)), A1 w lab la lc K wx 3 ds1 L ∧ A2 wx L K 3 gv es)
  case first =>
    go_wp2_with fail
    go_loopw [3, 6] (fun gv iv wr => ∃ (i : Nat) (L : Nat → Nat) (es : List (List SV)), i ≤ 3 ∧ iv = .int .i64 (i : Int) ∧ A1 w lab la lc K wr 3 ds1 L ∧ A2 wr L K i gv es) (fun _ iv _ => 3 - (intOf iv).toNat)
    case atStart => exact ⟨0, L1, [], by omega, rfl, H1.out, ⟨rfl, LV.nil _ _ _ _, (fun r d hd => by simp at hd), fun r d k s hd => by simp at hd⟩⟩
    case round =>
      clear H1
      obtain ⟨i, L, es, hi, rfl, hA, hE⟩ := hrel
      obtain ⟨ea, ec, hgv⟩ := hE.l.form
      rw [hE.n] at hgv
      subst hgv
      by_cases hlt : i < 3
      · have hlt' : (i : Int) < 3 := by omega
        have hi0 : (0 : Int) ≤ (i : Int) := by omega
        obtain ⟨d, gL, gc, cap, u, hd, hdk, rfl, c1, hor, _⟩ := hA.row hlt
        have HR : Hid (A1 w lab (some ⟨gL, 0, none⟩) lc K wr 3 ds1 L ∧ A2 wr L K i (.slice ea i ec) es ∧ G2 wr L K i 0 (.slice u K gc) d) := ⟨hA, hE, hor, hdk, fun k s hk => by
          have hkl := (List.getElem?_eq_some_iff.1 hk).1
          rw [wantL_low (by omega)]
          exact hA.o i d k s hlt hd hk⟩
        clear hA hE hd hdk hor
        go_wp2_with fail
        rename World => wo
        go_loopw [7, 8] (fun u kv wr => ∃ (t : Nat) (L : Nat → Nat) (l : List SV), t ≤ 96 ∧ kv = .int .i64 (t : Int) ∧ A1 w lab (some ⟨gL, 0, none⟩) lc K wr 3 ds1 L ∧ A2 wr L K i (.slice ea i ec) es ∧ G2 wr L K i t u l) (fun _ kv _ => 96 - (intOf kv).toNat)
        case atStart => exact ⟨0, L, d, by omega, rfl, HR.out⟩
        case round =>
          clear HR c1
          obtain ⟨t, L, l, ht, rfl, hA, hE, hG⟩ := hrel
          obtain ⟨N, hN⟩ : ∃ N, N = K + t := ⟨_, rfl⟩
          obtain ⟨ua, uc, hu⟩ := hG.r.form
          rw [← hN] at hu
          subst hu
          by_cases hlt2 : t < 96
          · have hlt2' : (t : Int) < 96 := by omega
            have ht0 : (0 : Int) ≤ (t : Int) := by omega
            have u1 := u8w (k := i) (by omega)
            have u2 := u8w (k := t) (by omega)
            obtain ⟨g', cap', w', hrun, L', l', A', E', G'⟩ := A2.app hA hE hG hlt hK2 hlt2 rfl
            rw [← hN] at hrun G'
            have HR := Hid.mk (And.intro A' (And.intro E' G'))
            have HX := Hid.mk hrun
            clear hA hE hG A' E' G' hrun hN
            go_wp2_with (at_builtin; refine Lib.wpList_append_run _ rfl _ _ _ _ rfl _ _ rfl rfl _ _ HX.out ?_)
            go_roundw
            case rel => exact ⟨t + 1, L', l', by omega, by go_num, HR.out⟩
            case measure => simp [intOf]; omega
          · obtain rfl : t = 96 := by omega
            obtain ⟨g', cap', w', hrun, L', es', A', E'⟩ := A2.push hA hE hG hlt
            have HR := Hid.mk (And.intro A' E')
            have HX := Hid.mk hrun
            clear hA hE hG A' E' hrun hN
            go_wp2_with (at_builtin; refine Lib.wpList_append_run _ rfl _ _ _ _ rfl _ _ rfl rfl _ _ HX.out ?_)
            go_roundw
            case rel => exact ⟨i + 1, L', es', by omega, by go_num, HR.out⟩
            case measure => simp [intOf]; omega
      · obtain rfl : i = 3 := by omega
        have HR := Hid.mk (And.intro hA hE)
        clear hA hE
        go_wp2
        go_meet
        case rel => exact ⟨L, es, HR.out⟩
  case rest =>
  obtain ⟨L, es, hA, hE⟩ := hcut
  obtain ⟨ea, ec, hgv⟩ := hE.l.form
  rw [hE.n] at hgv
  subst hgv
  obtain ⟨W6, hW6⟩ : ∃ W6, W6 = wc := ⟨_, rfl⟩
  rw [← hW6] at hA hE ⊢
  have H5 := Hid.mk (And.intro hA hE)
  clear H1 hA hE hW6
  go_wp2_with fail
  go_loopw [9] (fun iv wr => ∃ i : Nat, i ≤ 3 ∧ iv = .int .i64 (i : Int) ∧ Below W6.heap.size W6 wr) (fun iv _ => 3 - (intOf iv).toNat)
  case atStart => exact ⟨0, by omega, rfl, Below.refl _ _⟩
  case round =>
    obtain ⟨i, hi, rfl, hb⟩ := hrel
    have HB := Hid.mk hb
    by_cases hlt : i < 3
    · have hlt' : (i : Int) < 3 := by omega
      have hi0 : (0 : Int) ≤ (i : Int) := by omega
      obtain ⟨hA, hE⟩ := H5.out
      obtain ⟨d, gL, gc, cap, u, hd, hdk, rfl, c1, hor, _⟩ := hA.row hlt
      obtain ⟨e, he⟩ : ∃ e, es[i]? = some e := ⟨_, List.getElem?_eq_getElem (by have := hE.n; omega)⟩
      have hek := hE.e i e he
      obtain ⟨gG, cG, ue, eG, c2, oG⟩ := hE.l.at2 he
      obtain rfl : ea = some ⟨gG, 0, none⟩ := by injection eG
      obtain ⟨Y, hY⟩ : ∃ Y, Y = K + 96 := ⟨_, rfl⟩
      rw [hek, ← hY] at oG
      obtain ⟨gb, cb, rfl, hrb, _, hcb⟩ := oG.row (by omega)
      have HC : Hid (∀ wr, Below W6.heap.size W6 wr → wr.cell? ⟨gL, i, none⟩ = some (.slice u K gc) ∧ wr.cell? ⟨gG, i, none⟩ = some (.slice (some ⟨gb, 0, none⟩) Y cb)) := fun wr hb => ⟨cell_later hb c1, cell_later hb c2⟩
      have HE : Hid (∀ k, k < Y → ∃ q, Full W6 q (wantL K i k) ∧ W6.cell? ⟨gb, k, none⟩ = some (.slice (some ⟨q, 0, none⟩) 3 3)) := fun k hk => by
        obtain ⟨s, hs⟩ : ∃ s, e[k]? = some s := ⟨_, List.getElem?_eq_getElem (by omega)⟩
        obtain ⟨q, rfl, hF, _⟩ := hE.o i e k s he hs
        have hl3 : (wantL K i k).length = 3 := by unfold wantL; split <;> rfl
        rw [hl3] at hs
        exact ⟨q, hF, hrb.cell (by simp [vls, hs]; rfl)⟩
      have HD : Hid (∀ k, k < K → ∃ g q, u = some ⟨g, 0, none⟩ ∧ Full W6 q [1, (i : Int), (k : Int)] ∧ W6.cell? ⟨g, k, none⟩ = some (.slice (some ⟨q, 0, none⟩) 3 3)) := fun k hk => by
        obtain ⟨s, hs⟩ : ∃ s, d[k]? = some s := ⟨_, List.getElem?_eq_getElem (by omega)⟩
        obtain ⟨g, c, eu, hr, _, _⟩ := hor.row (by omega)
        obtain ⟨q, rfl, hF, _⟩ := hA.o i d k s hlt hd hs
        injection eu with e1 e2 e3
        exact ⟨g, q, e1, hF, hr.cell (by simp [vls, hs]; rfl)⟩
      have c1 := cell_later hb c1
      clear hA hE hd hdk hor he hek eG c2 oG hrb hb
      go_wp2_with fail
      rename World => wo
      go_loopw [11] (fun kv wr => ∃ k : Nat, k ≤ Y ∧ kv = .int .i64 (k : Int) ∧ Below W6.heap.size W6 wr) (fun kv _ => Y - (intOf kv).toNat)
      case atStart => exact ⟨0, Nat.zero_le _, rfl, HB.out⟩
      case round =>
        clear HB c1
        obtain ⟨k, hk, rfl, hb⟩ := hrel
        have HB := Hid.mk hb
        obtain ⟨c1, c2⟩ := HC.out wr hb
        by_cases hlt2 : k < Y
        · have hlt2' : (k : Int) < (Y : Int) := by omega
          have hk0 : (0 : Int) ≤ (k : Int) := by omega
          have u1 := u8w (k := i) (by omega)
          obtain ⟨q, hF, c3⟩ := HE.out k hlt2
          by_cases hkK : k < K
          · have hkK' : (k : Int) < (K : Int) := by omega
            have hge : ¬ (K : Int) ≤ (k : Int) := by omega
            have u2 := u8w (k := k) (by omega)
            obtain ⟨g, q2, rfl, hF2, c4⟩ := HD.out k hkK
            rw [wantL_low hkK] at hF
            have hB1 := below_box wr (.cells #[.int .u8 1, .int .u8 (i : Int), .int .u8 (k : Int)] 5)
            have hN : Full (wr.alloc (.cells #[.int .u8 1, .int .u8 (i : Int), .int .u8 (k : Int)] 5)) wr.heap.size [1, (i : Int), (k : Int)] := heap_alloc_new _ _
            have hb1 := hb.trans (hB1.mono hb.size)
            have hs1 := same_any (some ⟨q, 0, none⟩) (some ⟨wr.heap.size, 0, none⟩) 3 3 3 [1, (i : Int), (k : Int)] (wr.alloc (.cells #[.int .u8 1, .int .u8 (i : Int), .int .u8 (k : Int)] 5)) (by omega) ((hF.later hb1).src 3 (Nat.le_refl _)) (hN.src 3 (Nat.le_refl _))
            have c3 := cell_later hb1 c3
            have c5 := (HC.out _ hb1).2
            have HN := Hid.mk (And.intro hN (And.intro hb1 (And.intro hF2 c4)))
            clear hb hN hb1 hB1 hF hF2 c4
            go_wp2_with fail
            refine hs1.mono ?_
            rintro e w2 ⟨rfl, hb2⟩
            obtain ⟨hN, hb1, hF2, c4⟩ := HN.out
            have hb3 := hb1.trans (hb2.mono hb1.size)
            have hs2 := same_any (some ⟨q2, 0, none⟩) (some ⟨wr.heap.size, 0, none⟩) 3 3 3 [1, (i : Int), (k : Int)] w2 (by omega) ((hF2.later hb3).src 3 (Nat.le_refl _)) ((hN.later hb2).src 3 (Nat.le_refl _))
            have c4 := cell_later hb3 c4
            have c1 := (HC.out w2 hb3).1
            have HB2 := Hid.mk hb3
            clear hs1 hb2 hN hb1 hF2 hb3 HN c2 c3 c5
            go_wp2_with fail
            refine hs2.mono ?_
            rintro e w4 ⟨rfl, hb4⟩
            have HB4 : Hid (Below W6.heap.size W6 w4) := HB2.out.trans (hb4.mono HB2.out.size)
            clear hs2 hb4 c4 c1
            go_wp2
            go_roundw
            case rel => exact ⟨k + 1, by omega, by go_num, HB4.out⟩
            case measure => simp [intOf]; omega
          · have hkK' : ¬ (k : Int) < (K : Int) := by omega
            have hge : (K : Int) ≤ (k : Int) := by omega
            obtain ⟨t, ht⟩ : ∃ t, t = k - K := ⟨_, rfl⟩
            have x1 : wrap64 ((k : Int) - (K : Int)) = (t : Int) := by unfold wrap64; omega
            have x2 : (k : Int) - (K : Int) = (t : Int) := by omega
            have u2 := u8w (k := t) (by omega)
            have hkt : k = K + t := by omega
            rw [hkt, wantL_high] at hF
            obtain ⟨z, hz9⟩ : ∃ z, z = (k : Int) % 256 := ⟨_, rfl⟩
            have hsz : (wr.alloc (.cells #[.int .u8 1, .int .u8 (i : Int), .int .u8 z] 5)).heap.size = wr.heap.size + 1 := by simp
            have hB1 := below_box wr (.cells #[.int .u8 1, .int .u8 (i : Int), .int .u8 z] 5)
            have hB2 := below_box (wr.alloc (.cells #[.int .u8 1, .int .u8 (i : Int), .int .u8 z] 5)) (.cells #[.int .u8 2, .int .u8 (i : Int), .int .u8 (t : Int)] 5)
            have hN : Full ((wr.alloc (.cells #[.int .u8 1, .int .u8 (i : Int), .int .u8 z] 5)).alloc (.cells #[.int .u8 2, .int .u8 (i : Int), .int .u8 (t : Int)] 5)) (wr.alloc (.cells #[.int .u8 1, .int .u8 (i : Int), .int .u8 z] 5)).heap.size [2, (i : Int), (t : Int)] := heap_alloc_new _ _
            have hb1 := hb.trans ((hB1.trans (hB2.mono hB1.size)).mono hb.size)
            have hs1 := same_any (some ⟨q, 0, none⟩) (some ⟨(wr.alloc (.cells #[.int .u8 1, .int .u8 (i : Int), .int .u8 z] 5)).heap.size, 0, none⟩) 3 3 3 [2, (i : Int), (t : Int)] _ (by omega) ((hF.later hb1).src 3 (Nat.le_refl _)) (hN.src 3 (Nat.le_refl _))
            have c3 := cell_later hb1 c3
            have c5 := (HC.out _ hb1).2
            rw [hsz] at hs1
            rw [hz9] at hb1 hs1 c3 c5
            clear hsz
            have HN := Hid.mk hb1
            clear hb hN hb1 hB1 hB2 hF hkt hz9 ht
            go_wp2_with fail
            refine hs1.mono ?_
            rintro e w2 ⟨rfl, hb2⟩
            have HB4 : Hid (Below W6.heap.size W6 w2) := HN.out.trans (hb2.mono HN.out.size)
            clear hs1 hb2 HN c2 c3 c5
            go_wp2
            go_roundw
            case rel => exact ⟨k + 1, by omega, by go_num, HB4.out⟩
            case measure => simp [intOf]; omega
        · obtain rfl : k = Y := by omega
          have hge : ¬ (k : Int) < (k : Int) := by omega
          clear hb
          go_wp2
          go_roundw
          case rel => exact ⟨i + 1, by omega, by go_num, HB.out⟩
          case measure => simp [intOf]; omega
    · obtain rfl : i = 3 := by omega
      clear hb
      go_wp2
      go_ret
      exact ⟨rfl, L, H5.out.1.g.join (Gro.below H5.out.1.g.lz HB.out (fun _ => False)) (Z := isA) (fun _ h => h) (fun _ h => h.elim)⟩
end Go.Proofs.Ythdgndbmecnimaa
end
