import Derived.Test.YtkelfidmpnapoaaGreatW21
section
namespace Go.Proofs.YtkelfidmpnapoaaGreat
open Go.RowKit

/-- A fresh log of n sectors, and what becomes of it as long as nobody cuts or takes it. -/
structure Live (w w' : World) (F : Nat → Prop) (p l n : Nat) (S : DS) (L : LG) : Prop where
  d : DiskR w' F p (n + 2) S
  lp : LogP w' l p L
  nf : ¬ F l
  fF : ∀ k, F k → w.heap.size ≤ k
  lo : w.heap.size ≤ l
  b : Below w.heap.size w w'
  i : Inv S (n + 2) [L] 3
  f : S.fuse = -1
  a : L.life = S.life
  g : L.begun = true
  e : L.ep = 2
  n' : L.n = n
  f0 : L.f = 0

theorem open_yesF {w : World} {p s : Nat} {S : DS} {F : Nat → Prop} (h : DiskR w F p s S) (hby : S.Byt) (f n : Int) (hbig : S.puts.length ≤ 600) (hP : (lopen S s f n).1 = 0) :
    Calls Tryz.prog 8 #[.pointer (some ⟨p, 0, none⟩), .int .i64 f, .int .i64 n] w fun e w' => ∃ l v rs hd, e = .returned (.tuple #[.pointer (some ⟨l, 0, none⟩), v, .int .i64 0]) ∧ (w.heap.size ≤ l ∧ Told w' w.heap.size l p (LG.new S f.toNat n.toNat) S v rs hd) ∧ DiskR w' F p s (lopen S s f n).2 ∧ Keeps F w w' := by
  refine (Open_any h hby f n (by omega)).mono ?_
  rintro e w' ⟨h1, h2, h3⟩
  unfold Opened at h1
  rw [if_neg (fun c => c hP)] at h1
  obtain ⟨l, v, rs, hd, e1, e2, e3⟩ := h1
  exact ⟨l, v, rs, hd, e1, ⟨e2, e3⟩, h2, h3⟩
theorem RecsAt.nil_form {W : World} {B : Nat} {v : Value} {X : Nat → Prop} (h : RecsAt W B v [] X) : ∃ a c, v = .slice a 0 c := by
  obtain ⟨vs, ⟨hl, ⟨e, h3⟩ | ⟨g, cap, cur, e, hg, hb, h4⟩⟩, h2⟩ := h
  · exact ⟨none, 0, e⟩
  · exact ⟨_, _, e⟩
theorem inv_freshN {w : World} {F : Nat → Prop} {p s : Nat} (h : DiskR w F p s (DS.fresh (List.replicate (s * 512) 0))) : Inv (DS.fresh (List.replicate (s * 512) 0)) s [] 1 :=
  Inv.zero h.ok ⟨Bytes.zeros _, fun q hq => by cases hq⟩ rfl (show (0 : Int) ≤ 1 by decide) (show (1 : Int) ≤ 1 by decide)

/-- What the Open of a fresh log gives. -/
theorem open_freshN {n : Nat} (h18 : 18 ≤ n) (h256 : n ≤ 256) {w : World} {F : Nat → Prop} {p t : Nat} {S : DS} (h : DiskR w F p (n + 2) S) (hi : Inv S (n + 2) [] t) (ht : t ≤ 1000000000000000000) (hf : S.fuse = -1) (hn : oNew S 0 = (1, 0, 0)) (hz : ∀ j, j < n → S.now (0 + 2 + j) = zs 512) :
    Calls Tryz.prog 8 #[.pointer (some ⟨p, 0, none⟩), .int .i64 0, .int .i64 (n : Int)] w fun e w' => ∃ l a c S' L, e = .returned (.tuple #[.pointer (some ⟨l, 0, none⟩), .slice a 0 c, .int .i64 0]) ∧ w.heap.size ≤ l ∧ LogP w' l p L ∧ DiskR w' F p (n + 2) S' ∧ Keeps F w w' ∧ Inv S' (n + 2) [L] (t + 1) ∧ S'.fuse = -1 ∧ L.life = S'.life ∧ L.begun = false ∧ L.top = 1 ∧ L.n = n ∧ L.f = 0 ∧ ∀ j, j < n → S'.now (0 + 2 + j) = zs 512 := by
  obtain ⟨z1, z2, z3, z4, z5⟩ := open_calm (a := 0) (b := n) h.ok hf (by omega) h18 h256 hn hz
  refine (open_yesF h hi.byt 0 (n : Int) hi.p6 z1).mono ?_
  rintro e w' ⟨l, v, rs, hd, rfl, ⟨e2, e3⟩, h2, h3⟩
  obtain ⟨rfl, rfl⟩ := z4 rs hd e3.t
  obtain ⟨a, c, rfl⟩ := e3.r.nil_form
  have hI := hi.opened ht 0 (n : Int) h2.ok z1 (hd := 0) (by show (oNew S 0).2.1 ≤ 0; rw [hn]; exact Nat.le_refl _) (Nat.zero_le _)
  refine ⟨l, a, c, _, LG.opened S 0 n 0, rfl, e2, e3.p, h2, h3, hI, z2, z3.symm, rfl, z5, rfl, rfl, fun j hj => ?_⟩
  have e1 : lopen S (n + 2) 0 (n : Int) = S.take.fl (n + 2) := by
    have hr0 : lrefuse S (n + 2) 0 (n : Int) = 0 := by
      unfold lrefuse
      rw [if_neg (by omega), if_neg (by omega), if_neg (by omega), if_neg (by omega)]
    unfold lopen
    rw [if_neg (by omega), Int.toNat_natCast, if_neg (by show ¬ (oNew S 0).2.2 ≠ 0; rw [hn]; decide), if_neg (by show ¬ oTop S 0 n = 1073741824; omega)]
  rw [e1, fl_now (S := S.take) ⟨h.ok.len, h.ok.lo, h.ok.hi, h.ok.puts, h.ok.fuse⟩ (by omega)]
  exact hz j hj
theorem start_freshN {w : World} {F : Nat → Prop} {p l t s : Nat} {S : DS} {L : LG} (h : DiskR w F p s S) (hl : LogP w l p L) (hF : ¬ F l) (hi : Inv S s [L] t) (hf : S.fuse = -1) (ha : L.life = S.life) (hb : L.begun = false) (hz : ∀ j, j < L.n → S.now (L.f + 2 + j) = zs 512) :
    Calls Tryz.prog 16 #[.pointer (some ⟨l, 0, none⟩)] w fun e w' => ∃ S', e = .returned (.int .i64 0) ∧ DiskR w' (more F w w') p s S' ∧ LogP w' l p { L with begun := true, ep := L.top + 1, tail := 0, head := 0 } ∧ Keeps (fun k => F k ∨ k = l) w w' ∧ Inv S' s [{ L with begun := true, ep := L.top + 1, tail := 0, head := 0 }] t ∧ S'.fuse = -1 ∧ S'.life = S.life ∧ Snd S' L.f L.n ((L.top + 1) * 4294967296) (L.top + 1) := by
  obtain ⟨z1, z2, z3, z4⟩ := start_calm (i := 0) hi rfl hf ha hb
  have z5 := Snd.start (i := 0) hi rfl hf ha hb (fun j hj => by rw [hz j hj, fresh_piece.2]; exact Nat.zero_le _)
  refine (Start_any h hl (hi.at (i := 0) rfl).1 hF hi.byt (by have := hi.p6; omega)).mono ?_
  rintro e w' ⟨rfl, h2, h3, h4⟩
  have hI := hi.start (i := 0) rfl h2.ok
  rw [z4] at h3 hI
  exact ⟨_, by rw [z1], h2, h3, h4, hI, z2, z3, z5⟩

set_option maxRecDepth 20000 in
set_option maxHeartbeats 4000000 in
theorem freshN_any {n : Nat} (h18 : 18 ≤ n) (h256 : n ≤ 256) (w : World) : Calls Tryz.prog 4 #[.int .i64 (n : Int)] w fun e w' => ∃ F p l S L, e = .returned (.tuple #[.pointer (some ⟨p, 0, none⟩), .pointer (some ⟨l, 0, none⟩)]) ∧ Live w w' F p l n S L ∧ L.tail = 0 ∧ L.head = 0 ∧ Snd S 0 n (2 * 4294967296) 2 := by
  have h1 := new_ok (n + 2) w (by omega) (by omega)
  rw [show ((n + 2 : Nat) : Int) = (n : Int) + 2 by omega] at h1
  go_enter Tryz.func4, Tryz.ntmps4
  go_wp2_with fail
  refine h1.mono ?_
  rintro e w1 ⟨p, rfl, hd1, hb1⟩
  have hd1 := hd1.r
  have i1 := inv_freshN hd1
  have hf1 : (DS.fresh (List.replicate ((n + 2) * 512) 0)).fuse = -1 := rfl
  generalize DS.fresh (List.replicate ((n + 2) * 512) 0) = S1 at *
  obtain ⟨F1, hF1⟩ : ∃ F1, F1 = (fun k => w.heap.size ≤ k ∧ k < w1.heap.size) := ⟨_, rfl⟩
  rw [← hF1] at hd1
  have hlo1 : ∀ k, F1 k → w.heap.size ≤ k := fun k hk => by rw [hF1] at hk; exact hk.1
  obtain ⟨z1, z2, z3, z4⟩ := format_calm (a := 0) (b := n) i1 (by omega) hf1 (by omega) h18 h256
  rw [show ((0 : Nat) : Int) = 0 from rfl] at z1 z2 z3 z4
  have h2 := Format_any hd1 i1.byt 0 (n : Int) (by have := i1.p6; omega)
  rw [z1] at h2
  have HI1 := Hid.mk i1
  have HLo1 := Hid.mk hlo1
  have HB1 := Hid.mk hb1
  have hz1 := hb1.size
  have HZ := Hid.mk (And.intro z2 (And.intro z3 z4))
  clear h1 hF1 z1 z2 z3 z4 hf1 i1 hd1 hb1 hlo1
  go_wp2_with fail
  refine h2.mono ?_
  rintro e w2 ⟨rfl, hd2, hk2⟩
  have i2 := HI1.out.format (by omega) 0 (n : Int) hd2.ok
  have hz2 := hk2.size
  have HB2 : Hid (Below w.heap.size w w2) := HB1.out.trans (hk2.below HLo1.out hz1)
  have hlo2 : ∀ k, more F1 w1 w2 k → w.heap.size ≤ k := fun k hk => by
    rcases hk with hk | hk
    · exact HLo1.out k hk
    · omega
  have h3 := open_freshN h18 h256 hd2 i2 (by omega) HZ.out.1 HZ.out.2.1 HZ.out.2.2
  have HLt := Hid.mk hd2.lt
  have HLo2 := Hid.mk hlo2
  clear h2 hd2 hk2 i2 hlo2
  generalize more F1 w1 w2 = F2 at *
  go_wp2_with fail
  refine h3.mono ?_
  rintro e w3 ⟨l, a, c, S3, L3, rfl, hll, hlp, hd3, hk3, i3, hf3, hl3, hb3, ht3, hn3, hf0, hzz⟩
  have hz3 := hk3.size
  have hFl : ¬ F2 l := fun hf => by have := HLt.out _ hf; omega
  have h4 := start_freshN hd3 hlp hFl i3 hf3 hl3 hb3 (by rw [hn3, hf0]; exact hzz)
  have HB3 : Hid (Below w.heap.size w w3) := HB2.out.trans (hk3.below HLo2.out (by omega))
  have HLl := Hid.mk hlp.lt
  have HA := Hid.mk (And.intro hl3 (And.intro ht3 (And.intro hn3 hf0)))
  have HFl := Hid.mk hFl
  clear h3 hd3 hk3 i3 hf3 hl3 hb3 ht3 hn3 hlp hFl hf0 hzz
  go_wp2_with fail
  refine h4.mono ?_
  rintro e w4 ⟨S4, rfl, hd4, hlp4, hk4, i4, hf4, hl4, hs4⟩
  have HF : Hid (Live w w4 (more F2 w3 w4) p l n S4 { L3 with begun := true, ep := L3.top + 1, tail := 0, head := 0 } ∧ Snd S4 0 n (2 * 4294967296) 2) := by
    refine ⟨⟨hd4, hlp4, fun hm => ?_, fun k hk => ?_, by omega, HB3.out.trans (hk4.below (fun k hk => ?_) (by omega)), i4, hf4, HA.out.1.trans hl4.symm, rfl, by show L3.top + 1 = 2; rw [HA.out.2.1], HA.out.2.2.1, HA.out.2.2.2⟩, ?_⟩
    · rcases hm with hm | hm
      · exact HFl.out hm
      · have := HLl.out; omega
    · rcases hk with hk | hk
      · exact HLo2.out k hk
      · omega
    · rcases hk with hk | hk
      · exact HLo2.out k hk
      · omega
    · rw [HA.out.2.1, HA.out.2.2.1, HA.out.2.2.2] at hs4
      exact hs4
  clear h4 hd4 hlp4 hk4 i4 hf4 hl4 hs4
  go_wp2
  go_ret2
  exact ⟨_, _, _, _, _, rfl, HF.out.1, rfl, rfl, HF.out.2⟩

section
variable {w wr w' : World} {F : Nat → Prop} {p l n : Nat} {S S' : DS} {L L' : LG}

theorem Live.next (h : Live w wr F p l n S L) (hd : DiskR w' (more F wr w') p (n + 2) S') (hl : LogP w' l p L') (hk : Keeps (fun k => F k ∨ k = l) wr w') (hi : Inv S' (n + 2) [L'] 3) (hf : S'.fuse = -1) (hlf : S'.life = S.life) (ha : L'.life = L.life) (hb : L'.begun = true) (he : L'.ep = 2) (hn : L'.n = L.n) (h0 : L'.f = L.f) : Live w w' (more F wr w') p l n S' L' := by
  have hz := h.b.size
  refine ⟨hd, hl, fun hm => ?_, fun k hk => ?_, h.lo, h.b.trans (hk.below (fun k hk => ?_) hz), hi, hf, by rw [ha, hlf, h.a], hb, he, hn.trans h.n', h0.trans h.f0⟩
  · rcases hm with hm | hm
    · exact h.nf hm
    · have := h.lp.lt; omega
  · rcases hk with hk | hk
    · exact h.fF k hk
    · omega
  · rcases hk with hk | hk
    · exact h.fF k hk
    · rw [hk]; exact h.lo
theorem Live.later (h : Live w wr F p l n S L) (hb : Below wr.heap.size wr w') : Live w w' F p l n S L :=
  ⟨h.d.later hb, h.lp.later hb, h.nf, h.fF, h.lo, h.b.trans (hb.mono h.b.size), h.i, h.f, h.a, h.g, h.e, h.n', h.f0⟩
theorem live_trim (h : Live w wr F p l n S L) : Calls Tryz.prog 30 #[.pointer (some ⟨l, 0, none⟩)] wr fun e w' => e = .returned (.int .i64 0) ∧ ∃ F' S', Live w w' F' p l n S' { L with tail := L.head } := by
  obtain ⟨z1, z2, z3, z4⟩ := trim_calm (i := 0) h.i rfl h.f h.a h.g
  refine (Trim_any h.d h.lp (h.i.at (i := 0) rfl).1 h.nf h.i.byt (by have := h.i.p6; omega)).mono ?_
  rintro e w' ⟨rfl, h2, h3, h4⟩
  have hI := h.i.trim (i := 0) rfl h2.ok
  rw [z4] at h3 hI
  exact ⟨by rw [z1], _, _, h.next h2 h3 h4 hI z2 z3 rfl h.g h.e rfl rfl⟩
theorem live_append (h : Live w wr F p l n S L) (a : Option Addr) (x k : Nat) (d : List Int) (hs : Src wr a x d) (hF : ∀ y, a = some y → 0 < x → ¬ F y.block) (hd : Bytes d) (hxk : x ≤ k) (hx : x ≤ 140737488355328) (h1 : 1 ≤ x) (h2 : x ≤ 8364) (hp : L.head + 17 ≤ 1073741824) :
    Calls Tryz.prog 5 #[.pointer (some ⟨l, 0, none⟩), .slice a x k] wr fun e w' => ∃ F' S', (L.head + cntOf x ≤ L.tail + n ∧ e = .returned (.int .i64 0) ∧ Live w w' F' p l n S' { L with head := L.head + cntOf x }) ∨ (L.tail + n < L.head + cntOf x ∧ e = .returned (.int .i64 40) ∧ Live w w' F' p l n S' L) := by
  have hx' := hs.1
  obtain ⟨z1, z2, z3, z4⟩ := append_room (i := 0) (d := d) h.i rfl h.f h.a h.g (by omega) (by omega) hp
  refine (Append_any h.d h.lp (h.i.at (i := 0) rfl).1 h.nf a x k d hs hF hd hxk hx (by have := h.i.p6; omega)).mono ?_
  rintro e w' ⟨rfl, h5, h6, h7⟩
  have hI := h.i.append (i := 0) (d := d) rfl hd h5.ok
  refine ⟨more F wr w', (L.append S (n + 2) d).2.1, ?_⟩
  by_cases q : L.head + cntOf x ≤ L.tail + n
  · left
    obtain ⟨e1, e2⟩ := z3 (by rw [hx', h.n']; exact q)
    rw [e2] at h6 hI
    rw [hx'] at h6 hI
    exact ⟨q, by rw [e1], h.next h5 h6 h7 hI z1 z2 rfl h.g h.e rfl rfl⟩
  · right
    obtain ⟨e1, e2⟩ := z4 (by rw [hx', h.n']; omega)
    rw [e2] at h6 hI
    exact ⟨by omega, by rw [e1], h.next h5 h6 h7 hI z1 z2 rfl h.g h.e rfl rfl⟩
theorem live_room (h : Live w wr F p l n S L) : Calls Tryz.prog 31 #[.pointer (some ⟨l, 0, none⟩)] wr fun e w' => e = .returned (.tuple #[.int .i64 ((n : Int) - ((L.head : Int) - (L.tail : Int))), .int .i64 0]) ∧ Live w w' F p l n S L ∧ Below wr.heap.size wr w' := by
  refine (Room_any h.d h.lp (h.i.at (i := 0) rfl).1).mono ?_
  rintro e w' ⟨rfl, hb⟩
  refine ⟨?_, h.later hb, hb⟩
  unfold LG.room
  rw [if_neg (by rw [ready_yes h.f h.a h.g]; decide), h.n']
theorem live_marks (h : Live w wr F p l n S L) : Calls Tryz.prog 32 #[.pointer (some ⟨l, 0, none⟩)] wr fun e w' => e = .returned (.tuple #[.int .i64 2, .int .i64 (L.tail : Int), .int .i64 (L.head : Int), .int .i64 0]) ∧ Live w w' F p l n S L ∧ Below wr.heap.size wr w' := by
  refine (Marks_any h.d h.lp).mono ?_
  rintro e w' ⟨rfl, hb⟩
  refine ⟨?_, h.later hb, hb⟩
  rw [if_neg (by rw [alive_no h.f h.a]; decide), h.e]
  rfl
theorem live_sync (h : Live w wr F p l n S L) : Calls Tryz.prog 7 #[.pointer (some ⟨l, 0, none⟩)] wr fun e w' => e = .returned (.int .i64 0) ∧ ∃ F', Live w w' F' p l n (S.fl (n + 2)).2 L := by
  obtain ⟨z1, z2⟩ := sync_calm (s := n + 2) h.f h.a h.g
  refine (Sync_any h.d h.lp h.nf (by have := h.i.p6; omega)).mono ?_
  rintro e w' ⟨rfl, h2, h3, h4⟩
  have hI := h.i.sync (i := 0) (L := L) rfl
  rw [z1] at h2 hI
  exact ⟨by rw [z1, z2], _, h.next h2.more h3 (h4.mono (fun _ h => .inl h)) hI (fl_calm h.f _) (fl_life _ _) rfl h.g h.e rfl rfl⟩
end
end Go.Proofs.YtkelfidmpnapoaaGreat
end

section
namespace Go.Proofs.YtkelfidmpnapoaaGreat
open Go.RowKit

/-- What age answers. -/
def AgeOut (n : Nat) (e : Ending) : Prop := (n = 0 ∧ e = .returned (.int .i64 (-1))) ∨ ∃ i : Nat, i < n ∧ e = .returned (.int .i64 (i : Int))
theorem RecsAt.form {W : World} {B : Nat} {v : Value} {rs : List (List Int)} {X : Nat → Prop} (h : RecsAt W B v rs X) : ∃ a c, v = .slice a rs.length c ∧ ∀ i (hi : i < rs.length), ∃ b g x y, a = some ⟨b, 0, none⟩ ∧ W.cell? ⟨b, i, none⟩ = some (.slice (some ⟨g, 0, none⟩) (rs[i]).length y) ∧ Src W (some ⟨g, 0, none⟩) (rs[i]).length rs[i] ∧ x = g ∧ b < W.heap.size := by
  obtain ⟨vs, h1, h2⟩ := h
  by_cases h0 : rs.length = 0
  · obtain ⟨hl, ⟨rfl, h3⟩ | ⟨g, cap, cur, rfl, hg, hb, h4⟩⟩ := h1
    · exact ⟨none, 0, by rw [h0], fun i hi => by omega⟩
    · exact ⟨_, _, rfl, fun i hi => by omega⟩
  · obtain ⟨g, c, rfl, hg, hr, _⟩ := RowAt.of_owns h1 (by
      intro e
      obtain ⟨hl, ⟨rfl, h3⟩ | ⟨g, cap, cur, rfl, hg, hb, h4⟩⟩ := h1
      · exact h0 h3
      · cases e)
    refine ⟨_, _, rfl, fun i hi => ?_⟩
    obtain ⟨g2, c2, e1, e2, e3, _⟩ := h2 i hi
    exact ⟨g, g2, g2, c2, rfl, hr.cell e1, by have := e2.src; simpa using this, rfl, hr.lt⟩

set_option maxRecDepth 20000 in
set_option maxHeartbeats 2000000 in
theorem alike_any {w : World} {B B' : Nat} {v u : Value} {rs : List (List Int)} {X X' : Nat → Prop} (h1 : RecsAt w B v rs X) (h2 : RecsAt w B' u rs X') (hn : rs.length ≤ 1000000) (hl : ∀ i (hi : i < rs.length), (rs[i]).length ≤ 1000000) :
    Calls Tryz.prog 14 #[v, u] w fun e w' => e = .returned (.bool true) ∧ Below w.heap.size w w' := by
  obtain ⟨a, c, rfl, k1⟩ := h1.form
  obtain ⟨a', c', rfl, k2⟩ := h2.form
  have H1 := Hid.mk k1
  have H2 := Hid.mk k2
  clear h1 h2 k1 k2
  go_enter Tryz.func14, Tryz.ntmps14
  go_wp2
  go_loopw [5] (fun i wr => ∃ j : Nat, j ≤ rs.length ∧ i = .int .i64 (j : Int) ∧ Below w.heap.size w wr) (fun i _ => rs.length - (intOf i).toNat)
  case atStart => exact ⟨0, Nat.zero_le _, rfl, Below.refl _ _⟩
  case round =>
    obtain ⟨j, hj, rfl, hbr⟩ := hrel
    have HB := Hid.mk hbr
    have hz := hbr.size
    by_cases hlt : j < rs.length
    · have hlt' : (j : Int) < (rs.length : Int) := by omega
      obtain ⟨b, g, x, y, rfl, c1, s1, _, hb1⟩ := H1.out j hlt
      obtain ⟨b', g', x', y', rfl, c2, s2, _, hb2⟩ := H2.out j hlt
      have c1 := cell_later hbr c1
      have c2 := cell_later hbr c2
      have h3 := same_any (some ⟨g, 0, none⟩) (some ⟨g', 0, none⟩) (rs[j]).length y y' rs[j] wr.drew (by have := hl j hlt; omega) ((s1.later hbr).later (below_drew (Below.refl wr.heap.size wr))) ((s2.later hbr).later (below_drew (Below.refl wr.heap.size wr)))
      clear hbr s1 s2
      go_wp2_with fail
      go_region_held3 (fun w' => w'.cell? ⟨b, j, none⟩ = some (.slice (some ⟨g, 0, none⟩) (rs[j]).length y) ∧ w'.cell? ⟨b', j, none⟩ = some (.slice (some ⟨g', 0, none⟩) (rs[j]).length y'))
        (first | exact ⟨c1, c2⟩ | exact ⟨cell_later hw1 c1, cell_later hw1 c2⟩)
        ((go_at_call 33; refine h3.mono ?_; rintro e w1 ⟨rfl, hw1⟩))
      have HB1 : Hid (Below w.heap.size w w1) := HB.out.trans ((below_drew (Below.refl wr.heap.size wr)).trans hw1 |>.mono hz)
      clear h3 hw1
      go_wp2
      go_roundw
      case rel => exact ⟨j + 1, by omega, by go_num, HB1.out⟩
      case measure => simp [intOf]; omega
    · obtain rfl : j = rs.length := by omega
      have hge : ¬ (rs.length : Int) < (rs.length : Int) := by omega
      go_wp2
      go_ret
      exact ⟨rfl, HB.out⟩
end Go.Proofs.YtkelfidmpnapoaaGreat
end
