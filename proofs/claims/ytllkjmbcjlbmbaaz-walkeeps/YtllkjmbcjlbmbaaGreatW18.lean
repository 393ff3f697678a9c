import Derived.Test.YtllkjmbcjlbmbaaGreatW17
section
namespace Go.Proofs.YtllkjmbcjlbmbaaGreat
open Go.RowKit

/-- What the ring of a log says. -/
def oRing (S : DS) (f : Nat) : Nat → PC := fun i => pcOf (S.now (f + 2 + i))
def oNew (S : DS) (f : Nat) : Nat × Nat × Nat := lnewest (S.now f) (S.now (f + 1))
def oTop (S : DS) (f n : Nat) : Nat := max (oNew S f).1 (rtop (oRing S f) n)
theorem oNew_ok {S : DS} {f : Nat} (h : (oNew S f).2.2 = 0) : 1 ≤ (oNew S f).1 ∧ (oNew S f).1 ≤ 1073741824 ∧ (oNew S f).2.1 ≤ 1073741824 := by
  unfold oNew lnewest at *
  split at h
  · cases h
  · rename_i h1
    rw [if_neg h1]
    refine ⟨?_, ?_, ?_⟩ <;> simp only <;> omega
theorem oTop_le {S : DS} {f n : Nat} (h : (oNew S f).2.2 = 0) : oTop S f n ≤ 1073741824 := by
  unfold oTop
  have := oNew_ok h
  have := rtop_le (oRing S f) n
  omega

/-- What is told of a log whose anchor and ring are sound. -/
structure Told (w' : World) (B l p : Nat) (L : LG) (S : DS) (v : Value) (rs : List (List Int)) (hd : Nat) : Prop where
  r : RecsAt w' B v rs (fun _ => False)
  t : Tells (Rp (oRing S L.f) L.n) (oNew S L.f).1 (oNew S L.f).2.1 rs hd
  x : ∀ c d, ¬ Rec (Rp (oRing S L.f) L.n) (oNew S L.f).1 hd c d
  p : LogP w' l p { L with ep := (oNew S L.f).1, tail := (oNew S L.f).2.1, head := hd, top := oTop S L.f L.n }
def Recalled (w' : World) (B l p : Nat) (L : LG) (S : DS) (e : Ending) : Prop :=
  if (oNew S L.f).2.2 ≠ 0 then e = .returned (.tuple #[.slice none 0 0, .int .i64 ((oNew S L.f).2.2 : Int)])
  else if oTop S L.f L.n = 1073741824 then e = .returned (.tuple #[.slice none 0 0, .int .i64 41])
  else ∃ v rs hd, e = .returned (.tuple #[v, .int .i64 0]) ∧ Told w' B l p L S v rs hd

theorem LogP.topped {w : World} {l p : Nat} {L : LG} (h : LogP w l p L) (T : Int) (n : Nat) (hT : T = (n : Int)) : LogP (w.setCell ⟨l, 8, none⟩ (.int .i64 T)) l p { L with top := n } := by
  subst hT
  exact (heap_setCell_same _ _ 8 _ _ _ h).trans (by simp)
theorem LogP.marked {w : World} {l p : Nat} {L : LG} (h : LogP w l p L) (E T H : Nat) : LogP (((w.setCell ⟨l, 5, none⟩ (.int .i64 (E : Int))).setCell ⟨l, 6, none⟩ (.int .i64 (T : Int))).setCell ⟨l, 7, none⟩ (.int .i64 (H : Int))) l p { L with ep := E, tail := T, head := H } :=
  (heap_setCell_same _ _ 7 _ _ _ (heap_setCell_same _ _ 6 _ _ _ (heap_setCell_same _ _ 5 _ _ _ h))).trans (by simp)

section
variable {w : World} {F : Nat → Prop} {p s l : Nat} {S : DS} {L : LG}

theorem ring_o (h : DiskR w F p s S) (hby : S.Byt) (f n : Nat) (hfn : f + 2 + n ≤ s) (hn1 : 1 ≤ n) (hn : n ≤ 256) (hf : S.fuse ≠ 0) (hbig : S.puts.length + 1 ≤ 4000000000000) :
    Calls Tryz.prog 68 #[areaV p f n] w fun e w' => ∃ v, e = .returned (.tuple #[v, .int .i64 0]) ∧ RingOut w.heap.size w' n (oRing S f) v ∧ DiskR w' F p s S ∧ Keeps F w w' := ring_any h hby f n hfn hn1 hn hf hbig

set_option maxRecDepth 20000 in
set_option maxHeartbeats 8000000 in
theorem recall_any (h : DiskR w F p s S) (hl : LogP w l p L) (hF : ¬ F l) (hby : S.Byt) (hs : L.f + 2 + L.n ≤ s) (hn1 : 1 ≤ L.n) (hn : L.n ≤ 256) (hf : S.fuse ≠ 0) (hbig : S.puts.length + 1 ≤ 4000000000000) :
    Calls Tryz.prog 44 #[.pointer (some ⟨l, 0, none⟩)] w fun e w' => Recalled w' w.heap.size l p L S e ∧ DiskR w' F p s S ∧ Keeps (fun k => F k ∨ k = l) w w' := by
  have h1 := dnewest h L.f L.n hbig hf (by omega) (hby.now _) (hby.now _)
  have HLt := Hid.mk h.lt
  have HL := Hid.mk hl
  have hlt := hl.lt
  have c0 := hl.c0
  have c1 := hl.c1
  have c2 := hl.c2
  have HRs := Hid.mk (fun i => pcOf_small (hby.now (L.f + 2 + i)))
  have hR := fun w1 (hd1 : DiskR w1 F p s S) => ring_o hd1 hby L.f L.n hs hn1 hn hf hbig
  have HO := Hid.mk (oNew_ok (S := S) (f := L.f))
  unfold Recalled
  change Calls _ _ _ _ (fun e w' => e = .returned (.tuple #[.int .i64 ((oNew S L.f).1 : Int), .int .i64 ((oNew S L.f).2.1 : Int), .int .i64 ((oNew S L.f).2.2 : Int)]) ∧ DiskR w' F p s S ∧ Keeps F w w') at h1
  clear h hl hby hs hf
  by_cases k0 : (oNew S L.f).2.2 = 0
  · rw [k0] at h1
    have ho := HO.out k0
    have HTo := Hid.mk (oTop_le (n := L.n) k0)
    simp only [if_neg (fun h : ¬ (oNew S L.f).2.2 = 0 => h k0)]
    clear k0 HO
    by_cases k1 : oTop S L.f L.n = 1073741824
    · simp only [if_pos k1]
      have d1 : (max ((oNew S L.f).1 : Int) (rtop (oRing S L.f) L.n : Int) == 1073741824) = true := by unfold oTop at k1; rw [beq_iff_eq]; omega
      clear k1
      go_enter Tryz.func44, Tryz.ntmps44
      go_wp2_with fail
      refine h1.mono ?_
      rintro e w1 ⟨rfl, hd1, hk1⟩
      have hl1 := HL.out.keep hk1 hF
      have c0 := hl1.c0
      have c1 := hl1.c1
      have c2 := hl1.c2
      have h2 := hR w1 hd1
      have HK1 := Hid.mk hk1
      have HL1 := Hid.mk hl1
      clear h1 hd1 hk1 hl1 hR
      go_wp2_with fail
      refine h2.mono ?_
      rintro e w2 ⟨v, rfl, ⟨g, B, rfl, hg, hgB, hr⟩, hd2, hk2⟩
      have h3 := top_any hr hn
      have HR := Hid.mk hr
      have HK2 := Hid.mk hk2
      have HD2 := Hid.mk hd2
      have HL2 := Hid.mk (HL1.out.keep hk2 hF)
      clear h2 hd2 hk2 hr
      go_wp2_with fail
      refine h3.mono ?_
      rintro e w3 ⟨rfl, hb3⟩
      have hl3 := HL2.out.later hb3
      have c5 := hl3.c5
      have c6 := hl3.c6
      have c7 := hl3.c7
      have c8 := hl3.c8
      have f5 := hl3.fz 5
      have f6 := hl3.fz 6
      have f7 := hl3.fz 7
      have f8 := hl3.fz 8
      have hk3 : Keeps (fun k => F k ∨ k = l) w (w3.setCell ⟨l, 8, none⟩ (.int .i64 (max ((oNew S L.f).1 : Int) (rtop (oRing S L.f) L.n : Int)))) := (((HK1.out.trans HK2.out (fun _ h => .inl h)).trans (Keeps.of_below (fun _ => False) hb3) (fun _ h => h.elim)).mono (fun _ h => .inl h)).trans (keeps_set (F := fun k => F k ∨ k = l) w3 (.inr rfl) 8 _) (fun _ h => .inl h)
      have hd3 : DiskR (w3.setCell ⟨l, 8, none⟩ (.int .i64 (max ((oNew S L.f).1 : Int) (rtop (oRing S L.f) L.n : Int)))) F p s S := (HD2.out.later hb3).keep (keeps_set (F := fun k => k = l) w3 rfl 8 _) (fun k hk e => hF (e ▸ hk))
      have HZ := Hid.mk (And.intro hd3 hk3)
      clear h3 hk3 hd3 hl3
      go_wp2_with fail
      go_ret2
      exact ⟨rfl, HZ.out⟩
    · simp only [if_neg k1]
      have d1 : (max ((oNew S L.f).1 : Int) (rtop (oRing S L.f) L.n : Int) == 1073741824) = false := by unfold oTop at k1; rw [beq_eq_false_iff_ne]; omega
      clear k1
      go_enter Tryz.func44, Tryz.ntmps44
      go_wp2_with fail
      refine h1.mono ?_
      rintro e w1 ⟨rfl, hd1, hk1⟩
      have hl1 := HL.out.keep hk1 hF
      have c0 := hl1.c0
      have c1 := hl1.c1
      have c2 := hl1.c2
      have h2 := hR w1 hd1
      have HK1 := Hid.mk hk1
      have HL1 := Hid.mk hl1
      clear h1 hd1 hk1 hl1 hR
      go_wp2_with fail
      refine h2.mono ?_
      rintro e w2 ⟨v, rfl, ⟨g, B, rfl, hg, hgB, hr⟩, hd2, hk2⟩
      have h3 := top_any hr hn
      have HR := Hid.mk hr
      have HK2 := Hid.mk hk2
      have HD2 := Hid.mk hd2
      have HL2 := Hid.mk (HL1.out.keep hk2 hF)
      clear h2 hd2 hk2 hr
      go_wp2_with fail
      refine h3.mono ?_
      rintro e w3 ⟨rfl, hb3⟩
      have hl3 := HL2.out.later hb3
      have c5 := hl3.c5
      have c6 := hl3.c6
      have c7 := hl3.c7
      have c8 := hl3.c8
      have f5 := hl3.fz 5
      have f6 := hl3.fz 6
      have f7 := hl3.fz 7
      have f8 := hl3.fz 8
      have hk3 : Keeps (fun k => F k ∨ k = l) w (w3.setCell ⟨l, 8, none⟩ (.int .i64 (max ((oNew S L.f).1 : Int) (rtop (oRing S L.f) L.n : Int)))) := (((HK1.out.trans HK2.out (fun _ h => .inl h)).trans (Keeps.of_below (fun _ => False) hb3) (fun _ h => h.elim)).mono (fun _ h => .inl h)).trans (keeps_set (F := fun k => F k ∨ k = l) w3 (.inr rfl) 8 _) (fun _ h => .inl h)
      have hd3 : DiskR (w3.setCell ⟨l, 8, none⟩ (.int .i64 (max ((oNew S L.f).1 : Int) (rtop (oRing S L.f) L.n : Int)))) F p s S := (HD2.out.later hb3).keep (keeps_set (F := fun k => k = l) w3 rfl 8 _) (fun k hk e => hF (e ▸ hk))
      have hz3 : w2.heap.size ≤ w3.heap.size := hb3.size
      have hgw : w1.heap.size ≤ g := hg
      have hz1 : w.heap.size ≤ w1.heap.size := HK1.out.size
      have hr3 := (HR.out.keep (Keeps.of_below (fun _ => False) hb3) (fun h => h) (fun _ h => h.elim)).keep (keeps_set (F := fun k => k = l) w3 rfl 8 (.int .i64 (max ((oNew S L.f).1 : Int) (rtop (oRing S L.f) L.n : Int)))) (by omega) (fun k hk => by omega)
      have h4 := scan_any g L.n (oNew S L.f).1 (oNew S L.f).2.1 (oRing S L.f) _ B hr3 hn1 hn ho.2.2 ho.2.1 (fun i => (HRs.out i).2.2.2.2.1) (fun i => by have := (HRs.out i).2.2.2.1; unfold oRing; omega)
      have HL3 := Hid.mk (hl3.topped (max ((oNew S L.f).1 : Int) (rtop (oRing S L.f) L.n : Int)) (oTop S L.f L.n) (by unfold oTop; omega))
      have HZ := Hid.mk (And.intro hd3 hk3)
      clear h3 hk3 hd3 hl3 hr3
      go_wp2_with fail
      refine h4.mono ?_
      rintro e w4 ⟨v, hd, rs, rfl, hrs, ht, hx, hb4⟩
      have hl4 := HL3.out.later hb4
      have c5 := hl4.c5
      have c6 := hl4.c6
      have c7 := hl4.c7
      have f5 := hl4.fz 5
      have f6 := hl4.fz 6
      have f7 := hl4.fz 7
      have hz4 := hb4.size
      have hzs : w.heap.size ≤ (w3.setCell ⟨l, 8, none⟩ (.int .i64 (max ((oNew S L.f).1 : Int) (rtop (oRing S L.f) L.n : Int)))).heap.size := HZ.out.2.size
      have hks := ((keeps_set (F := fun k => k = l) w4 rfl 5 (.int .i64 ((oNew S L.f).1 : Int))).trans (keeps_set (F := fun k => k = l) _ rfl 6 (.int .i64 ((oNew S L.f).2.1 : Int))) (fun _ h => .inl h)).trans (keeps_set (F := fun k => k = l) _ rfl 7 (.int .i64 (hd : Int))) (fun _ h => .inl h)
      have HE := Hid.mk (And.intro (Told.mk ((((hrs.setb (b := l) (by omega) 5 (.int .i64 ((oNew S L.f).1 : Int))).setb (b := l) (by omega) 6 (.int .i64 ((oNew S L.f).2.1 : Int))).setb (b := l) (by omega) 7 (.int .i64 (hd : Int))).low hzs (fun _ h => h)) ht hx (hl4.marked (oNew S L.f).1 (oNew S L.f).2.1 hd)) (And.intro ((HZ.out.1.later hb4).keep hks (fun k hk e => hF (e ▸ hk))) ((HZ.out.2.trans (Keeps.of_below (fun _ => False) hb4) (fun _ h => h.elim)).trans (hks.mono (G := fun k => F k ∨ k = l) (fun _ h => .inr h)) (fun _ h => .inl h))))
      clear h4 hrs ht hx hb4 hl4 hks
      go_wp2_with fail
      go_ret2
      exact ⟨⟨_, _, _, rfl, HE.out.1⟩, HE.out.2⟩
  · have d0 : (((oNew S L.f).2.2 : Int) == 0) = false := by rw [beq_eq_false_iff_ne]; omega
    simp only [if_pos (fun h => k0 h : ¬ (oNew S L.f).2.2 = 0)]
    clear k0 HO hR
    go_enter Tryz.func44, Tryz.ntmps44
    go_wp2_with fail
    refine h1.mono ?_
    rintro e w1 ⟨rfl, hd1, hk1⟩
    have HZ := Hid.mk (And.intro hd1 (hk1.mono (G := fun k => F k ∨ k = l) (fun _ h => .inl h)))
    clear h1 hd1 hk1
    go_wp2_with fail
    go_ret2
    exact ⟨rfl, HZ.out⟩
end
end Go.Proofs.YtllkjmbcjlbmbaaGreat
end

section
namespace Go.Proofs.YtllkjmbcjlbmbaaGreat
open Go.RowKit

/-- What Open does to a disk, and its error. -/
def lopen (S : DS) (s : Nat) (f n : Int) : Int × DS :=
  if lrefuse S s f n ≠ 0 then (lrefuse S s f n, S) else if (oNew S f.toNat).2.2 ≠ 0 then (((oNew S f.toNat).2.2 : Int), S.take)
  else if oTop S f.toNat n.toNat = 1073741824 then (41, S.take) else S.take.fl s
/-- The log that is opened. -/
def LG.new (S : DS) (f n : Nat) : LG := ⟨f, n, wrap64 (S.life + 1), false, 0, 0, 0, 0⟩
def Opened (w w' : World) (p s : Nat) (S : DS) (f n : Int) (e : Ending) : Prop :=
  if (lopen S s f n).1 ≠ 0 then e = .returned (.tuple #[.pointer none, .slice none 0 0, .int .i64 (lopen S s f n).1])
  else ∃ l v rs hd, e = .returned (.tuple #[.pointer (some ⟨l, 0, none⟩), v, .int .i64 0]) ∧ w.heap.size ≤ l ∧ Told w' w.heap.size l p (LG.new S f.toNat n.toNat) S v rs hd
theorem Told.low {w : World} {B B' l p : Nat} {L : LG} {S : DS} {v : Value} {rs : List (List Int)} {hd : Nat} (h : Told w B l p L S v rs hd) (hB : B' ≤ B) : Told w B' l p L S v rs hd := ⟨h.r.low hB (fun _ h => h), h.t, h.x, h.p⟩
theorem Told.keep {w w' : World} {B l p : Nat} {L : LG} {S : DS} {v : Value} {rs : List (List Int)} {hd : Nat} {F : Nat → Prop} (h : Told w B l p L S v rs hd) (hk : Keeps F w w') (hF : ∀ k, F k → k < B) (hl : ¬ F l) : Told w' B l p L S v rs hd := by
  refine ⟨?_, h.t, h.x, h.p.keep hk hl⟩
  obtain ⟨vs, h1, h2⟩ := h.r
  refine ⟨vs, owns_agree h1 (fun g hg => ?_), fun i hi => ?_⟩
  · obtain ⟨cur, hc⟩ := owns_block h1 hg
    exact hk.block g (lt_there hc) (fun hf => by have := own_lo h1 hg; have := hF _ hf; omega)
  · obtain ⟨g, c, e, hr, hb, hx⟩ := h2 i hi
    exact ⟨g, c, e, hr.agree (hk.block g hr.lt (fun hf => by have := hF _ hf; omega)), hb, hx⟩

section
variable {w : World} {F : Nat → Prop} {p s : Nat} {S : DS}

theorem Told.took {w : World} {B l p : Nat} {L : LG} {v : Value} {rs : List (List Int)} {hd : Nat} (h : Told w B l p L S.take v rs hd) : Told w B l p L S v rs hd := ⟨h.r, h.t, h.x, h.p⟩
theorem Recalled.took {w' : World} {B l a b : Nat} {e : Ending} (h : Recalled w' B l p (LG.new S a b) S.take e) : if (oNew S a).2.2 ≠ 0 then e = .returned (.tuple #[.slice none 0 0, .int .i64 ((oNew S a).2.2 : Int)])
  else if oTop S a b = 1073741824 then e = .returned (.tuple #[.slice none 0 0, .int .i64 41])
  else ∃ v rs hd, e = .returned (.tuple #[v, .int .i64 0]) ∧ Told w' B l p (LG.new S a b) S v rs hd := by
  unfold Recalled at h
  change if (oNew S a).2.2 ≠ 0 then e = .returned (.tuple #[.slice none 0 0, .int .i64 ((oNew S a).2.2 : Int)])
    else if oTop S a b = 1073741824 then e = .returned (.tuple #[.slice none 0 0, .int .i64 41])
    else ∃ v rs hd, e = .returned (.tuple #[v, .int .i64 0]) ∧ Told w' B l p (LG.new S a b) S.take v rs hd at h
  split at h
  · rename_i h1; rw [if_pos h1]; exact h
  · rename_i h1
    rw [if_neg h1]
    split at h
    · rename_i h2; rw [if_pos h2]; exact h
    · rename_i h2
      rw [if_neg h2]
      obtain ⟨v, rs, hd, e, ht⟩ := h
      exact ⟨v, rs, hd, e, ht.took⟩

set_option maxRecDepth 20000 in
set_option maxHeartbeats 8000000 in
theorem Open_any (h : DiskR w F p s S) (hby : S.Byt) (f n : Int) (hbig : S.puts.length + 500 ≤ 4000000000000) :
    Calls Tryz.prog 18 #[.pointer (some ⟨p, 0, none⟩), .int .i64 f, .int .i64 n] w fun e w' => Opened w w' p s S f n e ∧ DiskR w' F p s (lopen S s f n).2 ∧ Keeps F w w' := by
  have HL := Hid.mk h.lt
  have hFb : ¬ F w.heap.size := fun h1 => by have := h.lt _ h1; omega
  have HB := Hid.mk (below_box w (.cells #[.pointer (some ⟨p, 0, none⟩), .int .i64 f, .int .i64 n] 63))
  have hx0 : (w.alloc (.cells #[.pointer (some ⟨p, 0, none⟩), .int .i64 f, .int .i64 n] 63)).heap[w.heap.size]? = some (.cells #[.pointer (some ⟨p, 0, none⟩), .int .i64 f, .int .i64 n] 63 (0, 0)) := heap_alloc_new _ _
  have hd0 := h.boxed (.cells #[.pointer (some ⟨p, 0, none⟩), .int .i64 f, .int .i64 n] 63)
  have h1 := drefusal hd0 f n
  have HX := Hid.mk hx0
  have HD := Hid.mk hd0
  have HFb := Hid.mk hFb
  clear hx0 hd0 hFb
  unfold Opened lopen
  by_cases q : lrefuse S s f n = 0
  · simp only [if_neg (fun h : ¬ lrefuse S s f n = 0 => h q)]
    obtain ⟨hf0, a, b, rfl, rfl, hab, hb1, hb2⟩ := lrefuse_zero q
    rw [q] at h1
    simp only [Int.toNat_natCast]
    have H3 := Hid.mk (fun (w2 : World) (l : Nat) (hd2 : DiskR w2 F p s S.take) (hl : LogP w2 l p (LG.new S a b)) (hFl : ¬ F l) => (recall_any hd2 hl hFl hby.take hab (by show 1 ≤ b; omega) hb2 hf0 (by show S.puts.length + 1 ≤ _; omega)).mono (fun e w' h => And.intro h.1.took h.2))
    clear q h
    by_cases k0 : (oNew S a).2.2 = 0
    · have HK0 := Hid.mk k0
      simp only [if_neg (fun h : ¬ (oNew S a).2.2 = 0 => h k0)]
      clear k0
      by_cases k1 : oTop S a b = 1073741824
      · have HK1 := Hid.mk k1
        simp only [if_pos k1]
        simp only [if_pos (show (41 : Int) ≠ 0 by decide)]
        clear k1
        go_enter Tryz.func18, Tryz.ntmps18
        go_wp2_with fail
        refine h1.mono ?_
        rintro e w1 ⟨rfl, hb⟩
        have hx1 : w1.heap[w.heap.size]? = _ := (hb.block _ (by simp)).trans HX.out
        have c0 := cell_of_block hx1 (j := 0) rfl
        have c1 := cell_of_block hx1 (j := 1) rfl
        have c2 := cell_of_block hx1 (j := 2) rfl
        have h2 := dtake (HD.out.later (hb.trans (below_drew (Below.refl w1.heap.size w1) |>.mono hb.size)))
        have HB1 := Hid.mk (HB.out.trans (hb.mono (by simp)))
        have HX1 := Hid.mk hx1
        clear h1 hb hx1
        go_wp2_with fail
        go_region_held3 (fun w' => w'.cell? ⟨w.heap.size, 0, none⟩ = some (.pointer (some ⟨p, 0, none⟩)) ∧ w'.cell? ⟨w.heap.size, 1, none⟩ = some (.int .i64 (a : Int)) ∧ w'.cell? ⟨w.heap.size, 2, none⟩ = some (.int .i64 (b : Int)))
          (first | exact ⟨c0, c1, c2⟩ | exact ⟨cell_of_block hx2 (j := 0) rfl, cell_of_block hx2 (j := 1) rfl, cell_of_block hx2 (j := 2) rfl⟩ | exact ⟨cell_of_block (hx3 _) (j := 0) rfl, cell_of_block (hx3 _) (j := 1) rfl, cell_of_block (hx3 _) (j := 2) rfl⟩)
          ((go_at_call 43; refine h2.mono ?_; rintro e w2 ⟨rfl, hd2, hk2⟩; have hx2 := box_after (w := w1.drew) HX1.out hk2 HFb.out; have hx3 := fun o => (below_box w2 o).block _ (lt_there hx2) |>.trans hx2))
        have hz1 : w.heap.size < w1.heap.size := by have := HB1.out.size; have := lt_there HX1.out; omega
        have hz2 : w1.heap.size ≤ w2.heap.size := hk2.size
        have hl2 : LogP (w2.alloc (.cells (lgC p (LG.new S a b)) 65)) w2.heap.size p (LG.new S a b) := heap_alloc_new _ _
        have HFl := Hid.mk (fun h : F w2.heap.size => by have := HL.out _ h; omega : ¬ F w2.heap.size)
        have hkw : Keeps F w (w2.alloc (.cells (lgC p (LG.new S a b)) 65)) := ((Keeps.of_below F (below_drew HB1.out)).trans hk2 (fun _ h => .inl h)).trans (Keeps.boxed F _) (fun _ h => .inl h)
        have h3 := H3.out _ w2.heap.size (hd2.boxed (.cells (lgC p (LG.new S a b)) 65)) hl2 HFl.out
        have HKw := Hid.mk hkw
        clear h2 hd2 hk2 hx2 hx3 hl2 hkw
        go_wp2_with fail
        refine h3.mono ?_
        rintro e w3 ⟨h4, hd3, hk3⟩
        rw [if_neg (fun h => h HK0.out), if_pos HK1.out] at h4
        subst h4
        have HZ := Hid.mk (And.intro hd3 (HKw.out.trans hk3 (fun k h => h.elim .inl (fun e => .inr (by omega)))))
        clear h3 hd3 hk3
        go_wp2_with fail
        go_ret3
        exact ⟨rfl, HZ.out⟩
      · have HK1 := Hid.mk k1
        simp only [if_neg k1]
        clear k1
        have H5 := Hid.mk (fun (w3 : World) (hd3 : DiskR w3 F p s S.take) => dflush hd3 (by show S.puts.length + 1 ≤ _; omega))
        generalize S.take.fl s = Y at *
        by_cases k : Y.1 = 0
        · simp only [if_neg (fun h : ¬ Y.1 = 0 => h k)]
          have d : (Y.1 == 0) = true := by rw [beq_iff_eq]; exact k
          clear k
          go_enter Tryz.func18, Tryz.ntmps18
          go_wp2_with fail
          refine h1.mono ?_
          rintro e w1 ⟨rfl, hb⟩
          have hx1 : w1.heap[w.heap.size]? = _ := (hb.block _ (by simp)).trans HX.out
          have c0 := cell_of_block hx1 (j := 0) rfl
          have c1 := cell_of_block hx1 (j := 1) rfl
          have c2 := cell_of_block hx1 (j := 2) rfl
          have h2 := dtake (HD.out.later (hb.trans (below_drew (Below.refl w1.heap.size w1) |>.mono hb.size)))
          have HB1 := Hid.mk (HB.out.trans (hb.mono (by simp)))
          have HX1 := Hid.mk hx1
          clear h1 hb hx1
          go_wp2_with fail
          go_region_held3 (fun w' => w'.cell? ⟨w.heap.size, 0, none⟩ = some (.pointer (some ⟨p, 0, none⟩)) ∧ w'.cell? ⟨w.heap.size, 1, none⟩ = some (.int .i64 (a : Int)) ∧ w'.cell? ⟨w.heap.size, 2, none⟩ = some (.int .i64 (b : Int)))
            (first | exact ⟨c0, c1, c2⟩ | exact ⟨cell_of_block hx2 (j := 0) rfl, cell_of_block hx2 (j := 1) rfl, cell_of_block hx2 (j := 2) rfl⟩ | exact ⟨cell_of_block (hx3 _) (j := 0) rfl, cell_of_block (hx3 _) (j := 1) rfl, cell_of_block (hx3 _) (j := 2) rfl⟩)
            ((go_at_call 43; refine h2.mono ?_; rintro e w2 ⟨rfl, hd2, hk2⟩; have hx2 := box_after (w := w1.drew) HX1.out hk2 HFb.out; have hx3 := fun o => (below_box w2 o).block _ (lt_there hx2) |>.trans hx2))
          have hz1 : w.heap.size < w1.heap.size := by have := HB1.out.size; have := lt_there HX1.out; omega
          have hz2 : w1.heap.size ≤ w2.heap.size := hk2.size
          have hl2 : LogP (w2.alloc (.cells (lgC p (LG.new S a b)) 65)) w2.heap.size p (LG.new S a b) := heap_alloc_new _ _
          have HFl := Hid.mk (fun h : F w2.heap.size => by have := HL.out _ h; omega : ¬ F w2.heap.size)
          have hkw : Keeps F w (w2.alloc (.cells (lgC p (LG.new S a b)) 65)) := ((Keeps.of_below F (below_drew HB1.out)).trans hk2 (fun _ h => .inl h)).trans (Keeps.boxed F _) (fun _ h => .inl h)
          have h3 := H3.out _ w2.heap.size (hd2.boxed (.cells (lgC p (LG.new S a b)) 65)) hl2 HFl.out
          have HKw := Hid.mk hkw
          clear h2 hd2 hk2 hx2 hx3 hl2 hkw
          go_wp2_with fail
          refine h3.mono ?_
          rintro e w3 ⟨h4, hd3, hk3⟩
          rw [if_neg (fun h => h HK0.out), if_neg HK1.out] at h4
          obtain ⟨v, rs, hd, rfl, ht⟩ := h4
          have h5 := H5.out w3 hd3
          have HT := Hid.mk ht
          have HK3 := Hid.mk (HKw.out.trans hk3 (fun k h => h.elim .inl (fun e => .inr (by omega))))
          have hzA : w.heap.size ≤ (w2.alloc (.cells (lgC p (LG.new S a b)) 65)).heap.size := by simp; omega
          clear h3 hd3 hk3 ht
          go_wp2_with fail
          refine h5.mono ?_
          rintro e w4 ⟨rfl, hd4, hk4⟩
          have HZ := Hid.mk (And.intro ((HT.out.low (B' := w.heap.size) hzA).keep hk4 (fun k hk => HL.out k hk) HFl.out) (And.intro hd4 (HK3.out.trans hk4 (fun _ h => .inl h))))
          clear h5 hd4 hk4
          go_wp2_with fail
          go_ret3
          exact ⟨⟨_, _, _, _, rfl, by omega, HZ.out.1⟩, HZ.out.2⟩
        · simp only [if_pos (fun h => k h : ¬ Y.1 = 0)]
          have d : (Y.1 == 0) = false := by rw [beq_eq_false_iff_ne]; exact k
          clear k
          go_enter Tryz.func18, Tryz.ntmps18
          go_wp2_with fail
          refine h1.mono ?_
          rintro e w1 ⟨rfl, hb⟩
          have hx1 : w1.heap[w.heap.size]? = _ := (hb.block _ (by simp)).trans HX.out
          have c0 := cell_of_block hx1 (j := 0) rfl
          have c1 := cell_of_block hx1 (j := 1) rfl
          have c2 := cell_of_block hx1 (j := 2) rfl
          have h2 := dtake (HD.out.later (hb.trans (below_drew (Below.refl w1.heap.size w1) |>.mono hb.size)))
          have HB1 := Hid.mk (HB.out.trans (hb.mono (by simp)))
          have HX1 := Hid.mk hx1
          clear h1 hb hx1
          go_wp2_with fail
          go_region_held3 (fun w' => w'.cell? ⟨w.heap.size, 0, none⟩ = some (.pointer (some ⟨p, 0, none⟩)) ∧ w'.cell? ⟨w.heap.size, 1, none⟩ = some (.int .i64 (a : Int)) ∧ w'.cell? ⟨w.heap.size, 2, none⟩ = some (.int .i64 (b : Int)))
            (first | exact ⟨c0, c1, c2⟩ | exact ⟨cell_of_block hx2 (j := 0) rfl, cell_of_block hx2 (j := 1) rfl, cell_of_block hx2 (j := 2) rfl⟩ | exact ⟨cell_of_block (hx3 _) (j := 0) rfl, cell_of_block (hx3 _) (j := 1) rfl, cell_of_block (hx3 _) (j := 2) rfl⟩)
            ((go_at_call 43; refine h2.mono ?_; rintro e w2 ⟨rfl, hd2, hk2⟩; have hx2 := box_after (w := w1.drew) HX1.out hk2 HFb.out; have hx3 := fun o => (below_box w2 o).block _ (lt_there hx2) |>.trans hx2))
          have hz1 : w.heap.size < w1.heap.size := by have := HB1.out.size; have := lt_there HX1.out; omega
          have hz2 : w1.heap.size ≤ w2.heap.size := hk2.size
          have hl2 : LogP (w2.alloc (.cells (lgC p (LG.new S a b)) 65)) w2.heap.size p (LG.new S a b) := heap_alloc_new _ _
          have HFl := Hid.mk (fun h : F w2.heap.size => by have := HL.out _ h; omega : ¬ F w2.heap.size)
          have hkw : Keeps F w (w2.alloc (.cells (lgC p (LG.new S a b)) 65)) := ((Keeps.of_below F (below_drew HB1.out)).trans hk2 (fun _ h => .inl h)).trans (Keeps.boxed F _) (fun _ h => .inl h)
          have h3 := H3.out _ w2.heap.size (hd2.boxed (.cells (lgC p (LG.new S a b)) 65)) hl2 HFl.out
          have HKw := Hid.mk hkw
          clear h2 hd2 hk2 hx2 hx3 hl2 hkw
          go_wp2_with fail
          refine h3.mono ?_
          rintro e w3 ⟨h4, hd3, hk3⟩
          rw [if_neg (fun h => h HK0.out), if_neg HK1.out] at h4
          obtain ⟨v, rs, hd, rfl, ht⟩ := h4
          have h5 := H5.out w3 hd3
          have HK3 := Hid.mk (HKw.out.trans hk3 (fun k h => h.elim .inl (fun e => .inr (by omega))))
          clear h3 hd3 hk3 ht
          go_wp2_with fail
          refine h5.mono ?_
          rintro e w4 ⟨rfl, hd4, hk4⟩
          have HZ := Hid.mk (And.intro hd4 (HK3.out.trans hk4 (fun _ h => .inl h)))
          clear h5 hd4 hk4
          go_wp2_with fail
          go_ret3
          exact ⟨rfl, HZ.out⟩
    · have HK0 := Hid.mk k0
      have d0 : (((oNew S a).2.2 : Int) == 0) = false := by rw [beq_eq_false_iff_ne]; omega
      simp only [if_pos (fun h => k0 h : ¬ (oNew S a).2.2 = 0)]
      simp only [if_pos (show (((oNew S a).2.2 : Nat) : Int) ≠ 0 by omega)]
      clear k0
      go_enter Tryz.func18, Tryz.ntmps18
      go_wp2_with fail
      refine h1.mono ?_
      rintro e w1 ⟨rfl, hb⟩
      have hx1 : w1.heap[w.heap.size]? = _ := (hb.block _ (by simp)).trans HX.out
      have c0 := cell_of_block hx1 (j := 0) rfl
      have c1 := cell_of_block hx1 (j := 1) rfl
      have c2 := cell_of_block hx1 (j := 2) rfl
      have h2 := dtake (HD.out.later (hb.trans (below_drew (Below.refl w1.heap.size w1) |>.mono hb.size)))
      have HB1 := Hid.mk (HB.out.trans (hb.mono (by simp)))
      have HX1 := Hid.mk hx1
      clear h1 hb hx1
      go_wp2_with fail
      go_region_held3 (fun w' => w'.cell? ⟨w.heap.size, 0, none⟩ = some (.pointer (some ⟨p, 0, none⟩)) ∧ w'.cell? ⟨w.heap.size, 1, none⟩ = some (.int .i64 (a : Int)) ∧ w'.cell? ⟨w.heap.size, 2, none⟩ = some (.int .i64 (b : Int)))
        (first | exact ⟨c0, c1, c2⟩ | exact ⟨cell_of_block hx2 (j := 0) rfl, cell_of_block hx2 (j := 1) rfl, cell_of_block hx2 (j := 2) rfl⟩ | exact ⟨cell_of_block (hx3 _) (j := 0) rfl, cell_of_block (hx3 _) (j := 1) rfl, cell_of_block (hx3 _) (j := 2) rfl⟩)
        ((go_at_call 43; refine h2.mono ?_; rintro e w2 ⟨rfl, hd2, hk2⟩; have hx2 := box_after (w := w1.drew) HX1.out hk2 HFb.out; have hx3 := fun o => (below_box w2 o).block _ (lt_there hx2) |>.trans hx2))
      have hz1 : w.heap.size < w1.heap.size := by have := HB1.out.size; have := lt_there HX1.out; omega
      have hz2 : w1.heap.size ≤ w2.heap.size := hk2.size
      have hl2 : LogP (w2.alloc (.cells (lgC p (LG.new S a b)) 65)) w2.heap.size p (LG.new S a b) := heap_alloc_new _ _
      have HFl := Hid.mk (fun h : F w2.heap.size => by have := HL.out _ h; omega : ¬ F w2.heap.size)
      have hkw : Keeps F w (w2.alloc (.cells (lgC p (LG.new S a b)) 65)) := ((Keeps.of_below F (below_drew HB1.out)).trans hk2 (fun _ h => .inl h)).trans (Keeps.boxed F _) (fun _ h => .inl h)
      have h3 := H3.out _ w2.heap.size (hd2.boxed (.cells (lgC p (LG.new S a b)) 65)) hl2 HFl.out
      have HKw := Hid.mk hkw
      clear h2 hd2 hk2 hx2 hx3 hl2 hkw
      go_wp2_with fail
      refine h3.mono ?_
      rintro e w3 ⟨h4, hd3, hk3⟩
      rw [if_pos (fun h => HK0.out h)] at h4
      subst h4
      have HZ := Hid.mk (And.intro hd3 (HKw.out.trans hk3 (fun k h => h.elim .inl (fun e => .inr (by omega)))))
      clear h3 hd3 hk3
      go_wp2_with fail
      go_ret3
      exact ⟨rfl, HZ.out⟩
  · simp only [if_pos (fun h => q h : ¬ lrefuse S s f n = 0)]
    have d0 : (lrefuse S s f n == 0) = false := by rw [beq_eq_false_iff_ne]; exact q
    clear q hby
    go_enter Tryz.func18, Tryz.ntmps18
    go_wp2_with fail
    refine h1.mono ?_
    rintro e w1 ⟨rfl, hb⟩
    have HZ := Hid.mk (And.intro (HD.out.later hb) (Keeps.of_below F (HB.out.trans (hb.mono (by simp)))))
    clear h1 hb
    go_wp2_with fail
    go_ret3
    exact ⟨rfl, HZ.out⟩
end
end Go.Proofs.YtllkjmbcjlbmbaaGreat
end

section
namespace Go.Proofs.YtllkjmbcjlbmbaaGreat
open Go.RowKit Go.Shelf

attribute [local go_sem] Oper.semAt_some

/-- What a round keeps: the iterator's own boxes. -/
def KpC (b c : Nat) (W W' : World) : Prop := W'.heap[b]? = W.heap[b]? ∧ W'.heap[c]? = W.heap[c]?
theorem KpC.t {b c : Nat} {A B C : World} (h : KpC b c A B) (k : KpC b c B C) : KpC b c A C := ⟨k.1.trans h.1, k.2.trans h.2⟩
theorem KpC.b {b c : Nat} {w : World} (hb : b < w.heap.size) (hc : c < w.heap.size) (W : World) (l : Nat) (o o' : Obj) (hl : w.heap.size ≤ l) (_h : W.heap[l]? = some o) (_h1 : o.isCells = false) (_h2 : o.isWalk = false) : KpC b c W (W.putObj l o') :=
  ⟨World.putObj_heap_other (by omega), World.putObj_heap_other (by omega)⟩
theorem KpC.refl (b c : Nat) (W : World) : KpC b c W W := ⟨rfl, rfl⟩

set_option maxRecDepth 20000 in
set_option maxHeartbeats 4000000 in
theorem chunk_any (a : Option Addr) (n c : Nat) (w : World) :
    Calls Tryz.prog 31 #[.slice a n c, .int .i64 492] w fun e w' => e = .returned (.func (.func 50) #[] #[.pointer (some ⟨w.heap.size, 0, none⟩), .pointer (some ⟨w.heap.size + 1, 0, none⟩)]) ∧ w' = (w.alloc (.cells #[.slice a n c] 35)).alloc (.cells #[.int .i64 492] 3) := by
  go_enter Tryz.func31, Tryz.ntmps31
  go_wp2
  go_ret
  exact ⟨rfl, rfl⟩

/-- How long the k-th piece of n bytes is. -/
def chLen (n k : Nat) : Nat := min 492 (n - 492 * k)
/-- What is handed to the loop's body. -/
def encC (b o n q : Nat) (x : Fin q) : Array Value := #[.slice (some ⟨b, o + 492 * x.1, none⟩) (chLen n x.1) (chLen n x.1)]

set_option maxRecDepth 100000 in
set_option maxHeartbeats 4000000 in
theorem chunk1_in (m : Nat) (hm : 1 ≤ m) (l Bs Bn b o n c q : Nat) (hn0 : 1 ≤ n) (hn : n ≤ 8364) (hc : n ≤ c) (hq : q = (n + 491) / 492) (J Jx : List (Fin q) → World → Prop)
    (hY : ∀ pre (x : Fin q) W, J pre W → pre.length < q → YieldAt Fence.wide (m - 1) Tryz.prog l (encC b o n q x) W fun e W' =>
      (e = .returned (.bool true) ∧ J (pre ++ [x]) W' ∧ KpC Bs Bn W W') ∨ (e = .returned (.bool false) ∧ Jx (pre ++ [x]) W'))
    (W : World) (hBs : W.heap[Bs]? = some (.cells #[.slice (some ⟨b, o, none⟩) n c] 35 (0, 0))) (hBn : W.heap[Bn]? = some (.cells #[.int .i64 492] 3 (0, 0))) (hJ : AbidesFrom W.heap.size J) (h0 : J [] W) :
    CallsIn Fence.wide m Tryz.prog 50 #[.func (.yield l) #[] #[], .pointer (some ⟨Bs, 0, none⟩), .pointer (some ⟨Bn, 0, none⟩)] W fun e W' => (∃ v, e = .returned v) ∧
      ((∃ ys, InO ys q ∧ J ys W') ∨ (∃ pre, (∃ k, k < q ∧ InO pre (k + 1)) ∧ Jx pre W')) := by
  have HQ := Hid.mk hq
  have hqn : n ≤ 492 * q ∧ 492 * q < n + 492 := by omega
  clear hq
  refine callsIn_of_wp Tryz.func50 rfl trivial ?_ rfl
  simp only [Tryz.ntmps50, List.size_toArray, List.length_cons, List.length_nil, Nat.reduceAdd, Nat.reduceSub, Array.replicate_succ, Array.replicate_zero, List.push_toArray, List.append_toArray, List.nil_append, List.cons_append]
  gi_wp2
  gi_loopw [4] (fun i wr => ∃ (k : Nat) (pre : List (Fin q)), k ≤ q ∧ i = .int .i64 ((492 * k : Nat) : Int) ∧ InO pre k ∧ J pre wr ∧ KpC Bs Bn W wr)
    (fun i _ => 492 * q - (intOf i).toNat)
  case atStart => exact ⟨0, [], Nat.zero_le _, rfl, InO.nil, h0, KpC.refl _ _ _⟩
  case round =>
    obtain ⟨k, pre, hk, rfl, hpre, hJs, hkp⟩ := hrel
    have hlen : pre.length = k := hpre.length
    have hs1 := cell_of_block (hkp.1.trans hBs) (j := 0) rfl
    have hp1 := cell_of_block (hkp.2.trans hBn) (j := 0) rfl
    by_cases hlt : k < q
    · have hJd : J pre wr.drew := hJ pre wr wr.drew none hJs ⟨rfl, rfl, rfl, Nat.le_refl _, fun _ _ _ => rfl⟩ (fun r e => by cases e)
      obtain ⟨fn, tmps, assign, body, hy, hRo⟩ := hY pre ⟨k, hlt⟩ wr.drew hJd (by omega)
      have hmx : Tryz.prog.follows .mixedOrders = true := by kernel_rfl
      dsimp only [encC] at hy
      have hcl : chLen n k = min 492 (n - 492 * k) := rfl
      obtain ⟨I, hI⟩ : ∃ I, I = 492 * k := ⟨_, rfl⟩
      rw [← hI] at hy hcl ⊢
      have hIn : I < n := by omega
      obtain ⟨z, hz⟩ : ∃ z, z = chLen n k := ⟨_, rfl⟩
      rw [← hz] at hy hcl
      have hmin : min (492 : Int) ((n - I : Nat) : Int) = (z : Int) := by omega
      have hto : ((I : Int) + (z : Int)).toNat - I = z := by omega
      have hlt' : (I : Int) < (n : Int) := by omega
      have hIc : (I : Int) < (c : Int) := by omega
      have hnc : (n : Int) ≤ (c : Int) := by omega
      have hzn : (I : Int) + (z : Int) ≤ (n : Int) := by omega
      have hz1 : (1 : Int) ≤ (z : Int) := by omega
      have HI := Hid.mk hI
      have HZ := Hid.mk hz
      clear hI hz hcl
      have hRo' := round_bool hRo
      have HK := Hid.mk hkp
      have HJ := Hid.mk hJ
      have HPre := Hid.mk hpre
      clear hRo hY hJs hJd hkp hJ hpre
      gi_wp2
      gi_region_with_o (fail)
      all_goals
        gi_wp2_with fail
        refine hRo'.mono ?_
        rintro e W3 ⟨r, rfl, hr1, hr2⟩
        have HR1 := Hid.mk hr1
        have HR2 := Hid.mk hr2
        clear hr1 hr2
        cases r
        · gi_wp2
          refine bodyPost_ret (results_none rfl _ _ _) rfl ?_
          exact ⟨⟨_, rfl⟩, .inr ⟨_, ⟨k, hlt, HPre.out.snoc hlt⟩, HR2.out (by simp)⟩⟩
        · have hk3 : KpC Bs Bn W W3 := HK.out.t (KpC.t (B := wr.drew) ⟨rfl, rfl⟩ (HR1.out rfl).2)
          have hp3 := cell_of_block (hk3.2.trans hBn) (j := 0) rfl
          have HK3 := Hid.mk hk3
          clear hk3
          gi_wp2
          go_roundw
          case rel => exact ⟨k + 1, _, by omega, by rw [HI.out]; go_num, HPre.out.snoc hlt, (HR1.out (by simp)).1, HK3.out⟩
          case measure => have := HI.out; simp [intOf]; omega
    · have hkq := Hid.mk (show k = q by omega)
      have hge : ¬ ((492 * k : Nat) : Int) < (n : Int) := by omega
      gi_wp2
      go_end0
      exact ⟨⟨_, rfl⟩, .inl ⟨pre, (by rw [hkq.out] at hpre; exact hpre), hJs⟩⟩

theorem chunk_stops (m : Nat) (hm : 1 ≤ m) (Bs Bn b o n c q : Nat) (hn0 : 1 ≤ n) (hn : n ≤ 8364) (hc : n ≤ c) (hq : q = (n + 491) / 492) (w : World)
    (hBs : w.heap[Bs]? = some (.cells #[.slice (some ⟨b, o, none⟩) n c] 35 (0, 0))) (hBn : w.heap[Bn]? = some (.cells #[.int .i64 492] 3 (0, 0))) :
    SeqStopsK Fence.wide m Tryz.prog 50 #[.pointer (some ⟨Bs, 0, none⟩), .pointer (some ⟨Bn, 0, none⟩)] (encC b o n q) (KpC Bs Bn) (fun ys => InO ys q) (fun pre => ∃ k, k < q ∧ InO pre (k + 1)) q w :=
  fun l J Jx W hW hJ _ hY h0 => chunk1_in m hm l Bs Bn b o n c q hn0 hn hc hq J Jx hY W ((hW.block _ (lt_there hBs)).trans hBs) ((hW.block _ (lt_there hBn)).trans hBn) hJ h0

/-- Blocks of cells. -/
def IsC (w : World) (k : Nat) : Prop := ∃ cur t fz, w.heap[k]? = some (Obj.cells cur t fz)
theorem IsC.lt {w : World} {k : Nat} (h : IsC w k) : k < w.heap.size := by obtain ⟨_, _, _, h⟩ := h; exact lt_there h
theorem Rows'.narrow {w : World} {F G : Nat → Prop} {gi : Nat} (hG : ∀ k, F k → IsC w k → G k) : ∀ {xs : List Value} {ls : List (List Int)}, Rows' w F gi xs ls → Rows' w G gi xs ls
  | [], [], _ => trivial
  | _ :: _, _ :: _, ⟨⟨g, c, h1, h2, h3, h4⟩, h5⟩ => ⟨⟨g, c, h1, hG g h2 (by obtain ⟨cur, hb, _⟩ := h4; exact ⟨cur, _, _, hb⟩), h3, h4⟩, Rows'.narrow hG h5⟩
  | [], _ :: _, h => h.elim
  | _ :: _, [], h => h.elim
theorem DiskM.narrow {w : World} {F G : Nat → Prop} {p s : Nat} {S : DS} {m : Nat} (h : DiskM w F p s S m) (hG : ∀ k, F k → (IsC w k ∨ k = m) → G k) (hl : ∀ k, G k → k < w.heap.size) : DiskM w G p s S m := by
  obtain ⟨gi, ci, D, gr, cr, h1, h2, h3, h4, h5, h6, h7, h8, h9⟩ := h
  refine ⟨gi, ci, D, gr, cr, hG _ h1 (.inl ⟨_, _, _, h5⟩), hG _ h2 (.inl (by obtain ⟨cur, hb, _⟩ := h6; exact ⟨cur, _, _, hb⟩)), hG _ h3 (.inr rfl), hl, h5, h6, h7, ⟨h8.keys, h8.nope, h8.look, fun k hk => ?_, h8.inj⟩, h9⟩
  obtain ⟨h1, xs, h2, h3⟩ := h8.row k hk
  exact ⟨hG _ h1 (.inl (by obtain ⟨cur, hb, _⟩ := h2; exact ⟨cur, _, _, hb⟩)), xs, h2, h3.narrow (fun k hk hc => hG k hk (.inl hc))⟩
theorem DiskRM.narrow {w : World} {F G : Nat → Prop} {p s : Nat} {S : DS} {m : Nat} (h : DiskRM w F p s S m) (hG : ∀ k, F k → (IsC w k ∨ k = m) → G k) (hl : ∀ k, G k → k < w.heap.size) : DiskRM w G p s S m := by
  obtain ⟨r, h⟩ := h
  exact ⟨r, h.narrow hG hl⟩
theorem DiskRM.fm {w : World} {F : Nat → Prop} {p s : Nat} {S : DS} {m : Nat} (h : DiskRM w F p s S m) : F m := by
  obtain ⟨r, gi, ci, D, gr, cr, h⟩ := h
  exact h.fm
/-- The blocks of a disk while a loop goes on that began at B: those of before, and cells since. -/
def FC (F : Nat → Prop) (B m : Nat) (w : World) (k : Nat) : Prop := (F k ∨ B ≤ k) ∧ (IsC w k ∨ k = m) ∧ k < w.heap.size
theorem DiskRM.fc {w0 w w' : World} {F : Nat → Prop} {B p s : Nat} {S : DS} {m : Nat} (h : DiskRM w' (more (FC F B m w) w w') p s S m) (hB : B ≤ w.heap.size) (_h0 : w0 = w0) : DiskRM w' (FC F B m w') p s S m :=
  h.narrow (fun k hk hc => ⟨by
    rcases hk with hk | hk
    · exact hk.1
    · exact .inr (by omega), hc, h.r.lt k hk⟩) (fun _ hk => hk.2.2)
end Go.Proofs.YtllkjmbcjlbmbaaGreat
end
