import Derived.Test.YtllkjmbcjlbmbaaGreatWB4
namespace Go.Proofs.YtllkjmbcjlbmbaaGreat
open Go.RowKit Go.Maps

section
variable {S X : DS} {s f n j : Nat} {L : LG} {d : List Int} {ds : List (List Int)} {low : Nat} {nn : Bool}
theorem anew_Ok (h : S.Ok s) (hf : f + 1 < s) (num : Int) : (anew S s f num).2.Ok s := by
  unfold anew
  split
  · exact h
  · rename_i hfz
    split
    · exact h
    · rename_i hr
      have hr := Decidable.of_not_not hr
      have hsl := srenew_slot (S.now f) (S.now (f + 1)) num []
      have hfull := srenew_full (S.now f) (S.now (f + 1)) num [] hr
      rw [show (f : Int) + ((srenew (S.now f) (S.now (f + 1)) num []).1 : Int) = ((f + (srenew (S.now f) (S.now (f + 1)) num []).1 : Nat) : Int) by omega]
      have hw := wr_ok (k := f + (srenew (S.now f) (S.now (f + 1)) num []).1) h hfz (by omega) hfull
      split
      · exact hw
      · exact fl_ok hw
theorem trim_Ok (h : S.Ok s) (hL : L.Ok s) : (L.trim S s).2.1.Ok s := by
  have h1 := hL.s
  have h2 := hL.n1
  have hs : (L.sync S s).2.Ok s := by
    unfold LG.sync
    split
    · exact h
    · exact fl_ok h
  unfold LG.trim
  split
  · exact hs
  · split
    · exact hs
    · split
      · exact anew_Ok hs (by omega) _
      · exact anew_Ok hs (by omega) _
theorem start_Ok (h : S.Ok s) (hL : L.Ok s) : (L.start S s).2.1.Ok s := by
  have h1 := hL.s
  have h2 := hL.n1
  unfold LG.start
  split
  · exact h
  · split
    · exact h
    · split
      · exact anew_Ok h (by omega) _
      · exact anew_Ok h (by omega) _
theorem Alive.appendOk (h : Alive S L n j ds low) (d : List Int) : (L.append S (n + 2) d).2.1.Ok (n + 2) := by
  have hL := (h.i.at (i := 0) rfl).1
  have hn1 := hL.n1
  unfold LG.append
  split
  · exact h.i.ok
  · rename_i hr
    obtain ⟨_, _, _, _, hro⟩ := refuses_no (Decidable.of_not_not hr)
    have := (appTo_once (d := d) h.ho.once h.i.ok h.sl (by omega) hL.s hL.th (cntOf d.length) hro).2.1
    split
    · exact this
    · exact this
theorem lay_im (X : DS) (c : Int) : (X.lay c).im = X.im ∧ (X.lay c).puts = X.puts ∧ (X.lay c).life = X.life := ⟨(lay_same X c).2.2.1, (lay_same X c).1, (lay_same X c).2.1⟩
theorem Flat.lay (h : Flat X n j ds low nn) (c : Int) (ok : (X.lay c).Ok (n + 2)) : Flat (X.lay c) n j ds low nn := by
  obtain ⟨l1, l2, l3⟩ := lay_im X c
  obtain ⟨N, ho⟩ := h.ho
  exact ⟨ok, ⟨by rw [l1]; exact h.byt.1, by rw [l2]; exact h.byt.2⟩, by rw [l2]; exact h.p, by rw [l3]; exact h.l0, by rw [l3]; exact h.lt, ⟨N, ho.same l1 l2⟩, h.fu.same l1 l2⟩
end

section
variable {w wr w' : World} {F F' : Nat → Prop} {pb bb p l n j low low' : Nat} {S S' X : DS} {v v' : Value} {ds ds' : List (List Int)} {nn nn' : Bool} {L L' : LG}
/-- The disk is asked: a dead log stays one. -/
theorem KDead.keep (h : KDead w wr F pb bb p l n S) (hk : Keeps F wr w') (hfl : ¬ F l) (hl : S.life ≤ S'.life) : KDead w w' F pb bb p l n S' := by
  rcases h with ⟨L, h1, h2, h3⟩ | ⟨q, L, G, t, X, h1, h2, h3, h4, h5⟩
  · exact .inl ⟨L, h1.keep hk hfl, h2, by omega⟩
  · exact .inr ⟨q, L, G, t, X, h1.keep hk hfl, h2.keep hk (fun k hG hF => (h5 k hG).1 hF), h3, h4, h5⟩
theorem papp_all (h : KAt w wr pb n j) (hj : j ≤ 100000) (da : Option Addr) (dc : Nat) (d : List Int) (hs : Src wr da d.length d) (hd : Bytes d) (hda : ∀ y, da = some y → 0 < d.length → y.block < w.heap.size) (hdn : d.length ≤ 140737488355328) :
    Calls Tryz.prog 22 #[.pointer (some ⟨pb, 0, none⟩), .slice da d.length dc] wr (KOut w pb n j) := by
  obtain ⟨F, bb, p, l, S, v, ds, low, nn, hm, ⟨L, hl, hA⟩ | ⟨hB, hD⟩⟩ := h
  · rcases hA.append hj hd (hA.appendOk d) with ⟨a1, a2, a3⟩ | ⟨a1, a2, a3, a4, _⟩ | ⟨a1, a2, a3, a4, a5, a6, a7⟩
    · exact papp_no hm hl hA hj da dc d hs hd hda hdn a1 a2 a3
    · exact papp_yes hm hl hA hj da dc d hs hd hda hdn a1 a2 a3 a4
    · have h1 : 1 ≤ d.length := by
        apply Decidable.byContradiction
        intro hz
        have hz' : d.length = 0 := by omega
        have hu := hA.ready a2
        unfold LG.append at a1
        have : L.refuses S d.length = 2 := by unfold LG.refuses; rw [if_neg (by omega), if_pos hz']
        rw [this, if_pos (by decide)] at a1
        cases a1
      exact papp_cut hm hl hA hj da dc d hs hd hda hdn a1 a2 a3 a4 a6 a7 a5 h1
  · exact papp_dead hm hB hD da dc d hs hdn
theorem ptrim_all (h : KAt w wr pb n j) (hj : j ≤ 100000) : Calls Tryz.prog 23 #[.pointer (some ⟨pb, 0, none⟩)] wr (KOut w pb n j) := by
  obtain ⟨F, bb, p, l, S, v, ds, low, nn, hm, ⟨L, hl, hA⟩ | ⟨hB, hD⟩⟩ := h
  · exact ptrim_live hm hl hA hj (trim_Ok hA.i.ok (hA.i.at (i := 0) rfl).1)
  · exact ptrim_dead hm hB hD
/-- The log is another one. -/
theorem KMem.relog (h : KMem w wr F pb bb p l n S v ds low nn) {l' : Nat} (hl : ∃ cur, wr.heap[l']? = some (.cells cur 65 (0, 0))) (hF : ¬ F l') (hlo : w.heap.size ≤ l') :
    KMem w (wr.setCell ⟨pb, 1, none⟩ (.pointer (some ⟨l', 0, none⟩))) F pb bb p l' n S v ds low nn ∧ Keeps (fun k => k = pb) wr (wr.setCell ⟨pb, 1, none⟩ (.pointer (some ⟨l', 0, none⟩))) := by
  obtain ⟨cl, hcl⟩ := hl
  have hne : l' ≠ pb := fun e => by rw [e] at hcl; exact type_ne h.pk hcl (by decide)
  have hk := Keeps.setCell (F := fun k => k = pb) wr (p := ⟨pb, 1, none⟩) rfl (.pointer (some ⟨l', 0, none⟩))
  exact ⟨⟨h.d.keep hk (fun k hf e => by rw [e] at hf; exact h.fp hf), (heap_setCell_same _ _ 1 _ _ _ h.pk).trans (by simp), (hk.block bb (lt_there h.bk) (fun e => h.pbb e.symm)).trans h.bk, h.ls.keep hk (fun k e => .inr ⟨by rw [e]; exact h.lp, pyC p l n bb, 33, (0, 0), by rw [e]; exact h.pk, by decide, by decide⟩) (fun k hf => .inl hf), h.fp, h.fb, hF, ⟨cl, (hk.block l' (lt_there hcl) hne).trans hcl⟩, h.fF, h.lp, h.lb, hlo, h.b.trans (hk.below (fun k e => by rw [e]; exact h.lp) h.b.size)⟩, hk⟩
/-- Told records as a book's list. -/
theorem RecsAt.ll {rs : List (List Int)} {B : Nat} (h : RecsAt wr B v rs (fun _ => False)) (hB : w.heap.size ≤ B) (hF : ∀ k, F k → k < B) (hp : ∀ d ∈ rs, 1 ≤ d.length) : LL w wr F v rs := by
  obtain ⟨vs, h1, h2⟩ := h
  have h1' : wr.ownsRow w.heap.size 35 1 v rs.length vs := by
    obtain ⟨hl, h | ⟨g, cap, cur, rfl, hg, hbk, h4⟩⟩ := h1
    · exact ⟨hl, .inl h⟩
    · exact ⟨hl, .inr ⟨g, cap, cur, rfl, by omega, hbk, h4⟩⟩
  refine ⟨vs, h1', fun g hg hf => by have := own_lo h1 hg; have := hF _ hf; omega, fun i hi => ?_⟩
  obtain ⟨g, c, e1, e2, e3, _⟩ := h2 i hi
  have hpos := hp _ (List.getElem_mem hi)
  have hsr := e2.src
  obtain ⟨cur, hc, _⟩ := e2
  exact ⟨⟨g, 0, none⟩, c, e1, by simpa using hsr, by omega, fun hf => by have h9 : g < B := hF _ hf; omega, .inr ⟨cur, (0, 0), hc⟩⟩
theorem Tells.pos {R : Nat → PC} {E : Nat} : ∀ {rs : List (List Int)} {P h : Nat}, Tells R E P rs h → ∀ d ∈ rs, 1 ≤ d.length
  | [], _, _, _, d, hd => by cases hd
  | x :: xs, P, h, ⟨k, hk, ht⟩, d, hd => by
    rcases List.mem_cons.1 hd with rfl | hd
    · have h0 := hk.2.2.1 0 hk.1
      rw [hk.2.2.2]
      have hk1 := hk.1
      obtain ⟨k', rfl⟩ : ∃ k', k = k' + 1 := ⟨k - 1, by omega⟩
      unfold dataTo
      rw [List.range_succ_eq_map]
      simp only [List.flatMap_cons, List.length_append]
      have := h0.2.2.2.2.1
      simp only [Nat.add_zero] at this ⊢
      omega
    · exact Tells.pos ht d hd
end
end Go.Proofs.YtllkjmbcjlbmbaaGreat
