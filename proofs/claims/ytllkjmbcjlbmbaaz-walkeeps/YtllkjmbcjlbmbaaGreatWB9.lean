import Derived.Test.YtllkjmbcjlbmbaaGreatWB8
namespace Go.Proofs.YtllkjmbcjlbmbaaGreat
open Go.RowKit Go.Maps

section
variable {w wr w' w2 w3 : World} {F F' : Nat → Prop} {pb bb p l n j low low' : Nat} {S S' X : DS} {v v' : Value} {ds ds' : List (List Int)} {nn nn' : Bool} {L L' : LG}
/-- Behind a cut. -/
theorem flat_cut (byt : S.Byt) (hok : S.Ok (n + 2)) (l0 : 0 ≤ S.life) (lt : S.life ≤ ((3 + 2 * j : Nat) : Int)) (ho : ∃ N, Hold S 0 n N (j + 2)) (fu : Fut S n ds low nn) (hn : 1 ≤ n) (hj : j ≤ 100000) (pl : List P3) (ok2 : (S.crash (n + 2) pl).Ok (n + 2)) : Flat (S.crash (n + 2) pl) n j ds low nn ∧ (S.crash (n + 2) pl).life = S.life + 1 := by
  obtain ⟨N, ho⟩ := ho
  have hl : (S.crash (n + 2) pl).life = S.life + 1 := wrap_life l0 lt (by omega)
  exact ⟨⟨ok2, byt.crash (n + 2) pl, rfl, by rw [hl]; omega, by rw [hl]; omega, ho.crash (s := n + 2) hok (by omega) (by omega) pl, fu.crash hn pl ok2⟩, hl⟩
theorem Flat.load (h : Flat X n j ds low nn) (ok : (DS.fresh X.im).Ok (n + 2)) : Flat (DS.fresh X.im) n j ds low nn := by
  obtain ⟨N, ho⟩ := h.ho
  have e : (DS.fresh X.im).puts = X.puts := h.p.symm
  exact ⟨ok, ⟨h.byt.1, by rw [e]; exact h.byt.2⟩, rfl, (by show (0 : Int) ≤ 1; decide), (by show (1 : Int) ≤ _; omega), ⟨N, ho.same rfl e⟩, h.fu.same rfl e⟩
/-- The play behind a cut, and before its log is opened. -/
def KCut (w wr : World) (pb n j p : Nat) : Prop := ∃ F bb l X v ds low nn, KMem w wr F pb bb p l n X v ds low nn ∧ Flat X n j ds low nn ∧ X.fuse = -1 ∧ KDead w wr F pb bb p l n X ∧ ds.length ≤ 600
theorem KCut.later (h : KCut w wr pb n j p) (hb : Below wr.heap.size wr w') : KCut w w' pb n j p := by
  obtain ⟨F, bb, l, X, v, ds, low, nn, h1, h2, h3, h4, h5⟩ := h
  exact ⟨F, bb, l, X, v, ds, low, nn, h1.later hb, h2, h3, h4.later hb, h5⟩
theorem KCut.again (h : KCut w wr pb n j p) (hj : j ≤ 90000) (h18 : 18 ≤ n) (h256 : n ≤ 256) (calls : Int) (hcm : calls ≤ 9223372036854775807) :
    Calls Tryz.prog 26 #[.pointer (some ⟨pb, 0, none⟩), .int .i64 calls] wr (KOut w pb n (j + 1)) := by
  obtain ⟨F, bb, l, X, v, ds, low, nn, h1, h2, h3, h4, h5⟩ := h
  by_cases hc : calls = 0
  · subst hc
    exact reopen_zero h1 h2 h3 h4 h5
  · exact reopen_go h1 h2 h3 hj h18 h256 calls hc hcm
/-- The play, cut. -/
theorem KMem.cut (h : KMem w wr F pb bb p l n S v ds low nn) (ha : (∃ L, LogP wr l p L ∧ Alive S L n j ds low) ∨ (KB S n j ds low nn ∧ KDead w wr F pb bb p l n S)) (hn : 1 ≤ n) (hj : j ≤ 100000) (pl : List P3) (hd : DiskR w' F p (n + 2) (S.crash (n + 2) pl)) (hk : Keeps F wr w') : KCut w w' pb n j p := by
  have h1 := h.same hd hk
  rcases ha with ⟨L, hl, hA⟩ | ⟨hB, hD⟩
  · obtain ⟨a, b⟩ := flat_cut hA.i.byt hA.i.ok hA.i.l0 hA.i.lt ⟨_, hA.ho⟩ (hA.fut hj nn) hn hj pl hd.ok
    exact ⟨_, _, _, _, _, _, _, _, h1, a, rfl, .inl ⟨L, hl.keep hk h.fl, (hA.i.at (i := 0) rfl).1, by rw [b, hA.life]; omega⟩, by have := hA.few; omega⟩
  · obtain ⟨a, b⟩ := flat_cut hB.byt hB.ok hB.l0 hB.lt hB.ho hB.fu hn hj pl hd.ok
    exact ⟨_, _, _, _, _, _, _, _, h1, a, rfl, hD.keep hk h.fl (by rw [b]; omega), hB.dl⟩
/-- Another disk takes its place. -/
theorem KMem.redisk (h : KMem w wr F pb bb p l n X v ds low nn) (hX : Flat X n j ds low nn) (hdl : ds.length ≤ 600) (hD : ∃ q L G t Y, LogP wr l q L ∧ DiskR wr G q t Y ∧ L.dead Y = true ∧ L.Ok t ∧ ∀ k, G k → k ≠ pb ∧ k ≠ bb ∧ k ≠ l ∧ w.heap.size ≤ k) {p2 : Nat} (hd : DiskAt w3 (fun k => wr.heap.size ≤ k ∧ k < w3.heap.size) p2 (n + 2) (DS.fresh X.im)) (hb3 : Below wr.heap.size wr w3) :
    KCut w (w3.setCell ⟨pb, 0, none⟩ (.pointer (some ⟨p2, 0, none⟩))) pb n j p2 := by
  obtain ⟨q, L, G, t, Y, x1, x2, x3, x4, x5⟩ := hD
  have h3 := h.later hb3
  obtain ⟨cl, hcl⟩ := h3.lk
  have hpl := lt_there h.pk
  have hbl := lt_there h.bk
  have hll : l < wr.heap.size := by obtain ⟨c, hc⟩ := h.lk; exact lt_there hc
  have hw0 := h.b.size
  have hk := Keeps.setCell (F := fun k => k = pb) w3 (p := ⟨pb, 0, none⟩) rfl (.pointer (some ⟨p2, 0, none⟩))
  have hm : KMem w (w3.setCell ⟨pb, 0, none⟩ (.pointer (some ⟨p2, 0, none⟩))) (fun k => wr.heap.size ≤ k ∧ k < w3.heap.size) pb bb p2 l n (DS.fresh X.im) v ds low nn := by
    refine ⟨hd.r.keep hk (fun k hf e => by omega), (heap_setCell_same _ _ 0 _ _ _ h3.pk).trans (by simp), (hk.block bb (lt_there h3.bk) (fun e => h3.pbb e.symm)).trans h3.bk, ?_, by omega, by omega, by omega, ⟨cl, (hk.block l (lt_there hcl) (fun e => h3.pbl e.symm)).trans hcl⟩, fun k hf => by omega, h.lp, h.lb, h.ll, h3.b.trans (hk.below (fun k e => by rw [e]; exact h.lp) h3.b.size)⟩
    exact (h.ls.keep (F' := fun k => wr.heap.size ≤ k ∧ k < w3.heap.size) (Keeps.of_below (fun _ => False) hb3) (fun k hf => hf.elim) (fun k hf => .inr hf.1)).keep hk (fun k e => .inr ⟨by rw [e]; exact h.lp, pyC p l n bb, 33, (0, 0), by rw [e]; exact h3.pk, by decide, by decide⟩) (fun k hf => .inl hf)
  exact ⟨_, _, _, _, _, _, _, _, hm, hX.load hd.r.ok, rfl, .inr ⟨q, L, G, t, Y, (x1.later hb3).keep hk (fun e => h.pbl e.symm), (x2.later hb3).keep hk (fun k hG e => (x5 k hG).1 e), x3, x4, fun k hG => ⟨fun hf => by have h9 : k < wr.heap.size := x2.lt k hG; omega, x5 k hG⟩⟩, hdl⟩
end
end Go.Proofs.YtllkjmbcjlbmbaaGreat
