import Derived.Test.YthohoicgidjpfabGreatPD8
import Derived.Test.YthohoicgidjpfabGreatPDI
namespace Go.Proofs.YthohoicgidjpfabGreat
open Go.RowKit Go.Maps

section
variable {w w' w1 : World} {F X Y Z : Nat → Prop} {kr p s cR q l m t n a1 a2 k : Nat} {S : DS} {G : SG} {T T' : TG} {M M' : MP}
/-- Something beside them has changed, wherever it lies. -/
theorem TX.apart (h : TX w F p s cR q l m t n S G T) (hk : Keeps Z w w') (hz : ∀ j, Z j → ¬ F j ∧ j ≠ q ∧ j ≠ l ∧ j ≠ m ∧ j ≠ t ∧ j ≠ n) : TX w' F p s cR q l m t n S G T :=
  ⟨⟨h.st.d.keep hk (fun j hj e => (hz j e).1 hj), h.st.st.keep hk (fun e => (hz _ e).2.1 rfl), h.st.lp.keep hk (fun e => (hz _ e).2.2.1 rfl), h.st.ch.keep hk (fun e => (hz _ e).2.2.2.1 rfl), h.st.nq, h.st.nl, h.st.nm, h.st.ql, h.st.qm, h.st.lm, h.st.lk, h.st.bg, h.st.hs, h.st.kb⟩, ⟨(hk.block t (lt_there h.tx.tx) (fun e => (hz _ e).2.2.2.2.1 rfl)).trans h.tx.tx, h.tx.ch.keep hk (fun e => (hz _ e).2.2.2.2.2 rfl), h.tx.nt, h.tx.nn, h.tx.tq, h.tx.tl, h.tx.tm, h.tx.tn, h.tx.nq, h.tx.nl, h.tx.nm, h.tx.kb⟩, h.byt, h.pu, h.yk⟩
/-- The program's transaction and the document's pool say the same; only bitmaps were put. -/
structure CL (G : SG) (S : DS) (T : TG) (M : MP) : Prop where
  bad : T.bad = 0
  en : T.ended = false
  ks : ∀ x ∈ T.puts, x.1 < 2
  s0 : T.sees G S 0 = bmOf M.nb
  s1 : T.sees G S 1 = bmOf M.nn
  so : ∀ b, 2 ≤ b → b < G.y.blocks → M.raw[b]? = some (T.sees G S b)
  mb : M.blocks = G.y.blocks
  mn : M.nodes = G.y.nodes
  rl : M.raw.length = G.y.blocks
  mbad : M.bad = 0
  op : M.opn = true
  dd : M.dead = false
  mp : ∀ x ∈ M.put, x < 2
  nd : M.put.Nodup
  l0 : M.nb.length = 4096
  l1 : M.nn.length = 4096
theorem CL.state (h : CL G S T M) (hd : G.L.dead S = false) : T.state G S = 0 := by
  have e1 : T.over G S = 0 := by unfold TG.over; rw [hd, h.en]; rfl
  unfold TG.state
  rw [e1, h.bad]
  rfl
theorem CL.mstate (h : CL G S T M) : M.state = 0 := by
  unfold MP.state
  rw [h.dd, h.op, h.mbad]
  rfl
theorem nodup2 : ∀ {l : List Nat}, l.Nodup → (∀ x ∈ l, x < 2) → l.length ≤ 2
  | [], _, _ => by simp
  | [_], _, _ => by simp
  | [_, _], _, _ => by simp
  | a :: b :: c :: r, h, h2 => by
    have ha := h2 a (by simp)
    have hb := h2 b (by simp)
    have hc := h2 c (by simp)
    simp [List.nodup_cons] at h
    omega
theorem CL.plen (h : CL G S T M) : M.put.length ≤ 2 := nodup2 h.nd h.mp
theorem CL.puts (h : CL G S T M) {b : Nat} (hb : b < 2) : (M.puts b).1 = 0 ∧ ∃ r, (M.puts b).2 = { M with put := r } ∧ (∀ x ∈ r, x < 2) ∧ r.Nodup := by
  unfold MP.puts
  by_cases hm : b ∈ M.put
  · rw [if_pos hm]
    exact ⟨rfl, M.put, rfl, h.mp, h.nd⟩
  · rw [if_neg hm, if_neg (by have := h.plen; omega)]
    refine ⟨rfl, _, rfl, fun x hx => ?_, ?_⟩
    · rw [List.mem_append] at hx
      rcases hx with hx | hx
      · exact h.mp x hx
      · simp at hx
        omega
    · rw [List.nodup_append]
      exact ⟨h.nd, by simp, fun a ha c hc e => by
        simp at hc
        subst hc
        subst e
        exact hm ha⟩
/-- A bitmap is put: both say the same. -/
theorem CL.lay (h : CL G S T M) (hd : G.L.dead S = false) (hy : YOk G.y) (hok : CM.Ok T.puts) {b : Nat} (hb : b < 2) {l : List Bool} (hl : l.length = 4096) : ∃ T' M', T.put G S (b : Int) (bmOf l) = (0, T') ∧ M.lays b l = (0, M') ∧ CL G S T' M' ∧ CM.Ok T'.puts := by
  have hr : T.refusal G S (b : Int) = 0 := refusal_in (h.state hd) (by have := hy.b2; omega)
  have hlen : T.puts.length ≤ 2 := by
    rcases CM.length_le (n := 2) hok h.ks 0 (fun _ _ => Nat.zero_le _) with h9 | h9
    · omega
    · rw [h9]; exact Nat.zero_le _
  have hb01 : b = 0 ∨ b = 1 := by omega
  have hnow : T.sees G S b = bmOf (if b = 1 then M.nn else M.nb) := by
    rcases hb01 with rfl | rfl
    · exact h.s0
    · exact h.s1
  have hnl : (if b = 1 then M.nn else M.nb).length = 4096 := by split; exact h.l1; exact h.l0
  by_cases he : (if b = 1 then M.nn else M.nb) = l
  · refine ⟨T, M, ?_, ?_, h, hok⟩
    · unfold TG.put
      rw [if_neg (fun h => h hr), if_neg (fun h => h (bmOf_len l)), Int.toNat_natCast, if_pos (by rw [hnow, he])]
    · unfold MP.lays
      rw [if_pos he]
  · have hne : bmOf l ≠ T.sees G S b := fun e => he (bm_inj hnl hl (by rw [← hnow, e]))
    obtain ⟨p1, r, p2, p3, p4⟩ := h.puts hb
    have hg := fun i => sees_put (G := G) (S := S) (T := T) (bm := b) (d := bmOf l) hok i
    have k0 : ∀ x ∈ CM.put T.puts b (bmOf l), x.1 < 2 := fun x hx => by
      rcases CM.put_key hx with rfl | hx
      · exact hb
      · exact h.ks x hx
    refine ⟨{ T with puts := CM.put T.puts b (bmOf l) }, if b = 1 then { M with put := r, nn := l } else { M with put := r, nb := l }, ?_, ?_, ?_, CM.put_ok hok _ _⟩
    · unfold TG.put
      rw [if_neg (fun h => h hr), if_neg (fun h => h (bmOf_len l)), Int.toNat_natCast, if_neg hne, if_neg (fun h => by omega)]
    · unfold MP.lays
      rw [if_neg he, if_neg (fun e => e p1), p2]
    · rcases hb01 with rfl | rfl
      · rw [if_neg (by decide)]
        exact ⟨h.bad, h.en, k0, by rw [hg, if_pos rfl], by rw [hg, if_neg (by decide)]; exact h.s1, fun c h1 h2 => by rw [hg, if_neg (by omega)]; exact h.so c h1 h2, h.mb, h.mn, h.rl, h.mbad, h.op, h.dd, p3, p4, hl, h.l1⟩
      · rw [if_pos rfl]
        exact ⟨h.bad, h.en, k0, by rw [hg, if_neg (by decide)]; exact h.s0, by rw [hg, if_pos rfl], fun c h1 h2 => by rw [hg, if_neg (by omega)]; exact h.so c h1 h2, h.mb, h.mn, h.rl, h.mbad, h.op, h.dd, p3, p4, h.l0, hl⟩
theorem CL.clear (h : CL G S T M) (hd : G.L.dead S = false) (hy : YOk G.y) (hdt : G.y.data = 2 + G.y.nodes / 4) (hok : CM.Ok T.puts) : ∃ T' M', T.pclear G S = (0, T') ∧ M.clear = (0, M') ∧ CL G S T' M' := by
  have hn := hy.nd
  have e1 : ebm (bSt G.y).first = bmOf (lowB (2 + M.nodes / 4)) := by
    rw [h.mn, ← hdt]
    show ebm G.y.data = _
    exact (bm_low (by omega)).symm
  have e2 : ebm 0 = bmOf noBits := bmOf_none.symm
  obtain ⟨T1, M1, a1, a2, a3, a4⟩ := h.lay hd hy hok (b := 0) (by omega) (lowB_len (2 + M.nodes / 4))
  obtain ⟨T2, M2, b1, b2, b3, _⟩ := a3.lay hd hy a4 (b := 1) (by omega) (l := noBits) List.length_replicate
  have a1' : T.put G S ((bSt G.y).bm : Int) (ebm (bSt G.y).first) = (0, T1) := by rw [e1]; exact a1
  have b1' : T1.put G S ((nSt G.y).bm : Int) (ebm 0) = (0, T2) := by rw [e2]; exact b1
  refine ⟨T2, M2, ?_, ?_, b3⟩
  · unfold TG.pclear
    rw [a1']
    dsimp only
    rw [b1']
    rfl
  · unfold MP.clear
    rw [if_neg (fun e => e h.mstate), a2]
    dsimp only
    rw [if_neg (fun e => e rfl)]
    exact b2
theorem CL.wmap (h : CL G S T M) (hd : G.L.dead S = false) (hy : YOk G.y) (hok : CM.Ok T.puts) {b : Nat} (hb : b < 2) {d : List Int} (hby : Bytes d) (hl : d.length = 512) : ∃ T' M', T.put G S (b : Int) d = (0, T') ∧ M.wmap b d = (0, M') ∧ CL G S T' M' := by
  obtain ⟨T1, M1, a1, a2, a3, _⟩ := h.lay hd hy hok hb (blOf_len d)
  rw [bm_of_bl hby hl] at a1
  refine ⟨T1, M1, a1, ?_, a3⟩
  unfold MP.wmap
  rw [if_neg (fun e => e h.mstate)]
  exact a2
/-- What is left of a rig behind a call: new blocks of the document's pool. -/
theorem RgW.after (h : RgW w F X kr p s cR q l m t n a1 a2 k S G T M) {c' : Nat} (hx : TX w' F p s c' q l m t n S G T') (hm : MX w' Y k M') (hk : Keeps (fun j => OwT F t n j ∨ X j) w w') (hY : ∀ j, Y j → X j ∨ (w.heap.size ≤ j ∧ j < w'.heap.size)) : RgW w' F Y kr p s c' q l m t n a1 a2 k S G T' M' := by
  have hb := hx.low
  have h0 := h.x.low
  have hno : ∀ j, (¬ F j ∧ j ≠ q ∧ j ≠ l ∧ j ≠ m ∧ j ≠ t ∧ j ≠ n) → ¬ OwT F t n j := fun j hj e => by
    rcases e with e | e | e
    · exact hj.1 e
    · exact hj.2.2.2.2.1 e
    · exact hj.2.2.2.2.2 e
  have hkr : ¬ (OwT F t n kr ∨ X kr) := fun e => by
    rcases e with e | e
    · exact hno kr h.nk e
    · exact (h.xa kr e).2.2.2.2.2.2.1 rfl
  have hp : ∀ a, PoolAt w F a t n → (∀ j, X j → j ≠ a) → PoolAt w' F a t n := fun a ha hxa => ⟨(hk.block a ha.lt (fun e => by
    rcases e with e | e
    · exact ha.nf e
    · exact hxa a e rfl)).trans ha.b, ha.nf⟩
  refine ⟨(hk.block kr (lt_there h.b) hkr).trans h.b, hx, hp a1 h.p1 (fun j hj => (h.xa j hj).2.2.2.2.2.2.2.1), hp a2 h.p2 (fun j hj => (h.xa j hj).2.2.2.2.2.2.2.2), hm, fun j hj => ?_, h.nk, fun j hj => ?_⟩
  · rcases hY j hj with e | e
    · exact Nat.lt_of_lt_of_le (h.xl j e) hk.size
    · exact e.2
  · rcases hY j hj with e | e
    · exact h.xa j e
    · obtain ⟨o1, o2, o3, o4, o5, o6⟩ := h0
      have z1 := lt_there h.b
      have z2 := h.p1.lt
      have z3 := h.p2.lt
      exact ⟨fun e2 => by have := o1 j e2; omega, by omega, by omega, by omega, by omega, by omega, by omega, by omega, by omega⟩
end
end Go.Proofs.YthohoicgidjpfabGreat
