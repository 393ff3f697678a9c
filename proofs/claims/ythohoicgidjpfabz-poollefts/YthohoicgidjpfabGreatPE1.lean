import Derived.Test.YthohoicgidjpfabGreatPDN
namespace Go.Proofs.YthohoicgidjpfabGreat
open Go.RowKit Go.Maps

theorem bls_set {l : List Bool} {i : Nat} (hi : i < l.length) (x : Bool) (j : Nat) : (l.set i x).getD j false = if j = i then x else l.getD j false := by
  simp only [List.getD_eq_getElem?_getD, List.getElem?_set]
  by_cases h : i = j
  · subst h
    rw [if_pos rfl, if_pos hi, if_pos rfl]
    rfl
  · rw [if_neg h, if_neg (fun e => h e.symm)]
/-- A bit of a bitmap is turned: the truths' one too. -/
theorem bm_turn {l : List Bool} (hl : l.length = 4096) {i : Nat} (hi : i < 4096) : turnBit (bmOf l) i = bmOf (l.set i (!l.getD i false)) := by
  refine bits_same (turnBit_bytes (bm_bytes l)) (bm_bytes _) (by rw [turnBit_len, bmOf_len, bmOf_len]) (fun j hj => ?_)
  rw [turnBit_len, bmOf_len] at hj
  rw [turnBit_bit (bm_bytes l) (by rw [bmOf_len]; omega), bm_bit l hi, bm_bit l (by omega : j < 4096), bm_bit (l.set i (!l.getD i false)) (by omega : j < 4096), bls_set (by omega)]
/-- The link where the transaction may be spoilt. -/
structure CK (G : SG) (S : DS) (T : TG) (M : MP) : Prop where
  bad : T.bad = M.bad
  cl : CL G S { T with bad := 0 } { M with bad := 0 }
section
variable {S : DS} {G : SG} {T T' : TG} {M M' : MP}
theorem CL.ck (h : CL G S T M) : CK G S T M := by
  obtain ⟨a, b, c⟩ := T
  obtain ⟨m0, m1, m2, m3, m4, m5, m6, m7, m8, m9, m10, m11⟩ := M
  have h1 : b = 0 := h.bad
  have h2 : m9 = 0 := h.mbad
  subst h1
  subst h2
  exact ⟨rfl, h⟩
theorem CL.spoilt (h : CL G S T M) (x : Int) : CK G S { T with bad := x } { M with bad := x } := by
  obtain ⟨a, b, c⟩ := T
  obtain ⟨m0, m1, m2, m3, m4, m5, m6, m7, m8, m9, m10, m11⟩ := M
  have h1 : b = 0 := h.bad
  have h2 : m9 = 0 := h.mbad
  subst h1
  subst h2
  exact ⟨rfl, h⟩
theorem CK.clean (h : CK G S T M) (h0 : M.bad = 0) : CL G S T M := by
  obtain ⟨a, b, c⟩ := T
  obtain ⟨m0, m1, m2, m3, m4, m5, m6, m7, m8, m9, m10, m11⟩ := M
  obtain ⟨hb, h⟩ := h
  have h2 : m9 = 0 := h0
  subst h2
  have h1 : b = 0 := hb
  subst h1
  exact h
theorem CK.mstate (h : CK G S T M) : M.state = M.bad := by
  have h1 : M.dead = false := h.cl.dd
  have h2 : M.opn = true := h.cl.op
  unfold MP.state
  rw [h1, h2]
  rfl
theorem CK.state (h : CK G S T M) (hd : G.L.dead S = false) : T.state G S = M.bad := by
  have h1 : T.ended = false := h.cl.en
  have e1 : T.over G S = 0 := by unfold TG.over; rw [hd, h1]; rfl
  unfold TG.state
  rw [e1, h.bad]
  rfl
/-- A bit is turned on both sides. -/
theorem CL.flip (h : CL G S T M) (hd : G.L.dead S = false) (hy : YOk G.y) (hok : CM.Ok T.puts) {i : Nat} (hi : i < 4096) :
    (∃ T', T.put G S (0 : Nat) (turnBit (T.sees G S 0) i) = (0, T') ∧ (M.puts 0).1 = 0 ∧ CL G S T' { (M.puts 0).2 with nb := M.nb.set i (!M.nb.getD i false) }) ∧
    (∃ T', T.put G S (1 : Nat) (turnBit (T.sees G S 1) i) = (0, T') ∧ (M.puts 1).1 = 0 ∧ CL G S T' { (M.puts 1).2 with nn := M.nn.set i (!M.nn.getD i false) }) := by
  have hne : ∀ l : List Bool, l.length = 4096 → l ≠ l.set i (!l.getD i false) := fun l hl e => by
    have h9 := bls_set (l := l) (i := i) (by omega) (!l.getD i false) i
    rw [← e, if_pos rfl] at h9
    cases hx : l.getD i false <;> rw [hx] at h9 <;> cases h9
  refine ⟨?_, ?_⟩
  · obtain ⟨T1, M1, a1, a2, a3, _⟩ := h.lay hd hy hok (b := 0) (by omega) (l := M.nb.set i (!M.nb.getD i false)) (by rw [List.length_set]; exact h.l0)
    have p1 := (h.puts (b := 0) (by omega)).1
    refine ⟨T1, by rw [h.s0, bm_turn h.l0 hi]; exact a1, p1, ?_⟩
    unfold MP.lays at a2
    rw [if_neg (show ¬ (if (0 : Nat) = 1 then M.nn else M.nb) = M.nb.set i (!M.nb.getD i false) from hne _ h.l0), if_neg (fun e => e p1)] at a2
    have a4 := congrArg Prod.snd a2
    dsimp only at a4
    rw [← a4] at a3
    exact a3
  · obtain ⟨T1, M1, a1, a2, a3, _⟩ := h.lay hd hy hok (b := 1) (by omega) (l := M.nn.set i (!M.nn.getD i false)) (by rw [List.length_set]; exact h.l1)
    have p1 := (h.puts (b := 1) (by omega)).1
    refine ⟨T1, by rw [h.s1, bm_turn h.l1 hi]; exact a1, p1, ?_⟩
    unfold MP.lays at a2
    rw [if_neg (show ¬ (if (1 : Nat) = 1 then M.nn else M.nb) = M.nn.set i (!M.nn.getD i false) from hne _ h.l1), if_neg (fun e => e p1)] at a2
    have a4 := congrArg Prod.snd a2
    dsimp only at a4
    rw [← a4] at a3
    exact a3
/-- A call that is refused, because something is spoilt. -/
theorem spoil_no {x : Int} (h0 : T.state G S ≠ 0) : (T.spoil G S x).2 = T := by unfold TG.spoil; rw [if_pos h0]
theorem refusal_st {b : Int} (h0 : T.state G S ≠ 0) : T.refusal G S b = T.state G S := by unfold TG.refusal; rw [if_pos h0]
theorem takes_st (k : STK) (h0 : T.state G S ≠ 0) : T.takes G S k = (0, T.state G S, T) := by
  have e1 : T.ptake G S k = (none, T.state G S, T) := by unfold TG.ptake; rw [refusal_st h0, if_pos h0]
  unfold TG.takes
  rw [e1]
  show (0, T.state G S, (T.spoil G S (T.state G S)).2) = _
  rw [spoil_no h0]
theorem takes_none {k : STK} (hr : T.refusal G S k.bm = 0) (h0 : T.state G S = 0) (hk : k.no = 60 ∨ k.no = 61) (hl : lowBit (T.sees G S k.bm) (k.first - k.zero) k.cnt = none) : T.takes G S k = (0, k.no, { T with bad := k.no }) := by
  have e1 : T.ptake G S k = (none, k.no, T) := by unfold TG.ptake; rw [if_neg (fun e => e hr), hl]; rfl
  unfold TG.takes
  rw [e1]
  show (0, k.no, (T.spoil G S k.no).2) = _
  unfold TG.spoil
  rw [if_neg (fun e => e h0), if_pos (by omega)]
theorem takes_some {k : STK} {b : Nat} (hr : T.refusal G S k.bm = 0) (hl : lowBit (T.sees G S k.bm) (k.first - k.zero) k.cnt = some b) (hp : T.put G S k.bm (turnBit (T.sees G S k.bm) b) = (0, T')) : T.takes G S k = (((b + k.zero : Nat) : Int), 0, T') := by
  have e1 : T.ptake G S k = (some (b + k.zero), 0, T') := by
    unfold TG.ptake
    rw [if_neg (fun e => e hr), hl]
    unfold TG.ptook
    dsimp only
    rw [hp, if_pos rfl]
  unfold TG.takes
  rw [e1]
theorem CK.take0 (h : CK G S T M) (hd : G.L.dead S = false) (hy : YOk G.y) (hdt : G.y.data = 2 + G.y.nodes / 4) (hok : CM.Ok T.puts) : ∃ T', T.takes G S (bSt G.y) = (M.take0.1, M.take0.2.1, T') ∧ CK G S T' M.take0.2.2 := by
  have hs := h.state hd
  by_cases h0 : M.bad = 0
  · have hc := h.clean h0
    have hm := hc.mstate
    rw [h0] at hs
    have hr : T.refusal G S ((bSt G.y).bm : Int) = 0 := refusal_in hs (by have := hy.b2; show 0 < _; omega)
    have hl : lowBit (T.sees G S (bSt G.y).bm) ((bSt G.y).first - (bSt G.y).zero) (bSt G.y).cnt = lowBit (bmOf M.nb) (2 + M.nodes / 4) (M.blocks - (2 + M.nodes / 4)) := by
      rw [hc.mn, hc.mb, ← hdt, ← hc.s0]
      rfl
    unfold MP.take0
    rw [if_neg (fun e => e hm)]
    generalize hR : lowBit (bmOf M.nb) (2 + M.nodes / 4) (M.blocks - (2 + M.nodes / 4)) = R at *
    cases R with
    | none => exact ⟨_, takes_none hr hs (.inl rfl) hl, hc.spoilt 60⟩
    | some i =>
      obtain ⟨q1, q2, q3, _⟩ := lowBit_some hR
      have hi : i < 4096 := by have := hy.bl; have := hc.mb; omega
      rw [bm_bit _ hi] at q3
      obtain ⟨⟨T1, f1, f2, f3⟩, _⟩ := hc.flip hd hy hok hi
      rw [q3] at f3
      dsimp only
      rw [if_neg (fun e => e f2)]
      exact ⟨T1, takes_some hr hl f1, f3.ck⟩
  · have hm : M.state ≠ 0 := by rw [h.mstate]; exact h0
    refine ⟨T, ?_, ?_⟩
    · rw [takes_st _ (by rw [hs]; exact h0), hs]
      unfold MP.take0
      rw [if_pos hm, h.mstate]
    · unfold MP.take0
      rw [if_pos hm]
      exact h
theorem CK.take1 (h : CK G S T M) (hd : G.L.dead S = false) (hy : YOk G.y) (hok : CM.Ok T.puts) : ∃ T', T.takes G S (nSt G.y) = (M.take1.1, M.take1.2.1, T') ∧ CK G S T' M.take1.2.2 := by
  have hs := h.state hd
  by_cases h0 : M.bad = 0
  · have hc := h.clean h0
    have hm := hc.mstate
    rw [h0] at hs
    have hr : T.refusal G S ((nSt G.y).bm : Int) = 0 := refusal_in hs (by have := hy.b2; show 1 < _; omega)
    have hl : lowBit (T.sees G S (nSt G.y).bm) ((nSt G.y).first - (nSt G.y).zero) (nSt G.y).cnt = lowBit (bmOf M.nn) 0 M.nodes := by
      rw [hc.mn, ← hc.s1]
      rfl
    unfold MP.take1
    rw [if_neg (fun e => e hm)]
    generalize hR : lowBit (bmOf M.nn) 0 M.nodes = R at *
    cases R with
    | none => exact ⟨_, takes_none hr hs (.inr rfl) hl, hc.spoilt 61⟩
    | some i =>
      obtain ⟨q1, q2, q3, _⟩ := lowBit_some hR
      have hi : i < 4096 := by have := hy.nd; have := hc.mn; omega
      rw [bm_bit _ hi] at q3
      obtain ⟨_, ⟨T1, f1, f2, f3⟩⟩ := hc.flip hd hy hok hi
      rw [q3] at f3
      dsimp only
      rw [if_neg (fun e => e f2)]
      exact ⟨T1, takes_some hr hl f1, f3.ck⟩
  · have hm : M.state ≠ 0 := by rw [h.mstate]; exact h0
    refine ⟨T, ?_, ?_⟩
    · rw [takes_st _ (by rw [hs]; exact h0), hs]
      unfold MP.take1
      rw [if_pos hm, h.mstate]
    · unfold MP.take1
      rw [if_pos hm]
      exact h
end
end Go.Proofs.YthohoicgidjpfabGreat
