import Derived.Test.YtkdjjnkhbmmfeaaFE2
namespace Go.Proofs.Ytkdjjnkhbmmfeaa
open Go.RowKit Go.Maps

theorem results_cell_tmp {P : Program} {fn : Func} {p q : Tmp} {ty : TypeId} (h : fn.results = #[.cell p ty, .tmp q]) (tmps : Array Value) (w : World) (g : Nat) (cs : List Value) (d : TypeDesc) (v : Value)
    (hp : tmps.getD p undef = .pointer (some ⟨g, 0, none⟩)) (hq : tmps.getD q undef = v) (hg : w.rangeAt g 0 cs) (hu : P.underlying ty = some d) (hd : d.isRow = true) (hi : (P.info? ty).map (·.size) = some cs.length) :
    (results fn tmps).run P w = .ok (.tuple #[.agg cs.toArray, v]) w := by
  have hp' : tmps[p]?.getD undef = .pointer (some ⟨g, 0, none⟩) := by simpa using hp
  have hq' : tmps[q]?.getD undef = v := by simpa using hq
  simp [results, h, hp', hq', asAddr, run_loadVar_mid w g 0 ty cs d hg hu hd hi]
theorem unit_in {l m : List Int} {b : Int} (h : unitP l = some (b, m)) : b ∈ l ∧ m <:+ l := by
  match l, h with
  | [], h => cases h
  | c :: l, h =>
    by_cases e : c = 92
    · match l, h with
      | [], h => simp [unitP, e] at h
      | d :: n, h =>
        simp only [unitP, e, if_true, Option.some.injEq, Prod.mk.injEq] at h
        obtain ⟨rfl, rfl⟩ := h
        exact ⟨by simp, ⟨[c, d], rfl⟩⟩
    · by_cases e2 : c = 93 ∨ c = 45
      · simp [unitP, e, e2] at h
      · simp only [unitP, if_neg e, if_neg e2, Option.some.injEq, Prod.mk.injEq] at h
        obtain ⟨rfl, rfl⟩ := h
        exact ⟨by simp, ⟨[c], rfl⟩⟩
theorem suf_drop {r L : List Int} (h : r <:+ L) : L.drop (L.length - r.length) = r := (List.suffix_iff_eq_drop.1 h).symm
theorem mem_none {r : List Int} (h : unitP r = none) : memP r = none := by simp [memP, h]
theorem mem_single {r m : List Int} {x : Int} (h : unitP r = some (x, m)) (ht : (tookP m 45).1 = false) : memP r = some ((x, x), m) := by
  simp [memP, h, ht, took_false ht]
theorem mem_span {r m n : List Int} {x y : Int} (h : unitP r = some (x, 45 :: m)) (h2 : unitP m = some (y, n)) (hle : ¬ y < x) : memP r = some ((x, y), n) := by
  simp only [memP, h]
  simp [tookP, h2, hle]
theorem mem_span_bad {r m n : List Int} {x y : Int} (h : unitP r = some (x, 45 :: m)) (h2 : unitP m = some (y, n)) (hlt : y < x) : memP r = none := by
  simp only [memP, h]
  simp [tookP, h2, hlt]
theorem mem_span_no {r m : List Int} {x : Int} (h : unitP r = some (x, 45 :: m)) (h2 : unitP m = none) : memP r = none := by
  simp only [memP, h]
  simp [tookP, h2]
/-- What holds while a set's members are read. -/
structure SetsI (s : ByteArray) (w wr : World) (r1 r : List Int) (ms : List (Int × Int)) (f : Int → Bool) (a : Nat) : Prop where
  pos : a + r.length = s.size
  cnt : ms.length ≤ a
  res : PB wr w.heap.size 0 0 noB
  var : PB wr (w.heap.size + 1) 5 0 f
  bel : Below w.heap.size w wr
  suf : r <:+ ub s.data.toList
  fit : ∀ z, f z = ms.any (memHas z)
  fin : finD ms r = finD [] r1
/-- What the document's sets comes to. -/
def SetsO (sz : Nat) (e : Ending) : Option (Pc × List Int) → Prop
  | none => ∃ f, e = .returned (.tuple #[.agg (pd 5 0 f).toArray, .int .i64 0])
  | some (p, m) => ∃ f, e = .returned (.tuple #[.agg (pd 5 0 f).toArray, .int .i64 ((sz - m.length : Nat) : Int)]) ∧ PR 5 0 f p
theorem sets_world (w : World) : PB (((w.alloc (.cells zpd 74)).alloc (.cells zpd 74)).setCells (w.heap.size + 1) 0 (pd 5 0 noB)) w.heap.size 0 0 noB ∧ PB (((w.alloc (.cells zpd 74)).alloc (.cells zpd 74)).setCells (w.heap.size + 1) 0 (pd 5 0 noB)) (w.heap.size + 1) 5 0 noB ∧ Below w.heap.size w (((w.alloc (.cells zpd 74)).alloc (.cells zpd 74)).setCells (w.heap.size + 1) 0 (pd 5 0 noB)) ∧ ((w.alloc (.cells zpd 74)).alloc (.cells zpd 74)).there (w.heap.size + 1) 0 258 := by
  have h1 := PB.zero w
  have h2 := PB.zero (w.alloc (.cells zpd 74))
  rw [World.size_alloc] at h2
  have h1' : PB ((w.alloc (.cells zpd 74)).alloc (.cells zpd 74)) w.heap.size 0 0 noB := h1.later ((Below.refl _ _).alloc (Nat.le_refl _) _)
  have hb : Below w.heap.size w ((w.alloc (.cells zpd 74)).alloc (.cells zpd 74)) := ((Below.refl _ _).alloc (Nat.le_refl _) _).alloc (by rw [World.size_alloc]; omega) _
  refine ⟨h1'.keep (Keeps.setCells (F := fun j => j = w.heap.size + 1) rfl (pd 5 0 noB) 0 _) (by omega), h2.store 5 0 noB, hb.trans ((Keeps.setCells (F := fun j => j = w.heap.size + 1) rfl (pd 5 0 noB) 0 _).below (fun j hj => by omega) hb.size), h2.there⟩
theorem pos_drop {s : ByteArray} {m : List Int} {a : Nat} (h : m <:+ ub s.data.toList) (hp : a + m.length = s.size) : (ub s.data.toList).drop a = m := by
  have h1 := suf_drop h
  rw [ub_len, len_size] at h1
  rw [← h1]
  congr 1
  omega
/-- What holds while the bytes of a member are taken. -/
structure SetC (w wr : World) (f : Int → Bool) (x j : Nat) : Prop where
  res : PB wr w.heap.size 0 0 noB
  var : PB wr (w.heap.size + 1) 5 0 (fun z => f z || (decide ((x : Int) ≤ z) && decide (z < (j : Int))))
  bel : Below w.heap.size w wr
theorem SetC.set {w wr : World} {f : Int → Bool} {x j : Nat} (h : SetC w wr f x j) (hj : x ≤ j) : SetC w (wr.setCell ⟨w.heap.size + 1, 2 + j, none⟩ (.bool true)) f x (j + 1) := by
  have hk : Keeps (fun k => k = w.heap.size + 1) wr (wr.setCell ⟨w.heap.size + 1, 2 + j, none⟩ (.bool true)) := Keeps.setCell (F := fun k => k = w.heap.size + 1) wr (p := ⟨w.heap.size + 1, 2 + j, none⟩) rfl _
  refine ⟨h.res.keep hk (by omega), ?_, h.bel.trans (hk.below (fun j hj => by omega) h.bel.size)⟩
  have h1 := h.var.set j true
  rw [Nat.add_comm j 2] at h1
  unfold PB at h1 ⊢
  rw [h1, pd_congr (f := fun y => if y = (j : Int) then true else f y || (decide ((x : Int) ≤ y) && decide (y < (j : Int)))) (g := fun z => f z || (decide ((x : Int) ≤ z) && decide (z < ((j + 1 : Nat) : Int))))]
  intro z _ _
  by_cases e : z = (j : Int)
  · rw [if_pos e, e]
    simp only [show (x : Int) ≤ (j : Int) by omega, decide_true, Bool.true_and, show ((j : Int) < ((j + 1 : Nat) : Int)) by omega, Bool.or_true]
  · rw [if_neg e]
    have : decide (z < ((j + 1 : Nat) : Int)) = decide (z < (j : Int)) := by
      rw [Bool.eq_iff_iff, decide_eq_true_iff, decide_eq_true_iff]
      omega
    rw [this]
theorem SetC.cell {w wr : World} {f : Int → Bool} {x j : Nat} (h : SetC w wr f x j) (hj : j < 256) : wr.cell? ⟨w.heap.size + 1, 2 + j, none⟩ = some (.bool (f (j : Int) || (decide ((x : Int) ≤ (j : Int)) && decide ((j : Int) < (j : Int))))) := by
  have := h.var.bit hj
  rw [Nat.add_comm j 2] at this
  exact this
theorem SetsI.step {s : ByteArray} {w wr wn : World} {b : Int} {r1 l m : List Int} {ms : List (Int × Int)} {f : Int → Bool} {a a2 x y : Nat} (h : SetsI s w wr r1 (b :: l) ms f a) (hb : b ≠ 93) (hm : memP (b :: l) = some (((x : Int), (y : Int)), m)) (hs : m <:+ ub s.data.toList) (hp : a2 + m.length = s.size) (ha : a < a2) (hc : SetC w wn f x (y + 1)) :
    SetsI s w wn r1 m (ms ++ [((x : Int), (y : Int))]) (fun z => f z || (decide ((x : Int) ≤ z) && decide (z < ((y + 1 : Nat) : Int)))) a2 := by
  refine ⟨hp, by have := h.cnt; rw [List.length_append, List.length_singleton]; omega, hc.res, hc.var, hc.bel, hs, fun z => ?_, ?_⟩
  · rw [List.any_append, ← h.fit z]
    have e : decide (z < ((y + 1 : Nat) : Int)) = decide (z ≤ (y : Int)) := by
      rw [Bool.eq_iff_iff, decide_eq_true_iff, decide_eq_true_iff]
      omega
    simp only [List.any_cons, List.any_nil, Bool.or_false, memHas, e]
  · rw [← h.fin, fin_step hb hm]
/-- What holds while a set is turned over. -/
structure SetN (w wr : World) (f : Int → Bool) (j : Nat) : Prop where
  res : PB wr w.heap.size 0 0 noB
  var : PB wr (w.heap.size + 1) 5 0 (fun z => if z < (j : Int) then !f z else f z)
  bel : Below w.heap.size w wr
theorem SetN.cell {w wr : World} {f : Int → Bool} {j : Nat} (h : SetN w wr f j) (hj : j < 256) : wr.cell? ⟨w.heap.size + 1, 2 + j, none⟩ = some (.bool (f (j : Int))) := by
  have := h.var.bit hj
  rw [Nat.add_comm j 2, if_neg (Int.lt_irrefl _)] at this
  exact this
theorem SetN.set {w wr : World} {f : Int → Bool} {j : Nat} (h : SetN w wr f j) : SetN w (wr.setCell ⟨w.heap.size + 1, 2 + j, none⟩ (.bool (!f (j : Int)))) f (j + 1) := by
  have hk : Keeps (fun k => k = w.heap.size + 1) wr (wr.setCell ⟨w.heap.size + 1, 2 + j, none⟩ (.bool (!f (j : Int)))) := Keeps.setCell (F := fun k => k = w.heap.size + 1) wr (p := ⟨w.heap.size + 1, 2 + j, none⟩) rfl _
  refine ⟨h.res.keep hk (by omega), ?_, h.bel.trans (hk.below (fun j hj => by omega) h.bel.size)⟩
  have h1 := h.var.set j (!f (j : Int))
  rw [Nat.add_comm j 2] at h1
  unfold PB at h1 ⊢
  rw [h1, pd_congr (f := fun y => if y = (j : Int) then !f (j : Int) else if y < (j : Int) then !f y else f y) (g := fun z => if z < ((j + 1 : Nat) : Int) then !f z else f z)]
  intro z _ _
  by_cases e : z = (j : Int)
  · rw [if_pos e, if_pos (by omega), e]
  · rw [if_neg e]
    by_cases e2 : z < (j : Int)
    · rw [if_pos e2, if_pos (by omega)]
    · rw [if_neg e2, if_neg (by omega)]
theorem SetN.start {w wr : World} {f : Int → Bool} (h0 : PB wr w.heap.size 0 0 noB) (h1 : PB wr (w.heap.size + 1) 5 0 f) (hb : Below w.heap.size w wr) : SetN w wr f 0 := by
  refine ⟨h0, ?_, hb⟩
  unfold PB at h1 ⊢
  rw [h1, pd_congr (g := fun z => if z < ((0 : Nat) : Int) then !f z else f z)]
  intro z hz _
  rw [if_neg (by omega)]
theorem SetN.done {w wr : World} {f : Int → Bool} (h : SetN w wr f 256) : PB wr (w.heap.size + 1) 5 0 (fun z => !f z) := by
  have h1 := h.var
  unfold PB at h1 ⊢
  rw [h1, pd_congr (g := fun z => !f z)]
  intro z _ hz
  rw [if_pos (by omega)]
theorem no_slash {w wr : World} {f : Int → Bool} (h0 : PB wr w.heap.size 0 0 noB) (h1 : PB wr (w.heap.size + 1) 5 0 f) (hb : Below w.heap.size w wr) : PB (wr.setCell ⟨w.heap.size + 1, 49, none⟩ (.bool false)) w.heap.size 0 0 noB ∧ PB (wr.setCell ⟨w.heap.size + 1, 49, none⟩ (.bool false)) (w.heap.size + 1) 5 0 (fun z => if z = 47 then false else f z) ∧ Below w.heap.size w (wr.setCell ⟨w.heap.size + 1, 49, none⟩ (.bool false)) := by
  have hk : Keeps (fun k => k = w.heap.size + 1) wr (wr.setCell ⟨w.heap.size + 1, 49, none⟩ (.bool false)) := Keeps.setCell (F := fun k => k = w.heap.size + 1) wr (p := ⟨w.heap.size + 1, 49, none⟩) rfl _
  exact ⟨h0.keep hk (by omega), h1.set 47 false, hb.trans (hk.below (fun j hj => by omega) hb.size)⟩
/-- What a return of the piece wants. -/
theorem ret_facts {w W : World} {f f0 : Int → Bool} (h0 : PB W w.heap.size 0 0 f0) (h1 : PB W (w.heap.size + 1) 5 0 f) (hb : Below w.heap.size w W) :
    ∃ G, G = pd 5 0 f ∧ W.rangeAt (w.heap.size + 1) 0 G ∧ (Try.prog.info? 74).map (·.size) = some G.length ∧ W.there w.heap.size 0 G.toArray.size ∧ (Try.prog.info? 74).map (·.size) = some G.toArray.size ∧ G.toArray.all (·.oneCell') = true ∧ (W.setCells w.heap.size 0 G).rangeAt w.heap.size 0 G ∧ Below w.heap.size w (W.setCells w.heap.size 0 G) := by
  have hs : (pd 5 0 f).toArray.size = 258 := by simp [pd_len]
  refine ⟨_, rfl, h1.range, sizePdL 5 0 f, by rw [hs]; exact h0.there, by rw [sizePd, hs], all_oneCell_toArray (pd_one 5 0 f), (h0.store 5 0 f).range, hb.trans ((Keeps.setCells (F := fun j => j = w.heap.size) rfl (pd 5 0 f) 0 _).below (fun j hj => by omega) hb.size)⟩
theorem SetsI.drop {s : ByteArray} {w wr : World} {r1 r : List Int} {ms : List (Int × Int)} {f : Int → Bool} {a : Nat} (h : SetsI s w wr r1 r ms f a) : (ub s.data.toList).drop a = r := by
  have h1 := suf_drop h.suf
  have h2 := h.pos
  rw [ub_len, len_size] at h1
  rw [← h1]
  congr 1
  omega
end Go.Proofs.Ytkdjjnkhbmmfeaa
