import Derived.Test.YtkdjjnkhbmmfeaaFE4
import Derived.Great.BuildSlice
import Derived.Deep.AppendLies
namespace Go.Proofs.Ytkdjjnkhbmmfeaa
open Go.RowKit Go.Maps

theorem fill_one {s : Nat} (hs : 0 < s) (cells : Array Value) (v : Value) (hv : v.cells.size = s) (hc : cells.size = s) : Instr.fill (fun i => some (i * s, s)) cells [(0, v)] = some v.cells := by
  obtain ⟨r, h1, h2, h3⟩ := Great.fill_dense hs [v] 0 cells (by simpa using hv) (by simp [hc])
  have e : r = v.cells := by
    refine Array.ext_getElem? (fun k => ?_)
    rw [h3 k]
    by_cases hk : k < s
    · rw [if_pos (by simpa using hk), Nat.div_eq_of_lt hk, Nat.mod_eq_of_lt hk]
      simp
    · rw [if_neg (by simpa using hk), Array.getElem?_eq_none (by omega), Array.getElem?_eq_none (by omega)]
  subst e
  exact h1
/-- A slice of one struct is made. -/
theorem wpList_build1 {ops : Array Oper} {rest : List Oper} {o : Oper} {a : Act} {w : World} {Q : Exit → Act → World → Prop} (hg : o.guard = none) (t e : TypeId) (x : Operand) (ho : o.op = .buildSlice t 1 #[(0, x)]) (v : Value) (hv : a.eval x = v)
    (hu : Try.prog.underlying t = some (.slice e)) {ie : TypeInfo} {z : Value} {m : Nat} (hie : Try.prog.info? e = some ie) (hz : ie.zero = some z) (hs : ie.size = m) (h0 : 0 < m) (hm : m ≤ 1000) (hc : v.cells.size = m)
    (h : wpList Try.prog ops Q rest (a.put o.dst (.slice (some ⟨w.heap.size, 0, none⟩) 1 1)) (w.alloc (.cells v.cells e))) : wpList Try.prog ops Q (o :: rest) a w := by
  refine wpList_buildSlice hg t e 1 #[(0, x)] ho v.cells ie z hu hie hz (by rw [hs]; omega) (by rw [hs]; omega) ?_ h
  rw [hs]
  simp only [List.map_toArray, List.map_cons, List.map_nil, hv]
  exact fill_one h0 _ v hc (by simp)
/-- A piece as the document has it: its kind, its byte, its set. -/
structure DP where
  k : Int
  b : Int
  f : Int → Bool
def dcs (qs : List DP) : List Value := qs.flatMap (fun q => pd q.k q.b q.f)
theorem dcs_len (qs : List DP) : (dcs qs).length = qs.length * 258 := by
  induction qs with
  | nil => rfl
  | cons q qs ih =>
    show (pd q.k q.b q.f ++ dcs qs).length = _
    rw [List.length_append, pd_len, ih, List.length_cons]
    omega
theorem dcs_snoc (qs : List DP) (q : DP) : dcs qs ++ pd q.k q.b q.f = dcs (qs ++ [q]) := by simp [dcs]
theorem dcs_at : ∀ (qs : List DP) (i : Nat) (hi : i < qs.length) (j : Nat), j < 258 → (dcs qs)[i * 258 + j]? = (pd qs[i].k qs[i].b qs[i].f)[j]?
  | q :: qs, 0, _, j, hj => by
    show (pd q.k q.b q.f ++ dcs qs)[0 * 258 + j]? = _
    rw [Nat.zero_mul, Nat.zero_add, List.getElem?_append_left (by rw [pd_len]; exact hj)]
    rfl
  | q :: qs, i + 1, hi, j, hj => by
    show (pd q.k q.b q.f ++ dcs qs)[(i + 1) * 258 + j]? = _
    rw [List.getElem?_append_right (by rw [pd_len]; omega), pd_len, show (i + 1) * 258 + j - 258 = i * 258 + j by omega]
    exact dcs_at qs i (by simpa using hi) j hj
/-- Pieces in memory, as the document has them: they are those of the program. -/
def DSv (w : World) (B : Nat) (v : Value) (ps : List Pc) : Prop :=
  ∃ qs : List DP, w.ownsRow B 74 258 v qs.length (dcs qs) ∧ qs.length = ps.length ∧ ∀ i (h1 : i < qs.length) (h2 : i < ps.length), PR qs[i].k qs[i].b qs[i].f ps[i]
theorem DSv.nil (w : World) (B : Nat) : DSv w B (.slice none 0 0) [] := ⟨[], ⟨rfl, .inl ⟨rfl, rfl⟩⟩, rfl, fun i h => absurd h (by simp)⟩
section
variable {w w' : World} {B : Nat} {v : Value} {ps : List Pc} {G : Nat → Prop}
theorem DSv.keep (h : DSv w B v ps) (hk : Keeps G w w') (hG : ∀ k, B ≤ k → k < w.heap.size → ¬ G k) : DSv w' B v ps := by
  obtain ⟨qs, h1, h2, h3⟩ := h
  exact ⟨qs, rowA h1 (fun g hg => hk.block g (rowL h1 hg).1 (hG g (rowL h1 hg).2.1 (rowL h1 hg).1)), h2, h3⟩
theorem DSv.later (h : DSv w B v ps) (hb : Below w.heap.size w w') : DSv w' B v ps := h.keep (Keeps.of_below (fun _ => False) hb) (fun _ _ _ h => h)
/-- One more piece. -/
theorem DSv.push {W : World} (h : DSv W B v ps) (hn : ps.length ≤ 1000) (hB : B ≤ W.heap.size) (k b : Int) (f : Int → Bool) (p : Pc) (hp : PR k b f p) :
    ∃ g cap w', (Builtin.append_ #[47, 47] 47 #[v, .slice (some ⟨W.heap.size, 0, none⟩) 1 1]).run Try.prog (W.alloc (.cells (pd k b f).toArray 74)) = .ok (.slice (some ⟨g, 0, none⟩) (ps.length + 1) cap) w' ∧ DSv w' B (.slice (some ⟨g, 0, none⟩) (ps.length + 1) cap) (ps ++ [p]) ∧ Keeps (fun j => B ≤ j) W w' := by
  obtain ⟨qs, h1, h2, h3⟩ := h
  obtain ⟨i0, hi, hz0, hz1, hz2⟩ := info_parts infoPd
  have h1' : (W.alloc (.cells (pd k b f).toArray 74)).ownsRow B 74 258 v qs.length (dcs qs) := rowA h1 (fun g hg => Below.heap_alloc _ _ _ (rowL h1 hg).1)
  obtain ⟨g, cap, w', r1, r2, r3, _⟩ := run_append_lies (P := Try.prog) (W.alloc (.cells (pd k b f).toArray 74)) 47 47 B 74 i0 (.agg zpd) 258 272 Try.underlying47 hi hz0 hz1 hz2 (by show zpd.size = 258; simp [zpd, pd_len]) (by decide) v qs.length (dcs qs) h1' ⟨W.heap.size, 0, none⟩ 1 1 (pd k b f) (by rw [pd_len]) (World.news_of_block (cs := (pd k b f).toArray) (t := 74) (fr := (0, 0)) (heap_alloc_new W _)) (pd_one k b f) (by omega) (by unfold maxLen; omega) (by omega) (by simp; omega) _ rfl
  refine ⟨g, cap, w', by rw [← h2]; exact r1, ⟨qs ++ [⟨k, b, f⟩], ?_, by simp [h2], fun i q1 q2 => ?_⟩, ?_⟩
  · rw [List.length_append, List.length_singleton, ← h2, ← dcs_snoc]
    exact r2
  · by_cases e : i < qs.length
    · rw [List.getElem_append_left e, List.getElem_append_left (by omega)]
      exact h3 i e (by omega)
    · obtain rfl : i = qs.length := by simp at q1; omega
      rw [List.getElem_append_right (Nat.le_refl _), List.getElem_append_right (by omega)]
      simp only [Nat.sub_self, List.getElem_singleton]
      exact hp
  · have hba : Below W.heap.size W (W.alloc (.cells (pd k b f).toArray 74)) := (Below.refl _ _).alloc (Nat.le_refl _) _
    have hno : ∀ k, k < B → some k ≠ v.ownBlock := fun k hk e => by have := (rowL h1 e.symm).2.1; omega
    exact (Keeps.of_below (fun j => B ≤ j) hba).trans (G := fun j => B ≤ j) ⟨r3.os, r3.tape, r3.output, r3.size, fun k hk1 hk2 => r3.block k hk1 (hno k (by omega))⟩ (fun k e => .inl e)
/-- What is read of pieces. -/
theorem DSv.at {a : Option Addr} {n c : Nat} (h : DSv w B (.slice a n c) ps) : n = ps.length ∧ ∀ i (hi : i < ps.length), ∃ (g : Nat) (k b : Int) (f : Int → Bool), a = some ⟨g, 0, none⟩ ∧ g < w.heap.size ∧ PR k b f ps[i] ∧ w.rangeAt g (i * 258) (pd k b f) ∧ w.cell? ⟨g, i * 258, none⟩ = some (.int .i64 k) := by
  obtain ⟨qs, h1, h2, h3⟩ := h
  obtain ⟨e, hc⟩ := rowC h1
  refine ⟨e.trans h2, fun i hi => ?_⟩
  obtain ⟨g, rfl, _, hgl, hat⟩ := hc (by omega)
  refine ⟨g, qs[i].k, qs[i].b, qs[i].f, rfl, hgl, h3 i (by omega) hi, fun j u hu => ?_, ?_⟩
  · have hj : j < 258 := by
      have := (List.getElem?_eq_some_iff.1 hu).1
      rw [pd_len] at this
      exact this
    exact hat _ _ ((dcs_at qs i (by omega) j hj).trans hu)
  · have := hat _ _ ((dcs_at qs i (by omega) 0 (by omega)).trans (pd_0 _ _ _))
    rwa [Nat.add_zero] at this
end
end Go.Proofs.Ytkdjjnkhbmmfeaa
