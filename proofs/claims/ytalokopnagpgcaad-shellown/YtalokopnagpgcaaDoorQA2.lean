import Derived.Test.YtalokopnagpgcaaDoorQA1
namespace Go.Proofs.YtalokopnagpgcaaDoor
open Go.RowKit Go.Maps

section
variable {lab : Nat → Nat} {w : World}
theorem Gro.drew (hz : LZ lab w) (X : Nat → Prop) : Gro lab lab w w.drew X := Gro.plain hz (Keeps.drew (fun _ => False) w) (fun _ _ h => h.elim)
theorem Gro.boxed (hz : LZ lab w) (o : Obj) (X : Nat → Prop) : Gro lab lab w (w.alloc o) X := Gro.below hz (below_box w o) X
end

/-- The owner of the i-th kept list. -/
abbrev yK (i : Nat) : Nat := 41 + 2 * i
theorem yK_ge (i : Nat) : 41 ≤ yK i := Nat.le_add_right _ _
theorem yK_odd (i : Nat) : yK i % 2 = 1 := by show (41 + 2 * i) % 2 = 1; omega
theorem yK_ne {i j : Nat} (h : i ≠ j) : yK i ≠ yK j := by show 41 + 2 * i ≠ 41 + 2 * j; omega
/-- The owners of what is kept. -/
def isK (y : Nat) : Prop := (20 ≤ y ∧ y ≤ 25) ∨ (40 ≤ y ∧ y % 2 = 1)
theorem isK_of {y : Nat} (h1 : 20 ≤ y) (h2 : y ≤ 25) : isK y := .inl ⟨h1, h2⟩
theorem isK_yK (i : Nat) : isK (yK i) := .inr ⟨by have := yK_ge i; omega, yK_odd i⟩

/-- A list of lists of bytes, each in a block of its own, with its room. -/
def LO (w : World) (lab : Nat → Nat) (yr : Nat) (yb : Nat → Nat) (v : Value) (ds : List (List (List UInt8))) : Prop :=
  ∃ vs : List Value, vs.length = ds.length ∧ OR w lab yr 25 v ds.length vs ∧ ∀ i (hi : i < ds.length), ∃ u, vs[i]? = some u ∧ OR w lab (yb i) 9 u (ds[i]).length (strs ds[i])

section
variable {w w' : World} {lab lab' : Nat → Nat} {yr : Nat} {yb : Nat → Nat} {v : Value} {ds : List (List (List UInt8))} {X : Nat → Prop}
theorem LO.nil (w : World) (lab : Nat → Nat) (yr : Nat) (yb : Nat → Nat) : LO w lab yr yb (.slice none 0 0) [] := ⟨[], rfl, OR.nil _ _ _ _, fun i hi => by cases hi⟩
theorem LO.gro (h : LO w lab yr yb v ds) (g : Gro lab lab' w w' X) (h1 : ¬ X yr) (h2 : ∀ i, i < ds.length → ¬ X (yb i)) : LO w' lab' yr yb v ds := by
  obtain ⟨vs, hl, ho, he⟩ := h
  refine ⟨vs, hl, ho.gro g h1, fun i hi => ?_⟩
  obtain ⟨u, e1, e2⟩ := he i hi
  exact ⟨u, e1, e2.gro g (h2 i hi)⟩
/-- One of them is another's work: its own facts are shown anew. -/
theorem LO.turn (h : LO w lab yr yb v ds) (g : Gro lab lab' w w' X) (h1 : ¬ X yr) {k : Nat} (hk : k < ds.length) (h2 : ∀ i, i < ds.length → i ≠ k → ¬ X (yb i)) (d : List (List UInt8)) (hd : ∀ u q c, v = .slice (some ⟨q, 0, none⟩) ds.length c → w.cell? ⟨q, k, none⟩ = some u → OR w' lab' (yb k) 9 u d.length (strs d)) : LO w' lab' yr yb v (ds.set k d) := by
  obtain ⟨vs, hl, ho, he⟩ := h
  refine ⟨vs, by simpa using hl, by rw [List.length_set]; exact ho.gro g h1, fun i hi => ?_⟩
  rw [List.length_set] at hi
  obtain ⟨u, e1, e2⟩ := he i hi
  by_cases e : i = k
  · subst e
    obtain ⟨q, c, ev, hr, _, _⟩ := ho.row (by omega)
    exact ⟨u, e1, by rw [List.getElem_set_self]; exact hd u q c ev (hr.cell e1)⟩
  · exact ⟨u, e1, by rw [List.getElem_set_ne (fun h => e h.symm)]; exact e2.gro g (h2 i hi e)⟩
theorem LO.form (h : LO w lab yr yb v ds) : ∃ a c, v = .slice a ds.length c := by
  obtain ⟨vs, hl, ho, he⟩ := h
  exact ho.form
theorem LO.at (h : LO w lab yr yb v ds) {i : Nat} (hi : i < ds.length) : ∃ g cap u, v = .slice (some ⟨g, 0, none⟩) ds.length cap ∧ w.cell? ⟨g, i, none⟩ = some u ∧ OR w lab (yb i) 9 u (ds[i]).length (strs ds[i]) := by
  obtain ⟨vs, hl, ho, he⟩ := h
  obtain ⟨g, c, rfl, hr, _, _⟩ := ho.row (by omega)
  obtain ⟨u, e1, e2⟩ := he i hi
  exact ⟨g, c, u, rfl, hr.cell e1, e2⟩
/-- One more list. -/
theorem LO.push (h : LO w lab yr yb v ds) (hz : LZ lab w) (h0 : ∀ i, yr ≠ yb i) (hn : ds.length ≤ 100000000) {u : Value} {d : List (List UInt8)} (hu : OR w lab (yb ds.length) 9 u d.length (strs d)) :
    ∃ g' cap' w', (Builtin.append_ #[35, 35] 35 #[v, .slice (some ⟨w.heap.size, 0, none⟩) 1 1]).run Tryd.prog (w.alloc (.cells #[u] 25)) = .ok (.slice (some ⟨g', 0, none⟩) (ds.length + 1) cap') w' ∧ ∃ lab', Gro lab lab' w w' (fun y => y = yr) ∧ LO w' lab' yr yb (.slice (some ⟨g', 0, none⟩) (ds.length + 1) cap') (ds ++ [d]) := by
  obtain ⟨vs, hl, ho, he⟩ := h
  have hx : u.oneCell' = true := by obtain ⟨a, c, rfl⟩ := hu.form; rfl
  obtain ⟨g', cap', w', hrun, hw, hg, hat⟩ := app_lists ho.1 u hx hn (Nat.zero_le _)
  have hbx := below_box w (.cells #[u] 25)
  have hk : Keeps (fun k => v.ownBlock = some k) w w' := ⟨hg.os.trans hbx.os, hg.tape.trans hbx.tape, hg.output.trans hbx.output, Nat.le_trans hbx.size hg.size, fun k hk hq => (hg.block k (Nat.lt_of_lt_of_le hk hbx.size) (fun e => hq e.symm)).trans (hbx.block k hk)⟩
  have G := Gro.keeps hz hk yr (fun k _ hf => ho.2 k hf)
  refine ⟨g', cap', w', hrun, _, G, vs ++ [u], by simp [hl], ⟨by rw [List.length_append]; exact hw, fun k hk' => ?_⟩, fun i hi => ?_⟩
  · have e : k = g' := by simpa [Value.ownBlock] using hk'.symm
    subst e
    rcases hat with e | e
    · exact G.tag (rowLt ho.1 e) (ho.2 _ e)
    · exact relab_new (by omega) (rowLt hw rfl)
  · by_cases e : i < ds.length
    · obtain ⟨u2, e1, e2⟩ := he i e
      refine ⟨u2, by rw [List.getElem?_append_left (by omega)]; exact e1, ?_⟩
      rw [List.getElem_append_left e]
      exact e2.gro G (fun e => h0 i e.symm)
    · have ei : i = ds.length := by simp at hi; omega
      subst ei
      refine ⟨u, by rw [List.getElem?_append_right (by omega), hl]; simp, ?_⟩
      simp only [List.getElem_append_right (Nat.le_refl _), Nat.sub_self, List.getElem_cons_zero]
      exact hu.gro G (fun e => h0 _ e.symm)
end

set_option maxRecDepth 20000 in
/-- Bytes are appended to a list: another that is no longer than it is keeps its own. -/
theorem OR.beside {w : World} {lab lab' : Nat → Nat} {y n n' : Nat} {v v' : Value} {l l' : List (List UInt8)} (h : OR w lab y 9 v n (strs l)) (h' : OR w lab y 9 v' n' (strs l')) (hnn : n ≤ n') (ad : Addr) (m c : Nat) (nw : List (List UInt8)) (hm : nw.length = m) (hnw : ∀ j u, (strs nw)[j]? = some u → w.cell? (ad.add j) = some u) (h0 : 0 < m) (hb : n' + m ≤ 1000000000) {r : Value} {w' : World}
    (hr : (Builtin.append_ #[25, 25] 25 #[v', .slice (some ad) m c]).run Tryd.prog w = .ok r w') {X : Nat → Prop} (G : Gro lab lab' w w' X) : OR w' lab' y 9 v n (strs l) := by
  refine ⟨?_, fun k hk => G.tag (rowLt h.1 hk) (h.2 k hk)⟩
  obtain ⟨i0, hi, hz0, hz1, hz2⟩ := info_parts infoStr
  have hlen : (strs nw).length = m * 1 := by simp [strs, hm]
  have hone : ∀ u ∈ strs nw, u.oneCell' = true := by
    intro u hu
    obtain ⟨x, _, rfl⟩ := List.mem_map.1 hu
    rfl
  obtain ⟨g', cap', w2, hr2, hw, hg, hat, hlt⟩ := run_append_lies (P := Tryd.prog) w 25 25 0 9 i0 (.string ⟨#[]⟩) 1 16 Tryd.underlying25 hi hz0 hz1 hz2 rfl (by decide) v' n' (strs l') h'.1 ad m c (strs nw) hlen hnw hone h0 (by unfold maxLen; omega) (by omega) (Nat.zero_le _) _ rfl
  rw [hr] at hr2
  injection hr2 with e1 e2
  subst e2
  obtain ⟨hl, ⟨rfl, rfl⟩ | ⟨b, cap, cur, rfl, hb0, hblk, hnc, hmc, hcs, ht⟩⟩ := h.1
  · exact ⟨hl, .inl ⟨rfl, rfl⟩⟩
  · have hlt2 := (Array.getElem?_eq_some_iff.1 hblk).1
    by_cases hk : v'.ownBlock = some b
    · obtain ⟨hl', ⟨rfl, rfl⟩ | ⟨b', cap2, cur', rfl, hb0', hblk', hnc', hmc', hcs', ht'⟩⟩ := h'.1
      · cases hk
      · obtain rfl : b' = b := by simpa [Value.ownBlock] using hk
        rw [hblk] at hblk'
        injection hblk' with e5
        injection e5 with e6 e7 e8
        subst e6
        simp only [Nat.mul_one] at hl hcs ht hl' hcs' ht'
        obtain rfl : cap2 = cap := by omega
        by_cases hroom : n' + m ≤ cap2
        · have hr3 := run_append_room (P := Tryd.prog) w 25 25 9 i0 Tryd.underlying25 hi b' n' cap2 cur hblk ad m c (strs nw) (by rw [hz1]; exact hlen) hnw hone hroom (by rw [hz1, hlen]; omega)
          rw [hr] at hr3
          injection hr3 with e3 e4
          have hblk2 := setRow_heap w b' cur (cur.toList.take (n' * i0.size) ++ strs nw ++ cur.toList.drop (n' * i0.size + (strs nw).length)).toArray _ _ hblk
          rw [← e4] at hblk2
          rw [hz1, Nat.mul_one] at hblk2
          have hbl : (strs nw).length = m := by simpa using hlen
          refine ⟨by simpa using hl, .inr ⟨b', cap2, _, rfl, Nat.zero_le _, hblk2, hnc, hmc, ?_, ?_⟩⟩
          · simp only [List.size_toArray, List.length_append, List.length_take, List.length_drop, Array.length_toList, hbl]
            omega
          · simp only [Nat.mul_one]
            rw [List.take_append_of_le_length (by simp; omega), List.take_append_of_le_length (by simp; omega), List.take_take, Nat.min_eq_left hnn]
            exact ht
        · have hr3 := run_append_grow (P := Tryd.prog) w 25 25 9 i0 (.string ⟨#[]⟩) Tryd.underlying25 hi hz0 ⟨b', 0, none⟩ n' cap2 (strs l') (by rw [hz1]; simpa using hl') (h'.1.cells (g := b') rfl) ad m c (strs nw) (by rw [hz1]; exact hlen) hnw (by omega) (by omega) (growslice_fits (by omega) (by rw [hz2]; omega))
          rw [hr] at hr3
          injection hr3 with e3 e4
          refine ⟨by simpa using hl, .inr ⟨b', cap2, cur, rfl, Nat.zero_le _, ?_, hnc, hmc, by simpa using hcs, by simpa using ht⟩⟩
          rw [e4, Below.heap_alloc w.drew _ b' hlt2]
          exact hblk
    · exact ⟨hl, .inr ⟨b, cap, cur, rfl, hb0, (hg.block b hlt2 (fun e => hk e.symm)).trans hblk, hnc, hmc, hcs, ht⟩⟩

section
variable {w w' : World} {lab lab' : Nat → Nat} {yr : Nat} {yb : Nat → Nat} {v : Value} {A B : List (List (List UInt8))} {d : List (List UInt8)} {X : Nat → Prop}
/-- The list behind the first ones. -/
theorem LO.mid (h : LO w lab yr yb v (A ++ d :: B)) : ∃ g cap u, v = .slice (some ⟨g, 0, none⟩) (A ++ d :: B).length cap ∧ w.cell? ⟨g, A.length, none⟩ = some u ∧ OR w lab (yb A.length) 9 u d.length (strs d) := by
  obtain ⟨g, cap, u, e1, e2, e3⟩ := h.at (i := A.length) (by simp)
  have e : (A ++ d :: B)[A.length]'(by simp) = d := by simp
  rw [e] at e3
  exact ⟨g, cap, u, e1, e2, e3⟩
theorem LO.midTurn (h : LO w lab yr yb v (A ++ d :: B)) (g : Gro lab lab' w w' X) (h1 : ¬ X yr) (h2 : ∀ i, i ≠ A.length → ¬ X (yb i)) (d' : List (List UInt8)) (hd : ∀ u q c, v = .slice (some ⟨q, 0, none⟩) (A ++ d :: B).length c → w.cell? ⟨q, A.length, none⟩ = some u → OR w' lab' (yb A.length) 9 u d'.length (strs d')) : LO w' lab' yr yb v (A ++ d' :: B) := by
  have := h.turn g h1 (k := A.length) (by simp) (fun i _ hi => h2 i hi) d' hd
  simpa using this
/-- A byte of one of them is written. -/
theorem LO.put (h : LO w lab yr yb v (A ++ d :: B)) (hz : LZ lab w) (hr : yr ≠ yb A.length) (hne : ∀ i, i ≠ A.length → yb i ≠ yb A.length) {j : Nat} (hj : j < d.length) (x : List UInt8) : ∃ gL cL g c y0, v = .slice (some ⟨gL, 0, none⟩) (A ++ d :: B).length cL ∧ w.cell? ⟨gL, A.length, none⟩ = some (.slice (some ⟨g, 0, none⟩) d.length c) ∧ w.cell? ⟨g, j, none⟩ = some (.string y0) ∧ w.frozen? ⟨g, j, none⟩ = false ∧ d.length ≤ c ∧ Gro lab lab w (w.setCell ⟨g, j, none⟩ (.string ⟨x.toArray⟩)) (fun y => y = yb A.length) ∧ LO (w.setCell ⟨g, j, none⟩ (.string ⟨x.toArray⟩)) lab yr yb v (A ++ d.set j x :: B) := by
  obtain ⟨gL, cL, u, e1, e2, e3⟩ := h.mid
  obtain ⟨g, c, rfl, c1, f1, hc, G, hq⟩ := e3.put hz hj x
  refine ⟨gL, cL, g, c, _, e1, e2, c1, f1, hc, G, h.midTurn G (fun e => hr e) (fun i hi e => hne i hi e) _ (fun u q c' ev eu => ?_)⟩
  rw [e1] at ev
  injection ev with q1 q2 q3
  injection q1 with q4
  injection q4 with q5
  subst q5
  rw [e2] at eu
  cases eu
  rw [List.length_set]
  exact hq
/-- Bytes are appended to a list that began as one of them. -/
theorem LO.app (h : LO w lab yr yb v (A ++ d :: B)) (hz : LZ lab w) (hr : yr ≠ yb A.length) (hne : ∀ i, i ≠ A.length → yb i ≠ yb A.length) {n' : Nat} {v' : Value} {l' : List (List UInt8)} (h' : OR w lab (yb A.length) 9 v' n' (strs l')) (hnn : d.length ≤ n') (ad : Addr) (m c : Nat) (nw : List (List UInt8)) (hm : nw.length = m) (hnw : ∀ j u, (strs nw)[j]? = some u → w.cell? (ad.add j) = some u) (h0 : 0 < m) (hb : n' + m ≤ 1000000000) :
    ∃ g' cap' w', (Builtin.append_ #[25, 25] 25 #[v', .slice (some ad) m c]).run Tryd.prog w = .ok (.slice (some ⟨g', 0, none⟩) (n' + m) cap') w' ∧ ∃ lab', Gro lab lab' w w' (fun x => x = yb A.length) ∧ OR w' lab' (yb A.length) 9 (.slice (some ⟨g', 0, none⟩) (n' + m) cap') (n' + m) (strs (l' ++ nw)) ∧ LO w' lab' yr yb v (A ++ d :: B) := by
  obtain ⟨g', cap', w', hrun, lab', G, o1, _⟩ := h'.app hz ad m c nw hm hnw h0 (by omega)
  obtain ⟨gL, cL, u, e1, e2, e3⟩ := h.mid
  refine ⟨g', cap', w', hrun, lab', G, o1, h.midTurn G (fun e => hr e) (fun i hi e => hne i hi e) _ (fun u2 q c' ev eu => ?_)⟩
  rw [e1] at ev
  injection ev with q1 q2 q3
  injection q1 with q4
  injection q4 with q5
  subst q5
  rw [e2] at eu
  cases eu
  exact e3.beside h' hnn ad m c nw hm hnw h0 hb hrun G
end
end Go.Proofs.YtalokopnagpgcaaDoor
