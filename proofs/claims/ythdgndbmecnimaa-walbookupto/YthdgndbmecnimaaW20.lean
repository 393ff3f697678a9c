import Derived.Test.YthdgndbmecnimaaW19
import Derived.Deep.RegionHeld
import Derived.Deep.AppendLies
section
namespace Go.Proofs.Ythdgndbmecnimaa
open Go.RowKit Go.Maps

section
variable {P : Program} {ops : Array Oper} {Q : Exit → Act → World → Prop} {md : Region.Mode} {S : World → Prop} {k : Nat}

/-- Whatever order is picked from here on, and S holds behind every operation that is carried out, till number k is. -/
def wpAnyS (P : Program) (md : Region.Mode) (ops : Array Oper) (Q : Exit → Act → World → Prop) (S : World → Prop) (k : Nat) : Nat → Array Bool → Act → World → Prop
  | 0, listed, a, w => Region.ready md ops listed = [] ∧ Q .normal a w
  | fuel + 1, listed, a, w =>
    (Region.ready md ops listed = [] → Q .normal a w) ∧
    ∀ i ∈ Region.ready md ops listed, wpOp P ops Q i (fun a' w' => ((listed.setIfInBounds i true).getD k true = true ∨ S w') ∧ wpAnyS P md ops Q S k fuel (listed.setIfInBounds i true) a' w') a w

theorem wpAny_of_sw : ∀ (fuel : Nat) (listed : Array Bool) (a : Act) (w : World), wpAnyS P md ops Q S k fuel listed a w → wpAny P md ops Q fuel listed a w
  | 0, _, _, _, h => h
  | fuel + 1, _, _, _, h => ⟨h.1, fun i hi => wpOp_mono (fun a' w' h' => wpAny_of_sw fuel _ a' w' h'.2) (h.2 i hi)⟩

/-- Number k waits for number i. -/
def waitsOn (md : Region.Mode) (ops : Array Oper) (k i : Nat) : Bool :=
  match ops[k]? with
  | some o => o.after.any (fun e => Region.binds md e && e.on == i)
  | none => false

theorem waits_not {i : Nat} {ok : Oper} (hw : waitsOn md ops k i = true) (hk : ops[k]? = some ok) (hn : ∀ e ∈ ok.after, Region.binds md e = true → e.on ≠ i) : False := by
  unfold waitsOn at hw
  rw [hk] at hw
  obtain ⟨j, hj, hb⟩ := Array.any_eq_true.1 hw
  rw [Bool.and_eq_true] at hb
  exact hn _ (Array.getElem_mem hj) hb.1 (by simpa using hb.2)

theorem wpAnyS_first {i : Nat} {oi : Oper} {v : Value} {T : World → Prop} (hi : ops[i]? = some oi) (hsel : ∀ (j : Nat) (o : Oper) cs b, ops[j]? = some o → o.op ≠ .select cs b)
    (hQ : ∀ c a w, Q (.panic c) (a.put oi.dst v) w → Q (.panic c) a w) (hik : i ≠ k) (hT : (∀ w, T w) ∨ ((∀ w, S w → T w) ∧ waitsOn md ops k i = true)) :
    ∀ (fuel : Nat) (listed : Array Bool) (a : Act) (w : World),
      (∀ j oj, ops[j]? = some oj → j ≠ i → listed.getD j true = false → (∀ e ∈ oj.after, Region.binds md e = true → e.on ≠ i) → oi.apart ops oj = true) →
      i ∈ Region.ready md ops listed → YieldsIf P ops T oi v a → (listed.getD k true = true ∨ S w) → ((∀ w, T w) ∨ listed.getD k true = false) →
      wpAnyS P md ops Q S k fuel (listed.setIfInBounds i true) (a.put oi.dst v) w → wpAnyS P md ops Q S k (fuel + 1) listed a w := by
  intro fuel
  have tw : ∀ (listed : Array Bool) (w : World), (listed.getD k true = true ∨ S w) → ((∀ w, T w) ∨ listed.getD k true = false) → T w := by
    intro listed w h1 h2
    rcases h2 with h2 | h2
    · exact h2 w
    · rcases hT with h3 | h3
      · exact h3 w
      · rcases h1 with h1 | h1
        · rw [h1] at h2
          cases h2
        · exact h3.1 w h1
  induction fuel with
  | zero =>
    intro listed a w _ hr hy hI hk H
    refine ⟨fun h => (by rw [h] at hr; cases hr), fun j hj => ?_⟩
    by_cases hji : j = i
    · subst hji
      exact hy.wpOp hi (tw listed w hI hk) ⟨by rw [getD_set_ne true hik]; exact hI, H⟩
    · have := ready_mono hj hji
      rw [H.1] at this
      cases this
  | succ fuel ih =>
    intro listed a w hfree hr hy hI hk H
    refine ⟨fun h => (by rw [h] at hr; cases hr), fun j hj => ?_⟩
    by_cases hji : j = i
    · subst hji
      exact hy.wpOp hi (tw listed w hI hk) ⟨by rw [getD_set_ne true hik]; exact hI, H⟩
    · have h1 := H.2 j (ready_mono hj hji)
      obtain ⟨hjun, oj, hoj, hall⟩ := mem_ready.1 hj
      have hnot : ∀ e ∈ oj.after, Region.binds md e = true → e.on ≠ i := fun e he hb heq => by
        have h1 := hall e he hb
        have h0 := (mem_ready.1 hr).1
        rw [heq] at h1
        rcases Nat.lt_or_ge i listed.size with h' | h'
        · simp [h'] at h0 h1; rw [h0] at h1; cases h1
        · simp [Array.getElem?_eq_none h'] at h1
      have h2 := wpOp_putIf hoj (hfree j oj hoj hji hjun hnot) (fun cs b => hsel i oi cs b hi) (fun cs b => hsel j oj cs b hoj) hQ hy h1
      have hfree' : ∀ k ok, ops[k]? = some ok → k ≠ i → (listed.setIfInBounds j true).getD k true = false →
          (∀ e ∈ ok.after, Region.binds md e = true → e.on ≠ i) → oi.apart ops ok = true := fun k ok hk hki hun hno => by
        refine hfree k ok hk hki ?_ hno
        by_cases hjk : j = k
        · subst hjk; exact hjun
        · rw [getD_set_ne true hjk] at hun; exact hun
      have hk' : (∀ w, T w) ∨ (listed.setIfInBounds j true).getD k true = false := by
        rcases hT with h3 | h3
        · exact .inl h3
        · rcases hk with hk | hk
          · exact .inl hk
          · refine .inr ?_
            have hjk : j ≠ k := by
              rintro rfl
              exact waits_not h3.2 hoj hnot
            rw [getD_set_ne true hjk]
            exact hk
      refine wpOp_mono (fun a' w' h3 => ⟨?_, ih (listed.setIfInBounds j true) a' w' hfree' (ready_mono hr (Ne.symm hji)) h3.1 ?_ hk' ?_⟩) h2
      · have := h3.2.1
        rw [Array.setIfInBounds_comm _ _ (Ne.symm hji), getD_set_ne true hik] at this
        exact this
      · have := h3.2.1
        rw [Array.setIfInBounds_comm _ _ (Ne.symm hji), getD_set_ne true hik] at this
        exact this
      · rw [Array.setIfInBounds_comm _ _ hji]
        exact h3.2.2

/-- An operation that yields in whatever world. -/
theorem wpAnyS_pure {i : Nat} {oi : Oper} {v : Value} {fuel : Nat} {listed : Array Bool} {a : Act} {w : World} (hi : ops[i]? = some oi) (hik : i ≠ k)
    (hs : Region.noSelect ops = true) (hf : Region.free md ops listed i = true) (hr : (Region.ready md ops listed).contains i = true)
    (hQ : ∀ c a w, Q (.panic c) (a.put oi.dst v) w → Q (.panic c) a w) (hy : YieldsIf P ops (fun _ => True) oi v a) (hI : listed.getD k true = true ∨ S w)
    (h : wpAnyS P md ops Q S k fuel (listed.setIfInBounds i true) (a.put oi.dst v) w) : wpAnyS P md ops Q S k (fuel + 1) listed a w :=
  wpAnyS_first hi (Region.noSelect_spec hs) hQ hik (.inl (fun _ => trivial)) fuel listed a w (Region.free_spec hi hf) (by simpa using hr) hy hI (.inl (fun _ => trivial)) h
/-- A load of what S tells, for which number k waits. -/
theorem wpAnyS_load {i : Nat} {oi : Oper} {v : Value} {fuel : Nat} {listed : Array Bool} {a : Act} {w : World} (hi : ops[i]? = some oi) (hik : i ≠ k) (hw : waitsOn md ops k i = true)
    (hs : Region.noSelect ops = true) (hf : Region.free md ops listed i = true) (hr : (Region.ready md ops listed).contains i = true)
    (hQ : ∀ c a w, Q (.panic c) (a.put oi.dst v) w → Q (.panic c) a w) (hy : YieldsIf P ops S oi v a) (hk : listed.getD k true = false) (hS : S w)
    (h : wpAnyS P md ops Q S k fuel (listed.setIfInBounds i true) (a.put oi.dst v) w) : wpAnyS P md ops Q S k (fuel + 1) listed a w :=
  wpAnyS_first hi (Region.noSelect_spec hs) hQ hik (.inr ⟨fun _ h => h, hw⟩) fuel listed a w (Region.free_spec hi hf) (by simpa using hr) hy (.inr hS) (.inr hk) h
/-- The only one that may come up. -/
theorem wpAnyS_one {i : Nat} {o : Oper} {fuel : Nat} {listed : Array Bool} {a : Act} {w : World} (hr : Region.ready md ops listed = [i]) (ho : ops[i]? = some o)
    (h : ∀ K' : Act → World → Prop, Shut (∀ a w, ((listed.setIfInBounds i true).getD k true = true ∨ S w) → wpAnyS P md ops Q S k fuel (listed.setIfInBounds i true) a w → K' a w) → if Region.wanted o (yielded ops a.tmps) = true then Oper.wp P o a w K' Q else K' (a.put o.dst undef) w) :
    wpAnyS P md ops Q S k (fuel + 1) listed a w := by
  refine ⟨fun h0 => (by rw [hr] at h0; cases h0), fun j hj => ?_⟩
  rw [hr] at hj
  obtain rfl : j = i := by simpa using hj
  exact wpOp_step ho (fun K' hK => h K' (fun a w hS hW => hK a w ⟨hS, hW⟩))
theorem wpAnyS_done {listed : Array Bool} {a : Act} {w : World} (hr : Region.ready md ops listed = []) (h : Q .normal a w) :
    ∀ fuel, wpAnyS P md ops Q S k fuel listed a w
  | 0 => ⟨hr, h⟩
  | _ + 1 => ⟨fun _ => h, by rw [hr]; simp⟩
theorem wp_region_sw {id : Nat} {a : Act} {w : World} (k : Nat) (S : World → Prop) (hm : P.follows .mixedOrders = true) (hS : S w.drew)
    (h : S w.drew → wpAnyS P .any ops Q S k ops.size (Array.replicate ops.size false) a w.drew) : (Code.region id ops true).wp P Q a w :=
  wp_region_any hm (wpAny_of_sw _ _ _ _ (h hS))
theorem sw_append_run {o : Oper} {a : Act} {w w' : World} {K : Act → World → Prop} (s x : Operand) (t : TypeId) (ho : o.op = .call { callee := .builtin .append, args := #[s, x], argTypes := #[t, t] }) (v u r : Value) (hs : a.eval s = v) (hx : a.eval x = u)
    (hr : (Builtin.append_ #[t, t] o.type #[v, u]).run P w = .ok r w') (h : K (a.put o.dst r) w') : o.wp P a w K Q := by
  unfold Oper.wp execOp
  simp only [ho, resolve, invoke, builtin, Sem.run_bind, Sem.run_pure, Result.andThen_ok, List.map_toArray, List.map_cons, List.map_nil, hs, hx, hr]
  exact h
theorem swList_append_run {o : Oper} {rest : List Oper} {a : Act} {w w' : World} (hg : o.guard = none) (s x : Operand) (t : TypeId) (ho : o.op = .call { callee := .builtin .append, args := #[s, x], argTypes := #[t, t] }) (v u r : Value) (hs : a.eval s = v) (hx : a.eval x = u)
    (hr : (Builtin.append_ #[t, t] o.type #[v, u]).run P w = .ok r w') (h : wpList P ops Q rest (a.put o.dst r) w') : wpList P ops Q (o :: rest) a w :=
  wpList_plain hg fun _ hK => sw_append_run s x t ho v u r hs hx hr (hK _ _ h)
end
end Go.Proofs.Ythdgndbmecnimaa
end

section
namespace Go.Proofs.Ythdgndbmecnimaa
open Go.RowKit Go.Maps

/-- The owner of the i-th kept list. -/
abbrev yK (i : Nat) : Nat := 41 + 2 * i
theorem yK_ge (i : Nat) : 41 ≤ yK i := Nat.le_add_right _ _
theorem yK_odd (i : Nat) : yK i % 2 = 1 := by show (41 + 2 * i) % 2 = 1; omega
theorem yK_ne {i j : Nat} (h : i ≠ j) : yK i ≠ yK j := by show 41 + 2 * i ≠ 41 + 2 * j; omega
/-- The owners of what is kept. -/
def isK (y : Nat) : Prop := (20 ≤ y ∧ y ≤ 25) ∨ (40 ≤ y ∧ y % 2 = 1)
theorem isK_of {y : Nat} (h1 : 20 ≤ y) (h2 : y ≤ 25) : isK y := .inl ⟨h1, h2⟩
theorem isK_yK (i : Nat) : isK (yK i) := .inr ⟨by have := yK_ge i; omega, yK_odd i⟩

/-- A list of lists of bytes, each in a block of its own, with its room. -/
def LO (w : World) (lab : Nat → Nat) (yr : Nat) (yb : Nat → Nat) (v : Value) (ds : List (List Int)) : Prop :=
  ∃ vs : List Value, vs.length = ds.length ∧ OR w lab yr 27 v ds.length vs ∧ ∀ i (hi : i < ds.length), ∃ u, vs[i]? = some u ∧ OR w lab (yb i) 5 u (ds[i]).length (bs ds[i])

section
variable {w w' : World} {lab lab' : Nat → Nat} {yr : Nat} {yb : Nat → Nat} {v : Value} {ds : List (List Int)} {X : Nat → Prop}
theorem LO.nil (w : World) (lab : Nat → Nat) (yr : Nat) (yb : Nat → Nat) : LO w lab yr yb (.slice none 0 0) [] := ⟨[], rfl, OR.nil _ _ _ _, fun i hi => by cases hi⟩
theorem LO.gro (h : LO w lab yr yb v ds) (g : Gro lab lab' w w' X) (h1 : ¬ X yr) (h2 : ∀ i, i < ds.length → ¬ X (yb i)) : LO w' lab' yr yb v ds := by
  obtain ⟨vs, hl, ho, he⟩ := h
  refine ⟨vs, hl, ho.gro g h1, fun i hi => ?_⟩
  obtain ⟨u, e1, e2⟩ := he i hi
  exact ⟨u, e1, e2.gro g (h2 i hi)⟩
/-- One of them is another's work: its own facts are shown anew. -/
theorem LO.turn (h : LO w lab yr yb v ds) (g : Gro lab lab' w w' X) (h1 : ¬ X yr) {k : Nat} (hk : k < ds.length) (h2 : ∀ i, i < ds.length → i ≠ k → ¬ X (yb i)) (d : List Int) (hd : ∀ u q c, v = .slice (some ⟨q, 0, none⟩) ds.length c → w.cell? ⟨q, k, none⟩ = some u → OR w' lab' (yb k) 5 u d.length (bs d)) : LO w' lab' yr yb v (ds.set k d) := by
  obtain ⟨vs, hl, ho, he⟩ := h
  refine ⟨vs, by simpa using hl, by rw [List.length_set]; exact ho.gro g h1, fun i hi => ?_⟩
  rw [List.length_set] at hi
  obtain ⟨u, e1, e2⟩ := he i hi
  by_cases e : i = k
  · subst e
    obtain ⟨q, c, ev, hr, _, _⟩ := ho.row (by omega)
    exact ⟨u, e1, by rw [List.getElem_set_self]; exact hd u q c ev (hr.cell e1)⟩
  · exact ⟨u, e1, by rw [List.getElem_set_ne (fun h => e h.symm)]; exact e2.gro g (h2 i hi e)⟩
theorem LO.form (h : LO w lab yr yb v ds) : ∃ a c, v = .slice a ds.length c := by
  obtain ⟨vs, hl, ho, he⟩ := h
  exact ho.form
theorem LO.at (h : LO w lab yr yb v ds) {i : Nat} (hi : i < ds.length) : ∃ g cap u, v = .slice (some ⟨g, 0, none⟩) ds.length cap ∧ w.cell? ⟨g, i, none⟩ = some u ∧ OR w lab (yb i) 5 u (ds[i]).length (bs ds[i]) := by
  obtain ⟨vs, hl, ho, he⟩ := h
  obtain ⟨g, c, rfl, hr, _, _⟩ := ho.row (by omega)
  obtain ⟨u, e1, e2⟩ := he i hi
  exact ⟨g, c, u, rfl, hr.cell e1, e2⟩
/-- One more list. -/
theorem LO.push (h : LO w lab yr yb v ds) (hz : LZ lab w) (h0 : ∀ i, yr ≠ yb i) (hn : ds.length ≤ 7000000000000) {u : Value} {d : List Int} (hu : OR w lab (yb ds.length) 5 u d.length (bs d)) :
    ∃ g' cap' w', (Builtin.append_ #[22, 22] 22 #[v, .slice (some ⟨w.heap.size, 0, none⟩) 1 1]).run Try.prog (w.alloc (.cells #[u] 27)) = .ok (.slice (some ⟨g', 0, none⟩) (ds.length + 1) cap') w' ∧ ∃ lab', Gro lab lab' w w' (fun y => y = yr) ∧ LO w' lab' yr yb (.slice (some ⟨g', 0, none⟩) (ds.length + 1) cap') (ds ++ [d]) := by
  obtain ⟨vs, hl, ho, he⟩ := h
  have hx : u.oneCell' = true := by obtain ⟨a, c, rfl⟩ := hu.form; rfl
  obtain ⟨g', cap', w', hrun, hw, hg, hat⟩ := app_list2 ho.1 u hx hn
  have hbx := below_box w (.cells #[u] 27)
  have hk : Keeps (fun k => v.ownBlock = some k) w w' := ⟨hg.os.trans hbx.os, hg.tape.trans hbx.tape, hg.output.trans hbx.output, Nat.le_trans hbx.size hg.size, fun k hk hq => (hg.block k (Nat.lt_of_lt_of_le hk hbx.size) (fun e => hq e.symm)).trans (hbx.block k hk)⟩
  have G := Gro.keeps hz hk yr (fun k _ hf => ho.2 k hf)
  refine ⟨g', cap', w', hrun, _, G, vs ++ [u], by simp [hl], ⟨by rw [List.length_append]; exact hw, fun k hk' => ?_⟩, fun i hi => ?_⟩
  · have e : k = g' := by simpa [Value.ownBlock] using hk'.symm
    subst e
    rcases hat with e | e
    · exact G.tag (rowLt ho.1 e) (ho.2 _ e)
    · exact relab_new (by omega) (rowLt hw rfl)
  · by_cases e : i < ds.length
    · obtain ⟨u2, e1, e2⟩ := he i e
      refine ⟨u2, by rw [List.getElem?_append_left (by omega)]; exact e1, ?_⟩
      rw [List.getElem_append_left e]
      exact e2.gro G (fun e => h0 i e.symm)
    · have ei : i = ds.length := by simp at hi; omega
      subst ei
      refine ⟨u, by rw [List.getElem?_append_right (by omega), hl]; simp, ?_⟩
      simp only [List.getElem_append_right (Nat.le_refl _), Nat.sub_self, List.getElem_cons_zero]
      exact hu.gro G (fun e => h0 _ e.symm)
end

/-- What is kept, in memory. -/
structure Kq (w : World) (lab : Nat → Nat) (p : Nat) (vL vW : Value) (ds ws : List (List Int)) : Prop where
  box : w.heap[p]? = some (.cells #[vL, vW] 35 (0, 0))
  bp : lab p = 20
  ls : LO w lab 21 yK vL ds
  wt : LX w lab 22 (fun _ => 0) vW ws []

section
variable {w w' : World} {lab lab' : Nat → Nat} {p : Nat} {vL vW : Value} {ds ws : List (List Int)} {X : Nat → Prop}
theorem Kq.lt (h : Kq w lab p vL vW ds ws) : p < w.heap.size := (Array.getElem?_eq_some_iff.1 h.box).1
theorem Kq.far (h : Kq w lab p vL vW ds ws) (g : Gro lab lab' w w' X) (hX : ∀ y, X y → ¬ isK y) (h0 : ¬ X 0) : Kq w' lab' p vL vW ds ws := by
  have n : ∀ y, isK y → ¬ X y := fun y h1 h2 => hX y h2 h1
  exact ⟨(g.block h.lt h.bp (n 20 (isK_of (by omega) (by omega)))).trans h.box, g.tag h.lt h.bp, h.ls.gro g (n _ (isK_of (by omega) (by omega))) (fun i _ => n _ (isK_yK i)), h.wt.gro g (n _ (isK_of (by omega) (by omega))) (fun i _ => h0)⟩
theorem Kq.later (h : Kq w lab p vL vW ds ws) (hz : LZ lab w) (hb : Below w.heap.size w w') : Kq w' lab p vL vW ds ws :=
  h.far (Gro.below hz hb (fun _ => False)) (fun _ h => h.elim) (fun h => h)
end

/-- An empty list takes the bytes of another. -/
theorem app_empty {w : World} {lab : Nat → Nat} {y n : Nat} {v : Value} {l : List Int} (hz : LZ lab w) (ho : OR w lab y 5 v n (bs l)) (hn : n ≤ 100000000) :
    ∃ g c F, (Builtin.append_ #[27, 27] 27 #[.slice (some ⟨w.heap.size, 0, none⟩) 0 0, v]).run Try.prog (w.alloc (.cells #[] 5)) = .ok (.slice (some ⟨g, 0, none⟩) n c) F ∧ Below w.heap.size w F ∧ SL F lab 0 (some ⟨g, 0, none⟩) n l := by
  have hE : (w.alloc (.cells #[] 5)).ownsRow w.heap.size 5 1 (.slice (some ⟨w.heap.size, 0, none⟩) 0 0) 0 (bs []) :=
    ⟨rfl, .inr ⟨w.heap.size, 0, #[], rfl, Nat.le_refl _, heap_alloc_new _ _, Nat.le_refl _, Nat.zero_le _, rfl, rfl⟩⟩
  have hbx := below_box w (.cells #[] 5)
  obtain ⟨i0, hi, hz0, hz1, hz2⟩ := info_parts infoU8
  by_cases h0 : n = 0
  · subst h0
    have hl : l = [] := by have := ho.1.1; simpa using this
    subst hl
    obtain ⟨a, c, rfl⟩ := ho.form
    refine ⟨w.heap.size, 0, w.alloc (.cells #[] 5), ?_, hbx, ⟨rfl, fun _ => rfl, fun x hx i hi => by cases hi⟩, fun z hz hp => by cases hp⟩
    cases a <;> simp [Builtin.append_, run_underlying Try.underlying27, sizeOf, typeInfo, hi, Builtin.lenOf, Builtin.firstCells, loadCells, loadCellsFrom, storeCells]
  · obtain ⟨g, c, rfl, hr, _, _⟩ := (ho.gro (Gro.below hz hbx (fun _ => False)) (fun h => h)).row (by omega)
    have hll : l.length = n := by have := ho.1.1; simpa using this
    obtain ⟨g', cap', F, hrun, hw, hg, hat, hlt⟩ := run_append_lies (P := Try.prog) (w.alloc (.cells #[] 5)) 27 27 w.heap.size 5 i0 (.int .u8 0) 1 1 Try.underlying27 hi hz0 hz1 hz2 rfl (by decide) _ 0 (bs []) hE ⟨g, 0, none⟩ n c (bs l) (by simp [bs, hll]) (fun j u hu => by rw [addr_add, Nat.zero_add]; exact hr.cell hu) (by
      intro u hu
      obtain ⟨x, _, rfl⟩ := List.mem_map.1 hu
      rfl) (by omega) (by unfold maxLen; omega) (by omega) (by simp) _ rfl
    rw [Nat.zero_add] at hrun hw
    have hb : Below w.heap.size w F := hbx.grown hg (by simp) (fun k e => by
      have e : w.heap.size = k := by simpa [Value.ownBlock] using e
      omega)
    have hw2 : F.ownsRow w.heap.size 5 1 (.slice (some ⟨g', 0, none⟩) n cap') n (bs l) := by simpa [bs] using hw
    have hlo := rowLow hw2 rfl
    obtain ⟨g2, c2, e1, _, hr2, _⟩ := RowAt.of_owns hw2 (by intro e; cases e)
    injection e1 with q1 q2 q3
    injection q1 with q4
    injection q4 with q5
    subst q5
    exact ⟨g', cap', F, hrun, hb, hll ▸ hr2.src, fun z hz' _ => by cases hz'; exact hz _ hlo⟩
end Go.Proofs.Ythdgndbmecnimaa
end

section
namespace Go.Proofs.Ythdgndbmecnimaa
open Go.RowKit Go.Maps

set_option maxRecDepth 20000 in
set_option maxHeartbeats 8000000 in
/-- A list that was handed out is kept. -/
theorem add_any {w : World} {lab : Nat → Nat} {p : Nat} {v vL vW : Value} {ds : List (List Int)} {l : List Int} (h : Kq w lab p vL vW ds ds) (hz : LZ lab w) (ho : OR w lab (yK ds.length) 5 v l.length (bs l)) (hn : l.length ≤ 100000000) (hN : ds.length ≤ 7000000000000) :
    Calls Try.prog 15 #[.pointer (some ⟨p, 0, none⟩), v] w fun e w' => e = .returned (.tuple #[]) ∧ ∃ lab' uL uW, Gro lab lab' w w' (fun y => 20 ≤ y ∧ y ≤ 22) ∧ Kq w' lab' p uL uW (ds ++ [l]) (ds ++ [l]) := by
  have hv1 : v.oneCell' = true := by obtain ⟨a, c, rfl⟩ := ho.form; rfl
  have y1 : ∀ i, (21 : Nat) ≠ yK i := fun i e => by have := yK_ge i; omega
  have y2 : yK ds.length ≠ 21 ∧ yK ds.length ≠ 20 ∧ yK ds.length ≠ 23 ∧ yK ds.length ≠ 22 := by have := yK_ge ds.length; omega
  obtain ⟨g0, c0, w1, hrun, L1, G1, l1⟩ := h.ls.push hz y1 hN ho
  have d0 : w.cell? ⟨p, 0, none⟩ = some vL := cell_of_block h.box rfl
  have b1 : w1.heap[p]? = some (.cells #[vL, vW] 35 (0, 0)) := (G1.block h.lt h.bp (fun e => by omega)).trans h.box
  have p1 := G1.tag h.lt h.bp
  have k1 : w1.cell? ⟨p, 0, none⟩ = some vL := cell_of_block b1 rfl
  have f1 := frozen_of_block b1 0
  obtain ⟨V0, hV0⟩ : ∃ V, V = Value.slice (some ⟨g0, 0, none⟩) (ds.length + 1) c0 := ⟨_, rfl⟩
  rw [← hV0] at hrun l1
  have G2 : Gro L1 L1 w1 (w1.setCell ⟨p, 0, none⟩ V0) (fun y => y = 20) := Gro.plain G1.lz (Keeps.setCell (F := fun k => k = p) w1 (p := ⟨p, 0, none⟩) rfl _) (fun k _ e => by rw [e]; exact p1)
  have b2 : (w1.setCell ⟨p, 0, none⟩ V0).heap[p]? = some (.cells #[V0, vW] 35 (0, 0)) := (heap_setCell_same _ _ 0 _ _ _ b1).trans rfl
  have l2 := l1.gro G2 (fun e => by omega) (fun i _ e => by have := yK_ge i; omega)
  have o2 := (ho.gro G1 y2.1).gro G2 y2.2.1
  have t2 := (h.wt.gro G1 (fun e => by omega) (fun i _ e => by omega)).gro G2 (fun e => by omega) (fun i _ e => by omega)
  have GG2 := G1.join G2 (Z := fun y => 20 ≤ y ∧ y ≤ 22) (fun y e => by omega) (fun y e => by omega)
  obtain ⟨W1, hW1⟩ : ∃ W, W = w1.setCell ⟨p, 0, none⟩ V0 := ⟨_, rfl⟩
  rw [← hW1] at b2 l2 o2 t2 GG2
  have hS : W1.drew.cell? ⟨p, 1, none⟩ = some vW := cell_of_block (w := W1.drew) b2 rfl
  have GD := Gro.drew GG2.lz (fun _ => False)
  obtain ⟨g3, c3, F, r3, hb3, s3⟩ := app_empty GD.lz (o2.gro GD (fun h => h)) hn
  have hE : (W1.drew.alloc (.cells #[] 5)).cell? ⟨p, 1, none⟩ = some vW := cell_later (below_box W1.drew _) hS
  have GD3 := GD.trans (Gro.below GD.lz hb3 (fun _ => False))
  have p2 := G2.tag (Array.getElem?_eq_some_iff.1 b1).1 p1
  have hp2 := (Array.getElem?_eq_some_iff.1 b2).1
  have p3 := GD3.tag hp2 p2
  have b3 : F.heap[p]? = some (.cells #[V0, vW] 35 (0, 0)) := (GD3.block hp2 p2 (fun h => h)).trans b2
  have kF : F.cell? ⟨p, 1, none⟩ = some vW := cell_of_block b3 rfl
  have kA : (F.alloc (.cells #[.slice (some ⟨g3, 0, none⟩) l.length c3] 27)).cell? ⟨p, 1, none⟩ = some vW := cell_later (below_box F _) kF
  obtain ⟨g4, c4, w4, r4, L4, G4, t4⟩ := (t2.gro GD3 (fun h => h) (fun i hi h => h)).push GD3.lz (fun i e => by omega) (by rw [List.length_nil]; omega) (.slice (some ⟨g3, 0, none⟩) l.length c3) rfl
  have hp3 := (Array.getElem?_eq_some_iff.1 b3).1
  have b4 : w4.heap[p]? = some (.cells #[V0, vW] 35 (0, 0)) := (G4.block hp3 p3 (fun e => by omega)).trans b3
  have p4 := G4.tag hp3 p3
  have k4 : w4.cell? ⟨p, 1, none⟩ = some vW := cell_of_block b4 rfl
  have f4 := frozen_of_block b4 1
  obtain ⟨V1, hV1⟩ : ∃ V, V = Value.slice (some ⟨g4, 0, none⟩) (ds.length + ([] : List Value).length + 1) c4 := ⟨_, rfl⟩
  rw [← hV1] at r4 t4
  have G5 : Gro L4 L4 w4 (w4.setCell ⟨p, 1, none⟩ V1) (fun y => y = 20) := Gro.plain G4.lz (Keeps.setCell (F := fun k => k = p) w4 (p := ⟨p, 1, none⟩) rfl _) (fun k _ e => by rw [e]; exact p4)
  have hfin : ∃ lab' uL uW, Gro lab lab' w (w4.setCell ⟨p, 1, none⟩ V1) (fun y => 20 ≤ y ∧ y ≤ 22) ∧ Kq (w4.setCell ⟨p, 1, none⟩ V1) lab' p uL uW (ds ++ [l]) (ds ++ [l]) := by
    refine ⟨L4, V0, V1, GG2.join (GD3.join (G4.join G5 (Z := fun y => 20 ≤ y ∧ y ≤ 22) (fun y e => by omega) (fun y e => by omega)) (Z := fun y => 20 ≤ y ∧ y ≤ 22) (fun _ h => h.elim) (fun _ h => h)) (fun _ h => h) (fun _ h => h), ⟨(heap_setCell_same _ _ 1 _ _ _ b4).trans rfl, p4, ?_, ?_⟩⟩
    · exact ((l2.gro GD3 (fun h => h) (fun i _ h => h)).gro G4 (fun e => by omega) (fun i _ e => by have := yK_ge i; omega)).gro G5 (fun e => by omega) (fun i _ e => by have := yK_ge i; omega)
    · exact LX.close (t4.gro G5 (fun e => by omega) (fun i _ e => by omega)) ((s3.gro G4 (fun e => by omega)).gro G5 (fun e => by omega))
  have HF := Hid.mk hfin
  have HR0 := Hid.mk hrun
  have HR1 := Hid.mk r3
  have HR2 := Hid.mk r4
  have HW1 := Hid.mk hW1
  obtain ⟨a, c, hv⟩ := ho.form
  subst hv
  subst hV0
  subst hV1
  generalize l.length = n at *
  clear hfin hrun r3 r4 hW1 G1 l1 b1 p1 G2 b2 l2 o2 t2 GG2 GD hb3 s3 GD3 p2 hp2 p3 b3 G4 t4 hp3 b4 p4 G5 h hz ho hv1 y1 y2 hN hn
  go_enter Try.func15, Try.ntmps15
  go_wp2_with (at_builtin; refine swList_append_run rfl _ _ 22 rfl vL (.slice (some ⟨w.heap.size, 0, none⟩) 1 1) _ rfl rfl HR0.out ?_)
  rw [← HW1.out]
  clear HR0 HW1 d0 k1 f1
  refine wp_region_sw 9 (fun w => w.cell? ⟨p, 1, none⟩ = some vW) (by kernel_rfl) hS (fun hHeld => ?_)
  refine wpAnyS_pure (i := 0) (oi := { dst := some 14, op := Op.move (Operand.tmp 0), type := 33, pos := "outright.go:451", after := #[], guard := none }) (v := .pointer (some ⟨p, 0, none⟩)) rfl (by decide) (by kernel_rfl) (by kernel_rfl) (by kernel_rfl) (fun _ _ _ h => h) (Or.inl ⟨by rfl, ?_⟩) (Or.inr hHeld) ?_
  · intro w hSw
    clear hSw
    go_simp
  try simp only [Act.put, List.setIfInBounds_toArray, List.set_cons_zero, List.set_cons_succ]
  refine wpAnyS_pure (i := 1) (oi := { dst := some 15, op := Op.move (Operand.tmp 0), type := 33, pos := "outright.go:451", after := #[], guard := none }) (v := .pointer (some ⟨p, 0, none⟩)) rfl (by decide) (by kernel_rfl) (by kernel_rfl) (by kernel_rfl) (fun _ _ _ h => h) (Or.inl ⟨by rfl, ?_⟩) (Or.inr hHeld) ?_
  · intro w hSw
    clear hSw
    go_simp
  try simp only [Act.put, List.setIfInBounds_toArray, List.set_cons_zero, List.set_cons_succ]
  refine wpAnyS_pure (i := 2) (oi := { dst := some 16, op := Op.nilCheck (Operand.tmp 15), type := 0, pos := "outright.go:451", after := #[{ on := 1, ground := Ground.data }], guard := none }) (v := .pointer (some ⟨p, 0, none⟩)) rfl (by decide) (by kernel_rfl) (by kernel_rfl) (by kernel_rfl) (fun _ _ _ h => h) (Or.inl ⟨by rfl, ?_⟩) (Or.inr hHeld) ?_
  · intro w hSw
    clear hSw
    go_simp
  try simp only [Act.put, List.setIfInBounds_toArray, List.set_cons_zero, List.set_cons_succ]
  refine wpAnyS_pure (i := 3) (oi := { dst := some 17, op := Op.fieldAddr 35 (Operand.tmp 16) 1, type := 0, pos := "outright.go:451", after := #[{ on := 2, ground := Ground.data }], guard := none }) (v := .pointer (some ⟨p, 1, none⟩)) rfl (by decide) (by kernel_rfl) (by kernel_rfl) (by kernel_rfl) (fun _ _ _ h => h) (Or.inl ⟨by rfl, ?_⟩) (Or.inr hHeld) ?_
  · intro w hSw
    clear hSw
    go_simp
  try simp only [Act.put, List.setIfInBounds_toArray, List.set_cons_zero, List.set_cons_succ]
  refine wpAnyS_load (i := 4) (oi := { dst := some 18, op := Op.load 22 (Operand.tmp 17), type := 22, pos := "outright.go:451", after := #[{ on := 3, ground := Ground.data }], guard := none }) (v := vW) rfl (by decide) (by kernel_rfl) (by kernel_rfl) (by kernel_rfl) (by kernel_rfl) (fun _ _ _ h => h) (Or.inl ⟨by rfl, ?_⟩) (by rfl) hHeld ?_
  · intro w hSw
    (try dsimp only at hSw)
    go_simp
  try simp only [Act.put, List.setIfInBounds_toArray, List.set_cons_zero, List.set_cons_succ]
  refine wpAnyS_pure (i := 6) (oi := { dst := some 20, op := Op.move (Operand.tmp 1), type := 27, pos := "outright.go:451", after := #[], guard := none }) (v := .slice a n c) rfl (by decide) (by kernel_rfl) (by kernel_rfl) (by kernel_rfl) (fun _ _ _ h => h) (Or.inl ⟨by rfl, ?_⟩) (Or.inr hHeld) ?_
  · intro w hSw
    clear hSw
    go_simp
  try simp only [Act.put, List.setIfInBounds_toArray, List.set_cons_zero, List.set_cons_succ]
  refine wpAnyS_one (i := 5) (o := { dst := some 19, op := Op.buildSlice 27 0 #[], type := 27, pos := "outright.go:451", after := #[], guard := none }) (by kernel_rfl) rfl (fun K hK => ?_)
  go_simp
  refine hK.out _ _ (Or.inr hE) ?_
  clear hK K
  try simp only [Act.put, List.setIfInBounds_toArray, List.set_cons_zero, List.set_cons_succ]
  refine wpAnyS_one (i := 7) (o := { dst := some 21, op := Op.call { callee := Callee.builtin Builtin.append, args := #[Operand.tmp 19, Operand.tmp 20], argTypes := #[27, 27] }, type := 27, pos := "outright.go:451", after := #[{ on := 5, ground := Ground.data }, { on := 6, ground := Ground.data }], guard := none }) (by kernel_rfl) rfl (fun K hK => ?_)
  rw [if_pos (by rfl)]
  refine sw_append_run _ _ _ rfl (.slice (some ⟨W1.heap.size, 0, none⟩) 0 0) (.slice a n c) _ rfl rfl HR1.out ?_
  refine hK.out _ _ (Or.inr kF) ?_
  clear hK K
  try simp only [Act.put, List.setIfInBounds_toArray, List.set_cons_zero, List.set_cons_succ]
  refine wpAnyS_one (i := 8) (o := { dst := some 22, op := Op.buildSlice 22 1 #[(0, Operand.tmp 21)], type := 22, pos := "outright.go:451", after := #[{ on := 7, ground := Ground.data }], guard := none }) (by kernel_rfl) rfl (fun K hK => ?_)
  go_simp
  refine hK.out _ _ (Or.inr kA) ?_
  clear hK K
  try simp only [Act.put, List.setIfInBounds_toArray, List.set_cons_zero, List.set_cons_succ]
  refine wpAnyS_one (i := 9) (o := { dst := some 23, op := Op.call { callee := Callee.builtin Builtin.append, args := #[Operand.tmp 18, Operand.tmp 22], argTypes := #[22, 22] }, type := 22, pos := "outright.go:451", after := #[{ on := 4, ground := Ground.data }, { on := 8, ground := Ground.data }, { on := 7, ground := Ground.chain }], guard := none }) (by kernel_rfl) rfl (fun K hK => ?_)
  rw [if_pos (by rfl)]
  refine sw_append_run _ _ _ rfl (vW) (.slice (some ⟨F.heap.size, 0, none⟩) 1 1) _ rfl rfl HR2.out ?_
  refine hK.out _ _ (Or.inl (by rfl)) ?_
  clear hK K
  try simp only [Act.put, List.setIfInBounds_toArray, List.set_cons_zero, List.set_cons_succ]
  refine wpAnyS_pure (i := 10) (oi := { dst := some 24, op := Op.nilCheck (Operand.tmp 14), type := 0, pos := "outright.go:451", after := #[{ on := 0, ground := Ground.data }, { on := 0, ground := Ground.phase }, { on := 1, ground := Ground.phase }, { on := 2, ground := Ground.phase }, { on := 3, ground := Ground.phase }, { on := 4, ground := Ground.phase }, { on := 5, ground := Ground.phase }, { on := 6, ground := Ground.phase }, { on := 7, ground := Ground.phase }, { on := 8, ground := Ground.phase }, { on := 9, ground := Ground.phase }], guard := none }) (v := .pointer (some ⟨p, 0, none⟩)) rfl (by decide) (by kernel_rfl) (by kernel_rfl) (by kernel_rfl) (fun _ _ _ h => h) (Or.inl ⟨by rfl, ?_⟩) (Or.inl (by rfl)) ?_
  · intro w hSw
    clear hSw
    go_simp
  try simp only [Act.put, List.setIfInBounds_toArray, List.set_cons_zero, List.set_cons_succ]
  refine wpAnyS_pure (i := 11) (oi := { dst := some 25, op := Op.fieldAddr 35 (Operand.tmp 24) 1, type := 0, pos := "outright.go:451", after := #[{ on := 10, ground := Ground.data }, { on := 0, ground := Ground.phase }, { on := 1, ground := Ground.phase }, { on := 2, ground := Ground.phase }, { on := 3, ground := Ground.phase }, { on := 4, ground := Ground.phase }, { on := 5, ground := Ground.phase }, { on := 6, ground := Ground.phase }, { on := 7, ground := Ground.phase }, { on := 8, ground := Ground.phase }, { on := 9, ground := Ground.phase }], guard := none }) (v := .pointer (some ⟨p, 1, none⟩)) rfl (by decide) (by kernel_rfl) (by kernel_rfl) (by kernel_rfl) (fun _ _ _ h => h) (Or.inl ⟨by rfl, ?_⟩) (Or.inl (by rfl)) ?_
  · intro w hSw
    clear hSw
    go_simp
  try simp only [Act.put, List.setIfInBounds_toArray, List.set_cons_zero, List.set_cons_succ]
  refine wpAnyS_one (i := 12) (o := { dst := none, op := Op.store 22 (Operand.tmp 25) (Operand.tmp 23), type := 0, pos := "outright.go:451", after := #[{ on := 11, ground := Ground.data }, { on := 9, ground := Ground.data }, { on := 9, ground := Ground.chain }, { on := 0, ground := Ground.phase }, { on := 1, ground := Ground.phase }, { on := 2, ground := Ground.phase }, { on := 3, ground := Ground.phase }, { on := 4, ground := Ground.phase }, { on := 5, ground := Ground.phase }, { on := 6, ground := Ground.phase }, { on := 7, ground := Ground.phase }, { on := 8, ground := Ground.phase }, { on := 9, ground := Ground.phase }], guard := none }) (by kernel_rfl) rfl (fun K hK => ?_)
  go_simp
  refine hK.out _ _ (Or.inl (by rfl)) ?_
  clear hK K
  try simp only [Act.put, List.setIfInBounds_toArray, List.set_cons_zero, List.set_cons_succ]
  refine wpAnyS_done (by kernel_rfl) ?_ _
  exact bodyPost_end (results_none Try.results15 _ _ _) rfl ⟨rfl, HF.out⟩
end Go.Proofs.Ythdgndbmecnimaa
end

section
namespace Go.Proofs.Ythdgndbmecnimaa
open Go.RowKit Go.Maps

set_option maxRecDepth 20000 in
/-- Bytes are appended to a list: another that is no longer than it is keeps its own. -/
theorem OR.beside {w : World} {lab lab' : Nat → Nat} {y n n' : Nat} {v v' : Value} {l l' : List Int} (h : OR w lab y 5 v n (bs l)) (h' : OR w lab y 5 v' n' (bs l')) (hnn : n ≤ n') (ad : Addr) (m c : Nat) (nw : List Int) (hm : nw.length = m) (hnw : ∀ j u, (bs nw)[j]? = some u → w.cell? (ad.add j) = some u) (h0 : 0 < m) (hb : n' + m ≤ 1000000000) {r : Value} {w' : World}
    (hr : (Builtin.append_ #[27, 27] 27 #[v', .slice (some ad) m c]).run Try.prog w = .ok r w') {X : Nat → Prop} (G : Gro lab lab' w w' X) : OR w' lab' y 5 v n (bs l) := by
  refine ⟨?_, fun k hk => G.tag (rowLt h.1 hk) (h.2 k hk)⟩
  obtain ⟨i0, hi, hz0, hz1, hz2⟩ := info_parts infoU8
  have hlen : (bs nw).length = m * 1 := by simp [bs, hm]
  have hone : ∀ u ∈ bs nw, u.oneCell' = true := by
    intro u hu
    obtain ⟨x, _, rfl⟩ := List.mem_map.1 hu
    rfl
  obtain ⟨g', cap', w2, hr2, hw, hg, hat, hlt⟩ := run_append_lies (P := Try.prog) w 27 27 0 5 i0 (.int .u8 0) 1 1 Try.underlying27 hi hz0 hz1 hz2 rfl (by decide) v' n' (bs l') h'.1 ad m c (bs nw) hlen hnw hone h0 (by unfold maxLen; omega) (by omega) (Nat.zero_le _) _ rfl
  rw [hr] at hr2
  injection hr2 with e1 e2
  subst e2
  obtain ⟨hl, ⟨rfl, rfl⟩ | ⟨b, cap, cur, rfl, hb0, hblk, hnc, hmc, hcs, ht⟩⟩ := h.1
  · exact ⟨hl, .inl ⟨rfl, rfl⟩⟩
  · have hlt2 := (Array.getElem?_eq_some_iff.1 hblk).1
    by_cases hk : v'.ownBlock = some b
    · obtain ⟨hl', ⟨rfl, rfl⟩ | ⟨b', cap2, cur', rfl, hb0', hblk', hnc', hmc', hcs', ht'⟩⟩ := h'.1
      · cases hk
      · obtain rfl : b' = b := by simpa [Value.ownBlock] using hk
        rw [hblk] at hblk'
        injection hblk' with e5
        injection e5 with e6 e7 e8
        subst e6
        simp only [Nat.mul_one] at hl hcs ht hl' hcs' ht'
        obtain rfl : cap2 = cap := by omega
        by_cases hroom : n' + m ≤ cap2
        · have hr3 := run_append_room (P := Try.prog) w 27 27 5 i0 Try.underlying27 hi b' n' cap2 cur hblk ad m c (bs nw) (by rw [hz1]; exact hlen) hnw hone hroom (by rw [hz1, hlen]; omega)
          rw [hr] at hr3
          injection hr3 with e3 e4
          have hblk2 := setRow_heap w b' cur (cur.toList.take (n' * i0.size) ++ bs nw ++ cur.toList.drop (n' * i0.size + (bs nw).length)).toArray _ _ hblk
          rw [← e4] at hblk2
          rw [hz1, Nat.mul_one] at hblk2
          have hbl : (bs nw).length = m := by simpa using hlen
          refine ⟨by simpa using hl, .inr ⟨b', cap2, _, rfl, Nat.zero_le _, hblk2, hnc, hmc, ?_, ?_⟩⟩
          · simp only [List.size_toArray, List.length_append, List.length_take, List.length_drop, Array.length_toList, hbl]
            omega
          · simp only [Nat.mul_one]
            rw [List.take_append_of_le_length (by simp; omega), List.take_append_of_le_length (by simp; omega), List.take_take, Nat.min_eq_left hnn]
            exact ht
        · have hr3 := run_append_grow (P := Try.prog) w 27 27 5 i0 (.int .u8 0) Try.underlying27 hi hz0 ⟨b', 0, none⟩ n' cap2 (bs l') (by rw [hz1]; simpa using hl') (h'.1.cells (g := b') rfl) ad m c (bs nw) (by rw [hz1]; exact hlen) hnw (by omega) (by omega) (growslice_fits (by omega) (by rw [hz2]; omega))
          rw [hr] at hr3
          injection hr3 with e3 e4
          refine ⟨by simpa using hl, .inr ⟨b', cap2, cur, rfl, Nat.zero_le _, ?_, hnc, hmc, by simpa using hcs, by simpa using ht⟩⟩
          rw [e4, Below.heap_alloc w.drew _ b' hlt2]
          exact hblk
    · exact ⟨hl, .inr ⟨b, cap, cur, rfl, hb0, (hg.block b hlt2 (fun e => hk e.symm)).trans hblk, hnc, hmc, hcs, ht⟩⟩

section
variable {w w' : World} {lab lab' : Nat → Nat} {yr p : Nat} {yb : Nat → Nat} {v vL vW : Value} {A B ws ds : List (List Int)} {d : List Int} {X : Nat → Prop}
/-- The list behind the first ones. -/
theorem LO.mid (h : LO w lab yr yb v (A ++ d :: B)) : ∃ g cap u, v = .slice (some ⟨g, 0, none⟩) (A ++ d :: B).length cap ∧ w.cell? ⟨g, A.length, none⟩ = some u ∧ OR w lab (yb A.length) 5 u d.length (bs d) := by
  obtain ⟨g, cap, u, e1, e2, e3⟩ := h.at (i := A.length) (by simp)
  have e : (A ++ d :: B)[A.length]'(by simp) = d := by simp
  rw [e] at e3
  exact ⟨g, cap, u, e1, e2, e3⟩
theorem LO.midTurn (h : LO w lab yr yb v (A ++ d :: B)) (g : Gro lab lab' w w' X) (h1 : ¬ X yr) (h2 : ∀ i, i ≠ A.length → ¬ X (yb i)) (d' : List Int) (hd : ∀ u q c, v = .slice (some ⟨q, 0, none⟩) (A ++ d :: B).length c → w.cell? ⟨q, A.length, none⟩ = some u → OR w' lab' (yb A.length) 5 u d'.length (bs d')) : LO w' lab' yr yb v (A ++ d' :: B) := by
  have := h.turn g h1 (k := A.length) (by simp) (fun i _ hi => h2 i hi) d' hd
  simpa using this
theorem Kq.turn (h : Kq w lab p vL vW (A ++ d :: B) ws) (g : Gro lab lab' w w' X) (hX : ∀ y, 20 ≤ y → y ≤ 22 → ¬ X y) (h0 : ¬ X 0) (h2 : ∀ i, i ≠ A.length → ¬ X (yK i)) (d' : List Int) (hd : ∀ u q c, vL = .slice (some ⟨q, 0, none⟩) (A ++ d :: B).length c → w.cell? ⟨q, A.length, none⟩ = some u → OR w' lab' (yK A.length) 5 u d'.length (bs d')) : Kq w' lab' p vL vW (A ++ d' :: B) ws :=
  ⟨(g.block h.lt h.bp (hX 20 (by omega) (by omega))).trans h.box, g.tag h.lt h.bp, h.ls.midTurn g (hX _ (by omega) (by omega)) h2 d' hd, h.wt.gro g (hX _ (by omega) (by omega)) (fun _ _ => h0)⟩
/-- A byte of a kept list is written. -/
theorem Kq.put (h : Kq w lab p vL vW (A ++ d :: B) ws) (hz : LZ lab w) {j : Nat} (hj : j < d.length) (x : Int) : ∃ gL cL g c y0, vL = .slice (some ⟨gL, 0, none⟩) (A ++ d :: B).length cL ∧ w.cell? ⟨gL, A.length, none⟩ = some (.slice (some ⟨g, 0, none⟩) d.length c) ∧ w.cell? ⟨g, j, none⟩ = some (.int .u8 y0) ∧ w.frozen? ⟨g, j, none⟩ = false ∧ d.length ≤ c ∧ Gro lab lab w (w.setCell ⟨g, j, none⟩ (.int .u8 x)) (fun y => y = yK A.length) ∧ Kq (w.setCell ⟨g, j, none⟩ (.int .u8 x)) lab p vL vW (A ++ d.set j x :: B) ws := by
  obtain ⟨gL, cL, u, e1, e2, e3⟩ := h.ls.mid
  obtain ⟨g, c, rfl, c1, f1, hc, G, hq⟩ := e3.put hz hj x
  have ge := yK_ge A.length
  refine ⟨gL, cL, g, c, _, e1, e2, c1, f1, hc, G, h.turn G (fun y h1 h2 e => by omega) (fun e => by omega) (fun i hi e => yK_ne hi e) _ (fun u q c' ev eu => ?_)⟩
  rw [e1] at ev
  injection ev with q1 q2 q3
  injection q1 with q4
  injection q4 with q5
  subst q5
  rw [e2] at eu
  cases eu
  rw [List.length_set]
  exact hq
/-- Bytes are appended to a list that began as a kept one. -/
theorem Kq.app (h : Kq w lab p vL vW (A ++ d :: B) ws) (hz : LZ lab w) {n' : Nat} {v' : Value} {l' : List Int} (h' : OR w lab (yK A.length) 5 v' n' (bs l')) (hnn : d.length ≤ n') (ad : Addr) (m c : Nat) (nw : List Int) (hm : nw.length = m) (hnw : ∀ j u, (bs nw)[j]? = some u → w.cell? (ad.add j) = some u) (h0 : 0 < m) (hb : n' + m ≤ 1000000000) :
    ∃ g' cap' w', (Builtin.append_ #[27, 27] 27 #[v', .slice (some ad) m c]).run Try.prog w = .ok (.slice (some ⟨g', 0, none⟩) (n' + m) cap') w' ∧ ∃ lab', Gro lab lab' w w' (fun x => x = yK A.length) ∧ OR w' lab' (yK A.length) 5 (.slice (some ⟨g', 0, none⟩) (n' + m) cap') (n' + m) (bs (l' ++ nw)) ∧ Kq w' lab' p vL vW (A ++ d :: B) ws := by
  obtain ⟨g', cap', w', hrun, lab', G, o1, _⟩ := h'.app hz ad m c nw hm hnw h0 (by omega)
  have ge := yK_ge A.length
  obtain ⟨gL, cL, u, e1, e2, e3⟩ := h.ls.mid
  refine ⟨g', cap', w', hrun, lab', G, o1, h.turn G (fun y h1 h2 e => by omega) (fun e => by omega) (fun i hi e => yK_ne hi e) _ (fun u2 q c' ev eu => ?_)⟩
  rw [e1] at ev
  injection ev with q1 q2 q3
  injection q1 with q4
  injection q4 with q5
  subst q5
  rw [e2] at eu
  cases eu
  exact e3.beside h' hnn ad m c nw hm hnw h0 hb hrun G
theorem Kq.row (h : Kq w lab p vL vW ds ws) : ∃ a c, vL = .slice a ds.length c := h.ls.form
end
end Go.Proofs.Ythdgndbmecnimaa
end

section
namespace Go.Proofs.Ythdgndbmecnimaa
open Go.RowKit Go.Maps

/-- A slice. -/
structure SV where
  a : Option Addr
  n : Nat
  c : Nat
def SV.v (s : SV) : Value := .slice s.a s.n s.c
/-- Slices as cells. -/
def vls (l : List SV) : List Value := l.map SV.v
@[simp] theorem vls_len (l : List SV) : (vls l).length = l.length := by simp [vls]
theorem infoOne : (Try.prog.info? 27).map (fun i => (i.zero, i.size, i.bytes)) = some (some (.slice none 0 0), 1, 24) := by kernel_rfl
theorem infoRowV : (Try.prog.info? 22).map (fun i => (i.zero, i.size, i.bytes)) = some (some (.slice none 0 0), 1, 24) := by kernel_rfl
theorem app_listsV {W : World} {B k : Nat} {v : Value} {vs : List Value} (hrow : W.ownsRow B 22 1 v k vs) (x : Value) (hx : x.oneCell' = true) (hk : k ≤ 100000000) (hB : B ≤ W.heap.size) :
    ∃ g cap w', (Builtin.append_ #[36, 36] 36 #[v, .slice (some ⟨W.heap.size, 0, none⟩) 1 1]).run Try.prog (W.alloc (.cells #[x] 22)) = .ok (.slice (some ⟨g, 0, none⟩) (k + 1) cap) w' ∧ w'.ownsRow B 22 1 (.slice (some ⟨g, 0, none⟩) (k + 1) cap) (k + 1) (vs ++ [x]) ∧ (W.alloc (.cells #[x] 22)).grownBy w' v.ownBlock ∧ (v.ownBlock = some g ∨ g = W.heap.size + 1) := by
  obtain ⟨i0, hi, hz0, hz1, hz2⟩ := info_parts infoRowV
  obtain ⟨g, cap, w', h1, h2, h3, h4, _⟩ := run_append_lies (P := Try.prog) (W.alloc (.cells #[x] 22)) 36 36 B 22 i0 (.slice none 0 0) 1 24 Try.underlying36 hi hz0 hz1 hz2 rfl (by decide) v k vs (rowAgree hrow (fun g hg => Below.heap_alloc _ _ _ (rowLt hrow hg))) ⟨W.heap.size, 0, none⟩ 1 1 [x] rfl (World.news_of_block (cs := #[x]) (t := 22) (fr := (0, 0)) (heap_alloc_new W _)) (by simpa using hx) (by omega) (by unfold maxLen; omega) (by omega) (by simp; omega) _ rfl
  exact ⟨g, cap, w', h1, h2, h3, h4.imp (fun e => e) (fun e => e.trans (by simp))⟩
section
variable {lab : Nat → Nat} {w : World} {y n : Nat} {v : Value} {l : List SV}
/-- A byte is written. -/
theorem OR.putV (h : OR w lab y 27 v n (vls l)) (hz : LZ lab w) {i : Nat} (hi : i < n) (m : SV) : ∃ g c, v = .slice (some ⟨g, 0, none⟩) n c ∧ w.cell? ⟨g, i, none⟩ = some (l.getD i ⟨none, 0, 0⟩).v ∧ w.frozen? ⟨g, i, none⟩ = false ∧ n ≤ c ∧ Gro lab lab w (w.setCell ⟨g, i, none⟩ m.v) (fun x => x = y) ∧ OR (w.setCell ⟨g, i, none⟩ m.v) lab y 27 v n (vls (l.set i m)) := by
  obtain ⟨⟨hl, ⟨rfl, rfl⟩ | ⟨g, cap, cur, rfl, h0, hb, hn, hm, hc, ht⟩⟩, h2⟩ := h
  · omega
  · have hl' : l.length = n := by simpa using hl
    have hr : RowAt w 27 g cap (vls l) := ⟨cur, hb, by omega, by simpa [hl'] using ht, hm⟩
    refine ⟨g, cap, rfl, ?_, hr.frozen i, hn, Gro.plain hz (Keeps.setCell (F := fun k => k = g) w (p := ⟨g, i, none⟩) rfl _) (fun k _ e => by rw [e]; exact h2 g rfl), ⟨by simpa using hl, .inr ⟨g, cap, cur.setIfInBounds i m.v, rfl, h0, heap_setCell_same _ _ i _ _ _ hb, hn, hm, by simpa using hc, ?_⟩⟩, h2⟩
    · exact hr.cell (by simp [vls, List.getD, hl', hi])
    · simp only [Nat.mul_one] at ht ⊢
      simp only [Array.toList_setIfInBounds, List.take_set, ht, vls, List.map_set]
/-- Bytes are appended: the list's own stay. -/
theorem OR.appV (h : OR w lab y 27 v n (vls l)) (hz : LZ lab w) (ad : Addr) (m c : Nat) (nw : List SV) (hm : nw.length = m) (hnw : ∀ j u, (vls nw)[j]? = some u → w.cell? (ad.add j) = some u) (h0 : 0 < m) (hb : n + m ≤ 1000000000) :
    ∃ g' cap' w', (Builtin.append_ #[22, 22] 22 #[v, .slice (some ad) m c]).run Try.prog w = .ok (.slice (some ⟨g', 0, none⟩) (n + m) cap') w' ∧ ∃ lab', Gro lab lab' w w' (fun x => x = y) ∧ OR w' lab' y 27 (.slice (some ⟨g', 0, none⟩) (n + m) cap') (n + m) (vls (l ++ nw)) ∧ OR w' lab' y 27 v n (vls l) := by
  obtain ⟨i0, hi, hz0, hz1, hz2⟩ := info_parts infoOne
  have hlen : (vls nw).length = m * 1 := by simp [vls, hm]
  have hone : ∀ u ∈ vls nw, u.oneCell' = true := by
    intro u hu
    obtain ⟨x, _, rfl⟩ := List.mem_map.1 hu
    rfl
  obtain ⟨g', cap', w', hr, hw, hg, hat, hlt⟩ := run_append_lies (P := Try.prog) w 22 22 0 27 i0 (.slice none 0 0) 1 24 Try.underlying22 hi hz0 hz1 hz2 rfl (by decide) v n (vls l) h.1 ad m c (vls nw) hlen hnw hone h0 (by unfold maxLen; omega) (by omega) (Nat.zero_le _) _ rfl
  have hk : Keeps (fun k => v.ownBlock = some k) w w' := ⟨hg.os, hg.tape, hg.output, hg.size, fun k hk hq => hg.block k hk (fun e => hq e.symm)⟩
  have G := Gro.keeps hz hk y (fun k _ hf => h.2 k hf)
  refine ⟨g', cap', w', hr, _, G, ⟨by rw [show vls (l ++ nw) = vls l ++ vls nw by simp [vls]]; exact hw, fun k hk' => ?_⟩, ?_, fun k hk' => G.tag (rowLt h.1 hk') (h.2 k hk')⟩
  · have e : k = g' := by simpa [Value.ownBlock] using hk'.symm
    subst e
    rcases hat with e | e
    · exact G.tag (rowLt h.1 e) (h.2 _ e)
    · exact relab_new (by omega) hlt
  · obtain ⟨hl, ⟨rfl, rfl⟩ | ⟨g, cap, cur, rfl, hg0, hblk, hnc, hmc, hcs, ht⟩⟩ := h.1
    · exact ⟨hl, .inl ⟨rfl, rfl⟩⟩
    · simp only [Nat.mul_one] at hl hcs ht
      by_cases hroom : n + m ≤ cap
      · have hr2 := run_append_room (P := Try.prog) w 22 22 27 i0 Try.underlying22 hi g n cap cur hblk ad m c (vls nw) (by rw [hz1]; exact hlen) hnw hone hroom (by rw [hz1, hlen]; omega)
        rw [hr] at hr2
        injection hr2 with e1 e2
        injection e1 with e3 e4 e5
        injection e3 with e6
        injection e6 with e7
        subst e7
        subst e5
        obtain ⟨hl2, ⟨hh, _⟩ | ⟨g2, cap2, cur2, hh, _, hb2, hn2, hm2, hc2, ht2⟩⟩ := hw
        · cases hh
        · injection hh with q1 q2 q3
          injection q1 with q4
          injection q4 with q5
          subst q5
          subst q3
          simp only [Nat.mul_one] at hc2 ht2
          refine ⟨by simpa using hl, .inr ⟨_, _, cur2, rfl, Nat.zero_le _, hb2, hnc, hmc, by simpa using hc2, ?_⟩⟩
          simp only [Nat.mul_one]
          have := congrArg (List.take n) ht2
          rw [List.take_take, Nat.min_eq_left (by omega)] at this
          rw [this, List.take_left' hl]
      · have hr2 := run_append_grow (P := Try.prog) w 22 22 27 i0 (.slice none 0 0) Try.underlying22 hi hz0 ⟨g, 0, none⟩ n cap (vls l) (by rw [hz1]; simpa using hl) (h.1.cells (g := g) rfl) ad m c (vls nw) (by rw [hz1]; exact hlen) hnw (by omega) (by omega) (growslice_fits (by omega) (by rw [hz2]; omega))
        rw [hr] at hr2
        injection hr2 with e1 e2
        refine ⟨by simpa using hl, .inr ⟨g, cap, cur, rfl, Nat.zero_le _, ?_, hnc, hmc, by simpa using hcs, by simpa using ht⟩⟩
        rw [e2, Below.heap_alloc w.drew _ g (Array.getElem?_eq_some_iff.1 hblk).1]
        exact hblk
end
/-- A list of lists of bytes, each in a block of its own, with its room. -/
def LV (w : World) (lab : Nat → Nat) (yr : Nat) (yb : Nat → Nat) (v : Value) (ds : List (List SV)) : Prop :=
  ∃ vs : List Value, vs.length = ds.length ∧ OR w lab yr 22 v ds.length vs ∧ ∀ i (hi : i < ds.length), ∃ u, vs[i]? = some u ∧ OR w lab (yb i) 27 u (ds[i]).length (vls ds[i])

section
variable {w w' : World} {lab lab' : Nat → Nat} {yr : Nat} {yb : Nat → Nat} {v : Value} {ds : List (List SV)} {X : Nat → Prop}
theorem LV.nil (w : World) (lab : Nat → Nat) (yr : Nat) (yb : Nat → Nat) : LV w lab yr yb (.slice none 0 0) [] := ⟨[], rfl, OR.nil _ _ _ _, fun i hi => by cases hi⟩
theorem LV.gro (h : LV w lab yr yb v ds) (g : Gro lab lab' w w' X) (h1 : ¬ X yr) (h2 : ∀ i, i < ds.length → ¬ X (yb i)) : LV w' lab' yr yb v ds := by
  obtain ⟨vs, hl, ho, he⟩ := h
  refine ⟨vs, hl, ho.gro g h1, fun i hi => ?_⟩
  obtain ⟨u, e1, e2⟩ := he i hi
  exact ⟨u, e1, e2.gro g (h2 i hi)⟩
/-- One of them is another's work: its own facts are shown anew. -/
theorem LV.turn (h : LV w lab yr yb v ds) (g : Gro lab lab' w w' X) (h1 : ¬ X yr) {k : Nat} (hk : k < ds.length) (h2 : ∀ i, i < ds.length → i ≠ k → ¬ X (yb i)) (d : List SV) (hd : ∀ u q c, v = .slice (some ⟨q, 0, none⟩) ds.length c → w.cell? ⟨q, k, none⟩ = some u → OR w' lab' (yb k) 27 u d.length (vls d)) : LV w' lab' yr yb v (ds.set k d) := by
  obtain ⟨vs, hl, ho, he⟩ := h
  refine ⟨vs, by simpa using hl, by rw [List.length_set]; exact ho.gro g h1, fun i hi => ?_⟩
  rw [List.length_set] at hi
  obtain ⟨u, e1, e2⟩ := he i hi
  by_cases e : i = k
  · subst e
    obtain ⟨q, c, ev, hr, _, _⟩ := ho.row (by omega)
    exact ⟨u, e1, by rw [List.getElem_set_self]; exact hd u q c ev (hr.cell e1)⟩
  · exact ⟨u, e1, by rw [List.getElem_set_ne (fun h => e h.symm)]; exact e2.gro g (h2 i hi e)⟩
theorem LV.form (h : LV w lab yr yb v ds) : ∃ a c, v = .slice a ds.length c := by
  obtain ⟨vs, hl, ho, he⟩ := h
  exact ho.form
theorem LV.at (h : LV w lab yr yb v ds) {i : Nat} (hi : i < ds.length) : ∃ g cap u, v = .slice (some ⟨g, 0, none⟩) ds.length cap ∧ w.cell? ⟨g, i, none⟩ = some u ∧ OR w lab (yb i) 27 u (ds[i]).length (vls ds[i]) := by
  obtain ⟨vs, hl, ho, he⟩ := h
  obtain ⟨g, c, rfl, hr, _, _⟩ := ho.row (by omega)
  obtain ⟨u, e1, e2⟩ := he i hi
  exact ⟨g, c, u, rfl, hr.cell e1, e2⟩
/-- One more list. -/
theorem LV.push (h : LV w lab yr yb v ds) (hz : LZ lab w) (h0 : ∀ i, yr ≠ yb i) (hn : ds.length ≤ 100000000) {u : Value} {d : List SV} (hu : OR w lab (yb ds.length) 27 u d.length (vls d)) :
    ∃ g' cap' w', (Builtin.append_ #[36, 36] 36 #[v, .slice (some ⟨w.heap.size, 0, none⟩) 1 1]).run Try.prog (w.alloc (.cells #[u] 22)) = .ok (.slice (some ⟨g', 0, none⟩) (ds.length + 1) cap') w' ∧ ∃ lab', Gro lab lab' w w' (fun y => y = yr) ∧ LV w' lab' yr yb (.slice (some ⟨g', 0, none⟩) (ds.length + 1) cap') (ds ++ [d]) := by
  obtain ⟨vs, hl, ho, he⟩ := h
  have hx : u.oneCell' = true := by obtain ⟨a, c, rfl⟩ := hu.form; rfl
  obtain ⟨g', cap', w', hrun, hw, hg, hat⟩ := app_listsV ho.1 u hx hn (Nat.zero_le _)
  have hbx := below_box w (.cells #[u] 22)
  have hk : Keeps (fun k => v.ownBlock = some k) w w' := ⟨hg.os.trans hbx.os, hg.tape.trans hbx.tape, hg.output.trans hbx.output, Nat.le_trans hbx.size hg.size, fun k hk hq => (hg.block k (Nat.lt_of_lt_of_le hk hbx.size) (fun e => hq e.symm)).trans (hbx.block k hk)⟩
  have G := Gro.keeps hz hk yr (fun k _ hf => ho.2 k hf)
  refine ⟨g', cap', w', hrun, _, G, vs ++ [u], by simp [hl], ⟨by rw [List.length_append]; exact hw, fun k hk' => ?_⟩, fun i hi => ?_⟩
  · have e : k = g' := by simpa [Value.ownBlock] using hk'.symm
    subst e
    rcases hat with e | e
    · exact G.tag (rowLt ho.1 e) (ho.2 _ e)
    · exact relab_new (by omega) (rowLt hw rfl)
  · by_cases e : i < ds.length
    · obtain ⟨u2, e1, e2⟩ := he i e
      refine ⟨u2, by rw [List.getElem?_append_left (by omega)]; exact e1, ?_⟩
      rw [List.getElem_append_left e]
      exact e2.gro G (fun e => h0 i e.symm)
    · have ei : i = ds.length := by simp at hi; omega
      subst ei
      refine ⟨u, by rw [List.getElem?_append_right (by omega), hl]; simp, ?_⟩
      simp only [List.getElem_append_right (Nat.le_refl _), Nat.sub_self, List.getElem_cons_zero]
      exact hu.gro G (fun e => h0 _ e.symm)
end

set_option maxRecDepth 20000 in
/-- Bytes are appended to a list: another that is no longer than it is keeps its own. -/
theorem OR.besideV {w : World} {lab lab' : Nat → Nat} {y n n' : Nat} {v v' : Value} {l l' : List SV} (h : OR w lab y 27 v n (vls l)) (h' : OR w lab y 27 v' n' (vls l')) (hnn : n ≤ n') (ad : Addr) (m c : Nat) (nw : List SV) (hm : nw.length = m) (hnw : ∀ j u, (vls nw)[j]? = some u → w.cell? (ad.add j) = some u) (h0 : 0 < m) (hb : n' + m ≤ 1000000000) {r : Value} {w' : World}
    (hr : (Builtin.append_ #[22, 22] 22 #[v', .slice (some ad) m c]).run Try.prog w = .ok r w') {X : Nat → Prop} (G : Gro lab lab' w w' X) : OR w' lab' y 27 v n (vls l) := by
  refine ⟨?_, fun k hk => G.tag (rowLt h.1 hk) (h.2 k hk)⟩
  obtain ⟨i0, hi, hz0, hz1, hz2⟩ := info_parts infoOne
  have hlen : (vls nw).length = m * 1 := by simp [vls, hm]
  have hone : ∀ u ∈ vls nw, u.oneCell' = true := by
    intro u hu
    obtain ⟨x, _, rfl⟩ := List.mem_map.1 hu
    rfl
  obtain ⟨g', cap', w2, hr2, hw, hg, hat, hlt⟩ := run_append_lies (P := Try.prog) w 22 22 0 27 i0 (.slice none 0 0) 1 24 Try.underlying22 hi hz0 hz1 hz2 rfl (by decide) v' n' (vls l') h'.1 ad m c (vls nw) hlen hnw hone h0 (by unfold maxLen; omega) (by omega) (Nat.zero_le _) _ rfl
  rw [hr] at hr2
  injection hr2 with e1 e2
  subst e2
  obtain ⟨hl, ⟨rfl, rfl⟩ | ⟨b, cap, cur, rfl, hb0, hblk, hnc, hmc, hcs, ht⟩⟩ := h.1
  · exact ⟨hl, .inl ⟨rfl, rfl⟩⟩
  · have hlt2 := (Array.getElem?_eq_some_iff.1 hblk).1
    by_cases hk : v'.ownBlock = some b
    · obtain ⟨hl', ⟨rfl, rfl⟩ | ⟨b', cap2, cur', rfl, hb0', hblk', hnc', hmc', hcs', ht'⟩⟩ := h'.1
      · cases hk
      · obtain rfl : b' = b := by simpa [Value.ownBlock] using hk
        rw [hblk] at hblk'
        injection hblk' with e5
        injection e5 with e6 e7 e8
        subst e6
        simp only [Nat.mul_one] at hl hcs ht hl' hcs' ht'
        obtain rfl : cap2 = cap := by omega
        by_cases hroom : n' + m ≤ cap2
        · have hr3 := run_append_room (P := Try.prog) w 22 22 27 i0 Try.underlying22 hi b' n' cap2 cur hblk ad m c (vls nw) (by rw [hz1]; exact hlen) hnw hone hroom (by rw [hz1, hlen]; omega)
          rw [hr] at hr3
          injection hr3 with e3 e4
          have hblk2 := setRow_heap w b' cur (cur.toList.take (n' * i0.size) ++ vls nw ++ cur.toList.drop (n' * i0.size + (vls nw).length)).toArray _ _ hblk
          rw [← e4] at hblk2
          rw [hz1, Nat.mul_one] at hblk2
          have hbl : (vls nw).length = m := by simpa using hlen
          refine ⟨by simpa using hl, .inr ⟨b', cap2, _, rfl, Nat.zero_le _, hblk2, hnc, hmc, ?_, ?_⟩⟩
          · simp only [List.size_toArray, List.length_append, List.length_take, List.length_drop, Array.length_toList, hbl]
            omega
          · simp only [Nat.mul_one]
            rw [List.take_append_of_le_length (by simp; omega), List.take_append_of_le_length (by simp; omega), List.take_take, Nat.min_eq_left hnn]
            exact ht
        · have hr3 := run_append_grow (P := Try.prog) w 22 22 27 i0 (.slice none 0 0) Try.underlying22 hi hz0 ⟨b', 0, none⟩ n' cap2 (vls l') (by rw [hz1]; simpa using hl') (h'.1.cells (g := b') rfl) ad m c (vls nw) (by rw [hz1]; exact hlen) hnw (by omega) (by omega) (growslice_fits (by omega) (by rw [hz2]; omega))
          rw [hr] at hr3
          injection hr3 with e3 e4
          refine ⟨by simpa using hl, .inr ⟨b', cap2, cur, rfl, Nat.zero_le _, ?_, hnc, hmc, by simpa using hcs, by simpa using ht⟩⟩
          rw [e4, Below.heap_alloc w.drew _ b' hlt2]
          exact hblk
    · exact ⟨hl, .inr ⟨b, cap, cur, rfl, hb0, (hg.block b hlt2 (fun e => hk e.symm)).trans hblk, hnc, hmc, hcs, ht⟩⟩

section
variable {w w' : World} {lab lab' : Nat → Nat} {yr : Nat} {yb : Nat → Nat} {v : Value} {A B : List (List SV)} {d : List SV} {X : Nat → Prop}
/-- The list behind the first ones. -/
theorem LV.mid (h : LV w lab yr yb v (A ++ d :: B)) : ∃ g cap u, v = .slice (some ⟨g, 0, none⟩) (A ++ d :: B).length cap ∧ w.cell? ⟨g, A.length, none⟩ = some u ∧ OR w lab (yb A.length) 27 u d.length (vls d) := by
  obtain ⟨g, cap, u, e1, e2, e3⟩ := h.at (i := A.length) (by simp)
  have e : (A ++ d :: B)[A.length]'(by simp) = d := by simp
  rw [e] at e3
  exact ⟨g, cap, u, e1, e2, e3⟩
theorem LV.midTurn (h : LV w lab yr yb v (A ++ d :: B)) (g : Gro lab lab' w w' X) (h1 : ¬ X yr) (h2 : ∀ i, i ≠ A.length → ¬ X (yb i)) (d' : List SV) (hd : ∀ u q c, v = .slice (some ⟨q, 0, none⟩) (A ++ d :: B).length c → w.cell? ⟨q, A.length, none⟩ = some u → OR w' lab' (yb A.length) 27 u d'.length (vls d')) : LV w' lab' yr yb v (A ++ d' :: B) := by
  have := h.turn g h1 (k := A.length) (by simp) (fun i _ hi => h2 i hi) d' hd
  simpa using this
/-- A byte of one of them is written. -/
theorem LV.put (h : LV w lab yr yb v (A ++ d :: B)) (hz : LZ lab w) (hr : yr ≠ yb A.length) (hne : ∀ i, i ≠ A.length → yb i ≠ yb A.length) {j : Nat} (hj : j < d.length) (x : SV) : ∃ gL cL g c y0, v = .slice (some ⟨gL, 0, none⟩) (A ++ d :: B).length cL ∧ w.cell? ⟨gL, A.length, none⟩ = some (.slice (some ⟨g, 0, none⟩) d.length c) ∧ w.cell? ⟨g, j, none⟩ = some (SV.v y0) ∧ w.frozen? ⟨g, j, none⟩ = false ∧ d.length ≤ c ∧ Gro lab lab w (w.setCell ⟨g, j, none⟩ x.v) (fun y => y = yb A.length) ∧ LV (w.setCell ⟨g, j, none⟩ x.v) lab yr yb v (A ++ d.set j x :: B) := by
  obtain ⟨gL, cL, u, e1, e2, e3⟩ := h.mid
  obtain ⟨g, c, rfl, c1, f1, hc, G, hq⟩ := e3.putV hz hj x
  refine ⟨gL, cL, g, c, _, e1, e2, c1, f1, hc, G, h.midTurn G (fun e => hr e) (fun i hi e => hne i hi e) _ (fun u q c' ev eu => ?_)⟩
  rw [e1] at ev
  injection ev with q1 q2 q3
  injection q1 with q4
  injection q4 with q5
  subst q5
  rw [e2] at eu
  cases eu
  rw [List.length_set]
  exact hq
/-- Bytes are appended to a list that began as one of them. -/
theorem LV.app (h : LV w lab yr yb v (A ++ d :: B)) (hz : LZ lab w) (hr : yr ≠ yb A.length) (hne : ∀ i, i ≠ A.length → yb i ≠ yb A.length) {n' : Nat} {v' : Value} {l' : List SV} (h' : OR w lab (yb A.length) 27 v' n' (vls l')) (hnn : d.length ≤ n') (ad : Addr) (m c : Nat) (nw : List SV) (hm : nw.length = m) (hnw : ∀ j u, (vls nw)[j]? = some u → w.cell? (ad.add j) = some u) (h0 : 0 < m) (hb : n' + m ≤ 1000000000) :
    ∃ g' cap' w', (Builtin.append_ #[22, 22] 22 #[v', .slice (some ad) m c]).run Try.prog w = .ok (.slice (some ⟨g', 0, none⟩) (n' + m) cap') w' ∧ ∃ lab', Gro lab lab' w w' (fun x => x = yb A.length) ∧ OR w' lab' (yb A.length) 27 (.slice (some ⟨g', 0, none⟩) (n' + m) cap') (n' + m) (vls (l' ++ nw)) ∧ LV w' lab' yr yb v (A ++ d :: B) := by
  obtain ⟨g', cap', w', hrun, lab', G, o1, _⟩ := h'.appV hz ad m c nw hm hnw h0 (by omega)
  obtain ⟨gL, cL, u, e1, e2, e3⟩ := h.mid
  refine ⟨g', cap', w', hrun, lab', G, o1, h.midTurn G (fun e => hr e) (fun i hi e => hne i hi e) _ (fun u2 q c' ev eu => ?_)⟩
  rw [e1] at ev
  injection ev with q1 q2 q3
  injection q1 with q4
  injection q4 with q5
  subst q5
  rw [e2] at eu
  cases eu
  exact e3.besideV h' hnn ad m c nw hm hnw h0 hb hrun G
end
end Go.Proofs.Ythdgndbmecnimaa
end
