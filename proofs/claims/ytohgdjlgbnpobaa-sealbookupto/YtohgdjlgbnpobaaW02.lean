import Derived.Test.YtohgdjlgbnpobaaW01
import Derived.Deep.RegionHeld
import Derived.OwnWalk
import Derived.RegionTactic
import Derived.BigRegion
import Derived.Deep.RegionLaw
section
namespace Go.Proofs.Ytohgdjlgbnpobaa
open Go.RowKit Go.Maps

section
variable {P : Program} {ops : Array Oper} {Q : Exit → Act → World → Prop} {md : Region.Mode} {S : World → Prop} {k : Nat}

/-- Whatever order is picked from here on, and S holds behind every operation that is carried out, till number k is. -/
def wpAnyS (P : Program) (md : Region.Mode) (ops : Array Oper) (Q : Exit → Act → World → Prop) (S : World → Prop) (k : Nat) : Nat → Array Bool → Act → World → Prop
  | 0, listed, a, w => Region.ready md ops listed = [] ∧ Q .normal a w
  | fuel + 1, listed, a, w =>
    (Region.ready md ops listed = [] → Q .normal a w) ∧
    ∀ i ∈ Region.ready md ops listed, wpOp P ops Q i (fun a' w' => ((listed.setIfInBounds i true).getD k true = true ∨ S w') ∧ wpAnyS P md ops Q S k fuel (listed.setIfInBounds i true) a' w') a w

theorem wpAny_of_sw : ∀ (fuel : Nat) (listed : Array Bool) (a : Act) (w : World), wpAnyS P md ops Q S k fuel listed a w → wpAny P md ops Q fuel listed a w
  | 0, _, _, _, h => h
  | fuel + 1, _, _, _, h => ⟨h.1, fun i hi => wpOp_mono (fun a' w' h' => wpAny_of_sw fuel _ a' w' h'.2) (h.2 i hi)⟩

/-- Number k waits for number i. -/
def waitsOn (md : Region.Mode) (ops : Array Oper) (k i : Nat) : Bool :=
  match ops[k]? with
  | some o => o.after.any (fun e => Region.binds md e && e.on == i)
  | none => false

theorem waits_not {i : Nat} {ok : Oper} (hw : waitsOn md ops k i = true) (hk : ops[k]? = some ok) (hn : ∀ e ∈ ok.after, Region.binds md e = true → e.on ≠ i) : False := by
  unfold waitsOn at hw
  rw [hk] at hw
  obtain ⟨j, hj, hb⟩ := Array.any_eq_true.1 hw
  rw [Bool.and_eq_true] at hb
  exact hn _ (Array.getElem_mem hj) hb.1 (by simpa using hb.2)

theorem wpAnyS_first {i : Nat} {oi : Oper} {v : Value} {T : World → Prop} (hi : ops[i]? = some oi) (hsel : ∀ (j : Nat) (o : Oper) cs b, ops[j]? = some o → o.op ≠ .select cs b)
    (hQ : ∀ c a w, Q (.panic c) (a.put oi.dst v) w → Q (.panic c) a w) (hik : i ≠ k) (hT : (∀ w, T w) ∨ ((∀ w, S w → T w) ∧ waitsOn md ops k i = true)) :
    ∀ (fuel : Nat) (listed : Array Bool) (a : Act) (w : World),
      (∀ j oj, ops[j]? = some oj → j ≠ i → listed.getD j true = false → (∀ e ∈ oj.after, Region.binds md e = true → e.on ≠ i) → oi.apart ops oj = true) →
      i ∈ Region.ready md ops listed → YieldsIf P ops T oi v a → (listed.getD k true = true ∨ S w) → ((∀ w, T w) ∨ listed.getD k true = false) →
      wpAnyS P md ops Q S k fuel (listed.setIfInBounds i true) (a.put oi.dst v) w → wpAnyS P md ops Q S k (fuel + 1) listed a w := by
  intro fuel
  have tw : ∀ (listed : Array Bool) (w : World), (listed.getD k true = true ∨ S w) → ((∀ w, T w) ∨ listed.getD k true = false) → T w := by
    intro listed w h1 h2
    rcases h2 with h2 | h2
    · exact h2 w
    · rcases hT with h3 | h3
      · exact h3 w
      · rcases h1 with h1 | h1
        · rw [h1] at h2
          cases h2
        · exact h3.1 w h1
  induction fuel with
  | zero =>
    intro listed a w _ hr hy hI hk H
    refine ⟨fun h => (by rw [h] at hr; cases hr), fun j hj => ?_⟩
    by_cases hji : j = i
    · subst hji
      exact hy.wpOp hi (tw listed w hI hk) ⟨by rw [getD_set_ne true hik]; exact hI, H⟩
    · have := ready_mono hj hji
      rw [H.1] at this
      cases this
  | succ fuel ih =>
    intro listed a w hfree hr hy hI hk H
    refine ⟨fun h => (by rw [h] at hr; cases hr), fun j hj => ?_⟩
    by_cases hji : j = i
    · subst hji
      exact hy.wpOp hi (tw listed w hI hk) ⟨by rw [getD_set_ne true hik]; exact hI, H⟩
    · have h1 := H.2 j (ready_mono hj hji)
      obtain ⟨hjun, oj, hoj, hall⟩ := mem_ready.1 hj
      have hnot : ∀ e ∈ oj.after, Region.binds md e = true → e.on ≠ i := fun e he hb heq => by
        have h1 := hall e he hb
        have h0 := (mem_ready.1 hr).1
        rw [heq] at h1
        rcases Nat.lt_or_ge i listed.size with h' | h'
        · simp [h'] at h0 h1; rw [h0] at h1; cases h1
        · simp [Array.getElem?_eq_none h'] at h1
      have h2 := wpOp_putIf hoj (hfree j oj hoj hji hjun hnot) (fun cs b => hsel i oi cs b hi) (fun cs b => hsel j oj cs b hoj) hQ hy h1
      have hfree' : ∀ k ok, ops[k]? = some ok → k ≠ i → (listed.setIfInBounds j true).getD k true = false →
          (∀ e ∈ ok.after, Region.binds md e = true → e.on ≠ i) → oi.apart ops ok = true := fun k ok hk hki hun hno => by
        refine hfree k ok hk hki ?_ hno
        by_cases hjk : j = k
        · subst hjk; exact hjun
        · rw [getD_set_ne true hjk] at hun; exact hun
      have hk' : (∀ w, T w) ∨ (listed.setIfInBounds j true).getD k true = false := by
        rcases hT with h3 | h3
        · exact .inl h3
        · rcases hk with hk | hk
          · exact .inl hk
          · refine .inr ?_
            have hjk : j ≠ k := by
              rintro rfl
              exact waits_not h3.2 hoj hnot
            rw [getD_set_ne true hjk]
            exact hk
      refine wpOp_mono (fun a' w' h3 => ⟨?_, ih (listed.setIfInBounds j true) a' w' hfree' (ready_mono hr (Ne.symm hji)) h3.1 ?_ hk' ?_⟩) h2
      · have := h3.2.1
        rw [Array.setIfInBounds_comm _ _ (Ne.symm hji), getD_set_ne true hik] at this
        exact this
      · have := h3.2.1
        rw [Array.setIfInBounds_comm _ _ (Ne.symm hji), getD_set_ne true hik] at this
        exact this
      · rw [Array.setIfInBounds_comm _ _ hji]
        exact h3.2.2

/-- An operation that yields in whatever world. -/
theorem wpAnyS_pure {i : Nat} {oi : Oper} {v : Value} {fuel : Nat} {listed : Array Bool} {a : Act} {w : World} (hi : ops[i]? = some oi) (hik : i ≠ k)
    (hs : Region.noSelect ops = true) (hf : Region.free md ops listed i = true) (hr : (Region.ready md ops listed).contains i = true)
    (hQ : ∀ c a w, Q (.panic c) (a.put oi.dst v) w → Q (.panic c) a w) (hy : YieldsIf P ops (fun _ => True) oi v a) (hI : listed.getD k true = true ∨ S w)
    (h : wpAnyS P md ops Q S k fuel (listed.setIfInBounds i true) (a.put oi.dst v) w) : wpAnyS P md ops Q S k (fuel + 1) listed a w :=
  wpAnyS_first hi (Region.noSelect_spec hs) hQ hik (.inl (fun _ => trivial)) fuel listed a w (Region.free_spec hi hf) (by simpa using hr) hy hI (.inl (fun _ => trivial)) h
/-- A load of what S tells, for which number k waits. -/
theorem wpAnyS_load {i : Nat} {oi : Oper} {v : Value} {fuel : Nat} {listed : Array Bool} {a : Act} {w : World} (hi : ops[i]? = some oi) (hik : i ≠ k) (hw : waitsOn md ops k i = true)
    (hs : Region.noSelect ops = true) (hf : Region.free md ops listed i = true) (hr : (Region.ready md ops listed).contains i = true)
    (hQ : ∀ c a w, Q (.panic c) (a.put oi.dst v) w → Q (.panic c) a w) (hy : YieldsIf P ops S oi v a) (hk : listed.getD k true = false) (hS : S w)
    (h : wpAnyS P md ops Q S k fuel (listed.setIfInBounds i true) (a.put oi.dst v) w) : wpAnyS P md ops Q S k (fuel + 1) listed a w :=
  wpAnyS_first hi (Region.noSelect_spec hs) hQ hik (.inr ⟨fun _ h => h, hw⟩) fuel listed a w (Region.free_spec hi hf) (by simpa using hr) hy (.inr hS) (.inr hk) h
/-- The only one that may come up. -/
theorem wpAnyS_one {i : Nat} {o : Oper} {fuel : Nat} {listed : Array Bool} {a : Act} {w : World} (hr : Region.ready md ops listed = [i]) (ho : ops[i]? = some o)
    (h : ∀ K' : Act → World → Prop, Shut (∀ a w, ((listed.setIfInBounds i true).getD k true = true ∨ S w) → wpAnyS P md ops Q S k fuel (listed.setIfInBounds i true) a w → K' a w) → if Region.wanted o (yielded ops a.tmps) = true then Oper.wp P o a w K' Q else K' (a.put o.dst undef) w) :
    wpAnyS P md ops Q S k (fuel + 1) listed a w := by
  refine ⟨fun h0 => (by rw [hr] at h0; cases h0), fun j hj => ?_⟩
  rw [hr] at hj
  obtain rfl : j = i := by simpa using hj
  exact wpOp_step ho (fun K' hK => h K' (fun a w hS hW => hK a w ⟨hS, hW⟩))
theorem wpAnyS_done {listed : Array Bool} {a : Act} {w : World} (hr : Region.ready md ops listed = []) (h : Q .normal a w) :
    ∀ fuel, wpAnyS P md ops Q S k fuel listed a w
  | 0 => ⟨hr, h⟩
  | _ + 1 => ⟨fun _ => h, by rw [hr]; simp⟩
theorem wp_region_sw {id : Nat} {a : Act} {w : World} (k : Nat) (S : World → Prop) (hm : P.follows .mixedOrders = true) (hS : S w.drew)
    (h : S w.drew → wpAnyS P .any ops Q S k ops.size (Array.replicate ops.size false) a w.drew) : (Code.region id ops true).wp P Q a w :=
  wp_region_any hm (wpAny_of_sw _ _ _ _ (h hS))
theorem sw_append_run {o : Oper} {a : Act} {w w' : World} {K : Act → World → Prop} (s x : Operand) (t : TypeId) (ho : o.op = .call { callee := .builtin .append, args := #[s, x], argTypes := #[t, t] }) (v u r : Value) (hs : a.eval s = v) (hx : a.eval x = u)
    (hr : (Builtin.append_ #[t, t] o.type #[v, u]).run P w = .ok r w') (h : K (a.put o.dst r) w') : o.wp P a w K Q := by
  unfold Oper.wp execOp
  simp only [ho, resolve, invoke, builtin, Sem.run_bind, Sem.run_pure, Result.andThen_ok, List.map_toArray, List.map_cons, List.map_nil, hs, hx, hr]
  exact h
theorem swList_append_run {o : Oper} {rest : List Oper} {a : Act} {w w' : World} (hg : o.guard = none) (s x : Operand) (t : TypeId) (ho : o.op = .call { callee := .builtin .append, args := #[s, x], argTypes := #[t, t] }) (v u r : Value) (hs : a.eval s = v) (hx : a.eval x = u)
    (hr : (Builtin.append_ #[t, t] o.type #[v, u]).run P w = .ok r w') (h : wpList P ops Q rest (a.put o.dst r) w') : wpList P ops Q (o :: rest) a w :=
  wpList_plain hg fun _ hK => sw_append_run s x t ho v u r hs hx hr (hK _ _ h)
end
end Go.Proofs.Ytohgdjlgbnpobaa
end

section
namespace Go.Proofs.Ytohgdjlgbnpobaa
open Go.RowKit Go.Maps

section
variable {lab : Nat → Nat} {w : World}
theorem Gro.drew (hz : LZ lab w) (X : Nat → Prop) : Gro lab lab w w.drew X := Gro.plain hz (Keeps.drew (fun _ => False) w) (fun _ _ h => h.elim)
theorem Gro.boxed (hz : LZ lab w) (o : Obj) (X : Nat → Prop) : Gro lab lab w (w.alloc o) X := Gro.below hz (below_box w o) X
end

/-- The owner of the i-th kept list. -/
abbrev yK (i : Nat) : Nat := 41 + 2 * i
theorem yK_ge (i : Nat) : 41 ≤ yK i := Nat.le_add_right _ _
theorem yK_odd (i : Nat) : yK i % 2 = 1 := by show (41 + 2 * i) % 2 = 1; omega
theorem yK_ne {i j : Nat} (h : i ≠ j) : yK i ≠ yK j := by show 41 + 2 * i ≠ 41 + 2 * j; omega
/-- The owners of what is kept. -/
def isK (y : Nat) : Prop := (20 ≤ y ∧ y ≤ 25) ∨ (40 ≤ y ∧ y % 2 = 1)
theorem isK_of {y : Nat} (h1 : 20 ≤ y) (h2 : y ≤ 25) : isK y := .inl ⟨h1, h2⟩
theorem isK_yK (i : Nat) : isK (yK i) := .inr ⟨by have := yK_ge i; omega, yK_odd i⟩

/-- A list of lists of bytes, each in a block of its own, with its room. -/
def LO (w : World) (lab : Nat → Nat) (yr : Nat) (yb : Nat → Nat) (v : Value) (ds : List (List Int)) : Prop :=
  ∃ vs : List Value, vs.length = ds.length ∧ OR w lab yr 25 v ds.length vs ∧ ∀ i (hi : i < ds.length), ∃ u, vs[i]? = some u ∧ OR w lab (yb i) 5 u (ds[i]).length (bs ds[i])

section
variable {w w' : World} {lab lab' : Nat → Nat} {yr : Nat} {yb : Nat → Nat} {v : Value} {ds : List (List Int)} {X : Nat → Prop}
theorem LO.nil (w : World) (lab : Nat → Nat) (yr : Nat) (yb : Nat → Nat) : LO w lab yr yb (.slice none 0 0) [] := ⟨[], rfl, OR.nil _ _ _ _, fun i hi => by cases hi⟩
theorem LO.gro (h : LO w lab yr yb v ds) (g : Gro lab lab' w w' X) (h1 : ¬ X yr) (h2 : ∀ i, i < ds.length → ¬ X (yb i)) : LO w' lab' yr yb v ds := by
  obtain ⟨vs, hl, ho, he⟩ := h
  refine ⟨vs, hl, ho.gro g h1, fun i hi => ?_⟩
  obtain ⟨u, e1, e2⟩ := he i hi
  exact ⟨u, e1, e2.gro g (h2 i hi)⟩
/-- One of them is another's work: its own facts are shown anew. -/
theorem LO.turn (h : LO w lab yr yb v ds) (g : Gro lab lab' w w' X) (h1 : ¬ X yr) {k : Nat} (hk : k < ds.length) (h2 : ∀ i, i < ds.length → i ≠ k → ¬ X (yb i)) (d : List Int) (hd : ∀ u q c, v = .slice (some ⟨q, 0, none⟩) ds.length c → w.cell? ⟨q, k, none⟩ = some u → OR w' lab' (yb k) 5 u d.length (bs d)) : LO w' lab' yr yb v (ds.set k d) := by
  obtain ⟨vs, hl, ho, he⟩ := h
  refine ⟨vs, by simpa using hl, by rw [List.length_set]; exact ho.gro g h1, fun i hi => ?_⟩
  rw [List.length_set] at hi
  obtain ⟨u, e1, e2⟩ := he i hi
  by_cases e : i = k
  · subst e
    obtain ⟨q, c, ev, hr, _, _⟩ := ho.row (by omega)
    exact ⟨u, e1, by rw [List.getElem_set_self]; exact hd u q c ev (hr.cell e1)⟩
  · exact ⟨u, e1, by rw [List.getElem_set_ne (fun h => e h.symm)]; exact e2.gro g (h2 i hi e)⟩
theorem LO.form (h : LO w lab yr yb v ds) : ∃ a c, v = .slice a ds.length c := by
  obtain ⟨vs, hl, ho, he⟩ := h
  exact ho.form
theorem LO.at (h : LO w lab yr yb v ds) {i : Nat} (hi : i < ds.length) : ∃ g cap u, v = .slice (some ⟨g, 0, none⟩) ds.length cap ∧ w.cell? ⟨g, i, none⟩ = some u ∧ OR w lab (yb i) 5 u (ds[i]).length (bs ds[i]) := by
  obtain ⟨vs, hl, ho, he⟩ := h
  obtain ⟨g, c, rfl, hr, _, _⟩ := ho.row (by omega)
  obtain ⟨u, e1, e2⟩ := he i hi
  exact ⟨g, c, u, rfl, hr.cell e1, e2⟩
/-- One more list. -/
theorem LO.push (h : LO w lab yr yb v ds) (hz : LZ lab w) (h0 : ∀ i, yr ≠ yb i) (hn : ds.length ≤ 7000000000000) {u : Value} {d : List Int} (hu : OR w lab (yb ds.length) 5 u d.length (bs d)) :
    ∃ g' cap' w', (Builtin.append_ #[24, 24] 24 #[v, .slice (some ⟨w.heap.size, 0, none⟩) 1 1]).run Try.prog (w.alloc (.cells #[u] 25)) = .ok (.slice (some ⟨g', 0, none⟩) (ds.length + 1) cap') w' ∧ ∃ lab', Gro lab lab' w w' (fun y => y = yr) ∧ LO w' lab' yr yb (.slice (some ⟨g', 0, none⟩) (ds.length + 1) cap') (ds ++ [d]) := by
  obtain ⟨vs, hl, ho, he⟩ := h
  have hx : u.oneCell' = true := by obtain ⟨a, c, rfl⟩ := hu.form; rfl
  obtain ⟨g', cap', w', hrun, hw, hg, hat⟩ := app_list2 ho.1 u hx hn
  have hbx := below_box w (.cells #[u] 25)
  have hk : Keeps (fun k => v.ownBlock = some k) w w' := ⟨hg.os.trans hbx.os, hg.tape.trans hbx.tape, hg.output.trans hbx.output, Nat.le_trans hbx.size hg.size, fun k hk hq => (hg.block k (Nat.lt_of_lt_of_le hk hbx.size) (fun e => hq e.symm)).trans (hbx.block k hk)⟩
  have G := Gro.keeps hz hk yr (fun k _ hf => ho.2 k hf)
  refine ⟨g', cap', w', hrun, _, G, vs ++ [u], by simp [hl], ⟨by rw [List.length_append]; exact hw, fun k hk' => ?_⟩, fun i hi => ?_⟩
  · have e : k = g' := by simpa [Value.ownBlock] using hk'.symm
    subst e
    rcases hat with e | e
    · exact G.tag (rowLt ho.1 e) (ho.2 _ e)
    · exact relab_new (by omega) (rowLt hw rfl)
  · by_cases e : i < ds.length
    · obtain ⟨u2, e1, e2⟩ := he i e
      refine ⟨u2, by rw [List.getElem?_append_left (by omega)]; exact e1, ?_⟩
      rw [List.getElem_append_left e]
      exact e2.gro G (fun e => h0 i e.symm)
    · have ei : i = ds.length := by simp at hi; omega
      subst ei
      refine ⟨u, by rw [List.getElem?_append_right (by omega), hl]; simp, ?_⟩
      simp only [List.getElem_append_right (Nat.le_refl _), Nat.sub_self, List.getElem_cons_zero]
      exact hu.gro G (fun e => h0 _ e.symm)
end

end Go.Proofs.Ytohgdjlgbnpobaa
end

section
namespace Go.Proofs.Ytohgdjlgbnpobaa
open Go.RowKit Go.Maps

set_option maxRecDepth 20000 in
/-- Bytes are appended to a list: another that is no longer than it is keeps its own. -/
theorem OR.beside {w : World} {lab lab' : Nat → Nat} {y n n' : Nat} {v v' : Value} {l l' : List Int} (h : OR w lab y 5 v n (bs l)) (h' : OR w lab y 5 v' n' (bs l')) (hnn : n ≤ n') (ad : Addr) (m c : Nat) (nw : List Int) (hm : nw.length = m) (hnw : ∀ j u, (bs nw)[j]? = some u → w.cell? (ad.add j) = some u) (h0 : 0 < m) (hb : n' + m ≤ 1000000000) {r : Value} {w' : World}
    (hr : (Builtin.append_ #[25, 25] 25 #[v', .slice (some ad) m c]).run Try.prog w = .ok r w') {X : Nat → Prop} (G : Gro lab lab' w w' X) : OR w' lab' y 5 v n (bs l) := by
  refine ⟨?_, fun k hk => G.tag (rowLt h.1 hk) (h.2 k hk)⟩
  obtain ⟨i0, hi, hz0, hz1, hz2⟩ := info_parts infoU8
  have hlen : (bs nw).length = m * 1 := by simp [bs, hm]
  have hone : ∀ u ∈ bs nw, u.oneCell' = true := by
    intro u hu
    obtain ⟨x, _, rfl⟩ := List.mem_map.1 hu
    rfl
  obtain ⟨g', cap', w2, hr2, hw, hg, hat, hlt⟩ := run_append_lies (P := Try.prog) w 25 25 0 5 i0 (.int .u8 0) 1 1 Try.underlying25 hi hz0 hz1 hz2 rfl (by decide) v' n' (bs l') h'.1 ad m c (bs nw) hlen hnw hone h0 (by unfold maxLen; omega) (by omega) (Nat.zero_le _) _ rfl
  rw [hr] at hr2
  injection hr2 with e1 e2
  subst e2
  obtain ⟨hl, ⟨rfl, rfl⟩ | ⟨b, cap, cur, rfl, hb0, hblk, hnc, hmc, hcs, ht⟩⟩ := h.1
  · exact ⟨hl, .inl ⟨rfl, rfl⟩⟩
  · have hlt2 := (Array.getElem?_eq_some_iff.1 hblk).1
    by_cases hk : v'.ownBlock = some b
    · obtain ⟨hl', ⟨rfl, rfl⟩ | ⟨b', cap2, cur', rfl, hb0', hblk', hnc', hmc', hcs', ht'⟩⟩ := h'.1
      · cases hk
      · obtain rfl : b' = b := by simpa [Value.ownBlock] using hk
        rw [hblk] at hblk'
        injection hblk' with e5
        injection e5 with e6 e7 e8
        subst e6
        simp only [Nat.mul_one] at hl hcs ht hl' hcs' ht'
        obtain rfl : cap2 = cap := by omega
        by_cases hroom : n' + m ≤ cap2
        · have hr3 := run_append_room (P := Try.prog) w 25 25 5 i0 Try.underlying25 hi b' n' cap2 cur hblk ad m c (bs nw) (by rw [hz1]; exact hlen) hnw hone hroom (by rw [hz1, hlen]; omega)
          rw [hr] at hr3
          injection hr3 with e3 e4
          have hblk2 := setRow_heap w b' cur (cur.toList.take (n' * i0.size) ++ bs nw ++ cur.toList.drop (n' * i0.size + (bs nw).length)).toArray _ _ hblk
          rw [← e4] at hblk2
          rw [hz1, Nat.mul_one] at hblk2
          have hbl : (bs nw).length = m := by simpa using hlen
          refine ⟨by simpa using hl, .inr ⟨b', cap2, _, rfl, Nat.zero_le _, hblk2, hnc, hmc, ?_, ?_⟩⟩
          · simp only [List.size_toArray, List.length_append, List.length_take, List.length_drop, Array.length_toList, hbl]
            omega
          · simp only [Nat.mul_one]
            rw [List.take_append_of_le_length (by simp; omega), List.take_append_of_le_length (by simp; omega), List.take_take, Nat.min_eq_left hnn]
            exact ht
        · have hr3 := run_append_grow (P := Try.prog) w 25 25 5 i0 (.int .u8 0) Try.underlying25 hi hz0 ⟨b', 0, none⟩ n' cap2 (bs l') (by rw [hz1]; simpa using hl') (h'.1.cells (g := b') rfl) ad m c (bs nw) (by rw [hz1]; exact hlen) hnw (by omega) (by omega) (growslice_fits (by omega) (by rw [hz2]; omega))
          rw [hr] at hr3
          injection hr3 with e3 e4
          refine ⟨by simpa using hl, .inr ⟨b', cap2, cur, rfl, Nat.zero_le _, ?_, hnc, hmc, by simpa using hcs, by simpa using ht⟩⟩
          rw [e4, Below.heap_alloc w.drew _ b' hlt2]
          exact hblk
    · exact ⟨hl, .inr ⟨b, cap, cur, rfl, hb0, (hg.block b hlt2 (fun e => hk e.symm)).trans hblk, hnc, hmc, hcs, ht⟩⟩

section
variable {w w' : World} {lab lab' : Nat → Nat} {yr : Nat} {yb : Nat → Nat} {v : Value} {A B : List (List Int)} {d : List Int} {X : Nat → Prop}
/-- The list behind the first ones. -/
theorem LO.mid (h : LO w lab yr yb v (A ++ d :: B)) : ∃ g cap u, v = .slice (some ⟨g, 0, none⟩) (A ++ d :: B).length cap ∧ w.cell? ⟨g, A.length, none⟩ = some u ∧ OR w lab (yb A.length) 5 u d.length (bs d) := by
  obtain ⟨g, cap, u, e1, e2, e3⟩ := h.at (i := A.length) (by simp)
  have e : (A ++ d :: B)[A.length]'(by simp) = d := by simp
  rw [e] at e3
  exact ⟨g, cap, u, e1, e2, e3⟩
theorem LO.midTurn (h : LO w lab yr yb v (A ++ d :: B)) (g : Gro lab lab' w w' X) (h1 : ¬ X yr) (h2 : ∀ i, i ≠ A.length → ¬ X (yb i)) (d' : List Int) (hd : ∀ u q c, v = .slice (some ⟨q, 0, none⟩) (A ++ d :: B).length c → w.cell? ⟨q, A.length, none⟩ = some u → OR w' lab' (yb A.length) 5 u d'.length (bs d')) : LO w' lab' yr yb v (A ++ d' :: B) := by
  have := h.turn g h1 (k := A.length) (by simp) (fun i _ hi => h2 i hi) d' hd
  simpa using this
/-- A byte of one of them is written. -/
theorem LO.put (h : LO w lab yr yb v (A ++ d :: B)) (hz : LZ lab w) (hr : yr ≠ yb A.length) (hne : ∀ i, i ≠ A.length → yb i ≠ yb A.length) {j : Nat} (hj : j < d.length) (x : Int) : ∃ gL cL g c y0, v = .slice (some ⟨gL, 0, none⟩) (A ++ d :: B).length cL ∧ w.cell? ⟨gL, A.length, none⟩ = some (.slice (some ⟨g, 0, none⟩) d.length c) ∧ w.cell? ⟨g, j, none⟩ = some (.int .u8 y0) ∧ w.frozen? ⟨g, j, none⟩ = false ∧ d.length ≤ c ∧ Gro lab lab w (w.setCell ⟨g, j, none⟩ (.int .u8 x)) (fun y => y = yb A.length) ∧ LO (w.setCell ⟨g, j, none⟩ (.int .u8 x)) lab yr yb v (A ++ d.set j x :: B) := by
  obtain ⟨gL, cL, u, e1, e2, e3⟩ := h.mid
  obtain ⟨g, c, rfl, c1, f1, hc, G, hq⟩ := e3.put hz hj x
  refine ⟨gL, cL, g, c, _, e1, e2, c1, f1, hc, G, h.midTurn G (fun e => hr e) (fun i hi e => hne i hi e) _ (fun u q c' ev eu => ?_)⟩
  rw [e1] at ev
  injection ev with q1 q2 q3
  injection q1 with q4
  injection q4 with q5
  subst q5
  rw [e2] at eu
  cases eu
  rw [List.length_set]
  exact hq
/-- Bytes are appended to a list that began as one of them. -/
theorem LO.app (h : LO w lab yr yb v (A ++ d :: B)) (hz : LZ lab w) (hr : yr ≠ yb A.length) (hne : ∀ i, i ≠ A.length → yb i ≠ yb A.length) {n' : Nat} {v' : Value} {l' : List Int} (h' : OR w lab (yb A.length) 5 v' n' (bs l')) (hnn : d.length ≤ n') (ad : Addr) (m c : Nat) (nw : List Int) (hm : nw.length = m) (hnw : ∀ j u, (bs nw)[j]? = some u → w.cell? (ad.add j) = some u) (h0 : 0 < m) (hb : n' + m ≤ 1000000000) :
    ∃ g' cap' w', (Builtin.append_ #[25, 25] 25 #[v', .slice (some ad) m c]).run Try.prog w = .ok (.slice (some ⟨g', 0, none⟩) (n' + m) cap') w' ∧ ∃ lab', Gro lab lab' w w' (fun x => x = yb A.length) ∧ OR w' lab' (yb A.length) 5 (.slice (some ⟨g', 0, none⟩) (n' + m) cap') (n' + m) (bs (l' ++ nw)) ∧ LO w' lab' yr yb v (A ++ d :: B) := by
  obtain ⟨g', cap', w', hrun, lab', G, o1, _⟩ := h'.app hz ad m c nw hm hnw h0 (by omega)
  obtain ⟨gL, cL, u, e1, e2, e3⟩ := h.mid
  refine ⟨g', cap', w', hrun, lab', G, o1, h.midTurn G (fun e => hr e) (fun i hi e => hne i hi e) _ (fun u2 q c' ev eu => ?_)⟩
  rw [e1] at ev
  injection ev with q1 q2 q3
  injection q1 with q4
  injection q4 with q5
  subst q5
  rw [e2] at eu
  cases eu
  exact e3.beside h' hnn ad m c nw hm hnw h0 hb hrun G
end
end Go.Proofs.Ytohgdjlgbnpobaa
end

section
namespace Go.Proofs.Ytohgdjlgbnpobaa
open Go.RowKit Go.Maps

/-- Structs in a row that has one owner. -/
def SQ {α : Type} (w : World) (lab : Nat → Nat) (y : Nat) (e : TypeId) (m : Nat) (f : α → List Value) (v : Value) (ys : List α) : Prop :=
  ∃ xs, w.ownsRow 0 e m v ys.length xs ∧ (∀ g, v.ownBlock = some g → lab g = y) ∧ ∀ i (hi : i < ys.length) j u, (f ys[i])[j]? = some u → xs[i * m + j]? = some u

section
variable {α : Type} {w w' : World} {lab lab' : Nat → Nat} {y m : Nat} {e : TypeId} {f : α → List Value} {v : Value} {ys : List α} {X : Nat → Prop}
theorem SQ.gro (h : SQ w lab y e m f v ys) (g : Gro lab lab' w w' X) (hX : ¬ X y) : SQ w' lab' y e m f v ys := by
  obtain ⟨xs, h1, h2, h3⟩ := h
  exact ⟨xs, rowAgree h1 (fun k hk => g.block (rowLt h1 hk) (h2 k hk) hX), fun k hk => g.tag (rowLt h1 hk) (h2 k hk), h3⟩
theorem SQ.form (h : SQ w lab y e m f v ys) : ∃ a c, v = .slice a ys.length c := by
  obtain ⟨xs, ⟨hl, ⟨rfl, h3⟩ | ⟨g, cap, cur, rfl, _⟩⟩, _⟩ := h
  · exact ⟨none, 0, by rw [h3]⟩
  · exact ⟨_, _, rfl⟩
theorem SQ.at (h : SQ w lab y e m f v ys) {i : Nat} (hi : i < ys.length) : ∃ g c, v = .slice (some ⟨g, 0, none⟩) ys.length c ∧ w.rangeAt g (i * m) (f ys[i]) := by
  obtain ⟨xs, h1, h2, h3⟩ := h
  obtain ⟨hl, ⟨rfl, h0⟩ | ⟨g, cap, cur, rfl, _, hb, hn, hm, hc, ht⟩⟩ := h1
  · omega
  · refine ⟨g, cap, rfl, fun j u hu => ?_⟩
    have h4 := h3 i hi j u hu
    rw [← ht, List.getElem?_take] at h4
    split at h4
    · simp only [World.cell?, hb]
      simpa using h4
    · cases h4
/-- A row of one struct. -/
theorem SQ.one (hz : LZ lab w) (x : α) (hf : (f x).length = m) : SQ (w.alloc (.cells (f x).toArray e)) (relab lab w.heap.size (w.alloc (.cells (f x).toArray e)).heap.size y) y e m f (.slice (some ⟨w.heap.size, 0, none⟩) 1 1) [x] ∧ Gro lab (relab lab w.heap.size (w.alloc (.cells (f x).toArray e)).heap.size y) w (w.alloc (.cells (f x).toArray e)) (fun z => z = y) := by
  have G := Gro.keeps hz (Keeps.alloc (fun _ => False) w (.cells (f x).toArray e)) y (fun _ _ h => h.elim)
  refine ⟨⟨f x, ⟨by simpa using hf, .inr ⟨w.heap.size, 1, (f x).toArray, rfl, Nat.zero_le _, heap_alloc_new _ _, Nat.le_refl _, by unfold maxLen; omega, by simpa using hf, ?_⟩⟩, fun g hg => ?_, fun i hi j u hu => ?_⟩, G⟩
  · simp only [List.length_singleton, Nat.one_mul]
    rw [← hf]
    exact List.take_length
  · have e : g = w.heap.size := by simpa [Value.ownBlock] using hg.symm
    rw [e]
    exact relab_new (Nat.le_refl _) (by simp)
  · have e : i = 0 := by simpa using hi
    subst e
    simpa using hu
set_option maxRecDepth 4000 in
/-- One more struct. -/
theorem SQ.push (h : SQ w lab y e m f v ys) (hz : LZ lab w) {t : TypeId} {i0 : TypeInfo} {z : Value} {bytes : Nat} (ht : Try.prog.underlying t = some (.slice e)) (hi : Try.prog.info? e = some i0) (hz0 : i0.zero = some z) (hz1 : i0.size = m) (hz2 : i0.bytes = bytes) (hzs : z.cells.size = m) (hm : 0 < m) (x : α) (hf : (f x).length = m) (h1 : ∀ u ∈ f x, u.oneCell' = true) (hn : (ys.length + 1) * bytes ≤ 140737488355328) (hn2 : ys.length ≤ 1000000000000) :
    ∃ g' cap' w', (Builtin.append_ #[t, t] t #[v, .slice (some ⟨w.heap.size, 0, none⟩) 1 1]).run Try.prog (w.alloc (.cells (f x).toArray e)) = .ok (.slice (some ⟨g', 0, none⟩) (ys.length + 1) cap') w' ∧ ∃ lab', Gro lab lab' w w' (fun z => z = y) ∧ SQ w' lab' y e m f (.slice (some ⟨g', 0, none⟩) (ys.length + 1) cap') (ys ++ [x]) := by
  obtain ⟨xs, h2, h3, h4⟩ := h
  have hbx := below_box w (.cells (f x).toArray e)
  obtain ⟨g', cap', w', hrun, hw, hg, hat, hlt⟩ := run_append_lies (P := Try.prog) (w.alloc (.cells (f x).toArray e)) t t 0 e i0 z m bytes ht hi hz0 hz1 hz2 hzs hm v ys.length xs (rowAgree h2 (fun g hg => Below.heap_alloc _ _ _ (rowLt h2 hg))) ⟨w.heap.size, 0, none⟩ 1 1 (f x) (by rw [hf, Nat.one_mul]) (World.news_of_block (cs := (f x).toArray) (t := e) (fr := (0, 0)) (heap_alloc_new w _)) h1 (by omega) (by unfold maxLen; omega) hn (Nat.zero_le _) _ rfl
  have hk : Keeps (fun k => v.ownBlock = some k) w w' := ⟨hg.os.trans hbx.os, hg.tape.trans hbx.tape, hg.output.trans hbx.output, Nat.le_trans hbx.size hg.size, fun k hk hq => (hg.block k (Nat.lt_of_lt_of_le hk hbx.size) (fun e => hq e.symm)).trans (hbx.block k hk)⟩
  have G := Gro.keeps hz hk y (fun k _ hf => h3 k hf)
  refine ⟨g', cap', w', hrun, _, G, xs ++ f x, by rw [List.length_append]; exact hw, fun k hk' => ?_, fun i hi j u hu => ?_⟩
  · have e : k = g' := by simpa [Value.ownBlock] using hk'.symm
    subst e
    rcases hat with e | e
    · exact G.tag (rowLt h2 e) (h3 _ e)
    · exact relab_new (by simp at e; omega) hlt
  · have hxl := h2.1
    by_cases e : i < ys.length
    · rw [List.getElem_append_left e] at hu
      have h5 := h4 i e j u hu
      rw [List.getElem?_append_left (List.getElem?_eq_some_iff.1 h5).1]
      exact h5
    · have ei : i = ys.length := by simp at hi; omega
      subst ei
      simp only [List.getElem_append_right (Nat.le_refl _), Nat.sub_self, List.getElem_cons_zero] at hu
      rw [List.getElem?_append_right (by omega), hxl, Nat.add_sub_cancel_left]
      exact hu
end

/-- The k-th byte of the mark of number i. -/
def mk4 (i k : Nat) : Int := if k % 4 = 0 then (i : Int) % 256 else if k % 4 = 1 then (i : Int) / 256 % 256 else if k % 4 = 2 then (i : Int) / 65536 % 256 else (i : Int) / 16777216 % 256
theorem mk4_byte (i k : Nat) : 0 ≤ mk4 i k ∧ mk4 i k < 256 := by
  unfold mk4
  repeat' split
  all_goals omega
/-- The mark of number i, n bytes of it. -/
def mks (i n : Nat) : List Int := (List.range n).map (mk4 i)
theorem mks_len (i n : Nat) : (mks i n).length = n := by simp [mks]
theorem mks_get {i n k : Nat} (hk : k < n) : (mks i n).getD k 0 = mk4 i k := by simp [mks, List.getD, hk]
theorem mks_succ (i n : Nat) : mks i (n + 1) = mks i n ++ [mk4 i n] := by simp [mks, List.range_succ]
/-- What is appended to list i: k rounds of it. -/
def tls (i : Nat) : Nat → List Int
  | 0 => []
  | k + 1 => tls i k ++ [255 - mk4 i (k / 4 + k), (k : Int) % 256, 195]
theorem tls_len (i : Nat) : ∀ k, (tls i k).length = 3 * k
  | 0 => rfl
  | k + 1 => by rw [tls, List.length_append, tls_len i k]; simp; omega
def tl (i : Nat) : List Int := (tls i 700).take 700
theorem tl_len (i : Nat) : (tl i).length = 700 := by unfold tl; rw [List.length_take, tls_len]; omega
end Go.Proofs.Ytohgdjlgbnpobaa
end

section
namespace Go.Proofs.Ytohgdjlgbnpobaa

/-- What the checksum of a sealed sector goes over. -/
def stext (body : List Int) : List Int := ((body.length % 256 : Nat) : Int) :: ((body.length / 256 : Nat) : Int) :: (body ++ List.replicate (504 - body.length) 0)
/-- The sealed sector with that turn and body. -/
def sform (t : Int) (body : List Int) : List Int :=
  t :: ((body.length % 256 : Nat) : Int) :: ((body.length / 256 : Nat) : Int) :: (bytes4 (sumOf (stext body)) ++ (body ++ (List.replicate (504 - body.length) 0 ++ [t])))
/-- The turn of what is written over a sector with these ends. -/
def turnOf (a b : Int) : Nat := if a ≠ 0 ∧ b ≠ 0 then 0 else if a ≠ 1 ∧ b ≠ 1 then 1 else 2

theorem turnOf_le (a b : Int) : turnOf a b ≤ 2 := by unfold turnOf; split <;> (try split) <;> omega
theorem turnOf_ne (a b : Int) : ((turnOf a b : Nat) : Int) ≠ a ∧ ((turnOf a b : Nat) : Int) ≠ b := by
  unfold turnOf
  by_cases h : a ≠ 0 ∧ b ≠ 0
  · rw [if_pos h]; omega
  · rw [if_neg h]
    by_cases h1 : a ≠ 1 ∧ b ≠ 1
    · rw [if_pos h1]; omega
    · rw [if_neg h1]; omega

theorem bytes4_len (s : Nat) : (bytes4 s).length = 4 := rfl
theorem bytes4_bytes (s : Nat) : Bytes (bytes4 s) := by
  intro x hx
  simp only [bytes4, List.mem_cons, List.not_mem_nil, or_false] at hx
  omega
theorem stext_len {body : List Int} (h : body.length ≤ 504) : (stext body).length = 506 := by simp [stext]; omega
theorem sform_len {t : Int} {body : List Int} (h : body.length ≤ 504) : (sform t body).length = 512 := by simp [sform, bytes4_len]; omega
theorem Bytes.append {a b : List Int} (ha : Bytes a) (hb : Bytes b) : Bytes (a ++ b) := fun x hx => (List.mem_append.1 hx).elim (ha x) (hb x)
theorem Bytes.cons {a : Int} {b : List Int} (ha : 0 ≤ a ∧ a < 256) (hb : Bytes b) : Bytes (a :: b) := fun x hx => (List.mem_cons.1 hx).elim (fun h => h ▸ ha) (hb x)
theorem Bytes.nil : Bytes [] := fun _ hx => by cases hx
theorem Bytes.zeros (n : Nat) : Bytes (List.replicate n 0) := fun x hx => by rw [List.eq_of_mem_replicate hx]; omega
theorem Bytes.take {l : List Int} (h : Bytes l) (n : Nat) : Bytes (l.take n) := fun x hx => h x (List.mem_of_mem_take hx)
theorem Bytes.drop {l : List Int} (h : Bytes l) (n : Nat) : Bytes (l.drop n) := fun x hx => h x (List.mem_of_mem_drop hx)
theorem Bytes.getD {l : List Int} (h : Bytes l) (i : Nat) : 0 ≤ l.getD i 0 ∧ l.getD i 0 < 256 := by
  by_cases hi : i < l.length
  · have := h l[i] (List.getElem_mem hi)
    simpa [List.getD, hi] using this
  · simp [List.getD, List.getElem?_eq_none (Nat.le_of_not_lt hi)]
theorem stext_bytes {body : List Int} (h : Bytes body) (hl : body.length ≤ 504) : Bytes (stext body) :=
  .cons (by omega) (.cons (by omega) (h.append (.zeros _)))
theorem sform_bytes {t : Int} {body : List Int} (h : Bytes body) (hl : body.length ≤ 504) (ht : 0 ≤ t ∧ t < 256) : Bytes (sform t body) :=
  .cons ht (.cons (by omega) (.cons (by omega) ((bytes4_bytes _).append (h.append ((Bytes.zeros _).append (.cons ht .nil))))))

/-- The length that a sector tells. -/
def slen (s : List Int) : Nat := (s.getD 1 0 + 256 * s.getD 2 0).toNat
/-- Its body. -/
def sbody (s : List Int) : List Int := (s.drop 7).take (slen s)
/-- What Open tells. -/
def sopen (s : List Int) : Option (List Int) := if slen s ≤ 504 ∧ s.getD 0 0 ≤ 2 ∧ sform (s.getD 0 0) (sbody s) = s then some (sbody s) else none

theorem slen_form (t : Int) (body : List Int) (h : body.length ≤ 504) : slen (sform t body) = body.length := by
  simp [slen, sform, List.getD]; omega
theorem sform_drop (t : Int) (body : List Int) : (sform t body).drop 7 = body ++ (List.replicate (504 - body.length) 0 ++ [t]) := by
  simp [sform, bytes4]
theorem sbody_form (t : Int) (body : List Int) (h : body.length ≤ 504) : sbody (sform t body) = body := by
  rw [sbody, slen_form t body h, sform_drop]
  simp
theorem sform_first (t : Int) (body : List Int) : (sform t body).getD 0 0 = t := rfl
theorem sform_last (t : Int) (body : List Int) (h : body.length ≤ 504) : (sform t body).getD 511 0 = t := by
  have e : sform t body = (t :: ((body.length % 256 : Nat) : Int) :: ((body.length / 256 : Nat) : Int) :: (bytes4 (sumOf (stext body)) ++ (body ++ List.replicate (504 - body.length) 0))) ++ [t] := by
    simp [sform]
  rw [e, List.getD, List.getElem?_append_right (by simp [bytes4_len]; omega)]
  have : 511 - (t :: ((body.length % 256 : Nat) : Int) :: ((body.length / 256 : Nat) : Int) :: (bytes4 (sumOf (stext body)) ++ (body ++ List.replicate (504 - body.length) 0))).length = 0 := by
    simp [bytes4_len]; omega
  rw [this]; rfl
theorem sopen_form (t : Int) (body : List Int) (h : body.length ≤ 504) (ht : t ≤ 2) : sopen (sform t body) = some body := by
  unfold sopen
  rw [slen_form t body h, sform_first, sbody_form t body h, if_pos ⟨h, ht, rfl⟩]
theorem sopen_some {s body : List Int} (h : sopen s = some body) : slen s ≤ 504 ∧ s.getD 0 0 ≤ 2 ∧ sform (s.getD 0 0) (sbody s) = s ∧ body = sbody s := by
  unfold sopen at h
  split at h
  · next hc => exact ⟨hc.1, hc.2.1, hc.2.2, (Option.some.inj h).symm⟩
  · cases h
theorem sbody_len {s : List Int} (h : slen s ≤ 504) (hs : s.length = 512) : (sbody s).length = slen s := by
  simp [sbody]; omega
theorem sopen_len {s body : List Int} (h : sopen s = some body) (hs : s.length = 512) : body.length ≤ 504 := by
  obtain ⟨h1, _, _, rfl⟩ := sopen_some h
  rw [sbody_len h1 hs]; exact h1
theorem sopen_ends {s body : List Int} (h : sopen s = some body) (hs : s.length = 512) : s.getD 511 0 = s.getD 0 0 := by
  have hl := sopen_len h hs
  obtain ⟨h1, _, h3, rfl⟩ := sopen_some h
  rw [← h3, sform_last _ _ hl, sform_first]

/-- What the sum goes over, of a sector. -/
def stextOf (s : List Int) : List Int := (s.drop 1).take 2 ++ (s.drop 7).take 504
theorem stextOf_form (t : Int) (body : List Int) (h : body.length ≤ 504) : stextOf (sform t body) = stext body := by
  rw [stextOf, sform_drop, ← List.append_assoc, List.take_left' (by simp; omega)]
  simp [sform, stext]
theorem ssum_form (t : Int) (body : List Int) : ((sform t body).drop 3).take 4 = bytes4 (sumOf (stext body)) := by
  simp [sform, bytes4]
/-- A sealed sector's sum is right. -/
theorem sopen_sum {s body : List Int} (h : sopen s = some body) (hs : s.length = 512) : (s.drop 3).take 4 = bytes4 (sumOf (stextOf s)) := by
  have hl := sopen_len h hs
  obtain ⟨h1, _, h3, rfl⟩ := sopen_some h
  rw [← h3, ssum_form, stextOf_form _ _ hl]

/-- An anchor's number and data; 0: it is none. -/
def sanchor (s : List Int) : Nat × List Int :=
  match sopen s with
  | none => (0, [])
  | some body => if 8 ≤ body.length ∧ le (body.take 8) < 9223372036854775808 then (le (body.take 8), body.drop 8) else (0, [])
/-- What Newest tells: slot, number, data, error. -/
def snewest (l r : List Int) : Nat × Nat × List Int × Nat :=
  if l.length ≠ 512 ∨ r.length ≠ 512 then (0, 0, [], 2) else
  if (sanchor l).1 = 0 ∧ (sanchor r).1 = 0 then (0, 0, [], 30) else
  if (sanchor l).1 < (sanchor r).1 then (1, (sanchor r).1, (sanchor r).2, 0) else (0, (sanchor l).1, (sanchor l).2, 0)

/-- Eight bytes of a number, the low one first. -/
def bytes8 (n : Nat) : List Int := (List.range 8).map (fun k => ((n / 256 ^ k % 256 : Nat) : Int))
/-- What Seal tells. -/
def sseal (old body : List Int) : List Int × Nat :=
  if old.length ≠ 512 then ([], 2) else if 504 < body.length then ([], 7) else (sform (turnOf (old.getD 0 0) (old.getD 511 0)) body, 0)
def sopens (s : List Int) : List Int × Nat :=
  if s.length ≠ 512 then ([], 2) else match sopen s with | none => ([], 30) | some b => (b, 0)
/-- What Renew tells. -/
def srenew (l r : List Int) (number : Int) (data : List Int) : Nat × List Int × Nat :=
  if l.length ≠ 512 ∨ r.length ≠ 512 then (0, [], 2) else
  if number < 1 then (0, [], 1) else
  if 496 < data.length then (0, [], 7) else
  let a := snewest l r
  if number ≤ a.2.1 then (0, [], 31) else
  if a.2.2.2 = 0 ∧ a.1 = 0 then (1, sform (turnOf (r.getD 0 0) (r.getD 511 0)) (bytes8 number.toNat ++ data), 0)
  else (0, sform (turnOf (l.getD 0 0) (l.getD 511 0)) (bytes8 number.toNat ++ data), 0)
end Go.Proofs.Ytohgdjlgbnpobaa
end

section
namespace Go.Proofs.Ytohgdjlgbnpobaa
open Go.RowKit

/-- A list that a call made: v is a slice of l, its memory (if any) at B or above. -/
def Own (w : World) (B : Nat) (v : Value) (l : List Int) : Prop := w.ownsRow B 5 1 v l.length (bs l)
theorem Own.nil (w : World) (B : Nat) : Own w B (.slice none 0 0) [] := ⟨by simp, .inl ⟨rfl, rfl⟩⟩
theorem Own.src {w : World} {B : Nat} {v : Value} {l : List Int} (h : Own w B v l) : ∃ a c, v = .slice a l.length c ∧ Src w a l.length l ∧ l.length ≤ c ∧ (∀ x, a = some x → B ≤ x.block ∧ x.off = 0) := by
  by_cases hv : v = .slice none 0 0
  · subst hv
    have h0 : l.length = 0 := by
      obtain ⟨_, ⟨_, hn⟩ | ⟨g, c, cur, e, _⟩⟩ := h
      · exact hn
      · cases e
    obtain rfl := List.eq_nil_of_length_eq_zero h0
    exact ⟨none, 0, rfl, ⟨rfl, fun _ => rfl, fun x hx => by cases hx⟩, Nat.le_refl _, fun x hx => by cases hx⟩
  · obtain ⟨g, c, rfl, hg, hr, _⟩ := RowAt.of_owns h hv
    refine ⟨some ⟨g, 0, none⟩, c, rfl, hr.src, ?_, fun x hx => by cases hx; exact ⟨hg, rfl⟩⟩
    have := hr.le
    simpa [bs] using this
theorem Own.row {w : World} {B : Nat} {a : Option Addr} {n c : Nat} {l : List Int} (h : Own w B (.slice a n c) l) (h0 : 0 < l.length) : ∃ g, a = some ⟨g, 0, none⟩ ∧ n = l.length ∧ B ≤ g ∧ RowAt w 5 g c (bs l) := by
  obtain ⟨g, c', e, hg, hr, _⟩ := RowAt.of_owns h (by
    intro e
    cases e
    obtain ⟨_, ⟨_, hn⟩ | ⟨g, c, cur, e, _⟩⟩ := h
    · omega
    · cases e)
  cases e
  exact ⟨g, rfl, rfl, hg, hr⟩
theorem Own.later {w w' : World} {B : Nat} {v : Value} {l : List Int} (h : Own w B v l) (hb : Below w.heap.size w w') : Own w' B v l := by
  by_cases hv : v = .slice none 0 0
  · subst hv
    obtain ⟨h1, ⟨_, hn⟩ | ⟨g, c, cur, e, _⟩⟩ := h
    · exact ⟨h1, .inl ⟨rfl, hn⟩⟩
    · cases e
  · obtain ⟨g, c, rfl, hg, hr, hl⟩ := RowAt.of_owns h hv
    have hr' := hr.agree (hb.block g hr.lt)
    have hle := hr'.le
    obtain ⟨cur, hb', hc, ht, hm⟩ := hr'
    have hl' : (bs l).length = l.length := by simp [bs]
    exact ⟨by simp [bs], .inr ⟨g, c, cur, rfl, hg, hb', by omega, hm, by simpa using hc, by rw [hl'] at ht; simpa using ht⟩⟩
theorem Own.down {w : World} {B B' : Nat} {v : Value} {l : List Int} (h : Own w B v l) (hB : B' ≤ B) : Own w B' v l := by
  obtain ⟨h1, h2 | ⟨g, c, cur, e, hg, h3⟩⟩ := h
  · exact ⟨h1, .inl h2⟩
  · exact ⟨h1, .inr ⟨g, c, cur, e, by omega, h3⟩⟩

theorem bs_append (a b : List Int) : bs (a ++ b) = bs a ++ bs b := List.map_append
theorem bs_snoc (a : List Int) (x : Int) : bs a ++ [.int .u8 x] = bs (a ++ [x]) := by rw [bs_append]; rfl
theorem take_snoc (l : List Int) (k : Nat) (h : k < l.length) : l.take k ++ [l.getD k 0] = l.take (k + 1) := by
  rw [List.take_succ_eq_append_getElem h]
  simp [List.getD, h]
theorem bs_take_succ (l : List Int) (k : Nat) (h : k < l.length) : bs (l.take k) ++ [.int .u8 (l.getD k 0)] = bs (l.take (k + 1)) := by
  rw [bs_snoc, take_snoc l k h]

set_option maxHeartbeats 4000000 in
theorem ltwin_low (b o n c : Nat) (l : List Int) (w : World) (hl : l.length = n) (hn : n ≤ 140737488355328) (hs : ∀ i, i < n → w.cell? ⟨b, o + i, none⟩ = some (.int .u8 (l.getD i 0))) :
    Calls Try.prog 7 #[.slice (some ⟨b, o, none⟩) n c] w fun e w' => ∃ v, e = .returned v ∧ Own w' w.heap.size v l ∧ Below w.heap.size w w' := by
  obtain ⟨i0, hi, hz0, hz1, hz2⟩ := info_parts infoU8
  have H := Hid.mk hs
  clear hs
  go_enter Try.func7, Try.ntmps7
  go_wp2
  go_loopw [3, 4] (fun v i wr => ∃ k : Nat, k ≤ n ∧ i = .int .i64 k ∧ wr.ownsRow w.heap.size 5 1 v k (bs (l.take k)) ∧ Below w.heap.size w wr) (fun _ i _ => n - (intOf i).toNat)
  case atStart => exact ⟨0, Nat.zero_le _, rfl, ⟨by simp, .inl ⟨rfl, rfl⟩⟩, Below.refl _ _⟩
  case round =>
    obtain ⟨k, hk, rfl, hown, hbr⟩ := hrel
    by_cases hlt : k < n
    · have hlt' : (k : Int) < (n : Int) := by omega
      have hc := cell_later hbr (H.out k hlt)
      have hz := hbr.size
      have eN := bs_take_succ l k (by omega)
      obtain ⟨X, hX⟩ : ∃ X, X = bs (l.take k) := ⟨_, rfl⟩
      rw [← hX] at hown eN
      have Hown := Hid.mk hown
      have HB := Hid.mk hbr
      have HeN := Hid.mk eN
      clear hown hbr eN hX
      generalize hx : l.getD k 0 = x at *
      go_wp2_with (at_builtin; refine wpList_append_own _ rfl _ _ 25 rfl w.heap.size 5 i0 (.int .u8 0) 1 1 Try.underlying25 hi hz0 hz1 hz2 rfl (by decide) _ _ _ rfl (Hown.out.alloc _) ⟨wr.heap.size, 0, none⟩ 1 1 [.int .u8 x] rfl rfl ?n1 ?n2 ?n3 ?n4 ?n5 ?_)
      case n1 => exact cell_one_new _ _ _
      case n2 => intro u hu; simp at hu; subst hu; rfl
      case n3 => unfold maxLen; omega
      case n4 => omega
      case n5 => simp; omega
      intro v' w1 hown' hgrow' hnil
      have HO : Hid (w1.ownsRow w.heap.size 5 1 v' (k + 1) (bs (l.take (k + 1)))) := by rw [← HeN.out]; exact hown'
      have HB1 : Hid (Below w.heap.size w w1) := (HB.out.alloc hz _).grown hgrow' (by simp; omega) (fun q e => (Hown.out.lt q e).1)
      clear hown' hgrow' hnil HeN Hown HB
      go_wp2
      go_roundw
      case rel => exact ⟨k + 1, by omega, by go_num, HO.out, HB1.out⟩
      case measure => simp [intOf]; omega
    · have hlt' : ¬ (k : Int) < (n : Int) := by omega
      have e : l.take k = l := List.take_of_length_le (by omega)
      have e2 : k = l.length := by omega
      rw [e, e2] at hown
      have Hown : Hid (Own wr w.heap.size _ l) := hown
      clear hown
      go_wp2
      go_ret
      exact ⟨_, rfl, Hown.out, hbr⟩
set_option maxHeartbeats 1000000 in
theorem ltwin_none (a : Option Addr) (c : Nat) (w : World) :
    Calls Try.prog 7 #[.slice a 0 c] w fun e w' => e = .returned (.slice none 0 0) ∧ Below w.heap.size w w' := by
  have HB := Hid.mk (Below.refl w.heap.size w)
  go_enter Try.func7, Try.ntmps7
  go_wp2
  refine wp_loop_rounds 1 ?_; rw [rounds_succ]; go_wp2
  go_ret
  exact ⟨rfl, HB.out⟩
theorem ltwin_any (a : Option Addr) (n c : Nat) (l : List Int) (w : World) (hn : n ≤ 140737488355328) (hs : Src w a n l) :
    Calls Try.prog 7 #[.slice a n c] w fun e w' => ∃ v, e = .returned v ∧ Own w' w.heap.size v l ∧ Below w.heap.size w w' := by
  by_cases h0 : n = 0
  · subst h0
    have : l = [] := List.eq_nil_of_length_eq_zero hs.1
    subst this
    refine (ltwin_none a c w).mono ?_
    rintro e w' ⟨rfl, hb⟩
    exact ⟨_, rfl, Own.nil _ _, hb⟩
  · cases a with
    | none => exact absurd (hs.2.1 rfl) h0
    | some x =>
      obtain ⟨b, o, rfl, k⟩ := hs.spot (by omega)
      exact ltwin_low b o n c l w hs.1 hn k
end Go.Proofs.Ytohgdjlgbnpobaa
end

section
namespace Go.Proofs.Ytohgdjlgbnpobaa
open Go.RowKit

theorem take_eq_next {l l' : List Int} {k : Nat} (h : l.take k = l'.take k) (h1 : k < l.length) (h2 : k < l'.length) (e : l.getD k 0 = l'.getD k 0) : l.take (k + 1) = l'.take (k + 1) := by
  rw [List.take_succ_eq_append_getElem h1, List.take_succ_eq_append_getElem h2, h]
  simp [List.getD, h1, h2] at e
  rw [e]
theorem ne_of_getD {l l' : List Int} {k : Nat} (e : l.getD k 0 ≠ l'.getD k 0) : l ≠ l' := fun h => e (by rw [h])

set_option maxRecDepth 20000 in
set_option maxHeartbeats 2000000 in
theorem lsame_ne (a b : Option Addr) (n m c d : Nat) (w : World) (h : n ≠ m) :
    Calls Try.prog 9 #[.slice a n c, .slice b m d] w fun e w' => e = .returned (.bool false) ∧ w' = w := by
  have h' : (((n : Int)) != (m : Int)) = true := by rw [bne_iff_ne]; omega
  go_enter Try.func9, Try.ntmps9
  go_wp2
  go_ret
  exact ⟨rfl, rfl⟩
set_option maxRecDepth 20000 in
set_option maxHeartbeats 2000000 in
theorem lsame_low (b o b' o' : Nat) (n c d : Nat) (l l' : List Int) (w : World) (hn : n ≤ 140737488355328) (hl : l.length = n) (hl' : l'.length = n) (h1 : ∀ i, i < n → w.cell? ⟨b, o + i, none⟩ = some (.int .u8 (l.getD i 0))) (h2 : ∀ i, i < n → w.cell? ⟨b', o' + i, none⟩ = some (.int .u8 (l'.getD i 0))) :
    Calls Try.prog 9 #[.slice (some ⟨b, o, none⟩) n c, .slice (some ⟨b', o', none⟩) n d] w fun e w' => e = .returned (.bool (decide (l = l'))) ∧ Below w.heap.size w w' := by
  have h' : (((n : Int)) != (n : Int)) = false := by simp
  have H1 := Hid.mk h1
  have H2 := Hid.mk h2
  clear h1 h2
  go_enter Try.func9, Try.ntmps9
  go_wp2
  go_loopw [5] (fun i wr => ∃ k : Nat, k ≤ n ∧ i = .int .i64 k ∧ l.take k = l'.take k ∧ Below w.heap.size w wr) (fun i _ => n - (intOf i).toNat)
  case atStart => exact ⟨0, Nat.zero_le _, rfl, by simp, Below.refl _ _⟩
  case round =>
    obtain ⟨k, hk, rfl, htk, hb⟩ := hrel
    have Htk := Hid.mk htk
    clear htk
    by_cases hlt : k < n
    · have c1 := cell_later hb (H1.out k hlt)
      have c2 := cell_later hb (H2.out k hlt)
      have hlt' : (k : Int) < (n : Int) := by omega
      by_cases hx : l.getD k 0 = l'.getD k 0
      · have Hnx := Hid.mk (take_eq_next Htk.out (by omega) (by omega) hx)
        have hb2 := Hid.mk (fun j => below_drewN hb j)
        rw [hx] at c1
        generalize l'.getD k 0 = x at *
        clear hx
        go_wp2
        go_quiet (fail)
        go_wp2
        go_roundw
        case rel => exact ⟨k + 1, by omega, by go_num, Hnx.out, below_drewN hb _⟩
        case measure => simp [intOf]; omega
      · have hne : l ≠ l' := ne_of_getD hx
        have hd : Hid (decide (l = l') = false) := by show decide (l = l') = false; simp [hne]
        have hxx : ((l.getD k 0) != (l'.getD k 0)) = true := by rw [bne_iff_ne]; exact hx
        generalize l'.getD k 0 = x at *
        generalize l.getD k 0 = y at *
        clear hx hne
        go_wp2
        go_quiet (fail)
        go_wp2
        go_ret
        exact ⟨by rw [hd.out]; rfl, below_drewN hb _⟩
    · have hlt' : ¬ (k : Int) < (n : Int) := by omega
      have hd : Hid (decide (l = l') = true) := by
        have := Htk.out
        rw [List.take_of_length_le (by omega), List.take_of_length_le (by omega)] at this
        show decide (l = l') = true
        simp [this]
      go_wp2
      go_ret
      exact ⟨by rw [hd.out]; rfl, hb⟩
set_option maxRecDepth 20000 in
set_option maxHeartbeats 1000000 in
theorem lsame_zero (a b : Option Addr) (c d : Nat) (w : World) :
    Calls Try.prog 9 #[.slice a 0 c, .slice b 0 d] w fun e w' => e = .returned (.bool true) ∧ w' = w := by
  go_enter Try.func9, Try.ntmps9
  go_wp2
  refine wp_loop_rounds 1 ?_; rw [rounds_succ]; go_wp2
  go_ret
  exact ⟨rfl, rfl⟩
theorem lsame_any (a b : Option Addr) (n m c d : Nat) (l l' : List Int) (w : World) (hn : n ≤ 140737488355328) (h1 : Src w a n l) (h2 : Src w b m l') :
    Calls Try.prog 9 #[.slice a n c, .slice b m d] w fun e w' => e = .returned (.bool (decide (l = l'))) ∧ Below w.heap.size w w' := by
  by_cases hnm : n = m
  · subst hnm
    by_cases h0 : n = 0
    · subst h0
      have e1 := List.eq_nil_of_length_eq_zero h1.1
      have e2 := List.eq_nil_of_length_eq_zero h2.1
      subst e1 e2
      exact (lsame_zero a b c d w).mono (by rintro e w' ⟨rfl, rfl⟩; exact ⟨rfl, Below.refl _ _⟩)
    · cases a with
      | none => exact absurd (h1.2.1 rfl) h0
      | some x =>
        cases b with
        | none => exact absurd (h2.2.1 rfl) h0
        | some y =>
          obtain ⟨b1, o1, rfl, k1⟩ := h1.spot (by omega)
          obtain ⟨b2, o2, rfl, k2⟩ := h2.spot (by omega)
          exact lsame_low b1 o1 b2 o2 n c d l l' w hn h1.1 h2.1 k1 k2
  · have hd : decide (l = l') = false := by
      have : l ≠ l' := fun e => hnm (by rw [← h1.1, ← h2.1, e])
      simp [this]
    rw [hd]
    exact (lsame_ne a b n m c d w hnm).mono (by rintro e w' ⟨rfl, rfl⟩; exact ⟨rfl, Below.refl _ _⟩)

/-- The list made 512 bytes long. -/
def sec (l : List Int) : List Int := (List.range 512).map (fun i => l.getD i 0)
theorem sec_len (l : List Int) : (sec l).length = 512 := by simp [sec]
theorem sec_bytes {l : List Int} (h : Bytes l) : Bytes (sec l) := by
  intro x hx
  obtain ⟨j, _, rfl⟩ := List.mem_map.1 hx
  exact h.getD _
theorem sec_getD (l : List Int) {i : Nat} (h : i < 512) : (sec l).getD i 0 = l.getD i 0 := by simp [sec, List.getD, h]
theorem sec_self {l : List Int} (h : l.length = 512) : sec l = l := by
  apply List.ext_getElem?
  intro i
  by_cases hi : i < 512
  · simp [sec, hi, List.getD, List.getElem?_eq_getElem (show i < l.length by omega)]
  · rw [List.getElem?_eq_none (by rw [sec_len]; omega), List.getElem?_eq_none (by omega)]

theorem own_of {w : World} {B k : Nat} {v : Value} {l m : List Int} (h : w.ownsRow B 5 1 v k (bs l)) (hk : m.length = k) (e : m = l) : Own w B v m := by
  subst e; subst hk; exact h

set_option maxHeartbeats 4000000 in
theorem lsector_any (a : Option Addr) (n c : Nat) (l : List Int) (w : World) (hn : n ≤ 140737488355328) (hs : Src w a n l) :
    Calls Try.prog 5 #[.slice a n c] w fun e w' => ∃ v, e = .returned v ∧ Own w' w.heap.size v (sec l) ∧ Below w.heap.size w w' := by
  obtain ⟨i0, hi, hz0, hz1, hz2⟩ := info_parts infoU8
  have H := Hid.mk hs
  have hl := hs.1
  clear hs
  go_enter Try.func5, Try.ntmps5
  go_wp2
  go_loopw [3, 4] (fun v i wr => ∃ k : Nat, k ≤ 512 ∧ i = .int .i64 k ∧ wr.ownsRow w.heap.size 5 1 v k (bs ((List.range k).map (fun i => l.getD i 0))) ∧ Below w.heap.size w wr) (fun _ i _ => 512 - (intOf i).toNat)
  case atStart => exact ⟨0, Nat.zero_le _, rfl, ⟨by simp, .inl ⟨rfl, rfl⟩⟩, Below.refl _ _⟩
  case round =>
    obtain ⟨k, hk, rfl, hown, hbr⟩ := hrel
    by_cases hlt : k < 512
    · have hlt' : (k : Int) < 512 := by omega
      have hz := hbr.size
      have Hown := Hid.mk hown
      have HB := Hid.mk hbr
      have eN : bs ((List.range k).map (fun i => l.getD i 0)) ++ [.int .u8 (l.getD k 0)] = bs ((List.range (k + 1)).map (fun i => l.getD i 0)) := by
        rw [List.range_succ]; simp [bs]
      obtain ⟨X, hX⟩ : ∃ X, X = bs ((List.range k).map (fun i => l.getD i 0)) := ⟨_, rfl⟩
      rw [← hX] at Hown eN
      have HeN := Hid.mk eN
      clear hown hbr eN hX
      by_cases hkn : k < n
      · have hkn' : (k : Int) < (n : Int) := by omega
        obtain ⟨x0, rfl⟩ : ∃ x, a = some x := by
          cases a with
          | none => have := H.out.2.1 rfl; omega
          | some x => exact ⟨x, rfl⟩
        obtain ⟨b, o, rfl, hcell⟩ := H.out.spot (by omega)
        have hc := cell_later HB.out (hcell k hkn)
        clear hcell
        generalize hx : l.getD k 0 = x at *
        go_wp2_with (at_builtin; refine wpList_append_own _ rfl _ _ 25 rfl w.heap.size 5 i0 (.int .u8 0) 1 1 Try.underlying25 hi hz0 hz1 hz2 rfl (by decide) _ _ _ rfl (Hown.out.alloc _) ⟨wr.heap.size, 0, none⟩ 1 1 [.int .u8 x] rfl rfl ?n1 ?n2 ?n3 ?n4 ?n5 ?_)
        case n1 => exact cell_one_new _ _ _
        case n2 => first | rfl | (intro u hu; simp at hu; subst hu; rfl)
        case n3 => unfold maxLen; omega
        case n4 => omega
        case n5 => first | omega | (simp; omega)
        intro v' w1 hown' hgrow' hnil
        have HO : Hid (w1.ownsRow w.heap.size 5 1 v' (k + 1) (bs ((List.range (k + 1)).map (fun i => l.getD i 0)))) := by rw [← HeN.out]; exact hown'
        have HB1 : Hid (Below w.heap.size w w1) := (HB.out.alloc hz _).grown hgrow' (by simp; omega) (fun q e => (Hown.out.lt q e).1)
        clear hown' hgrow' hnil HeN Hown HB
        go_wp2
        go_roundw
        case rel => exact ⟨k + 1, by omega, by go_num, HO.out, HB1.out⟩
        case measure => simp [intOf]; omega
      · have hkn' : ¬ (k : Int) < (n : Int) := by omega
        have hx : l.getD k 0 = 0 := by simp [List.getD, List.getElem?_eq_none (show l.length ≤ k by omega)]
        rw [hx] at HeN
        clear hx
        go_wp2_with (at_builtin; refine wpList_append_own _ rfl _ _ 25 rfl w.heap.size 5 i0 (.int .u8 0) 1 1 Try.underlying25 hi hz0 hz1 hz2 rfl (by decide) _ _ _ rfl (Hown.out.alloc _) ⟨wr.heap.size, 0, none⟩ 1 1 [.int .u8 0] rfl rfl ?n1 ?n2 ?n3 ?n4 ?n5 ?_)
        case n2 => first | rfl | (intro u hu; simp at hu; subst hu; rfl)
        case n3 => unfold maxLen; omega
        case n4 => omega
        case n5 => first | omega | (simp; omega)
        intro v' w1 hown' hgrow' hnil
        have HO : Hid (w1.ownsRow w.heap.size 5 1 v' (k + 1) (bs ((List.range (k + 1)).map (fun i => l.getD i 0)))) := by rw [← HeN.out]; exact hown'
        have HB1 : Hid (Below w.heap.size w w1) := (HB.out.alloc hz _).grown hgrow' (by simp; omega) (fun q e => (Hown.out.lt q e).1)
        clear hown' hgrow' hnil HeN Hown HB
        go_wp2
        go_roundw
        case rel => exact ⟨k + 1, by omega, by go_num, HO.out, HB1.out⟩
        case measure => simp [intOf]; omega
    · have hlt' : ¬ (k : Int) < 512 := by omega
      have e2 : k = 512 := by omega
      subst e2
      have Hown := Hid.mk (own_of (m := sec l) hown (sec_len l) rfl)
      clear hown
      go_wp2
      go_ret
      exact ⟨_, rfl, Hown.out, hbr⟩
end Go.Proofs.Ytohgdjlgbnpobaa
end
