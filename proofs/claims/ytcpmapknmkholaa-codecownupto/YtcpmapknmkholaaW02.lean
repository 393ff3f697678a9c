import Derived.Test.YtcpmapknmkholaaW01
import Derived.Deep.RegionHeld
import Derived.RegionTactic
import Derived.BigRegion
import Derived.Deep.RegionHeld3
section
namespace Go.Proofs.Ytcpmapknmkholaa
open Go.RowKit Go.Maps

section
variable {P : Program} {ops : Array Oper} {Q : Exit → Act → World → Prop} {md : Region.Mode} {S : World → Prop} {k : Nat}

/-- Whatever order is picked from here on, and S holds behind every operation that is carried out, till number k is. -/
def wpAnyS (P : Program) (md : Region.Mode) (ops : Array Oper) (Q : Exit → Act → World → Prop) (S : World → Prop) (k : Nat) : Nat → Array Bool → Act → World → Prop
  | 0, listed, a, w => Region.ready md ops listed = [] ∧ Q .normal a w
  | fuel + 1, listed, a, w =>
    (Region.ready md ops listed = [] → Q .normal a w) ∧
    ∀ i ∈ Region.ready md ops listed, wpOp P ops Q i (fun a' w' => ((listed.setIfInBounds i true).getD k true = true ∨ S w') ∧ wpAnyS P md ops Q S k fuel (listed.setIfInBounds i true) a' w') a w

theorem wpAny_of_sw : ∀ (fuel : Nat) (listed : Array Bool) (a : Act) (w : World), wpAnyS P md ops Q S k fuel listed a w → wpAny P md ops Q fuel listed a w
  | 0, _, _, _, h => h
  | fuel + 1, _, _, _, h => ⟨h.1, fun i hi => wpOp_mono (fun a' w' h' => wpAny_of_sw fuel _ a' w' h'.2) (h.2 i hi)⟩

/-- Number k waits for number i. -/
def waitsOn (md : Region.Mode) (ops : Array Oper) (k i : Nat) : Bool :=
  match ops[k]? with
  | some o => o.after.any (fun e => Region.binds md e && e.on == i)
  | none => false

theorem waits_not {i : Nat} {ok : Oper} (hw : waitsOn md ops k i = true) (hk : ops[k]? = some ok) (hn : ∀ e ∈ ok.after, Region.binds md e = true → e.on ≠ i) : False := by
  unfold waitsOn at hw
  rw [hk] at hw
  obtain ⟨j, hj, hb⟩ := Array.any_eq_true.1 hw
  rw [Bool.and_eq_true] at hb
  exact hn _ (Array.getElem_mem hj) hb.1 (by simpa using hb.2)

theorem wpAnyS_first {i : Nat} {oi : Oper} {v : Value} {T : World → Prop} (hi : ops[i]? = some oi) (hsel : ∀ (j : Nat) (o : Oper) cs b, ops[j]? = some o → o.op ≠ .select cs b)
    (hQ : ∀ c a w, Q (.panic c) (a.put oi.dst v) w → Q (.panic c) a w) (hik : i ≠ k) (hT : (∀ w, T w) ∨ ((∀ w, S w → T w) ∧ waitsOn md ops k i = true)) :
    ∀ (fuel : Nat) (listed : Array Bool) (a : Act) (w : World),
      (∀ j oj, ops[j]? = some oj → j ≠ i → listed.getD j true = false → (∀ e ∈ oj.after, Region.binds md e = true → e.on ≠ i) → oi.apart ops oj = true) →
      i ∈ Region.ready md ops listed → YieldsIf P ops T oi v a → (listed.getD k true = true ∨ S w) → ((∀ w, T w) ∨ listed.getD k true = false) →
      wpAnyS P md ops Q S k fuel (listed.setIfInBounds i true) (a.put oi.dst v) w → wpAnyS P md ops Q S k (fuel + 1) listed a w := by
  intro fuel
  have tw : ∀ (listed : Array Bool) (w : World), (listed.getD k true = true ∨ S w) → ((∀ w, T w) ∨ listed.getD k true = false) → T w := by
    intro listed w h1 h2
    rcases h2 with h2 | h2
    · exact h2 w
    · rcases hT with h3 | h3
      · exact h3 w
      · rcases h1 with h1 | h1
        · rw [h1] at h2
          cases h2
        · exact h3.1 w h1
  induction fuel with
  | zero =>
    intro listed a w _ hr hy hI hk H
    refine ⟨fun h => (by rw [h] at hr; cases hr), fun j hj => ?_⟩
    by_cases hji : j = i
    · subst hji
      exact hy.wpOp hi (tw listed w hI hk) ⟨by rw [getD_set_ne true hik]; exact hI, H⟩
    · have := ready_mono hj hji
      rw [H.1] at this
      cases this
  | succ fuel ih =>
    intro listed a w hfree hr hy hI hk H
    refine ⟨fun h => (by rw [h] at hr; cases hr), fun j hj => ?_⟩
    by_cases hji : j = i
    · subst hji
      exact hy.wpOp hi (tw listed w hI hk) ⟨by rw [getD_set_ne true hik]; exact hI, H⟩
    · have h1 := H.2 j (ready_mono hj hji)
      obtain ⟨hjun, oj, hoj, hall⟩ := mem_ready.1 hj
      have hnot : ∀ e ∈ oj.after, Region.binds md e = true → e.on ≠ i := fun e he hb heq => by
        have h1 := hall e he hb
        have h0 := (mem_ready.1 hr).1
        rw [heq] at h1
        rcases Nat.lt_or_ge i listed.size with h' | h'
        · simp [h'] at h0 h1; rw [h0] at h1; cases h1
        · simp [Array.getElem?_eq_none h'] at h1
      have h2 := wpOp_putIf hoj (hfree j oj hoj hji hjun hnot) (fun cs b => hsel i oi cs b hi) (fun cs b => hsel j oj cs b hoj) hQ hy h1
      have hfree' : ∀ k ok, ops[k]? = some ok → k ≠ i → (listed.setIfInBounds j true).getD k true = false →
          (∀ e ∈ ok.after, Region.binds md e = true → e.on ≠ i) → oi.apart ops ok = true := fun k ok hk hki hun hno => by
        refine hfree k ok hk hki ?_ hno
        by_cases hjk : j = k
        · subst hjk; exact hjun
        · rw [getD_set_ne true hjk] at hun; exact hun
      have hk' : (∀ w, T w) ∨ (listed.setIfInBounds j true).getD k true = false := by
        rcases hT with h3 | h3
        · exact .inl h3
        · rcases hk with hk | hk
          · exact .inl hk
          · refine .inr ?_
            have hjk : j ≠ k := by
              rintro rfl
              exact waits_not h3.2 hoj hnot
            rw [getD_set_ne true hjk]
            exact hk
      refine wpOp_mono (fun a' w' h3 => ⟨?_, ih (listed.setIfInBounds j true) a' w' hfree' (ready_mono hr (Ne.symm hji)) h3.1 ?_ hk' ?_⟩) h2
      · have := h3.2.1
        rw [Array.setIfInBounds_comm _ _ (Ne.symm hji), getD_set_ne true hik] at this
        exact this
      · have := h3.2.1
        rw [Array.setIfInBounds_comm _ _ (Ne.symm hji), getD_set_ne true hik] at this
        exact this
      · rw [Array.setIfInBounds_comm _ _ hji]
        exact h3.2.2

/-- An operation that yields in whatever world. -/
theorem wpAnyS_pure {i : Nat} {oi : Oper} {v : Value} {fuel : Nat} {listed : Array Bool} {a : Act} {w : World} (hi : ops[i]? = some oi) (hik : i ≠ k)
    (hs : Region.noSelect ops = true) (hf : Region.free md ops listed i = true) (hr : (Region.ready md ops listed).contains i = true)
    (hQ : ∀ c a w, Q (.panic c) (a.put oi.dst v) w → Q (.panic c) a w) (hy : YieldsIf P ops (fun _ => True) oi v a) (hI : listed.getD k true = true ∨ S w)
    (h : wpAnyS P md ops Q S k fuel (listed.setIfInBounds i true) (a.put oi.dst v) w) : wpAnyS P md ops Q S k (fuel + 1) listed a w :=
  wpAnyS_first hi (Region.noSelect_spec hs) hQ hik (.inl (fun _ => trivial)) fuel listed a w (Region.free_spec hi hf) (by simpa using hr) hy hI (.inl (fun _ => trivial)) h
/-- A load of what S tells, for which number k waits. -/
theorem wpAnyS_load {i : Nat} {oi : Oper} {v : Value} {fuel : Nat} {listed : Array Bool} {a : Act} {w : World} (hi : ops[i]? = some oi) (hik : i ≠ k) (hw : waitsOn md ops k i = true)
    (hs : Region.noSelect ops = true) (hf : Region.free md ops listed i = true) (hr : (Region.ready md ops listed).contains i = true)
    (hQ : ∀ c a w, Q (.panic c) (a.put oi.dst v) w → Q (.panic c) a w) (hy : YieldsIf P ops S oi v a) (hk : listed.getD k true = false) (hS : S w)
    (h : wpAnyS P md ops Q S k fuel (listed.setIfInBounds i true) (a.put oi.dst v) w) : wpAnyS P md ops Q S k (fuel + 1) listed a w :=
  wpAnyS_first hi (Region.noSelect_spec hs) hQ hik (.inr ⟨fun _ h => h, hw⟩) fuel listed a w (Region.free_spec hi hf) (by simpa using hr) hy (.inr hS) (.inr hk) h
/-- The only one that may come up. -/
theorem wpAnyS_one {i : Nat} {o : Oper} {fuel : Nat} {listed : Array Bool} {a : Act} {w : World} (hr : Region.ready md ops listed = [i]) (ho : ops[i]? = some o)
    (h : ∀ K' : Act → World → Prop, Shut (∀ a w, ((listed.setIfInBounds i true).getD k true = true ∨ S w) → wpAnyS P md ops Q S k fuel (listed.setIfInBounds i true) a w → K' a w) → if Region.wanted o (yielded ops a.tmps) = true then Oper.wp P o a w K' Q else K' (a.put o.dst undef) w) :
    wpAnyS P md ops Q S k (fuel + 1) listed a w := by
  refine ⟨fun h0 => (by rw [hr] at h0; cases h0), fun j hj => ?_⟩
  rw [hr] at hj
  obtain rfl : j = i := by simpa using hj
  exact wpOp_step ho (fun K' hK => h K' (fun a w hS hW => hK a w ⟨hS, hW⟩))
theorem wpAnyS_done {listed : Array Bool} {a : Act} {w : World} (hr : Region.ready md ops listed = []) (h : Q .normal a w) :
    ∀ fuel, wpAnyS P md ops Q S k fuel listed a w
  | 0 => ⟨hr, h⟩
  | _ + 1 => ⟨fun _ => h, by rw [hr]; simp⟩
theorem wp_region_sw {id : Nat} {a : Act} {w : World} (k : Nat) (S : World → Prop) (hm : P.follows .mixedOrders = true) (hS : S w.drew)
    (h : S w.drew → wpAnyS P .any ops Q S k ops.size (Array.replicate ops.size false) a w.drew) : (Code.region id ops true).wp P Q a w :=
  wp_region_any hm (wpAny_of_sw _ _ _ _ (h hS))
theorem sw_append_run {o : Oper} {a : Act} {w w' : World} {K : Act → World → Prop} (s x : Operand) (t : TypeId) (ho : o.op = .call { callee := .builtin .append, args := #[s, x], argTypes := #[t, t] }) (v u r : Value) (hs : a.eval s = v) (hx : a.eval x = u)
    (hr : (Builtin.append_ #[t, t] o.type #[v, u]).run P w = .ok r w') (h : K (a.put o.dst r) w') : o.wp P a w K Q := by
  unfold Oper.wp execOp
  simp only [ho, resolve, invoke, builtin, Sem.run_bind, Sem.run_pure, Result.andThen_ok, List.map_toArray, List.map_cons, List.map_nil, hs, hx, hr]
  exact h
theorem swList_append_run {o : Oper} {rest : List Oper} {a : Act} {w w' : World} (hg : o.guard = none) (s x : Operand) (t : TypeId) (ho : o.op = .call { callee := .builtin .append, args := #[s, x], argTypes := #[t, t] }) (v u r : Value) (hs : a.eval s = v) (hx : a.eval x = u)
    (hr : (Builtin.append_ #[t, t] o.type #[v, u]).run P w = .ok r w') (h : wpList P ops Q rest (a.put o.dst r) w') : wpList P ops Q (o :: rest) a w :=
  wpList_plain hg fun _ hK => sw_append_run s x t ho v u r hs hx hr (hK _ _ h)
end
end Go.Proofs.Ytcpmapknmkholaa
end

section
namespace Go.Proofs.Ytcpmapknmkholaa
open Go.RowKit Go.Maps

section
variable {lab : Nat → Nat} {w : World}
theorem Gro.drew (hz : LZ lab w) (X : Nat → Prop) : Gro lab lab w w.drew X := Gro.plain hz (Keeps.drew (fun _ => False) w) (fun _ _ h => h.elim)
theorem Gro.boxed (hz : LZ lab w) (o : Obj) (X : Nat → Prop) : Gro lab lab w (w.alloc o) X := Gro.below hz (below_box w o) X
end

/-- The owner of the i-th kept list. -/
abbrev yK (i : Nat) : Nat := 41 + 2 * i
theorem yK_ge (i : Nat) : 41 ≤ yK i := Nat.le_add_right _ _
theorem yK_odd (i : Nat) : yK i % 2 = 1 := by show (41 + 2 * i) % 2 = 1; omega
theorem yK_ne {i j : Nat} (h : i ≠ j) : yK i ≠ yK j := by show 41 + 2 * i ≠ 41 + 2 * j; omega
/-- The owners of what is kept. -/
def isK (y : Nat) : Prop := (20 ≤ y ∧ y ≤ 25) ∨ (40 ≤ y ∧ y % 2 = 1)
theorem isK_of {y : Nat} (h1 : 20 ≤ y) (h2 : y ≤ 25) : isK y := .inl ⟨h1, h2⟩
theorem isK_yK (i : Nat) : isK (yK i) := .inr ⟨by have := yK_ge i; omega, yK_odd i⟩

/-- A list of lists of bytes, each in a block of its own, with its room. -/
def LO (w : World) (lab : Nat → Nat) (yr : Nat) (yb : Nat → Nat) (v : Value) (ds : List (List Int)) : Prop :=
  ∃ vs : List Value, vs.length = ds.length ∧ OR w lab yr 36 v ds.length vs ∧ ∀ i (hi : i < ds.length), ∃ u, vs[i]? = some u ∧ OR w lab (yb i) 5 u (ds[i]).length (bs ds[i])

section
variable {w w' : World} {lab lab' : Nat → Nat} {yr : Nat} {yb : Nat → Nat} {v : Value} {ds : List (List Int)} {X : Nat → Prop}
theorem LO.nil (w : World) (lab : Nat → Nat) (yr : Nat) (yb : Nat → Nat) : LO w lab yr yb (.slice none 0 0) [] := ⟨[], rfl, OR.nil _ _ _ _, fun i hi => by cases hi⟩
theorem LO.gro (h : LO w lab yr yb v ds) (g : Gro lab lab' w w' X) (h1 : ¬ X yr) (h2 : ∀ i, i < ds.length → ¬ X (yb i)) : LO w' lab' yr yb v ds := by
  obtain ⟨vs, hl, ho, he⟩ := h
  refine ⟨vs, hl, ho.gro g h1, fun i hi => ?_⟩
  obtain ⟨u, e1, e2⟩ := he i hi
  exact ⟨u, e1, e2.gro g (h2 i hi)⟩
/-- One of them is another's work: its own facts are shown anew. -/
theorem LO.turn (h : LO w lab yr yb v ds) (g : Gro lab lab' w w' X) (h1 : ¬ X yr) {k : Nat} (hk : k < ds.length) (h2 : ∀ i, i < ds.length → i ≠ k → ¬ X (yb i)) (d : List Int) (hd : ∀ u q c, v = .slice (some ⟨q, 0, none⟩) ds.length c → w.cell? ⟨q, k, none⟩ = some u → OR w' lab' (yb k) 5 u d.length (bs d)) : LO w' lab' yr yb v (ds.set k d) := by
  obtain ⟨vs, hl, ho, he⟩ := h
  refine ⟨vs, by simpa using hl, by rw [List.length_set]; exact ho.gro g h1, fun i hi => ?_⟩
  rw [List.length_set] at hi
  obtain ⟨u, e1, e2⟩ := he i hi
  by_cases e : i = k
  · subst e
    obtain ⟨q, c, ev, hr, _, _⟩ := ho.row (by omega)
    exact ⟨u, e1, by rw [List.getElem_set_self]; exact hd u q c ev (hr.cell e1)⟩
  · exact ⟨u, e1, by rw [List.getElem_set_ne (fun h => e h.symm)]; exact e2.gro g (h2 i hi e)⟩
theorem LO.form (h : LO w lab yr yb v ds) : ∃ a c, v = .slice a ds.length c := by
  obtain ⟨vs, hl, ho, he⟩ := h
  exact ho.form
theorem LO.at (h : LO w lab yr yb v ds) {i : Nat} (hi : i < ds.length) : ∃ g cap u, v = .slice (some ⟨g, 0, none⟩) ds.length cap ∧ w.cell? ⟨g, i, none⟩ = some u ∧ OR w lab (yb i) 5 u (ds[i]).length (bs ds[i]) := by
  obtain ⟨vs, hl, ho, he⟩ := h
  obtain ⟨g, c, rfl, hr, _, _⟩ := ho.row (by omega)
  obtain ⟨u, e1, e2⟩ := he i hi
  exact ⟨g, c, u, rfl, hr.cell e1, e2⟩
/-- One more list. -/
theorem LO.push (h : LO w lab yr yb v ds) (hz : LZ lab w) (h0 : ∀ i, yr ≠ yb i) (hn : ds.length ≤ 7000000000000) {u : Value} {d : List Int} (hu : OR w lab (yb ds.length) 5 u d.length (bs d)) :
    ∃ g' cap' w', (Builtin.append_ #[35, 35] 35 #[v, .slice (some ⟨w.heap.size, 0, none⟩) 1 1]).run Try.prog (w.alloc (.cells #[u] 36)) = .ok (.slice (some ⟨g', 0, none⟩) (ds.length + 1) cap') w' ∧ ∃ lab', Gro lab lab' w w' (fun y => y = yr) ∧ LO w' lab' yr yb (.slice (some ⟨g', 0, none⟩) (ds.length + 1) cap') (ds ++ [d]) := by
  obtain ⟨vs, hl, ho, he⟩ := h
  have hx : u.oneCell' = true := by obtain ⟨a, c, rfl⟩ := hu.form; rfl
  obtain ⟨g', cap', w', hrun, hw, hg, hat⟩ := app_list2 ho.1 u hx hn
  have hbx := below_box w (.cells #[u] 36)
  have hk : Keeps (fun k => v.ownBlock = some k) w w' := ⟨hg.os.trans hbx.os, hg.tape.trans hbx.tape, hg.output.trans hbx.output, Nat.le_trans hbx.size hg.size, fun k hk hq => (hg.block k (Nat.lt_of_lt_of_le hk hbx.size) (fun e => hq e.symm)).trans (hbx.block k hk)⟩
  have G := Gro.keeps hz hk yr (fun k _ hf => ho.2 k hf)
  refine ⟨g', cap', w', hrun, _, G, vs ++ [u], by simp [hl], ⟨by rw [List.length_append]; exact hw, fun k hk' => ?_⟩, fun i hi => ?_⟩
  · have e : k = g' := by simpa [Value.ownBlock] using hk'.symm
    subst e
    rcases hat with e | e
    · exact G.tag (rowLt ho.1 e) (ho.2 _ e)
    · exact relab_new (by omega) (rowLt hw rfl)
  · by_cases e : i < ds.length
    · obtain ⟨u2, e1, e2⟩ := he i e
      refine ⟨u2, by rw [List.getElem?_append_left (by omega)]; exact e1, ?_⟩
      rw [List.getElem_append_left e]
      exact e2.gro G (fun e => h0 i e.symm)
    · have ei : i = ds.length := by simp at hi; omega
      subst ei
      refine ⟨u, by rw [List.getElem?_append_right (by omega), hl]; simp, ?_⟩
      simp only [List.getElem_append_right (Nat.le_refl _), Nat.sub_self, List.getElem_cons_zero]
      exact hu.gro G (fun e => h0 _ e.symm)
end

end Go.Proofs.Ytcpmapknmkholaa
end

section
namespace Go.Proofs.Ytcpmapknmkholaa
open Go.RowKit Go.Maps

set_option maxRecDepth 20000 in
/-- Bytes are appended to a list: another that is no longer than it is keeps its own. -/
theorem OR.beside {w : World} {lab lab' : Nat → Nat} {y n n' : Nat} {v v' : Value} {l l' : List Int} (h : OR w lab y 5 v n (bs l)) (h' : OR w lab y 5 v' n' (bs l')) (hnn : n ≤ n') (ad : Addr) (m c : Nat) (nw : List Int) (hm : nw.length = m) (hnw : ∀ j u, (bs nw)[j]? = some u → w.cell? (ad.add j) = some u) (h0 : 0 < m) (hb : n' + m ≤ 1000000000) {r : Value} {w' : World}
    (hr : (Builtin.append_ #[36, 36] 36 #[v', .slice (some ad) m c]).run Try.prog w = .ok r w') {X : Nat → Prop} (G : Gro lab lab' w w' X) : OR w' lab' y 5 v n (bs l) := by
  refine ⟨?_, fun k hk => G.tag (rowLt h.1 hk) (h.2 k hk)⟩
  obtain ⟨i0, hi, hz0, hz1, hz2⟩ := info_parts infoU8
  have hlen : (bs nw).length = m * 1 := by simp [bs, hm]
  have hone : ∀ u ∈ bs nw, u.oneCell' = true := by
    intro u hu
    obtain ⟨x, _, rfl⟩ := List.mem_map.1 hu
    rfl
  obtain ⟨g', cap', w2, hr2, hw, hg, hat, hlt⟩ := run_append_lies (P := Try.prog) w 36 36 0 5 i0 (.int .u8 0) 1 1 Try.underlying36 hi hz0 hz1 hz2 rfl (by decide) v' n' (bs l') h'.1 ad m c (bs nw) hlen hnw hone h0 (by unfold maxLen; omega) (by omega) (Nat.zero_le _) _ rfl
  rw [hr] at hr2
  injection hr2 with e1 e2
  subst e2
  obtain ⟨hl, ⟨rfl, rfl⟩ | ⟨b, cap, cur, rfl, hb0, hblk, hnc, hmc, hcs, ht⟩⟩ := h.1
  · exact ⟨hl, .inl ⟨rfl, rfl⟩⟩
  · have hlt2 := (Array.getElem?_eq_some_iff.1 hblk).1
    by_cases hk : v'.ownBlock = some b
    · obtain ⟨hl', ⟨rfl, rfl⟩ | ⟨b', cap2, cur', rfl, hb0', hblk', hnc', hmc', hcs', ht'⟩⟩ := h'.1
      · cases hk
      · obtain rfl : b' = b := by simpa [Value.ownBlock] using hk
        rw [hblk] at hblk'
        injection hblk' with e5
        injection e5 with e6 e7 e8
        subst e6
        simp only [Nat.mul_one] at hl hcs ht hl' hcs' ht'
        obtain rfl : cap2 = cap := by omega
        by_cases hroom : n' + m ≤ cap2
        · have hr3 := run_append_room (P := Try.prog) w 36 36 5 i0 Try.underlying36 hi b' n' cap2 cur hblk ad m c (bs nw) (by rw [hz1]; exact hlen) hnw hone hroom (by rw [hz1, hlen]; omega)
          rw [hr] at hr3
          injection hr3 with e3 e4
          have hblk2 := setRow_heap w b' cur (cur.toList.take (n' * i0.size) ++ bs nw ++ cur.toList.drop (n' * i0.size + (bs nw).length)).toArray _ _ hblk
          rw [← e4] at hblk2
          rw [hz1, Nat.mul_one] at hblk2
          have hbl : (bs nw).length = m := by simpa using hlen
          refine ⟨by simpa using hl, .inr ⟨b', cap2, _, rfl, Nat.zero_le _, hblk2, hnc, hmc, ?_, ?_⟩⟩
          · simp only [List.size_toArray, List.length_append, List.length_take, List.length_drop, Array.length_toList, hbl]
            omega
          · simp only [Nat.mul_one]
            rw [List.take_append_of_le_length (by simp; omega), List.take_append_of_le_length (by simp; omega), List.take_take, Nat.min_eq_left hnn]
            exact ht
        · have hr3 := run_append_grow (P := Try.prog) w 36 36 5 i0 (.int .u8 0) Try.underlying36 hi hz0 ⟨b', 0, none⟩ n' cap2 (bs l') (by rw [hz1]; simpa using hl') (h'.1.cells (g := b') rfl) ad m c (bs nw) (by rw [hz1]; exact hlen) hnw (by omega) (by omega) (growslice_fits (by omega) (by rw [hz2]; omega))
          rw [hr] at hr3
          injection hr3 with e3 e4
          refine ⟨by simpa using hl, .inr ⟨b', cap2, cur, rfl, Nat.zero_le _, ?_, hnc, hmc, by simpa using hcs, by simpa using ht⟩⟩
          rw [e4, Below.heap_alloc w.drew _ b' hlt2]
          exact hblk
    · exact ⟨hl, .inr ⟨b, cap, cur, rfl, hb0, (hg.block b hlt2 (fun e => hk e.symm)).trans hblk, hnc, hmc, hcs, ht⟩⟩

section
variable {w w' : World} {lab lab' : Nat → Nat} {yr : Nat} {yb : Nat → Nat} {v : Value} {A B : List (List Int)} {d : List Int} {X : Nat → Prop}
/-- The list behind the first ones. -/
theorem LO.mid (h : LO w lab yr yb v (A ++ d :: B)) : ∃ g cap u, v = .slice (some ⟨g, 0, none⟩) (A ++ d :: B).length cap ∧ w.cell? ⟨g, A.length, none⟩ = some u ∧ OR w lab (yb A.length) 5 u d.length (bs d) := by
  obtain ⟨g, cap, u, e1, e2, e3⟩ := h.at (i := A.length) (by simp)
  have e : (A ++ d :: B)[A.length]'(by simp) = d := by simp
  rw [e] at e3
  exact ⟨g, cap, u, e1, e2, e3⟩
theorem LO.midTurn (h : LO w lab yr yb v (A ++ d :: B)) (g : Gro lab lab' w w' X) (h1 : ¬ X yr) (h2 : ∀ i, i ≠ A.length → ¬ X (yb i)) (d' : List Int) (hd : ∀ u q c, v = .slice (some ⟨q, 0, none⟩) (A ++ d :: B).length c → w.cell? ⟨q, A.length, none⟩ = some u → OR w' lab' (yb A.length) 5 u d'.length (bs d')) : LO w' lab' yr yb v (A ++ d' :: B) := by
  have := h.turn g h1 (k := A.length) (by simp) (fun i _ hi => h2 i hi) d' hd
  simpa using this
/-- A byte of one of them is written. -/
theorem LO.put (h : LO w lab yr yb v (A ++ d :: B)) (hz : LZ lab w) (hr : yr ≠ yb A.length) (hne : ∀ i, i ≠ A.length → yb i ≠ yb A.length) {j : Nat} (hj : j < d.length) (x : Int) : ∃ gL cL g c y0, v = .slice (some ⟨gL, 0, none⟩) (A ++ d :: B).length cL ∧ w.cell? ⟨gL, A.length, none⟩ = some (.slice (some ⟨g, 0, none⟩) d.length c) ∧ w.cell? ⟨g, j, none⟩ = some (.int .u8 y0) ∧ w.frozen? ⟨g, j, none⟩ = false ∧ d.length ≤ c ∧ Gro lab lab w (w.setCell ⟨g, j, none⟩ (.int .u8 x)) (fun y => y = yb A.length) ∧ LO (w.setCell ⟨g, j, none⟩ (.int .u8 x)) lab yr yb v (A ++ d.set j x :: B) := by
  obtain ⟨gL, cL, u, e1, e2, e3⟩ := h.mid
  obtain ⟨g, c, rfl, c1, f1, hc, G, hq⟩ := e3.put hz hj x
  refine ⟨gL, cL, g, c, _, e1, e2, c1, f1, hc, G, h.midTurn G (fun e => hr e) (fun i hi e => hne i hi e) _ (fun u q c' ev eu => ?_)⟩
  rw [e1] at ev
  injection ev with q1 q2 q3
  injection q1 with q4
  injection q4 with q5
  subst q5
  rw [e2] at eu
  cases eu
  rw [List.length_set]
  exact hq
/-- Bytes are appended to a list that began as one of them. -/
theorem LO.app (h : LO w lab yr yb v (A ++ d :: B)) (hz : LZ lab w) (hr : yr ≠ yb A.length) (hne : ∀ i, i ≠ A.length → yb i ≠ yb A.length) {n' : Nat} {v' : Value} {l' : List Int} (h' : OR w lab (yb A.length) 5 v' n' (bs l')) (hnn : d.length ≤ n') (ad : Addr) (m c : Nat) (nw : List Int) (hm : nw.length = m) (hnw : ∀ j u, (bs nw)[j]? = some u → w.cell? (ad.add j) = some u) (h0 : 0 < m) (hb : n' + m ≤ 1000000000) :
    ∃ g' cap' w', (Builtin.append_ #[36, 36] 36 #[v', .slice (some ad) m c]).run Try.prog w = .ok (.slice (some ⟨g', 0, none⟩) (n' + m) cap') w' ∧ ∃ lab', Gro lab lab' w w' (fun x => x = yb A.length) ∧ OR w' lab' (yb A.length) 5 (.slice (some ⟨g', 0, none⟩) (n' + m) cap') (n' + m) (bs (l' ++ nw)) ∧ LO w' lab' yr yb v (A ++ d :: B) := by
  obtain ⟨g', cap', w', hrun, lab', G, o1, _⟩ := h'.app hz ad m c nw hm hnw h0 (by omega)
  obtain ⟨gL, cL, u, e1, e2, e3⟩ := h.mid
  refine ⟨g', cap', w', hrun, lab', G, o1, h.midTurn G (fun e => hr e) (fun i hi e => hne i hi e) _ (fun u2 q c' ev eu => ?_)⟩
  rw [e1] at ev
  injection ev with q1 q2 q3
  injection q1 with q4
  injection q4 with q5
  subst q5
  rw [e2] at eu
  cases eu
  exact e3.beside h' hnn ad m c nw hm hnw h0 hb hrun G
end
end Go.Proofs.Ytcpmapknmkholaa
end

section
namespace Go.Proofs.Ytcpmapknmkholaa
open Go.RowKit Go.Maps

/-- Structs in a row that has one owner. -/
def SQ {α : Type} (w : World) (lab : Nat → Nat) (y : Nat) (e : TypeId) (m : Nat) (f : α → List Value) (v : Value) (ys : List α) : Prop :=
  ∃ xs, w.ownsRow 0 e m v ys.length xs ∧ (∀ g, v.ownBlock = some g → lab g = y) ∧ ∀ i (hi : i < ys.length) j u, (f ys[i])[j]? = some u → xs[i * m + j]? = some u

section
variable {α : Type} {w w' : World} {lab lab' : Nat → Nat} {y m : Nat} {e : TypeId} {f : α → List Value} {v : Value} {ys : List α} {X : Nat → Prop}
theorem SQ.gro (h : SQ w lab y e m f v ys) (g : Gro lab lab' w w' X) (hX : ¬ X y) : SQ w' lab' y e m f v ys := by
  obtain ⟨xs, h1, h2, h3⟩ := h
  exact ⟨xs, rowAgree h1 (fun k hk => g.block (rowLt h1 hk) (h2 k hk) hX), fun k hk => g.tag (rowLt h1 hk) (h2 k hk), h3⟩
theorem SQ.form (h : SQ w lab y e m f v ys) : ∃ a c, v = .slice a ys.length c := by
  obtain ⟨xs, ⟨hl, ⟨rfl, h3⟩ | ⟨g, cap, cur, rfl, _⟩⟩, _⟩ := h
  · exact ⟨none, 0, by rw [h3]⟩
  · exact ⟨_, _, rfl⟩
theorem SQ.at (h : SQ w lab y e m f v ys) {i : Nat} (hi : i < ys.length) : ∃ g c, v = .slice (some ⟨g, 0, none⟩) ys.length c ∧ w.rangeAt g (i * m) (f ys[i]) := by
  obtain ⟨xs, h1, h2, h3⟩ := h
  obtain ⟨hl, ⟨rfl, h0⟩ | ⟨g, cap, cur, rfl, _, hb, hn, hm, hc, ht⟩⟩ := h1
  · omega
  · refine ⟨g, cap, rfl, fun j u hu => ?_⟩
    have h4 := h3 i hi j u hu
    rw [← ht, List.getElem?_take] at h4
    split at h4
    · simp only [World.cell?, hb]
      simpa using h4
    · cases h4
/-- A row of one struct. -/
theorem SQ.one (hz : LZ lab w) (x : α) (hf : (f x).length = m) : SQ (w.alloc (.cells (f x).toArray e)) (relab lab w.heap.size (w.alloc (.cells (f x).toArray e)).heap.size y) y e m f (.slice (some ⟨w.heap.size, 0, none⟩) 1 1) [x] ∧ Gro lab (relab lab w.heap.size (w.alloc (.cells (f x).toArray e)).heap.size y) w (w.alloc (.cells (f x).toArray e)) (fun z => z = y) := by
  have G := Gro.keeps hz (Keeps.alloc (fun _ => False) w (.cells (f x).toArray e)) y (fun _ _ h => h.elim)
  refine ⟨⟨f x, ⟨by simpa using hf, .inr ⟨w.heap.size, 1, (f x).toArray, rfl, Nat.zero_le _, heap_alloc_new _ _, Nat.le_refl _, by unfold maxLen; omega, by simpa using hf, ?_⟩⟩, fun g hg => ?_, fun i hi j u hu => ?_⟩, G⟩
  · simp only [List.length_singleton, Nat.one_mul]
    rw [← hf]
    exact List.take_length
  · have e : g = w.heap.size := by simpa [Value.ownBlock] using hg.symm
    rw [e]
    exact relab_new (Nat.le_refl _) (by simp)
  · have e : i = 0 := by simpa using hi
    subst e
    simpa using hu
set_option maxRecDepth 4000 in
/-- One more struct. -/
theorem SQ.push (h : SQ w lab y e m f v ys) (hz : LZ lab w) {t : TypeId} {i0 : TypeInfo} {z : Value} {bytes : Nat} (ht : Try.prog.underlying t = some (.slice e)) (hi : Try.prog.info? e = some i0) (hz0 : i0.zero = some z) (hz1 : i0.size = m) (hz2 : i0.bytes = bytes) (hzs : z.cells.size = m) (hm : 0 < m) (x : α) (hf : (f x).length = m) (h1 : ∀ u ∈ f x, u.oneCell' = true) (hn : (ys.length + 1) * bytes ≤ 140737488355328) (hn2 : ys.length ≤ 1000000000000) :
    ∃ g' cap' w', (Builtin.append_ #[t, t] t #[v, .slice (some ⟨w.heap.size, 0, none⟩) 1 1]).run Try.prog (w.alloc (.cells (f x).toArray e)) = .ok (.slice (some ⟨g', 0, none⟩) (ys.length + 1) cap') w' ∧ ∃ lab', Gro lab lab' w w' (fun z => z = y) ∧ SQ w' lab' y e m f (.slice (some ⟨g', 0, none⟩) (ys.length + 1) cap') (ys ++ [x]) := by
  obtain ⟨xs, h2, h3, h4⟩ := h
  have hbx := below_box w (.cells (f x).toArray e)
  obtain ⟨g', cap', w', hrun, hw, hg, hat, hlt⟩ := run_append_lies (P := Try.prog) (w.alloc (.cells (f x).toArray e)) t t 0 e i0 z m bytes ht hi hz0 hz1 hz2 hzs hm v ys.length xs (rowAgree h2 (fun g hg => Below.heap_alloc _ _ _ (rowLt h2 hg))) ⟨w.heap.size, 0, none⟩ 1 1 (f x) (by rw [hf, Nat.one_mul]) (World.news_of_block (cs := (f x).toArray) (t := e) (fr := (0, 0)) (heap_alloc_new w _)) h1 (by omega) (by unfold maxLen; omega) hn (Nat.zero_le _) _ rfl
  have hk : Keeps (fun k => v.ownBlock = some k) w w' := ⟨hg.os.trans hbx.os, hg.tape.trans hbx.tape, hg.output.trans hbx.output, Nat.le_trans hbx.size hg.size, fun k hk hq => (hg.block k (Nat.lt_of_lt_of_le hk hbx.size) (fun e => hq e.symm)).trans (hbx.block k hk)⟩
  have G := Gro.keeps hz hk y (fun k _ hf => h3 k hf)
  refine ⟨g', cap', w', hrun, _, G, xs ++ f x, by rw [List.length_append]; exact hw, fun k hk' => ?_, fun i hi j u hu => ?_⟩
  · have e : k = g' := by simpa [Value.ownBlock] using hk'.symm
    subst e
    rcases hat with e | e
    · exact G.tag (rowLt h2 e) (h3 _ e)
    · exact relab_new (by simp at e; omega) hlt
  · have hxl := h2.1
    by_cases e : i < ys.length
    · rw [List.getElem_append_left e] at hu
      have h5 := h4 i e j u hu
      rw [List.getElem?_append_left (List.getElem?_eq_some_iff.1 h5).1]
      exact h5
    · have ei : i = ys.length := by simp at hi; omega
      subst ei
      simp only [List.getElem_append_right (Nat.le_refl _), Nat.sub_self, List.getElem_cons_zero] at hu
      rw [List.getElem?_append_right (by omega), hxl, Nat.add_sub_cancel_left]
      exact hu
end

/-- The k-th byte of the mark of number i. -/
def mk4 (i k : Nat) : Int := if k % 4 = 0 then (i : Int) % 256 else if k % 4 = 1 then (i : Int) / 256 % 256 else if k % 4 = 2 then (i : Int) / 65536 % 256 else (i : Int) / 16777216 % 256
theorem mk4_byte (i k : Nat) : 0 ≤ mk4 i k ∧ mk4 i k < 256 := by
  unfold mk4
  repeat' split
  all_goals omega
/-- The mark of number i, n bytes of it. -/
def mks (i n : Nat) : List Int := (List.range n).map (mk4 i)
theorem mks_len (i n : Nat) : (mks i n).length = n := by simp [mks]
theorem mks_get {i n k : Nat} (hk : k < n) : (mks i n).getD k 0 = mk4 i k := by simp [mks, List.getD, hk]
theorem mks_succ (i n : Nat) : mks i (n + 1) = mks i n ++ [mk4 i n] := by simp [mks, List.range_succ]
/-- What is appended to list i: k rounds of it. -/
def tls (i : Nat) : Nat → List Int
  | 0 => []
  | k + 1 => tls i k ++ [255 - mk4 i (k / 4 + k), (k : Int) % 256, 195]
theorem tls_len (i : Nat) : ∀ k, (tls i k).length = 3 * k
  | 0 => rfl
  | k + 1 => by rw [tls, List.length_append, tls_len i k]; simp; omega
def tl (i : Nat) : List Int := (tls i 700).take 700
theorem tl_len (i : Nat) : (tl i).length = 700 := by unfold tl; rw [List.length_take, tls_len]; omega
end Go.Proofs.Ytcpmapknmkholaa
end

section
namespace Go.Proofs.Ytcpmapknmkholaa
open Go.RowKit

set_option maxRecDepth 20000 in
set_option maxHeartbeats 1000000 in
theorem same_ne (a b : Option Addr) (n m c d : Nat) (w : World) (h : n ≠ m) :
    Calls Try.prog 9 #[.slice a n c, .slice b m d] w fun e w' => e = .returned (.bool false) ∧ w' = w := by
  have h' : (((n : Int)) != (m : Int)) = true := by rw [bne_iff_ne]; omega
  go_enter Try.func9, Try.ntmps9
  go_wp2
  go_ret
  exact ⟨rfl, rfl⟩

set_option maxRecDepth 20000 in
set_option maxHeartbeats 1000000 in
theorem same_low (b o b' o' : Nat) (n c d : Nat) (l : List Int) (w : World) (hn : n ≤ 140737488355328) (h1 : ∀ i, i < n → w.cell? ⟨b, o + i, none⟩ = some (.int .u8 (l.getD i 0))) (h2 : ∀ i, i < n → w.cell? ⟨b', o' + i, none⟩ = some (.int .u8 (l.getD i 0))) :
    Calls Try.prog 9 #[.slice (some ⟨b, o, none⟩) n c, .slice (some ⟨b', o', none⟩) n d] w fun e w' => e = .returned (.bool true) ∧ Below w.heap.size w w' := by
  have h' : (((n : Int)) != (n : Int)) = false := by simp
  have H1 : Hid (∀ i, i < n → w.cell? ⟨b, o + i, none⟩ = some (.int .u8 (l.getD i 0))) := h1
  have H2 : Hid (∀ i, i < n → w.cell? ⟨b', o' + i, none⟩ = some (.int .u8 (l.getD i 0))) := h2
  clear h1 h2
  go_enter Try.func9, Try.ntmps9
  go_wp2
  go_loopw [5] (fun i wr => ∃ k : Nat, k ≤ n ∧ i = .int .i64 k ∧ Below w.heap.size w wr) (fun i _ => n - (intOf i).toNat)
  case atStart => exact ⟨0, Nat.zero_le _, rfl, Below.refl _ _⟩
  case round =>
    obtain ⟨k, hk, rfl, hb⟩ := hrel
    by_cases hlt : k < n
    · have c1 := cell_later hb (H1.out k hlt)
      have c2 := cell_later hb (H2.out k hlt)
      have hlt' : (k : Int) < (n : Int) := by omega
      go_wp2
      go_quiet (fail)
      go_wp2
      go_roundw
      case rel => exact ⟨k + 1, by omega, by go_num, below_drewN hb _⟩
      case measure => simp [intOf]; omega
    · have hlt' : ¬ (k : Int) < (n : Int) := by omega
      go_wp2
      go_ret
      exact ⟨rfl, hb⟩

set_option maxRecDepth 20000 in
set_option maxHeartbeats 1000000 in
theorem same_zero (a b : Option Addr) (c d : Nat) (w : World) :
    Calls Try.prog 9 #[.slice a 0 c, .slice b 0 d] w fun e w' => e = .returned (.bool true) ∧ w' = w := by
  go_enter Try.func9, Try.ntmps9
  go_wp2
  refine wp_loop_rounds 1 ?_; rw [rounds_succ]; go_wp2
  go_ret
  exact ⟨rfl, rfl⟩

theorem same_any (a b : Option Addr) (n c d : Nat) (l : List Int) (w : World) (hn : n ≤ 140737488355328) (h1 : Src w a n l) (h2 : Src w b n l) :
    Calls Try.prog 9 #[.slice a n c, .slice b n d] w fun e w' => e = .returned (.bool true) ∧ Below w.heap.size w w' := by
  by_cases h0 : n = 0
  · subst h0
    exact (same_zero a b c d w).mono (by rintro e w' ⟨rfl, rfl⟩; exact ⟨rfl, Below.refl _ _⟩)
  · cases a with
    | none => exact absurd (h1.2.1 rfl) h0
    | some x =>
      cases b with
      | none => exact absurd (h2.2.1 rfl) h0
      | some y =>
        obtain ⟨b1, o1, rfl, k1⟩ := h1.spot (by omega)
        obtain ⟨b2, o2, rfl, k2⟩ := h2.spot (by omega)
        exact same_low b1 o1 b2 o2 n c d l w hn k1 k2


set_option maxRecDepth 20000 in
set_option maxHeartbeats 2000000 in
theorem tight_any (a : Option Addr) (n c : Nat) (l : List Int) (w : World) (hn : n ≤ 140737488355328) (hs : Src w a n l) :
    Calls Try.prog 10 #[.slice a n c] w fun e w' => ∃ g, e = .returned (.slice (some ⟨g, 0, none⟩) n n) ∧ w.heap.size ≤ g ∧ RowAt w' 5 g n (bs l) ∧ Below w.heap.size w w' := by
  obtain ⟨i0, hi, hz0, hz1, hz2⟩ := info_parts infoU8
  have H := Hid.mk hs
  clear hs
  go_enter Try.func10, Try.ntmps10
  go_wp2_with (at_make; refine wpList_make_full _ rfl _ _ 36 rfl w.heap.size 5 i0 (.int .u8 0) 1 Try.underlying36 hi hz0 hz1 _ _ _ _ n rfl rfl ?c1 ?c2 ?c3 ?c4 ?c5 ?_)
  case c1 => rfl
  case c2 => rfl
  case c3 => rw [hz2]; omega
  case c4 => unfold maxLen; omega
  case c5 => exact Nat.le_refl _
  intro w1 hown hgrow
  have hr := made_row hown
  have hb : Below w.heap.size w w1 := (Below.refl _ w).grown hgrow (Nat.le_refl _) (by intro k hk; cases hk)
  have hf := hr.full (by simp [bs])
  have hs1 := H.out.later hb
  have hl := H.out.1
  clear hown hgrow
  obtain ⟨w2, hrun, hh, hk, _⟩ := copy_run w1 3 (some ⟨w.heap.size, 0, none⟩) w.heap.size 0 n n a n c (bs (List.replicate n 0)) l hf hs1 (fun _ => rfl) (by simp [bs])
  have hb2 : Below w.heap.size w w2 := hb.trans (hk.below (fun k h => by omega) hb.size)
  have hr2 : RowAt w2 5 w.heap.size n (bs l) := by
    have e : splice (bs (List.replicate n 0)) 0 (bs (l.take n)) = bs l := by
      rw [List.take_of_length_le (by omega)]
      simp [splice, bs]; omega
    rw [e] at hh
    have := RowAt.of_full hh (by simp [bs, maxLen]; omega)
    simpa [bs, hl] using this
  clear hh hf hr hs1 hb hk
  go_wp2
  go_ret
  exact ⟨w.heap.size, rfl, Nat.le_refl _, hr2, hb2⟩

theorem set_row {w : World} {g : Nat} {l : List Int} {i : Nat} (x : Int) (h : w.heap[g]? = some (.cells (bs l).toArray 5 (0, 0))) :
    (w.setCell ⟨g, i, none⟩ (.int .u8 x)).heap[g]? = some (.cells (bs (l.set i x)).toArray 5 (0, 0)) := by
  rw [heap_setCell_same _ _ _ _ _ _ h]
  congr 2
  apply Array.ext'
  simp [bs, List.map_set]

/-- The list with the spare room's bytes behind it. -/
def pad (l : List Int) : List Int := l ++ List.replicate 5 165

theorem pad_src {w : World} {g n : Nat} {l : List Int} (h : RowAt w 5 g (n + 5) (bs (pad l))) (hl : l.length = n) : Src w (some ⟨g, 0, none⟩) n l :=
  ⟨hl, (fun h => by cases h), fun x hx i hi => by
    cases hx
    rw [h.byte (by simp [pad]; omega)]
    simp [pad, List.getD, List.getElem?_append_left (show i < l.length by omega)]⟩
theorem pad_spare {w : World} {g n : Nat} {l : List Int} (h : RowAt w 5 g (n + 5) (bs (pad l))) (hl : l.length = n) (k : Nat) (hk : k < 5) : w.cell? ⟨g, n + k, none⟩ = some (.int .u8 165) := by
  have := h.byte (i := n + k) (by simp [pad]; omega)
  rw [addr_add, Nat.zero_add] at this
  rw [this]
  have e : n + k - l.length = k := by omega
  simp only [pad, List.getD, List.getElem?_append_right (show l.length ≤ n + k by omega), e]
  rw [List.getElem?_replicate, if_pos hk]
  rfl

/-- One byte turned. -/
def bend (l : List Int) (i : Nat) : List Int := l.set i (((l.getD i 0).toNat ^^^ 90 : Nat) : Int)
theorem bend_len (l : List Int) (i : Nat) : (bend l i).length = l.length := by simp [bend]
theorem bend_bytes {l : List Int} (h : Bytes l) (i : Nat) : Bytes (bend l i) := by
  intro x hx
  by_cases hi : i < l.length
  · rcases List.mem_or_eq_of_mem_set hx with h1 | h1
    · exact h x h1
    · subst h1
      have := h l[i] (List.getElem_mem hi)
      have e : (l.getD i 0) = l[i] := by simp [List.getD, hi]
      rw [e]
      have h2 : l[i].toNat ^^^ 90 < 2 ^ 8 := Nat.xor_lt_two_pow (by omega) (by omega)
      omega
  · rw [bend, List.set_eq_of_length_le (by omega)] at hx
    exact h x hx

end Go.Proofs.Ytcpmapknmkholaa
end

section
namespace Go.Proofs.Ytcpmapknmkholaa
open Go.RowKit Go.Maps

theorem rowForm {w : World} {B m n : Nat} {e : TypeId} {v : Value} {xs : List Value} (h : w.ownsRow B e m v n xs) : ∃ a c, v = .slice a n c := by
  obtain ⟨_, ⟨rfl, h3⟩ | ⟨g, cap, cur, rfl, _⟩⟩ := h
  · exact ⟨none, 0, by rw [h3]⟩
  · exact ⟨_, _, rfl⟩
set_option maxRecDepth 20000 in
set_option maxHeartbeats 1000000 in
theorem mark_any (i k : Nat) (hi : i ≤ 1000000000) (hk : k ≤ 1000000000) (w : World) :
    Calls Try.prog 19 #[.int .i64 (i : Int), .int .i64 (k : Int)] w fun e w' => e = .returned (.int .u8 (mk4 i k)) ∧ w' = w := by
  have hm : (0 : Int) ≤ (k : Int) % 4 ∧ (k : Int) % 4 < 4 := by omega
  have hmm : (k : Int) % 4 = ((k % 4 : Nat) : Int) := by omega
  have hM : mk4 i k = if (k : Int) % 4 = 0 then (i : Int) % 256 else if (k : Int) % 4 = 1 then (i : Int) / 256 % 256 else if (k : Int) % 4 = 2 then (i : Int) / 65536 % 256 else (i : Int) / 16777216 % 256 := by
    unfold mk4
    simp only [hmm, Int.natCast_eq_zero, show (((k % 4 : Nat) : Int) = 1) = (k % 4 = 1) from propext (by omega), show (((k % 4 : Nat) : Int) = 2) = (k % 4 = 2) from propext (by omega)]
  have HM := Hid.mk hM
  clear hM hmm
  go_enter Try.func19, Try.ntmps19
  go_wp2
  all_goals go_ret
  · rename_i h0
    exact ⟨by rw [HM.out, if_pos (beq_iff_eq.1 h0)]; rfl, rfl⟩
  · rename_i h0 h1
    exact ⟨by rw [HM.out, if_neg (by simpa using h0), if_pos (beq_iff_eq.1 h1)]; rfl, rfl⟩
  · rename_i h0 h1 h2
    exact ⟨by rw [HM.out, if_neg (by simpa using h0), if_neg (by simpa using h1), if_pos (beq_iff_eq.1 h2)]; rfl, rfl⟩
  · rename_i h0 h1 h2
    refine ⟨?_, rfl⟩
    rw [HM.out, if_neg (by simpa using h0), if_neg (by simpa using h1), if_neg (by simpa using h2), show (i : Int) / 16777216 % 256 = (i : Int) / 16777216 by omega]
    rfl

set_option maxRecDepth 20000 in
set_option maxHeartbeats 1000000 in
/-- What is appended to list i: new memory. -/
theorem tail_any (i : Nat) (hi : i ≤ 1000000000) (w : World) :
    Calls Try.prog 20 #[.int .i64 (i : Int)] w fun e w' => ∃ g c, e = .returned (.slice (some ⟨g, 0, none⟩) 700 c) ∧ w.heap.size ≤ g ∧ Src w' (some ⟨g, 0, none⟩) 700 (tl i) ∧ Below w.heap.size w w' := by
  obtain ⟨i0, hI, hz0, hz1, hz2⟩ := info_parts infoU8
  go_enter Try.func20, Try.ntmps20
  go_wp2
  go_loopw [3, 4] (fun b k wr => ∃ t : Nat, t ≤ 700 ∧ k = .int .i64 (t : Int) ∧ wr.ownsRow w.heap.size 5 1 b (3 * t) (bs (tls i t)) ∧ Below w.heap.size w wr) (fun _ k _ => 700 - (intOf k).toNat)
  case atStart => exact ⟨0, Nat.zero_le _, rfl, World.ownsRow_nil _ _ _ _, Below.refl _ _⟩
  case round =>
    obtain ⟨t, ht, rfl, hrow, hb⟩ := hrel
    obtain ⟨ba, bc, rfl⟩ := rowForm hrow
    by_cases hlt : t < 700
    · have hlt' : (t : Int) < 700 := by omega
      have hmk := mk4_byte i (t / 4 + t)
      have hma := mark_any i (t / 4 + t) hi (by omega) wr
      have e1 : ((t / 4 + t : Nat) : Int) = (t : Int) / 4 + (t : Int) := by omega
      rw [e1] at hma
      obtain ⟨x, hx⟩ : ∃ x, x = mk4 i (t / 4 + t) := ⟨_, rfl⟩
      rw [← hx] at hma hmk
      have hrow2 : (wr.alloc (.cells #[.int .u8 (255 - x), .int .u8 ((t : Int) % 256), .int .u8 195] 5)).ownsRow w.heap.size 5 1 (.slice ba (3 * t) bc) (3 * t) (bs (tls i t)) := rowAgree hrow (fun g hg => Below.heap_alloc _ _ _ (rowLt hrow hg))
      obtain ⟨g, cap, w', hr, hw, hg, hat, _⟩ := run_append_lies (P := Try.prog) (wr.alloc (.cells #[.int .u8 (255 - x), .int .u8 ((t : Int) % 256), .int .u8 195] 5)) 36 36 w.heap.size 5 i0 (.int .u8 0) 1 1 Try.underlying36 hI hz0 hz1 hz2 rfl (by decide) _ (3 * t) _ hrow2 ⟨wr.heap.size, 0, none⟩ 3 3 [.int .u8 (255 - x), .int .u8 ((t : Int) % 256), .int .u8 195] rfl (World.news_of_block (cs := #[.int .u8 (255 - x), .int .u8 ((t : Int) % 256), .int .u8 195]) (t := 5) (fr := (0, 0)) (heap_alloc_new wr _)) (by simp [Value.oneCell']) (by omega) (by unfold maxLen; omega) (by omega) (by have := hb.size; simp; omega) _ rfl
      have hb2 : Below w.heap.size w w' := (hb.alloc hb.size _).grown hg (by have := hb.size; simp; omega) (fun k hk => rowLow hrow2 hk)
      have hw2 : w'.ownsRow w.heap.size 5 1 (.slice (some ⟨g, 0, none⟩) (3 * t + 3) cap) (3 * (t + 1)) (bs (tls i (t + 1))) := by
        have e : bs (tls i (t + 1)) = bs (tls i t) ++ [.int .u8 (255 - x), .int .u8 ((t : Int) % 256), .int .u8 195] := by simp only [tls, bs, List.map_append, List.map_cons, List.map_nil, hx]
        rw [e]
        exact hw
      have HR := Hid.mk (And.intro hw2 hb2)
      have HA := Hid.mk hr
      clear hrow hb e1 hrow2 hr hw hg hat hb2 hw2 hI hz0 hz1 hz2 hx
      generalize 3 * t = q at *
      go_wp2_with fail
      refine hma.mono ?_
      rintro e w2 ⟨rfl, rfl⟩
      clear hma
      go_wp2_with (at_builtin; refine swList_append_run rfl _ _ 36 rfl (.slice ba q bc) (.slice (some ⟨w2.heap.size, 0, none⟩) 3 3) _ rfl rfl HA.out ?_)
      go_roundw
      case rel => exact ⟨t + 1, by omega, by go_num, HR.out⟩
      case measure => simp [intOf]; omega
    · obtain rfl : t = 700 := by omega
      have hlt' : ¬ (700 : Int) < 700 := by omega
      obtain ⟨hl, ⟨_, h0⟩ | ⟨g, cap, cur, e1, hg, hbk, hnc, hmc, hcs, htk⟩⟩ := hrow
      · omega
      · injection e1 with q1 q2 q3
        subst q1
        subst q3
        simp only [Nat.mul_one] at hl hcs htk
        have hcap : 2100 ≤ bc := by omega
        have hcap' : (2100 : Int) ≤ (bc : Int) := by omega
        have hcm : bc ≤ 9223372036854775807 := by unfold maxLen at hmc; omega
        have hr : RowAt wr 5 g bc (bs (tl i)) := ⟨cur, hbk, hcs, by
          have e : bs (tl i) = (bs (tls i 700)).take 700 := by simp [tl, bs, List.map_take]
          rw [e, List.length_take, List.length_map, tls_len, ← htk, List.take_take], hmc⟩
        have hs := hr.src
        rw [tl_len] at hs
        have HR := Hid.mk (And.intro hg (And.intro hs hb))
        clear hl hbk hnc hmc hcs htk hr hs hb hg
        go_wp2
        go_ret
        exact ⟨g, ⟨bc, rfl⟩, HR.out⟩
end Go.Proofs.Ytcpmapknmkholaa
end

section
namespace Go.Proofs.Ytcpmapknmkholaa
open Go.RowKit Go.Maps

set_option maxRecDepth 20000 in
set_option maxHeartbeats 2000000 in
/-- The first n bytes hold the mark of number j. -/
theorem marked_any (a : Option Addr) (m c n j : Nat) (l : List Int) (w : World) (hs : Src w a m l) (hn : n ≤ m) (hm : m ≤ 1000000000) (hj : j ≤ 1000000000) (hl : ∀ k, k < n → l.getD k 0 = mk4 j k) :
    Calls Try.prog 21 #[.slice a m c, .int .i64 (n : Int), .int .i64 (j : Int)] w fun e w' => e = .returned (.bool true) ∧ Below w.heap.size w w' := by
  have hnm : ¬ (m : Int) < (n : Int) := by omega
  have HS := Hid.mk hs
  clear hs
  go_enter Try.func21, Try.ntmps21
  go_wp2
  go_loopw [7] (fun i wr => ∃ k : Nat, k ≤ n ∧ i = .int .i64 k ∧ Below w.heap.size w wr) (fun i _ => n - (intOf i).toNat)
  case atStart => exact ⟨0, Nat.zero_le _, rfl, Below.refl _ _⟩
  case round =>
    obtain ⟨k, hk, rfl, hb⟩ := hrel
    by_cases hlt : k < n
    · obtain ⟨x, rfl⟩ : ∃ x, a = some x := by
        cases a with
        | none => have := HS.out.2.1 rfl; omega
        | some x => exact ⟨x, rfl⟩
      obtain ⟨b, o, rfl, hc⟩ := (HS.out.later hb).spot (by omega)
      have c0 := hc k (by omega)
      rw [hl k hlt] at c0
      have hlt' : (k : Int) < (n : Int) := by omega
      have hk0 : (0 : Int) ≤ (k : Int) := by omega
      have hkm : k < m := by omega
      have hdr : Below wr.heap.size wr wr.drew := (Keeps.drew (fun _ => False) wr).below (fun _ h => h.elim) (Nat.le_refl _)
      have c1 : wr.drew.cell? ⟨b, o + k, none⟩ = some (.int .u8 (mk4 j k)) := cell_later hdr c0
      have hma := mark_any j k hj (by omega) wr.drew
      have HB := Hid.mk (hb.trans (hdr.mono hb.size))
      obtain ⟨W, hW⟩ : ∃ W, W = wr.drew := ⟨_, rfl⟩
      generalize mk4 j k = x at *
      clear hb hc c0 hdr hk
      go_wp2
      refine wp_region_held_drew (S := (fun w' => w'.cell? ⟨b, o + k, none⟩ = some (.int .u8 x))) (by kernel_rfl) (c1) (fun hHeld => ?_)
      refine wpAnyH_take (i := 0) (oi := { dst := some 17, op := Op.move (Operand.tmp 0), type := 36, pos := "outright.go:307", after := #[], guard := none }) (v := .slice (some ⟨b, o, none⟩) m c) rfl (by kernel_rfl) (by kernel_rfl) (by kernel_rfl) (fun _ _ _ h => h) (Or.inl ⟨by rfl, ?_⟩) (by assumption) ?_
      · intro w hSw
        (try dsimp only at hSw)
        go_simp
      try simp only [Act.put, List.setIfInBounds_toArray, List.set_cons_zero, List.set_cons_succ]
      refine wpAnyH_take (i := 1) (oi := { dst := some 18, op := Op.move (Operand.tmp 7), type := 3, pos := "outright.go:307", after := #[], guard := none }) (v := .int .i64 (k : Int)) rfl (by kernel_rfl) (by kernel_rfl) (by kernel_rfl) (fun _ _ _ h => h) (Or.inl ⟨by rfl, ?_⟩) (by assumption) ?_
      · intro w hSw
        (try dsimp only at hSw)
        go_simp
      try simp only [Act.put, List.setIfInBounds_toArray, List.set_cons_zero, List.set_cons_succ]
      refine wpAnyH_take (i := 2) (oi := { dst := some 19, op := Op.indexAddr 36 (Operand.tmp 17) (Operand.tmp 18), type := 0, pos := "outright.go:307", after := #[{ on := 0, ground := Ground.data }, { on := 1, ground := Ground.data }], guard := none }) (v := .pointer (some ⟨b, o + k, none⟩)) rfl (by kernel_rfl) (by kernel_rfl) (by kernel_rfl) (fun _ _ _ h => h) (Or.inl ⟨by rfl, ?_⟩) (by assumption) ?_
      · intro w hSw
        (try dsimp only at hSw)
        go_simp
      try simp only [Act.put, List.setIfInBounds_toArray, List.set_cons_zero, List.set_cons_succ]
      refine wpAnyH_take (i := 3) (oi := { dst := some 20, op := Op.load 5 (Operand.tmp 19), type := 5, pos := "outright.go:307", after := #[{ on := 2, ground := Ground.data }], guard := none }) (v := .int .u8 x) rfl (by kernel_rfl) (by kernel_rfl) (by kernel_rfl) (fun _ _ _ h => h) (Or.inl ⟨by rfl, ?_⟩) (by assumption) ?_
      · intro w hSw
        (try dsimp only at hSw)
        go_simp
      try simp only [Act.put, List.setIfInBounds_toArray, List.set_cons_zero, List.set_cons_succ]
      refine wpAnyH_take (i := 4) (oi := { dst := some 21, op := Op.move (Operand.tmp 2), type := 3, pos := "outright.go:307", after := #[], guard := none }) (v := .int .i64 (j : Int)) rfl (by kernel_rfl) (by kernel_rfl) (by kernel_rfl) (fun _ _ _ h => h) (Or.inl ⟨by rfl, ?_⟩) (by assumption) ?_
      · intro w hSw
        (try dsimp only at hSw)
        go_simp
      try simp only [Act.put, List.setIfInBounds_toArray, List.set_cons_zero, List.set_cons_succ]
      refine wpAnyH_take (i := 5) (oi := { dst := some 22, op := Op.move (Operand.tmp 7), type := 3, pos := "outright.go:307", after := #[], guard := none }) (v := .int .i64 (k : Int)) rfl (by kernel_rfl) (by kernel_rfl) (by kernel_rfl) (fun _ _ _ h => h) (Or.inl ⟨by rfl, ?_⟩) (by assumption) ?_
      · intro w hSw
        (try dsimp only at hSw)
        go_simp
      try simp only [Act.put, List.setIfInBounds_toArray, List.set_cons_zero, List.set_cons_succ]
      refine wpAnyH_ready (rs := [6]) (by kernel_rfl) (by simp) ?_
      refine AllReadyH.cons (o := { dst := some 23, op := Op.call { callee := Callee.value (Operand.func 19), args := #[Operand.tmp 21, Operand.tmp 22], argTypes := #[3, 3] }, type := 5, pos := "outright.go:307", after := #[{ on := 4, ground := Ground.data }, { on := 5, ground := Ground.data }], guard := none }) rfl (fun K hK => ?_) AllReadyH.nil
      go_simp
      refine hma.mono ?_
      rintro e w5 ⟨rfl, rfl⟩
      refine hK.out _ _ ?_ (fun hHeld => ?_)
      · exact c1
      clear hK K
      try simp only [Act.put, List.setIfInBounds_toArray, List.set_cons_zero, List.set_cons_succ]
      refine wpAnyH_take (i := 7) (oi := { dst := some 24, op := Op.binOp BinOp.neq 5 (Operand.tmp 20) (Operand.tmp 23) 5, type := 4, pos := "outright.go:307", after := #[{ on := 3, ground := Ground.data }, { on := 6, ground := Ground.data }], guard := none }) (v := .bool false) rfl (by kernel_rfl) (by kernel_rfl) (by kernel_rfl) (fun _ _ _ h => h) (Or.inl ⟨by rfl, ?_⟩) (by assumption) ?_
      · intro w hSw
        (try dsimp only at hSw)
        go_simp
      try simp only [Act.put, List.setIfInBounds_toArray, List.set_cons_zero, List.set_cons_succ]
      refine wpAnyH_done (by kernel_rfl) ?_ _
      clear hHeld hma c1 hW
      go_wp2
      go_roundw
      case rel => exact ⟨k + 1, by omega, by go_num, HB.out⟩
      case measure => simp [intOf]; omega
    · have hlt' : ¬ (k : Int) < (n : Int) := by omega
      go_wp2
      go_ret
      exact ⟨rfl, hb⟩
end Go.Proofs.Ytcpmapknmkholaa
end
