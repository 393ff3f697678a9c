import Derived.Test.YtijgdmhglnanjaaGreatW28
section
namespace Go.Proofs.YtijgdmhglnanjaaGreat
open Go.RowKit

section
variable {w w' : World} {F G : Nat → Prop} {r s k : Nat} {S : DS} {L : LG}

set_option maxRecDepth 20000 in
set_option maxHeartbeats 2000000 in
theorem rAppend_no (h : RefAt w F r s S) (hl : LogR w k r L) (hk : L.Ok s) (a : Option Addr) (x c : Nat) (hx : x ≤ 140737488355328) (hr : L.refuses S x ≠ 0) :
    Calls Tryz.prog 62 #[.pointer (some ⟨k, 0, none⟩), .slice a x c] w fun e w' => e = .returned (.int .i64 (L.refuses S x)) ∧ Below w.heap.size w w' := by
  have h1 := rready_any h hl
  have h2 := fun wx => rcount_any x wx hx
  have HL := Hid.mk hl
  have hhi := hk.hi
  have hth := hk.th
  have hn2 := hk.n2
  unfold LG.refuses at hr ⊢
  clear h hl hk
  by_cases k0 : L.unready S = 0
  · simp only [if_neg (fun h : ¬ L.unready S = 0 => h k0)] at hr ⊢
    rw [k0] at h1
    clear k0
    by_cases k1 : x = 0
    · simp only [if_pos k1]
      have d1 : ((x : Int) == 0) = true := by rw [beq_iff_eq]; omega
      clear hr k1
      go_enter Tryz.func62, Tryz.ntmps62
      go_wp2_with fail
      refine h1.mono ?_
      rintro e w1 ⟨rfl, hb1⟩
      have hl1 := HL.out.later hb1
      have c3 := hl1.c3
      have c5 := hl1.c5
      have c6 := hl1.c6
      clear h1
      go_wp2_with fail
      refine (h2 _).mono ?_
      rintro e w2 ⟨rfl, hw2⟩
      have hw3 := hw2.symm
      subst hw3
      have HB1 := Hid.mk hb1
      clear h2 hw2 hb1 hl1
      go_wp2
      go_ret
      exact ⟨rfl, HB1.out⟩
    · simp only [if_neg k1] at hr ⊢
      have d1 : ((x : Int) == 0) = false := by rw [beq_eq_false_iff_ne]; omega
      clear k1
      by_cases k2 : 8364 < x
      · simp only [if_pos k2]
        have d2 : (8364 : Int) < (x : Int) := by omega
        clear hr k2
        go_enter Tryz.func62, Tryz.ntmps62
        go_wp2_with fail
        refine h1.mono ?_
        rintro e w1 ⟨rfl, hb1⟩
        have hl1 := HL.out.later hb1
        have c3 := hl1.c3
        have c5 := hl1.c5
        have c6 := hl1.c6
        clear h1
        go_wp2_with fail
        refine (h2 _).mono ?_
        rintro e w2 ⟨rfl, hw2⟩
        have hw3 := hw2.symm
        subst hw3
        have HB1 := Hid.mk hb1
        clear h2 hw2 hb1 hl1
        go_wp2
        go_ret
        exact ⟨rfl, HB1.out⟩
      · simp only [if_neg k2] at hr ⊢
        have d2 : ¬ (8364 : Int) < (x : Int) := by omega
        clear k2
        have hcc : cntOf x = (x + 491) / 492 := rfl
        by_cases k3 : 1073741824 < L.head + cntOf x
        · simp only [if_pos k3]
          clear hr
          obtain ⟨C, hC⟩ : ∃ C, C = (x + 491) / 492 := ⟨_, rfl⟩
          have hC2 : C ≤ 17 := by omega
          have d3 : (1073741824 : Int) < (L.head : Int) + (C : Int) := by omega
          have HC := Hid.mk hC
          clear k3 hcc hC
          go_enter Tryz.func62, Tryz.ntmps62
          go_wp2_with fail
          refine h1.mono ?_
          rintro e w1 ⟨rfl, hb1⟩
          have hl1 := HL.out.later hb1
          have c3 := hl1.c3
          have c5 := hl1.c5
          have c6 := hl1.c6
          clear h1
          go_wp2_with fail
          refine (h2 _).mono ?_
          rintro e w2 ⟨rfl, hw2⟩
          have hw3 := hw2.symm
          subst hw3
          rw [← HC.out]
          have HB1 := Hid.mk hb1
          clear h2 hw2 hb1 hl1
          go_wp2
          go_ret
          exact ⟨rfl, HB1.out⟩
        · simp only [if_neg k3] at hr ⊢
          by_cases k4 : L.tail + L.n < L.head + cntOf x
          · simp only [if_pos k4]
            clear hr
            obtain ⟨C, hC⟩ : ∃ C, C = (x + 491) / 492 := ⟨_, rfl⟩
            have hC2 : C ≤ 17 := by omega
            have d3 : ¬ (1073741824 : Int) < (L.head : Int) + (C : Int) := by omega
            have d4 : (L.n : Int) - ((L.head : Int) - (L.tail : Int)) < (C : Int) := by omega
            have HC := Hid.mk hC
            clear k3 k4 hcc hC
            go_enter Tryz.func62, Tryz.ntmps62
            go_wp2_with fail
            refine h1.mono ?_
            rintro e w1 ⟨rfl, hb1⟩
            have hl1 := HL.out.later hb1
            have c3 := hl1.c3
            have c5 := hl1.c5
            have c6 := hl1.c6
            clear h1
            go_wp2_with fail
            refine (h2 _).mono ?_
            rintro e w2 ⟨rfl, hw2⟩
            have hw3 := hw2.symm
            subst hw3
            rw [← HC.out]
            have HB1 := Hid.mk hb1
            clear h2 hw2 hb1 hl1
            go_wp2_with fail
            go_quiet (fail)
            go_wp2
            go_ret
            exact ⟨rfl, below_drewN HB1.out _⟩
          · exact absurd (if_neg k4) hr
  · simp only [if_pos (fun h => k0 h : ¬ L.unready S = 0)]
    have d0 : (L.unready S == 0) = false := by rw [beq_eq_false_iff_ne]; exact k0
    clear hr k0
    go_enter Tryz.func62, Tryz.ntmps62
    go_wp2_with fail
    refine h1.mono ?_
    rintro e w1 ⟨rfl, hb1⟩
    have hl1 := HL.out.later hb1
    have c3 := hl1.c3
    have c5 := hl1.c5
    have c6 := hl1.c6
    clear h1
    go_wp2_with fail
    refine (h2 _).mono ?_
    rintro e w2 ⟨rfl, hw2⟩
    have hw3 := hw2.symm
    subst hw3
    have HB1 := Hid.mk hb1
    clear h2 hw2 hb1 hl1
    go_wp2
    go_ret
    exact ⟨rfl, HB1.out⟩

theorem rAppend_any (h : RefAt w F r s S) (hl : LogR w k r L) (hk : L.Ok s) (hF : ¬ F k) (hby : S.Byt) (a : Option Addr) (x c : Nat) (d : List Int) (hs : Src w a x d) (hFs : ∀ y, a = some y → 0 < x → ¬ F y.block) (hd : Bytes d) (hxc : x ≤ c) (hx : x ≤ 140737488355328) (hbig : S.puts.length + 100 ≤ 4000000000000) :
    Calls Tryz.prog 62 #[.pointer (some ⟨k, 0, none⟩), .slice a x c] w fun e w' => e = .returned (.int .i64 (L.append S s d).1) ∧ RefAt w' (more F w w') r s (L.append S s d).2.1 ∧ LogR w' k r (L.append S s d).2.2 ∧ Keeps (fun j => F j ∨ j = k) w w' := by
  by_cases hr : L.refuses S x = 0
  · have hx1 := (refuses_zero hr).2.1
    obtain ⟨b, o, rfl⟩ := src_spot hs hx1
    exact rAppend_go h hl hk hF hby b o x c d hs (hFs _ rfl hx1) hd hxc hr hbig
  · refine (rAppend_no h hl hk a x c hx hr).mono ?_
    rintro e w' ⟨rfl, hb⟩
    unfold LG.append
    rw [hs.1, if_pos hr]
    exact ⟨rfl, (h.later hb).more, hl.later hb, Keeps.of_below _ hb⟩
end
end Go.Proofs.YtijgdmhglnanjaaGreat
end

section
namespace Go.Proofs.YtijgdmhglnanjaaGreat
open Go.RowKit

abbrev ptrL (l : Nat) : Value := .pointer (some ⟨l, 0, none⟩)
abbrev wdC (p r : Nat) (v u : Value) : Array Value := #[ptrL p, ptrL r, v, u]
/-- The blocks of one owner. -/
abbrev ofL (lab : Nat → Nat) (x : Nat) : Nat → Prop := fun k => lab k = x
/-- New blocks get an owner. -/
def relab (lab : Nat → Nat) (a b x : Nat) : Nat → Nat := fun k => if a ≤ k ∧ k < b then x else lab k

/-- The law's world in memory: the two disks, the logs opened on either; who owns which block. -/
structure Wd (w : World) (q : Nat) (lab : Nat → Nat) (p r s : Nat) (S T : DS) (v u : Value) (ps rs : List Nat) (ls ms : List LG) : Prop where
  box : w.heap[q]? = some (.cells (wdC p r v u) 32 (0, 0))
  bq : lab q = 3
  lz : ∀ k, w.heap.size ≤ k → lab k = 0
  d : DiskR w (ofL lab 1) p s S
  e : RefAt w (ofL lab 2) r s T
  vs : w.ownsRow 0 80 1 v ls.length (ps.map ptrL)
  vb : ∀ g, v.ownBlock = some g → lab g = 4
  us : w.ownsRow 0 83 1 u ms.length (rs.map ptrL)
  ub : ∀ g, u.ownBlock = some g → lab g = 5
  lp : ∀ i L, ls[i]? = some L → ∃ l, ps[i]? = some l ∧ LogP w l p L ∧ lab l = 6 + 2 * i
  lr : ∀ i L, ms[i]? = some L → ∃ k, rs[i]? = some k ∧ LogR w k r L ∧ lab k = 7 + 2 * i

theorem relab_old {lab : Nat → Nat} {a b x k : Nat} (h : k < a) : relab lab a b x k = lab k := by
  unfold relab; rw [if_neg (by omega)]
theorem relab_new {lab : Nat → Nat} {a b x k : Nat} (h : a ≤ k) (h2 : k < b) : relab lab a b x k = x := by
  unfold relab; rw [if_pos ⟨h, h2⟩]
theorem relab_far {lab : Nat → Nat} {a b x k : Nat} (h : b ≤ k) : relab lab a b x k = lab k := by
  unfold relab; rw [if_neg (by omega)]
theorem owns_lt {W : World} {B : Nat} {e : TypeId} {v : Value} {n : Nat} {xs : List Value} {g : Nat} (h : W.ownsRow B e 1 v n xs) (hv : v.ownBlock = some g) : g < W.heap.size := by
  obtain ⟨cur, hc⟩ := owns_block h hv
  exact lt_there hc

section
variable {w w' : World} {q p r s : Nat} {lab : Nat → Nat} {S T S' T' : DS} {v u : Value} {ps rs : List Nat} {ls ms : List LG}

theorem Wd.qlt (h : Wd w q lab p r s S T v u ps rs ls ms) : q < w.heap.size := lt_there h.box
/-- Others' blocks may change. -/
theorem Wd.keep {X : Nat → Prop} (h : Wd w q lab p r s S T v u ps rs ls ms) (hk : Keeps X w w') (hX : ∀ k, X k → lab k = 0) : Wd w' q lab p r s S T v u ps rs ls ms := by
  refine ⟨(hk.block q h.qlt (fun hx => by have := hX _ hx; have := h.bq; omega)).trans h.box, h.bq, fun k hk' => h.lz k (Nat.le_trans hk.size hk'), h.d.keep hk (fun k hf hx => by have := hX _ hx; have : lab k = 1 := hf; omega), h.e.keep hk (fun k hf hx => by have := hX _ hx; have : lab k = 2 := hf; omega), owns_agree h.vs (fun g hg => hk.block g (owns_lt h.vs hg) (fun hx => by have := hX _ hx; have := h.vb g hg; omega)), h.vb, owns_agree h.us (fun g hg => hk.block g (owns_lt h.us hg) (fun hx => by have := hX _ hx; have := h.ub g hg; omega)), h.ub, fun i L hi => ?_, fun i L hi => ?_⟩
  · obtain ⟨l, e1, e2, e3⟩ := h.lp i L hi
    exact ⟨l, e1, e2.keep hk (fun hx => by have := hX _ hx; omega), e3⟩
  · obtain ⟨l, e1, e2, e3⟩ := h.lr i L hi
    exact ⟨l, e1, e2.keep hk (fun hx => by have := hX _ hx; omega), e3⟩
theorem Wd.later (h : Wd w q lab p r s S T v u ps rs ls ms) (hb : Below w.heap.size w w') : Wd w' q lab p r s S T v u ps rs ls ms :=
  h.keep (Keeps.of_below (fun _ => False) hb) (fun _ h => h.elim)
theorem relab_mem {x : Nat} (_hlz : ∀ k, w.heap.size ≤ k → lab k = 0) : ∀ k, more (ofL lab x) w w' k → relab lab w.heap.size w'.heap.size x k = x := fun k hk => by
  rcases hk with hk | hk
  · unfold relab
    split
    · rfl
    · exact hk
  · exact relab_new hk.1 hk.2
theorem relab_lt {x : Nat} (hx : x ≠ 0) (hlz : ∀ k, w.heap.size ≤ k → lab k = 0) (hs : w.heap.size ≤ w'.heap.size) : ∀ k, relab lab w.heap.size w'.heap.size x k = x → k < w'.heap.size := fun k hk => by
  apply Decidable.byContradiction
  intro hn
  rw [relab_far (by omega), hlz k (by omega)] at hk
  exact hx hk.symm
theorem relab_other {x y : Nat} (_hxy : x ≠ y) {k : Nat} (h : lab k = y) (hlt : k < w.heap.size) : relab lab w.heap.size w'.heap.size x k = y := by
  rw [relab_old hlt]; exact h

/-- A step of the program's disk and of one of its logs. -/
theorem Wd.log (h : Wd w q lab p r s S T v u ps rs ls ms) {i : Nat} {L L' : LG} (hi : ls[i]? = some L) {l : Nat} (hpl : ps[i]? = some l) (hd : DiskR w' (more (ofL lab 1) w w') p s S') (hl : LogP w' l p L') (hk : Keeps (fun k => ofL lab 1 k ∨ k = l) w w') :
    Wd w' q (relab lab w.heap.size w'.heap.size 1) p r s S' T v u ps rs (ls.set i L') ms := by
  have hlt : i < ls.length := (List.getElem?_eq_some_iff.1 hi).1
  obtain ⟨l0, e1, e2, e3⟩ := h.lp i L hi
  obtain rfl : l0 = l := by rw [hpl] at e1; exact (Option.some.inj e1).symm
  have hz := hk.size
  have old : ∀ {k : Nat}, k < w.heap.size → relab lab w.heap.size w'.heap.size 1 k = lab k := fun hk => relab_old hk
  have kept : ∀ {k : Nat}, k < w.heap.size → lab k ≠ 1 → lab k ≠ 6 + 2 * i → w'.heap[k]? = w.heap[k]? := fun hk1 h1 h2 => hk.block _ hk1 (fun hx => hx.elim h1 (fun e => h2 (by rw [e]; exact e3)))
  refine ⟨(kept h.qlt (by rw [h.bq]; omega) (by rw [h.bq]; omega)).trans h.box, (old h.qlt).trans h.bq, fun k hk' => by rw [relab_far hk']; exact h.lz k (by omega), hd.mono (relab_mem h.lz) (relab_lt (by omega) h.lz hz), (h.e.keep hk (fun k hf hx => ?_)).mono (fun k hf => relab_other (by omega) hf (h.e.lt k hf)) (fun k hf => ?_), ?_, fun g hg => (old (owns_lt h.vs hg)).trans (h.vb g hg), ?_, fun g hg => (old (owns_lt h.us hg)).trans (h.ub g hg), fun j M hj => ?_, fun j M hj => ?_⟩
  · have hf : lab k = 2 := hf
    rcases hx with hx | hx
    · have hx : lab k = 1 := hx; omega
    · subst hx; omega
  · apply Decidable.byContradiction
    intro hn
    have : relab lab w.heap.size w'.heap.size 1 k = 2 := hf
    rw [relab_far (by omega), h.lz k (by omega)] at this
    omega
  · rw [List.length_set]
    exact owns_agree h.vs (fun g hg => kept (owns_lt h.vs hg) (by have := h.vb g hg; omega) (by have := h.vb g hg; omega))
  · exact owns_agree h.us (fun g hg => kept (owns_lt h.us hg) (by have := h.ub g hg; omega) (by have := h.ub g hg; omega))
  · by_cases e : j = i
    · subst e
      rw [List.getElem?_set_self hlt] at hj
      obtain rfl := Option.some.inj hj
      exact ⟨l0, e1, hl, (old e2.lt).trans e3⟩
    · rw [List.getElem?_set_ne (fun h => e h.symm)] at hj
      obtain ⟨l1, a1, a2, a3⟩ := h.lp j M hj
      exact ⟨l1, a1, (kept a2.lt (by omega) (by omega)).trans a2, (old a2.lt).trans a3⟩
  · obtain ⟨l1, a1, a2, a3⟩ := h.lr j M hj
    exact ⟨l1, a1, (kept a2.lt (by omega) (by omega)).trans a2, (old a2.lt).trans a3⟩
/-- A step of the document's. -/
theorem Wd.rlog (h : Wd w q lab p r s S T v u ps rs ls ms) {i : Nat} {L L' : LG} (hi : ms[i]? = some L) {l : Nat} (hpl : rs[i]? = some l) (hd : RefAt w' (more (ofL lab 2) w w') r s T') (hl : LogR w' l r L') (hk : Keeps (fun k => ofL lab 2 k ∨ k = l) w w') :
    Wd w' q (relab lab w.heap.size w'.heap.size 2) p r s S T' v u ps rs ls (ms.set i L') := by
  have hlt : i < ms.length := (List.getElem?_eq_some_iff.1 hi).1
  obtain ⟨l0, e1, e2, e3⟩ := h.lr i L hi
  obtain rfl : l0 = l := by rw [hpl] at e1; exact (Option.some.inj e1).symm
  have hz := hk.size
  have old : ∀ {k : Nat}, k < w.heap.size → relab lab w.heap.size w'.heap.size 2 k = lab k := fun hk => relab_old hk
  have kept : ∀ {k : Nat}, k < w.heap.size → lab k ≠ 2 → lab k ≠ 7 + 2 * i → w'.heap[k]? = w.heap[k]? := fun hk1 h1 h2 => hk.block _ hk1 (fun hx => hx.elim h1 (fun e => h2 (by rw [e]; exact e3)))
  refine ⟨(kept h.qlt (by rw [h.bq]; omega) (by rw [h.bq]; omega)).trans h.box, (old h.qlt).trans h.bq, fun k hk' => by rw [relab_far hk']; exact h.lz k (by omega), (h.d.keep hk (fun k hf hx => ?_)).mono (fun k hf => relab_other (by omega) hf (h.d.lt k hf)) (fun k hf => ?_), hd.mono (relab_mem h.lz) (relab_lt (by omega) h.lz hz), ?_, fun g hg => (old (owns_lt h.vs hg)).trans (h.vb g hg), ?_, fun g hg => (old (owns_lt h.us hg)).trans (h.ub g hg), fun j M hj => ?_, fun j M hj => ?_⟩
  · have hf : lab k = 1 := hf
    rcases hx with hx | hx
    · have hx : lab k = 2 := hx; omega
    · subst hx; omega
  · apply Decidable.byContradiction
    intro hn
    have : relab lab w.heap.size w'.heap.size 2 k = 1 := hf
    rw [relab_far (by omega), h.lz k (by omega)] at this
    omega
  · exact owns_agree h.vs (fun g hg => kept (owns_lt h.vs hg) (by have := h.vb g hg; omega) (by have := h.vb g hg; omega))
  · rw [List.length_set]
    exact owns_agree h.us (fun g hg => kept (owns_lt h.us hg) (by have := h.ub g hg; omega) (by have := h.ub g hg; omega))
  · obtain ⟨l1, a1, a2, a3⟩ := h.lp j M hj
    exact ⟨l1, a1, (kept a2.lt (by omega) (by omega)).trans a2, (old a2.lt).trans a3⟩
  · by_cases e : j = i
    · subst e
      rw [List.getElem?_set_self hlt] at hj
      obtain rfl := Option.some.inj hj
      exact ⟨l0, e1, hl, (old e2.lt).trans e3⟩
    · rw [List.getElem?_set_ne (fun h => e h.symm)] at hj
      obtain ⟨l1, a1, a2, a3⟩ := h.lr j M hj
      exact ⟨l1, a1, (kept a2.lt (by omega) (by omega)).trans a2, (old a2.lt).trans a3⟩
/-- A step of the program's disk. -/
theorem Wd.disk (h : Wd w q lab p r s S T v u ps rs ls ms) (hd : DiskR w' (more (ofL lab 1) w w') p s S') (hk : Keeps (ofL lab 1) w w') : Wd w' q (relab lab w.heap.size w'.heap.size 1) p r s S' T v u ps rs ls ms := by
  have hz := hk.size
  have old : ∀ {k : Nat}, k < w.heap.size → relab lab w.heap.size w'.heap.size 1 k = lab k := fun hk => relab_old hk
  have kept : ∀ {k : Nat}, k < w.heap.size → lab k ≠ 1 → w'.heap[k]? = w.heap[k]? := fun hk1 h1 => hk.block _ hk1 h1
  refine ⟨(kept h.qlt (by rw [h.bq]; omega)).trans h.box, (old h.qlt).trans h.bq, fun k hk' => by rw [relab_far hk']; exact h.lz k (by omega), hd.mono (relab_mem h.lz) (relab_lt (by omega) h.lz hz), (h.e.keep hk (fun k hf hx => ?_)).mono (fun k hf => relab_other (by omega) hf (h.e.lt k hf)) (fun k hf => ?_), ?_, fun g hg => (old (owns_lt h.vs hg)).trans (h.vb g hg), ?_, fun g hg => (old (owns_lt h.us hg)).trans (h.ub g hg), fun j M hj => ?_, fun j M hj => ?_⟩
  · have hf : lab k = 2 := hf
    have hx : lab k = 1 := hx; omega
  · apply Decidable.byContradiction
    intro hn
    have : relab lab w.heap.size w'.heap.size 1 k = 2 := hf
    rw [relab_far (by omega), h.lz k (by omega)] at this
    omega
  · exact owns_agree h.vs (fun g hg => kept (owns_lt h.vs hg) (by have := h.vb g hg; omega))
  · exact owns_agree h.us (fun g hg => kept (owns_lt h.us hg) (by have := h.ub g hg; omega))
  · obtain ⟨l1, a1, a2, a3⟩ := h.lp j M hj
    exact ⟨l1, a1, (kept a2.lt (by omega)).trans a2, (old a2.lt).trans a3⟩
  · obtain ⟨l1, a1, a2, a3⟩ := h.lr j M hj
    exact ⟨l1, a1, (kept a2.lt (by omega)).trans a2, (old a2.lt).trans a3⟩
/-- A step of the document's disk. -/
theorem Wd.ref (h : Wd w q lab p r s S T v u ps rs ls ms) (hd : RefAt w' (more (ofL lab 2) w w') r s T') (hk : Keeps (ofL lab 2) w w') : Wd w' q (relab lab w.heap.size w'.heap.size 2) p r s S T' v u ps rs ls ms := by
  have hz := hk.size
  have old : ∀ {k : Nat}, k < w.heap.size → relab lab w.heap.size w'.heap.size 2 k = lab k := fun hk => relab_old hk
  have kept : ∀ {k : Nat}, k < w.heap.size → lab k ≠ 2 → w'.heap[k]? = w.heap[k]? := fun hk1 h1 => hk.block _ hk1 h1
  refine ⟨(kept h.qlt (by rw [h.bq]; omega)).trans h.box, (old h.qlt).trans h.bq, fun k hk' => by rw [relab_far hk']; exact h.lz k (by omega), (h.d.keep hk (fun k hf hx => ?_)).mono (fun k hf => relab_other (by omega) hf (h.d.lt k hf)) (fun k hf => ?_), hd.mono (relab_mem h.lz) (relab_lt (by omega) h.lz hz), ?_, fun g hg => (old (owns_lt h.vs hg)).trans (h.vb g hg), ?_, fun g hg => (old (owns_lt h.us hg)).trans (h.ub g hg), fun j M hj => ?_, fun j M hj => ?_⟩
  · have hf : lab k = 1 := hf
    have hx : lab k = 2 := hx; omega
  · apply Decidable.byContradiction
    intro hn
    have : relab lab w.heap.size w'.heap.size 2 k = 1 := hf
    rw [relab_far (by omega), h.lz k (by omega)] at this
    omega
  · exact owns_agree h.vs (fun g hg => kept (owns_lt h.vs hg) (by have := h.vb g hg; omega))
  · exact owns_agree h.us (fun g hg => kept (owns_lt h.us hg) (by have := h.ub g hg; omega))
  · obtain ⟨l1, a1, a2, a3⟩ := h.lp j M hj
    exact ⟨l1, a1, (kept a2.lt (by omega)).trans a2, (old a2.lt).trans a3⟩
  · obtain ⟨l1, a1, a2, a3⟩ := h.lr j M hj
    exact ⟨l1, a1, (kept a2.lt (by omega)).trans a2, (old a2.lt).trans a3⟩
/-- A step that leaves the document's disk in its blocks. -/
theorem Wd.ref0 (h : Wd w q lab p r s S T v u ps rs ls ms) (hd : RefAt w' (ofL lab 2) r s T') (hk : Keeps (ofL lab 2) w w') : Wd w' q lab p r s S T' v u ps rs ls ms := by
  have hz := hk.size
  have kept : ∀ {k : Nat}, k < w.heap.size → lab k ≠ 2 → w'.heap[k]? = w.heap[k]? := fun hk1 h1 => hk.block _ hk1 h1
  refine ⟨(kept h.qlt (by rw [h.bq]; omega)).trans h.box, h.bq, fun k hk' => h.lz k (by omega), h.d.keep hk (fun k hf hx => ?_), hd, ?_, h.vb, ?_, h.ub, fun j M hj => ?_, fun j M hj => ?_⟩
  · have hf : lab k = 1 := hf
    have hx : lab k = 2 := hx; omega
  · exact owns_agree h.vs (fun g hg => kept (owns_lt h.vs hg) (by have := h.vb g hg; omega))
  · exact owns_agree h.us (fun g hg => kept (owns_lt h.us hg) (by have := h.ub g hg; omega))
  · obtain ⟨l1, a1, a2, a3⟩ := h.lp j M hj
    exact ⟨l1, a1, (kept a2.lt (by omega)).trans a2, a3⟩
  · obtain ⟨l1, a1, a2, a3⟩ := h.lr j M hj
    exact ⟨l1, a1, (kept a2.lt (by omega)).trans a2, a3⟩
theorem Wd.disk0 (h : Wd w q lab p r s S T v u ps rs ls ms) (hd : DiskR w' (ofL lab 1) p s S') (hk : Keeps (ofL lab 1) w w') : Wd w' q lab p r s S' T v u ps rs ls ms := by
  have hz := hk.size
  have kept : ∀ {k : Nat}, k < w.heap.size → lab k ≠ 1 → w'.heap[k]? = w.heap[k]? := fun hk1 h1 => hk.block _ hk1 h1
  refine ⟨(kept h.qlt (by rw [h.bq]; omega)).trans h.box, h.bq, fun k hk' => h.lz k (by omega), hd, h.e.keep hk (fun k hf hx => ?_), ?_, h.vb, ?_, h.ub, fun j M hj => ?_, fun j M hj => ?_⟩
  · have hf : lab k = 2 := hf
    have hx : lab k = 1 := hx; omega
  · exact owns_agree h.vs (fun g hg => kept (owns_lt h.vs hg) (by have := h.vb g hg; omega))
  · exact owns_agree h.us (fun g hg => kept (owns_lt h.us hg) (by have := h.ub g hg; omega))
  · obtain ⟨l1, a1, a2, a3⟩ := h.lp j M hj
    exact ⟨l1, a1, (kept a2.lt (by omega)).trans a2, a3⟩
  · obtain ⟨l1, a1, a2, a3⟩ := h.lr j M hj
    exact ⟨l1, a1, (kept a2.lt (by omega)).trans a2, a3⟩
theorem Wd.c0 (h : Wd w q lab p r s S T v u ps rs ls ms) : w.cell? ⟨q, 0, none⟩ = some (ptrL p) := cell_of_block h.box (j := 0) rfl
theorem Wd.c1 (h : Wd w q lab p r s S T v u ps rs ls ms) : w.cell? ⟨q, 1, none⟩ = some (ptrL r) := cell_of_block h.box (j := 1) rfl
theorem Wd.c2 (h : Wd w q lab p r s S T v u ps rs ls ms) : w.cell? ⟨q, 2, none⟩ = some v := cell_of_block h.box (j := 2) rfl
theorem Wd.c3 (h : Wd w q lab p r s S T v u ps rs ls ms) : w.cell? ⟨q, 3, none⟩ = some u := cell_of_block h.box (j := 3) rfl
end

/-- What a step keeps of the blocks of others. -/
structure Kept (w w' : World) (lab lab' : Nat → Nat) : Prop where
  k : Keeps (fun k => lab k ≠ 0) w w'
  o : ∀ k, k < w.heap.size → lab' k = lab k
theorem Kept.refl (w : World) (lab : Nat → Nat) : Kept w w lab lab := ⟨Keeps.refl _ _, fun _ _ => rfl⟩
theorem Kept.trans {w w1 w2 : World} {lab lab1 lab2 : Nat → Nat} (h1 : Kept w w1 lab lab1) (h2 : Kept w1 w2 lab1 lab2) : Kept w w2 lab lab2 :=
  ⟨h1.k.trans h2.k (fun j hj => by
    by_cases e : j < w.heap.size
    · left; rw [← h1.o j e]; exact hj
    · exact .inr (by omega)), fun k hk => (h2.o k (Nat.lt_of_lt_of_le hk h1.k.size)).trans (h1.o k hk)⟩
theorem Kept.later {w w' : World} (lab : Nat → Nat) (h : Below w.heap.size w w') : Kept w w' lab lab := ⟨Keeps.of_below _ h, fun _ _ => rfl⟩
theorem Kept.new {w w' : World} {lab : Nat → Nat} {X : Nat → Prop} (x : Nat) (h : Keeps X w w') (hX : ∀ k, X k → lab k ≠ 0) : Kept w w' lab (relab lab w.heap.size w'.heap.size x) := ⟨h.mono hX, fun _ hk => relab_old hk⟩
theorem Kept.same {w w' : World} {lab : Nat → Nat} {X : Nat → Prop} (h : Keeps X w w') (hX : ∀ k, X k → lab k ≠ 0) : Kept w w' lab lab := ⟨h.mono hX, fun _ _ => rfl⟩
end Go.Proofs.YtijgdmhglnanjaaGreat
end

section
namespace Go.Proofs.YtijgdmhglnanjaaGreat
open Go.RowKit

/-- What age answers. -/
def AgeOut (n : Nat) (e : Ending) : Prop := (n = 0 ∧ e = .returned (.int .i64 (-1))) ∨ ∃ i : Nat, i < n ∧ e = .returned (.int .i64 (i : Int))
set_option maxRecDepth 20000 in
set_option maxHeartbeats 2000000 in
theorem age_any (w : World) (q : Nat) (a : Option Addr) (n c : Nat) (hc : w.cell? ⟨q, 2, none⟩ = some (.slice a n c)) (x : Int) (hx : x ≤ 9223372036854775807) (hn : n ≤ 140737488355328) :
    Calls Tryz.prog 58 #[.pointer (some ⟨q, 0, none⟩), .int .i64 x] w fun e w' => AgeOut n e ∧ w' = w := by
  by_cases h0 : n = 0
  · subst h0
    go_enter Tryz.func58, Tryz.ntmps58
    go_wp2
    go_ret
    exact ⟨.inl ⟨rfl, rfl⟩, rfl⟩
  · have h1 : ¬ (n : Int) = 0 := by omega
    have h2 : ((n : Int) == 0) = false := by rw [beq_eq_false_iff_ne]; omega
    by_cases k : x < 0
    · have e1 : (0 : Int).tmod (n : Int) = 0 := by simp
      go_enter Tryz.func58, Tryz.ntmps58
      go_wp2
      go_ret
      exact ⟨.inr ⟨n - 1, by omega, by congr 1; congr 1; first | omega | (simp; omega)⟩, rfl⟩
    · obtain ⟨y, rfl⟩ : ∃ y : Nat, x = (y : Int) := ⟨x.toNat, by omega⟩
      have e1 : (y : Int).tmod (n : Int) = ((y % n : Nat) : Int) := by rw [Int.tmod_eq_emod_of_nonneg (by omega), ← Int.natCast_emod]
      have hm : y % n < n := Nat.mod_lt _ (by omega)
      have hw : IntKind.i64.wrap ((y % n : Nat) : Int) = ((y % n : Nat) : Int) := by rw [IntKind.wrap_i64]; omega
      obtain ⟨m, hmm⟩ : ∃ m, m = y % n := ⟨_, rfl⟩
      rw [← hmm] at e1 hm hw
      clear hmm
      go_enter Tryz.func58, Tryz.ntmps58
      go_wp2
      go_ret
      exact ⟨.inr ⟨n - 1 - m, by omega, by congr 1; congr 1; first | omega | (simp; omega)⟩, rfl⟩

set_option maxRecDepth 20000 in
set_option maxHeartbeats 2000000 in
theorem lives_any {w : World} {F : Nat → Prop} {p s q : Nat} {S : DS} (h : DiskR w F p s S) (hc : w.cell? ⟨q, 0, none⟩ = some (.pointer (some ⟨p, 0, none⟩))) (f life : Int) (burnt : Bool)
    (hy : (S.life = life ∧ (f = 11 ∨ f = 1 ∨ (f = 3 ∧ burnt = true))) ∨ (S.life ≠ life ∧ f ≠ 11 ∧ f ≠ 1 ∧ (f = 3 → burnt = false))) :
    Calls Tryz.prog 18 #[.pointer (some ⟨q, 0, none⟩), .int .i64 f, .bool burnt, .int .i64 life] w fun e w' => e = .returned (.bool true) ∧ w' = w := by
  have h1 := dlife h
  rcases hy with ⟨rfl, rfl | rfl | ⟨rfl, rfl⟩⟩ | ⟨h2, h3, h4, h5⟩
  · go_enter Tryz.func18, Tryz.ntmps18
    go_wp2_with fail
    refine h1.mono ?_
    rintro e w1 ⟨rfl, hw1⟩
    have hw1' := hw1.symm
    clear hw1
    subst hw1'
    go_wp2
    go_ret
    exact ⟨by simp, rfl⟩
  · go_enter Tryz.func18, Tryz.ntmps18
    go_wp2_with fail
    refine h1.mono ?_
    rintro e w1 ⟨rfl, hw1⟩
    have hw1' := hw1.symm
    clear hw1
    subst hw1'
    go_wp2
    go_ret
    exact ⟨by simp, rfl⟩
  · go_enter Tryz.func18, Tryz.ntmps18
    go_wp2_with fail
    refine h1.mono ?_
    rintro e w1 ⟨rfl, hw1⟩
    have hw1' := hw1.symm
    clear hw1
    subst hw1'
    go_wp2
    go_ret
    exact ⟨by simp, rfl⟩
  · have d3 : (f == 11) = false := by rw [beq_eq_false_iff_ne]; exact h3
    have d4 : (f == 1) = false := by rw [beq_eq_false_iff_ne]; exact h4
    have d2 : (S.life == life) = false := by rw [beq_eq_false_iff_ne]; exact h2
    by_cases k : f = 3
    · obtain rfl := h5 k
      subst k
      clear h5 h2
      go_enter Tryz.func18, Tryz.ntmps18
      go_wp2_with fail
      refine h1.mono ?_
      rintro e w1 ⟨rfl, hw1⟩
      have hw1' := hw1.symm
      clear hw1
      subst hw1'
      go_wp2
      go_ret
      exact ⟨by simp, rfl⟩
    · have d5 : (f == 3) = false := by rw [beq_eq_false_iff_ne]; exact k
      clear h5 h2
      go_enter Tryz.func18, Tryz.ntmps18
      go_wp2_with fail
      refine h1.mono ?_
      rintro e w1 ⟨rfl, hw1⟩
      have hw1' := hw1.symm
      clear hw1
      subst hw1'
      go_wp2
      go_ret
      exact ⟨by simp, rfl⟩

theorem RecsAt.form {W : World} {B : Nat} {v : Value} {rs : List (List Int)} {X : Nat → Prop} (h : RecsAt W B v rs X) : ∃ a c, v = .slice a rs.length c ∧ ∀ i (hi : i < rs.length), ∃ b g x y, a = some ⟨b, 0, none⟩ ∧ W.cell? ⟨b, i, none⟩ = some (.slice (some ⟨g, 0, none⟩) (rs[i]).length y) ∧ Src W (some ⟨g, 0, none⟩) (rs[i]).length rs[i] ∧ x = g ∧ b < W.heap.size := by
  obtain ⟨vs, h1, h2⟩ := h
  by_cases h0 : rs.length = 0
  · obtain ⟨hl, ⟨rfl, h3⟩ | ⟨g, cap, cur, rfl, hg, hb, h4⟩⟩ := h1
    · exact ⟨none, 0, by rw [h0], fun i hi => by omega⟩
    · exact ⟨_, _, rfl, fun i hi => by omega⟩
  · obtain ⟨g, c, rfl, hg, hr, _⟩ := RowAt.of_owns h1 (by
      intro e
      obtain ⟨hl, ⟨rfl, h3⟩ | ⟨g, cap, cur, rfl, hg, hb, h4⟩⟩ := h1
      · exact h0 h3
      · cases e)
    refine ⟨_, _, rfl, fun i hi => ?_⟩
    obtain ⟨g2, c2, e1, e2, e3, _⟩ := h2 i hi
    exact ⟨g, g2, g2, c2, rfl, hr.cell e1, by have := e2.src; simpa using this, rfl, hr.lt⟩

set_option maxRecDepth 20000 in
set_option maxHeartbeats 2000000 in
theorem alike_any {w : World} {B B' : Nat} {v u : Value} {rs : List (List Int)} {X X' : Nat → Prop} (h1 : RecsAt w B v rs X) (h2 : RecsAt w B' u rs X') (hn : rs.length ≤ 1000000) (hl : ∀ i (hi : i < rs.length), (rs[i]).length ≤ 1000000) :
    Calls Tryz.prog 53 #[v, u] w fun e w' => e = .returned (.bool true) ∧ Below w.heap.size w w' := by
  obtain ⟨a, c, rfl, k1⟩ := h1.form
  obtain ⟨a', c', rfl, k2⟩ := h2.form
  have H1 := Hid.mk k1
  have H2 := Hid.mk k2
  clear h1 h2 k1 k2
  go_enter Tryz.func53, Tryz.ntmps53
  go_wp2
  go_loopw [5] (fun i wr => ∃ j : Nat, j ≤ rs.length ∧ i = .int .i64 (j : Int) ∧ Below w.heap.size w wr) (fun i _ => rs.length - (intOf i).toNat)
  case atStart => exact ⟨0, Nat.zero_le _, rfl, Below.refl _ _⟩
  case round =>
    obtain ⟨j, hj, rfl, hbr⟩ := hrel
    have HB := Hid.mk hbr
    have hz := hbr.size
    by_cases hlt : j < rs.length
    · have hlt' : (j : Int) < (rs.length : Int) := by omega
      obtain ⟨b, g, x, y, rfl, c1, s1, _, hb1⟩ := H1.out j hlt
      obtain ⟨b', g', x', y', rfl, c2, s2, _, hb2⟩ := H2.out j hlt
      have c1 := cell_later hbr c1
      have c2 := cell_later hbr c2
      have h3 := same_any (some ⟨g, 0, none⟩) (some ⟨g', 0, none⟩) (rs[j]).length y y' rs[j] wr.drew (by have := hl j hlt; omega) ((s1.later hbr).later (below_drew (Below.refl wr.heap.size wr))) ((s2.later hbr).later (below_drew (Below.refl wr.heap.size wr)))
      clear hbr s1 s2
      go_wp2_with fail
      go_region_held3 (fun w' => w'.cell? ⟨b, j, none⟩ = some (.slice (some ⟨g, 0, none⟩) (rs[j]).length y) ∧ w'.cell? ⟨b', j, none⟩ = some (.slice (some ⟨g', 0, none⟩) (rs[j]).length y'))
        (first | exact ⟨c1, c2⟩ | exact ⟨cell_later hw1 c1, cell_later hw1 c2⟩)
        ((go_at_call 29; refine h3.mono ?_; rintro e w1 ⟨rfl, hw1⟩))
      have HB1 : Hid (Below w.heap.size w w1) := HB.out.trans ((below_drew (Below.refl wr.heap.size wr)).trans hw1 |>.mono hz)
      clear h3 hw1
      go_wp2
      go_roundw
      case rel => exact ⟨j + 1, by omega, by go_num, HB1.out⟩
      case measure => simp [intOf]; omega
    · obtain rfl : j = rs.length := by omega
      have hge : ¬ (rs.length : Int) < (rs.length : Int) := by omega
      go_wp2
      go_ret
      exact ⟨rfl, HB.out⟩
end Go.Proofs.YtijgdmhglnanjaaGreat
end
