import Derived.Test.YtokcgifpljeoiaaGreatV19
import Derived.Lib.AppendZeros
section
namespace Go.Proofs.YtokcgifpljeoiaaGreat
open Go.RowKit Go.Maps

theorem app_rec2 {W : World} {B k : Nat} {v : Value} {vs : List Value} (hrow : W.ownsRow B 22 1 v k vs) (x : Value) (hx : x.oneCell' = true) (hk : k ≤ 1000000) (hB : B ≤ W.heap.size) :
    ∃ g cap w', (Builtin.append_ #[33, 33] 33 #[v, .slice (some ⟨W.heap.size, 0, none⟩) 1 1]).run Tryz.prog (W.alloc (.cells #[x] 22)) = .ok (.slice (some ⟨g, 0, none⟩) (k + 1) cap) w' ∧ w'.ownsRow B 22 1 (.slice (some ⟨g, 0, none⟩) (k + 1) cap) (k + 1) (vs ++ [x]) ∧ (W.alloc (.cells #[x] 22)).grownBy w' v.ownBlock ∧ (v.ownBlock = some g ∨ g = W.heap.size + 1) := by
  obtain ⟨i0, hi, hz0, hz1, hz2⟩ := info_parts infoRow
  obtain ⟨g, cap, w', h1, h2, h3, h4, _⟩ := run_append_lies (P := Tryz.prog) (W.alloc (.cells #[x] 22)) 33 33 B 22 i0 (.slice none 0 0) 1 24 Tryz.underlying33 hi hz0 hz1 hz2 rfl (by decide) v k vs (owns_agree hrow (fun g hg => by
      obtain ⟨cur, hc⟩ := owns_block hrow hg
      exact Below.heap_alloc _ _ _ (lt_there hc))) ⟨W.heap.size, 0, none⟩ 1 1 [x] rfl (World.news_of_block (cs := #[x]) (t := 22) (fr := (0, 0)) (heap_alloc_new W _)) (by simpa using hx) (by omega) (by unfold maxLen; omega) (by omega) (by simp; omega) _ rfl
  exact ⟨g, cap, w', h1, h2, h3, h4.imp (fun e => e) (fun e => e.trans (by simp))⟩

/-- A list of contents of blocks in memory: its row and all contents lie in blocks of X. -/
def HL (w : World) (X : Nat → Prop) (v : Value) (cs : List (List Int)) : Prop :=
  ∃ vs, w.ownsRow 0 22 1 v cs.length vs ∧ (∀ g, v.ownBlock = some g → X g) ∧ ∀ i (hi : i < cs.length), ∃ g c t, vs[i]? = some (.slice (some ⟨g, 0, none⟩) 512 c) ∧ X g ∧ Src w (some ⟨g, 0, none⟩) 512 cs[i] ∧ (∃ cur, w.heap[g]? = some (.cells cur t (0, 0))) ∧ t ≠ 22
section
variable {w w' : World} {X Y G : Nat → Prop} {v u : Value} {cs : List (List Int)}
theorem HL.nil (w : World) (X : Nat → Prop) : HL w X (.slice none 0 0) [] := ⟨[], World.ownsRow_nil _ _ _ _, (fun g h => by simp [Value.ownBlock] at h), fun i hi => by cases hi⟩
theorem HL.mono (h : HL w X v cs) (hX : ∀ k, X k → Y k) : HL w Y v cs := by
  obtain ⟨vs, h1, h2, h3⟩ := h
  exact ⟨vs, h1, fun g e => hX _ (h2 g e), fun i hi => by
    obtain ⟨g, c, t, a, b, d⟩ := h3 i hi
    exact ⟨g, c, t, a, hX _ b, d⟩⟩
theorem HL.keep (h : HL w X v cs) (hk : Keeps G w w') (hX : ∀ k, X k → ¬ G k) : HL w' X v cs := by
  obtain ⟨vs, h1, h2, h3⟩ := h
  refine ⟨vs, owns_agree h1 (fun g hg => ?_), h2, fun i hi => ?_⟩
  · obtain ⟨cur, hc⟩ := owns_block h1 hg
    exact hk.block g (lt_there hc) (hX _ (h2 g hg))
  · obtain ⟨g, c, t, a, b, d, ⟨cur, e⟩, f⟩ := h3 i hi
    exact ⟨g, c, t, a, b, d.avoid hk (fun y hy _ => by cases hy; exact hX _ b), ⟨cur, (hk.block g (lt_there e) (hX _ b)).trans e⟩, f⟩
theorem HL.later (h : HL w X v cs) (hb : Below w.heap.size w w') : HL w' X v cs := h.keep (Keeps.of_below (fun _ => False) hb) (fun _ _ h => h)
theorem HL.lt (h : HL w X v cs) {g : Nat} (hv : v.ownBlock = some g) : g < w.heap.size := by
  obtain ⟨vs, h1, _⟩ := h
  obtain ⟨cur, hc⟩ := owns_block h1 hv
  exact lt_there hc
/-- What is read of it. -/
theorem HL.form (h : HL w X v cs) : ∃ a c, v = .slice a cs.length c ∧ ∀ i (hi : i < cs.length), ∃ gr g cg, a = some ⟨gr, 0, none⟩ ∧ w.cell? ⟨gr, i, none⟩ = some (.slice (some ⟨g, 0, none⟩) 512 cg) ∧ w.frozen? ⟨gr, i, none⟩ = false ∧ Src w (some ⟨g, 0, none⟩) 512 cs[i] := by
  obtain ⟨vs, h1, h2, h3⟩ := h
  have ho' := h1
  obtain ⟨hl, ⟨rfl, h0⟩ | ⟨g, cap, cur, rfl, hg, hb, _⟩⟩ := h1
  · exact ⟨none, 0, by rw [h0], fun i hi => by omega⟩
  · refine ⟨_, cap, rfl, fun i hi => ?_⟩
    obtain ⟨g', c, t, a, b, d, _⟩ := h3 i hi
    have := ho'.cells (g := g) rfl i _ a
    rw [addr_add, Nat.zero_add] at this
    exact ⟨g, g', c, rfl, this, frozen_of_block hb i, d⟩
/-- One content more. -/
theorem HL.push (h : HL w X v cs) (hn : cs.length ≤ 1000000) {g c t : Nat} {d : List Int} {cur : Array Value} (hx : X g) (hs : Src w (some ⟨g, 0, none⟩) 512 d) (hb : w.heap[g]? = some (.cells cur t (0, 0))) (ht : t ≠ 22) :
    ∃ g' cap' w', (Builtin.append_ #[33, 33] 33 #[v, .slice (some ⟨w.heap.size, 0, none⟩) 1 1]).run Tryz.prog (w.alloc (.cells #[.slice (some ⟨g, 0, none⟩) 512 c] 22)) = .ok (.slice (some ⟨g', 0, none⟩) (cs.length + 1) cap') w' ∧ HL w' (fun k => X k ∨ k = w.heap.size + 1) (.slice (some ⟨g', 0, none⟩) (cs.length + 1) cap') (cs ++ [d]) ∧ Keeps (fun k => v.ownBlock = some k) w w' ∧ w.heap.size ≤ w'.heap.size := by
  obtain ⟨vs, h1, h2, h3⟩ := h
  obtain ⟨g', cap', w', hrun, ho, hg, hat⟩ := app_rec2 h1 (.slice (some ⟨g, 0, none⟩) 512 c) rfl hn (Nat.zero_le _)
  have hbx := below_box w (.cells #[.slice (some ⟨g, 0, none⟩) 512 c] 22)
  have hvl : vs.length = cs.length := by have := h1.1; simpa using this
  have hk : Keeps (fun k => v.ownBlock = some k) w w' := ⟨hg.os.trans hbx.os, hg.tape.trans hbx.tape, hg.output.trans hbx.output, Nat.le_trans hbx.size hg.size, fun k hk hq => (hg.block k (Nat.lt_of_lt_of_le hk hbx.size) (fun e => hq e.symm)).trans (hbx.block k hk)⟩
  have hne : ∀ k cur' t', w.heap[k]? = some (.cells cur' t' (0, 0)) → t' ≠ 22 → ¬ v.ownBlock = some k := fun k cur' t' hk' ht' e => by
    obtain ⟨cur2, hc⟩ := owns_block h1 e
    rw [hk'] at hc
    cases hc
    exact ht' rfl
  refine ⟨g', cap', w', hrun, ⟨vs ++ [.slice (some ⟨g, 0, none⟩) 512 c], by rw [List.length_append]; exact ho, fun k hq => ?_, fun i hi => ?_⟩, hk, hk.size⟩
  · have eg : g' = k := by simpa [Value.ownBlock] using hq
    subst eg
    rcases hat with e | e
    · exact .inl (h2 _ e)
    · exact .inr e
  · by_cases e : i < cs.length
    · obtain ⟨g2, c2, t2, e1, e2, e3, ⟨cur2, e4⟩, e5⟩ := h3 i e
      refine ⟨g2, c2, t2, ?_, .inl e2, ?_, ⟨cur2, (hk.block _ (lt_there e4) (hne _ _ _ e4 e5)).trans e4⟩, e5⟩
      · rw [List.getElem?_append_left (by omega), e1]
      · rw [List.getElem_append_left e]
        exact e3.avoid hk (fun y ey _ => by cases ey; exact hne _ _ _ e4 e5)
    · have ei : i = cs.length := by simp at hi; omega
      subst ei
      refine ⟨g, c, t, ?_, .inl hx, ?_, ⟨cur, (hk.block _ (lt_there hb) (hne _ _ _ hb ht)).trans hb⟩, ht⟩
      · rw [List.getElem?_append_right (by omega), hvl]
        simp
      · simp only [List.getElem_append_right (Nat.le_refl _), Nat.sub_self, List.getElem_cons_zero]
        exact hs.avoid hk (fun y ey _ => by cases ey; exact hne _ _ _ hb ht)

theorem HL.inside (h : HL w X v cs) : HL w (fun k => X k ∧ k < w.heap.size) v cs := by
  have hl : ∀ {g}, v.ownBlock = some g → g < w.heap.size := fun e => h.lt e
  obtain ⟨vs, h1, h2, h3⟩ := h
  exact ⟨vs, h1, fun g e => ⟨h2 g e, hl e⟩, fun i hi => by
    obtain ⟨g, c, t, a, b, d, ⟨cur, e⟩, f⟩ := h3 i hi
    exact ⟨g, c, t, a, ⟨b, lt_there e⟩, d, ⟨cur, e⟩, f⟩⟩

set_option maxRecDepth 20000 in
set_option maxHeartbeats 4000000 in
theorem alike5_any {X' : Nat → Prop} (h1 : HL w X v cs) (h2 : HL w X' u cs) (hn : cs.length ≤ 1000000) :
    Calls Tryz.prog 18 #[v, u] w fun e w' => e = .returned (.bool true) ∧ Below w.heap.size w w' := by
  obtain ⟨a, c, rfl, hf⟩ := h1.form
  obtain ⟨a', c', rfl, hf'⟩ := h2.form
  have H1 := Hid.mk hf
  have H2 := Hid.mk hf'
  have hne : (((cs.length : Nat) : Int) != ((cs.length : Nat) : Int)) = false := by simp
  clear h1 h2 hf hf'
  go_enter Tryz.func18, Tryz.ntmps18
  go_wp2
  go_loopw [5] (fun i wr => ∃ j : Nat, j ≤ cs.length ∧ i = .int .i64 (j : Int) ∧ Below w.heap.size w wr) (fun i _ => cs.length - (intOf i).toNat)
  case atStart => exact ⟨0, Nat.zero_le _, rfl, Below.refl _ _⟩
  case round =>
    obtain ⟨j, hj, rfl, hbr⟩ := hrel
    have HB := Hid.mk hbr
    have hz := hbr.size
    by_cases hlt : j < cs.length
    · have hlt' : (j : Int) < (cs.length : Int) := by omega
      obtain ⟨b, x, y, rfl, c1, _, s1⟩ := H1.out j hlt
      obtain ⟨b', x', y', rfl, c2, _, s2⟩ := H2.out j hlt
      have c1 := cell_later hbr c1
      have c2 := cell_later hbr c2
      have h3 := same_any (some ⟨x, 0, none⟩) (some ⟨x', 0, none⟩) 512 y y' cs[j] wr.drew (by omega) ((s1.later hbr).later (below_drew (Below.refl wr.heap.size wr))) ((s2.later hbr).later (below_drew (Below.refl wr.heap.size wr)))
      clear hbr s1 s2
      go_wp2_with fail
      go_region_held3 (fun w' => w'.cell? ⟨b, j, none⟩ = some (.slice (some ⟨x, 0, none⟩) 512 y) ∧ w'.cell? ⟨b', j, none⟩ = some (.slice (some ⟨x', 0, none⟩) 512 y'))
        (first | exact ⟨c1, c2⟩ | exact ⟨cell_later hw1 c1, cell_later hw1 c2⟩)
        ((go_at_call 45; refine h3.mono ?_; rintro e w1 ⟨rfl, hw1⟩))
      have HB1 : Hid (Below w.heap.size w w1) := HB.out.trans ((below_drew (Below.refl wr.heap.size wr)).trans hw1 |>.mono hz)
      clear h3 hw1
      go_wp2
      go_roundw
      case rel => exact ⟨j + 1, by omega, by go_num, HB1.out⟩
      case measure => simp [intOf]; omega
    · obtain rfl : j = cs.length := by omega
      have hge : ¬ (cs.length : Int) < (cs.length : Int) := by omega
      go_wp2
      go_ret
      exact ⟨rfl, HB.out⟩
end

/-- All blocks of a store. -/
def blks (G : SG) (S : DS) (n : Nat) : List (List Int) := (List.range n).map (G.block S)
theorem blks_len (G : SG) (S : DS) (n : Nat) : (blks G S n).length = n := by simp [blks]
theorem blks_succ (G : SG) (S : DS) (n : Nat) : blks G S (n + 1) = blks G S n ++ [G.block S n] := by
  unfold blks
  rw [List.range_succ, List.map_append]
  rfl
theorem blk_src {w : World} {T : TypeId} {g : Nat} {l : List Int} (h : Blk w T g l) (hl : l.length = 512) : Src w (some ⟨g, 0, none⟩) 512 l := by
  have h9 := h.src (o := 0) (n := 512) (by omega)
  rwa [List.drop_zero, List.take_of_length_le (by omega)] at h9
/-- What all answers. -/
def AllOut (w w' : World) (F : Nat → Prop) (p s c q l m : Nat) (S : DS) (G : SG) (n : Nat) (e : Ending) : Prop :=
  ∃ v, e = .returned (.tuple #[v, .bool true]) ∧ HL w' (fun k => w.heap.size ≤ k ∧ k < w'.heap.size) v (blks G S n) ∧ StW w' F p s c q l m S G ∧ Keeps (fun k => F k ∨ k = q) w w'
theorem blk_len {w : World} {F : Nat → Prop} {p s cR q l m : Nat} {S : DS} {G : SG} (h : StW w F p s cR q l m S G) {b : Nat} (hb : b < G.y.blocks) : (G.block S b).length = 512 := by
  unfold SG.block
  cases hg : CM.get G.ov b with
  | none => exact now_len h.d.ok _ (by have := h.hs; show G.y.home + b < s; omega)
  | some c =>
    obtain ⟨D, hch⟩ := h.ch
    exact (hch.len (b, c) (CM.get_mem hg)).2.1
set_option maxRecDepth 20000 in
set_option maxHeartbeats 8000000 in
theorem all5_any {w : World} {F : Nat → Prop} {p s cR q l m : Nat} {S : DS} {G : SG} (h : StW w F p s cR q l m S G) (hd : G.L.dead S = false) (hb : G.busy = false) (hbig : S.puts.length + 1 ≤ 4000000000000) (hn : G.y.blocks ≤ 2048) :
    Calls Tryz.prog 12 #[.pointer (some ⟨q, 0, none⟩), .int .i64 (G.y.blocks : Int)] w fun e w' => AllOut w w' F p s (cR + G.y.blocks + 1) q l m S G G.y.blocks e := by
  have k1 := (sbegin_any h).mono (fun e w' h => by unfold BegOut at h; rw [if_neg (fun h => h (begin_free0 hd hb))] at h; exact h)
  have HG : Hid (∀ b : Bool, b = false → ({ G with busy := b } : SG) = G) := fun b hb2 => by subst hb2; rw [← hb]
  have HS := Hid.mk h
  have hdl := h.d.lt
  have hq := h.st.lt
  have hl := h.lp.lt
  have hm := h.ch.lt
  clear h
  go_enter Tryz.func12, Tryz.ntmps12
  go_wp2_with fail
  refine k1.mono ?_
  rintro e w1 ⟨t, n, rfl, hn4, ht4, htn, htx4, hch4, hst4, hk4⟩
  have hz1 := hk4.size
  have hstW : StW w1 F p s cR q l m S { G with busy := true } := ⟨HS.out.d.keep hk4 (fun g hg e => HS.out.nq (e ▸ hg)), hst4, HS.out.lp.keep hk4 (fun e => HS.out.ql e.symm), HS.out.ch.keep hk4 (fun e => HS.out.qm e.symm), HS.out.nq, HS.out.nl, HS.out.nm, HS.out.ql, HS.out.qm, HS.out.lm, HS.out.lk, HS.out.bg, HS.out.hs, HS.out.kb⟩
  have htW : TxW w1 F q l m t n { G with busy := true } ⟨[], 0, false⟩ := ⟨htx4, hch4, fun hx => by have := hdl _ hx; omega, fun hx => by have := hdl _ hx; omega, by omega, by omega, by omega, htn, by omega, by omega, by omega, fun x hx => by cases hx⟩
  have HW := Hid.mk (And.intro hstW (And.intro htW hk4))
  have htl := lt_there htx4
  have hnl := hch4.lt
  have hdead : ({ G with busy := true } : SG).L.dead S = false := hd
  have hfu : S.fuse ≠ 0 := dead_fuse hd
  clear k1 htx4 hch4 hst4 hk4 hstW htW
  go_wp2
  go_loopw [8, 9] (fun lv iv wr => ∃ i : Nat, iv = .int .i64 i ∧ i ≤ G.y.blocks ∧ HL wr (fun k => w1.heap.size ≤ k) lv (blks G S i) ∧ B.DiskR wr F p s S (cR + i) ∧ Keeps F w1 wr) (fun _ iv _ => G.y.blocks - (intOf iv).toNat)
  case atStart => exact ⟨0, rfl, Nat.zero_le _, HL.nil _ _, HW.out.1.d, Keeps.refl _ _⟩
  case round =>
    obtain ⟨i, rfl, hi, hll, hdr, hkr⟩ := hrel
    have hst := HW.out.1.asked hdr hkr
    have htx := HW.out.2.1.asked hkr
    have hzr := hkr.size
    by_cases hlt : i < G.y.blocks
    · have hlt' : (i : Int) < (G.y.blocks : Int) := by omega
      have hrz : (⟨[], 0, false⟩ : TG).refusal { G with busy := true } S (i : Int) = 0 := refusal_none hdead (by omega) (by show (i : Int) < (G.y.blocks : Int); omega)
      have hse : (⟨[], 0, false⟩ : TG).sees { G with busy := true } S ((i : Nat) : Int).toNat = G.block S i := rfl
      have k5 := (Get_any hst htx (i : Int) hbig).mono (fun e w' h => by rw [hse] at h; unfold GetOut at h; rw [if_neg (fun h => h hrz)] at h; exact h)
      have hbl := blk_len HS.out hlt
      have HI := Hid.mk (And.intro hll (And.intro hkr hbl))
      clear hll hdr hkr hst htx hrz hse hbl
      go_wp2_with fail
      refine k5.mono ?_
      rintro e w5 ⟨⟨g5, rfl, hg5, hblk⟩, hd5, hk5⟩
      have hz5 := hk5.size
      have hll5 := HI.out.1.keep hk5 (fun k hX hF => by have := hdl k hF; omega)
      have hs5 := blk_src hblk HI.out.2.2
      obtain ⟨g', cap', w6, hrun, hll6, hk6, hz6⟩ := hll5.push (by rw [blks_len]; omega) (c := 512) (show w1.heap.size ≤ g5 by omega) hs5 hblk (by decide)
      rw [blks_len] at hrun
      have hown : ∀ k, u8.ownBlock = some k → w1.heap.size ≤ k := fun k e => by
        obtain ⟨vs, _, h2, _⟩ := hll5
        exact h2 k e
      have HE : Hid (HL w6 (fun k => w1.heap.size ≤ k) (.slice (some ⟨g', 0, none⟩) (i + 1) cap') (blks G S (i + 1)) ∧ B.DiskR w6 F p s S (cR + (i + 1)) ∧ Keeps F w1 w6) := ⟨by
          rw [blks_succ]
          rw [blks_len] at hll6
          exact hll6.mono (fun k hk => hk.elim id (fun e => by omega)), hd5.keep hk6 (fun k hF e => by have := hown k e; have := hdl k hF; omega), (HI.out.2.1.trans hk5 (fun _ h => .inl h)).trans hk6 (fun k e => .inr (hown k e))⟩
      clear k5 hblk hd5 hk5 hll5 hs5 hll6 hk6 hown HI hz5 hz6 hzr hg5
      have HRun := Hid.mk hrun
      clear hrun
      go_wp2_with (at_builtin; refine Lib.wpList_append_run _ rfl _ _ _ _ rfl _ _ rfl rfl _ _ HRun.out ?_)
      go_roundw
      case rel => exact ⟨i + 1, by go_num, by omega, HE.out⟩
      case measure => simp [intOf]; omega
    · have hlt' : ¬ (i : Int) < (G.y.blocks : Int) := by omega
      obtain rfl : i = G.y.blocks := by omega
      have hrz : (⟨[], 0, false⟩ : TG).refusal { G with busy := true } S (G.y.blocks : Int) = 11 := by
        have e1 : (⟨[], 0, false⟩ : TG).over { G with busy := true } S = 0 := by unfold TG.over; rw [hdead]; rfl
        have e2 : (⟨[], 0, false⟩ : TG).state { G with busy := true } S = 0 := by unfold TG.state; rw [e1]; rfl
        unfold TG.refusal
        rw [e2, if_neg (fun h => h rfl), if_pos (.inr (Int.le_refl _))]
      have k5 := (Get_any hst htx (G.y.blocks : Int) hbig).mono (fun e w' h => by unfold GetOut at h; rw [hrz, if_pos (by decide)] at h; exact h)
      have HI := Hid.mk (And.intro hll (And.intro hkr (And.intro hst htx)))
      clear hll hdr hkr hst htx hrz
      go_wp2_with fail
      refine k5.mono ?_
      rintro e w5 ⟨rfl, hd5, hk5⟩
      have hst5 := HI.out.2.2.1.asked hd5 hk5
      have htx5 := HI.out.2.2.2.asked hk5
      have hll5 := HI.out.1.keep hk5 (fun k hX hF => by have := hdl k hF; omega)
      have hab : (⟨[], 0, false⟩ : TG).abort { G with busy := true } S = (0, ⟨[], 0, true⟩, { G with busy := false }) := by
        unfold TG.abort
        have e1 : (⟨[], 0, false⟩ : TG).over { G with busy := true } S = 0 := by unfold TG.over; rw [hdead]; rfl
        rw [e1, if_neg (fun h => h rfl)]
        rfl
      have k6 := abort_any hst5 htx5
      rw [hab] at k6
      have HJ := Hid.mk (And.intro hst5 (And.intro hll5 (HI.out.2.1.trans hk5 (fun _ h => .inl h))))
      clear k5 hd5 hk5 hst5 htx5 hll5 HI hab
      go_wp2_with fail
      refine k6.mono ?_
      rintro e w6 ⟨rfl, _, _, hst6, hk6⟩
      clear k6
      have hnX : ∀ k, w1.heap.size ≤ k → ¬ (k = t ∨ k = n ∨ k = q) := fun k hk e => by omega
      have hkF : ∀ k, F k → ¬ (k = t ∨ k = n ∨ k = q) := fun k hF e => by
        have := hdl k hF
        rcases e with e | e | e
        · omega
        · omega
        · exact HS.out.nq (e ▸ hF)
      have hz6 := hk6.size
      have hz5 := HJ.out.2.2.size
      have hfin : AllOut w w6 F p s (cR + G.y.blocks + 1) q l m S G G.y.blocks (.returned (.tuple #[u8, .bool true])) := by
        refine ⟨_, rfl, ((HJ.out.2.1.keep hk6 hnX).inside).mono (fun k hk => ⟨by have := hk.1; omega, hk.2⟩), ?_, ?_⟩
        · have h9 := HJ.out.1
          have := HG.out false rfl
          have h8 : StW w6 F p s (cR + G.y.blocks + 1) q l m S { G with busy := false } := ⟨h9.d.keep hk6 hkF, hst6, h9.lp.keep hk6 (fun e => by rcases e with e | e | e; omega; omega; exact h9.ql e.symm), h9.ch.keep hk6 (fun e => by rcases e with e | e | e; omega; omega; exact h9.qm e.symm), h9.nq, h9.nl, h9.nm, h9.ql, h9.qm, h9.lm, h9.lk, h9.bg, h9.hs, h9.kb⟩
          rwa [this] at h8
        · refine ((HW.out.2.2.mono (G := fun k => F k ∨ k = q) (fun k e => .inr e)).trans HJ.out.2.2 (fun _ h => .inl (.inl h))).trans hk6 (fun k e => ?_)
          rcases e with e | e | e
          · exact .inr (by omega)
          · exact .inr (by omega)
          · exact .inl (.inr e)
      have HF := Hid.mk hfin
      clear hfin hst6 hk6 HJ
      go_wp2
      go_ret2
      exact HF.out
end Go.Proofs.YtokcgifpljeoiaaGreat
end

section
namespace Go.Proofs.YtokcgifpljeoiaaGreat
open Go.RowKit Go.Maps

end Go.Proofs.YtokcgifpljeoiaaGreat
end

section
namespace Go.Proofs.YtokcgifpljeoiaaGreat
open Go.RowKit

section
variable {S S2 : DS} {s : Nat} {y : LY} {L L2 : LG} {T : TG} {G : SG}
theorem crash_now5 (hok : S.Ok s) (hp : S.puts = []) (l : List P3) {j : Nat} (hj : j < s) : (S.crash s l).now j = S.now j := by
  have e1 : S.now j = dsec S.im j := now_none _ _ (by rw [hp]; rfl)
  rw [now_none _ _ rfl]
  show dsec (imOf s (cutOf S l)) j = S.now j
  rw [sec_imOf s (cutOf S l) (fun k hk => cut_len hok l k hk) j hj, e1]
  unfold cutOf
  rw [if_pos (by rw [hp]; rfl)]
end
end Go.Proofs.YtokcgifpljeoiaaGreat
end

section
namespace Go.Proofs.YtokcgifpljeoiaaGreat
open Go.RowKit

/-- No sector has two pending writes, and each is sealed over what lies there. -/
structure Once (S : DS) : Prop where
  one : ∀ k, (pendOf S.puts k).length ≤ 1
  sea : ∀ q ∈ S.puts, ∃ body, body.length ≤ 504 ∧ q.2 = sform (turnOf ((dsec S.im q.1).getD 0 0) ((dsec S.im q.1).getD 511 0)) body

section
variable {S : DS} {s k : Nat}
theorem pend_in {l : List Int} (h : l ∈ pendOf S.puts k) : (k, l) ∈ S.puts := by
  unfold pendOf at h
  obtain ⟨q, h1, h2⟩ := List.mem_map.1 h
  obtain ⟨h3, h4⟩ := List.mem_filter.1 h1
  have e : q.1 = k := by simpa using h4
  have : q = (k, l) := Prod.ext e h2
  rw [← this]
  exact h3
theorem Once.pend (h : Once S) (hp : pendOf S.puts k ≠ []) : ∃ l body, pendOf S.puts k = [l] ∧ body.length ≤ 504 ∧ l = sform (turnOf ((dsec S.im k).getD 0 0) ((dsec S.im k).getD 511 0)) body ∧ S.now k = l := by
  have h1 := h.one k
  obtain ⟨l, hl⟩ : ∃ l, pendOf S.puts k = [l] := by
    match pendOf S.puts k, hp, h1 with
    | [l], _, _ => exact ⟨l, rfl⟩
    | _ :: _ :: _, _, h => simp at h
  obtain ⟨body, h2, h3⟩ := h.sea (k, l) (pend_in (by rw [hl]; simp))
  refine ⟨l, body, hl, h2, h3, ?_⟩
  unfold DS.now DS.cand
  rw [hl]
  rfl
theorem Once.crash (h : Once S) (hok : S.Ok s) (hk : k < s) (pl : List P3) : (S.crash s pl).now k = dsec S.im k ∨ (S.crash s pl).now k = S.now k ∨ sopen ((S.crash s pl).now k) = none := by
  have hold : (dsec S.im k).length = 512 := by have := DS.cand_len hok hk (j := 0) (Nat.zero_le _); exact this
  have e0 : (S.crash s pl).now k = cutOf S pl k := by
    rw [now_none _ _ rfl]
    exact sec_imOf s (cutOf S pl) (fun j hj => cut_len hok pl j hj) k hk
  rw [e0]
  unfold cutOf
  split
  · exact .inl rfl
  · rename_i hp
    obtain ⟨l, body, hl, hb, e, hn⟩ := h.pend hp
    have hnl : l.length = 512 := by rw [← hn]; exact now_len hok k hk
    rw [hn]
    unfold tornBy tornOf
    rw [hl]
    generalize (max (pickN pl (keysOf S k).length).1 0).toNat = A
    generalize (max (pickN pl (keysOf S k).length).2.1 0).toNat = B
    generalize (max (pickN pl (keysOf S k).length).2.2 0).toNat = C
    have c0 : S.cand k 0 = dsec S.im k := rfl
    have c1 : S.cand k 1 = l := by unfold DS.cand; rw [hl]; rfl
    have hA : A % ([l].length + 1) = 0 ∨ A % ([l].length + 1) = 1 := by simp; omega
    have hB : B % ([l].length + 1) = 0 ∨ B % ([l].length + 1) = 1 := by simp; omega
    have hC : C % 513 ≤ 512 := by omega
    have ht := turnOf_ne ((dsec S.im k).getD 0 0) ((dsec S.im k).getD 511 0)
    have key := torn hold ht.1 ht.2 hb hC
    rw [← e] at key
    rcases hA with hA | hA <;> rcases hB with hB | hB <;> rw [hA, hB]
    · left; rw [c0, List.take_append_drop]
    · rw [c0, c1]; exact key.1
    · rw [c0, c1]; exact key.2
    · right; left; rw [c1, List.take_append_drop]

theorem wr_puts_eq (hf : S.fuse ≠ 0) (hk : k < s) (l : List Int) : (S.wr s (k : Int) 512 l).2.puts = S.puts ++ [(k, l)] ∧ (S.wr s (k : Int) 512 l).2.im = S.im := by
  rw [wr_in hf hk]
  exact ⟨rfl, rfl⟩
theorem pend_none_in (h : ∀ q ∈ S.puts, q.1 ≠ k) : pendOf S.puts k = [] := by
  unfold pendOf
  rw [List.map_eq_nil_iff, List.filter_eq_nil_iff]
  intro q hq
  simpa using h q hq
end
theorem srenew_form {l r : List Int} {num : Int} (h : (srenew l r num []).2.2 = 0) : ∃ body, body.length ≤ 504 ∧ (srenew l r num []).2.1 = sform (turnOf ((if (srenew l r num []).1 = 0 then l else r).getD 0 0) ((if (srenew l r num []).1 = 0 then l else r).getD 511 0)) body := by
  unfold srenew at *
  by_cases h1 : l.length ≠ 512 ∨ r.length ≠ 512
  · rw [if_pos h1] at h; cases h
  · rw [if_neg h1] at h ⊢
    by_cases h2 : num < 1
    · rw [if_pos h2] at h; cases h
    · rw [if_neg h2] at h ⊢
      rw [if_neg (by simp)] at h ⊢
      simp only at h ⊢
      by_cases h3 : num ≤ ((snewest l r).2.1 : Int)
      · rw [if_pos h3] at h; cases h
      · rw [if_neg h3] at h ⊢
        have hb : (bytes8 num.toNat ++ ([] : List Int)).length ≤ 504 := by rw [List.append_nil, bytes8_len]; omega
        split
        · exact ⟨_, hb, by rw [if_neg (by show ¬ (1 : Nat) = 0; omega)]⟩
        · exact ⟨_, hb, by rw [if_pos rfl]⟩
section
variable {S : DS} {s f N : Nat}
theorem srenew_where {l r : List Int} (hl : l.length = 512) (hr : r.length = 512) {M : Nat} (h1 : 1 ≤ M) (h : (snewest l r).2.1 < M) : (srenew l r (M : Int) []).1 = if (snewest l r).2.2.2 = 0 ∧ (snewest l r).1 = 0 then 1 else 0 := by
  unfold srenew
  rw [if_neg (by omega), if_neg (by omega), if_neg (by simp)]
  simp only
  rw [if_neg (by omega)]
  split <;> rfl

/-- The anchors that last, and the one that is to be. -/
structure Pairs (S : DS) (f N : Nat) : Prop where
  old : (snewest (dsec S.im f) (dsec S.im (f + 1))).2 = (N, [], 0)
  new : ∀ q ∈ S.puts, q.1 < f + 2 → f ≤ q.1 → ∃ M, N < M ∧ M < 9223372036854775808 ∧ q = (f + (srenew (dsec S.im f) (dsec S.im (f + 1)) (M : Int) []).1, (srenew (dsec S.im f) (dsec S.im (f + 1)) (M : Int) []).2.1)

theorem cut_same {pl : List P3} (hok : S.Ok s) {k : Nat} (hk : k < s) (hp : pendOf S.puts k = []) : (S.crash s pl).now k = dsec S.im k := by
  rw [now_none _ _ rfl]
  show dsec (imOf s (cutOf S pl)) k = _
  rw [sec_imOf s (cutOf S pl) (fun j hj => cut_len hok pl j hj) k hk]
  unfold cutOf
  rw [if_pos hp]
theorem Pairs.crash (h : Pairs S f N) (ho : Once S) (hok : S.Ok s) (hf : f + 1 < s) (pl : List P3) :
    (snewest ((S.crash s pl).now f) ((S.crash s pl).now (f + 1))).2 = (N, [], 0) ∨ ∃ M, N < M ∧ M < 9223372036854775808 ∧ (∃ q ∈ S.puts, q.1 < f + 2 ∧ f ≤ q.1 ∧ q.2 = (srenew (dsec S.im f) (dsec S.im (f + 1)) (M : Int) []).2.1) ∧ (snewest ((S.crash s pl).now f) ((S.crash s pl).now (f + 1))).2 = (M, [], 0) := by
  have hl : (dsec S.im f).length = 512 := DS.cand_len hok (show f < s by omega) (j := 0) (Nat.zero_le _)
  have hr : (dsec S.im (f + 1)).length = 512 := DS.cand_len hok hf (j := 0) (Nat.zero_le _)
  have hnum : (snewest (dsec S.im f) (dsec S.im (f + 1))).2.1 = N := by rw [h.old]
  by_cases p : ∃ q ∈ S.puts, q.1 < f + 2 ∧ f ≤ q.1
  · obtain ⟨q, hq, q1, q2⟩ := p
    obtain ⟨M, m1, m2, e⟩ := h.new q hq q1 q2
    have hw := srenew_where hl hr (M := M) (by omega) (by rw [hnum]; exact m1)
    have hwh := renew_whole hl hr (N := M) (by omega) m2 (by rw [hnum]; exact m1)
    have hsl := srenew_slot (dsec S.im f) (dsec S.im (f + 1)) (M : Int) []
    have eq1 : q.1 = f + (srenew (dsec S.im f) (dsec S.im (f + 1)) (M : Int) []).1 := by rw [e]
    have eq2 : q.2 = (srenew (dsec S.im f) (dsec S.im (f + 1)) (M : Int) []).2.1 := by rw [e]
    -- every other pending write of the pair is this one's sector
    have hother : ∀ q' ∈ S.puts, q'.1 < f + 2 → f ≤ q'.1 → q'.1 = q.1 := fun q' hq' a1 a2 => by
      obtain ⟨M', m1', m2', e'⟩ := h.new q' hq' a1 a2
      have hw' := srenew_where hl hr (M := M') (by omega) (by rw [hnum]; exact m1')
      have : q'.1 = f + (srenew (dsec S.im f) (dsec S.im (f + 1)) (M' : Int) []).1 := by rw [e']
      rw [this, eq1, hw, hw']
    have hpend : pendOf S.puts q.1 ≠ [] := by
      intro hc
      have hmem : q.2 ∈ pendOf S.puts q.1 := by
        unfold pendOf
        exact List.mem_map.2 ⟨q, List.mem_filter.2 ⟨hq, by simp⟩, rfl⟩
      rw [hc] at hmem
      cases hmem
    obtain ⟨l, body, e1, e2, e3, e4⟩ := ho.pend hpend
    have hl2 : l = q.2 := by
      have hmem : q.2 ∈ pendOf S.puts q.1 := by
        unfold pendOf
        exact List.mem_map.2 ⟨q, List.mem_filter.2 ⟨hq, by simp⟩, rfl⟩
      rw [e1] at hmem
      exact (List.mem_singleton.1 hmem).symm
    have hcr := ho.crash hok (show q.1 < s by omega) pl
    have hlen : ((S.crash s pl).now q.1).length = 512 := by
      rw [now_none _ _ rfl]
      show (dsec (imOf s (cutOf S pl)) q.1).length = 512
      rw [sec_imOf s (cutOf S pl) (fun j hj => cut_len hok pl j hj) q.1 (by omega)]
      exact cut_len hok pl _ (by omega)
    rw [e4, hl2, eq2] at hcr
    generalize hY : srenew (dsec S.im f) (dsec S.im (f + 1)) (M : Int) [] = Y at *
    -- the pair behind the cut
    have hpair : ((S.crash s pl).now f, (S.crash s pl).now (f + 1)) = sput (dsec S.im f) (dsec S.im (f + 1)) Y.1 ((S.crash s pl).now q.1) := by
      unfold sput
      by_cases z : Y.1 = 0
      · rw [if_pos z]
        have e5 : pendOf S.puts (f + 1) = [] := pend_none_in (fun q' hq' c => by have := hother q' hq' (by omega) (by omega); omega)
        rw [cut_same hok hf e5, show q.1 = f by omega]
      · rw [if_neg z]
        have e5 : pendOf S.puts f = [] := pend_none_in (fun q' hq' c => by have := hother q' hq' (by omega) (by omega); omega)
        rw [cut_same hok (show f < s by omega) e5, show q.1 = f + 1 by omega]
    have ef : (S.crash s pl).now f = (sput (dsec S.im f) (dsec S.im (f + 1)) Y.1 ((S.crash s pl).now q.1)).1 := congrArg Prod.fst hpair
    have eg : (S.crash s pl).now (f + 1) = (sput (dsec S.im f) (dsec S.im (f + 1)) Y.1 ((S.crash s pl).now q.1)).2 := congrArg Prod.snd hpair
    rw [ef, eg]
    rcases hcr with hc | hc | hc
    · left
      rw [hc]
      have : sput (dsec S.im f) (dsec S.im (f + 1)) Y.1 (dsec S.im q.1) = (dsec S.im f, dsec S.im (f + 1)) := by
        unfold sput
        by_cases z : Y.1 = 0
        · rw [if_pos z, show q.1 = f by omega]
        · rw [if_neg z, show q.1 = f + 1 by omega]
      rw [this]
      exact h.old
    · right
      rw [hc]
      exact ⟨M, m1, m2, ⟨q, hq, q1, q2, eq2.trans (by rw [hY])⟩, hwh⟩
    · left
      rw [pair_old hl hr hlen (sanchor_none hc) Y.1 hw]
      exact h.old
  · left
    have e0 : pendOf S.puts f = [] := pend_none_in (fun q' hq' c => p ⟨q', hq', by omega, by omega⟩)
    have e1 : pendOf S.puts (f + 1) = [] := pend_none_in (fun q' hq' c => p ⟨q', hq', by omega, by omega⟩)
    rw [cut_same hok (show f < s by omega) e0, cut_same hok hf e1]
    exact h.old

theorem srenew_data5 {l r : List Int} (hl : l.length = 512) (hr : r.length = 512) {M : Nat} (h1 : 1 ≤ M) (hM : M < 9223372036854775808) (h : (snewest l r).2.1 < M) : sanchor (srenew l r (M : Int) []).2.1 = (M, []) := by
  have hb : ∀ t : Nat, t ≤ 2 → sanchor (sform (t : Int) (bytes8 M ++ [])) = (M, []) := fun t ht => sanchor_form (by omega) hM (by simp)
  unfold srenew
  rw [if_neg (by omega), if_neg (by omega), if_neg (by simp)]
  simp only
  rw [if_neg (by omega), Int.toNat_natCast]
  split
  · exact hb _ (turnOf_le _ _)
  · exact hb _ (turnOf_le _ _)
/-- Behind a cut in the midst of an anchor's writing the pair tells what it told, or the new one. -/
theorem anew_cut (hok : S.Ok s) (hp : S.puts = []) (hf : f + 1 < s) {M : Nat} (hold : (snewest (S.now f) (S.now (f + 1))).2 = (N, [], 0)) (hN : N < M) (hM : M < 9223372036854775808) (pl : List P3) :
    (∀ j, j < s → j ≠ f → j ≠ f + 1 → ((anew S s f (M : Int)).2.crash s pl).now j = S.now j) ∧
      ((snewest (((anew S s f (M : Int)).2.crash s pl).now f) (((anew S s f (M : Int)).2.crash s pl).now (f + 1))).2 = (N, [], 0) ∨ (snewest (((anew S s f (M : Int)).2.crash s pl).now f) (((anew S s f (M : Int)).2.crash s pl).now (f + 1))).2 = (M, [], 0)) := by
  have hnum : S.num f < M := by
    show (snewest (S.now f) (S.now (f + 1))).2.1 < M
    rw [hold]; exact hN
  have hl := now_len hok f (by omega)
  have hr := now_len hok (f + 1) hf
  have hfar := anew_far hok hf (M : Int)
  have flat : (∀ j, j < s → j ≠ f → j ≠ f + 1 → (S.crash s pl).now j = S.now j) ∧ ((snewest ((S.crash s pl).now f) ((S.crash s pl).now (f + 1))).2 = (N, [], 0) ∨ (snewest ((S.crash s pl).now f) ((S.crash s pl).now (f + 1))).2 = (M, [], 0)) :=
    ⟨fun j hj _ _ => crash_now5 hok hp pl hj, .inl (by rw [crash_now5 hok hp pl (show f < s by omega), crash_now5 hok hp pl hf]; exact hold)⟩
  by_cases h0 : (anew S s f (M : Int)).1 = 0
  · obtain ⟨w1, w2⟩ := anew_whole hok hf (by omega) hM hnum h0
    have w3 := anew_flat h0
    refine ⟨fun j hj h1 h2 => (crash_now5 hfar.1 w3 pl hj).trans (w2 j hj h1 h2), .inr ?_⟩
    rw [crash_now5 hfar.1 w3 pl (show f < s by omega), crash_now5 hfar.1 w3 pl hf]
    exact w1
  · have hrn : (srenew (S.now f) (S.now (f + 1)) (M : Int) []).2.2 = 0 := renew_ok hl hr (by omega) hnum
    obtain ⟨body, hb, hform⟩ := srenew_form hrn
    have hsl := srenew_slot (S.now f) (S.now (f + 1)) (M : Int) []
    have hfu := srenew_full (S.now f) (S.now (f + 1)) (M : Int) [] hrn
    have e1 : ∀ k, S.now k = dsec S.im k := fun k => now_none _ _ (by rw [hp]; rfl)
    unfold anew at h0 ⊢
    by_cases hfz : S.fuse = 0
    · rw [if_pos hfz]
      exact flat
    · rw [if_neg hfz, if_neg (by rw [hrn]; exact fun h => h rfl)] at h0 ⊢
      rw [show (f : Int) + ((srenew (S.now f) (S.now (f + 1)) (M : Int) []).1 : Int) = ((f + (srenew (S.now f) (S.now (f + 1)) (M : Int) []).1 : Nat) : Int) by omega] at h0 ⊢
      have hw0 : (S.wr s ((f + (srenew (S.now f) (S.now (f + 1)) (M : Int) []).1 : Nat) : Int) 512 (srenew (S.now f) (S.now (f + 1)) (M : Int) []).2.1).1 = 0 := by rw [wr_in hfz (by omega)]
      rw [if_neg (by rw [hw0]; exact fun h => h rfl)] at h0 ⊢
      obtain ⟨p1, p2⟩ := wr_puts_eq (S := S) (s := s) (k := f + (srenew (S.now f) (S.now (f + 1)) (M : Int) []).1) hfz (by omega) (srenew (S.now f) (S.now (f + 1)) (M : Int) []).2.1
      have hwo := wr_ok hok hfz (show f + (srenew (S.now f) (S.now (f + 1)) (M : Int) []).1 < s by omega) hfu
      rw [hp, List.nil_append] at p1
      obtain ⟨z1, _⟩ := fl_err h0
      rw [z1]
      have hpr : Pairs (S.wr s ((f + (srenew (S.now f) (S.now (f + 1)) (M : Int) []).1 : Nat) : Int) 512 (srenew (S.now f) (S.now (f + 1)) (M : Int) []).2.1).2 f N := by
        refine ⟨by rw [p2, ← e1, ← e1]; exact hold, fun q hq _ _ => ⟨M, hN, hM, ?_⟩⟩
        rw [p1] at hq
        rw [List.mem_singleton.1 hq, p2, ← e1, ← e1]
      have hon : Once (S.wr s ((f + (srenew (S.now f) (S.now (f + 1)) (M : Int) []).1 : Nat) : Int) 512 (srenew (S.now f) (S.now (f + 1)) (M : Int) []).2.1).2 := by
        refine ⟨fun k => ?_, fun q hq => ⟨body, hb, ?_⟩⟩
        · rw [p1]
          exact pendOf_len _ _
        · rw [p1] at hq
          rw [List.mem_singleton.1 hq, p2]
          show (srenew (S.now f) (S.now (f + 1)) (M : Int) []).2.1 = _
          rw [← e1]
          refine hform.trans ?_
          by_cases q : (srenew (S.now f) (S.now (f + 1)) (M : Int) []).1 = 0
          · rw [if_pos q, q, Nat.add_zero]
          · rw [if_neg q, show (srenew (S.now f) (S.now (f + 1)) (M : Int) []).1 = 1 by omega]
      refine ⟨fun j hj h1 h2 => ?_, ?_⟩
      · rw [cut_same hwo hj (pend_none_in (fun q hq e => by rw [p1] at hq; rw [List.mem_singleton.1 hq] at e; show False; simp only at e; omega)), p2]
        exact (e1 j).symm
      · rcases hpr.crash hon hwo hf pl with h9 | ⟨M', m1, m2, ⟨q, hq, _, _, e9⟩, h9⟩
        · exact .inl h9
        · right
          rw [p1] at hq
          rw [List.mem_singleton.1 hq, p2, ← e1, ← e1] at e9
          rw [h9]
          have hold' : (snewest (S.now f) (S.now (f + 1))).2.1 < M' := by rw [hold]; exact m1
          have d1 := srenew_data5 hl hr (by omega) hM hnum
          have d2 := srenew_data5 hl hr (by omega) m2 hold'
          have e9' : (srenew (S.now f) (S.now (f + 1)) (M : Int) []).2.1 = (srenew (S.now f) (S.now (f + 1)) (M' : Int) []).2.1 := e9
          rw [e9', d2] at d1
          cases d1
          rfl
end
end Go.Proofs.YtokcgifpljeoiaaGreat
end

section
namespace Go.Proofs.YtokcgifpljeoiaaGreat
open Go.RowKit

theorem rtop_congr {R R' : Nat → PC} : ∀ {n : Nat}, (∀ i, i < n → R' i = R i) → rtop R' n = rtop R n
  | 0, _ => rfl
  | n + 1, h => by
    unfold rtop
    rw [h n (by omega), rtop_congr (fun i hi => h i (by omega))]
section
variable {S S' S1 : DS} {s n : Nat} {x x' : Int} {y : LY} {K : Nat → List Int} {E : Nat}
/-- A log reads the same where its sectors are the same. -/
theorem log_same (hn : 1 ≤ n) (h : ∀ j, 1 ≤ j → j < 1 + 2 + n → S'.now j = S.now j) : Rp (oRing S' 1) n = Rp (oRing S 1) n ∧ oNew S' 1 = oNew S 1 ∧ oTop S' 1 n = oTop S 1 n := by
  have hr : ∀ i, i < n → oRing S' 1 i = oRing S 1 i := fun i hi => by
    show pcOf (S'.now (1 + 2 + i)) = pcOf (S.now (1 + 2 + i))
    rw [h _ (by omega) (by omega)]
  have h2 : oNew S' 1 = oNew S 1 := by
    unfold oNew
    rw [h 1 (by omega) (by omega), h (1 + 1) (by omega) (by omega)]
  refine ⟨?_, h2, ?_⟩
  · funext P
    exact hr (P % n) (Nat.mod_lt _ hn)
  · unfold oTop
    rw [h2, rtop_congr hr]
theorem TellsAt.moved {rs : List (List Int)} {hd : Nat} (hn : 1 ≤ n) (h : ∀ j, 1 ≤ j → j < 1 + 2 + n → S'.now j = S.now j) (ht : TellsAt S 1 n rs hd) : TellsAt S' 1 n rs hd := by
  obtain ⟨e1, e2, _⟩ := log_same hn h
  exact ⟨by rw [e1, e2]; exact ht.t, by rw [e1, e2]; exact ht.x⟩
/-- What an Open with power answers. -/
def OCode (S : DS) (s : Nat) (x : Int) : Prop :=
  (¬ SupAt (S.now 0) s ∧ x = 6) ∨ (SupAt (S.now 0) s ∧ (((oNew S 1).2.2 ≠ 0 ∧ x = 6) ∨ ((oNew S 1).2.2 = 0 ∧ ((oTop S 1 (lyOf (S.now 0)).log = 1073741824 ∧ x = 41) ∨ (oTop S 1 (lyOf (S.now 0)).log ≠ 1073741824 ∧ ∃ rs hd, TellsAt S 1 (lyOf (S.now 0)).log rs hd ∧ ((rdAll (lyOf (S.now 0)).blocks [] rs = none ∧ x = 6) ∨ ((∃ ov, rdAll (lyOf (S.now 0)).blocks [] rs = some ov) ∧ x = 0)))))))
theorem OCode.same (hs1 : 1 ≤ s) (h : ∀ j, j < s → S'.now j = S.now j) (h1 : OCode S s x) (h2 : OCode S' s x') : x' = x := by
  unfold OCode at h1 h2
  rw [h 0 (by omega)] at h2
  rcases h1 with ⟨a1, rfl⟩ | ⟨a1, h1⟩
  · rcases h2 with ⟨_, rfl⟩ | ⟨b1, _⟩
    · rfl
    · exact absurd b1 a1
  · rcases h2 with ⟨b1, _⟩ | ⟨_, h2⟩
    · exact absurd a1 b1
    · have hg := stOpen_geo a1
      have hm := fun j (h1 : 1 ≤ j) (h2 : j < 1 + 2 + (lyOf (S.now 0)).log) => h j (by omega)
      obtain ⟨_, e2, e3⟩ := log_same (S := S) (S' := S') (n := (lyOf (S.now 0)).log) (by omega) hm
      rw [e2, e3] at h2
      rcases h1 with ⟨a2, rfl⟩ | ⟨a2, h1⟩
      · rcases h2 with ⟨_, rfl⟩ | ⟨b2, _⟩
        · rfl
        · exact absurd b2 a2
      · rcases h2 with ⟨b2, _⟩ | ⟨_, h2⟩
        · exact absurd a2 b2
        · rcases h1 with ⟨a3, rfl⟩ | ⟨a3, rs, hd, a4, h1⟩
          · rcases h2 with ⟨_, rfl⟩ | ⟨b3, _⟩
            · rfl
            · exact absurd a3 b3
          · rcases h2 with ⟨b3, _⟩ | ⟨_, rs', hd', b4, h2⟩
            · exact absurd b3 a3
            · obtain ⟨rfl, _⟩ := b4.same (a4.moved (by omega) hm)
              rcases h1 with ⟨a5, rfl⟩ | ⟨⟨ov, a5⟩, rfl⟩
              · rcases h2 with ⟨_, rfl⟩ | ⟨⟨ov, b5⟩, _⟩
                · rfl
                · rw [a5] at b5; cases b5
              · rcases h2 with ⟨b5, _⟩ | ⟨_, rfl⟩
                · rw [a5] at b5; cases b5
                · rfl
theorem SOut.code (hok : S.Ok s) (hby : S.Byt) (hf : S.fuse = -1) (hp : S.puts = []) (hl0 : 0 ≤ S.life) (hl1 : S.life ≤ 900000000000000000) (h : SOut S s x S1) : OCode S s x := by
  have hcl := h.clean hok hby hf hp hl0 hl1
  have hf0 : S.fuse ≠ 0 := by omega
  rcases h with ⟨hl, n1, rfl⟩ | ⟨hsup, _, k⟩
  · rcases hl with ⟨a1, _, _⟩ | ⟨_, _, _, e⟩ | ⟨_, a2, _, e⟩
    · exact absurd a1 hf0
    · exact absurd e n1
    · exact .inl ⟨a2, e⟩
  · have hgeo := stOpen_geo hsup
    rcases k with ⟨e1, m1, rfl⟩ | ⟨z1, rs, hd, hta, k⟩
    · rcases (hcl.1 m1).1 with ⟨e6, e | e | ⟨rs, hd, a1, a2⟩⟩ | ⟨e, e'⟩
      · exact absurd hsup e
      · exact .inr ⟨hsup, .inl ⟨e, e6⟩⟩
      · by_cases q : (oNew S 1).2.2 = 0
        · refine .inr ⟨hsup, .inr ⟨q, .inr ⟨fun q2 => ?_, rs, hd, a1, .inl ⟨a2, e6⟩⟩⟩⟩
          have hrf : lrefuse S s 1 ((lyOf (S.now 0)).log : Int) = 0 := by
            unfold lrefuse
            rw [if_neg hf0, if_neg (by omega), if_neg (by omega), if_neg (by omega)]
          unfold lopen at e1
          rw [if_neg (by rw [hrf]; exact fun h => h rfl), if_neg (by show ¬ (oNew S 1).2.2 ≠ 0; rw [q]; exact fun h => h rfl), if_pos (by simpa using q2), e6] at e1
          cases e1
        · exact .inr ⟨hsup, .inl ⟨q, e6⟩⟩
      · by_cases q : (oNew S 1).2.2 = 0
        · exact .inr ⟨hsup, .inr ⟨q, .inl ⟨e', e⟩⟩⟩
        · have hrf : lrefuse S s 1 ((lyOf (S.now 0)).log : Int) = 0 := by
            unfold lrefuse
            rw [if_neg hf0, if_neg (by omega), if_neg (by omega), if_neg (by omega)]
          unfold lopen at e1
          rw [if_neg (by rw [hrf]; exact fun h => h rfl), if_pos (by show (oNew S 1).2.2 ≠ 0; exact q), e] at e1
          rcases lnewest_code (S.now 1) (S.now (1 + 1)) with h9 | h9
          · exact absurd h9 q
          · have h8 : (((oNew S 1).2.2 : Nat) : Int) = 41 := e1
            have h7 : (oNew S 1).2.2 = 6 := h9
            rw [h7] at h8
            cases h8
    · obtain ⟨_, hlz2, hlz3, _⟩ := lopen_zero (f := 1) z1
      rcases k with ⟨a1, rfl, rfl⟩ | ⟨ov, hov, k⟩
      · exact .inr ⟨hsup, .inr ⟨hlz2, .inr ⟨hlz3, rs, hd, hta, .inl ⟨a1, rfl⟩⟩⟩⟩
      · refine .inr ⟨hsup, .inr ⟨hlz2, .inr ⟨hlz3, rs, hd, hta, .inr ⟨⟨ov, hov⟩, Decidable.byContradiction (fun hx => ?_)⟩⟩⟩⟩
        rcases (hcl.1 hx).1 with ⟨_, e | e | ⟨rs', hd', a1, a2⟩⟩ | ⟨_, e⟩
        · exact e hsup
        · exact e hlz2
        · obtain ⟨rfl, _⟩ := hta.same a1
          rw [hov] at a2
          cases a2
        · exact hlz3 e
end
end Go.Proofs.YtokcgifpljeoiaaGreat
end

section
namespace Go.Proofs.YtokcgifpljeoiaaGreat
open Go.RowKit

section
variable {S S' S1 : DS} {s n : Nat} {x x0 : Int} {y : LY} {K : Nat → List Int} {E : Nat}
theorem take_flat (hok : S.Ok s) (hf : S.fuse ≠ 0) (_hp : S.puts = []) : (S.take.fl s).1 = 0 ∧ (S.take.fl s).2.puts = [] ∧ (S.take.fl s).2.Ok s ∧ ∀ j, j < s → (S.take.fl s).2.now j = S.now j := by
  have htk : S.take.Ok s := ⟨hok.len, hok.lo, hok.hi, hok.puts, hok.fuse⟩
  have h0 : (S.take.fl s).1 = 0 := by
    unfold DS.fl
    rw [if_neg (show ¬ S.take.fuse = 0 from hf)]
  exact ⟨h0, fl_zero h0, fl_ok htk, fun j hj => fl_now (S := S.take) htk hj⟩
theorem lopen_on (_hok : S.Ok s) (hf : S.fuse ≠ 0) (hsup : SupAt (S.now 0) s) (hn : (oNew S 1).2.2 = 0) (ht : oTop S 1 (lyOf (S.now 0)).log ≠ 1073741824) : lopen S s 1 ((lyOf (S.now 0)).log : Int) = S.take.fl s := by
  have hgeo := stOpen_geo hsup
  have hrf : lrefuse S s 1 ((lyOf (S.now 0)).log : Int) = 0 := by
    unfold lrefuse
    rw [if_neg hf, if_neg (by omega), if_neg (by omega), if_neg (by omega)]
  unfold lopen
  rw [if_neg (by rw [hrf]; exact fun h => h rfl), if_neg (by show ¬ (oNew S 1).2.2 ≠ 0; rw [hn]; exact fun h => h rfl), if_neg (by simpa using ht)]
/-- A disk that is refused stays as it is, wherever an Open is cut. -/
theorem OCode.still (hc : OCode S s x0) (hx0 : x0 ≠ 0) (hok : S.Ok s) (hp : S.puts = []) (h : SOut S s x S1) : S1.puts = [] ∧ S1.Ok s ∧ ∀ j, j < s → S1.now j = S.now j := by
  have htk : S.take.Ok s := ⟨hok.len, hok.lo, hok.hi, hok.puts, hok.fuse⟩
  rcases h with ⟨_, _, rfl⟩ | ⟨hsup, hf, k⟩
  · exact ⟨hp, hok, fun _ _ => rfl⟩
  · have hgeo := stOpen_geo hsup
    have hrf : lrefuse S s 1 ((lyOf (S.now 0)).log : Int) = 0 := by
      unfold lrefuse
      rw [if_neg hf, if_neg (by omega), if_neg (by omega), if_neg (by omega)]
    rcases k with ⟨e1, m1, rfl⟩ | ⟨z1, rs, hd, hta, k⟩
    · unfold lopen at e1 ⊢
      rw [if_neg (by rw [hrf]; exact fun h => h rfl)] at e1 ⊢
      split at e1
      · rename_i q
        rw [if_pos q]
        exact ⟨hp, htk, fun _ _ => rfl⟩
      · rename_i q
        rw [if_neg q]
        split at e1
        · rename_i q2
          rw [if_pos q2]
          exact ⟨hp, htk, fun _ _ => rfl⟩
        · rename_i q2
          rw [if_neg q2]
          exact (take_flat hok hf hp).2
    · obtain ⟨_, hlz2, hlz3, hlz4⟩ := lopen_zero (f := 1) z1
      have hlo : lopen S s 1 ((lyOf (S.now 0)).log : Int) = S.take.fl s := hlz4
      rcases k with ⟨a1, _, rfl⟩ | ⟨ov, hov, k⟩
      · rw [hlo]
        exact (take_flat hok hf hp).2
      · exfalso
        rcases hc with ⟨a1, _⟩ | ⟨_, ⟨a1, _⟩ | ⟨_, ⟨a1, _⟩ | ⟨_, rs', hd', a1, ⟨a2, _⟩ | ⟨_, a2⟩⟩⟩⟩
        · exact a1 hsup
        · exact a1 hlz2
        · exact hlz3 a1
        · obtain ⟨rfl, _⟩ := hta.same a1
          rw [hov] at a2
          cases a2
        · exact hx0 a2
/-- A disk on which nothing pends and which holds a store of these contents, its epochs no later than E. -/
structure Kp2 (S : DS) (s : Nat) (y : LY) (K : Nat → List Int) (E : Nat) : Prop where
  ok : S.Ok s
  byt : S.Byt
  p : S.puts = []
  sup : SupAt (S.now 0) s
  y' : lyOf (S.now 0) = y
  nw : (oNew S 1).2.2 = 0
  top : oTop S 1 y.log ≤ E
  tl : ∃ rs hd ov, TellsAt S 1 y.log rs hd ∧ rdAll y.blocks [] rs = some ov ∧ ∀ b, b < y.blocks → (CM.get ov b).getD (S.now (y.home + b)) = K b
theorem Kp2.geo (h : Kp2 S s y K E) : y.home + y.blocks ≤ s ∧ 1 + 2 + y.log ≤ s ∧ 18 ≤ y.log ∧ y.log ≤ 256 ∧ y.blocks ≤ 2048 ∧ y.home = 3 + y.log := by
  have := stOpen_geo h.sup
  rw [h.y'] at this
  refine ⟨this.1, this.2.1, this.2.2.1, this.2.2.2.1, this.2.2.2.2, ?_⟩
  rw [← h.y']; rfl
theorem Kp2.up {E' : Nat} (h : Kp2 S s y K E) (hE : E ≤ E') : Kp2 S s y K E' := ⟨h.ok, h.byt, h.p, h.sup, h.y', h.nw, Nat.le_trans h.top hE, h.tl⟩
/-- The same where the ring and the newest anchor are the same, and each block that no record holds. -/
theorem Kp2.moved (h : Kp2 S s y K E) (ok : S'.Ok s) (byt : S'.Byt) (p : S'.puts = []) (h0 : S'.now 0 = S.now 0) (hnw : oNew S' 1 = oNew S 1) (hr : ∀ i, i < y.log → S'.now (1 + 2 + i) = S.now (1 + 2 + i)) (hb : ∀ rs hd ov, TellsAt S 1 y.log rs hd → rdAll y.blocks [] rs = some ov → ∀ b, b < y.blocks → (CM.get ov b).getD (S'.now (y.home + b)) = (CM.get ov b).getD (S.now (y.home + b))) : Kp2 S' s y K E := by
  obtain ⟨g1, g2, g3, g4, g5, g6⟩ := h.geo
  have e0 : ∀ i, i < y.log → oRing S' 1 i = oRing S 1 i := fun i hi => by
    show pcOf (S'.now (1 + 2 + i)) = pcOf (S.now (1 + 2 + i))
    rw [hr i hi]
  have e1 : Rp (oRing S' 1) y.log = Rp (oRing S 1) y.log := by
    funext P
    exact e0 (P % y.log) (Nat.mod_lt _ (by omega))
  have e3 : oTop S' 1 y.log = oTop S 1 y.log := by
    unfold oTop
    rw [hnw, rtop_congr e0]
  obtain ⟨rs, hd, ov, t1, t2, t3⟩ := h.tl
  exact ⟨ok, byt, p, by rw [h0]; exact h.sup, by rw [h0]; exact h.y', by rw [hnw]; exact h.nw, by rw [e3]; exact h.top, rs, hd, ov, ⟨by rw [e1, hnw]; exact t1.t, by rw [e1, hnw]; exact t1.x⟩, t2, fun b hbb => (hb rs hd ov t1 t2 b hbb).trans (t3 b hbb)⟩
theorem Kp2.same (h : Kp2 S s y K E) (ok : S'.Ok s) (byt : S'.Byt) (p : S'.puts = []) (hl : ∀ j, j < s → S'.now j = S.now j) : Kp2 S' s y K E := by
  obtain ⟨g1, g2, g3, g4, g5, g6⟩ := h.geo
  exact h.moved ok byt p (hl 0 (by omega)) (by unfold oNew; rw [hl 1 (by omega), hl (1 + 1) (by omega)]) (fun i hi => hl _ (by omega)) (fun _ _ ov _ _ b hb => by rw [hl _ (by omega)])
/-- A log whose newest anchor is of an epoch that no sector of the ring says tells nothing. -/
theorem Kp2.fresh (h : Kp2 S s y K E) {T : Nat} (ok : S'.Ok s) (byt : S'.Byt) (p : S'.puts = []) (hs0 : SupAt (S'.now 0) s) (hy0 : lyOf (S'.now 0) = y) (hr : ∀ i, i < y.log → S'.now (1 + 2 + i) = S.now (1 + 2 + i)) (hT : T = oTop S 1 y.log) (hT2 : T < 1073741824) (han : (snewest (S'.now 1) (S'.now (1 + 1))).2 = ((T + 1) * 4294967296, [], 0)) (hb : ∀ b, b < y.blocks → S'.now (y.home + b) = K b) : Kp2 S' s y K (T + 1) ∧ oTop S' 1 y.log = T + 1 := by
  obtain ⟨g1, g2, g3, g4, g5, g6⟩ := h.geo
  have hrt : rtop (oRing S' 1) y.log = rtop (oRing S 1) y.log := rtop_congr (fun i hi => by
    show pcOf (S'.now (1 + 2 + i)) = pcOf (S.now (1 + 2 + i))
    rw [hr i hi])
  obtain ⟨hnew, hd, htell⟩ := tells_all (S := S') (n := y.log) (E := T + 1) (ds := []) (by omega) han (by omega) (by omega) (fun d hd => by cases hd) (fun i hi he => by
    exfalso
    rw [hr i hi] at he
    have h9 : (oRing S 1 i).e ≤ rtop (oRing S 1) y.log := rtop_ge hi (by show (pcOf (S.now (1 + 2 + i))).e ≤ _; omega)
    have h8 : (oRing S 1 i).e = T + 1 := he
    have h7 : rtop (oRing S 1) y.log ≤ oTop S 1 y.log := Nat.le_max_right _ _
    omega) (fun m X hX => by cases hX)
  have htop : oTop S' 1 y.log = T + 1 := by
    unfold oTop
    rw [hnew, hrt]
    have h7 : rtop (oRing S 1) y.log ≤ oTop S 1 y.log := Nat.le_max_right _ _
    show max (T + 1) _ = _
    omega
  exact ⟨⟨ok, byt, p, hs0, hy0, by rw [hnew], by rw [htop]; exact Nat.le_refl _, [], hd, [], htell, rfl, fun b hb' => hb b hb'⟩, htop⟩
end
end Go.Proofs.YtokcgifpljeoiaaGreat
end
