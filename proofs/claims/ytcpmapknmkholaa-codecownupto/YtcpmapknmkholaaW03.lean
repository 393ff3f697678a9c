import Derived.Test.YtcpmapknmkholaaW02
import Derived.Laws.AppendOwn
import Derived.Lib.AppendStr
section
namespace Go.Proofs.Ytcpmapknmkholaa
open Go.RowKit Go.Maps

/-- The first k of the lists, written full with their marks. -/
def mmL (ds : List (List Int)) (k : Nat) : List (List Int) := (List.range k).map (fun i => mks i (ds.getD i []).length)
theorem mmL_len (ds : List (List Int)) (k : Nat) : (mmL ds k).length = k := by simp [mmL]
theorem mmL_succ (ds : List (List Int)) (k : Nat) : mmL ds (k + 1) = mmL ds k ++ [mks k (ds.getD k []).length] := by simp [mmL, List.range_succ]
theorem mmL_get {ds : List (List Int)} {k N : Nat} (h : k < (mmL ds N).length) : (mmL ds N)[k] = mks k (ds.getD k []).length := by simp [mmL]
theorem mmL_split {ds : List (List Int)} {k : Nat} : ∀ {N : Nat}, k < N → ∃ B, mmL ds N = mmL ds k ++ mks k (ds.getD k []).length :: B
  | 0, h => by omega
  | N + 1, h => by
    rw [mmL_succ]
    by_cases e : k = N
    · subst e
      exact ⟨[], rfl⟩
    · obtain ⟨B, hB⟩ := mmL_split (ds := ds) (k := k) (N := N) (by omega)
      exact ⟨B ++ [mks N (ds.getD N []).length], by rw [hB]; simp⟩
/-- The same, with the bytes behind them. -/
def mtL (ds : List (List Int)) (k : Nat) : List (List Int) := (List.range k).map (fun i => mks i (ds.getD i []).length ++ tl i)
theorem mtL_len (ds : List (List Int)) (k : Nat) : (mtL ds k).length = k := by simp [mtL]
theorem mtL_succ (ds : List (List Int)) (k : Nat) : mtL ds (k + 1) = mtL ds k ++ [mks k (ds.getD k []).length ++ tl k] := by simp [mtL, List.range_succ]
theorem mtL_get {ds : List (List Int)} {k N : Nat} (h : k < (mtL ds N).length) : (mtL ds N)[k] = mks k (ds.getD k []).length ++ tl k := by simp [mtL]
theorem mks_fill {d : List Int} {k t : Nat} (ht : t < d.length) : (mks k t ++ d.drop t).set t (mk4 k t) = mks k (t + 1) ++ d.drop (t + 1) := by
  rw [List.set_append_right _ _ (by rw [mks_len]; exact Nat.le_refl _), mks_len, Nat.sub_self, List.drop_eq_getElem_cons ht, List.set_cons_zero, mks_succ, List.append_assoc]
  rfl

set_option maxRecDepth 20000 in
set_option maxHeartbeats 16000000 in
/-- Lists that were handed out: all are written full, then appended to; all that was written is there. -/
theorem grown_any {w : World} {lab : Nat → Nat} {vL : Value} {ds : List (List Int)} (h : LO w lab 21 yK vL ds) (hz : LZ lab w) (hm : ∀ i, (ds.getD i []).length ≤ 100000) (hN : ds.length ≤ 100000000) :
    Calls Try.prog 11 #[vL] w fun e w' => e = .returned (.bool true) ∧ ∃ lab', Gro lab lab' w w' isK := by
  obtain ⟨la, lc, hvL⟩ := h.form
  subst hvL
  have H := Hid.mk (And.intro h hz)
  have HM := Hid.mk hm
  clear h hz hm
  have y21 : ∀ i, (21 : Nat) ≠ yK i := fun i e => by have := yK_ge i; omega
  obtain ⟨N, hNN⟩ : ∃ N, N = ds.length := ⟨_, rfl⟩
  rw [← hNN]
  have HNN := Hid.mk hNN
  rw [← hNN] at hN
  clear hNN
  go_enter Try.func11, Try.ntmps11
  go_wp2
  go_loopw [3] (fun i wr => ∃ (k : Nat) (L : Nat → Nat), k ≤ N ∧ i = .int .i64 k ∧ LO wr L 21 yK (.slice la N lc) (mmL ds k ++ ds.drop k) ∧ Gro lab L w wr isK) (fun i _ => N - (intOf i).toNat)
  case atStart => exact ⟨0, lab, Nat.zero_le _, rfl, by simpa [mmL, HNN.out] using H.out.1, Gro.refl H.out.2 _⟩
  case round =>
    obtain ⟨k, L0, hk, rfl, hK, hG⟩ := hrel
    by_cases hlt : k < N
    · have hdrop : ds.drop k = ds[k]'(by have := HNN.out; omega) :: ds.drop (k + 1) := List.drop_eq_getElem_cons (by have := HNN.out; omega)
      rw [hdrop] at hK
      obtain ⟨d, hd⟩ : ∃ d, d = ds[k]'(by have := HNN.out; omega) := ⟨_, rfl⟩
      have hdg : ds.getD k [] = d := by rw [hd]; simp [List.getD, show k < ds.length by have := HNN.out; omega]
      rw [← hd] at hK
      have hdl : d.length ≤ 100000 := by rw [← hdg]; exact HM.out k
      have hlt' : (k : Int) < (N : Int) := by omega
      have hk0 : (0 : Int) ≤ (k : Int) := by omega
      have H1 := Hid.mk (And.intro hK hG)
      have HD := Hid.mk hdg
      clear hK hG hdrop hd hdg
      go_wp2
      rename World => wo
      go_loopw [4] (fun j wr => ∃ (t : Nat) (L : Nat → Nat), t ≤ d.length ∧ j = .int .i64 (t : Int) ∧ LO wr L 21 yK (.slice la N lc) (mmL ds k ++ (mks k t ++ d.drop t) :: ds.drop (k + 1)) ∧ Gro lab L w wr isK) (fun j _ => d.length - (intOf j).toNat)
      case atStart => exact ⟨0, L0, Nat.zero_le _, rfl, by simpa [mks] using H1.out.1, H1.out.2⟩
      case round =>
        clear H1
        obtain ⟨t, L, ht, rfl, hK, hG⟩ := hrel
        obtain ⟨dn, hdn⟩ : ∃ dn, dn = d.length := ⟨_, rfl⟩
        have hld : (mks k t ++ d.drop t).length = dn := by rw [List.length_append, mks_len, List.length_drop]; omega
        have hlen : (mmL ds k ++ (mks k t ++ d.drop t) :: ds.drop (k + 1)).length = N := by rw [List.length_append, mmL_len, List.length_cons, List.length_drop]; have := HNN.out; omega
        by_cases hlt2 : t < dn
        · have GD := Gro.drew hG.lz (fun _ => False)
          obtain ⟨gL, cL, g, c, y0, e1, e2, e3, e4, e5, G6, K6⟩ := (hK.gro GD (fun h => h) (fun _ _ h => h)).put GD.lz (y21 _) (fun i hi e => yK_ne hi e) (j := t) (by omega) (mk4 k t)
          rw [mks_fill (by omega)] at K6
          rw [mmL_len] at e2 G6
          rw [hld] at e2 e5
          have eL : la = some ⟨gL, 0, none⟩ := by injection e1
          subst eL
          have hq : (wr.drew.setCell ⟨g, t, none⟩ (.int .u8 (mk4 k t))).cell? ⟨gL, k, none⟩ = some (.slice (some ⟨g, 0, none⟩) dn c) := by
            obtain ⟨gL2, cL2, u2, f1, f2, f3⟩ := (hK.gro GD (fun h => h) (fun _ _ h => h)).mid
            obtain ⟨vs, hl0, ho, _⟩ := hK.gro GD (fun h => h) (fun _ _ h => h)
            obtain ⟨gL3, cL3, f4, hr, hlab, _⟩ := ho.row (by rw [hlen]; omega)
            have f5 : gL = gL3 := by cases f4; rfl
            subst f5
            have hb : (wr.drew.setCell ⟨g, t, none⟩ (.int .u8 (mk4 k t))).heap[gL]? = wr.drew.heap[gL]? := G6.block hr.lt hlab (fun e => y21 _ e)
            rw [World.cell?_of_block (w := wr.drew) (a := ⟨gL, k, none⟩) hb]
            exact e2
          have hma := mark_any k t (by omega) (by omega) wr.drew
          have HR := Hid.mk (And.intro K6 ((hG.join GD (Z := isK) (fun _ h => h) (fun _ h => h.elim)).join G6 (Z := isK) (fun _ h => h) (fun y e => by subst e; exact isK_yK _)))
          have c0 : wr.cell? ⟨gL, k, none⟩ = some (.slice (some ⟨g, 0, none⟩) dn c) := e2
          have hlt2' : (t : Int) < (dn : Int) := by omega
          have ht0 : (0 : Int) ≤ (t : Int) := by omega
          have HDN := Hid.mk hdn
          have hdn5 : dn ≤ 100000 := by omega
          clear hK hG hld hlen GD e1 G6 K6 hdn hdl ht
          generalize mk4 k t = x at *
          go_wp2
          refine wp_region_held_drew (S := (fun w' => w'.cell? ⟨gL, k, none⟩ = some (.slice (some ⟨g, 0, none⟩) dn c))) (by kernel_rfl) (e2) (fun hHeld => ?_)
          refine wpAnyH_take (i := 0) (oi := { dst := some 27, op := Op.move (Operand.tmp 0), type := 35, pos := "outright.go:258", after := #[], guard := none }) (v := .slice (some ⟨gL, 0, none⟩) N lc) rfl (by kernel_rfl) (by kernel_rfl) (by kernel_rfl) (fun _ _ _ h => h) (Or.inl ⟨by rfl, ?_⟩) (by assumption) ?_
          · intro w hSw
            (try dsimp only at hSw)
            go_simp
          try simp only [Act.put, List.setIfInBounds_toArray, List.set_cons_zero, List.set_cons_succ]
          refine wpAnyH_take (i := 1) (oi := { dst := some 28, op := Op.move (Operand.tmp 3), type := 3, pos := "outright.go:258", after := #[], guard := none }) (v := .int .i64 (k : Int)) rfl (by kernel_rfl) (by kernel_rfl) (by kernel_rfl) (fun _ _ _ h => h) (Or.inl ⟨by rfl, ?_⟩) (by assumption) ?_
          · intro w hSw
            (try dsimp only at hSw)
            go_simp
          try simp only [Act.put, List.setIfInBounds_toArray, List.set_cons_zero, List.set_cons_succ]
          refine wpAnyH_take (i := 2) (oi := { dst := some 29, op := Op.indexAddr 35 (Operand.tmp 27) (Operand.tmp 28), type := 0, pos := "outright.go:258", after := #[{ on := 0, ground := Ground.data }, { on := 1, ground := Ground.data }], guard := none }) (v := .pointer (some ⟨gL, k, none⟩)) rfl (by kernel_rfl) (by kernel_rfl) (by kernel_rfl) (fun _ _ _ h => h) (Or.inl ⟨by rfl, ?_⟩) (by assumption) ?_
          · intro w hSw
            (try dsimp only at hSw)
            go_simp
          try simp only [Act.put, List.setIfInBounds_toArray, List.set_cons_zero, List.set_cons_succ]
          refine wpAnyH_take (i := 3) (oi := { dst := some 30, op := Op.load 36 (Operand.tmp 29), type := 36, pos := "outright.go:258", after := #[{ on := 2, ground := Ground.data }], guard := none }) (v := .slice (some ⟨g, 0, none⟩) dn c) rfl (by kernel_rfl) (by kernel_rfl) (by kernel_rfl) (fun _ _ _ h => h) (Or.inl ⟨by rfl, ?_⟩) (by assumption) ?_
          · intro w hSw
            (try dsimp only at hSw)
            go_simp
          try simp only [Act.put, List.setIfInBounds_toArray, List.set_cons_zero, List.set_cons_succ]
          refine wpAnyH_take (i := 4) (oi := { dst := some 31, op := Op.move (Operand.tmp 4), type := 3, pos := "outright.go:258", after := #[], guard := none }) (v := .int .i64 (t : Int)) rfl (by kernel_rfl) (by kernel_rfl) (by kernel_rfl) (fun _ _ _ h => h) (Or.inl ⟨by rfl, ?_⟩) (by assumption) ?_
          · intro w hSw
            (try dsimp only at hSw)
            go_simp
          try simp only [Act.put, List.setIfInBounds_toArray, List.set_cons_zero, List.set_cons_succ]
          refine wpAnyH_take (i := 5) (oi := { dst := some 32, op := Op.move (Operand.tmp 3), type := 3, pos := "outright.go:258", after := #[], guard := none }) (v := .int .i64 (k : Int)) rfl (by kernel_rfl) (by kernel_rfl) (by kernel_rfl) (fun _ _ _ h => h) (Or.inl ⟨by rfl, ?_⟩) (by assumption) ?_
          · intro w hSw
            (try dsimp only at hSw)
            go_simp
          try simp only [Act.put, List.setIfInBounds_toArray, List.set_cons_zero, List.set_cons_succ]
          refine wpAnyH_take (i := 6) (oi := { dst := some 33, op := Op.move (Operand.tmp 4), type := 3, pos := "outright.go:258", after := #[], guard := none }) (v := .int .i64 (t : Int)) rfl (by kernel_rfl) (by kernel_rfl) (by kernel_rfl) (fun _ _ _ h => h) (Or.inl ⟨by rfl, ?_⟩) (by assumption) ?_
          · intro w hSw
            (try dsimp only at hSw)
            go_simp
          try simp only [Act.put, List.setIfInBounds_toArray, List.set_cons_zero, List.set_cons_succ]
          refine wpAnyH_ready (rs := [7]) (by kernel_rfl) (by simp) ?_
          refine AllReadyH.cons (o := { dst := some 34, op := Op.call { callee := Callee.value (Operand.func 19), args := #[Operand.tmp 32, Operand.tmp 33], argTypes := #[3, 3] }, type := 5, pos := "outright.go:258", after := #[{ on := 5, ground := Ground.data }, { on := 6, ground := Ground.data }], guard := none }) rfl (fun K hK => ?_) AllReadyH.nil
          go_simp
          refine hma.mono ?_
          rintro e w5 ⟨rfl, rfl⟩
          refine hK.out _ _ ?_ (fun hHeld => ?_)
          · exact e2
          clear hK K
          try simp only [Act.put, List.setIfInBounds_toArray, List.set_cons_zero, List.set_cons_succ]
          refine wpAnyH_take (i := 8) (oi := { dst := some 35, op := Op.indexAddr 36 (Operand.tmp 30) (Operand.tmp 31), type := 0, pos := "outright.go:258", after := #[{ on := 3, ground := Ground.data }, { on := 4, ground := Ground.data }, { on := 0, ground := Ground.phase }, { on := 1, ground := Ground.phase }, { on := 2, ground := Ground.phase }, { on := 3, ground := Ground.phase }, { on := 4, ground := Ground.phase }, { on := 5, ground := Ground.phase }, { on := 6, ground := Ground.phase }, { on := 7, ground := Ground.phase }], guard := none }) (v := .pointer (some ⟨g, t, none⟩)) rfl (by kernel_rfl) (by kernel_rfl) (by kernel_rfl) (fun _ _ _ h => h) (Or.inl ⟨by rfl, ?_⟩) (by assumption) ?_
          · intro w hSw
            (try dsimp only at hSw)
            go_simp
          try simp only [Act.put, List.setIfInBounds_toArray, List.set_cons_zero, List.set_cons_succ]
          refine wpAnyH_ready (rs := [9]) (by kernel_rfl) (by simp) ?_
          refine AllReadyH.cons (o := { dst := none, op := Op.store 5 (Operand.tmp 35) (Operand.tmp 34), type := 0, pos := "outright.go:258", after := #[{ on := 8, ground := Ground.data }, { on := 7, ground := Ground.data }, { on := 7, ground := Ground.chain }, { on := 0, ground := Ground.phase }, { on := 1, ground := Ground.phase }, { on := 2, ground := Ground.phase }, { on := 3, ground := Ground.phase }, { on := 4, ground := Ground.phase }, { on := 5, ground := Ground.phase }, { on := 6, ground := Ground.phase }, { on := 7, ground := Ground.phase }], guard := none }) rfl (fun K hK => ?_) AllReadyH.nil
          go_simp
          refine hK.out _ _ ?_ (fun hHeld => ?_)
          · exact hq
          clear hK K
          try simp only [Act.put, List.setIfInBounds_toArray, List.set_cons_zero, List.set_cons_succ]
          refine wpAnyH_done (by kernel_rfl) ?_ _
          clear hHeld hma hq c0 e2 e3 e4 e5
          go_wp2
          go_roundw
          case rel => exact ⟨t + 1, L, by have := HDN.out; omega, by go_num, HR.out⟩
          case measure => have := HDN.out; simp [intOf]; omega
        · obtain rfl : t = dn := by omega
          obtain ⟨gL, cL, u, e1, e2, e3⟩ := hK.mid
          obtain ⟨ua, uc, rfl⟩ := e3.form
          rw [mmL_len, hld] at e2
          have eL : la = some ⟨gL, 0, none⟩ := by injection e1
          subst eL
          have hlt2' : ¬ (t : Int) < (t : Int) := by omega
          have hfin : LO wr L 21 yK (.slice (some ⟨gL, 0, none⟩) N lc) (mmL ds (k + 1) ++ ds.drop (k + 1)) := by
            rw [hdn, List.drop_length, List.append_nil] at hK
            rw [mmL_succ, HD.out, List.append_assoc]
            exact hK
          have HR := Hid.mk (And.intro hfin hG)
          clear hK hG hld hlen e1 e3 hfin hlt2 ht hdn
          go_wp2
          go_roundw
          case rel => exact ⟨k + 1, L, by omega, by go_num, HR.out⟩
          case measure => simp [intOf]; omega
    · obtain rfl : k = N := by omega
      have hlt' : ¬ (k : Int) < (k : Int) := by omega
      rw [show ds.drop k = [] by rw [HNN.out]; exact List.drop_length, List.append_nil] at hK
      have H2 := Hid.mk (And.intro hK hG)
      clear hK hG hlt hk
      go_wp2
      go_loopw [5, 6] (fun u i wr => ∃ (q : Nat) (L : Nat → Nat), q ≤ k ∧ i = .int .i64 (q : Int) ∧ LO wr L 24 yK u (mtL ds q) ∧ LO wr L 21 yK (.slice la k lc) (mmL ds k) ∧ Gro lab L w wr isK) (fun _ i _ => k - (intOf i).toNat)
      case atStart => exact ⟨0, L0, Nat.zero_le _, rfl, by simpa [mtL] using LO.nil wr L0 24 yK, H2.out⟩
      case round =>
        clear H2
        obtain ⟨q, L, hq, rfl, hX, hK, hG⟩ := hrel
        obtain ⟨xa, xc, rfl⟩ := hX.form
        rw [mtL_len] at hX ⊢
        by_cases hlt : q < k
        · obtain ⟨Bb, hBb⟩ := mmL_split (ds := ds) hlt
          rw [hBb] at hK
          have hAl := mmL_len ds q
          obtain ⟨n, hn⟩ : ∃ n, n = (ds.getD q []).length := ⟨_, rfl⟩
          have hn5 : n ≤ 100000 := by rw [hn]; exact HM.out q
          rw [← hn] at hK hBb
          obtain ⟨gL, cL, ui, e1, e2, e3⟩ := hK.mid
          obtain ⟨ia, ic, rfl⟩ := e3.form
          rw [hAl] at e2 e3
          rw [mks_len] at e2 e3
          have eL : la = some ⟨gL, 0, none⟩ := by injection e1
          subst eL
          have hlt' : (q : Int) < (k : Int) := by omega
          have hk0 : (0 : Int) ≤ (q : Int) := by omega
          have htl := tail_any q (by omega) wr
          have H3 := Hid.mk (And.intro e3 (And.intro hX (And.intro hK hG)))
          have H4 := Hid.mk (And.intro hAl (And.intro hBb hn))
          clear hX hK hG e1 e3 hAl hBb hn hq
          go_wp2_with fail
          refine htl.mono ?_
          rintro e w1 ⟨gt, ct, rfl, hge, hsr, hb1⟩
          obtain ⟨e3, hX, hK, hG⟩ := H3.out
          have GB := Gro.below hG.lz hb1 (fun _ => False)
          have H5 := Hid.mk (And.intro (e3.gro GB (fun h => h)) (And.intro (hX.gro GB (fun h => h) (fun _ _ h => h)) (And.intro (hK.gro GB (fun h => h) (fun _ _ h => h)) (And.intro (hG.join GB (Z := isK) (fun _ h => h) (fun _ h => h.elim)) (show SL w1 L 0 (some ⟨gt, 0, none⟩) 700 (tl q) from ⟨hsr, fun z hz _ => by cases hz; exact hG.lz _ hge⟩)))))
          clear H3 e3 hX hK hG GB hge hsr hb1 htl e2
          go_wp2
          rename World => wo
          go_loopw [7, 9] (fun g j wr => ∃ (t : Nat) (L : Nat → Nat), t ≤ 700 ∧ j = .int .i64 (t : Int) ∧ OR wr L (yK q) 5 g (n + t) (bs (mks q n ++ (tl q).take t)) ∧ LO wr L 24 yK (.slice xa q xc) (mtL ds q) ∧ LO wr L 21 yK (.slice (some ⟨gL, 0, none⟩) k lc) (mmL ds q ++ mks q n :: Bb) ∧ Gro lab L w wr isK ∧ SL wr L 0 (some ⟨gt, 0, none⟩) 700 (tl q)) (fun _ j _ => 700 - (intOf j).toNat)
          case atStart => exact ⟨0, L, by omega, rfl, by simpa only [List.take_zero, List.append_nil, Nat.add_zero] using H5.out⟩
          case round =>
            clear H5
            obtain ⟨t, L, ht, rfl, ho, hX, hK, hG, hS⟩ := hrel
            obtain ⟨hAl, hBb, hn⟩ := H4.out
            obtain ⟨ga, gc, rfl⟩ := ho.form
            by_cases hlt2 : t < 700
            · have c0 : wr.cell? ⟨gt, t, none⟩ = some (.int .u8 ((tl q).getD t 0)) := by
                have := hS.1.at hlt2
                rwa [addr_add, Nat.zero_add] at this
              have GE := Gro.boxed hG.lz (.cells #[.int .u8 ((tl q).getD t 0)] 5) (fun _ => False)
              obtain ⟨gv, cv, w7, r7, L7, G7, o7, K7⟩ := (hK.gro GE (fun h => h) (fun _ _ h => h)).app GE.lz (y21 _) (fun i hi e => yK_ne hi e) (n' := n + t) (by rw [hAl]; exact ho.gro GE (fun h => h)) (by rw [mks_len]; omega) ⟨wr.heap.size, 0, none⟩ 1 1 [(tl q).getD t 0] rfl (World.news_of_block (cs := #[.int .u8 ((tl q).getD t 0)]) (t := 5) (fr := (0, 0)) (heap_alloc_new wr _)) (by omega) (by omega)
              rw [hAl] at G7 o7
              have GE7 := GE.join G7 (Z := fun y => y = yK q) (fun _ h => h.elim) (fun _ h => h)
              have o8 : OR w7 L7 (yK q) 5 (.slice (some ⟨gv, 0, none⟩) (n + t + 1) cv) (n + (t + 1)) (bs (mks q n ++ (tl q).take (t + 1))) := by
                have e : (tl q).take (t + 1) = (tl q).take t ++ [(tl q).getD t 0] := by
                  rw [List.take_succ_eq_append_getElem (by rw [tl_len]; exact hlt2)]
                  simp [List.getD, tl_len, hlt2]
                rw [e, ← List.append_assoc]
                exact o7
              have yq := yK_ge q
              have X7 := hX.gro GE7 (fun e => by omega) (fun i hi e => by
                rw [mtL_len] at hi
                exact yK_ne (by omega) e)
              have S7 := hS.gro GE7 (fun e => by omega)
              have Q7 := hG.join GE7 (Z := isK) (fun _ h => h) (fun y e => by subst e; exact isK_yK _)
              have HR := Hid.mk (And.intro o8 (And.intro X7 (And.intro K7 (And.intro Q7 S7))))
              have HR7 := Hid.mk r7
              have hlt2' : (t : Int) < 700 := by omega
              clear ho hX hK hG hS hAl hBb hn GE r7 G7 o7 K7 GE7 o8 X7 S7 Q7 yq
              generalize (tl q).getD t 0 = x at *
              generalize n + t = nt at *
              go_wp2_with (at_builtin; refine swList_append_run rfl _ _ 36 rfl (.slice ga nt gc) (.slice (some ⟨wr.heap.size, 0, none⟩) 1 1) _ rfl rfl HR7.out ?_)
              go_roundw
              case rel => exact ⟨t + 1, L7, by omega, by go_num, HR.out⟩
              case measure => simp [intOf]; omega
            · obtain rfl : t = 700 := by omega
              have hlt2' : ¬ (700 : Int) < 700 := by omega
              rw [List.take_of_length_le (by rw [tl_len]; exact Nat.le_refl _)] at ho
              have hml : (mks q n ++ tl q).length = n + 700 := by rw [List.length_append, mks_len, tl_len]
              obtain ⟨g8, c8, w8, r8, L8, G8, X8⟩ := hX.push hG.lz (fun i e => by have := yK_ge i; omega) (by rw [mtL_len]; omega) (u := .slice ga (n + 700) gc) (d := mks q n ++ tl q) (by rw [mtL_len, hml]; exact ho)
              rw [mtL_len] at r8 X8
              have X9 : LO w8 L8 24 yK (.slice (some ⟨g8, 0, none⟩) (q + 1) c8) (mtL ds (q + 1)) := by
                rw [mtL_succ, ← hn]
                exact X8
              have K9 : LO w8 L8 21 yK (.slice (some ⟨gL, 0, none⟩) k lc) (mmL ds k) := by
                rw [hBb]
                exact hK.gro G8 (fun e => by omega) (fun i _ e => by have := yK_ge i; omega)
              have Q9 := hG.join G8 (Z := isK) (fun _ h => h) (fun y e => by subst e; exact isK_of (by omega) (by omega))
              have HR := Hid.mk (And.intro X9 (And.intro K9 Q9))
              have HR8 := Hid.mk r8
              clear ho hX hK hG hS hAl hBb hn r8 G8 X8 X9 K9 Q9 hml
              generalize n + 700 = nt at *
              go_wp2_with (at_builtin; refine swList_append_run rfl _ _ 35 rfl (.slice xa q xc) (.slice (some ⟨wr.heap.size, 0, none⟩) 1 1) _ rfl rfl HR8.out ?_)
              go_roundw
              case rel => exact ⟨q + 1, L8, by omega, by go_num, HR.out⟩
              case measure => simp [intOf]; omega
        · obtain rfl : q = k := by omega
          have hlt' : ¬ (q : Int) < (q : Int) := by omega
          obtain ⟨W6, hW6⟩ : ∃ W, W = wr := ⟨_, rfl⟩
          subst hW6
          have H5 := Hid.mk (And.intro hX (And.intro hK hG))
          clear hX hK hG hlt hq
          go_wp2
          go_loopw [10] (fun i wr => ∃ t : Nat, t ≤ q ∧ i = .int .i64 (t : Int) ∧ Below W6.heap.size W6 wr) (fun i _ => q - (intOf i).toNat)
          case atStart => exact ⟨0, Nat.zero_le _, rfl, Below.refl _ _⟩
          case round =>
            obtain ⟨t, ht, rfl, hb⟩ := hrel
            obtain ⟨hX0, hK0, hG0⟩ := H5.out
            have HB := Hid.mk hb
            have GB := Gro.below hG0.lz hb (fun _ => False)
            have hX := hX0.gro GB (fun h => h) (fun _ _ h => h)
            have hK := hK0.gro GB (fun h => h) (fun _ _ h => h)
            by_cases hlt : t < q
            · obtain ⟨n, hn⟩ : ∃ n, n = (ds.getD t []).length := ⟨_, rfl⟩
              have hn5 : n ≤ 100000 := by rw [hn]; exact HM.out t
              obtain ⟨gL, cL, ui, eL, fL, oL⟩ := hK.at (i := t) (by rw [mmL_len]; exact hlt)
              rw [mmL_get, ← hn, mks_len] at oL
              obtain ⟨ia, ic, rfl, sL, _⟩ := oL.src
              obtain ⟨gG, cG, ug, eG, fG, oG⟩ := hX.at (i := t) (by rw [mtL_len]; exact hlt)
              rw [mtL_get, ← hn, List.length_append, mks_len, tl_len] at oG
              obtain ⟨ag, cg, rfl, sG, hcg⟩ := oG.src
              obtain ⟨gb, gcc, eg, _, _, _⟩ := oG.row (by omega)
              have ea : la = some ⟨gL, 0, none⟩ := by injection eL
              have ed : xa = some ⟨gG, 0, none⟩ := by injection eG
              have ee : ag = some ⟨gb, 0, none⟩ := by injection eg
              subst ea
              subst ed
              subst ee
              have hcgm : cg ≤ 9223372036854775807 := by
                obtain ⟨_, ⟨h0, _⟩ | ⟨g9, cap9, cur9, h9, _, _, _, h10, _, _⟩⟩ := oG.1
                · cases h0
                · injection h9 with q1 q2 q3
                  unfold maxLen at h10
                  omega
              have hdr : Below wr.heap.size wr wr.drew := (Keeps.drew (fun _ => False) wr).below (fun _ h => h.elim) (Nat.le_refl _)
              have hm1 := marked_any ia n ic n t (mks t n) wr.drew (sL.1.later hdr) (Nat.le_refl _) (by omega) (by omega) (fun j hj => mks_get hj)
              have HS2 : Hid (∀ w', Below wr.heap.size wr w' → Calls Try.prog 21 #[.slice (some ⟨gb, 0, none⟩) (n + 700) cg, .int .i64 (n : Int), .int .i64 (t : Int)] w' fun e w2 => e = .returned (.bool true) ∧ Below w'.heap.size w' w2) := fun w' hw => marked_any (some ⟨gb, 0, none⟩) (n + 700) cg n t (mks t n ++ tl t) w' (sG.1.later hw) (by omega) (by omega) (by omega) (fun j hj => by
                rw [← mks_get hj]
                simp [List.getD, List.getElem?_append_left, mks_len, hj])
              have hs5 : Src wr (some ⟨gb, n, none⟩) 700 (tl t) := ⟨tl_len t, fun h => (by cases h), fun x hx i hi => by
                cases hx
                rw [addr_add]
                have := sG.1.at (i := n + i) (by omega)
                rw [addr_add, Nat.zero_add] at this
                rw [this]
                simp [List.getD, List.getElem?_append_right, mks_len]⟩
              have HS5 := Hid.mk hs5
              have HC : Hid (∀ w', Below wr.heap.size wr w' → w'.cell? ⟨gL, t, none⟩ = some (.slice ia n ic) ∧ w'.cell? ⟨gG, t, none⟩ = some (.slice (some ⟨gb, 0, none⟩) (n + 700) cg)) := fun w' hw => ⟨cell_later hw fL, cell_later hw fG⟩
              have HDr := Hid.mk hdr
              have c0 := (HC.out wr (Below.refl _ _)).1
              have hlt' : (t : Int) < (q : Int) := by omega
              have hk0 : (0 : Int) ≤ (t : Int) := by omega
              obtain ⟨nt, hnt⟩ : ∃ nt, nt = n + 700 := ⟨_, rfl⟩
              rw [← hnt] at HS2 HC hcg
              have hn1 : n ≤ nt := by omega
              have hn2 : nt - n = 700 := by omega
              have hn3 : (n : Int) ≤ (nt : Int) := by omega
              have hcn : ¬ cg = n := by omega
              clear hb hX hK hX0 hK0 hG0 GB oL sL oG sG hs5 eL eG eg fL fG hdr hn hnt
              go_wp2
              refine wp_region_held_drew (S := (fun w' => w'.cell? ⟨gL, t, none⟩ = some (.slice ia n ic) ∧ w'.cell? ⟨gG, t, none⟩ = some (.slice (some ⟨gb, 0, none⟩) nt cg))) (by kernel_rfl) (HC.out _ HDr.out) (fun hHeld => ?_)
              refine wpAnyH_take (i := 0) (oi := { dst := some 76, op := Op.move (Operand.tmp 0), type := 35, pos := "outright.go:272", after := #[], guard := none }) (v := .slice (some ⟨gL, 0, none⟩) q lc) rfl (by kernel_rfl) (by kernel_rfl) (by kernel_rfl) (fun _ _ _ h => h) (Or.inl ⟨by rfl, ?_⟩) (by assumption) ?_
              · intro w hSw
                (try dsimp only at hSw)
                go_simp
              try simp only [Act.put, List.setIfInBounds_toArray, List.set_cons_zero, List.set_cons_succ]
              refine wpAnyH_take (i := 1) (oi := { dst := some 77, op := Op.move (Operand.tmp 10), type := 3, pos := "outright.go:272", after := #[], guard := none }) (v := .int .i64 (t : Int)) rfl (by kernel_rfl) (by kernel_rfl) (by kernel_rfl) (fun _ _ _ h => h) (Or.inl ⟨by rfl, ?_⟩) (by assumption) ?_
              · intro w hSw
                (try dsimp only at hSw)
                go_simp
              try simp only [Act.put, List.setIfInBounds_toArray, List.set_cons_zero, List.set_cons_succ]
              refine wpAnyH_take (i := 2) (oi := { dst := some 78, op := Op.indexAddr 35 (Operand.tmp 76) (Operand.tmp 77), type := 0, pos := "outright.go:272", after := #[{ on := 0, ground := Ground.data }, { on := 1, ground := Ground.data }], guard := none }) (v := .pointer (some ⟨gL, t, none⟩)) rfl (by kernel_rfl) (by kernel_rfl) (by kernel_rfl) (fun _ _ _ h => h) (Or.inl ⟨by rfl, ?_⟩) (by assumption) ?_
              · intro w hSw
                (try dsimp only at hSw)
                go_simp
              try simp only [Act.put, List.setIfInBounds_toArray, List.set_cons_zero, List.set_cons_succ]
              refine wpAnyH_take (i := 3) (oi := { dst := some 79, op := Op.load 36 (Operand.tmp 78), type := 36, pos := "outright.go:272", after := #[{ on := 2, ground := Ground.data }], guard := none }) (v := .slice ia n ic) rfl (by kernel_rfl) (by kernel_rfl) (by kernel_rfl) (fun _ _ _ h => h) (Or.inl ⟨by rfl, ?_⟩) (by assumption) ?_
              · intro w hSw
                (try dsimp only at hSw)
                go_simp
              try simp only [Act.put, List.setIfInBounds_toArray, List.set_cons_zero, List.set_cons_succ]
              refine wpAnyH_take (i := 4) (oi := { dst := some 80, op := Op.move (Operand.tmp 11), type := 3, pos := "outright.go:272", after := #[], guard := none }) (v := .int .i64 (n : Int)) rfl (by kernel_rfl) (by kernel_rfl) (by kernel_rfl) (fun _ _ _ h => h) (Or.inl ⟨by rfl, ?_⟩) (by assumption) ?_
              · intro w hSw
                (try dsimp only at hSw)
                go_simp
              try simp only [Act.put, List.setIfInBounds_toArray, List.set_cons_zero, List.set_cons_succ]
              refine wpAnyH_take (i := 5) (oi := { dst := some 81, op := Op.move (Operand.tmp 10), type := 3, pos := "outright.go:272", after := #[], guard := none }) (v := .int .i64 (t : Int)) rfl (by kernel_rfl) (by kernel_rfl) (by kernel_rfl) (fun _ _ _ h => h) (Or.inl ⟨by rfl, ?_⟩) (by assumption) ?_
              · intro w hSw
                (try dsimp only at hSw)
                go_simp
              try simp only [Act.put, List.setIfInBounds_toArray, List.set_cons_zero, List.set_cons_succ]
              refine wpAnyH_ready (rs := [6]) (by kernel_rfl) (by simp) ?_
              refine AllReadyH.cons (o := { dst := some 82, op := Op.call { callee := Callee.value (Operand.func 21), args := #[Operand.tmp 79, Operand.tmp 80, Operand.tmp 81], argTypes := #[36, 3, 3] }, type := 4, pos := "outright.go:272", after := #[{ on := 3, ground := Ground.data }, { on := 4, ground := Ground.data }, { on := 5, ground := Ground.data }], guard := none }) rfl (fun K hK => ?_) AllReadyH.nil
              go_simp
              refine hm1.mono ?_
              rintro e w5 ⟨rfl, hb5⟩
              have hb35 : Below wr.heap.size wr w5 := HDr.out.trans (hb5.mono (Nat.le_refl _))
              have hs2 := HS2.out w5 hb35
              refine hK.out _ _ ?_ (fun hHeld => ?_)
              · exact HC.out _ hb35
              clear hK K
              try simp only [Act.put, List.setIfInBounds_toArray, List.set_cons_zero, List.set_cons_succ]
              refine wpAnyH_take (i := 7) (oi := { dst := some 83, op := Op.unOp UnOp.not 4 (Operand.tmp 82), type := 4, pos := "outright.go:272", after := #[{ on := 6, ground := Ground.data }], guard := none }) (v := .bool false) rfl (by kernel_rfl) (by kernel_rfl) (by kernel_rfl) (fun _ _ _ h => h) (Or.inl ⟨by rfl, ?_⟩) (by assumption) ?_
              · intro w hSw
                (try dsimp only at hSw)
                go_simp
              try simp only [Act.put, List.setIfInBounds_toArray, List.set_cons_zero, List.set_cons_succ]
              refine wpAnyH_take (i := 8) (oi := { dst := some 84, op := Op.move (Operand.tmp 83), type := 4, pos := "outright.go:272", after := #[{ on := 7, ground := Ground.data }, { on := 6, ground := Ground.chain }], guard := none }) (v := .bool false) rfl (by kernel_rfl) (by kernel_rfl) (by kernel_rfl) (fun _ _ _ h => h) (Or.inl ⟨by rfl, ?_⟩) (by assumption) ?_
              · intro w hSw
                (try dsimp only at hSw)
                go_simp
              try simp only [Act.put, List.setIfInBounds_toArray, List.set_cons_zero, List.set_cons_succ]
              refine wpAnyH_take (i := 9) (oi := { dst := some 85, op := Op.move (Operand.tmp 5), type := 35, pos := "outright.go:272", after := #[{ on := 8, ground := Ground.guard }], guard := some (8, false) }) (v := .slice (some ⟨gG, 0, none⟩) q xc) rfl (by kernel_rfl) (by kernel_rfl) (by kernel_rfl) (fun _ _ _ h => h) (Or.inl ⟨by rfl, ?_⟩) (by assumption) ?_
              · intro w hSw
                (try dsimp only at hSw)
                go_simp
              try simp only [Act.put, List.setIfInBounds_toArray, List.set_cons_zero, List.set_cons_succ]
              refine wpAnyH_take (i := 10) (oi := { dst := some 86, op := Op.move (Operand.tmp 10), type := 3, pos := "outright.go:272", after := #[{ on := 8, ground := Ground.guard }], guard := some (8, false) }) (v := .int .i64 (t : Int)) rfl (by kernel_rfl) (by kernel_rfl) (by kernel_rfl) (fun _ _ _ h => h) (Or.inl ⟨by rfl, ?_⟩) (by assumption) ?_
              · intro w hSw
                (try dsimp only at hSw)
                go_simp
              try simp only [Act.put, List.setIfInBounds_toArray, List.set_cons_zero, List.set_cons_succ]
              refine wpAnyH_take (i := 11) (oi := { dst := some 87, op := Op.indexAddr 35 (Operand.tmp 85) (Operand.tmp 86), type := 0, pos := "outright.go:272", after := #[{ on := 9, ground := Ground.data }, { on := 10, ground := Ground.data }, { on := 8, ground := Ground.guard }], guard := some (8, false) }) (v := .pointer (some ⟨gG, t, none⟩)) rfl (by kernel_rfl) (by kernel_rfl) (by kernel_rfl) (fun _ _ _ h => h) (Or.inl ⟨by rfl, ?_⟩) (by assumption) ?_
              · intro w hSw
                (try dsimp only at hSw)
                go_simp
              try simp only [Act.put, List.setIfInBounds_toArray, List.set_cons_zero, List.set_cons_succ]
              refine wpAnyH_take (i := 12) (oi := { dst := some 88, op := Op.load 36 (Operand.tmp 87), type := 36, pos := "outright.go:272", after := #[{ on := 11, ground := Ground.data }, { on := 8, ground := Ground.guard }], guard := some (8, false) }) (v := .slice (some ⟨gb, 0, none⟩) nt cg) rfl (by kernel_rfl) (by kernel_rfl) (by kernel_rfl) (fun _ _ _ h => h) (Or.inl ⟨by rfl, ?_⟩) (by assumption) ?_
              · intro w hSw
                (try dsimp only at hSw)
                go_simp
              try simp only [Act.put, List.setIfInBounds_toArray, List.set_cons_zero, List.set_cons_succ]
              refine wpAnyH_take (i := 13) (oi := { dst := some 89, op := Op.move (Operand.tmp 11), type := 3, pos := "outright.go:272", after := #[{ on := 8, ground := Ground.guard }], guard := some (8, false) }) (v := .int .i64 (n : Int)) rfl (by kernel_rfl) (by kernel_rfl) (by kernel_rfl) (fun _ _ _ h => h) (Or.inl ⟨by rfl, ?_⟩) (by assumption) ?_
              · intro w hSw
                (try dsimp only at hSw)
                go_simp
              try simp only [Act.put, List.setIfInBounds_toArray, List.set_cons_zero, List.set_cons_succ]
              refine wpAnyH_take (i := 14) (oi := { dst := some 90, op := Op.move (Operand.tmp 10), type := 3, pos := "outright.go:272", after := #[{ on := 8, ground := Ground.guard }], guard := some (8, false) }) (v := .int .i64 (t : Int)) rfl (by kernel_rfl) (by kernel_rfl) (by kernel_rfl) (fun _ _ _ h => h) (Or.inl ⟨by rfl, ?_⟩) (by assumption) ?_
              · intro w hSw
                (try dsimp only at hSw)
                go_simp
              try simp only [Act.put, List.setIfInBounds_toArray, List.set_cons_zero, List.set_cons_succ]
              refine wpAnyH_ready (rs := [15]) (by kernel_rfl) (by simp) ?_
              refine AllReadyH.cons (o := { dst := some 91, op := Op.call { callee := Callee.value (Operand.func 21), args := #[Operand.tmp 88, Operand.tmp 89, Operand.tmp 90], argTypes := #[36, 3, 3] }, type := 4, pos := "outright.go:272", after := #[{ on := 12, ground := Ground.data }, { on := 13, ground := Ground.data }, { on := 14, ground := Ground.data }, { on := 8, ground := Ground.chain }, { on := 8, ground := Ground.guard }], guard := some (8, false) }) rfl (fun K hK => ?_) AllReadyH.nil
              go_simp
              refine hs2.mono ?_
              rintro e w6 ⟨rfl, hb6⟩
              have hb36 : Below wr.heap.size wr w6 := hb35.trans (hb6.mono hb35.size)
              have htl := tail_any t (by omega) w6
              refine hK.out _ _ ?_ (fun hHeld => ?_)
              · exact HC.out _ hb36
              clear hK K
              try simp only [Act.put, List.setIfInBounds_toArray, List.set_cons_zero, List.set_cons_succ]
              refine wpAnyH_take (i := 16) (oi := { dst := some 92, op := Op.unOp UnOp.not 4 (Operand.tmp 91), type := 4, pos := "outright.go:272", after := #[{ on := 15, ground := Ground.data }, { on := 8, ground := Ground.guard }], guard := some (8, false) }) (v := .bool false) rfl (by kernel_rfl) (by kernel_rfl) (by kernel_rfl) (fun _ _ _ h => h) (Or.inl ⟨by rfl, ?_⟩) (by assumption) ?_
              · intro w hSw
                (try dsimp only at hSw)
                go_simp
              try simp only [Act.put, List.setIfInBounds_toArray, List.set_cons_zero, List.set_cons_succ]
              refine wpAnyH_take (i := 17) (oi := { dst := some 93, op := Op.pick (Operand.tmp 84) (Operand.const (Value.bool true)) (Operand.tmp 92), type := 4, pos := "outright.go:272", after := #[{ on := 8, ground := Ground.data }, { on := 16, ground := Ground.data }], guard := none }) (v := .bool false) rfl (by kernel_rfl) (by kernel_rfl) (by kernel_rfl) (fun _ _ _ h => h) (Or.inl ⟨by rfl, ?_⟩) (by assumption) ?_
              · intro w hSw
                (try dsimp only at hSw)
                go_simp
              try simp only [Act.put, List.setIfInBounds_toArray, List.set_cons_zero, List.set_cons_succ]
              refine wpAnyH_take (i := 18) (oi := { dst := some 94, op := Op.move (Operand.tmp 93), type := 4, pos := "outright.go:272", after := #[{ on := 17, ground := Ground.data }, { on := 15, ground := Ground.chain }], guard := none }) (v := .bool false) rfl (by kernel_rfl) (by kernel_rfl) (by kernel_rfl) (fun _ _ _ h => h) (Or.inl ⟨by rfl, ?_⟩) (by assumption) ?_
              · intro w hSw
                (try dsimp only at hSw)
                go_simp
              try simp only [Act.put, List.setIfInBounds_toArray, List.set_cons_zero, List.set_cons_succ]
              refine wpAnyH_take (i := 19) (oi := { dst := some 95, op := Op.move (Operand.tmp 5), type := 35, pos := "outright.go:272", after := #[{ on := 18, ground := Ground.guard }], guard := some (18, false) }) (v := .slice (some ⟨gG, 0, none⟩) q xc) rfl (by kernel_rfl) (by kernel_rfl) (by kernel_rfl) (fun _ _ _ h => h) (Or.inl ⟨by rfl, ?_⟩) (by assumption) ?_
              · intro w hSw
                (try dsimp only at hSw)
                go_simp
              try simp only [Act.put, List.setIfInBounds_toArray, List.set_cons_zero, List.set_cons_succ]
              refine wpAnyH_take (i := 20) (oi := { dst := some 96, op := Op.move (Operand.tmp 10), type := 3, pos := "outright.go:272", after := #[{ on := 18, ground := Ground.guard }], guard := some (18, false) }) (v := .int .i64 (t : Int)) rfl (by kernel_rfl) (by kernel_rfl) (by kernel_rfl) (fun _ _ _ h => h) (Or.inl ⟨by rfl, ?_⟩) (by assumption) ?_
              · intro w hSw
                (try dsimp only at hSw)
                go_simp
              try simp only [Act.put, List.setIfInBounds_toArray, List.set_cons_zero, List.set_cons_succ]
              refine wpAnyH_take (i := 21) (oi := { dst := some 97, op := Op.indexAddr 35 (Operand.tmp 95) (Operand.tmp 96), type := 0, pos := "outright.go:272", after := #[{ on := 19, ground := Ground.data }, { on := 20, ground := Ground.data }, { on := 18, ground := Ground.guard }], guard := some (18, false) }) (v := .pointer (some ⟨gG, t, none⟩)) rfl (by kernel_rfl) (by kernel_rfl) (by kernel_rfl) (fun _ _ _ h => h) (Or.inl ⟨by rfl, ?_⟩) (by assumption) ?_
              · intro w hSw
                (try dsimp only at hSw)
                go_simp
              try simp only [Act.put, List.setIfInBounds_toArray, List.set_cons_zero, List.set_cons_succ]
              refine wpAnyH_take (i := 22) (oi := { dst := some 98, op := Op.load 36 (Operand.tmp 97), type := 36, pos := "outright.go:272", after := #[{ on := 21, ground := Ground.data }, { on := 18, ground := Ground.guard }], guard := some (18, false) }) (v := .slice (some ⟨gb, 0, none⟩) nt cg) rfl (by kernel_rfl) (by kernel_rfl) (by kernel_rfl) (fun _ _ _ h => h) (Or.inl ⟨by rfl, ?_⟩) (by assumption) ?_
              · intro w hSw
                (try dsimp only at hSw)
                go_simp
              try simp only [Act.put, List.setIfInBounds_toArray, List.set_cons_zero, List.set_cons_succ]
              refine wpAnyH_take (i := 23) (oi := { dst := some 99, op := Op.move (Operand.tmp 11), type := 3, pos := "outright.go:272", after := #[{ on := 18, ground := Ground.guard }], guard := some (18, false) }) (v := .int .i64 (n : Int)) rfl (by kernel_rfl) (by kernel_rfl) (by kernel_rfl) (fun _ _ _ h => h) (Or.inl ⟨by rfl, ?_⟩) (by assumption) ?_
              · intro w hSw
                (try dsimp only at hSw)
                go_simp
              try simp only [Act.put, List.setIfInBounds_toArray, List.set_cons_zero, List.set_cons_succ]
              refine wpAnyH_take (i := 24) (oi := { dst := some 100, op := Op.slice 36 (Operand.tmp 98) (some (Operand.tmp 99)) none none, type := 36, pos := "outright.go:272", after := #[{ on := 22, ground := Ground.data }, { on := 23, ground := Ground.data }, { on := 18, ground := Ground.guard }], guard := some (18, false) }) (v := .slice (some ⟨gb, n, none⟩) 700 (cg - n)) rfl (by kernel_rfl) (by kernel_rfl) (by kernel_rfl) (fun _ _ _ h => h) (Or.inl ⟨by rfl, ?_⟩) (by assumption) ?_
              · intro w hSw
                (try dsimp only at hSw)
                go_simp
              try simp only [Act.put, List.setIfInBounds_toArray, List.set_cons_zero, List.set_cons_succ]
              refine wpAnyH_take (i := 25) (oi := { dst := some 101, op := Op.move (Operand.tmp 10), type := 3, pos := "outright.go:272", after := #[{ on := 18, ground := Ground.guard }], guard := some (18, false) }) (v := .int .i64 (t : Int)) rfl (by kernel_rfl) (by kernel_rfl) (by kernel_rfl) (fun _ _ _ h => h) (Or.inl ⟨by rfl, ?_⟩) (by assumption) ?_
              · intro w hSw
                (try dsimp only at hSw)
                go_simp
              try simp only [Act.put, List.setIfInBounds_toArray, List.set_cons_zero, List.set_cons_succ]
              refine wpAnyH_ready (rs := [26]) (by kernel_rfl) (by simp) ?_
              refine AllReadyH.cons (o := { dst := some 102, op := Op.call { callee := Callee.value (Operand.func 20), args := #[Operand.tmp 101], argTypes := #[3] }, type := 36, pos := "outright.go:272", after := #[{ on := 25, ground := Ground.data }, { on := 18, ground := Ground.chain }, { on := 18, ground := Ground.guard }], guard := some (18, false) }) rfl (fun K hK => ?_) AllReadyH.nil
              go_simp
              refine htl.mono ?_
              rintro e w7 ⟨gt, ct, rfl, hge, hsr, hb7⟩
              have hb37 : Below wr.heap.size wr w7 := hb36.trans (hb7.mono hb36.size)
              have hsm := same_any (some ⟨gb, n, none⟩) (some ⟨gt, 0, none⟩) 700 (cg - n) ct (tl t) w7 (by omega) (HS5.out.later hb37) hsr
              refine hK.out _ _ ?_ (fun hHeld => ?_)
              · exact HC.out _ hb37
              clear hK K
              try simp only [Act.put, List.setIfInBounds_toArray, List.set_cons_zero, List.set_cons_succ]
              refine wpAnyH_ready (rs := [27]) (by kernel_rfl) (by simp) ?_
              refine AllReadyH.cons (o := { dst := some 103, op := Op.call { callee := Callee.value (Operand.func 9), args := #[Operand.tmp 100, Operand.tmp 102], argTypes := #[36, 36] }, type := 4, pos := "outright.go:272", after := #[{ on := 24, ground := Ground.data }, { on := 26, ground := Ground.data }, { on := 26, ground := Ground.chain }, { on := 18, ground := Ground.guard }], guard := some (18, false) }) rfl (fun K hK => ?_) AllReadyH.nil
              go_simp
              refine hsm.mono ?_
              rintro e w8 ⟨rfl, hb8⟩
              have hb38 : Below wr.heap.size wr w8 := hb37.trans (hb8.mono hb37.size)
              refine hK.out _ _ ?_ (fun hHeld => ?_)
              · exact HC.out _ hb38
              clear hK K
              try simp only [Act.put, List.setIfInBounds_toArray, List.set_cons_zero, List.set_cons_succ]
              refine wpAnyH_take (i := 28) (oi := { dst := some 104, op := Op.unOp UnOp.not 4 (Operand.tmp 103), type := 4, pos := "outright.go:272", after := #[{ on := 27, ground := Ground.data }, { on := 18, ground := Ground.guard }], guard := some (18, false) }) (v := .bool false) rfl (by kernel_rfl) (by kernel_rfl) (by kernel_rfl) (fun _ _ _ h => h) (Or.inl ⟨by rfl, ?_⟩) (by assumption) ?_
              · intro w hSw
                (try dsimp only at hSw)
                go_simp
              try simp only [Act.put, List.setIfInBounds_toArray, List.set_cons_zero, List.set_cons_succ]
              refine wpAnyH_take (i := 29) (oi := { dst := some 105, op := Op.pick (Operand.tmp 94) (Operand.const (Value.bool true)) (Operand.tmp 104), type := 4, pos := "outright.go:272", after := #[{ on := 18, ground := Ground.data }, { on := 28, ground := Ground.data }], guard := none }) (v := .bool false) rfl (by kernel_rfl) (by kernel_rfl) (by kernel_rfl) (fun _ _ _ h => h) (Or.inl ⟨by rfl, ?_⟩) (by assumption) ?_
              · intro w hSw
                (try dsimp only at hSw)
                go_simp
              try simp only [Act.put, List.setIfInBounds_toArray, List.set_cons_zero, List.set_cons_succ]
              refine wpAnyH_done (by kernel_rfl) ?_ _
              have HF := Hid.mk (HB.out.trans (hb38.mono HB.out.size))
              clear hHeld hb5 hb35 hb6 hb36 hb7 hb37 hb8 hb38 hm1 hs2 htl hsm hsr hge HC HDr c0 HS2 HS5 HB
              go_wp2
              go_roundw
              case rel => exact ⟨t + 1, by omega, by go_num, HF.out⟩
              case measure => simp [intOf]; omega
            · obtain rfl : t = q := by omega
              have hlt' : ¬ (t : Int) < (t : Int) := by omega
              have HR := Hid.mk (hG0.join GB (Z := isK) (fun _ h => h) (fun _ h => h.elim))
              clear hb hX hK hX0 hK0 hG0 GB HB
              go_wp2
              go_ret
              exact ⟨rfl, _, HR.out⟩
end Go.Proofs.Ytcpmapknmkholaa
end

section
namespace Go.Proofs.Ytcpmapknmkholaa
open Go.RowKit

theorem zero_cells (m : Nat) : Builtin.zeroCells (Value.int .u8 0).cells m = (bs (List.replicate m 0)).toArray := by
  apply Array.ext'
  apply List.ext_getElem
  · simp [Builtin.zeroCells, bs, Value.cells]
  · intro i h1 h2
    simp [Builtin.zeroCells, bs, Nat.mod_one, Value.cells]

theorem und_int (w : World) : (underlying 3).run Try.prog w = .ok (.int .i64) w := run_underlying Try.underlying3 w
theorem und_row (w : World) : (underlying 36).run Try.prog w = .ok (.slice 5) w := run_underlying Try.underlying36 w

/-- append(b, make([]byte, m)...): the row with m zeros behind it. -/
theorem append_zeros (w : World) (base : Nat) (ty : TypeId) (v : Value) (n : Nat) (l : List Int) (m : Nat) (hown : w.ownsRow base 5 1 v n (bs l)) (hm : n + m ≤ 1000000) (hbase : base ≤ w.heap.size) (hpos : 0 < n + m) :
    ∃ g c w', (Builtin.append_ #[36, 3] ty #[v, .int .i64 (m : Int)]).run Try.prog w = .ok (.slice (some ⟨g, 0, none⟩) (n + m) c) w' ∧
      w'.ownsRow base 5 1 (.slice (some ⟨g, 0, none⟩) (n + m) c) (n + m) (bs (l ++ List.replicate m 0)) ∧ w.grownBy w' v.ownBlock := by
  obtain ⟨i, hi, hz0, hz1, hz2⟩ := info_parts infoU8
  have hll : (bs l).length = n := by simpa using hown.1
  have hll' : l.length = n := by simpa [bs] using hll
  have hwr : IntKind.i64.wrap (m : Int) = (m : Int) := by rw [IntKind.wrap_i64]; omega
  have h0 : ¬ (m : Int) < 0 := by omega
  have h48 : ¬ (281474976710656 < (m : Int)) := by omega
  have hai : ∀ w, (asInt (.int .i64 (m : Int))).run Try.prog w = .ok (m : Int) w := fun _ => rfl
  have hbl : (bs (l ++ List.replicate m 0)) = bs l ++ bs (List.replicate m 0) := by simp [bs]
  have fresh : ∀ (old : Nat) (row : Option Nat),
      (w.drew.alloc (.cells ((bs l).toArray ++ (bs (List.replicate m 0)).toArray ++ Builtin.zeroCells (Value.int .u8 0).cells (grownCap w (n + m) old 5 - (n + m))) 5)).ownsRow base 5 1
        (.slice (some ⟨w.heap.size, 0, none⟩) (n + m) (grownCap w (n + m) old 5)) (n + m) (bs (l ++ List.replicate m 0)) ∧
      w.grownBy (w.drew.alloc (.cells ((bs l).toArray ++ (bs (List.replicate m 0)).toArray ++ Builtin.zeroCells (Value.int .u8 0).cells (grownCap w (n + m) old 5 - (n + m))) 5)) row := by
    intro old row
    have hge := grownCap_ge w (n + m) old 5
    have hcm := grownCap_le_maxLen w (n + m) old 5 (by unfold maxLen; omega)
    refine ⟨⟨by simp [bs, hll'], .inr ⟨w.heap.size, _, _, rfl, hbase, heap_alloc_new w.drew _, hge, hcm, ?_, ?_⟩⟩, ⟨rfl, rfl, rfl, by simp, fun k hk _ => heap_alloc_old w.drew _ hk⟩⟩
    · rw [zero_cells]; simp [bs, hll']; omega
    · rw [hbl]
      simp only [Array.toList_append, Nat.mul_one]
      exact List.take_left' (by simp [bs, hll'])
  rcases hown.2 with ⟨rfl, rfl⟩ | ⟨g, cap, cur, rfl, hbg, hg, hnc, hcm, hcs, htake⟩
  · have hl0 : l = [] := List.eq_nil_of_length_eq_zero hll'
    subst hl0
    have hm0 : m ≠ 0 := by omega
    have h1 : ¬ (281474976710656 < Builtin.nextslicecap m 0) := by rw [nextslicecap_zero (by omega)]; omega
    obtain ⟨f1, f2⟩ := fresh 0 (Value.ownBlock (.slice none 0 0))
    simp only [Nat.zero_add] at f1 f2 ⊢
    refine ⟨w.heap.size, _, _, ?_, f1, f2⟩
    have h63 : ¬ 9223372036854775807 < (m : Int) := by omega
    simp [Builtin.append_, hai, sizeOf, typeInfo, zeroValue, hi, hz0, hz1, hz2, hwr, h0, h48, hm0, h1, h63, Question.forced, run_firstCells_none, newRow, grownCap, zero_cells]
  · have hcs' : cur.size = cap := by simpa using hcs
    have ht' : cur.toList.take n = bs l := by simpa using htake
    by_cases hm0 : m = 0
    · subst hm0
      have hai0 : ∀ w, (asInt (.int .i64 0)).run Try.prog w = .ok 0 w := fun _ => rfl
      have hwr0 : IntKind.i64.wrap 0 = 0 := by decide
      have hst : (storeCells ⟨g, n, none⟩ []).run Try.prog w = .ok () w := rfl
      refine ⟨g, cap, w, ?_, by simpa using hown, ⟨rfl, rfl, rfl, Nat.le_refl _, fun _ _ _ => rfl⟩⟩
      simp [Builtin.append_, hai0, sizeOf, typeInfo, hi, hz1, hz2, hwr0, hnc, Addr.add_lit, hst]
    by_cases hroom : n + m ≤ cap
    · refine ⟨g, cap, w.setRow g (cur.toList.take n ++ bs (List.replicate m 0) ++ cur.toList.drop (n + m)).toArray, ?_, ⟨by simp [bs, hll'], .inr ⟨g, cap, _, rfl, hbg, setRow_heap w g cur _ 5 _ hg, hroom, hcm, ?_, ?_⟩⟩, ⟨rfl, rfl, rfl, by simp, fun k _ hk => setRow_other w g k _ (fun e => hk (by simp [Value.ownBlock, e]))⟩⟩
      · have hst := run_storeCells_at Try.prog g n 5 (bs (List.replicate m 0)) 0 cur w hg (by simp [bs]; omega) (by intro u hu; obtain ⟨x, _, rfl⟩ := List.mem_map.1 hu; rfl)
        simp only [Nat.add_zero] at hst
        have hlr : (bs (List.replicate m 0)).length = m := by simp [bs]
        rw [hlr] at hst
        have hzt : (Builtin.zeroCells (Value.int .u8 0).cells m).toList = bs (List.replicate m 0) := by rw [zero_cells]
        simp [Builtin.append_, hai, sizeOf, typeInfo, zeroValue, hi, hz0, hz1, hz2, hwr, h0, h48, hm0, hroom, Addr.add_lit]
        rw [hzt, hst]
        simp [bs]
      · simp [bs]; omega
      · rw [ht', hbl]
        exact List.take_left' (by simp [bs, hll'])
    · have hcn : cap < n + m := by omega
      have holds : ∀ j u, (bs l)[j]? = some u → w.cell? ((⟨g, 0, none⟩ : Addr).add j) = some u := hown.cells (g := g) rfl
      have hfo := run_firstCells_some (P := Try.prog) w.drew 1 n ⟨g, 0, none⟩ n cap (bs l) (by omega) (by simpa using holds)
      have h1 : ¬ (281474976710656 < Builtin.nextslicecap (n + m) cap) := by have := growslice_fits (need := n + m) (old := cap) (bytes := 1) (by omega) (by omega); omega
      obtain ⟨f1, f2⟩ := fresh cap (Value.ownBlock (.slice (some ⟨g, 0, none⟩) n cap))
      refine ⟨w.heap.size, _, _, ?_, f1, f2⟩
      have h63 : ¬ 9223372036854775807 < (n : Int) + (m : Int) := by omega
      simp [Builtin.append_, hai, sizeOf, typeInfo, zeroValue, hi, hz0, hz1, hz2, hwr, h0, h48, hm0, hroom, h1, h63, Question.forced, hfo, newRow, grownCap, zero_cells]
end Go.Proofs.Ytcpmapknmkholaa
end
