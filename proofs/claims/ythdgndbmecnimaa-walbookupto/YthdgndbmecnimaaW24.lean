import Derived.Test.YthdgndbmecnimaaW23
section
namespace Go.Proofs.Ythdgndbmecnimaa
open Go.RowKit Go.Maps

set_option maxRecDepth 20000 in
set_option maxHeartbeats 16000000 in
/-- What is kept is as it was; then it is all written over and appended to. -/
theorem grown_any {w : World} {lab : Nat → Nat} {p : Nat} {vL vW : Value} {ds : List (List Int)} (h : Kq w lab p vL vW ds ds) (hz : LZ lab w) (hm : ∀ d ∈ ds, d.length ≤ 100000000) (hN : ds.length ≤ 7000000000000) :
    Calls Try.prog 20 #[.pointer (some ⟨p, 0, none⟩)] w fun e w' => e = .returned (.bool true) ∧ ∃ lab', Gro lab lab' w w' isK := by
  obtain ⟨la, lc, hvL⟩ := h.ls.form
  obtain ⟨wa, wc, hvW⟩ := h.wt.form
  subst hvL
  subst hvW
  have H := Hid.mk (And.intro h (And.intro hz hm))
  clear h hz hm
  go_enter Try.func20, Try.ntmps20
  go_wp2
  go_loopw [3] (fun i wr => ∃ k : Nat, k ≤ ds.length ∧ i = .int .i64 k ∧ Below w.heap.size w wr) (fun i _ => ds.length - (intOf i).toNat)
  case atStart => exact ⟨0, Nat.zero_le _, rfl, Below.refl _ _⟩
  case round =>
    obtain ⟨k, hk, rfl, hb⟩ := hrel
    have HB := Hid.mk hb
    have hq := H.out.1.later H.out.2.1 hb
    by_cases hlt : k < ds.length
    · obtain ⟨gL, cL, u, eL, fL, oL⟩ := hq.ls.at hlt
      obtain ⟨gW, cW, b, cb, eW, fW, sW⟩ := hq.wt.at hlt
      obtain ⟨a, c, rfl, sL, hcl⟩ := oL.src
      have ea : la = some ⟨gL, 0, none⟩ := by injection eL
      have eb : wa = some ⟨gW, 0, none⟩ := by injection eW
      subst ea
      subst eb
      have hdl := H.out.2.2 _ (List.getElem_mem hlt)
      have c0 : wr.cell? ⟨p, 0, none⟩ = some (.slice (some ⟨gL, 0, none⟩) ds.length lc) := cell_of_block hq.box (j := 0) rfl
      have c1 : wr.cell? ⟨p, 1, none⟩ = some (.slice (some ⟨gW, 0, none⟩) ds.length wc) := cell_of_block hq.box (j := 1) rfl
      have hdr : Below wr.heap.size wr wr.drew := (Keeps.drew (fun _ => False) wr).below (fun _ h => h.elim) (Nat.le_refl _)
      have hs1 := same_any a b _ c cb _ wr.drew (by omega) (sL.1.later hdr) (sW.1.later hdr)
      obtain ⟨n, hn⟩ : ∃ n, n = (ds[k]).length := ⟨_, rfl⟩
      rw [← hn] at hs1 fL fW
      obtain ⟨N, hNN⟩ : ∃ N, N = ds.length := ⟨_, rfl⟩
      have HN := Hid.mk hNN
      rw [← hNN] at c0 c1
      have HC : Hid (∀ w', Below wr.heap.size wr w' → w'.cell? ⟨p, 0, none⟩ = some (.slice (some ⟨gL, 0, none⟩) N lc) ∧ w'.cell? ⟨gL, k, none⟩ = some (.slice a n c) ∧ w'.cell? ⟨p, 1, none⟩ = some (.slice (some ⟨gW, 0, none⟩) N wc) ∧ w'.cell? ⟨gW, k, none⟩ = some (.slice b n cb)) := fun w' hw => ⟨cell_later hw c0, cell_later hw fL, cell_later hw c1, cell_later hw fW⟩
      have HDr := Hid.mk hdr
      have hlt' : (k : Int) < (N : Int) := by omega
      have hlt2 : k < N := by omega
      have hk0 : (0 : Int) ≤ (k : Int) := by omega
      have hkk : k + 1 < 9223372036854775807 := by omega
      rw [← hNN]
      clear hb hq oL sL sW eL eW fL fW c1 hn hdl hdr hNN hk hcl hlt
      go_wp2
      refine wp_region_held_drew (S := (fun w' => w'.cell? ⟨p, 0, none⟩ = some (.slice (some ⟨gL, 0, none⟩) N lc) ∧ w'.cell? ⟨gL, k, none⟩ = some (.slice a n c) ∧ w'.cell? ⟨p, 1, none⟩ = some (.slice (some ⟨gW, 0, none⟩) N wc) ∧ w'.cell? ⟨gW, k, none⟩ = some (.slice b n cb))) (by kernel_rfl) (HC.out _ HDr.out) (fun hHeld => ?_)
      refine wpAnyH_take (i := 0) (oi := { dst := some 23, op := Op.move (Operand.tmp 0), type := 33, pos := "outright.go:457", after := #[], guard := none }) (v := .pointer (some ⟨p, 0, none⟩)) rfl (by kernel_rfl) (by kernel_rfl) (by kernel_rfl) (fun _ _ _ h => h) (Or.inl ⟨by rfl, ?_⟩) (by assumption) ?_
      · intro w hSw
        (try dsimp only at hSw)
        go_simp
      try simp only [Act.put, List.setIfInBounds_toArray, List.set_cons_zero, List.set_cons_succ]
      refine wpAnyH_take (i := 1) (oi := { dst := some 24, op := Op.nilCheck (Operand.tmp 23), type := 0, pos := "outright.go:457", after := #[{ on := 0, ground := Ground.data }], guard := none }) (v := .pointer (some ⟨p, 0, none⟩)) rfl (by kernel_rfl) (by kernel_rfl) (by kernel_rfl) (fun _ _ _ h => h) (Or.inl ⟨by rfl, ?_⟩) (by assumption) ?_
      · intro w hSw
        (try dsimp only at hSw)
        go_simp
      try simp only [Act.put, List.setIfInBounds_toArray, List.set_cons_zero, List.set_cons_succ]
      refine wpAnyH_take (i := 2) (oi := { dst := some 25, op := Op.fieldAddr 35 (Operand.tmp 24) 0, type := 0, pos := "outright.go:457", after := #[{ on := 1, ground := Ground.data }], guard := none }) (v := .pointer (some ⟨p, 0, none⟩)) rfl (by kernel_rfl) (by kernel_rfl) (by kernel_rfl) (fun _ _ _ h => h) (Or.inl ⟨by rfl, ?_⟩) (by assumption) ?_
      · intro w hSw
        (try dsimp only at hSw)
        go_simp
      try simp only [Act.put, List.setIfInBounds_toArray, List.set_cons_zero, List.set_cons_succ]
      refine wpAnyH_take (i := 3) (oi := { dst := some 26, op := Op.load 22 (Operand.tmp 25), type := 22, pos := "outright.go:457", after := #[{ on := 2, ground := Ground.data }], guard := none }) (v := .slice (some ⟨gL, 0, none⟩) N lc) rfl (by kernel_rfl) (by kernel_rfl) (by kernel_rfl) (fun _ _ _ h => h) (Or.inl ⟨by rfl, ?_⟩) (by assumption) ?_
      · intro w hSw
        (try dsimp only at hSw)
        go_simp
      try simp only [Act.put, List.setIfInBounds_toArray, List.set_cons_zero, List.set_cons_succ]
      refine wpAnyH_take (i := 4) (oi := { dst := some 27, op := Op.move (Operand.tmp 3), type := 3, pos := "outright.go:457", after := #[], guard := none }) (v := .int .i64 (k : Int)) rfl (by kernel_rfl) (by kernel_rfl) (by kernel_rfl) (fun _ _ _ h => h) (Or.inl ⟨by rfl, ?_⟩) (by assumption) ?_
      · intro w hSw
        (try dsimp only at hSw)
        go_simp
      try simp only [Act.put, List.setIfInBounds_toArray, List.set_cons_zero, List.set_cons_succ]
      refine wpAnyH_take (i := 5) (oi := { dst := some 28, op := Op.indexAddr 22 (Operand.tmp 26) (Operand.tmp 27), type := 0, pos := "outright.go:457", after := #[{ on := 3, ground := Ground.data }, { on := 4, ground := Ground.data }], guard := none }) (v := .pointer (some ⟨gL, k, none⟩)) rfl (by kernel_rfl) (by kernel_rfl) (by kernel_rfl) (fun _ _ _ h => h) (Or.inl ⟨by rfl, ?_⟩) (by assumption) ?_
      · intro w hSw
        (try dsimp only at hSw)
        go_simp
      try simp only [Act.put, List.setIfInBounds_toArray, List.set_cons_zero, List.set_cons_succ]
      refine wpAnyH_take (i := 6) (oi := { dst := some 29, op := Op.load 27 (Operand.tmp 28), type := 27, pos := "outright.go:457", after := #[{ on := 5, ground := Ground.data }], guard := none }) (v := .slice a n c) rfl (by kernel_rfl) (by kernel_rfl) (by kernel_rfl) (fun _ _ _ h => h) (Or.inl ⟨by rfl, ?_⟩) (by assumption) ?_
      · intro w hSw
        (try dsimp only at hSw)
        go_simp
      try simp only [Act.put, List.setIfInBounds_toArray, List.set_cons_zero, List.set_cons_succ]
      refine wpAnyH_take (i := 7) (oi := { dst := some 30, op := Op.move (Operand.tmp 0), type := 33, pos := "outright.go:457", after := #[], guard := none }) (v := .pointer (some ⟨p, 0, none⟩)) rfl (by kernel_rfl) (by kernel_rfl) (by kernel_rfl) (fun _ _ _ h => h) (Or.inl ⟨by rfl, ?_⟩) (by assumption) ?_
      · intro w hSw
        (try dsimp only at hSw)
        go_simp
      try simp only [Act.put, List.setIfInBounds_toArray, List.set_cons_zero, List.set_cons_succ]
      refine wpAnyH_take (i := 8) (oi := { dst := some 31, op := Op.nilCheck (Operand.tmp 30), type := 0, pos := "outright.go:457", after := #[{ on := 7, ground := Ground.data }], guard := none }) (v := .pointer (some ⟨p, 0, none⟩)) rfl (by kernel_rfl) (by kernel_rfl) (by kernel_rfl) (fun _ _ _ h => h) (Or.inl ⟨by rfl, ?_⟩) (by assumption) ?_
      · intro w hSw
        (try dsimp only at hSw)
        go_simp
      try simp only [Act.put, List.setIfInBounds_toArray, List.set_cons_zero, List.set_cons_succ]
      refine wpAnyH_take (i := 9) (oi := { dst := some 32, op := Op.fieldAddr 35 (Operand.tmp 31) 1, type := 0, pos := "outright.go:457", after := #[{ on := 8, ground := Ground.data }], guard := none }) (v := .pointer (some ⟨p, 1, none⟩)) rfl (by kernel_rfl) (by kernel_rfl) (by kernel_rfl) (fun _ _ _ h => h) (Or.inl ⟨by rfl, ?_⟩) (by assumption) ?_
      · intro w hSw
        (try dsimp only at hSw)
        go_simp
      try simp only [Act.put, List.setIfInBounds_toArray, List.set_cons_zero, List.set_cons_succ]
      refine wpAnyH_take (i := 10) (oi := { dst := some 33, op := Op.load 22 (Operand.tmp 32), type := 22, pos := "outright.go:457", after := #[{ on := 9, ground := Ground.data }], guard := none }) (v := .slice (some ⟨gW, 0, none⟩) N wc) rfl (by kernel_rfl) (by kernel_rfl) (by kernel_rfl) (fun _ _ _ h => h) (Or.inl ⟨by rfl, ?_⟩) (by assumption) ?_
      · intro w hSw
        (try dsimp only at hSw)
        go_simp
      try simp only [Act.put, List.setIfInBounds_toArray, List.set_cons_zero, List.set_cons_succ]
      refine wpAnyH_take (i := 11) (oi := { dst := some 34, op := Op.move (Operand.tmp 3), type := 3, pos := "outright.go:457", after := #[], guard := none }) (v := .int .i64 (k : Int)) rfl (by kernel_rfl) (by kernel_rfl) (by kernel_rfl) (fun _ _ _ h => h) (Or.inl ⟨by rfl, ?_⟩) (by assumption) ?_
      · intro w hSw
        (try dsimp only at hSw)
        go_simp
      try simp only [Act.put, List.setIfInBounds_toArray, List.set_cons_zero, List.set_cons_succ]
      refine wpAnyH_take (i := 12) (oi := { dst := some 35, op := Op.indexAddr 22 (Operand.tmp 33) (Operand.tmp 34), type := 0, pos := "outright.go:457", after := #[{ on := 10, ground := Ground.data }, { on := 11, ground := Ground.data }], guard := none }) (v := .pointer (some ⟨gW, k, none⟩)) rfl (by kernel_rfl) (by kernel_rfl) (by kernel_rfl) (fun _ _ _ h => h) (Or.inl ⟨by rfl, ?_⟩) (by assumption) ?_
      · intro w hSw
        (try dsimp only at hSw)
        go_simp
      try simp only [Act.put, List.setIfInBounds_toArray, List.set_cons_zero, List.set_cons_succ]
      refine wpAnyH_take (i := 13) (oi := { dst := some 36, op := Op.load 27 (Operand.tmp 35), type := 27, pos := "outright.go:457", after := #[{ on := 12, ground := Ground.data }], guard := none }) (v := .slice b n cb) rfl (by kernel_rfl) (by kernel_rfl) (by kernel_rfl) (fun _ _ _ h => h) (Or.inl ⟨by rfl, ?_⟩) (by assumption) ?_
      · intro w hSw
        (try dsimp only at hSw)
        go_simp
      try simp only [Act.put, List.setIfInBounds_toArray, List.set_cons_zero, List.set_cons_succ]
      refine wpAnyH_ready (rs := [14]) (by kernel_rfl) (by simp) ?_
      refine AllReadyH.cons (o := { dst := some 37, op := Op.call { callee := Callee.value (Operand.func 10), args := #[Operand.tmp 29, Operand.tmp 36], argTypes := #[27, 27] }, type := 4, pos := "outright.go:457", after := #[{ on := 6, ground := Ground.data }, { on := 13, ground := Ground.data }], guard := none }) rfl (fun K hK => ?_) AllReadyH.nil
      go_simp
      refine hs1.mono ?_
      rintro e w5 ⟨rfl, hb5⟩
      have hb35 : Below wr.heap.size wr w5 := HDr.out.trans (hb5.mono (Nat.le_refl _))
      refine hK.out _ _ ?_ (fun hHeld => ?_)
      · exact HC.out _ hb35
      clear hK K
      try simp only [Act.put, List.setIfInBounds_toArray, List.set_cons_zero, List.set_cons_succ]
      refine wpAnyH_take (i := 15) (oi := { dst := some 38, op := Op.unOp UnOp.not 4 (Operand.tmp 37), type := 4, pos := "outright.go:457", after := #[{ on := 14, ground := Ground.data }], guard := none }) (v := .bool false) rfl (by kernel_rfl) (by kernel_rfl) (by kernel_rfl) (fun _ _ _ h => h) (Or.inl ⟨by rfl, ?_⟩) (by assumption) ?_
      · intro w hSw
        (try dsimp only at hSw)
        go_simp
      try simp only [Act.put, List.setIfInBounds_toArray, List.set_cons_zero, List.set_cons_succ]
      refine wpAnyH_done (by kernel_rfl) ?_ _
      have HF := Hid.mk (HB.out.trans (hb35.mono HB.out.size))
      clear hHeld hb5 hb35 hs1 HC HDr c0
      go_wp2
      go_roundw
      case rel => exact ⟨k + 1, by have := HN.out; omega, by go_num, HF.out⟩
      case measure => have := HN.out; simp [intOf]; omega
    · obtain rfl : k = ds.length := by omega
      have hlt' : ¬ (ds.length : Int) < (ds.length : Int) := by omega
      have c0 : wr.cell? ⟨p, 0, none⟩ = some (.slice la ds.length lc) := cell_of_block hq.box (j := 0) rfl
      have H1 := Hid.mk (And.intro hq (Gro.below H.out.2.1 hb isK))
      clear hb hq HB
      go_wp2
      clear c0

      go_loopw [4] (fun ps wr => ∃ (q : Nat) (L : Nat → Nat) (es : List (List Int)), q ≤ 2 ∧ ps = .int .i64 q ∧ Gro lab L w wr isK ∧ Kq wr L p (.slice la ds.length lc) (.slice wa ds.length wc) es ds ∧ es.map List.length = ds.map List.length) (fun ps _ => 2 - (intOf ps).toNat)
      case atStart => exact ⟨0, lab, ds, by omega, rfl, H1.out.2, H1.out.1, rfl⟩
      case round =>
        clear H1
        obtain ⟨q, L0, es, hq2, rfl, G0, K0, hes⟩ := hrel
        have hel : es.length = ds.length := by have := congrArg List.length hes; simpa using this
        by_cases hlq : q < 2
        · have hlq' : (q : Int) < 2 := by omega
          have H2 := Hid.mk (And.intro G0 (And.intro K0 (And.intro hes hel)))
          clear G0 K0 hes hel hq2
          go_wp2
          go_loopw [5, 6] (fun u i wr => ∃ (L : Nat → Nat) (nm : List (Nat × Int)), nm.length ≤ ds.length ∧ i = .int .i64 (nm.length : Int) ∧ nm.map (·.1) = (ds.map List.length).take nm.length ∧ OR wr L 25 5 u nm.length (bs (nm.map (·.2))) ∧ Kq wr L p (.slice la ds.length lc) (.slice wa ds.length wc) (reps 0 nm ++ es.drop nm.length) ds ∧ Gro lab L w wr isK) (fun _ i _ => ds.length - (intOf i).toNat)
          case atStart => exact ⟨L0, [], Nat.zero_le _, rfl, rfl, OR.nil _ _ _ _, by simpa [reps] using H2.out.2.1, H2.out.1⟩
          case round =>
            obtain ⟨L, nm, hnl, rfl, hfs, hu, hK, hG⟩ := hrel
            obtain ⟨_, _, hes, hel⟩ := H2.out
            by_cases hlt : nm.length < ds.length
            · obtain ⟨ua, uc, rfl⟩ := hu.form
              have hdrop : es.drop nm.length = es[nm.length]'(by omega) :: es.drop (nm.length + 1) := List.drop_eq_getElem_cons (by omega)
              rw [hdrop] at hK
              obtain ⟨d, hd⟩ : ∃ d, d = es[nm.length]'(by omega) := ⟨_, rfl⟩
              have hdn : (ds.map List.length)[nm.length]'(by simpa using hlt) = d.length := by
                have : (es.map List.length)[nm.length]'(by simpa using (by omega : nm.length < es.length)) = (ds.map List.length)[nm.length]'(by simpa using hlt) := by simp only [hes]
                rw [← this, hd]
                simp
              rw [← hd] at hK
              have hdl : d.length ≤ 100000000 := by
                rw [← hdn, List.getElem_map]
                exact H.out.2.2 _ (List.getElem_mem hlt)
              have c0 : wr.cell? ⟨p, 0, none⟩ = some (.slice la ds.length lc) := cell_of_block hK.box (j := 0) rfl
              have hlt' : (nm.length : Int) < (ds.length : Int) := by omega
              have hk0 : (0 : Int) ≤ (nm.length : Int) := by omega
              have hkk : nm.length + 1 < 9223372036854775807 := by omega
              have HU := Hid.mk (And.intro hu (And.intro hK (And.intro hG (And.intro hfs hdn))))
              clear hu hK hG hfs hes hel hdrop hd hdn hnl
              by_cases hp : q = 1
              · subst hp
                obtain ⟨hu, hK, hG, hfs, hdn⟩ := HU.out
                have GE := Gro.boxed hG.lz (.cells #[.int .u8 ((nm.length : Int) / 251 % 251 + 1)] 5) (fun _ => False)
                obtain ⟨gm, cm, w5, r5, L5, G5, o5, _⟩ := (hu.gro GE (fun h => h)).app GE.lz ⟨wr.heap.size, 0, none⟩ 1 1 [((nm.length : Int) / 251 % 251 + 1)] rfl (World.news_of_block (cs := #[.int .u8 ((nm.length : Int) / 251 % 251 + 1)]) (t := 5) (fr := (0, 0)) (heap_alloc_new wr _)) (by omega) (by omega)
                have GE5 := GE.join G5 (Z := fun y => y = 25) (fun _ h => h.elim) (fun _ h => h)
                have K5 : Kq w5 L5 p (.slice la ds.length lc) (.slice wa ds.length wc) (reps 0 nm ++ d :: es.drop (nm.length + 1)) ds := ⟨(GE5.block hK.lt hK.bp (fun e => by omega)).trans hK.box, GE5.tag hK.lt hK.bp, hK.ls.gro GE5 (fun e => by omega) (fun i _ e => by have := yK_ge i; omega), hK.wt.gro GE5 (fun e => by omega) (fun _ _ e => by omega)⟩
                have H5 := Hid.mk (And.intro K5 (And.intro o5 (hG.join GE5 (Z := isK) (fun _ h => h) (fun y e => by subst e; exact isK_of (by omega) (by omega)))))
                have HR5 := Hid.mk r5
                clear hu hK hG hfs hdn GE r5 G5 o5 GE5 K5
                go_wp2_with (at_builtin; refine swList_append_run rfl _ _ 27 rfl (.slice ua nm.length uc) (.slice (some ⟨wr.heap.size, 0, none⟩) 1 1) _ rfl rfl HR5.out ?_)
                generalize ((nm.length : Int) / 251 % 251 + 1) = x at *
                clear HR5 c0
                go_loopw [8] (fun j wr => ∃ (t : Nat) (L : Nat → Nat), t ≤ d.length ∧ j = .int .i64 (t : Int) ∧ Kq wr L p (.slice la ds.length lc) (.slice wa ds.length wc) (reps 0 nm ++ (List.replicate t x ++ d.drop t) :: es.drop (nm.length + 1)) ds ∧ OR wr L 25 5 (.slice (some ⟨gm, 0, none⟩) (nm.length + 1) cm) (nm.length + 1) (bs (nm.map (·.2) ++ [x])) ∧ Gro lab L w wr isK) (fun j _ => d.length - (intOf j).toNat)
                case atStart => exact ⟨0, L5, Nat.zero_le _, rfl, by simpa using H5.out.1, H5.out.2⟩
                case round =>
                  clear H5
                  obtain ⟨t, L, htl, rfl, hK, hM, hG⟩ := hrel
                  have c0 : wr.cell? ⟨p, 0, none⟩ = some (.slice la ds.length lc) := cell_of_block hK.box (j := 0) rfl
                  by_cases hlt2 : t < d.length
                  · have hld : (List.replicate t x ++ d.drop t).length = d.length := by simp; omega
                    obtain ⟨gL, cL, g, c, y0, e1, e2, e3, e4, e5, G6, K6⟩ := hK.put hG.lz (j := t) (by omega) x
                    rw [fill_set rfl hlt2] at K6
                    rw [hld] at e2 e5
                    rw [reps_len] at e2 G6
                    have ea : la = some ⟨gL, 0, none⟩ := by injection e1
                    subst ea
                    have hlt2' : (t : Int) < (d.length : Int) := by omega
                    have ht0 : (0 : Int) ≤ (t : Int) := by omega
                    have HR := Hid.mk (And.intro K6 (And.intro (hM.gro G6 (fun e => by have := yK_ge nm.length; omega)) (hG.join G6 (Z := isK) (fun _ h => h) (fun y e => by subst e; exact isK_yK _))))
                    clear hK hM hG e1 G6 K6 hld
                    generalize d.length = dn at *
                    go_wp2
                    go_roundw
                    case rel => exact ⟨t + 1, L, by omega, by go_num, HR.out⟩
                    case measure => simp [intOf]; omega
                  · obtain rfl : t = d.length := by omega
                    rw [List.drop_of_length_le (Nat.le_refl _), List.append_nil] at hK
                    obtain ⟨gL, cL, ui, e1, e2, e3⟩ := hK.ls.mid
                    obtain ⟨ia, ic, rfl⟩ := e3.form
                    rw [reps_len, List.length_replicate] at e2
                    have ea : la = some ⟨gL, 0, none⟩ := by injection e1
                    subst ea
                    have hlt2' : ¬ (d.length : Int) < (d.length : Int) := by omega
                    have hrep : reps 0 nm ++ List.replicate d.length x :: es.drop (nm.length + 1) = reps 0 (nm ++ [(d.length, x)]) ++ es.drop (nm ++ [(d.length, x)]).length := by simp [reps]
                    rw [hrep] at hK
                    have hfs2 : (nm ++ [(d.length, x)]).map (·.1) = (ds.map List.length).take (nm ++ [(d.length, x)]).length := by
                      obtain ⟨_, _, _, hfs, hdn⟩ := HU.out
                      rw [List.map_append, List.length_append, List.length_singleton, List.take_succ_eq_append_getElem (by simpa using hlt), hfs, hdn]
                      rfl
                    have HR := Hid.mk (And.intro hfs2 (And.intro (show OR wr L 25 5 (.slice (some ⟨gm, 0, none⟩) (nm.length + 1) cm) (nm ++ [(d.length, x)]).length (bs ((nm ++ [(d.length, x)]).map (·.2))) by rw [List.length_append, List.map_append]; exact hM) (And.intro hK hG)))
                    clear hK hM hG e1 e3 hrep hfs2 hlt2 htl
                    generalize d.length = dn at *
                    go_wp2
                    go_roundw
                    case rel => exact ⟨L, nm ++ [(dn, x)], by rw [List.length_append]; exact hlt, by rw [List.length_append]; go_num, by simpa only [bs, List.map_map] using HR.out⟩
                    case measure => simp [intOf]; omega
              · have hp' : ¬ (q : Int) = 1 := by omega
                obtain ⟨hu, hK, hG, hfs, hdn⟩ := HU.out
                have GE := Gro.boxed hG.lz (.cells #[.int .u8 ((nm.length : Int) % 251 + 1)] 5) (fun _ => False)
                obtain ⟨gm, cm, w5, r5, L5, G5, o5, _⟩ := (hu.gro GE (fun h => h)).app GE.lz ⟨wr.heap.size, 0, none⟩ 1 1 [((nm.length : Int) % 251 + 1)] rfl (World.news_of_block (cs := #[.int .u8 ((nm.length : Int) % 251 + 1)]) (t := 5) (fr := (0, 0)) (heap_alloc_new wr _)) (by omega) (by omega)
                have GE5 := GE.join G5 (Z := fun y => y = 25) (fun _ h => h.elim) (fun _ h => h)
                have K5 : Kq w5 L5 p (.slice la ds.length lc) (.slice wa ds.length wc) (reps 0 nm ++ d :: es.drop (nm.length + 1)) ds := ⟨(GE5.block hK.lt hK.bp (fun e => by omega)).trans hK.box, GE5.tag hK.lt hK.bp, hK.ls.gro GE5 (fun e => by omega) (fun i _ e => by have := yK_ge i; omega), hK.wt.gro GE5 (fun e => by omega) (fun _ _ e => by omega)⟩
                have H5 := Hid.mk (And.intro K5 (And.intro o5 (hG.join GE5 (Z := isK) (fun _ h => h) (fun y e => by subst e; exact isK_of (by omega) (by omega)))))
                have HR5 := Hid.mk r5
                clear hu hK hG hfs hdn GE r5 G5 o5 GE5 K5
                go_wp2_with (at_builtin; refine swList_append_run rfl _ _ 27 rfl (.slice ua nm.length uc) (.slice (some ⟨wr.heap.size, 0, none⟩) 1 1) _ rfl rfl HR5.out ?_)
                generalize ((nm.length : Int) % 251 + 1) = x at *
                clear HR5 c0
                go_loopw [8] (fun j wr => ∃ (t : Nat) (L : Nat → Nat), t ≤ d.length ∧ j = .int .i64 (t : Int) ∧ Kq wr L p (.slice la ds.length lc) (.slice wa ds.length wc) (reps 0 nm ++ (List.replicate t x ++ d.drop t) :: es.drop (nm.length + 1)) ds ∧ OR wr L 25 5 (.slice (some ⟨gm, 0, none⟩) (nm.length + 1) cm) (nm.length + 1) (bs (nm.map (·.2) ++ [x])) ∧ Gro lab L w wr isK) (fun j _ => d.length - (intOf j).toNat)
                case atStart => exact ⟨0, L5, Nat.zero_le _, rfl, by simpa using H5.out.1, H5.out.2⟩
                case round =>
                  clear H5
                  obtain ⟨t, L, htl, rfl, hK, hM, hG⟩ := hrel
                  have c0 : wr.cell? ⟨p, 0, none⟩ = some (.slice la ds.length lc) := cell_of_block hK.box (j := 0) rfl
                  by_cases hlt2 : t < d.length
                  · have hld : (List.replicate t x ++ d.drop t).length = d.length := by simp; omega
                    obtain ⟨gL, cL, g, c, y0, e1, e2, e3, e4, e5, G6, K6⟩ := hK.put hG.lz (j := t) (by omega) x
                    rw [fill_set rfl hlt2] at K6
                    rw [hld] at e2 e5
                    rw [reps_len] at e2 G6
                    have ea : la = some ⟨gL, 0, none⟩ := by injection e1
                    subst ea
                    have hlt2' : (t : Int) < (d.length : Int) := by omega
                    have ht0 : (0 : Int) ≤ (t : Int) := by omega
                    have HR := Hid.mk (And.intro K6 (And.intro (hM.gro G6 (fun e => by have := yK_ge nm.length; omega)) (hG.join G6 (Z := isK) (fun _ h => h) (fun y e => by subst e; exact isK_yK _))))
                    clear hK hM hG e1 G6 K6 hld
                    generalize d.length = dn at *
                    go_wp2
                    go_roundw
                    case rel => exact ⟨t + 1, L, by omega, by go_num, HR.out⟩
                    case measure => simp [intOf]; omega
                  · obtain rfl : t = d.length := by omega
                    rw [List.drop_of_length_le (Nat.le_refl _), List.append_nil] at hK
                    obtain ⟨gL, cL, ui, e1, e2, e3⟩ := hK.ls.mid
                    obtain ⟨ia, ic, rfl⟩ := e3.form
                    rw [reps_len, List.length_replicate] at e2
                    have ea : la = some ⟨gL, 0, none⟩ := by injection e1
                    subst ea
                    have hlt2' : ¬ (d.length : Int) < (d.length : Int) := by omega
                    have hrep : reps 0 nm ++ List.replicate d.length x :: es.drop (nm.length + 1) = reps 0 (nm ++ [(d.length, x)]) ++ es.drop (nm ++ [(d.length, x)]).length := by simp [reps]
                    rw [hrep] at hK
                    have hfs2 : (nm ++ [(d.length, x)]).map (·.1) = (ds.map List.length).take (nm ++ [(d.length, x)]).length := by
                      obtain ⟨_, _, _, hfs, hdn⟩ := HU.out
                      rw [List.map_append, List.length_append, List.length_singleton, List.take_succ_eq_append_getElem (by simpa using hlt), hfs, hdn]
                      rfl
                    have HR := Hid.mk (And.intro hfs2 (And.intro (show OR wr L 25 5 (.slice (some ⟨gm, 0, none⟩) (nm.length + 1) cm) (nm ++ [(d.length, x)]).length (bs ((nm ++ [(d.length, x)]).map (·.2))) by rw [List.length_append, List.map_append]; exact hM) (And.intro hK hG)))
                    clear hK hM hG e1 e3 hrep hfs2 hlt2 htl
                    generalize d.length = dn at *
                    go_wp2
                    go_roundw
                    case rel => exact ⟨L, nm ++ [(dn, x)], by rw [List.length_append]; exact hlt, by rw [List.length_append]; go_num, by simpa only [bs, List.map_map] using HR.out⟩
                    case measure => simp [intOf]; omega
            · have hnl2 : nm.length = ds.length := by omega
              have hlt' : ¬ (nm.length : Int) < (ds.length : Int) := by omega
              obtain ⟨ma, mc, rfl⟩ := hu.form
              rw [List.drop_of_length_le (by omega), List.append_nil] at hK
              have c0 : wr.cell? ⟨p, 0, none⟩ = some (.slice la ds.length lc) := cell_of_block hK.box (j := 0) rfl
              have hnb : ∀ k (hk : k < nm.length), (nm[k]).1 ≤ 100000000 ∧ ∀ h2, (nm[k]).1 = (ds[k]'h2).length := fun k hk => by
                have e : (nm.map (·.1))[k]'(by simpa using hk) = ((ds.map List.length).take nm.length)[k]'(by simp; omega) := by simp only [hfs]
                simp only [List.getElem_map, List.getElem_take] at e
                exact ⟨by rw [e]; exact H.out.2.2 _ (List.getElem_mem _), fun _ => e⟩
              have H3 := Hid.mk (And.intro hK (And.intro hu hG))
              have H4 := Hid.mk (And.intro hnl2 (And.intro hnb hfs))
              obtain ⟨N, hNN⟩ : ∃ N, N = ds.length := ⟨_, rfl⟩
              clear hu hK hG hfs hes hel hlt hnl hnl2 hnb
              go_wp2
              clear c0 hNN
              go_loopw [9, 10] (fun u i wr => ∃ (k : Nat) (L : Nat → Nat), k ≤ nm.length ∧ i = .int .i64 (k : Int) ∧ LX wr L 24 yK u (reps 96 (nm.take k)) [] ∧ Kq wr L p (.slice la ds.length lc) (.slice wa ds.length wc) (reps 0 nm) ds ∧ OR wr L 25 5 (.slice ma nm.length mc) nm.length (bs (nm.map (·.2))) ∧ Gro lab L w wr isK) (fun _ i _ => ds.length - (intOf i).toNat)
              case atStart => exact ⟨0, L, Nat.zero_le _, rfl, by simpa [reps] using LX.nil wr L 24 yK, by simpa only [bs, List.map_map] using H3.out⟩
              case round =>
                clear H3
                obtain ⟨k, L, hk, rfl, hX, hK, hM0, hG⟩ := hrel
                have hM : OR wr L 25 5 (.slice ma nm.length mc) nm.length (bs (nm.map (·.2))) := by simpa only [bs, List.map_map] using hM0
                clear hM0
                obtain ⟨hnl2, hnb, hfs⟩ := H4.out
                have c0 : wr.cell? ⟨p, 0, none⟩ = some (.slice la ds.length lc) := cell_of_block hK.box (j := 0) rfl
                by_cases hlt : k < ds.length
                · obtain ⟨ga, gc, hgf⟩ := hX.form
                  rw [reps_len, List.length_take, Nat.min_eq_left (by omega)] at hgf
                  subst hgf
                  obtain ⟨n, hn⟩ : ∃ n, n = (nm[k]'(by omega)).1 := ⟨_, rfl⟩
                  obtain ⟨x, hx⟩ : ∃ x, x = (nm[k]'(by omega)).2 := ⟨_, rfl⟩
                  have hn8 : n ≤ 100000000 := by rw [hn]; exact (hnb k (by omega)).1
                  have hsplit : reps 0 nm = reps 0 (nm.take k) ++ List.replicate n x :: reps 0 (nm.drop (k + 1)) := by
                    have e : nm = nm.take k ++ nm[k]'(by omega) :: nm.drop (k + 1) := by rw [← List.drop_eq_getElem_cons (by omega), List.take_append_drop]
                    have e2 : reps 0 nm = reps 0 (nm.take k ++ nm[k]'(by omega) :: nm.drop (k + 1)) := congrArg (reps 0) e
                    rw [e2, hn, hx]
                    simp only [reps, List.map_append, List.map_cons, Nat.add_zero]
                  have htake : nm.take (k + 1) = nm.take k ++ [(n, x)] := by
                    rw [List.take_succ_eq_append_getElem (by omega), hn, hx]
                  have hAl : (reps 0 (nm.take k)).length = k := by rw [reps_len, List.length_take]; omega
                  have hmk : (bs (nm.map (·.2)))[k]? = some (.int .u8 x) := by
                    have : k < nm.length := by omega
                    simp [bs, this, hx]
                  rw [hsplit] at hK
                  obtain ⟨A, hA⟩ : ∃ A, A = reps 0 (nm.take k) := ⟨_, rfl⟩
                  obtain ⟨Bb, hBb⟩ : ∃ Bb, Bb = reps 0 (nm.drop (k + 1)) := ⟨_, rfl⟩
                  rw [← hA] at hAl
                  rw [← hA, ← hBb] at hK
                  obtain ⟨gL, cL, ui, e1, e2, e3⟩ := hK.ls.mid
                  obtain ⟨ia, ic, rfl⟩ := e3.form
                  rw [hAl] at e2 e3
                  rw [List.length_replicate] at e2 e3
                  obtain ⟨gm, cm, em, hrm, _, hmc⟩ := hM.row (by omega)
                  have ea : la = some ⟨gL, 0, none⟩ := by injection e1
                  have eb : ma = some ⟨gm, 0, none⟩ := by injection em
                  have ec : mc = cm := by injection em
                  subst ea
                  subst eb
                  subst ec
                  have hlt' : (k : Int) < (ds.length : Int) := by omega
                  have hk0 : (0 : Int) ≤ (k : Int) := by omega
                  have hkk : k + 1 < 9223372036854775807 := by omega
                  have hkn : k < nm.length := by omega
                  have hkn' : (k : Int) < (nm.length : Int) := by omega
                  have H5 := Hid.mk (And.intro e3 (And.intro hX (And.intro hK (And.intro hM hG))))
                  have H6 := Hid.mk (And.intro hAl (And.intro hmk (And.intro htake (And.intro hA (And.intro hBb hsplit)))))
                  clear hX hK hM hG e1 e3 hsplit htake hAl hmk hA hBb hrm em hmc hn hx hfs hnb hnl2
                  go_wp2
                  clear c0 e2
                  go_loopw [11, 12] (fun g j wr => ∃ (t : Nat) (L : Nat → Nat), t ≤ 96 ∧ j = .int .i64 (t : Int) ∧ OR wr L (yK k) 5 g (n + t) (bs (List.replicate (n + t) x)) ∧ LX wr L 24 yK (.slice ga k gc) (reps 96 (nm.take k)) [] ∧ Kq wr L p (.slice (some ⟨gL, 0, none⟩) ds.length lc) (.slice wa ds.length wc) (A ++ List.replicate n x :: Bb) ds ∧ OR wr L 25 5 (.slice (some ⟨gm, 0, none⟩) nm.length mc) nm.length (bs (nm.map (·.2))) ∧ Gro lab L w wr isK) (fun _ j _ => 96 - (intOf j).toNat)
                  case atStart => exact ⟨0, L, by omega, rfl, by simpa only [bs, List.map_map, Nat.add_zero] using H5.out⟩
                  case round =>
                    clear H5
                    obtain ⟨t, L, ht, rfl, ho, hX, hK, hM0, hG⟩ := hrel
                    have hM : OR wr L 25 5 (.slice (some ⟨gm, 0, none⟩) nm.length mc) nm.length (bs (nm.map (·.2))) := by simpa only [bs, List.map_map] using hM0
                    clear hM0
                    obtain ⟨hAl, hmk, htake, hA, hBb, hsplit⟩ := H6.out
                    obtain ⟨xa, xc, rfl⟩ := ho.form
                    have yk := yK_ge k
                    by_cases hlt2 : t < 96
                    · obtain ⟨gm2, cm2, em, hrm, _, _⟩ := hM.row (by omega)
                      have fM : wr.cell? ⟨gm, k, none⟩ = some (.int .u8 x) := by
                        injection em with q1 q2 q3
                        injection q1 with q4
                        injection q4 with q5
                        subst q5
                        exact hrm.cell hmk
                      have GE := Gro.boxed hG.lz (.cells #[.int .u8 x] 5) (fun _ => False)
                      obtain ⟨gv, cv, w7, r7, L7, G7, o7, K7⟩ := (hK.far GE (fun _ h => h.elim) (fun h => h)).app GE.lz (n' := n + t) (by rw [hAl]; exact ho.gro GE (fun h => h)) (by rw [List.length_replicate]; omega) ⟨wr.heap.size, 0, none⟩ 1 1 [x] rfl (World.news_of_block (cs := #[.int .u8 x]) (t := 5) (fr := (0, 0)) (heap_alloc_new wr _)) (by omega) (by omega)
                      rw [hAl] at G7 o7
                      have GE7 := GE.join G7 (Z := fun y => y = yK k) (fun _ h => h.elim) (fun _ h => h)
                      have o8 : OR w7 L7 (yK k) 5 (.slice (some ⟨gv, 0, none⟩) (n + t + 1) cv) (n + (t + 1)) (bs (List.replicate (n + (t + 1)) x)) := by
                        rw [show n + (t + 1) = n + t + 1 by omega, List.replicate_succ']
                        exact o7
                      have X7 := hX.gro GE7 (fun e => by omega) (fun i hi e => by
                        rw [reps_len, List.length_take] at hi
                        exact yK_ne (by omega) e)
                      have M7 := hM.gro GE7 (fun e => by omega)
                      have Q7 := hG.join GE7 (Z := isK) (fun _ h => h) (fun y e => by subst e; exact isK_yK _)
                      have HR := Hid.mk (And.intro o8 (And.intro X7 (And.intro K7 (And.intro M7 Q7))))
                      have HR7 := Hid.mk r7
                      have hlt2' : (t : Int) < 96 := by omega
                      clear ho hX hK hM hG hAl hmk htake hA hBb hsplit em hrm GE r7 G7 o7 K7 GE7 o8 X7 M7 Q7 yk
                      generalize n + t = nt at *
                      go_wp2_with (at_builtin; refine swList_append_run rfl _ _ 27 rfl (.slice xa nt xc) (.slice (some ⟨wr.heap.size, 0, none⟩) 1 1) _ rfl rfl HR7.out ?_)
                      go_roundw
                      case rel => exact ⟨t + 1, L7, by omega, by go_num, by simpa only [bs, List.map_map] using HR.out⟩
                      case measure => simp [intOf]; omega
                    · obtain rfl : t = 96 := by omega
                      have hlt2' : ¬ (96 : Int) < 96 := by omega
                      obtain ⟨g8, c8, w8, r8, L8, G8, X8⟩ := hX.push hG.lz (fun i e => by have := yK_ge i; omega) (by rw [reps_len, List.length_take, List.length_nil]; omega) (.slice xa (n + 96) xc) rfl
                      rw [reps_len, List.length_take, Nat.min_eq_left (by omega)] at r8 X8
                      simp only [List.length_nil, Nat.add_zero, List.nil_append] at r8 X8
                      obtain ⟨a9, c9, e9, s9, _⟩ := (ho.gro G8 (fun e => by omega)).src
                      have e9a : xa = a9 := by injection e9
                      subst e9a
                      have X9 : LX w8 L8 24 yK (.slice (some ⟨g8, 0, none⟩) (k + 1) c8) (reps 96 (nm.take (k + 1))) [] := by
                        rw [htake]
                        have e : reps 96 (nm.take k ++ [(n, x)]) = reps 96 (nm.take k) ++ [List.replicate (n + 96) x] := by simp [reps]
                        rw [e]
                        refine LX.close (a := xa) (c := xc) ?_ ?_
                        · rw [List.length_replicate]
                          exact X8
                        · rw [List.length_replicate, reps_len, List.length_take, Nat.min_eq_left (by omega)]
                          exact s9
                      have K9 : Kq w8 L8 p (.slice (some ⟨gL, 0, none⟩) ds.length lc) (.slice wa ds.length wc) (reps 0 nm) ds := by
                        rw [hsplit, ← hA, ← hBb]
                        exact ⟨(G8.block hK.lt hK.bp (fun e => by omega)).trans hK.box, G8.tag hK.lt hK.bp, hK.ls.gro G8 (fun e => by omega) (fun i _ e => by have := yK_ge i; omega), hK.wt.gro G8 (fun e => by omega) (fun _ _ e => by omega)⟩
                      have M9 := hM.gro G8 (fun e => by omega)
                      have Q9 := hG.join G8 (Z := isK) (fun _ h => h) (fun y e => by subst e; exact isK_of (by omega) (by omega))
                      have HR := Hid.mk (And.intro X9 (And.intro K9 (And.intro M9 Q9)))
                      have HR8 := Hid.mk r8
                      clear ho hX hK hM hG hAl hmk htake hA hBb hsplit r8 G8 X8 e9 s9 X9 K9 M9 Q9 yk
                      generalize n + 96 = nt at *
                      go_wp2_with (at_builtin; refine swList_append_run rfl _ _ 22 rfl (.slice ga k gc) (.slice (some ⟨wr.heap.size, 0, none⟩) 1 1) _ rfl rfl HR8.out ?_)
                      go_roundw
                      case rel => exact ⟨k + 1, L8, by omega, by go_num, by simpa only [bs, List.map_map] using HR.out⟩
                      case measure => simp [intOf]; omega
                · have hlt' : ¬ (k : Int) < (ds.length : Int) := by omega
                  obtain rfl : k = nm.length := by omega
                  rw [List.take_length] at hX
                  obtain ⟨ga, gc, hgf⟩ := hX.form
                  rw [reps_len] at hgf
                  subst hgf
                  obtain ⟨W6, hW6⟩ : ∃ W, W = wr := ⟨_, rfl⟩
                  subst hW6
                  have H5 := Hid.mk (And.intro hX (And.intro hK (And.intro hM hG)))
                  clear hX hK hM hG hnl2 hnb hfs hlt hk
                  go_wp2
                  clear c0
                  go_loopw [13] (fun i wr => ∃ k : Nat, k ≤ ds.length ∧ i = .int .i64 (k : Int) ∧ Below W6.heap.size W6 wr) (fun i _ => ds.length - (intOf i).toNat)
                  case atStart => exact ⟨0, Nat.zero_le _, rfl, Below.refl _ _⟩
                  case round =>
                    obtain ⟨k, hk, rfl, hb⟩ := hrel
                    obtain ⟨hnl2, hnb, hfs⟩ := H4.out
                    obtain ⟨hX0, hK0, hM0, hG0⟩ := H5.out
                    have HB := Hid.mk hb
                    have GB := Gro.below hG0.lz hb (fun _ => False)
                    have hX := hX0.gro GB (fun h => h) (fun _ _ h => h)
                    have hK := hK0.later hG0.lz hb
                    have hM := hM0.gro GB (fun h => h)
                    have c0 : wr.cell? ⟨p, 0, none⟩ = some (.slice la ds.length lc) := cell_of_block hK.box (j := 0) rfl
                    by_cases hlt : k < ds.length
                    · have hkn : k < nm.length := by omega
                      obtain ⟨n, hn⟩ : ∃ n, n = (nm[k]).1 := ⟨_, rfl⟩
                      obtain ⟨x, hx⟩ : ∃ x, x = (nm[k]).2 := ⟨_, rfl⟩
                      have hn8 : n ≤ 100000000 := by rw [hn]; exact (hnb k hkn).1
                      have hnd : n = (ds[k]).length := by rw [hn]; exact (hnb k hkn).2 hlt
                      obtain ⟨gL, cL, ui, eL, fL, oL⟩ := hK.ls.at (i := k) (by rw [reps_len]; exact hkn)
                      have er : (reps 0 nm)[k]'(by rw [reps_len]; exact hkn) = List.replicate n x := by simp [reps, hn, hx]
                      rw [er, List.length_replicate] at oL
                      obtain ⟨ia, ic, rfl, sL, _⟩ := oL.src
                      obtain ⟨gG, cG, ag, cg, n4, hn4, eG, fG, sG⟩ := hX.rep hkn
                      rw [← hn] at hn4
                      rw [← hx] at sG
                      obtain ⟨gm, cm, em, hrm, _, _⟩ := hM.row (by omega)
                      have fM : wr.cell? ⟨gm, k, none⟩ = some (.int .u8 x) := hrm.cell (by simp [bs, hkn, hx])
                      obtain ⟨gW, cW, b, cb, eW, fW, sWx⟩ := hK.wt.at hlt
                      clear sWx
                      rw [← hnd] at fW
                      have ea : la = some ⟨gL, 0, none⟩ := by injection eL
                      have eb : ma = some ⟨gm, 0, none⟩ := by injection em
                      have ec : wa = some ⟨gW, 0, none⟩ := by injection eW
                      have ed : ga = some ⟨gG, 0, none⟩ := by injection eG
                      subst ea
                      subst eb
                      subst ec
                      subst ed
                      have c1 : wr.cell? ⟨p, 1, none⟩ = some (.slice (some ⟨gW, 0, none⟩) ds.length wc) := cell_of_block hK.box (j := 1) rfl
                      have hdr : Below wr.heap.size wr wr.drew := (Keeps.drew (fun _ => False) wr).below (fun _ h => h.elim) (Nat.le_refl _)
                      have m4 : n4 ≤ 1000000000 := by omega
                      have m0 : n ≤ 1000000000 := by omega
                      have hs1 := (full_rep (c := ic) sL.1 m0 c0 fL wr.drew hdr).1
                      have HS2 := Hid.mk (full_rep (c := cg) sG m4 c0 fL)
                      obtain ⟨xd, yd⟩ := wrapJ (n := n) (m := n4) (c := 96) (by omega) m4
                      obtain ⟨N, hNN⟩ : ∃ N, N = ds.length := ⟨_, rfl⟩
                      have hNm : nm.length = N := by omega
                      have HN := Hid.mk hNN
                      rw [← hNN] at c0 c1
                      have HC : Hid (∀ w', Below wr.heap.size wr w' → w'.cell? ⟨p, 0, none⟩ = some (.slice (some ⟨gL, 0, none⟩) N lc) ∧ w'.cell? ⟨gL, k, none⟩ = some (.slice ia n ic) ∧ w'.cell? ⟨gm, k, none⟩ = some (.int .u8 x) ∧ w'.cell? ⟨p, 1, none⟩ = some (.slice (some ⟨gW, 0, none⟩) N wc) ∧ w'.cell? ⟨gW, k, none⟩ = some (.slice b n cb) ∧ w'.cell? ⟨gG, k, none⟩ = some (.slice ag n4 cg)) := fun w' hw => ⟨cell_later hw c0, cell_later hw fL, cell_later hw fM, cell_later hw c1, cell_later hw fW, cell_later hw fG⟩
                      have HDr := Hid.mk hdr
                      have hlt' : (k : Int) < (N : Int) := by omega
                      have hlt2 : k < N := by omega
                      have hk0 : (0 : Int) ≤ (k : Int) := by omega
                      have hkk : k + 1 < 9223372036854775807 := by omega
                      rw [← hNN, hNm]
                      clear hb hX hK hM hX0 hK0 hM0 hG0 GB oL sL sG eL eW em eG fL fW fM fG c1 hn hx hnd hn4 hdr hNN hk hrm er hnl2 hnb hfs hn8 m0 m4 hkn hNm hlt
                      go_wp2
                      refine wp_region_held_drew (S := (fun w' => w'.cell? ⟨p, 0, none⟩ = some (.slice (some ⟨gL, 0, none⟩) N lc) ∧ w'.cell? ⟨gL, k, none⟩ = some (.slice ia n ic) ∧ w'.cell? ⟨gm, k, none⟩ = some (.int .u8 x) ∧ w'.cell? ⟨p, 1, none⟩ = some (.slice (some ⟨gW, 0, none⟩) N wc) ∧ w'.cell? ⟨gW, k, none⟩ = some (.slice b n cb) ∧ w'.cell? ⟨gG, k, none⟩ = some (.slice ag n4 cg))) (by kernel_rfl) (HC.out _ HDr.out) (fun hHeld => ?_)
                      refine wpAnyH_take (i := 0) (oi := { dst := some 129, op := Op.move (Operand.tmp 0), type := 33, pos := "outright.go:482", after := #[], guard := none }) (v := .pointer (some ⟨p, 0, none⟩)) rfl (by kernel_rfl) (by kernel_rfl) (by kernel_rfl) (fun _ _ _ h => h) (Or.inl ⟨by rfl, ?_⟩) (by assumption) ?_
                      · intro w hSw
                        (try dsimp only at hSw)
                        go_simp
                      try simp only [Act.put, List.setIfInBounds_toArray, List.set_cons_zero, List.set_cons_succ]
                      refine wpAnyH_take (i := 1) (oi := { dst := some 130, op := Op.nilCheck (Operand.tmp 129), type := 0, pos := "outright.go:482", after := #[{ on := 0, ground := Ground.data }], guard := none }) (v := .pointer (some ⟨p, 0, none⟩)) rfl (by kernel_rfl) (by kernel_rfl) (by kernel_rfl) (fun _ _ _ h => h) (Or.inl ⟨by rfl, ?_⟩) (by assumption) ?_
                      · intro w hSw
                        (try dsimp only at hSw)
                        go_simp
                      try simp only [Act.put, List.setIfInBounds_toArray, List.set_cons_zero, List.set_cons_succ]
                      refine wpAnyH_take (i := 2) (oi := { dst := some 131, op := Op.fieldAddr 35 (Operand.tmp 130) 0, type := 0, pos := "outright.go:482", after := #[{ on := 1, ground := Ground.data }], guard := none }) (v := .pointer (some ⟨p, 0, none⟩)) rfl (by kernel_rfl) (by kernel_rfl) (by kernel_rfl) (fun _ _ _ h => h) (Or.inl ⟨by rfl, ?_⟩) (by assumption) ?_
                      · intro w hSw
                        (try dsimp only at hSw)
                        go_simp
                      try simp only [Act.put, List.setIfInBounds_toArray, List.set_cons_zero, List.set_cons_succ]
                      refine wpAnyH_take (i := 3) (oi := { dst := some 132, op := Op.load 22 (Operand.tmp 131), type := 22, pos := "outright.go:482", after := #[{ on := 2, ground := Ground.data }], guard := none }) (v := .slice (some ⟨gL, 0, none⟩) N lc) rfl (by kernel_rfl) (by kernel_rfl) (by kernel_rfl) (fun _ _ _ h => h) (Or.inl ⟨by rfl, ?_⟩) (by assumption) ?_
                      · intro w hSw
                        (try dsimp only at hSw)
                        go_simp
                      try simp only [Act.put, List.setIfInBounds_toArray, List.set_cons_zero, List.set_cons_succ]
                      refine wpAnyH_take (i := 4) (oi := { dst := some 133, op := Op.move (Operand.tmp 13), type := 3, pos := "outright.go:482", after := #[], guard := none }) (v := .int .i64 (k : Int)) rfl (by kernel_rfl) (by kernel_rfl) (by kernel_rfl) (fun _ _ _ h => h) (Or.inl ⟨by rfl, ?_⟩) (by assumption) ?_
                      · intro w hSw
                        (try dsimp only at hSw)
                        go_simp
                      try simp only [Act.put, List.setIfInBounds_toArray, List.set_cons_zero, List.set_cons_succ]
                      refine wpAnyH_take (i := 5) (oi := { dst := some 134, op := Op.indexAddr 22 (Operand.tmp 132) (Operand.tmp 133), type := 0, pos := "outright.go:482", after := #[{ on := 3, ground := Ground.data }, { on := 4, ground := Ground.data }], guard := none }) (v := .pointer (some ⟨gL, k, none⟩)) rfl (by kernel_rfl) (by kernel_rfl) (by kernel_rfl) (fun _ _ _ h => h) (Or.inl ⟨by rfl, ?_⟩) (by assumption) ?_
                      · intro w hSw
                        (try dsimp only at hSw)
                        go_simp
                      try simp only [Act.put, List.setIfInBounds_toArray, List.set_cons_zero, List.set_cons_succ]
                      refine wpAnyH_take (i := 6) (oi := { dst := some 135, op := Op.load 27 (Operand.tmp 134), type := 27, pos := "outright.go:482", after := #[{ on := 5, ground := Ground.data }], guard := none }) (v := .slice ia n ic) rfl (by kernel_rfl) (by kernel_rfl) (by kernel_rfl) (fun _ _ _ h => h) (Or.inl ⟨by rfl, ?_⟩) (by assumption) ?_
                      · intro w hSw
                        (try dsimp only at hSw)
                        go_simp
                      try simp only [Act.put, List.setIfInBounds_toArray, List.set_cons_zero, List.set_cons_succ]
                      refine wpAnyH_take (i := 7) (oi := { dst := some 136, op := Op.move (Operand.tmp 5), type := 27, pos := "outright.go:482", after := #[], guard := none }) (v := .slice (some ⟨gm, 0, none⟩) N mc) rfl (by kernel_rfl) (by kernel_rfl) (by kernel_rfl) (fun _ _ _ h => h) (Or.inl ⟨by rfl, ?_⟩) (by assumption) ?_
                      · intro w hSw
                        (try dsimp only at hSw)
                        go_simp
                      try simp only [Act.put, List.setIfInBounds_toArray, List.set_cons_zero, List.set_cons_succ]
                      refine wpAnyH_take (i := 8) (oi := { dst := some 137, op := Op.move (Operand.tmp 13), type := 3, pos := "outright.go:482", after := #[], guard := none }) (v := .int .i64 (k : Int)) rfl (by kernel_rfl) (by kernel_rfl) (by kernel_rfl) (fun _ _ _ h => h) (Or.inl ⟨by rfl, ?_⟩) (by assumption) ?_
                      · intro w hSw
                        (try dsimp only at hSw)
                        go_simp
                      try simp only [Act.put, List.setIfInBounds_toArray, List.set_cons_zero, List.set_cons_succ]
                      refine wpAnyH_take (i := 9) (oi := { dst := some 138, op := Op.indexAddr 27 (Operand.tmp 136) (Operand.tmp 137), type := 0, pos := "outright.go:482", after := #[{ on := 7, ground := Ground.data }, { on := 8, ground := Ground.data }], guard := none }) (v := .pointer (some ⟨gm, k, none⟩)) rfl (by kernel_rfl) (by kernel_rfl) (by kernel_rfl) (fun _ _ _ h => h) (Or.inl ⟨by rfl, ?_⟩) (by assumption) ?_
                      · intro w hSw
                        (try dsimp only at hSw)
                        go_simp
                      try simp only [Act.put, List.setIfInBounds_toArray, List.set_cons_zero, List.set_cons_succ]
                      refine wpAnyH_take (i := 10) (oi := { dst := some 139, op := Op.load 5 (Operand.tmp 138), type := 5, pos := "outright.go:482", after := #[{ on := 9, ground := Ground.data }], guard := none }) (v := .int .u8 x) rfl (by kernel_rfl) (by kernel_rfl) (by kernel_rfl) (fun _ _ _ h => h) (Or.inl ⟨by rfl, ?_⟩) (by assumption) ?_
                      · intro w hSw
                        (try dsimp only at hSw)
                        go_simp
                      try simp only [Act.put, List.setIfInBounds_toArray, List.set_cons_zero, List.set_cons_succ]
                      refine wpAnyH_take (i := 11) (oi := { dst := some 140, op := Op.move (Operand.tmp 0), type := 33, pos := "outright.go:482", after := #[], guard := none }) (v := .pointer (some ⟨p, 0, none⟩)) rfl (by kernel_rfl) (by kernel_rfl) (by kernel_rfl) (fun _ _ _ h => h) (Or.inl ⟨by rfl, ?_⟩) (by assumption) ?_
                      · intro w hSw
                        (try dsimp only at hSw)
                        go_simp
                      try simp only [Act.put, List.setIfInBounds_toArray, List.set_cons_zero, List.set_cons_succ]
                      refine wpAnyH_take (i := 12) (oi := { dst := some 141, op := Op.nilCheck (Operand.tmp 140), type := 0, pos := "outright.go:482", after := #[{ on := 11, ground := Ground.data }], guard := none }) (v := .pointer (some ⟨p, 0, none⟩)) rfl (by kernel_rfl) (by kernel_rfl) (by kernel_rfl) (fun _ _ _ h => h) (Or.inl ⟨by rfl, ?_⟩) (by assumption) ?_
                      · intro w hSw
                        (try dsimp only at hSw)
                        go_simp
                      try simp only [Act.put, List.setIfInBounds_toArray, List.set_cons_zero, List.set_cons_succ]
                      refine wpAnyH_take (i := 13) (oi := { dst := some 142, op := Op.fieldAddr 35 (Operand.tmp 141) 1, type := 0, pos := "outright.go:482", after := #[{ on := 12, ground := Ground.data }], guard := none }) (v := .pointer (some ⟨p, 1, none⟩)) rfl (by kernel_rfl) (by kernel_rfl) (by kernel_rfl) (fun _ _ _ h => h) (Or.inl ⟨by rfl, ?_⟩) (by assumption) ?_
                      · intro w hSw
                        (try dsimp only at hSw)
                        go_simp
                      try simp only [Act.put, List.setIfInBounds_toArray, List.set_cons_zero, List.set_cons_succ]
                      refine wpAnyH_take (i := 14) (oi := { dst := some 143, op := Op.load 22 (Operand.tmp 142), type := 22, pos := "outright.go:482", after := #[{ on := 13, ground := Ground.data }], guard := none }) (v := .slice (some ⟨gW, 0, none⟩) N wc) rfl (by kernel_rfl) (by kernel_rfl) (by kernel_rfl) (fun _ _ _ h => h) (Or.inl ⟨by rfl, ?_⟩) (by assumption) ?_
                      · intro w hSw
                        (try dsimp only at hSw)
                        go_simp
                      try simp only [Act.put, List.setIfInBounds_toArray, List.set_cons_zero, List.set_cons_succ]
                      refine wpAnyH_take (i := 15) (oi := { dst := some 144, op := Op.move (Operand.tmp 13), type := 3, pos := "outright.go:482", after := #[], guard := none }) (v := .int .i64 (k : Int)) rfl (by kernel_rfl) (by kernel_rfl) (by kernel_rfl) (fun _ _ _ h => h) (Or.inl ⟨by rfl, ?_⟩) (by assumption) ?_
                      · intro w hSw
                        (try dsimp only at hSw)
                        go_simp
                      try simp only [Act.put, List.setIfInBounds_toArray, List.set_cons_zero, List.set_cons_succ]
                      refine wpAnyH_take (i := 16) (oi := { dst := some 145, op := Op.indexAddr 22 (Operand.tmp 143) (Operand.tmp 144), type := 0, pos := "outright.go:482", after := #[{ on := 14, ground := Ground.data }, { on := 15, ground := Ground.data }], guard := none }) (v := .pointer (some ⟨gW, k, none⟩)) rfl (by kernel_rfl) (by kernel_rfl) (by kernel_rfl) (fun _ _ _ h => h) (Or.inl ⟨by rfl, ?_⟩) (by assumption) ?_
                      · intro w hSw
                        (try dsimp only at hSw)
                        go_simp
                      try simp only [Act.put, List.setIfInBounds_toArray, List.set_cons_zero, List.set_cons_succ]
                      refine wpAnyH_take (i := 17) (oi := { dst := some 146, op := Op.load 27 (Operand.tmp 145), type := 27, pos := "outright.go:482", after := #[{ on := 16, ground := Ground.data }], guard := none }) (v := .slice b n cb) rfl (by kernel_rfl) (by kernel_rfl) (by kernel_rfl) (fun _ _ _ h => h) (Or.inl ⟨by rfl, ?_⟩) (by assumption) ?_
                      · intro w hSw
                        (try dsimp only at hSw)
                        go_simp
                      try simp only [Act.put, List.setIfInBounds_toArray, List.set_cons_zero, List.set_cons_succ]
                      refine wpAnyH_take (i := 18) (oi := { dst := some 147, op := Op.call { callee := Callee.builtin Builtin.len, args := #[Operand.tmp 146], argTypes := #[27] }, type := 3, pos := "outright.go:482", after := #[{ on := 17, ground := Ground.data }], guard := none }) (v := .int .i64 (n : Int)) rfl (by kernel_rfl) (by kernel_rfl) (by kernel_rfl) (fun _ _ _ h => h) (Or.inl ⟨by rfl, ?_⟩) (by assumption) ?_
                      · intro w hSw
                        (try dsimp only at hSw)
                        go_simp
                      try simp only [Act.put, List.setIfInBounds_toArray, List.set_cons_zero, List.set_cons_succ]
                      refine wpAnyH_ready (rs := [19]) (by kernel_rfl) (by simp) ?_
                      refine AllReadyH.cons (o := { dst := some 148, op := Op.call { callee := Callee.value (Operand.func 43), args := #[Operand.tmp 135, Operand.tmp 139, Operand.tmp 147], argTypes := #[27, 5, 3] }, type := 4, pos := "outright.go:482", after := #[{ on := 6, ground := Ground.data }, { on := 10, ground := Ground.data }, { on := 18, ground := Ground.data }], guard := none }) rfl (fun K hK => ?_) AllReadyH.nil
                      go_simp
                      refine hs1.mono ?_
                      rintro e w5 ⟨rfl, hb5⟩
                      have hb35 : Below wr.heap.size wr w5 := HDr.out.trans (hb5.mono (Nat.le_refl _))
                      have hs2 := (HS2.out w5 hb35).1
                      refine hK.out _ _ ?_ (fun hHeld => ?_)
                      · exact HC.out _ hb35
                      clear hK K
                      try simp only [Act.put, List.setIfInBounds_toArray, List.set_cons_zero, List.set_cons_succ]
                      refine wpAnyH_take (i := 20) (oi := { dst := some 149, op := Op.unOp UnOp.not 4 (Operand.tmp 148), type := 4, pos := "outright.go:482", after := #[{ on := 19, ground := Ground.data }], guard := none }) (v := .bool false) rfl (by kernel_rfl) (by kernel_rfl) (by kernel_rfl) (fun _ _ _ h => h) (Or.inl ⟨by rfl, ?_⟩) (by assumption) ?_
                      · intro w hSw
                        (try dsimp only at hSw)
                        go_simp
                      try simp only [Act.put, List.setIfInBounds_toArray, List.set_cons_zero, List.set_cons_succ]
                      refine wpAnyH_take (i := 21) (oi := { dst := some 150, op := Op.move (Operand.tmp 149), type := 4, pos := "outright.go:482", after := #[{ on := 20, ground := Ground.data }, { on := 19, ground := Ground.chain }], guard := none }) (v := .bool false) rfl (by kernel_rfl) (by kernel_rfl) (by kernel_rfl) (fun _ _ _ h => h) (Or.inl ⟨by rfl, ?_⟩) (by assumption) ?_
                      · intro w hSw
                        (try dsimp only at hSw)
                        go_simp
                      try simp only [Act.put, List.setIfInBounds_toArray, List.set_cons_zero, List.set_cons_succ]
                      refine wpAnyH_take (i := 22) (oi := { dst := some 151, op := Op.move (Operand.tmp 9), type := 22, pos := "outright.go:482", after := #[{ on := 21, ground := Ground.guard }], guard := some (21, false) }) (v := .slice (some ⟨gG, 0, none⟩) N gc) rfl (by kernel_rfl) (by kernel_rfl) (by kernel_rfl) (fun _ _ _ h => h) (Or.inl ⟨by rfl, ?_⟩) (by assumption) ?_
                      · intro w hSw
                        (try dsimp only at hSw)
                        go_simp
                      try simp only [Act.put, List.setIfInBounds_toArray, List.set_cons_zero, List.set_cons_succ]
                      refine wpAnyH_take (i := 23) (oi := { dst := some 152, op := Op.move (Operand.tmp 13), type := 3, pos := "outright.go:482", after := #[{ on := 21, ground := Ground.guard }], guard := some (21, false) }) (v := .int .i64 (k : Int)) rfl (by kernel_rfl) (by kernel_rfl) (by kernel_rfl) (fun _ _ _ h => h) (Or.inl ⟨by rfl, ?_⟩) (by assumption) ?_
                      · intro w hSw
                        (try dsimp only at hSw)
                        go_simp
                      try simp only [Act.put, List.setIfInBounds_toArray, List.set_cons_zero, List.set_cons_succ]
                      refine wpAnyH_take (i := 24) (oi := { dst := some 153, op := Op.indexAddr 22 (Operand.tmp 151) (Operand.tmp 152), type := 0, pos := "outright.go:482", after := #[{ on := 22, ground := Ground.data }, { on := 23, ground := Ground.data }, { on := 21, ground := Ground.guard }], guard := some (21, false) }) (v := .pointer (some ⟨gG, k, none⟩)) rfl (by kernel_rfl) (by kernel_rfl) (by kernel_rfl) (fun _ _ _ h => h) (Or.inl ⟨by rfl, ?_⟩) (by assumption) ?_
                      · intro w hSw
                        (try dsimp only at hSw)
                        go_simp
                      try simp only [Act.put, List.setIfInBounds_toArray, List.set_cons_zero, List.set_cons_succ]
                      refine wpAnyH_take (i := 25) (oi := { dst := some 154, op := Op.load 27 (Operand.tmp 153), type := 27, pos := "outright.go:482", after := #[{ on := 24, ground := Ground.data }, { on := 21, ground := Ground.guard }], guard := some (21, false) }) (v := .slice ag n4 cg) rfl (by kernel_rfl) (by kernel_rfl) (by kernel_rfl) (fun _ _ _ h => h) (Or.inl ⟨by rfl, ?_⟩) (by assumption) ?_
                      · intro w hSw
                        (try dsimp only at hSw)
                        go_simp
                      try simp only [Act.put, List.setIfInBounds_toArray, List.set_cons_zero, List.set_cons_succ]
                      refine wpAnyH_take (i := 26) (oi := { dst := some 155, op := Op.move (Operand.tmp 5), type := 27, pos := "outright.go:482", after := #[{ on := 21, ground := Ground.guard }], guard := some (21, false) }) (v := .slice (some ⟨gm, 0, none⟩) N mc) rfl (by kernel_rfl) (by kernel_rfl) (by kernel_rfl) (fun _ _ _ h => h) (Or.inl ⟨by rfl, ?_⟩) (by assumption) ?_
                      · intro w hSw
                        (try dsimp only at hSw)
                        go_simp
                      try simp only [Act.put, List.setIfInBounds_toArray, List.set_cons_zero, List.set_cons_succ]
                      refine wpAnyH_take (i := 27) (oi := { dst := some 156, op := Op.move (Operand.tmp 13), type := 3, pos := "outright.go:482", after := #[{ on := 21, ground := Ground.guard }], guard := some (21, false) }) (v := .int .i64 (k : Int)) rfl (by kernel_rfl) (by kernel_rfl) (by kernel_rfl) (fun _ _ _ h => h) (Or.inl ⟨by rfl, ?_⟩) (by assumption) ?_
                      · intro w hSw
                        (try dsimp only at hSw)
                        go_simp
                      try simp only [Act.put, List.setIfInBounds_toArray, List.set_cons_zero, List.set_cons_succ]
                      refine wpAnyH_take (i := 28) (oi := { dst := some 157, op := Op.indexAddr 27 (Operand.tmp 155) (Operand.tmp 156), type := 0, pos := "outright.go:482", after := #[{ on := 26, ground := Ground.data }, { on := 27, ground := Ground.data }, { on := 21, ground := Ground.guard }], guard := some (21, false) }) (v := .pointer (some ⟨gm, k, none⟩)) rfl (by kernel_rfl) (by kernel_rfl) (by kernel_rfl) (fun _ _ _ h => h) (Or.inl ⟨by rfl, ?_⟩) (by assumption) ?_
                      · intro w hSw
                        (try dsimp only at hSw)
                        go_simp
                      try simp only [Act.put, List.setIfInBounds_toArray, List.set_cons_zero, List.set_cons_succ]
                      refine wpAnyH_take (i := 29) (oi := { dst := some 158, op := Op.load 5 (Operand.tmp 157), type := 5, pos := "outright.go:482", after := #[{ on := 28, ground := Ground.data }, { on := 21, ground := Ground.guard }], guard := some (21, false) }) (v := .int .u8 x) rfl (by kernel_rfl) (by kernel_rfl) (by kernel_rfl) (fun _ _ _ h => h) (Or.inl ⟨by rfl, ?_⟩) (by assumption) ?_
                      · intro w hSw
                        (try dsimp only at hSw)
                        go_simp
                      try simp only [Act.put, List.setIfInBounds_toArray, List.set_cons_zero, List.set_cons_succ]
                      refine wpAnyH_take (i := 30) (oi := { dst := some 159, op := Op.move (Operand.tmp 0), type := 33, pos := "outright.go:482", after := #[{ on := 21, ground := Ground.guard }], guard := some (21, false) }) (v := .pointer (some ⟨p, 0, none⟩)) rfl (by kernel_rfl) (by kernel_rfl) (by kernel_rfl) (fun _ _ _ h => h) (Or.inl ⟨by rfl, ?_⟩) (by assumption) ?_
                      · intro w hSw
                        (try dsimp only at hSw)
                        go_simp
                      try simp only [Act.put, List.setIfInBounds_toArray, List.set_cons_zero, List.set_cons_succ]
                      refine wpAnyH_take (i := 31) (oi := { dst := some 160, op := Op.nilCheck (Operand.tmp 159), type := 0, pos := "outright.go:482", after := #[{ on := 30, ground := Ground.data }, { on := 21, ground := Ground.guard }], guard := some (21, false) }) (v := .pointer (some ⟨p, 0, none⟩)) rfl (by kernel_rfl) (by kernel_rfl) (by kernel_rfl) (fun _ _ _ h => h) (Or.inl ⟨by rfl, ?_⟩) (by assumption) ?_
                      · intro w hSw
                        (try dsimp only at hSw)
                        go_simp
                      try simp only [Act.put, List.setIfInBounds_toArray, List.set_cons_zero, List.set_cons_succ]
                      refine wpAnyH_take (i := 32) (oi := { dst := some 161, op := Op.fieldAddr 35 (Operand.tmp 160) 1, type := 0, pos := "outright.go:482", after := #[{ on := 31, ground := Ground.data }, { on := 21, ground := Ground.guard }], guard := some (21, false) }) (v := .pointer (some ⟨p, 1, none⟩)) rfl (by kernel_rfl) (by kernel_rfl) (by kernel_rfl) (fun _ _ _ h => h) (Or.inl ⟨by rfl, ?_⟩) (by assumption) ?_
                      · intro w hSw
                        (try dsimp only at hSw)
                        go_simp
                      try simp only [Act.put, List.setIfInBounds_toArray, List.set_cons_zero, List.set_cons_succ]
                      refine wpAnyH_take (i := 33) (oi := { dst := some 162, op := Op.load 22 (Operand.tmp 161), type := 22, pos := "outright.go:482", after := #[{ on := 32, ground := Ground.data }, { on := 21, ground := Ground.guard }], guard := some (21, false) }) (v := .slice (some ⟨gW, 0, none⟩) N wc) rfl (by kernel_rfl) (by kernel_rfl) (by kernel_rfl) (fun _ _ _ h => h) (Or.inl ⟨by rfl, ?_⟩) (by assumption) ?_
                      · intro w hSw
                        (try dsimp only at hSw)
                        go_simp
                      try simp only [Act.put, List.setIfInBounds_toArray, List.set_cons_zero, List.set_cons_succ]
                      refine wpAnyH_take (i := 34) (oi := { dst := some 163, op := Op.move (Operand.tmp 13), type := 3, pos := "outright.go:482", after := #[{ on := 21, ground := Ground.guard }], guard := some (21, false) }) (v := .int .i64 (k : Int)) rfl (by kernel_rfl) (by kernel_rfl) (by kernel_rfl) (fun _ _ _ h => h) (Or.inl ⟨by rfl, ?_⟩) (by assumption) ?_
                      · intro w hSw
                        (try dsimp only at hSw)
                        go_simp
                      try simp only [Act.put, List.setIfInBounds_toArray, List.set_cons_zero, List.set_cons_succ]
                      refine wpAnyH_take (i := 35) (oi := { dst := some 164, op := Op.indexAddr 22 (Operand.tmp 162) (Operand.tmp 163), type := 0, pos := "outright.go:482", after := #[{ on := 33, ground := Ground.data }, { on := 34, ground := Ground.data }, { on := 21, ground := Ground.guard }], guard := some (21, false) }) (v := .pointer (some ⟨gW, k, none⟩)) rfl (by kernel_rfl) (by kernel_rfl) (by kernel_rfl) (fun _ _ _ h => h) (Or.inl ⟨by rfl, ?_⟩) (by assumption) ?_
                      · intro w hSw
                        (try dsimp only at hSw)
                        go_simp
                      try simp only [Act.put, List.setIfInBounds_toArray, List.set_cons_zero, List.set_cons_succ]
                      refine wpAnyH_take (i := 36) (oi := { dst := some 165, op := Op.load 27 (Operand.tmp 164), type := 27, pos := "outright.go:482", after := #[{ on := 35, ground := Ground.data }, { on := 21, ground := Ground.guard }], guard := some (21, false) }) (v := .slice b n cb) rfl (by kernel_rfl) (by kernel_rfl) (by kernel_rfl) (fun _ _ _ h => h) (Or.inl ⟨by rfl, ?_⟩) (by assumption) ?_
                      · intro w hSw
                        (try dsimp only at hSw)
                        go_simp
                      try simp only [Act.put, List.setIfInBounds_toArray, List.set_cons_zero, List.set_cons_succ]
                      refine wpAnyH_take (i := 37) (oi := { dst := some 166, op := Op.call { callee := Callee.builtin Builtin.len, args := #[Operand.tmp 165], argTypes := #[27] }, type := 3, pos := "outright.go:482", after := #[{ on := 36, ground := Ground.data }, { on := 21, ground := Ground.guard }], guard := some (21, false) }) (v := .int .i64 (n : Int)) rfl (by kernel_rfl) (by kernel_rfl) (by kernel_rfl) (fun _ _ _ h => h) (Or.inl ⟨by rfl, ?_⟩) (by assumption) ?_
                      · intro w hSw
                        (try dsimp only at hSw)
                        go_simp
                      try simp only [Act.put, List.setIfInBounds_toArray, List.set_cons_zero, List.set_cons_succ]
                      refine wpAnyH_take (i := 38) (oi := { dst := some 167, op := Op.binOp BinOp.add 3 (Operand.tmp 166) (Operand.const (Value.int IntKind.i64 96)) 3, type := 3, pos := "outright.go:482", after := #[{ on := 37, ground := Ground.data }, { on := 21, ground := Ground.guard }], guard := some (21, false) }) (v := .int .i64 (n4 : Int)) rfl (by kernel_rfl) (by kernel_rfl) (by kernel_rfl) (fun _ _ _ h => h) (Or.inl ⟨by rfl, ?_⟩) (by assumption) ?_
                      · intro w hSw
                        (try dsimp only at hSw)
                        go_simp
                      try simp only [Act.put, List.setIfInBounds_toArray, List.set_cons_zero, List.set_cons_succ]
                      refine wpAnyH_ready (rs := [39]) (by kernel_rfl) (by simp) ?_
                      refine AllReadyH.cons (o := { dst := some 168, op := Op.call { callee := Callee.value (Operand.func 43), args := #[Operand.tmp 154, Operand.tmp 158, Operand.tmp 167], argTypes := #[27, 5, 3] }, type := 4, pos := "outright.go:482", after := #[{ on := 25, ground := Ground.data }, { on := 29, ground := Ground.data }, { on := 38, ground := Ground.data }, { on := 21, ground := Ground.chain }, { on := 21, ground := Ground.guard }], guard := some (21, false) }) rfl (fun K hK => ?_) AllReadyH.nil
                      go_simp
                      refine hs2.mono ?_
                      rintro e w6 ⟨rfl, hb6⟩
                      have hb36 : Below wr.heap.size wr w6 := hb35.trans (hb6.mono hb35.size)
                      refine hK.out _ _ ?_ (fun hHeld => ?_)
                      · exact HC.out _ hb36
                      clear hK K
                      try simp only [Act.put, List.setIfInBounds_toArray, List.set_cons_zero, List.set_cons_succ]
                      refine wpAnyH_take (i := 40) (oi := { dst := some 169, op := Op.unOp UnOp.not 4 (Operand.tmp 168), type := 4, pos := "outright.go:482", after := #[{ on := 39, ground := Ground.data }, { on := 21, ground := Ground.guard }], guard := some (21, false) }) (v := .bool false) rfl (by kernel_rfl) (by kernel_rfl) (by kernel_rfl) (fun _ _ _ h => h) (Or.inl ⟨by rfl, ?_⟩) (by assumption) ?_
                      · intro w hSw
                        (try dsimp only at hSw)
                        go_simp
                      try simp only [Act.put, List.setIfInBounds_toArray, List.set_cons_zero, List.set_cons_succ]
                      refine wpAnyH_take (i := 41) (oi := { dst := some 170, op := Op.pick (Operand.tmp 150) (Operand.const (Value.bool true)) (Operand.tmp 169), type := 4, pos := "outright.go:482", after := #[{ on := 21, ground := Ground.data }, { on := 40, ground := Ground.data }], guard := none }) (v := .bool false) rfl (by kernel_rfl) (by kernel_rfl) (by kernel_rfl) (fun _ _ _ h => h) (Or.inl ⟨by rfl, ?_⟩) (by assumption) ?_
                      · intro w hSw
                        (try dsimp only at hSw)
                        go_simp
                      try simp only [Act.put, List.setIfInBounds_toArray, List.set_cons_zero, List.set_cons_succ]
                      refine wpAnyH_done (by kernel_rfl) ?_ _
                      have HF := Hid.mk (HB.out.trans (hb36.mono HB.out.size))
                      clear hHeld hb5 hb35 hb6 hb36 hs1 hs2 HC HDr c0 HS2
                      go_wp2
                      go_roundw
                      case rel => exact ⟨k + 1, by have := HN.out; omega, by go_num, HF.out⟩
                      case measure => have := HN.out; simp [intOf]; omega
                    · obtain rfl : k = ds.length := by omega
                      have hlt' : ¬ (ds.length : Int) < (ds.length : Int) := by omega
                      have hlen : (reps 0 nm).map List.length = ds.map List.length := by
                        rw [hnl2, List.take_of_length_le (by simp)] at hfs
                        rw [← hfs]
                        simp [reps]
                      have HR := Hid.mk (And.intro (hG0.join GB (Z := isK) (fun _ h => h) (fun _ h => h.elim)) (And.intro hK hlen))
                      clear hb hX hK hM hX0 hK0 hM0 hG0 GB hnl2 hnb hfs hlen HB
                      go_wp2
                      go_roundw
                      case rel => exact ⟨q + 1, _, reps 0 nm, by omega, by go_num, HR.out⟩
                      case measure => simp [intOf]; omega
        · obtain rfl : q = 2 := by omega
          have HR := Hid.mk G0
          clear G0 K0 hes hel
          go_wp2
          go_ret
          exact ⟨rfl, _, HR.out⟩
end Go.Proofs.Ythdgndbmecnimaa
end
