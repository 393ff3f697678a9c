import Derived.Test.YtohgdjlgbnpobaaW04
section
namespace Go.Proofs.Ytohgdjlgbnpobaa
open Go.RowKit Go.Maps

/-- Lists with no room behind them, each with an owner of its own, in a row. -/
def LT (w : World) (lab : Nat → Nat) (yr : Nat) (v : Value) (N : Nat) (D : Nat → List Int) : Prop := ∃ vs : List Value, vs.length = N ∧ OR w lab yr 25 v N vs ∧ ∀ i, i < N → ∃ u, vs[i]? = some u ∧ TL w lab (yK i) u (D i)
section
variable {w w' : World} {lab lab' : Nat → Nat} {yr N : Nat} {v : Value} {D D' : Nat → List Int} {X : Nat → Prop}
theorem LT.gro (h : LT w lab yr v N D) (g : Gro lab lab' w w' X) (h1 : ¬ X yr) (h2 : ∀ i, i < N → ¬ X (yK i)) : LT w' lab' yr v N D := by
  obtain ⟨vs, hl, ho, he⟩ := h
  refine ⟨vs, hl, ho.gro g h1, fun i hi => ?_⟩
  obtain ⟨u, e1, e2⟩ := he i hi
  exact ⟨u, e1, e2.gro g (h2 i hi)⟩
theorem LT.form (h : LT w lab yr v N D) : ∃ a c, v = .slice a N c := by
  obtain ⟨vs, hl, ho, he⟩ := h
  exact ho.form
theorem LT.at (h : LT w lab yr v N D) {i : Nat} (hi : i < N) : ∃ g cap u, v = .slice (some ⟨g, 0, none⟩) N cap ∧ w.cell? ⟨g, i, none⟩ = some u ∧ TL w lab (yK i) u (D i) ∧ lab g = yr ∧ g < w.heap.size := by
  obtain ⟨vs, hl, ho, he⟩ := h
  obtain ⟨g, c, rfl, hr, hg, _⟩ := ho.row (by omega)
  obtain ⟨u, e1, e2⟩ := he i hi
  exact ⟨g, c, u, rfl, hr.cell e1, e2, hg, hr.lt⟩
theorem LT.turn (h : LT w lab yr v N D) (g : Gro lab lab' w w' X) (h1 : ¬ X yr) {k : Nat} (hk : k < N) (h2 : ∀ i, i ≠ k → ¬ X (yK i)) (h3 : ∀ i, i ≠ k → D' i = D i) (hd : ∀ u q c, v = .slice (some ⟨q, 0, none⟩) N c → w.cell? ⟨q, k, none⟩ = some u → TL w' lab' (yK k) u (D' k)) : LT w' lab' yr v N D' := by
  obtain ⟨vs, hl, ho, he⟩ := h
  refine ⟨vs, hl, ho.gro g h1, fun i hi => ?_⟩
  obtain ⟨u, e1, e2⟩ := he i hi
  by_cases e : i = k
  · subst e
    obtain ⟨q, c, ev, hr, _, _⟩ := ho.row (by omega)
    exact ⟨u, e1, hd u q c ev (hr.cell e1)⟩
  · exact ⟨u, e1, by rw [h3 i e]; exact e2.gro g (h2 i e)⟩
theorem LT.data (h : LT w lab yr v N D) (hd : ∀ i, i < N → D' i = D i) : LT w lab yr v N D' := by
  obtain ⟨vs, hl, ho, he⟩ := h
  refine ⟨vs, hl, ho, fun i hi => ?_⟩
  rw [hd i hi]
  exact he i hi
end
theorem i64_wrap {x : Int} (h1 : -9223372036854775808 ≤ x) (h2 : x ≤ 9223372036854775807) : IntKind.i64.wrap x = x := by
  rw [IntKind.wrap_i64]
  all_goals omega
/-- The owners that grownAll writes to. -/
def gX (y : Nat) : Prop := y = 38 ∨ (∃ i, y = yK i) ∨ ∃ i, y = yM i
theorem gX_not {y : Nat} (h : y < 38) : ¬ gX y := by
  rintro (h1 | ⟨i, h1⟩ | ⟨i, h1⟩)
  · omega
  · have := yK_ge i; omega
  · have := yM_ge i; omega
theorem gX_yB (j : Nat) : ¬ gX (yB j) := by
  rintro (h1 | ⟨i, h1⟩ | ⟨i, h1⟩)
  · have := yB_ge j; omega
  · exact yBK _ _ h1
  · exact yMB _ _ h1.symm
/-- The first k lists written over. -/
def Dk (D : Nat → List Int) (k i : Nat) : List Int := if i < k then rw' (5 * i + 1) (D i).length else D i
/-- What the first q of them grow to. -/
def Ek (D : Nat → List Int) (q : Nat) : List (List Int) := (List.range q).map (fun i => rw' (5 * i + 1) (D i).length ++ rw' (5 * i + 2) 1100)
theorem Ek_len (D : Nat → List Int) (q : Nat) : (Ek D q).length = q := by simp [Ek]
theorem Ek_succ (D : Nat → List Int) (q : Nat) : Ek D (q + 1) = Ek D q ++ [rw' (5 * q + 1) (D q).length ++ rw' (5 * q + 2) 1100] := by simp [Ek, List.range_succ]
theorem Ek_get {D : Nat → List Int} {q k : Nat} (h : k < (Ek D q).length) : (Ek D q)[k] = rw' (5 * k + 1) (D k).length ++ rw' (5 * k + 2) 1100 := by simp [Ek]

set_option maxRecDepth 20000 in
set_option maxHeartbeats 16000000 in
/-- All lists are marked, each with its own mark; then each is appended to; then all are looked at. -/
theorem grownAll_any {w : World} {lab : Nat → Nat} {vL : Value} {N : Nat} {D : Nat → List Int} (h : LT w lab 37 vL N D) (hz : LZ lab w) (hm : ∀ i, (D i).length ≤ 1000) (hN : N ≤ 10000000) :
    Calls Try.prog 12 #[vL] w fun e w' => e = .returned (.bool true) ∧ ∃ lab', Gro lab lab' w w' gX := by
  obtain ⟨la, lc, hvL⟩ := h.form
  subst hvL
  have H := Hid.mk (And.intro h hz)
  have HM := Hid.mk hm
  clear h hz hm
  have y37 : ∀ i, (37 : Nat) ≠ yK i := fun i e => by have := yK_ge i; omega
  have y37m : ∀ i, (37 : Nat) ≠ yM i := fun i e => by have := yM_ge i; omega
  have y38 : ∀ i, (38 : Nat) ≠ yM i := fun i e => by have := yM_ge i; omega
  have y38k : ∀ i, (38 : Nat) ≠ yK i := fun i e => by have := yK_ge i; omega
  go_enter Try.func12, Try.ntmps12
  go_wp2
  go_loopw [3] (fun i wr => ∃ (k : Nat) (L : Nat → Nat), k ≤ N ∧ i = .int .i64 k ∧ LT wr L 37 (.slice la N lc) N (Dk D k) ∧ Gro lab L w wr gX) (fun i _ => N - (intOf i).toNat)
  case atStart => exact ⟨0, lab, Nat.zero_le _, rfl, H.out.1.data (fun i _ => by simp [Dk]), Gro.refl H.out.2 _⟩
  case round =>
    obtain ⟨k, L, hk, rfl, hK, hG⟩ := hrel
    by_cases hlt : k < N
    · obtain ⟨gL, cL, u, e1, e2, e3, hlab, hglt⟩ := hK.at hlt
      have hDk : Dk D k k = D k := by simp [Dk]
      rw [hDk] at e3
      have ea : la = some ⟨gL, 0, none⟩ := by injection e1
      subst ea
      obtain ⟨ua, hu, _⟩ := e3.sl
      subst hu
      have hf := fill_any e3 hG.lz (5 * k + 1) (by omega) (by have := HM.out k; omega)
      have em : ((5 * k + 1 : Nat) : Int) = 5 * (k : Int) + 1 := by omega
      rw [em] at hf
      have HK := Hid.mk (And.intro hK hG)
      have HE2 := Hid.mk e2
      have hlt' : (k : Int) < (N : Int) := by omega
      have hk0 : (0 : Int) ≤ (k : Int) := by omega
      have hdm := HM.out k
      clear hK hG e1 e3 hlab hglt hDk em
      generalize hdn : (D k).length = dn at *
      have HDN := Hid.mk hdn
      clear hdn
      go_wp2_with fail
      refine hf.mono ?_
      rintro e w1 ⟨rfl, T1, G1⟩
      obtain ⟨hK, hG⟩ := HK.out
      have hK2 : LT w1 L 37 (.slice (some ⟨gL, 0, none⟩) N lc) N (Dk D (k + 1)) := hK.turn G1 (fun e => y37 k e) hlt (fun i hi e => yK_ne hi e) (fun i hi => by
        unfold Dk
        by_cases e : i < k
        · rw [if_pos e, if_pos (by omega)]
        · rw [if_neg e, if_neg (by omega)]) (fun u q c ev eu => by
        injection ev with q1 q2 q3
        injection q1 with q4
        injection q4 with q5
        subst q5
        rw [HE2.out] at eu
        cases eu
        unfold Dk
        rw [if_pos (by omega), HDN.out]
        exact T1)
      have HR := Hid.mk (And.intro hK2 (hG.join G1 (Z := gX) (fun _ h => h) (fun y e => by rw [e]; exact .inr (.inl ⟨k, rfl⟩))))
      clear hf T1 G1 hK hG hK2 HK HE2 e2
      go_wp2
      go_roundw
      case rel => exact ⟨k + 1, L, by omega, by go_num, HR.out⟩
      case measure => simp [intOf]; omega
    · obtain rfl : k = N := by omega
      have hlt' : ¬ (k : Int) < (k : Int) := by omega
      have H2 := Hid.mk (And.intro hK hG)
      clear hK hG hlt hk
      go_wp2
      go_loopw [4, 5] (fun u i wr => ∃ (q : Nat) (L : Nat → Nat), q ≤ k ∧ i = .int .i64 (q : Int) ∧ LO wr L 38 yM u (Ek D q) ∧ LT wr L 37 (.slice la k lc) k (Dk D k) ∧ Gro lab L w wr gX) (fun _ i _ => k - (intOf i).toNat)
      case atStart => exact ⟨0, L, Nat.zero_le _, rfl, by simpa [Ek] using LO.nil wr L 38 yM, H2.out⟩
      case round =>
        clear H2
        obtain ⟨q, L, hq, rfl, hX, hK, hG⟩ := hrel
        obtain ⟨xa, xc, rfl⟩ := hX.form
        rw [Ek_len] at hX ⊢
        by_cases hlt : q < k
        · have GD := Gro.drew hG.lz (fun _ => False)
          obtain ⟨gL, cL, u, e1, e2, e3, hlab, hglt⟩ := (hK.gro GD (fun h => h) (fun _ _ h => h)).at hlt
          have hDk : Dk D k q = rw' (5 * q + 1) (D q).length := by simp [Dk, hlt]
          rw [hDk] at e3
          have ea : la = some ⟨gL, 0, none⟩ := by injection e1
          subst ea
          obtain ⟨ua, hu, _⟩ := e3.sl
          rw [rw_len] at hu
          subst hu
          have hr1 := row_any (5 * q + 2) 1100 (by omega) (by omega) wr.drew
          have em : ((5 * q + 2 : Nat) : Int) = 5 * (q : Int) + 2 := by omega
          have em2 : ((1100 : Nat) : Int) = 1100 := rfl
          rw [em, em2] at hr1
          have hlt' : (q : Int) < (k : Int) := by omega
          have hk0 : (0 : Int) ≤ (q : Int) := by omega
          have wq1 := i64_wrap (x := 5 * (q : Int)) (by omega) (by omega)
          have wq2 := i64_wrap (x := 5 * (q : Int) + 2) (by omega) (by omega)
          have HK := Hid.mk (And.intro (hX.gro GD (fun h => h) (fun _ _ h => h)) (And.intro (hK.gro GD (fun h => h) (fun _ _ h => h)) (And.intro (hG.join GD (Z := gX) (fun _ h => h) (fun _ h => h.elim)) e3)))
          have HB := Hid.mk (And.intro hlab hglt)
          have hdm := HM.out q
          obtain ⟨dn, hdn⟩ : ∃ dn, dn = (D q).length := ⟨_, rfl⟩
          have HDN := Hid.mk hdn
          rw [← hdn] at e2 hdm
          clear hX hK hG GD e1 e3 hlab hglt hDk em em2 hdn
          go_wp2

          refine wp_region_held_drew (S := (fun w' => w'.cell? ⟨gL, q, none⟩ = some (.slice ua dn dn))) (by kernel_rfl) (e2) (fun hHeld => ?_)
          refine wpAnyH_take (i := 0) (oi := { dst := some 29, op := Op.move (Operand.tmp 0), type := 24, pos := "book.go:85", after := #[], guard := none }) (v := .slice (some ⟨gL, 0, none⟩) k lc) rfl (by kernel_rfl) (by kernel_rfl) (by kernel_rfl) (fun _ _ _ h => h) (Or.inl ⟨by rfl, ?_⟩) (by assumption) ?_
          · intro w hSw
            (try dsimp only at hSw)
            go_simp
          try simp only [Act.put, List.setIfInBounds_toArray, List.set_cons_zero, List.set_cons_succ]
          refine wpAnyH_take (i := 1) (oi := { dst := some 30, op := Op.move (Operand.tmp 5), type := 3, pos := "book.go:85", after := #[], guard := none }) (v := .int .i64 (q : Int)) rfl (by kernel_rfl) (by kernel_rfl) (by kernel_rfl) (fun _ _ _ h => h) (Or.inl ⟨by rfl, ?_⟩) (by assumption) ?_
          · intro w hSw
            (try dsimp only at hSw)
            go_simp
          try simp only [Act.put, List.setIfInBounds_toArray, List.set_cons_zero, List.set_cons_succ]
          refine wpAnyH_take (i := 2) (oi := { dst := some 31, op := Op.indexAddr 24 (Operand.tmp 29) (Operand.tmp 30), type := 0, pos := "book.go:85", after := #[{ on := 0, ground := Ground.data }, { on := 1, ground := Ground.data }], guard := none }) (v := .pointer (some ⟨gL, q, none⟩)) rfl (by kernel_rfl) (by kernel_rfl) (by kernel_rfl) (fun _ _ _ h => h) (Or.inl ⟨by rfl, ?_⟩) (by assumption) ?_
          · intro w hSw
            (try dsimp only at hSw)
            go_simp
          try simp only [Act.put, List.setIfInBounds_toArray, List.set_cons_zero, List.set_cons_succ]
          refine wpAnyH_take (i := 3) (oi := { dst := some 32, op := Op.load 25 (Operand.tmp 31), type := 25, pos := "book.go:85", after := #[{ on := 2, ground := Ground.data }], guard := none }) (v := .slice ua dn dn) rfl (by kernel_rfl) (by kernel_rfl) (by kernel_rfl) (fun _ _ _ h => h) (Or.inl ⟨by rfl, ?_⟩) (by assumption) ?_
          · intro w hSw
            (try dsimp only at hSw)
            go_simp
          try simp only [Act.put, List.setIfInBounds_toArray, List.set_cons_zero, List.set_cons_succ]
          refine wpAnyH_take (i := 4) (oi := { dst := some 33, op := Op.move (Operand.tmp 5), type := 3, pos := "book.go:85", after := #[], guard := none }) (v := .int .i64 (q : Int)) rfl (by kernel_rfl) (by kernel_rfl) (by kernel_rfl) (fun _ _ _ h => h) (Or.inl ⟨by rfl, ?_⟩) (by assumption) ?_
          · intro w hSw
            (try dsimp only at hSw)
            go_simp
          try simp only [Act.put, List.setIfInBounds_toArray, List.set_cons_zero, List.set_cons_succ]
          refine wpAnyH_take (i := 5) (oi := { dst := some 34, op := Op.binOp BinOp.mul 3 (Operand.const (Value.int IntKind.i64 5)) (Operand.tmp 33) 3, type := 3, pos := "book.go:85", after := #[{ on := 4, ground := Ground.data }], guard := none }) (v := .int .i64 (5 * (q : Int))) rfl (by kernel_rfl) (by kernel_rfl) (by kernel_rfl) (fun _ _ _ h => h) (Or.inl ⟨by rfl, ?_⟩) (by assumption) ?_
          · intro w hSw
            (try dsimp only at hSw)
            go_simp
          try simp only [Act.put, List.setIfInBounds_toArray, List.set_cons_zero, List.set_cons_succ]
          refine wpAnyH_take (i := 6) (oi := { dst := some 35, op := Op.binOp BinOp.add 3 (Operand.tmp 34) (Operand.const (Value.int IntKind.i64 2)) 3, type := 3, pos := "book.go:85", after := #[{ on := 5, ground := Ground.data }], guard := none }) (v := .int .i64 (5 * (q : Int) + 2)) rfl (by kernel_rfl) (by kernel_rfl) (by kernel_rfl) (fun _ _ _ h => h) (Or.inl ⟨by rfl, ?_⟩) (by assumption) ?_
          · intro w hSw
            (try dsimp only at hSw)
            go_simp
          try simp only [Act.put, List.setIfInBounds_toArray, List.set_cons_zero, List.set_cons_succ]
          refine wpAnyH_ready (rs := [7]) (by kernel_rfl) (by simp) ?_
          refine AllReadyH.cons (o := { dst := some 36, op := Op.call { callee := Callee.value (Operand.func 19), args := #[Operand.tmp 35, Operand.const (Value.int IntKind.i64 1100)], argTypes := #[3, 3] }, type := 25, pos := "book.go:85", after := #[{ on := 6, ground := Ground.data }], guard := none }) rfl (fun K hK => ?_) AllReadyH.nil
          go_simp
          refine hr1.mono ?_
          rintro e w1 ⟨rv, rfl, hO, hbl⟩
          obtain ⟨hX, hKK, hG, e3⟩ := HK.out
          obtain ⟨ra, rc, hrv, hsl, _⟩ := hO.sl0 hG.lz (Nat.le_refl _)
          subst hrv
          have GB := Gro.below hG.lz hbl (fun _ => False)
          have hg := grow_any (y' := yM q) (e3.gro GB (fun h => h)) GB.lz ra rc hsl (by rw [rw_len]; omega) (by rw [rw_len]; omega) (by rw [rw_len]; have := HDN.out; omega) (yMK q q) (fun e => by have := yM_ge q; omega)
          rw [rw_len, rw_len, ← HDN.out] at hg
          have e2b := cell_later hbl e2
          have HK2 := Hid.mk (And.intro (hX.gro GB (fun h => h) (fun _ _ h => h)) (And.intro (hKK.gro GB (fun h => h) (fun _ _ h => h)) (hG.join GB (Z := gX) (fun _ h => h) (fun _ h => h.elim))))
          have HB2 : Hid (L gL = 37 ∧ gL < w1.heap.size) := ⟨HB.out.1, Nat.lt_of_lt_of_le HB.out.2 hbl.size⟩
          clear hX hKK hG e3 hO hsl GB hbl hr1
          rw [rw_len]
          refine hK.out _ _ ?_ (fun hHeld => ?_)
          · exact e2b
          clear hK K
          try simp only [Act.put, List.setIfInBounds_toArray, List.set_cons_zero, List.set_cons_succ]
          refine wpAnyH_ready (rs := [8]) (by kernel_rfl) (by simp) ?_
          refine AllReadyH.cons (o := { dst := some 37, op := Op.call { callee := Callee.value (Operand.func 18), args := #[Operand.tmp 32, Operand.tmp 36], argTypes := #[25, 25] }, type := 25, pos := "book.go:85", after := #[{ on := 3, ground := Ground.data }, { on := 7, ground := Ground.data }, { on := 7, ground := Ground.chain }], guard := none }) rfl (fun K hK => ?_) AllReadyH.nil
          go_simp
          refine hg.mono ?_
          rintro e w2 ⟨g, c, L2, rfl, G, hO⟩
          obtain ⟨hX, hKK, hG⟩ := HK2.out
          have e2c : w2.cell? ⟨gL, q, none⟩ = some (.slice ua dn dn) := (World.cell?_of_block (w := w1) (a := ⟨gL, q, none⟩) (G.block HB2.out.2 HB2.out.1 (fun e => y37m q e))).trans e2b
          refine hK.out _ _ ?_ (fun hHeld => ?_)
          · exact e2c
          clear hK K
          try simp only [Act.put, List.setIfInBounds_toArray, List.set_cons_zero, List.set_cons_succ]
          refine wpAnyH_take (i := 9) (oi := { dst := some 6, op := Op.assign (Operand.tmp 37), type := 25, pos := "book.go:85", after := #[{ on := 8, ground := Ground.data }, { on := 8, ground := Ground.chain }, { on := 0, ground := Ground.phase }, { on := 1, ground := Ground.phase }, { on := 2, ground := Ground.phase }, { on := 3, ground := Ground.phase }, { on := 4, ground := Ground.phase }, { on := 5, ground := Ground.phase }, { on := 6, ground := Ground.phase }, { on := 7, ground := Ground.phase }, { on := 8, ground := Ground.phase }], guard := none }) (v := .slice (some ⟨g, 0, none⟩) (dn + 1100) c) rfl (by kernel_rfl) (by kernel_rfl) (by kernel_rfl) (fun _ _ _ h => h) (Or.inl ⟨by rfl, ?_⟩) (by assumption) ?_
          · intro w hSw
            (try dsimp only at hSw)
            go_simp
          try simp only [Act.put, List.setIfInBounds_toArray, List.set_cons_zero, List.set_cons_succ]
          refine wpAnyH_done (by kernel_rfl) ?_ _
          have hX2 := hX.gro G (fun e => y38 q e) (fun i hi e => yM_ne (by rw [Ek_len] at hi; omega) e)
          have hK2 := hKK.gro G (fun e => y37m q e) (fun i _ e => yMK q i e.symm)
          have hG2 := hG.join G (Z := gX) (fun _ h => h) (fun y e => by rw [e]; exact .inr (.inr ⟨q, rfl⟩))
          have hml : (rw' (5 * q + 1) (D q).length ++ rw' (5 * q + 2) 1100).length = dn + 1100 := by rw [List.length_append, rw_len, rw_len, HDN.out]
          obtain ⟨g8, c8, w8, r8, L8, G8, X8⟩ := hX2.push hG2.lz y38 (by rw [Ek_len]; omega) (u := .slice (some ⟨g, 0, none⟩) (dn + 1100) c) (d := rw' (5 * q + 1) (D q).length ++ rw' (5 * q + 2) 1100) (by rw [Ek_len, hml, ← HDN.out]; exact hO)
          rw [Ek_len] at r8 X8
          have X9 : LO w8 L8 38 yM (.slice (some ⟨g8, 0, none⟩) (q + 1) c8) (Ek D (q + 1)) := by
            rw [Ek_succ]
            exact X8
          have HR := Hid.mk (And.intro X9 (And.intro (hK2.gro G8 (fun e => by omega) (fun i _ e => y38k i e.symm)) (hG2.join G8 (Z := gX) (fun _ h => h) (fun y e => .inl e))))
          have HA := Hid.mk r8
          clear hX hKK hG G hO e2c hX2 hK2 hG2 hml r8 G8 X8 X9 hHeld HK HK2 HB HB2 e2 e2b hg
          generalize dn + 1100 = nt at *
          go_wp2_with (at_builtin; refine swList_append_run rfl _ _ 24 rfl (.slice xa q xc) (.slice (some ⟨w2.heap.size, 0, none⟩) 1 1) _ rfl rfl HA.out ?_)
          go_roundw
          case rel => exact ⟨q + 1, L8, by omega, by go_num, HR.out⟩
          case measure => simp [intOf]; omega
        · obtain rfl : q = k := by omega
          have hlt' : ¬ (q : Int) < (q : Int) := by omega
          obtain ⟨W6, hW6⟩ : ∃ W, W = wr := ⟨_, rfl⟩
          subst hW6
          have H5 := Hid.mk (And.intro hX (And.intro hK hG))
          clear hX hK hG hlt hq
          go_wp2
          go_loopw [7] (fun i wr => ∃ t : Nat, t ≤ q ∧ i = .int .i64 (t : Int) ∧ Below W6.heap.size W6 wr) (fun i _ => q - (intOf i).toNat)
          case atStart => exact ⟨0, Nat.zero_le _, rfl, Below.refl _ _⟩
          case round =>
            obtain ⟨t, ht, rfl, hb⟩ := hrel
            obtain ⟨hX0, hK0, hG0⟩ := H5.out
            have HB := Hid.mk hb
            have GB := Gro.below hG0.lz hb (fun _ => False)
            have hX := hX0.gro GB (fun h => h) (fun _ _ h => h)
            have hK := hK0.gro GB (fun h => h) (fun _ _ h => h)
            by_cases hlt : t < q
            · obtain ⟨n, hn⟩ : ∃ n, n = (D t).length := ⟨_, rfl⟩
              have hn5 : n ≤ 1000 := by rw [hn]; exact HM.out t
              obtain ⟨gL, cL, ui, eL, fL, oL, _, _⟩ := hK.at hlt
              have hDk : Dk D q t = rw' (5 * t + 1) n := by simp [Dk, hlt, hn]
              rw [hDk] at oL
              obtain ⟨ia, hu, sL⟩ := oL.sl
              rw [rw_len] at hu sL
              subst hu
              obtain ⟨gG, cG, ug, eG, fG, oG⟩ := hX.at (i := t) (by rw [Ek_len]; exact hlt)
              rw [Ek_get, ← hn, List.length_append, rw_len, rw_len] at oG
              rw [Ek_len] at eG
              obtain ⟨ag, cg, rfl, sG, hcg⟩ := oG.src
              obtain ⟨gb, gcc, eg, _, _, _⟩ := oG.row (by omega)
              have ea : la = some ⟨gL, 0, none⟩ := by injection eL
              have ed : xa = some ⟨gG, 0, none⟩ := by injection eG
              have ee : ag = some ⟨gb, 0, none⟩ := by injection eg
              subst ea
              subst ed
              subst ee
              have hcgm : cg ≤ 9223372036854775807 := by
                obtain ⟨_, ⟨h0, _⟩ | ⟨g9, cap9, cur9, h9, _, _, _, h10, _, _⟩⟩ := oG.1
                · cases h0
                · injection h9 with q1 q2 q3
                  unfold maxLen at h10
                  omega
              have hdr : Below wr.heap.size wr wr.drew := (Keeps.drew (fun _ => False) wr).below (fun _ h => h.elim) (Nat.le_refl _)
              have hs4 : Src wr (some ⟨gb, 0, none⟩) n (rw' (5 * t + 1) n) := ⟨rw_len _ _, fun h => (by cases h), fun x hx i hi => by
                cases hx
                rw [addr_add, Nat.zero_add]
                have := sG.1.at (i := i) (by omega)
                rw [addr_add, Nat.zero_add] at this
                rw [this]
                simp [List.getD, List.getElem?_append_left, rw_len, hi]⟩
              have hs5 : Src wr (some ⟨gb, n, none⟩) 1100 (rw' (5 * t + 2) 1100) := ⟨rw_len _ _, fun h => (by cases h), fun x hx i hi => by
                cases hx
                rw [addr_add]
                have := sG.1.at (i := n + i) (by omega)
                rw [addr_add, Nat.zero_add] at this
                rw [this]
                simp [List.getD, List.getElem?_append_right, rw_len]⟩
              have HS := Hid.mk (And.intro sL.1 (And.intro hs4 hs5))
              have HC : Hid (∀ w', Below wr.heap.size wr w' → w'.cell? ⟨gL, t, none⟩ = some (.slice ia n n) ∧ w'.cell? ⟨gG, t, none⟩ = some (.slice (some ⟨gb, 0, none⟩) (n + 1100) cg)) := fun w' hw => ⟨cell_later hw fL, cell_later hw fG⟩
              have HDr := Hid.mk hdr
              have c0 := (HC.out wr (Below.refl _ _)).1
              have em1 : ((5 * t + 1 : Nat) : Int) = 5 * (t : Int) + 1 := by omega
              have em2 : ((5 * t + 2 : Nat) : Int) = 5 * (t : Int) + 2 := by omega
              have HR1 : Hid (∀ w', Calls Try.prog 19 #[.int .i64 (5 * (t : Int) + 1), .int .i64 (n : Int)] w' fun e w2 => ∃ v, e = .returned v ∧ Own w2 w'.heap.size v (rw' (5 * t + 1) n) ∧ Below w'.heap.size w' w2) := fun w' => by
                have := row_any (5 * t + 1) n (by omega) (by omega) w'
                rwa [em1] at this
              have HR2 : Hid (∀ w', Calls Try.prog 19 #[.int .i64 (5 * (t : Int) + 2), .int .i64 1100] w' fun e w2 => ∃ v, e = .returned v ∧ Own w2 w'.heap.size v (rw' (5 * t + 2) 1100) ∧ Below w'.heap.size w' w2) := fun w' => by
                have := row_any (5 * t + 2) 1100 (by omega) (by omega) w'
                rwa [em2] at this
              have wq0 := i64_wrap (x := 5 * (t : Int)) (by omega) (by omega)
              have wq1 := i64_wrap (x := 5 * (t : Int) + 1) (by omega) (by omega)
              have wq2 := i64_wrap (x := 5 * (t : Int) + 2) (by omega) (by omega)
              have hr1 := HR1.out wr.drew
              have hlt' : (t : Int) < (q : Int) := by omega
              have hk0 : (0 : Int) ≤ (t : Int) := by omega
              obtain ⟨nt, hnt⟩ : ∃ nt, nt = n + 1100 := ⟨_, rfl⟩
              rw [← hnt] at HC hcg
              have hn1 : n ≤ nt := by omega
              have hn2 : nt - n = 1100 := by omega
              have hn3 : (n : Int) ≤ (nt : Int) := by omega
              have hcn : ¬ cg = n := by omega
              have hcn1 : n ≤ cg := by omega
              have hcn3 : (n : Int) ≤ (cg : Int) := by omega
              clear hb hX hK hX0 hK0 hG0 GB oL sL oG sG hs4 hs5 eL eG eg fL fG hdr hn hnt em1 em2 hDk
              go_wp2
              refine wp_region_held_drew (S := (fun w' => w'.cell? ⟨gL, t, none⟩ = some (.slice ia n n) ∧ w'.cell? ⟨gG, t, none⟩ = some (.slice (some ⟨gb, 0, none⟩) nt cg))) (by kernel_rfl) (HC.out _ HDr.out) (fun hHeld => ?_)
              refine wpAnyH_take (i := 0) (oi := { dst := some 53, op := Op.move (Operand.tmp 0), type := 24, pos := "book.go:90", after := #[], guard := none }) (v := .slice (some ⟨gL, 0, none⟩) q lc) rfl (by kernel_rfl) (by kernel_rfl) (by kernel_rfl) (fun _ _ _ h => h) (Or.inl ⟨by rfl, ?_⟩) (by assumption) ?_
              · intro w hSw
                (try dsimp only at hSw)
                go_simp
              try simp only [Act.put, List.setIfInBounds_toArray, List.set_cons_zero, List.set_cons_succ]
              refine wpAnyH_take (i := 1) (oi := { dst := some 54, op := Op.move (Operand.tmp 7), type := 3, pos := "book.go:90", after := #[], guard := none }) (v := .int .i64 (t : Int)) rfl (by kernel_rfl) (by kernel_rfl) (by kernel_rfl) (fun _ _ _ h => h) (Or.inl ⟨by rfl, ?_⟩) (by assumption) ?_
              · intro w hSw
                (try dsimp only at hSw)
                go_simp
              try simp only [Act.put, List.setIfInBounds_toArray, List.set_cons_zero, List.set_cons_succ]
              refine wpAnyH_take (i := 2) (oi := { dst := some 55, op := Op.indexAddr 24 (Operand.tmp 53) (Operand.tmp 54), type := 0, pos := "book.go:90", after := #[{ on := 0, ground := Ground.data }, { on := 1, ground := Ground.data }], guard := none }) (v := .pointer (some ⟨gL, t, none⟩)) rfl (by kernel_rfl) (by kernel_rfl) (by kernel_rfl) (fun _ _ _ h => h) (Or.inl ⟨by rfl, ?_⟩) (by assumption) ?_
              · intro w hSw
                (try dsimp only at hSw)
                go_simp
              try simp only [Act.put, List.setIfInBounds_toArray, List.set_cons_zero, List.set_cons_succ]
              refine wpAnyH_take (i := 3) (oi := { dst := some 56, op := Op.load 25 (Operand.tmp 55), type := 25, pos := "book.go:90", after := #[{ on := 2, ground := Ground.data }], guard := none }) (v := .slice ia n n) rfl (by kernel_rfl) (by kernel_rfl) (by kernel_rfl) (fun _ _ _ h => h) (Or.inl ⟨by rfl, ?_⟩) (by assumption) ?_
              · intro w hSw
                (try dsimp only at hSw)
                go_simp
              try simp only [Act.put, List.setIfInBounds_toArray, List.set_cons_zero, List.set_cons_succ]
              refine wpAnyH_take (i := 4) (oi := { dst := some 57, op := Op.move (Operand.tmp 7), type := 3, pos := "book.go:90", after := #[], guard := none }) (v := .int .i64 (t : Int)) rfl (by kernel_rfl) (by kernel_rfl) (by kernel_rfl) (fun _ _ _ h => h) (Or.inl ⟨by rfl, ?_⟩) (by assumption) ?_
              · intro w hSw
                (try dsimp only at hSw)
                go_simp
              try simp only [Act.put, List.setIfInBounds_toArray, List.set_cons_zero, List.set_cons_succ]
              refine wpAnyH_take (i := 5) (oi := { dst := some 58, op := Op.binOp BinOp.mul 3 (Operand.const (Value.int IntKind.i64 5)) (Operand.tmp 57) 3, type := 3, pos := "book.go:90", after := #[{ on := 4, ground := Ground.data }], guard := none }) (v := .int .i64 (5 * (t : Int))) rfl (by kernel_rfl) (by kernel_rfl) (by kernel_rfl) (fun _ _ _ h => h) (Or.inl ⟨by rfl, ?_⟩) (by assumption) ?_
              · intro w hSw
                (try dsimp only at hSw)
                go_simp
              try simp only [Act.put, List.setIfInBounds_toArray, List.set_cons_zero, List.set_cons_succ]
              refine wpAnyH_take (i := 6) (oi := { dst := some 59, op := Op.binOp BinOp.add 3 (Operand.tmp 58) (Operand.const (Value.int IntKind.i64 1)) 3, type := 3, pos := "book.go:90", after := #[{ on := 5, ground := Ground.data }], guard := none }) (v := .int .i64 (5 * (t : Int) + 1)) rfl (by kernel_rfl) (by kernel_rfl) (by kernel_rfl) (fun _ _ _ h => h) (Or.inl ⟨by rfl, ?_⟩) (by assumption) ?_
              · intro w hSw
                (try dsimp only at hSw)
                go_simp
              try simp only [Act.put, List.setIfInBounds_toArray, List.set_cons_zero, List.set_cons_succ]
              refine wpAnyH_take (i := 7) (oi := { dst := some 60, op := Op.move (Operand.tmp 8), type := 3, pos := "book.go:90", after := #[], guard := none }) (v := .int .i64 (n : Int)) rfl (by kernel_rfl) (by kernel_rfl) (by kernel_rfl) (fun _ _ _ h => h) (Or.inl ⟨by rfl, ?_⟩) (by assumption) ?_
              · intro w hSw
                (try dsimp only at hSw)
                go_simp
              try simp only [Act.put, List.setIfInBounds_toArray, List.set_cons_zero, List.set_cons_succ]
              refine wpAnyH_ready (rs := [8]) (by kernel_rfl) (by simp) ?_
              refine AllReadyH.cons (o := { dst := some 61, op := Op.call { callee := Callee.value (Operand.func 19), args := #[Operand.tmp 59, Operand.tmp 60], argTypes := #[3, 3] }, type := 25, pos := "book.go:90", after := #[{ on := 6, ground := Ground.data }, { on := 7, ground := Ground.data }], guard := none }) rfl (fun K hK => ?_) AllReadyH.nil
              go_simp
              refine hr1.mono ?_
              rintro e x1 ⟨rv, rfl, hO, hbl⟩
              have hb1 : Below wr.heap.size wr x1 := HDr.out.trans (hbl.mono (Nat.le_refl _))
              obtain ⟨ra1, rc1, hrv, hsr1, _, _⟩ := hO.src
              subst hrv
              rw [rw_len] at hsr1
              rw [rw_len]
              clear hO hbl
              refine hK.out _ _ ?_ (fun hHeld => ?_)
              · exact HC.out _ hb1
              clear hK K
              try simp only [Act.put, List.setIfInBounds_toArray, List.set_cons_zero, List.set_cons_succ]
              have hsm1 := lsame_yes ia ra1 n n rc1 (rw' (5 * t + 1) n) x1 (by omega) (HS.out.1.later hb1) hsr1
              refine wpAnyH_ready (rs := [9]) (by kernel_rfl) (by simp) ?_
              refine AllReadyH.cons (o := { dst := some 62, op := Op.call { callee := Callee.value (Operand.func 9), args := #[Operand.tmp 56, Operand.tmp 61], argTypes := #[25, 25] }, type := 4, pos := "book.go:90", after := #[{ on := 3, ground := Ground.data }, { on := 8, ground := Ground.data }, { on := 8, ground := Ground.chain }], guard := none }) rfl (fun K hK => ?_) AllReadyH.nil
              go_simp
              refine hsm1.mono ?_
              rintro e y1 ⟨rfl, hbl⟩
              have hc1 : Below wr.heap.size wr y1 := hb1.trans (hbl.mono hb1.size)
              clear hbl
              have hr2 := HR1.out y1
              refine hK.out _ _ ?_ (fun hHeld => ?_)
              · exact HC.out _ hc1
              clear hK K
              try simp only [Act.put, List.setIfInBounds_toArray, List.set_cons_zero, List.set_cons_succ]
              refine wpAnyH_take (i := 10) (oi := { dst := some 63, op := Op.unOp UnOp.not 4 (Operand.tmp 62), type := 4, pos := "book.go:90", after := #[{ on := 9, ground := Ground.data }], guard := none }) (v := .bool false) rfl (by kernel_rfl) (by kernel_rfl) (by kernel_rfl) (fun _ _ _ h => h) (Or.inl ⟨by rfl, ?_⟩) (by assumption) ?_
              · intro w hSw
                (try dsimp only at hSw)
                go_simp
              try simp only [Act.put, List.setIfInBounds_toArray, List.set_cons_zero, List.set_cons_succ]
              refine wpAnyH_take (i := 11) (oi := { dst := some 64, op := Op.move (Operand.tmp 63), type := 4, pos := "book.go:90", after := #[{ on := 10, ground := Ground.data }, { on := 9, ground := Ground.chain }], guard := none }) (v := .bool false) rfl (by kernel_rfl) (by kernel_rfl) (by kernel_rfl) (fun _ _ _ h => h) (Or.inl ⟨by rfl, ?_⟩) (by assumption) ?_
              · intro w hSw
                (try dsimp only at hSw)
                go_simp
              try simp only [Act.put, List.setIfInBounds_toArray, List.set_cons_zero, List.set_cons_succ]
              refine wpAnyH_take (i := 12) (oi := { dst := some 65, op := Op.move (Operand.tmp 4), type := 24, pos := "book.go:90", after := #[{ on := 11, ground := Ground.guard }], guard := some (11, false) }) (v := .slice (some ⟨gG, 0, none⟩) q xc) rfl (by kernel_rfl) (by kernel_rfl) (by kernel_rfl) (fun _ _ _ h => h) (Or.inl ⟨by rfl, ?_⟩) (by assumption) ?_
              · intro w hSw
                (try dsimp only at hSw)
                go_simp
              try simp only [Act.put, List.setIfInBounds_toArray, List.set_cons_zero, List.set_cons_succ]
              refine wpAnyH_take (i := 13) (oi := { dst := some 66, op := Op.move (Operand.tmp 7), type := 3, pos := "book.go:90", after := #[{ on := 11, ground := Ground.guard }], guard := some (11, false) }) (v := .int .i64 (t : Int)) rfl (by kernel_rfl) (by kernel_rfl) (by kernel_rfl) (fun _ _ _ h => h) (Or.inl ⟨by rfl, ?_⟩) (by assumption) ?_
              · intro w hSw
                (try dsimp only at hSw)
                go_simp
              try simp only [Act.put, List.setIfInBounds_toArray, List.set_cons_zero, List.set_cons_succ]
              refine wpAnyH_take (i := 14) (oi := { dst := some 67, op := Op.indexAddr 24 (Operand.tmp 65) (Operand.tmp 66), type := 0, pos := "book.go:90", after := #[{ on := 12, ground := Ground.data }, { on := 13, ground := Ground.data }, { on := 11, ground := Ground.guard }], guard := some (11, false) }) (v := .pointer (some ⟨gG, t, none⟩)) rfl (by kernel_rfl) (by kernel_rfl) (by kernel_rfl) (fun _ _ _ h => h) (Or.inl ⟨by rfl, ?_⟩) (by assumption) ?_
              · intro w hSw
                (try dsimp only at hSw)
                go_simp
              try simp only [Act.put, List.setIfInBounds_toArray, List.set_cons_zero, List.set_cons_succ]
              refine wpAnyH_take (i := 15) (oi := { dst := some 68, op := Op.load 25 (Operand.tmp 67), type := 25, pos := "book.go:90", after := #[{ on := 14, ground := Ground.data }, { on := 11, ground := Ground.guard }], guard := some (11, false) }) (v := .slice (some ⟨gb, 0, none⟩) nt cg) rfl (by kernel_rfl) (by kernel_rfl) (by kernel_rfl) (fun _ _ _ h => h) (Or.inl ⟨by rfl, ?_⟩) (by assumption) ?_
              · intro w hSw
                (try dsimp only at hSw)
                go_simp
              try simp only [Act.put, List.setIfInBounds_toArray, List.set_cons_zero, List.set_cons_succ]
              refine wpAnyH_take (i := 16) (oi := { dst := some 69, op := Op.move (Operand.tmp 8), type := 3, pos := "book.go:90", after := #[{ on := 11, ground := Ground.guard }], guard := some (11, false) }) (v := .int .i64 (n : Int)) rfl (by kernel_rfl) (by kernel_rfl) (by kernel_rfl) (fun _ _ _ h => h) (Or.inl ⟨by rfl, ?_⟩) (by assumption) ?_
              · intro w hSw
                (try dsimp only at hSw)
                go_simp
              try simp only [Act.put, List.setIfInBounds_toArray, List.set_cons_zero, List.set_cons_succ]
              refine wpAnyH_take (i := 17) (oi := { dst := some 70, op := Op.slice 25 (Operand.tmp 68) none (some (Operand.tmp 69)) none, type := 25, pos := "book.go:90", after := #[{ on := 15, ground := Ground.data }, { on := 16, ground := Ground.data }, { on := 11, ground := Ground.guard }], guard := some (11, false) }) (v := .slice (some ⟨gb, 0, none⟩) n cg) rfl (by kernel_rfl) (by kernel_rfl) (by kernel_rfl) (fun _ _ _ h => h) (Or.inl ⟨by rfl, ?_⟩) (by assumption) ?_
              · intro w hSw
                (try dsimp only at hSw)
                go_simp
              try simp only [Act.put, List.setIfInBounds_toArray, List.set_cons_zero, List.set_cons_succ]
              refine wpAnyH_take (i := 18) (oi := { dst := some 71, op := Op.move (Operand.tmp 7), type := 3, pos := "book.go:90", after := #[{ on := 11, ground := Ground.guard }], guard := some (11, false) }) (v := .int .i64 (t : Int)) rfl (by kernel_rfl) (by kernel_rfl) (by kernel_rfl) (fun _ _ _ h => h) (Or.inl ⟨by rfl, ?_⟩) (by assumption) ?_
              · intro w hSw
                (try dsimp only at hSw)
                go_simp
              try simp only [Act.put, List.setIfInBounds_toArray, List.set_cons_zero, List.set_cons_succ]
              refine wpAnyH_take (i := 19) (oi := { dst := some 72, op := Op.binOp BinOp.mul 3 (Operand.const (Value.int IntKind.i64 5)) (Operand.tmp 71) 3, type := 3, pos := "book.go:90", after := #[{ on := 18, ground := Ground.data }, { on := 11, ground := Ground.guard }], guard := some (11, false) }) (v := .int .i64 (5 * (t : Int))) rfl (by kernel_rfl) (by kernel_rfl) (by kernel_rfl) (fun _ _ _ h => h) (Or.inl ⟨by rfl, ?_⟩) (by assumption) ?_
              · intro w hSw
                (try dsimp only at hSw)
                go_simp
              try simp only [Act.put, List.setIfInBounds_toArray, List.set_cons_zero, List.set_cons_succ]
              refine wpAnyH_take (i := 20) (oi := { dst := some 73, op := Op.binOp BinOp.add 3 (Operand.tmp 72) (Operand.const (Value.int IntKind.i64 1)) 3, type := 3, pos := "book.go:90", after := #[{ on := 19, ground := Ground.data }, { on := 11, ground := Ground.guard }], guard := some (11, false) }) (v := .int .i64 (5 * (t : Int) + 1)) rfl (by kernel_rfl) (by kernel_rfl) (by kernel_rfl) (fun _ _ _ h => h) (Or.inl ⟨by rfl, ?_⟩) (by assumption) ?_
              · intro w hSw
                (try dsimp only at hSw)
                go_simp
              try simp only [Act.put, List.setIfInBounds_toArray, List.set_cons_zero, List.set_cons_succ]
              refine wpAnyH_take (i := 21) (oi := { dst := some 74, op := Op.move (Operand.tmp 8), type := 3, pos := "book.go:90", after := #[{ on := 11, ground := Ground.guard }], guard := some (11, false) }) (v := .int .i64 (n : Int)) rfl (by kernel_rfl) (by kernel_rfl) (by kernel_rfl) (fun _ _ _ h => h) (Or.inl ⟨by rfl, ?_⟩) (by assumption) ?_
              · intro w hSw
                (try dsimp only at hSw)
                go_simp
              try simp only [Act.put, List.setIfInBounds_toArray, List.set_cons_zero, List.set_cons_succ]
              refine wpAnyH_ready (rs := [22]) (by kernel_rfl) (by simp) ?_
              refine AllReadyH.cons (o := { dst := some 75, op := Op.call { callee := Callee.value (Operand.func 19), args := #[Operand.tmp 73, Operand.tmp 74], argTypes := #[3, 3] }, type := 25, pos := "book.go:90", after := #[{ on := 20, ground := Ground.data }, { on := 21, ground := Ground.data }, { on := 11, ground := Ground.chain }, { on := 11, ground := Ground.guard }], guard := some (11, false) }) rfl (fun K hK => ?_) AllReadyH.nil
              go_simp
              refine hr2.mono ?_
              rintro e x2 ⟨rv, rfl, hO, hbl⟩
              have hb2 : Below wr.heap.size wr x2 := hc1.trans (hbl.mono hc1.size)
              obtain ⟨ra2, rc2, hrv, hsr2, _, _⟩ := hO.src
              subst hrv
              rw [rw_len] at hsr2
              rw [rw_len]
              clear hO hbl
              refine hK.out _ _ ?_ (fun hHeld => ?_)
              · exact HC.out _ hb2
              clear hK K
              try simp only [Act.put, List.setIfInBounds_toArray, List.set_cons_zero, List.set_cons_succ]
              have hsm2 := lsame_yes (some ⟨gb, 0, none⟩) ra2 n cg rc2 (rw' (5 * t + 1) n) x2 (by omega) (HS.out.2.1.later hb2) hsr2
              refine wpAnyH_ready (rs := [23]) (by kernel_rfl) (by simp) ?_
              refine AllReadyH.cons (o := { dst := some 76, op := Op.call { callee := Callee.value (Operand.func 9), args := #[Operand.tmp 70, Operand.tmp 75], argTypes := #[25, 25] }, type := 4, pos := "book.go:90", after := #[{ on := 17, ground := Ground.data }, { on := 22, ground := Ground.data }, { on := 22, ground := Ground.chain }, { on := 11, ground := Ground.guard }], guard := some (11, false) }) rfl (fun K hK => ?_) AllReadyH.nil
              go_simp
              refine hsm2.mono ?_
              rintro e y2 ⟨rfl, hbl⟩
              have hc2 : Below wr.heap.size wr y2 := hb2.trans (hbl.mono hb2.size)
              clear hbl
              have hr3 := HR2.out y2
              refine hK.out _ _ ?_ (fun hHeld => ?_)
              · exact HC.out _ hc2
              clear hK K
              try simp only [Act.put, List.setIfInBounds_toArray, List.set_cons_zero, List.set_cons_succ]
              refine wpAnyH_take (i := 24) (oi := { dst := some 77, op := Op.unOp UnOp.not 4 (Operand.tmp 76), type := 4, pos := "book.go:90", after := #[{ on := 23, ground := Ground.data }, { on := 11, ground := Ground.guard }], guard := some (11, false) }) (v := .bool false) rfl (by kernel_rfl) (by kernel_rfl) (by kernel_rfl) (fun _ _ _ h => h) (Or.inl ⟨by rfl, ?_⟩) (by assumption) ?_
              · intro w hSw
                (try dsimp only at hSw)
                go_simp
              try simp only [Act.put, List.setIfInBounds_toArray, List.set_cons_zero, List.set_cons_succ]
              refine wpAnyH_take (i := 25) (oi := { dst := some 78, op := Op.pick (Operand.tmp 64) (Operand.const (Value.bool true)) (Operand.tmp 77), type := 4, pos := "book.go:90", after := #[{ on := 11, ground := Ground.data }, { on := 24, ground := Ground.data }], guard := none }) (v := .bool false) rfl (by kernel_rfl) (by kernel_rfl) (by kernel_rfl) (fun _ _ _ h => h) (Or.inl ⟨by rfl, ?_⟩) (by assumption) ?_
              · intro w hSw
                (try dsimp only at hSw)
                go_simp
              try simp only [Act.put, List.setIfInBounds_toArray, List.set_cons_zero, List.set_cons_succ]
              refine wpAnyH_take (i := 26) (oi := { dst := some 79, op := Op.move (Operand.tmp 78), type := 4, pos := "book.go:90", after := #[{ on := 25, ground := Ground.data }, { on := 23, ground := Ground.chain }], guard := none }) (v := .bool false) rfl (by kernel_rfl) (by kernel_rfl) (by kernel_rfl) (fun _ _ _ h => h) (Or.inl ⟨by rfl, ?_⟩) (by assumption) ?_
              · intro w hSw
                (try dsimp only at hSw)
                go_simp
              try simp only [Act.put, List.setIfInBounds_toArray, List.set_cons_zero, List.set_cons_succ]
              refine wpAnyH_take (i := 27) (oi := { dst := some 80, op := Op.move (Operand.tmp 4), type := 24, pos := "book.go:90", after := #[{ on := 26, ground := Ground.guard }], guard := some (26, false) }) (v := .slice (some ⟨gG, 0, none⟩) q xc) rfl (by kernel_rfl) (by kernel_rfl) (by kernel_rfl) (fun _ _ _ h => h) (Or.inl ⟨by rfl, ?_⟩) (by assumption) ?_
              · intro w hSw
                (try dsimp only at hSw)
                go_simp
              try simp only [Act.put, List.setIfInBounds_toArray, List.set_cons_zero, List.set_cons_succ]
              refine wpAnyH_take (i := 28) (oi := { dst := some 81, op := Op.move (Operand.tmp 7), type := 3, pos := "book.go:90", after := #[{ on := 26, ground := Ground.guard }], guard := some (26, false) }) (v := .int .i64 (t : Int)) rfl (by kernel_rfl) (by kernel_rfl) (by kernel_rfl) (fun _ _ _ h => h) (Or.inl ⟨by rfl, ?_⟩) (by assumption) ?_
              · intro w hSw
                (try dsimp only at hSw)
                go_simp
              try simp only [Act.put, List.setIfInBounds_toArray, List.set_cons_zero, List.set_cons_succ]
              refine wpAnyH_take (i := 29) (oi := { dst := some 82, op := Op.indexAddr 24 (Operand.tmp 80) (Operand.tmp 81), type := 0, pos := "book.go:90", after := #[{ on := 27, ground := Ground.data }, { on := 28, ground := Ground.data }, { on := 26, ground := Ground.guard }], guard := some (26, false) }) (v := .pointer (some ⟨gG, t, none⟩)) rfl (by kernel_rfl) (by kernel_rfl) (by kernel_rfl) (fun _ _ _ h => h) (Or.inl ⟨by rfl, ?_⟩) (by assumption) ?_
              · intro w hSw
                (try dsimp only at hSw)
                go_simp
              try simp only [Act.put, List.setIfInBounds_toArray, List.set_cons_zero, List.set_cons_succ]
              refine wpAnyH_take (i := 30) (oi := { dst := some 83, op := Op.load 25 (Operand.tmp 82), type := 25, pos := "book.go:90", after := #[{ on := 29, ground := Ground.data }, { on := 26, ground := Ground.guard }], guard := some (26, false) }) (v := .slice (some ⟨gb, 0, none⟩) nt cg) rfl (by kernel_rfl) (by kernel_rfl) (by kernel_rfl) (fun _ _ _ h => h) (Or.inl ⟨by rfl, ?_⟩) (by assumption) ?_
              · intro w hSw
                (try dsimp only at hSw)
                go_simp
              try simp only [Act.put, List.setIfInBounds_toArray, List.set_cons_zero, List.set_cons_succ]
              refine wpAnyH_take (i := 31) (oi := { dst := some 84, op := Op.move (Operand.tmp 8), type := 3, pos := "book.go:90", after := #[{ on := 26, ground := Ground.guard }], guard := some (26, false) }) (v := .int .i64 (n : Int)) rfl (by kernel_rfl) (by kernel_rfl) (by kernel_rfl) (fun _ _ _ h => h) (Or.inl ⟨by rfl, ?_⟩) (by assumption) ?_
              · intro w hSw
                (try dsimp only at hSw)
                go_simp
              try simp only [Act.put, List.setIfInBounds_toArray, List.set_cons_zero, List.set_cons_succ]
              refine wpAnyH_take (i := 32) (oi := { dst := some 85, op := Op.slice 25 (Operand.tmp 83) (some (Operand.tmp 84)) none none, type := 25, pos := "book.go:90", after := #[{ on := 30, ground := Ground.data }, { on := 31, ground := Ground.data }, { on := 26, ground := Ground.guard }], guard := some (26, false) }) (v := .slice (some ⟨gb, n, none⟩) 1100 (cg - n)) rfl (by kernel_rfl) (by kernel_rfl) (by kernel_rfl) (fun _ _ _ h => h) (Or.inl ⟨by rfl, ?_⟩) (by assumption) ?_
              · intro w hSw
                (try dsimp only at hSw)
                go_simp
              try simp only [Act.put, List.setIfInBounds_toArray, List.set_cons_zero, List.set_cons_succ]
              refine wpAnyH_take (i := 33) (oi := { dst := some 86, op := Op.move (Operand.tmp 7), type := 3, pos := "book.go:90", after := #[{ on := 26, ground := Ground.guard }], guard := some (26, false) }) (v := .int .i64 (t : Int)) rfl (by kernel_rfl) (by kernel_rfl) (by kernel_rfl) (fun _ _ _ h => h) (Or.inl ⟨by rfl, ?_⟩) (by assumption) ?_
              · intro w hSw
                (try dsimp only at hSw)
                go_simp
              try simp only [Act.put, List.setIfInBounds_toArray, List.set_cons_zero, List.set_cons_succ]
              refine wpAnyH_take (i := 34) (oi := { dst := some 87, op := Op.binOp BinOp.mul 3 (Operand.const (Value.int IntKind.i64 5)) (Operand.tmp 86) 3, type := 3, pos := "book.go:90", after := #[{ on := 33, ground := Ground.data }, { on := 26, ground := Ground.guard }], guard := some (26, false) }) (v := .int .i64 (5 * (t : Int))) rfl (by kernel_rfl) (by kernel_rfl) (by kernel_rfl) (fun _ _ _ h => h) (Or.inl ⟨by rfl, ?_⟩) (by assumption) ?_
              · intro w hSw
                (try dsimp only at hSw)
                go_simp
              try simp only [Act.put, List.setIfInBounds_toArray, List.set_cons_zero, List.set_cons_succ]
              refine wpAnyH_take (i := 35) (oi := { dst := some 88, op := Op.binOp BinOp.add 3 (Operand.tmp 87) (Operand.const (Value.int IntKind.i64 2)) 3, type := 3, pos := "book.go:90", after := #[{ on := 34, ground := Ground.data }, { on := 26, ground := Ground.guard }], guard := some (26, false) }) (v := .int .i64 (5 * (t : Int) + 2)) rfl (by kernel_rfl) (by kernel_rfl) (by kernel_rfl) (fun _ _ _ h => h) (Or.inl ⟨by rfl, ?_⟩) (by assumption) ?_
              · intro w hSw
                (try dsimp only at hSw)
                go_simp
              try simp only [Act.put, List.setIfInBounds_toArray, List.set_cons_zero, List.set_cons_succ]
              refine wpAnyH_ready (rs := [36]) (by kernel_rfl) (by simp) ?_
              refine AllReadyH.cons (o := { dst := some 89, op := Op.call { callee := Callee.value (Operand.func 19), args := #[Operand.tmp 88, Operand.const (Value.int IntKind.i64 1100)], argTypes := #[3, 3] }, type := 25, pos := "book.go:90", after := #[{ on := 35, ground := Ground.data }, { on := 26, ground := Ground.chain }, { on := 26, ground := Ground.guard }], guard := some (26, false) }) rfl (fun K hK => ?_) AllReadyH.nil
              go_simp
              refine hr3.mono ?_
              rintro e x3 ⟨rv, rfl, hO, hbl⟩
              have hb3 : Below wr.heap.size wr x3 := hc2.trans (hbl.mono hc2.size)
              obtain ⟨ra3, rc3, hrv, hsr3, _, _⟩ := hO.src
              subst hrv
              rw [rw_len] at hsr3
              rw [rw_len]
              clear hO hbl
              refine hK.out _ _ ?_ (fun hHeld => ?_)
              · exact HC.out _ hb3
              clear hK K
              try simp only [Act.put, List.setIfInBounds_toArray, List.set_cons_zero, List.set_cons_succ]
              have hsm3 := lsame_yes (some ⟨gb, n, none⟩) ra3 1100 (cg - n) rc3 (rw' (5 * t + 2) 1100) x3 (by omega) (HS.out.2.2.later hb3) hsr3
              refine wpAnyH_ready (rs := [37]) (by kernel_rfl) (by simp) ?_
              refine AllReadyH.cons (o := { dst := some 90, op := Op.call { callee := Callee.value (Operand.func 9), args := #[Operand.tmp 85, Operand.tmp 89], argTypes := #[25, 25] }, type := 4, pos := "book.go:90", after := #[{ on := 32, ground := Ground.data }, { on := 36, ground := Ground.data }, { on := 36, ground := Ground.chain }, { on := 26, ground := Ground.guard }], guard := some (26, false) }) rfl (fun K hK => ?_) AllReadyH.nil
              go_simp
              refine hsm3.mono ?_
              rintro e y3 ⟨rfl, hbl⟩
              have hc3 : Below wr.heap.size wr y3 := hb3.trans (hbl.mono hb3.size)
              clear hbl
              refine hK.out _ _ ?_ (fun hHeld => ?_)
              · exact HC.out _ hc3
              clear hK K
              try simp only [Act.put, List.setIfInBounds_toArray, List.set_cons_zero, List.set_cons_succ]
              refine wpAnyH_take (i := 38) (oi := { dst := some 91, op := Op.unOp UnOp.not 4 (Operand.tmp 90), type := 4, pos := "book.go:90", after := #[{ on := 37, ground := Ground.data }, { on := 26, ground := Ground.guard }], guard := some (26, false) }) (v := .bool false) rfl (by kernel_rfl) (by kernel_rfl) (by kernel_rfl) (fun _ _ _ h => h) (Or.inl ⟨by rfl, ?_⟩) (by assumption) ?_
              · intro w hSw
                (try dsimp only at hSw)
                go_simp
              try simp only [Act.put, List.setIfInBounds_toArray, List.set_cons_zero, List.set_cons_succ]
              refine wpAnyH_take (i := 39) (oi := { dst := some 92, op := Op.pick (Operand.tmp 79) (Operand.const (Value.bool true)) (Operand.tmp 91), type := 4, pos := "book.go:90", after := #[{ on := 26, ground := Ground.data }, { on := 38, ground := Ground.data }], guard := none }) (v := .bool false) rfl (by kernel_rfl) (by kernel_rfl) (by kernel_rfl) (fun _ _ _ h => h) (Or.inl ⟨by rfl, ?_⟩) (by assumption) ?_
              · intro w hSw
                (try dsimp only at hSw)
                go_simp
              try simp only [Act.put, List.setIfInBounds_toArray, List.set_cons_zero, List.set_cons_succ]
              refine wpAnyH_done (by kernel_rfl) ?_ _
              have HF := Hid.mk (HB.out.trans (hc3.mono HB.out.size))
              clear hHeld hb1 hb2 hb3 hc1 hc2 hc3 hr1 hr2 hr3 hsm1 hsm2 hsm3 hsr1 hsr2 hsr3 HC HDr c0 HS HR1 HR2 HB
              go_wp2
              go_roundw
              case rel => exact ⟨t + 1, by omega, by go_num, HF.out⟩
              case measure => simp [intOf]; omega
            · obtain rfl : t = q := by omega
              have hlt' : ¬ (t : Int) < (t : Int) := by omega
              have HR := Hid.mk (hG0.join GB (Z := gX) (fun _ h => h) (fun _ h => h.elim))
              clear hb hX hK hX0 hK0 hG0 GB HB
              go_wp2
              go_ret
              exact ⟨rfl, _, HR.out⟩
end Go.Proofs.Ytohgdjlgbnpobaa
end

section
namespace Go.Proofs.Ytohgdjlgbnpobaa
open Go.RowKit

set_option maxRecDepth 20000 in
set_option maxHeartbeats 4000000 in
theorem seal_no1 (a : Option Addr) (n c : Nat) (a2 : Option Addr) (m c2 : Nat) (w : World) (hn : n ≠ 512) :
    Calls Try.prog 4 #[.slice a n c, .slice a2 m c2] w fun e w' => e = .returned (.tuple #[.slice none 0 0, .int .i64 2]) ∧ Below w.heap.size w w' := by
  have hz := zeroSec
  have hs := sectorOf_no a n c w hn
  have hinfo := infoSecZ
  have hone := zsec_one
  generalize zsec = Z at *
  have hall : Z.all Value.oneCell' = true := all_oneCell_toArray hone
  clear hone
  go_enter Try.func4, Try.ntmps4
  go_wp2_with fail
  refine hs.mono ?_
  rintro e w1 ⟨rfl, hb1⟩
  have hw1 : (w1.alloc (.cells Z 44)).heap[w1.heap.size]? = some (.cells Z 44 (0, 0)) := heap_alloc_new _ _
  have hth : (w1.alloc (.cells Z 44)).there w1.heap.size 0 Z.toList.length := there_of hw1 (by simp)
  have hB1 : Below w.heap.size w (w1.alloc (.cells Z 44)) := hb1.alloc hb1.size _
  have hsz := hb1.size
  have hB6 := Hid.mk (hB1.trans ((Keeps.setCells (F := fun j => j = w1.heap.size) rfl Z.toList 0 _).below (fun j hj => by omega) hB1.size))
  clear hs hw1 hB1 hb1
  go_wp2_with (refine wpList_store_mid rfl 44 _ _ rfl w1.heap.size 0 Z rfl rfl ?h1 ?h2 hall ?_)
  case h1 => simpa using hth
  case h2 => simpa using hinfo
  go_ret2
  exact ⟨rfl, hB6.out⟩

set_option maxRecDepth 20000 in
set_option maxHeartbeats 4000000 in
theorem seal_no2 (b o c : Nat) (old : List Int) (a2 : Option Addr) (m c2 : Nat) (w : World) (hs : Src w (some ⟨b, o, none⟩) 512 old) (hm : 504 < m) :
    Calls Try.prog 4 #[.slice (some ⟨b, o, none⟩) 512 c, .slice a2 m c2] w fun e w' => e = .returned (.tuple #[.slice none 0 0, .int .i64 7]) ∧ Below w.heap.size w w' := by
  have hz := zeroSec
  have hm' : 504 < (m : Int) := by omega
  have hs1 := sectorOf_ok b o c old w hs
  have hinfo := infoSecL (l := old) hs.1
  have hone := bs_one old
  have hll : (bs old).length = 512 := by rw [bs, List.length_map, hs.1]
  generalize bs old = F at *
  have hall := all_oneCell_toArray hone
  clear hone hs
  go_enter Try.func4, Try.ntmps4
  go_wp2_with fail
  refine hs1.mono ?_
  rintro e w1 ⟨rfl, hb1⟩
  have hw1 : (w1.alloc (.cells zsec 44)).heap[w1.heap.size]? = some (.cells zsec 44 (0, 0)) := heap_alloc_new _ _
  have hth := there_of hw1 zsec_size
  rw [← hll] at hth
  have hB1 : Below w.heap.size w (w1.alloc (.cells zsec 44)) := hb1.alloc hb1.size _
  have hsz := hb1.size
  have hB6 := Hid.mk (hB1.trans ((Keeps.setCells (F := fun j => j = w1.heap.size) rfl F 0 _).below (fun j hj => by omega) hB1.size))
  clear hs1 hw1 hB1 hb1
  go_wp2_with (refine wpList_store_mid rfl 44 _ _ rfl w1.heap.size 0 F.toArray rfl rfl ?h1 ?h2 hall ?_)
  case h1 => simpa using hth
  case h2 => simpa using hinfo
  go_ret2
  exact ⟨rfl, hB6.out⟩

set_option maxRecDepth 20000 in
set_option maxHeartbeats 4000000 in
theorem seal_ok (b o c : Nat) (old : List Int) (a2 : Option Addr) (m c2 : Nat) (body : List Int) (w : World) (hs : Src w (some ⟨b, o, none⟩) 512 old) (hs2 : Src w a2 m body) (hm : m ≤ 504) (hb : Bytes body) :
    Calls Try.prog 4 #[.slice (some ⟨b, o, none⟩) 512 c, .slice a2 m c2] w fun e w' => ∃ g, e = .returned (.tuple #[.slice (some ⟨g, 0, none⟩) 512 512, .int .i64 0]) ∧ Blk w' 44 g (sform (turnOf (old.getD 0 0) (old.getD 511 0)) body) ∧ w.heap.size ≤ g ∧ Below w.heap.size w w' := by
  have hz := zeroSec
  have hm' : ¬ 504 < (m : Int) := by omega
  have hs1 := sectorOf_ok b o c old w hs
  have hinfo := infoSecL (l := old) hs.1
  have hone := bs_one old
  have hll : (bs old).length = 512 := by rw [bs, List.length_map, hs.1]
  have holdl := hs.1
  have hall := all_oneCell_toArray hone
  have H2 := Hid.mk hs2
  have hlb := hs2.1
  have ht := turnOf_le (old.getD 0 0) (old.getD 511 0)
  obtain ⟨t, hteq⟩ : ∃ t, t = turnOf (old.getD 0 0) (old.getD 511 0) := ⟨_, rfl⟩
  rw [← hteq] at ht
  obtain ⟨F, hF⟩ : ∃ F, F = bs old := ⟨_, rfl⟩
  rw [← hF] at hs1 hinfo hone hll hall
  clear hone hs hs2
  go_enter Try.func4, Try.ntmps4
  go_wp2_with fail
  refine hs1.mono ?_
  rintro e w1 ⟨rfl, hb1⟩
  have hw1 : (w1.alloc (.cells zsec 44)).heap[w1.heap.size]? = some (.cells zsec 44 (0, 0)) := heap_alloc_new _ _
  have hth := there_of hw1 zsec_size
  rw [← hll] at hth
  have hB1 : Below w.heap.size w (w1.alloc (.cells zsec 44)) := hb1.alloc hb1.size _
  have hsz := hb1.size
  have hB2 := hB1.trans ((Keeps.setCells (F := fun j => j = w1.heap.size) rfl F 0 _).below (fun j hj => by omega) hB1.size)
  have hblk := blk_stored (l := old) hw1 (by rw [zsec_size, holdl])
  rw [← hF] at hblk
  have hnt := nextTurn_any w1.heap.size 0 (old.getD 0 0) (old.getD 511 0) _ (hblk.cell (by omega)) (hblk.cell (i := 511) (by omega))
  rw [← hteq] at hnt
  have hsd := sealed_any t a2 m c2 body _ (by omega) (H2.out.later hB2) hm hb
  obtain ⟨w2, hw2⟩ : ∃ w2, w2 = (w1.alloc (.cells zsec 44)).setCells w1.heap.size 0 F := ⟨_, rfl⟩
  rw [← hw2] at hnt hsd hB2
  have HB2 := Hid.mk hB2
  have Hteq := Hid.mk hteq
  clear hs1 hw1 hB1 hb1 hblk hB2 hteq hF H2
  go_wp2_with (refine wpList_store_mid rfl 44 _ _ rfl w1.heap.size 0 F.toArray rfl rfl ?h1 ?h2 hall ?_)
  case h1 => simpa using hth
  case h2 => simpa using hinfo
  rw [← hw2]
  refine hnt.mono ?_
  rintro e w' ⟨rfl, hw⟩
  have hw' := hw.symm
  subst hw'
  clear hw hnt hth hw2 hall hinfo
  have hfl : (sform t body).length = 512 := sform_len (by omega)
  have hinfo := infoSecL (l := sform t body) hfl
  have hall := all_oneCell_toArray (bs_one (sform t body))
  have hll2 : (bs (sform t body)).length = 512 := by rw [bs, List.length_map, hfl]
  obtain ⟨G, hG⟩ : ∃ G, G = bs (sform t body) := ⟨_, rfl⟩
  rw [← hG] at hsd hinfo hall hll2
  have HG := Hid.mk hG
  clear hG
  go_wp2_with fail
  refine hsd.mono ?_
  rintro e w3 ⟨rfl, hb3⟩
  have hB3 : Below w.heap.size w w3 := HB2.out.trans (hb3.mono HB2.out.size)
  have hw3 : (w3.alloc (.cells zsec 44)).heap[w3.heap.size]? = some (.cells zsec 44 (0, 0)) := heap_alloc_new _ _
  have hth := there_of hw3 zsec_size
  rw [← hll2] at hth
  have hblk := blk_stored (l := sform t body) hw3 (by rw [zsec_size, hfl])
  rw [← HG.out] at hblk
  have hsz3 := hB3.size
  have hB4 : Below w.heap.size w (w3.alloc (.cells zsec 44)) := hB3.alloc hB3.size _
  have hB5 := hB4.trans ((Keeps.setCells (F := fun j => j = w3.heap.size) rfl G 0 _).below (fun j hj => by omega) hB4.size)
  rw [Hteq.out] at hblk
  have HH := Hid.mk (And.intro hblk (And.intro hB3.size hB5))
  clear hsd hB3 hw3 hblk hB4 hB5 hb3 HB2
  go_wp2_with (refine wpList_store_mid rfl 44 _ _ rfl w3.heap.size 0 G.toArray rfl rfl ?h1 ?h2 hall ?_)
  case h1 => simpa using hth
  case h2 => simpa using hinfo
  go_ret2
  exact ⟨w3.heap.size, rfl, HH.out⟩
end Go.Proofs.Ytohgdjlgbnpobaa
end

section
namespace Go.Proofs.Ytohgdjlgbnpobaa
open Go.RowKit

/-- One byte appended to a list of one's own. -/
theorem wpList_app1 {ops : Array Oper} {rest : List Oper} {o : Oper} {a : Act} {Q : Exit → Act → World → Prop} {w : World} (hgd : o.guard = none) (s x : Operand)
    (hop : o.op = Op.call { callee := Callee.builtin Builtin.append, args := #[s, x], argTypes := #[25, 25] })
    (B : Nat) (v : Value) (l : List Int) (y : Int) (hs : a.eval s = v) (hx : a.eval x = .slice (some ⟨w.heap.size, 0, none⟩) 1 1) (hown : Own w B v l) (hlen : l.length ≤ 140737488355327) (hB : B ≤ w.heap.size)
    (hK : ∀ v' w', Own w' B v' (l ++ [y]) → Below B w w' → wpList Try.prog ops Q rest (a.put o.dst v') w') :
    wpList Try.prog ops Q (o :: rest) a (w.alloc (.cells #[.int .u8 y] 5)) := by
  obtain ⟨i0, hi, hz0, hz1, hz2⟩ := info_parts infoU8
  have ho : w.ownsRow B 5 1 v l.length (bs l) := hown
  refine wpList_append_own _ hgd s x 25 hop B 5 i0 (.int .u8 0) 1 1 Try.underlying25 hi hz0 hz1 hz2 rfl (by decide) v l.length (bs l) hs (ho.alloc _) ⟨w.heap.size, 0, none⟩ 1 1 [.int .u8 y] hx rfl (cell_one_new _ _ _) (by intro u hu; simp at hu; subst hu; rfl) (by unfold maxLen; omega) (by omega) (by simp; omega) ?_
  intro v' w1 hown' hgrow' _
  refine hK v' w1 ?_ (((Below.refl _ w).alloc hB _).grown hgrow' (by simp; omega) (fun q e => (ho.lt q e).1))
  rw [bs_snoc] at hown'
  exact own_of hown' (by simp) rfl
/-- How long a slice is. -/
def lenV : Value → Nat
  | .slice _ n _ => n
  | _ => 0
theorem Own.row' {w : World} {B : Nat} {v : Value} {l : List Int} (h : Own w B v l) (h0 : 0 < l.length) : ∃ g c, v = .slice (some ⟨g, 0, none⟩) l.length c ∧ B ≤ g ∧ RowAt w 5 g c (bs l) := by
  obtain ⟨a, c, rfl, _, _, _⟩ := h.src
  obtain ⟨g, rfl, _, hg, hr⟩ := h.row h0
  exact ⟨g, c, rfl, hg, hr⟩
theorem RowAt.get {w : World} {e : TypeId} {g c : Nat} {l : List Int} (h : RowAt w e g c (bs l)) {i : Nat} (hi : i < l.length) : w.cell? ⟨g, i, none⟩ = some (.int .u8 (l.getD i 0)) := by
  have := h.byte hi
  rwa [addr_add, Nat.zero_add] at this
end Go.Proofs.Ytohgdjlgbnpobaa
end
