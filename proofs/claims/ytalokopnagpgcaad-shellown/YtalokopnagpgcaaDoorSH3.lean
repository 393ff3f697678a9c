import Derived.Test.YtalokopnagpgcaaDoorSH2
namespace Go.Proofs.YtalokopnagpgcaaDoor
open Go.RowKit Go.Maps

/-- Bytes of a new list appended to a list of one's own. -/
theorem run_appn {W : World} {B g : Nat} {v : Value} {l ys : List Int} {m : Nat} (hown : Own W B v l) (hb : W.heap[g]? = some (.cells (ys.map (Value.int .u8)).toArray 5 (0, 0))) (hm : ys.length = m) (hlen : l.length + m ≤ 140737488355327) (hB : B ≤ W.heap.size) :
    ∃ v' w', (Builtin.append_ #[23, 23] 23 #[v, .slice (some ⟨g, 0, none⟩) m m]).run Tryd.prog W = .ok v' w' ∧ Own w' B v' (l ++ ys) ∧ Below B W w' := by
  obtain ⟨i0, hi, hz0, hz1, hz2⟩ := info_parts infoU8
  have ho : W.ownsRow B 5 1 v l.length (bs l) := hown
  obtain ⟨v', w', h1, h2, h3, _⟩ := run_append_own (P := Tryd.prog) W B 23 23 5 i0 (.int .u8 0) 1 1 Tryd.underlying23 hi hz0 hz1 hz2 rfl (by decide) v l.length (bs l) ho ⟨g, 0, none⟩ m m (bs ys) (by simp [hm]) (World.news_of_block (cs := (ys.map (Value.int .u8)).toArray) (t := 5) (fr := (0, 0)) hb) (by intro u hu; simp [bs] at hu; obtain ⟨_, _, rfl⟩ := hu; rfl) (by unfold maxLen; omega) (by omega) hB
  refine ⟨v', w', h1, ?_, (Below.refl _ W).grown h3 hB (fun q e => (ho.lt q e).1)⟩
  rw [← bs_append] at h2
  exact own_of h2 (by simp [hm]) rfl
theorem wpList_appn {ops : Array Oper} {rest : List Oper} {o : Oper} {a : Act} {Q : Exit → Act → World → Prop} {w : World} (hgd : o.guard = none) (s x : Operand)
    (hop : o.op = Op.call { callee := Callee.builtin Builtin.append, args := #[s, x], argTypes := #[23, 23] }) (hty : o.type = 23)
    (B : Nat) (v : Value) (l ys : List Int) (m : Nat) (hm : ys.length = m) (hs : a.eval s = v) (hx : a.eval x = .slice (some ⟨w.heap.size, 0, none⟩) m m) (hown : Own w B v l) (hlen : l.length + m ≤ 140737488355327) (hB : B ≤ w.heap.size)
    (hK : ∀ v' w', Own w' B v' (l ++ ys) → Below B w w' → wpList Tryd.prog ops Q rest (a.put o.dst v') w') :
    wpList Tryd.prog ops Q (o :: rest) a (w.alloc (.cells (ys.map (Value.int .u8)).toArray 5)) := by
  obtain ⟨v', w', h1, h2, h3⟩ := run_appn (hown.later ((Below.refl _ w).alloc (Nat.le_refl _) _)) (heap_alloc_new w _) hm hlen (by simp; omega)
  refine Lib.wpList_append_run _ hgd s x _ _ hop _ _ hs hx _ _ (by rw [hty]; exact h1) ?_
  exact hK v' w' h2 (((Below.refl _ w).alloc hB _).trans h3)
set_option maxRecDepth 20000 in
set_option maxHeartbeats 4000000 in
theorem rquote_any (a : Option Addr) (n c : Nat) (l : List UInt8) (w : World) (hn : n ≤ 100000000) (hs : Src w a n (ub l)) :
    Calls Tryd.prog 9 #[.slice a n c] w fun e w' => e = .returned (.string ⟨(quo l).toArray⟩) ∧ Below w.heap.size w w' := by
  have H := Hid.mk hs
  have hl : l.length = n := by rw [← ub_len]; exact hs.1
  clear hs
  go_enter Tryd.func9, Tryd.ntmps9
  go_wp2_with (at_builtin; refine wpList_appn rfl (.tmp 6) (.tmp 7) rfl rfl w.heap.size (.slice none 0 0) [] [34] 1 rfl rfl rfl (Own.nil _ _) (by simp) (Nat.le_refl _) ?_)
  intro v0 w0 hown0 hb0
  have HO0 := Hid.mk hown0
  have HB0 := Hid.mk hb0
  clear hown0 hb0
  go_wp2
  go_loopw [3, 4] (fun v i wr => ∃ k : Nat, k ≤ n ∧ i = .int .i64 k ∧ Own wr w.heap.size v (ub (34 :: escs (l.take k))) ∧ Below w.heap.size w wr) (fun _ i _ => n - (intOf i).toNat)
  case atStart =>
    refine ⟨0, Nat.zero_le _, rfl, ?_, HB0.out⟩
    have := HO0.out
    simpa [ub, escs] using this
  case round =>
    obtain ⟨k, hk, rfl, hown, hbr⟩ := hrel
    by_cases hlt : k < n
    · have hlt' : (k : Int) < (n : Int) := by omega
      obtain ⟨x, hx⟩ : ∃ x, l[k]? = some x := ⟨_, List.getElem?_eq_getElem (by omega)⟩
      obtain ⟨ad, had⟩ : ∃ ad, a = some ad := by
        cases a with
        | none => exact absurd (H.out.2.1 rfl) (by omega)
        | some ad => exact ⟨ad, rfl⟩
      subst had
      have hc := cell_later hbr (H.out.at hlt)
      rw [show (ub l).getD k 0 = (x.toNat : Int) by simp [ub, List.getD, hx]] at hc
      have hz := hbr.size
      have Hown := Hid.mk hown
      have HB := Hid.mk hbr
      have HX := Hid.mk hx
      clear hown hbr hx
      -- cases
      have hle1 : (ub (34 :: escs (l.take k))).length + 4 ≤ 140737488355327 := by
        have h2 := escs_len (l.take k)
        rw [ub_len]
        simp only [List.length_cons, List.length_take] at h2 ⊢
        omega
      rcases (show x = 92 ∨ x = 34 ∨ x = 10 ∨ x = 9 ∨ (x ≠ 92 ∧ x ≠ 34 ∧ x ≠ 10 ∧ x ≠ 9) by by_cases h1 : x = 92 <;> by_cases h2 : x = 34 <;> by_cases h3 : x = 10 <;> by_cases h4 : x = 9 <;> simp [*]) with rfl | rfl | rfl | rfl | ⟨h1, h2, h3, h4⟩
      · have hc' : wr.cell? (ad.add k) = some (.int .u8 92) := hc
        clear hc
        go_wp2_with (at_builtin; refine wpList_appn rfl (.tmp 30) (.tmp 32) rfl rfl w.heap.size u3 (ub (34 :: escs (l.take k))) [92, 92] 2 rfl rfl rfl Hown.out (by omega) hz ?_)
        intro v2 w2 hown2 hb2
        have HO2 := Hid.mk hown2
        have HB2 := Hid.mk (HB.out.trans hb2)
        clear hown2 hb2 Hown HB
        go_wp2
        go_roundw
        case rel =>
          refine ⟨k + 1, by omega, by go_num, ?_, HB2.out⟩
          rw [take_next HX.out, escs_snoc, ← List.cons_append, ub_app]
          exact HO2.out
        case measure => simp [intOf]; omega
      · have hc' : wr.cell? (ad.add k) = some (.int .u8 34) := hc
        clear hc
        go_wp2_with (at_builtin; refine wpList_appn rfl (.tmp 30) (.tmp 32) rfl rfl w.heap.size u3 (ub (34 :: escs (l.take k))) [92, 34] 2 rfl rfl rfl Hown.out (by omega) hz ?_)
        intro v2 w2 hown2 hb2
        have HO2 := Hid.mk hown2
        have HB2 := Hid.mk (HB.out.trans hb2)
        clear hown2 hb2 Hown HB
        go_wp2
        go_roundw
        case rel =>
          refine ⟨k + 1, by omega, by go_num, ?_, HB2.out⟩
          rw [take_next HX.out, escs_snoc, ← List.cons_append, ub_app]
          exact HO2.out
        case measure => simp [intOf]; omega
      · have hc' : wr.cell? (ad.add k) = some (.int .u8 10) := hc
        clear hc
        go_wp2_with (at_builtin; refine wpList_appn rfl (.tmp 37) (.tmp 38) rfl rfl w.heap.size u3 (ub (34 :: escs (l.take k))) [92, 110] 2 rfl rfl rfl Hown.out (by omega) hz ?_)
        intro v2 w2 hown2 hb2
        have HO2 := Hid.mk hown2
        have HB2 := Hid.mk (HB.out.trans hb2)
        clear hown2 hb2 Hown HB
        go_wp2
        go_roundw
        case rel =>
          refine ⟨k + 1, by omega, by go_num, ?_, HB2.out⟩
          rw [take_next HX.out, escs_snoc, ← List.cons_append, ub_app]
          exact HO2.out
        case measure => simp [intOf]; omega
      · have hc' : wr.cell? (ad.add k) = some (.int .u8 9) := hc
        clear hc
        go_wp2_with (at_builtin; refine wpList_appn rfl (.tmp 43) (.tmp 44) rfl rfl w.heap.size u3 (ub (34 :: escs (l.take k))) [92, 116] 2 rfl rfl rfl Hown.out (by omega) hz ?_)
        intro v2 w2 hown2 hb2
        have HO2 := Hid.mk hown2
        have HB2 := Hid.mk (HB.out.trans hb2)
        clear hown2 hb2 Hown HB
        go_wp2
        go_roundw
        case rel =>
          refine ⟨k + 1, by omega, by go_num, ?_, HB2.out⟩
          rw [take_next HX.out, escs_snoc, ← List.cons_append, ub_app]
          exact HO2.out
        case measure => simp [intOf]; omega
      · have hlt8 := x.toNat_lt
        have hne : ¬ (x = 92 ∨ x = 34) := fun h => h.elim h1 h2
        have c1 : ((x.toNat : Int) == 92) = false := ne_lit (k := 92) h1
        have c2 : ((x.toNat : Int) == 34) = false := ne_lit (k := 34) h2
        have c3 : ((x.toNat : Int) == 10) = false := ne_lit (k := 10) h3
        have c4 : ((x.toNat : Int) == 9) = false := ne_lit (k := 9) h4
        by_cases h5 : x.toNat < 32 ∨ 127 ≤ x.toNat
        · have hes : ub (esc x) = [92, 120, ((hx (x.toNat / 16)).toNat : Int), ((hx (x.toNat % 16)).toNat : Int)] := by
            unfold esc
            rw [if_neg hne, if_neg h3, if_neg h4, if_pos h5]
            rfl
          have i1 : (x.toNat : Int) / 16 = ((x.toNat / 16 : Nat) : Int) := by omega
          have i2 : (x.toNat : Int) % 16 = ((x.toNat % 16 : Nat) : Int) := by omega
          have i3 : x.toNat / 16 < 16 := by omega
          have i4 : x.toNat % 16 < 16 := by omega
          have d1 : (x.toNat : Int).tdiv 16 = ((x.toNat / 16 : Nat) : Int) := by rw [Int.tdiv_eq_ediv_of_nonneg (by omega)]; exact i1
          have d2 : (x.toNat : Int).tmod 16 = ((x.toNat % 16 : Nat) : Int) := by rw [Int.tmod_eq_emod_of_nonneg (by omega)]; exact i2
          have d3 : IntKind.u8.wrap ((x.toNat / 16 : Nat) : Int) = ((x.toNat / 16 : Nat) : Int) := by rw [IntKind.wrap_u8]; omega
          have d4 : IntKind.u8.wrap ((x.toNat % 16 : Nat) : Int) = ((x.toNat % 16 : Nat) : Int) := by rw [IntKind.wrap_u8]; omega
          have j1 := hx_cell _ i3
          have j2 := hx_cell _ i4
          have c5 : ((x.toNat : Int) < 32) ∨ ((126 : Int) < (x.toNat : Int)) := by omega
          have HES := Hid.mk hes
          clear hes h1 h2 h3 h4 h5 hne
          generalize (hx (x.toNat / 16)).toNat = H1 at *
          generalize (hx (x.toNat % 16)).toNat = H2 at *
          generalize x.toNat / 16 = Y at *
          generalize x.toNat % 16 = Z at *
          obtain ⟨v2, w2, hap, hown2, hb2⟩ := run_appn (W := (wr.alloc (.cells #[.int .u8 92, .int .u8 120, .int .u8 (H1 : Int), .int .u8 (H2 : Int)] 5)).drew) (ys := [92, 120, (H1 : Int), (H2 : Int)]) (m := 4) (Hown.out.later (below_drew ((Below.refl _ wr).alloc (Nat.le_refl _) _))) (heap_alloc_new wr _) rfl hle1 (by simp; omega)
          have HO2 := Hid.mk hown2
          have HB2 := Hid.mk (HB.out.trans ((below_drew ((Below.refl _ wr).alloc hz _)).trans hb2))
          clear hown2 hb2 Hown HB
          generalize (x.toNat : Int) = X at *
          rcases c5 with c5 | c5
          · go_wp2
            go_region_held3 (fun _ => True) (trivial) (refine Lib.wp_append_run _ (.tmp 53) (.tmp 60) _ _ rfl _ _ rfl rfl _ _ hap ?_)
            all_goals
              go_wp2
              go_roundw
              case rel =>
                refine ⟨k + 1, by omega, by go_num, ?_, HB2.out⟩
                rw [take_next HX.out, escs_snoc, ← List.cons_append, ub_app, HES.out]
                exact HO2.out
              case measure => simp [intOf]; omega
          · have c6 : ¬ X < 32 := by omega
            go_wp2
            go_region_held3 (fun _ => True) (trivial) (refine Lib.wp_append_run _ (.tmp 53) (.tmp 60) _ _ rfl _ _ rfl rfl _ _ hap ?_)
            all_goals
              go_wp2
              go_roundw
              case rel =>
                refine ⟨k + 1, by omega, by go_num, ?_, HB2.out⟩
                rw [take_next HX.out, escs_snoc, ← List.cons_append, ub_app, HES.out]
                exact HO2.out
              case measure => simp [intOf]; omega
        · have hes : ub (esc x) = [(x.toNat : Int)] := by
            unfold esc
            rw [if_neg hne, if_neg h3, if_neg h4, if_neg h5]
            rfl
          have c5 : ¬ ((x.toNat : Int) < 32) := by omega
          have c6 : ¬ ((126 : Int) < (x.toNat : Int)) := by omega
          have HES := Hid.mk hes
          clear hes h1 h2 h3 h4 h5 hne hlt8
          generalize (x.toNat : Int) = X at *
          go_wp2_with (at_builtin; refine wpList_appn rfl (.tmp 19) (.tmp 21) rfl rfl w.heap.size u3 (ub (34 :: escs (l.take k))) [X] 1 rfl rfl rfl Hown.out (by omega) hz ?_)
          intro v2 w2 hown2 hb2
          have HO2 := Hid.mk hown2
          have HB2 := Hid.mk (HB.out.trans hb2)
          clear hown2 hb2 Hown HB
          go_wp2
          go_roundw
          case rel =>
            refine ⟨k + 1, by omega, by go_num, ?_, HB2.out⟩
            rw [take_next HX.out, escs_snoc, ← List.cons_append, ub_app]
            rw [HES.out]
            exact HO2.out
          case measure => simp [intOf]; omega
    · have hlt' : ¬ (k : Int) < (n : Int) := by omega
      have hkn : k = n := by omega
      subst hkn
      have e1 : l.take k = l := by rw [← hl]; exact List.take_length
      rw [e1] at hown
      have hz := hbr.size
      have hlen : (ub (34 :: escs l)).length ≤ 140737488355327 := by
        have h2 := escs_len l
        rw [ub_len, List.length_cons]
        omega
      have Hown := Hid.mk hown
      have HB := Hid.mk hbr
      clear hown hbr
      go_wp2_with (at_builtin; refine wpList_app1 rfl (.tmp 62) (.tmp 63) rfl w.heap.size u3 (ub (34 :: escs l)) 34 rfl rfl Hown.out hlen hz ?_)
      intro v2 w2 hown2 hb2
      have hq : ub (34 :: escs l) ++ [34] = ub (quo l) := by simp [quo, ub]
      rw [hq] at hown2
      obtain ⟨g, c2, rfl, _, hr2⟩ := hown2.row' (by simp [quo, ub])
      have hcv := run_convert_bytes_arg (P := Tryd.prog) w2 23 5 Tryd.underlying23 Tryd.underlying5 g 0 (ub (quo l)).length c2 (ub (quo l)) rfl (fun j hj => by rw [Nat.zero_add]; exact hr2.get hj) 9 Tryd.underlying9
      rw [strOf_ub] at hcv
      have HB2 := Hid.mk (HB.out.trans hb2)
      clear hb2 HB hr2 hown2 hq Hown hlen
      generalize (ub (quo l)).length = N at *
      go_wp2
      go_ret
      exact ⟨rfl, HB2.out⟩
end Go.Proofs.YtalokopnagpgcaaDoor
