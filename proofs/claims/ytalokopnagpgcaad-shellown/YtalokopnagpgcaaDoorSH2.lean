import Derived.Test.YtalokopnagpgcaaDoorSH1
namespace Go.Proofs.YtalokopnagpgcaaDoor
open Go.RowKit Go.Maps

theorem wpList_apps {ops : Array Oper} {rest : List Oper} {o : Oper} {a : Act} {Q : Exit → Act → World → Prop} {w : World} (hgd : o.guard = none) (s x : Operand)
    (hop : o.op = Op.call { callee := Callee.builtin Builtin.append, args := #[s, x], argTypes := #[23, 9] })
    (B : Nat) (v : Value) (l m : List UInt8) (hs : a.eval s = v) (hx : a.eval x = .string ⟨m.toArray⟩) (hown : Own w B v (ub l)) (hlen : l.length + m.length ≤ 140737488355327) (hB : B ≤ w.heap.size)
    (hK : ∀ v' w', Own w' B v' (ub (l ++ m)) → Below B w w' → wpList Tryd.prog ops Q rest (a.put o.dst v') w') :
    wpList Tryd.prog ops Q (o :: rest) a w := by
  obtain ⟨i0, hi, hz0, hz1, hz2⟩ := info_parts infoU8
  have ho : w.ownsRow B 5 1 v (ub l).length (bs (ub l)) := hown
  have hm : (⟨m.toArray⟩ : ByteArray).size = m.length := by simp [ByteArray.size]
  refine Lib.wpList_append_own_string (P := Tryd.prog) w hgd s x 23 9 hop B 5 i0 Tryd.underlying23 Tryd.underlying9 hi hz0 hz1 hz2 v (ub l).length (bs (ub l)) hs ho ⟨m.toArray⟩ hx (by rw [hm, ub_len]; unfold maxLen; omega) (by rw [hm, ub_len]; omega) hB ?_
  intro v' w1 hown' hgrow' _
  refine hK v' w1 ?_ ((Below.refl _ w).grown hgrow' hB (fun q e => (ho.lt q e).1))
  rw [strCells_ub, ← bs_append, ← ub_app] at hown'
  exact own_of hown' (by rw [hm, ub_len, ub_len, List.length_append]) rfl

theorem own_new1 (w : World) (x : Int) : Own (w.alloc (.cells #[.int .u8 x] 5)) w.heap.size (.slice (some ⟨w.heap.size, 0, none⟩) 1 1) [x] :=
  ⟨by simp, .inr ⟨w.heap.size, 1, _, rfl, Nat.le_refl _, heap_alloc_new w _, by simp, by unfold maxLen; omega, by simp, by simp⟩⟩
theorem take_next {l : List UInt8} {k : Nat} {c : UInt8} (h : l[k]? = some c) : l.take (k + 1) = l.take k ++ [c] := by
  obtain ⟨hk, e⟩ := List.getElem?_eq_some_iff.1 h
  rw [List.take_succ_eq_append_getElem hk, e]

set_option maxRecDepth 20000 in
set_option maxHeartbeats 4000000 in
theorem quote_any (a : Option Addr) (n c : Nat) (l : List UInt8) (w : World) (hn : n ≤ 100000000) (hs : Src w a n (ub l)) :
    Calls Tryd.prog 7 #[.slice a n c] w fun e w' => e = .returned (.string ⟨(quo l).toArray⟩) ∧ Below w.heap.size w w' := by
  have H := Hid.mk hs
  have hl : l.length = n := by rw [← ub_len]; exact hs.1
  have hesc := escaped_any
  clear hs
  go_enter Tryd.func7, Tryd.ntmps7
  go_wp2
  go_loopw [3, 9] (fun v i wr => ∃ k : Nat, k ≤ n ∧ i = .int .i64 k ∧ Own wr w.heap.size v (ub (34 :: escs (l.take k))) ∧ Below w.heap.size w wr) (fun _ i _ => n - (intOf i).toNat)
  case atStart =>
    refine ⟨0, Nat.zero_le _, rfl, ?_, (Below.refl _ _).alloc (Nat.le_refl _) _⟩
    have := own_new1 w 34
    simpa [ub, escs] using this
  case round =>
    obtain ⟨k, hk, rfl, hown, hbr⟩ := hrel
    by_cases hlt : k < n
    · have hlt' : (k : Int) < (n : Int) := by omega
      obtain ⟨x, hx⟩ : ∃ x, l[k]? = some x := ⟨_, List.getElem?_eq_getElem (by omega)⟩
      obtain ⟨ad, had⟩ : ∃ ad, a = some ad := by
        cases a with
        | none => exact absurd (H.out.2.1 rfl) (by omega)
        | some ad => exact ⟨ad, rfl⟩
      subst had
      have hc := cell_later hbr (H.out.at hlt)
      rw [show (ub l).getD k 0 = (x.toNat : Int) by simp [ub, List.getD, hx]] at hc
      have hz := hbr.size
      have Hown := Hid.mk hown
      have HB := Hid.mk hbr
      have HX := Hid.mk hx
      clear hown hbr hx
      go_wp2_with fail
      refine (hesc x _).mono ?_
      rintro e w1 ⟨rfl, hb1⟩
      have HO1 := Hid.mk (Hown.out.later hb1)
      have HB1 := Hid.mk (HB.out.trans (hb1.mono hz))
      have hz1 := hb1.size
      clear hb1 Hown HB
      have hle1 : (34 :: escs (l.take k)).length + (esc x).length ≤ 140737488355327 := by
        have h1 := esc_len x
        have h2 := escs_len (l.take k)
        simp only [List.length_cons, List.length_take] at h2 ⊢
        omega
      go_wp2_with (at_builtin; refine wpList_apps rfl _ _ rfl w.heap.size _ (34 :: escs (l.take k)) (esc x) rfl rfl HO1.out hle1 (by omega) ?_)
      intro v2 w2 hown2 hb2
      have HO2 := Hid.mk hown2
      have HB2 := Hid.mk (HB1.out.trans hb2)
      clear hown2 hb2 HO1 HB1
      go_wp2
      go_roundw
      case rel =>
        refine ⟨k + 1, by omega, by go_num, ?_, HB2.out⟩
        have := HO2.out
        rw [take_next HX.out, escs_snoc]
        exact this
      case measure => simp [intOf]; omega
    · have hlt' : ¬ (k : Int) < (n : Int) := by omega
      have hkn : k = n := by omega
      subst hkn
      have e1 : l.take k = l := by rw [← hl]; exact List.take_length
      rw [e1] at hown
      have hz := hbr.size
      have hlen : (ub (34 :: escs l)).length ≤ 140737488355327 := by
        have h2 := escs_len l
        rw [ub_len, List.length_cons]
        omega
      have Hown := Hid.mk hown
      have HB := Hid.mk hbr
      clear hown hbr
      go_wp2_with (at_builtin; refine wpList_app1 rfl (.tmp 18) (.tmp 19) rfl w.heap.size u3 (ub (34 :: escs l)) 34 rfl rfl Hown.out hlen hz ?_)
      intro v2 w2 hown2 hb2
      have hq : ub (34 :: escs l) ++ [34] = ub (quo l) := by simp [quo, ub]
      rw [hq] at hown2
      obtain ⟨g, c2, rfl, _, hr2⟩ := hown2.row' (by simp [quo, ub])
      have hcv := run_convert_bytes_arg (P := Tryd.prog) w2 23 5 Tryd.underlying23 Tryd.underlying5 g 0 (ub (quo l)).length c2 (ub (quo l)) rfl (fun j hj => by rw [Nat.zero_add]; exact hr2.get hj) 9 Tryd.underlying9
      rw [strOf_ub] at hcv
      have HB2 := Hid.mk (HB.out.trans hb2)
      clear hb2 HB hr2 hown2 hq Hown hlen
      generalize (ub (quo l)).length = N at *
      go_wp2
      go_ret
      exact ⟨rfl, HB2.out⟩
end Go.Proofs.YtalokopnagpgcaaDoor
