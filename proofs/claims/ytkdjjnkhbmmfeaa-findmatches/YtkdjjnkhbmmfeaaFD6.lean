import Derived.Test.YtkdjjnkhbmmfeaaFD5
namespace Go.Proofs.Ytkdjjnkhbmmfeaa
open Go.RowKit Go.Maps

/-- A piece of a pattern is read. -/
def pieceP : List Int → Option (Pc × List Int)
  | [] => none
  | b :: m => if b = 92 then (match m with | [] => none | c :: n => some (onlyP c, n)) else if b = 63 then some (⟨[], true, false, false⟩, m) else if b = 42 then some (⟨[], true, (starsL m).1, true⟩, (starsL m).2) else if b = 91 then setP m else some (onlyP b, m)
theorem starsL_len : ∀ (l : List Int), (starsL l).2.length ≤ l.length
  | [] => Nat.le_refl _
  | b :: l => by
    have := starsL_len l
    by_cases e : b = 42
    · simp only [starsL, if_pos e, List.length_cons]; omega
    · simp only [starsL, if_neg e]; exact Nat.le_refl _
theorem mems_len : ∀ (f : Nat) (l m : List Int) (ms : List (Int × Int)), memsP f l = some (ms, m) → m.length < l.length
  | 0, _, _, _, h => by cases h
  | f + 1, l, m, ms, h => by
    cases hm : memP l with
    | none => simp [memsP, hm] at h
    | some q =>
      obtain ⟨p, n⟩ := q
      have h1 := mem_len hm
      have h2 := took_len (m := n) (x := 93)
      simp only [memsP, hm] at h
      cases ht : (tookP n 93).1 with
      | true =>
        rw [ht, if_pos rfl] at h
        cases h
        omega
      | false =>
        rw [ht] at h
        simp only [Bool.false_eq_true, if_false, Option.map_eq_some_iff] at h
        obtain ⟨⟨a, b⟩, h3, h4⟩ := h
        cases h4
        have := mems_len f _ _ _ h3
        dsimp only
        omega
theorem piece_len {l m : List Int} {p : Pc} (h : pieceP l = some (p, m)) : m.length < l.length := by
  match l, h with
  | [], h => cases h
  | b :: l, h =>
    simp only [pieceP] at h
    by_cases e1 : b = 92
    · rw [if_pos e1] at h
      match l, h with
      | [], h => cases h
      | c :: n, h => cases h; simp; omega
    · rw [if_neg e1] at h
      by_cases e2 : b = 63
      · rw [if_pos e2] at h; cases h; simp
      · rw [if_neg e2] at h
        by_cases e3 : b = 42
        · rw [if_pos e3] at h; cases h; have := starsL_len l; simp; omega
        · rw [if_neg e3] at h
          by_cases e4 : b = 91
          · rw [if_pos e4] at h
            unfold setP at h
            rw [Option.map_eq_some_iff] at h
            obtain ⟨⟨a, c⟩, h3, h4⟩ := h
            cases h4
            have := mems_len _ _ _ _ h3
            have := took_len (m := l) (x := 33)
            simp; omega
          · rw [if_neg e4] at h; cases h; simp
section
variable {w w' : World} {r g : Nat} {b : Int} {l m : List Int} {G : Nat → Prop}
theorem PCv.form {B : Nat} {v : Value} {p : Pc} (h : PCv w B v p) : ∃ a n c, v = .agg #[.slice a n c, .bool p.oth, .bool p.sl, .bool p.many] ∧ w.ownsRow B 83 2 (.slice a n c) p.mem.length (mcs p.mem) := by
  obtain ⟨mv, rfl, ho⟩ := h
  obtain ⟨am, cm, rfl⟩ : ∃ am cm, mv = .slice am p.mem.length cm := by
    obtain ⟨_, ⟨rfl, h0⟩ | ⟨g', cap, cur, rfl, _⟩⟩ := ho
    · exact ⟨none, 0, by rw [h0]⟩
    · exact ⟨_, _, rfl⟩
  exact ⟨am, _, cm, rfl, ho⟩
/-- A piece is laid down and answered. -/
theorem piece_end {w2 : World} {am : Option Addr} {n c : Nat} {p : Pc} (b0 : w2.heap[w.heap.size]? = some (.cells #[.slice none 0 0, .bool false, .bool false, .bool false] 68 (0, 0))) (ho : w2.ownsRow (w.heap.size + 1) 83 2 (.slice am n c) p.mem.length (mcs p.mem)) (hr : RD w2 r g m) (hk : Keeps (fun k => k = r) w w2) (hrl : r < w.heap.size) (hgl : g < w.heap.size) :
    ((w2.cell? ⟨w.heap.size, 0, none⟩ = some (.slice none 0 0) ∧ (w2.setCell ⟨w.heap.size, 0, none⟩ (.slice am n c)).cell? ⟨w.heap.size, 1, none⟩ = some (.bool false) ∧ ((w2.setCell ⟨w.heap.size, 0, none⟩ (.slice am n c)).setCell ⟨w.heap.size, 1, none⟩ (.bool p.oth)).cell? ⟨w.heap.size, 2, none⟩ = some (.bool false) ∧ (((w2.setCell ⟨w.heap.size, 0, none⟩ (.slice am n c)).setCell ⟨w.heap.size, 1, none⟩ (.bool p.oth)).setCell ⟨w.heap.size, 2, none⟩ (.bool p.sl)).cell? ⟨w.heap.size, 3, none⟩ = some (.bool false)) ∧
    (w2.frozen? ⟨w.heap.size, 0, none⟩ = false ∧ (w2.setCell ⟨w.heap.size, 0, none⟩ (.slice am n c)).frozen? ⟨w.heap.size, 1, none⟩ = false ∧ ((w2.setCell ⟨w.heap.size, 0, none⟩ (.slice am n c)).setCell ⟨w.heap.size, 1, none⟩ (.bool p.oth)).frozen? ⟨w.heap.size, 2, none⟩ = false ∧ (((w2.setCell ⟨w.heap.size, 0, none⟩ (.slice am n c)).setCell ⟨w.heap.size, 1, none⟩ (.bool p.oth)).setCell ⟨w.heap.size, 2, none⟩ (.bool p.sl)).frozen? ⟨w.heap.size, 3, none⟩ = false)) ∧
    Hid (((((w2.setCell ⟨w.heap.size, 0, none⟩ (.slice am n c)).setCell ⟨w.heap.size, 1, none⟩ (.bool p.oth)).setCell ⟨w.heap.size, 2, none⟩ (.bool p.sl)).setCell ⟨w.heap.size, 3, none⟩ (.bool p.many)).rangeAt w.heap.size 0 [.slice am n c, .bool p.oth, .bool p.sl, .bool p.many] ∧
      PieceO w ((((w2.setCell ⟨w.heap.size, 0, none⟩ (.slice am n c)).setCell ⟨w.heap.size, 1, none⟩ (.bool p.oth)).setCell ⟨w.heap.size, 2, none⟩ (.bool p.sl)).setCell ⟨w.heap.size, 3, none⟩ (.bool p.many)) r g (.returned (.agg #[.slice am n c, .bool p.oth, .bool p.sl, .bool p.many])) (some (p, m))) := by
  obtain ⟨hq, hf, hb4, hk4⟩ := four_cells b0 (.slice am n c) (.bool p.oth) (.bool p.sl) (.bool p.many)
  exact ⟨⟨hq, hf⟩, range_block hb4, ⟨_, rfl, _, rfl, rowLower (rowA ho (fun k hk' => hk4.block k (rowL ho hk').1 (by have := (rowL ho hk').2.1; omega))) (by omega)⟩, hr.keep hk4 (by omega) (by omega), hk.trans hk4 (fun k e => .inr (by omega))⟩
set_option maxRecDepth 20000 in
set_option maxHeartbeats 8000000 in
theorem piece_any (h : RD w r g l) (hlen : l.length ≤ 1000) : Calls Try.prog 21 #[.pointer (some ⟨r, 0, none⟩)] w fun e w' => PieceO w w' r g e (pieceP l) := by
  have hB1 : Below w.heap.size w (w.alloc (.cells #[.slice none 0 0, .bool false, .bool false, .bool false] 68)) := (Below.refl _ _).alloc (Nat.le_refl _) _
  have hg1 := heap_alloc_new w (.cells #[.slice none 0 0, .bool false, .bool false, .bool false] 68)
  have hrl := h.lt
  have hgl := h.glt
  have hsz : (w.alloc (.cells #[.slice none 0 0, .bool false, .bool false, .bool false] 68)).heap.size = w.heap.size + 1 := World.size_alloc _ _
  have h0 := h.later hB1
  have HB := Hid.mk (And.intro hg1 (Keeps.of_below (fun k => k = r) hB1))
  clear h hB1 hg1
  match l, hlen, h0 with
  | [], _, h0 =>
    have kn := next_no h0
    clear h0
    go_enter Try.func21, Try.ntmps21
    go_wp2_with fail
    refine kn.mono ?_
    rintro e w1 ⟨rfl, hk1⟩
    exact ⟨rfl, rfl, HB.out.2.trans hk1 (fun k e => .inl e)⟩
  | b :: l, hlen, h0 =>
    have kn := next_ok h0
    have hlen' : l.length ≤ 1000 := by simp at hlen; omega
    clear h0 hlen
    go_enter Try.func21, Try.ntmps21
    go_wp2_with fail
    refine kn.mono ?_
    rintro e w1 ⟨rfl, hr1, hk1⟩
    have hz1 := hk1.size
    have HK1 : Hid (w1.heap[w.heap.size]? = some (.cells #[.slice none 0 0, .bool false, .bool false, .bool false] 68 (0, 0)) ∧ Keeps (fun k => k = r) w w1) := ⟨(hk1.block _ (lt_there HB.out.1) (by omega)).trans HB.out.1, HB.out.2.trans hk1 (fun k e => .inl e)⟩
    clear kn hk1 HB
    by_cases e1 : b = 92
    · subst e1
      rcases hl : l with _ | ⟨c, l2⟩
      · rw [hl] at hr1
        have hp : Hid (pieceP (92 :: l) = none) := Hid.mk (by rw [hl]; simp [pieceP])
        have k2 := next_no hr1
        clear hr1
        go_wp2_with fail
        refine k2.mono ?_
        rintro e w2 ⟨rfl, hk2⟩
        refine ⟨rfl, ?_⟩
        rw [hp.out]
        exact ⟨rfl, HK1.out.2.trans hk2 (fun k e => .inl e)⟩
      · rw [hl] at hr1
        have k2 := next_ok hr1
        have hp : Hid (pieceP (92 :: l) = some (onlyP c, l2)) := Hid.mk (by rw [hl]; simp [pieceP])
        clear hr1
        go_wp2_with fail
        refine k2.mono ?_
        rintro e w2 ⟨rfl, hr2, hk2⟩
        have hz2 := hk2.size
        have HK2 : Hid (RD w2 r g l2 ∧ w2.heap[w.heap.size]? = some (.cells #[.slice none 0 0, .bool false, .bool false, .bool false] 68 (0, 0)) ∧ Keeps (fun k => k = r) w w2) := ⟨hr2, (hk2.block _ (lt_there HK1.out.1) (by omega)).trans HK1.out.1, HK1.out.2.trans hk2 (fun k e => .inl e)⟩
        have k3 := only_any c w2
        clear k2 hr2 hk2 HK1
        go_wp2_with fail
        refine k3.mono ?_
        rintro e w3 ⟨⟨v, rfl, hv⟩, hb3⟩
        obtain ⟨am, n, cm, rfl, ho⟩ := hv.form
        obtain ⟨⟨⟨q0, q1, q2, q3⟩, f0, f1, f2, f3⟩, HE⟩ := piece_end (p := onlyP c) ((hb3.block _ (lt_there HK2.out.2.1)).trans HK2.out.2.1) (rowLower ho (by omega)) (HK2.out.1.later hb3) (HK2.out.2.2.trans (Keeps.of_below (fun k => k = r) hb3) (fun k e => .inl e)) hrl hgl
        generalize onlyP c = pp at *
        clear k3 hv hb3 HK2 ho
        go_wp2
        refine bodyPost_ret (results_agg (P := Try.prog) rfl _ _ w.heap.size [.slice am n cm, .bool pp.oth, .bool pp.sl, .bool pp.many] _ rfl HE.out.1 Try.underlying68 rfl (by kernel_rfl)) rfl ?_
        rw [hp.out]
        exact HE.out.2
    · have e1' : (b == 92) = false := by simp [e1]
      by_cases e2 : b = 63
      · subst e2
        have hp : Hid (pieceP (63 :: l) = some (⟨[], true, false, false⟩, l)) := Hid.mk (by simp [pieceP])
        obtain ⟨⟨⟨q0, q1, q2, q3⟩, f0, f1, f2, f3⟩, HE⟩ := piece_end (p := ⟨[], true, false, false⟩) (am := none) (n := 0) (c := 0) HK1.out.1 (World.ownsRow_nil _ _ _ _) hr1 HK1.out.2 hrl hgl
        clear hr1 HK1
        go_wp2
        refine bodyPost_ret (results_agg (P := Try.prog) rfl _ _ w.heap.size [.slice none 0 0, .bool true, .bool false, .bool false] _ rfl HE.out.1 Try.underlying68 rfl (by kernel_rfl)) rfl ?_
        rw [hp.out]
        exact HE.out.2
      · have e2' : (b == 63) = false := by simp [e2]
        by_cases e3 : b = 42
        · subst e3
          have hp : Hid (pieceP (42 :: l) = some (⟨[], true, (starsL l).1, true⟩, (starsL l).2)) := Hid.mk (by simp [pieceP])
          have k2 := stars_any hr1
          clear hr1
          go_wp2_with fail
          refine k2.mono ?_
          rintro e w2 ⟨rfl, hr2, hk2⟩
          have hz2 := hk2.size
          obtain ⟨⟨⟨q0, q1, q2, q3⟩, f0, f1, f2, f3⟩, HE⟩ := piece_end (p := ⟨[], true, (starsL l).1, true⟩) (am := none) (n := 0) (c := 0) ((hk2.block _ (lt_there HK1.out.1) (by omega)).trans HK1.out.1) (World.ownsRow_nil _ _ _ _) hr2 (HK1.out.2.trans hk2 (fun k e => .inl e)) hrl hgl
          dsimp only at q0 q1 q2 q3 f0 f1 f2 f3
          clear k2 hr2 hk2 HK1
          go_wp2
          refine bodyPost_ret (results_agg (P := Try.prog) rfl _ _ w.heap.size [.slice none 0 0, .bool true, .bool (starsL l).1, .bool true] _ rfl HE.out.1 Try.underlying68 rfl (by kernel_rfl)) rfl ?_
          rw [hp.out]
          exact HE.out.2
        · have e3' : (b == 42) = false := by simp [e3]
          by_cases e4 : b = 91
          · subst e4
            have hp : Hid (pieceP (91 :: l) = setP l) := Hid.mk (by simp [pieceP])
            have k2 := set_any hr1 hlen'
            clear hr1
            cases hs : setP l with
            | none =>
              rw [hs] at k2
              go_wp2_with fail
              refine k2.mono ?_
              rintro e w2 ⟨rfl, hk2⟩
              refine ⟨rfl, ?_⟩
              rw [hp.out, hs]
              exact ⟨rfl, HK1.out.2.trans hk2 (fun k e => .inl e)⟩
            | some q =>
              obtain ⟨pp, m⟩ := q
              rw [hs] at k2
              go_wp2_with fail
              refine k2.mono ?_
              rintro e w2 ⟨⟨v, rfl, hv⟩, hr2, hk2⟩
              have hz2 := hk2.size
              obtain ⟨am, n, cm, rfl, ho⟩ := hv.form
              obtain ⟨⟨⟨q0, q1, q2, q3⟩, f0, f1, f2, f3⟩, HE⟩ := piece_end (p := pp) ((hk2.block _ (lt_there HK1.out.1) (by omega)).trans HK1.out.1) (rowLower ho (by omega)) hr2 (HK1.out.2.trans hk2 (fun k e => .inl e)) hrl hgl
              clear k2 hv hr2 hk2 HK1 ho
              go_wp2
              refine bodyPost_ret (results_agg (P := Try.prog) rfl _ _ w.heap.size [.slice am n cm, .bool pp.oth, .bool pp.sl, .bool pp.many] _ rfl HE.out.1 Try.underlying68 rfl (by kernel_rfl)) rfl ?_
              rw [hp.out, hs]
              exact HE.out.2
          · have e4' : (b == 91) = false := by simp [e4]
            have hp : Hid (pieceP (b :: l) = some (onlyP b, l)) := Hid.mk (by simp [pieceP, e1, e2, e3, e4])
            have k3 := only_any b w1
            have HR1 := Hid.mk hr1
            clear e1 e2 e3 e4 hr1
            go_wp2_with fail
            refine k3.mono ?_
            rintro e w3 ⟨⟨v, rfl, hv⟩, hb3⟩
            obtain ⟨am, n, cm, rfl, ho⟩ := hv.form
            obtain ⟨⟨⟨q0, q1, q2, q3⟩, f0, f1, f2, f3⟩, HE⟩ := piece_end (p := onlyP b) ((hb3.block _ (lt_there HK1.out.1)).trans HK1.out.1) (rowLower ho (by omega)) (HR1.out.later hb3) (HK1.out.2.trans (Keeps.of_below (fun k => k = r) hb3) (fun k e => .inl e)) hrl hgl
            generalize onlyP b = pp at *
            clear k3 hv hb3 HK1 HR1 ho
            go_wp2
            refine bodyPost_ret (results_agg (P := Try.prog) rfl _ _ w.heap.size [.slice am n cm, .bool pp.oth, .bool pp.sl, .bool pp.many] _ rfl HE.out.1 Try.underlying68 rfl (by kernel_rfl)) rfl ?_
            rw [hp.out]
            exact HE.out.2
end
end Go.Proofs.Ytkdjjnkhbmmfeaa
