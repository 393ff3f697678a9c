import Derived.Test.YtkkmkogpbhcpmaaXLasts
namespace Go.Proofs.Ytkkmkogpbhcpmaa
open Go.RowKit Go.Maps

theorem wr_dead {S : DS} (h : S.fuse = 0) (s : Nat) (x : Int) (n : Nat) (l : List Int) : S.wr s x n l = (3, S) := by simp [DS.wr, h]
theorem wr_out {S : DS} (h : S.fuse ≠ 0) {s : Nat} {x : Int} (hx : x < 0 ∨ (s : Int) ≤ x) (n : Nat) (l : List Int) : S.wr s x n l = (11, S.refuse) := by simp only [DS.wr, h, if_false, hx, if_true]
theorem wr_len {S : DS} (h : S.fuse ≠ 0) {s k : Nat} (hk : k < s) {n : Nat} (hn : n ≠ 512) (l : List Int) : S.wr s (k : Int) n l = (2, S.refuse) := by
  have hx : ¬ ((k : Int) < 0 ∨ (s : Int) ≤ (k : Int)) := by omega
  simp only [DS.wr, h, if_false, hx, ne_eq, hn, not_false_eq_true, if_true]
theorem wr_good {S : DS} (h : S.fuse ≠ 0) {s k : Nat} (hk : k < s) (l : List Int) : S.wr s (k : Int) 512 l = (0, (S.put k l).wrote.spend) := by
  have hx : ¬ ((k : Int) < 0 ∨ (s : Int) ≤ (k : Int)) := by omega
  simp only [DS.wr, h, if_false, hx, ne_eq, not_true_eq_false, Int.toNat_natCast]
theorem rd_dead {S : DS} (h : S.fuse = 0) (s : Nat) (x : Int) : S.rd s x = (3, S, []) := by simp [DS.rd, h]
theorem rd_out {S : DS} (h : S.fuse ≠ 0) {s : Nat} {x : Int} (hx : x < 0 ∨ (s : Int) ≤ x) : S.rd s x = (11, S.refuse, []) := by simp only [DS.rd, h, if_false, hx, if_true]
theorem rd_good {S : DS} (h : S.fuse ≠ 0) {s k : Nat} (hk : k < s) : S.rd s (k : Int) = (0, S.read, S.now k) := by
  have hx : ¬ ((k : Int) < 0 ∨ (s : Int) ≤ (k : Int)) := by omega
  simp only [DS.rd, h, if_false, hx, Int.toNat_natCast]
theorem fl_dead {S : DS} (h : S.fuse = 0) (s : Nat) : S.fl s = (3, S) := by simp [DS.fl, h]
theorem fl_good {S : DS} (h : S.fuse ≠ 0) (s : Nat) : S.fl s = (0, (S.flush s).spend) := by simp only [DS.fl, h, if_false]
theorem act_fuse_same {S : DS} {s : Nat} {kind x : Int} {n : Nat} {l : List Int} {pl : List P3} (h1 : kind ≠ 1) (h2 : kind ≠ 2) (h3 : kind ≠ 3) (h4 : kind ≠ 4) (h6 : kind ≠ 6) : (S.act s kind x n l pl).fuse = S.fuse := by
  simp only [DS.act, h1, h2, h3, h4, h6, if_false]
  split <;> rfl

/-- What holds between the rounds. -/
def Fu (w wr : World) (p s j N dn : Nat) : Prop := dn ≤ N ∧ ∃ F S, Dk w wr F p s S ∧ S.puts.length ≤ j ∧ S.fuse = (N : Int) - (dn : Int)

set_option maxHeartbeats 8000000 in
set_option maxRecDepth 100000 in
theorem diskFused_any (sec0 n0 : Int) (hn0 : n0 ≤ 9223372036854775807) (sa : Option Addr) (sn sc : Nat) (w : World) (hsc : Script w w.heap.size sa sn) (hsn : 64 * sn ≤ 140737488355328) :
    Calls Try.prog 3 #[.int .i64 sec0, .int .i64 n0, .slice sa sn sc] w fun e w' => e = .returned (.bool true) ∧ Below w.heap.size w w' := by
  by_cases hq1 : n0 < 0
  · go_enter Try.func3, Try.ntmps3
    go_wp2
    go_ret
    exact ⟨rfl, Below.refl _ _⟩
  by_cases hq2 : sec0 < 1
  · go_enter Try.func3, Try.ntmps3
    go_wp2
    go_ret
    exact ⟨rfl, Below.refl _ _⟩
  by_cases hq3 : 2048 < sec0
  · go_enter Try.func3, Try.ntmps3
    go_wp2
    go_ret
    exact ⟨rfl, Below.refl _ _⟩
  obtain ⟨s, rfl⟩ : ∃ s : Nat, sec0 = (s : Int) := ⟨sec0.toNat, by omega⟩
  obtain ⟨N, rfl⟩ : ∃ N : Nat, n0 = (N : Int) := ⟨n0.toNat, by omega⟩
  have hop := open_new s none 0 w (by omega) (by omega)
  have HS := Hid.mk hsc
  clear hsc
  go_enter Try.func3, Try.ntmps3
  go_wp2_with fail
  refine hop.mono ?_
  rintro e w1 ⟨p, rfl, hd1, hb1⟩
  have hk1 : Dk w w1 (fun k => w.heap.size ≤ k ∧ k < w1.heap.size) p s (DS.fresh (List.replicate (s * 512) 0)) := ⟨hd1, fun k hk => hk.1, hb1⟩
  have hfu := fuse_at hd1 (N : Int) hn0
  have Hk1 := Hid.mk hk1
  clear hop hd1 hb1 hk1
  go_wp2_with fail
  refine hfu.mono ?_
  rintro e w2 ⟨rfl, hd2, hk2⟩
  have H0 : Hid (Fu w w2 p s 0 N 0) := ⟨Nat.zero_le _, _, _, Hk1.out.same hd2 hk2, by simp [DS.lay, DS.fresh], by simp [DS.lay, DS.fresh]; omega⟩
  clear hfu hd2 hk2 Hk1
  go_wp2
  go_loopw [9, 10, 11, 12, 13, 14, 15, 16, 17, 18] (fun dv i _ _ _ _ _ _ _ _ wr => ∃ j dn : Nat, j ≤ sn ∧ i = .int .i64 (j : Int) ∧ dv = .int .i64 (dn : Int) ∧ Fu w wr p s j N dn) (fun _ i _ _ _ _ _ _ _ _ _ => sn - (intOf i).toNat)
  case atStart => exact ⟨0, 0, Nat.zero_le _, rfl, rfl, H0.out⟩
  case round =>
    clear H0
    obtain ⟨j, dn, hj, rfl, rfl, hdn, F, S, hd, hp, hfz⟩ := hrel
    by_cases hlt : j < sn
    · have hlt' : (j : Int) < (sn : Int) := by omega
      obtain ⟨y, rfl⟩ : ∃ y, sa = some y := by
        cases sa with
        | none => have := HS.out.1 rfl; omega
        | some y => exact ⟨y, rfl⟩
      obtain ⟨b, o, rfl, hbB, kind, x, a', m, c', pa, pn, pc, l', pl, c0, c1, c2, c3, ho⟩ := (HS.out.far hd.bel).2 y rfl j hlt
      clear HS
      obtain ⟨w2, hw2⟩ : ∃ w2, w2 = wr.alloc (.cells (opC kind x a' m c' pa pn pc) 30) := ⟨_, rfl⟩
      have hb2 : Below wr.heap.size wr w2 := hw2 ▸ below_box _ _
      have H2 := Hid.mk (hd.later hb2)
      have Ho := Hid.mk (ho.far (hb2.mono hd.bel.size))
      have hbx : w2.heap[wr.heap.size]? = some (.cells (opC kind x a' m c' pa pn pc) 30 (0, 0)) := hw2 ▸ heap_alloc_new _ _
      have Hbx := Hid.mk hbx
      have HFl := Hid.mk hd.d.lt
      have Hfz := Hid.mk hfz
      clear hd ho hb2 hbx hfz
      obtain ⟨lf, hlf⟩ : ∃ lf : Nat, lf = N - dn := ⟨_, rfl⟩
      have x1 : wrap64 ((N : Int) - (dn : Int)) = (lf : Int) := by unfold wrap64; omega
      have x2 : IntKind.i64.wrap ((N : Int) - (dn : Int)) = (lf : Int) := by rw [IntKind.wrap_i64]; all_goals omega
      have hflf : S.fuse = (lf : Int) := by rw [Hfz.out]; omega
      have Hlf := Hid.mk hlf
      have Hflf := Hid.mk hflf
      clear hlf hflf
      by_cases k4 : kind = 4
      · subst k4
        have Hz : Hid (Fu w w2 p s (j + 1) N dn) := ⟨hdn, F, S, H2.out, by omega, Hfz.out⟩
        clear H2 Ho Hbx HFl
        go_wp2
        go_roundw
        case rel => exact ⟨j + 1, dn, by omega, by go_num, rfl, hw2 ▸ Hz.out⟩
        case measure => simp [intOf]; omega
      by_cases k6 : kind = 6
      · subst k6
        have Hz : Hid (Fu w w2 p s (j + 1) N dn) := ⟨hdn, F, S, H2.out, by omega, Hfz.out⟩
        clear H2 Ho Hbx HFl
        go_wp2
        go_roundw
        case rel => exact ⟨j + 1, dn, by omega, by go_num, rfl, hw2 ▸ Hz.out⟩
        case measure => simp [intOf]; omega
      have e4 : (kind == 4) = false := by simp [k4]
      have e6 : (kind == 6) = false := by simp [k6]
      have hbu := burnt_at H2.out.d
      have hxc : x < 0 ∨ ((s : Int) ≤ x ∧ 0 ≤ x) ∨ ∃ k : Nat, x = (k : Int) ∧ k < s := by
        by_cases h1 : x < 0
        · exact .inl h1
        · by_cases h2 : (s : Int) ≤ x
          · exact .inr (.inl ⟨h2, by omega⟩)
          · exact .inr (.inr ⟨x.toNat, by omega, by omega⟩)
      rcases Nat.eq_zero_or_pos lf with hz | hz
      · have hA1 : (lf : Int) ≤ 0 := by omega
        have hA2 : ¬ (0 : Int) < (lf : Int) := by omega
        rw [show (S.fuse == 0) = true by rw [Hflf.out, hz]; rfl] at hbu
        rcases hxc with hx | ⟨hx, hx0⟩ | ⟨k, rfl, hk⟩
        · have hxx : ¬ (0 : Int) ≤ x := by omega
          by_cases k2 : kind = 2
          · subst k2
            as_aux_lemma =>
              go_wp2_with fail
              rw [← hw2]
              clear hw2 c0 c1 c2 c3
              refine hbu.mono ?_
              rintro e w3 ⟨rfl, hw⟩
              have hw' := hw.symm
              subst hw'
              clear hbu
              have b0 := cell_of_block Hbx.out (j := 0) rfl
              have b1 := cell_of_block Hbx.out (j := 1) rfl
              have b2 := cell_of_block Hbx.out (j := 2) rfl
              have b3 := cell_of_block Hbx.out (j := 3) rfl
              have Hwr : Hid (S.wr s x m l' = (3, S)) := wr_dead (by rw [Hflf.out]; omega) s x m l'
              have htw : Calls Try.prog 13 #[.slice a' m c'] w2.drew fun e w' => ∃ v, e = .returned v ∧ TwA w2 m l' v w' :=
                (twin_any a' m c' l' w2.drew (by have := Ho.out.n; omega) (show Src w2 a' m l' from Ho.out.s)).mono (by rintro e w' ⟨g, rfl, h1, h2, h3⟩; exact ⟨_, rfl, g, rfl, h1, h2, ⟨h3.os, h3.tape, h3.output, h3.size, h3.block⟩⟩)
              have Htw := Hid.mk htw
              have hl := Ho.out.s.1
              clear htw
              go_wp2_with fail
              go_region_law
                (first
                  | (refine stepA_call (by rfl) 13 #[.slice a' m c'] (by simp [go_sem]) (TwA w2 m l') Htw.out ?_; rintro _ w4 ⟨g, rfl, hg, hr, hb4⟩; have h4 := H2.out.later hb4; have k1 := cell_of_block ((hb4.block _ (Array.getElem?_eq_some_iff.1 Hbx.out).1).trans Hbx.out) (j := 1) rfl)
                  | (refine stepA_call (by rfl) 12 #[.pointer (some ⟨p, 0, none⟩), .int .i64 x, .slice (some ⟨g, 0, none⟩) m m] (by simp [go_sem]) (fun v w' => v = .int .i64 3 ∧ DiskAt w' (more F w4 w') p s S ∧ Keeps F w4 w') ((write_all h4.d x (some ⟨g, 0, none⟩) m m l' (hl ▸ hr.src) (by omega)).mono (by rintro e w' ⟨rfl, h1, h2⟩; rw [Hwr.out] at h1 ⊢; exact ⟨_, rfl, rfl, h1, h2⟩)) ?_; rintro _ w5 ⟨rfl, hd5, hk5⟩))
              all_goals
                have k5 := cell_of_block ((hk5.block _ (Nat.lt_of_lt_of_le (Array.getElem?_eq_some_iff.1 Hbx.out).1 hb4.size) (fun hf => by have := HFl.out _ hf; omega)).trans ((hb4.block _ (Array.getElem?_eq_some_iff.1 Hbx.out).1).trans Hbx.out)) (j := 2) rfl
                have Hz : Hid (Fu w w5 p s (j + 1) N dn) := ⟨by omega, _, _, h4.step hd5 hk5, by show S.puts.length ≤ j + 1; omega, Hfz.out⟩
                clear hd5 hk5 h4 hr hb4 k1 hg H2 Ho Hbx HFl Htw b0 b1 b2 b3 Hwr
                go_wp2
                go_roundw
                case rel => exact ⟨j + 1, dn, by omega, by go_num, by first | rfl | go_num, Hz.out⟩
                case measure => simp [intOf]; omega
          by_cases k3 : kind = 3
          · subst k3
            as_aux_lemma =>
              go_wp2_with fail
              rw [← hw2]
              clear hw2 c0 c1 c2 c3
              refine hbu.mono ?_
              rintro e w3 ⟨rfl, hw⟩
              have hw' := hw.symm
              subst hw'
              clear hbu
              have b0 := cell_of_block Hbx.out (j := 0) rfl
              have b1 := cell_of_block Hbx.out (j := 1) rfl
              have b2 := cell_of_block Hbx.out (j := 2) rfl
              have b3 := cell_of_block Hbx.out (j := 3) rfl
              have hfl := flush_all H2.out.d (by omega)
              rw [show S.fl s = (3, S) from fl_dead (by rw [Hflf.out]; omega) s] at hfl
              go_wp2_with fail
              refine hfl.mono ?_
              rintro e w5 ⟨rfl, hd5, hk5⟩
              have Hz : Hid (Fu w w5 p s (j + 1) N dn) := ⟨by omega, _, _, H2.out.same hd5 hk5, by show S.puts.length ≤ j + 1; omega, Hfz.out⟩
              clear hfl hd5 hk5 H2 Ho Hbx HFl b0 b1 b2 b3
              go_wp2
              go_roundw
              case rel => exact ⟨j + 1, dn, by omega, by go_num, by first | rfl | go_num, Hz.out⟩
              case measure => simp [intOf]; omega
          by_cases k1 : kind = 1
          · subst k1
            as_aux_lemma =>
              go_wp2_with fail
              rw [← hw2]
              clear hw2 c0 c1 c2 c3
              refine hbu.mono ?_
              rintro e w3 ⟨rfl, hw⟩
              have hw' := hw.symm
              subst hw'
              clear hbu
              have b0 := cell_of_block Hbx.out (j := 0) rfl
              have b1 := cell_of_block Hbx.out (j := 1) rfl
              have b2 := cell_of_block Hbx.out (j := 2) rfl
              have b3 := cell_of_block Hbx.out (j := 3) rfl
              have hrd := read_all H2.out.d x (by omega)
              rw [show S.rd s x = (3, S, []) from rd_dead (by rw [Hflf.out]; omega) s x] at hrd
              go_wp2_with fail
              refine hrd.mono ?_
              rintro e w5 ⟨v, rfl, ho5, hd5, hk5⟩
              obtain ⟨a5, c5, rfl, _, _⟩ := ho5
              have Hz : Hid (Fu w w5 p s (j + 1) N dn) := ⟨hdn, _, _, H2.out.same hd5 hk5, by show S.puts.length ≤ j + 1; omega, Hfz.out⟩
              clear hrd hd5 hk5 H2 Ho Hbx HFl b0 b1 b2 b3
              go_wp2
              go_roundw
              case rel => exact ⟨j + 1, dn, by omega, by go_num, by first | rfl | go_num, Hz.out⟩
              case measure => simp [intOf]; omega
          as_aux_lemma =>
            go_wp2_with fail
            rw [← hw2]
            clear hw2 c0 c1 c2 c3
            refine hbu.mono ?_
            rintro e w3 ⟨rfl, hw⟩
            have hw' := hw.symm
            subst hw'
            clear hbu
            have b0 := cell_of_block Hbx.out (j := 0) rfl
            have b1 := cell_of_block Hbx.out (j := 1) rfl
            have b2 := cell_of_block Hbx.out (j := 2) rfl
            have b3 := cell_of_block Hbx.out (j := 3) rfl
            have hac := act_any H2.out.d (by omega) kind x a' m c' pa pn pc l' pl Ho.out
            have hpu := act_puts S s kind x m l' pl
            have e2 : (kind == 2) = false := by simp [k2]
            have e3 : (kind == 3) = false := by simp [k3]
            have e1 : (kind == 1) = false := by simp [k1]
            go_wp2_with fail
            refine hac.mono ?_
            rintro e w5 ⟨rfl, hd5, hk5⟩
            have Hz : Hid (Fu w w5 p s (j + 1) N dn) := ⟨hdn, _, _, H2.out.step hd5 hk5, by omega, (act_fuse_same k1 k2 k3 k4 k6).trans Hfz.out⟩
            clear hac hd5 hk5 H2 Ho Hbx HFl b0 b1 b2 b3 hpu
            go_wp2
            go_roundw
            case rel => exact ⟨j + 1, dn, by omega, by go_num, by first | rfl | go_num, Hz.out⟩
            case measure => simp [intOf]; omega
        · have hxx : ¬ x < (s : Int) := by omega
          by_cases k2 : kind = 2
          · subst k2
            as_aux_lemma =>
              go_wp2_with fail
              rw [← hw2]
              clear hw2 c0 c1 c2 c3
              refine hbu.mono ?_
              rintro e w3 ⟨rfl, hw⟩
              have hw' := hw.symm
              subst hw'
              clear hbu
              have b0 := cell_of_block Hbx.out (j := 0) rfl
              have b1 := cell_of_block Hbx.out (j := 1) rfl
              have b2 := cell_of_block Hbx.out (j := 2) rfl
              have b3 := cell_of_block Hbx.out (j := 3) rfl
              have Hwr : Hid (S.wr s x m l' = (3, S)) := wr_dead (by rw [Hflf.out]; omega) s x m l'
              have htw : Calls Try.prog 13 #[.slice a' m c'] w2.drew fun e w' => ∃ v, e = .returned v ∧ TwA w2 m l' v w' :=
                (twin_any a' m c' l' w2.drew (by have := Ho.out.n; omega) (show Src w2 a' m l' from Ho.out.s)).mono (by rintro e w' ⟨g, rfl, h1, h2, h3⟩; exact ⟨_, rfl, g, rfl, h1, h2, ⟨h3.os, h3.tape, h3.output, h3.size, h3.block⟩⟩)
              have Htw := Hid.mk htw
              have hl := Ho.out.s.1
              clear htw
              go_wp2_with fail
              go_region_law
                (first
                  | (refine stepA_call (by rfl) 13 #[.slice a' m c'] (by simp [go_sem]) (TwA w2 m l') Htw.out ?_; rintro _ w4 ⟨g, rfl, hg, hr, hb4⟩; have h4 := H2.out.later hb4; have k1 := cell_of_block ((hb4.block _ (Array.getElem?_eq_some_iff.1 Hbx.out).1).trans Hbx.out) (j := 1) rfl)
                  | (refine stepA_call (by rfl) 12 #[.pointer (some ⟨p, 0, none⟩), .int .i64 x, .slice (some ⟨g, 0, none⟩) m m] (by simp [go_sem]) (fun v w' => v = .int .i64 3 ∧ DiskAt w' (more F w4 w') p s S ∧ Keeps F w4 w') ((write_all h4.d x (some ⟨g, 0, none⟩) m m l' (hl ▸ hr.src) (by omega)).mono (by rintro e w' ⟨rfl, h1, h2⟩; rw [Hwr.out] at h1 ⊢; exact ⟨_, rfl, rfl, h1, h2⟩)) ?_; rintro _ w5 ⟨rfl, hd5, hk5⟩))
              all_goals
                have k5 := cell_of_block ((hk5.block _ (Nat.lt_of_lt_of_le (Array.getElem?_eq_some_iff.1 Hbx.out).1 hb4.size) (fun hf => by have := HFl.out _ hf; omega)).trans ((hb4.block _ (Array.getElem?_eq_some_iff.1 Hbx.out).1).trans Hbx.out)) (j := 2) rfl
                have Hz : Hid (Fu w w5 p s (j + 1) N dn) := ⟨by omega, _, _, h4.step hd5 hk5, by show S.puts.length ≤ j + 1; omega, Hfz.out⟩
                clear hd5 hk5 h4 hr hb4 k1 hg H2 Ho Hbx HFl Htw b0 b1 b2 b3 Hwr
                go_wp2
                go_roundw
                case rel => exact ⟨j + 1, dn, by omega, by go_num, by first | rfl | go_num, Hz.out⟩
                case measure => simp [intOf]; omega
          by_cases k3 : kind = 3
          · subst k3
            as_aux_lemma =>
              go_wp2_with fail
              rw [← hw2]
              clear hw2 c0 c1 c2 c3
              refine hbu.mono ?_
              rintro e w3 ⟨rfl, hw⟩
              have hw' := hw.symm
              subst hw'
              clear hbu
              have b0 := cell_of_block Hbx.out (j := 0) rfl
              have b1 := cell_of_block Hbx.out (j := 1) rfl
              have b2 := cell_of_block Hbx.out (j := 2) rfl
              have b3 := cell_of_block Hbx.out (j := 3) rfl
              have hfl := flush_all H2.out.d (by omega)
              rw [show S.fl s = (3, S) from fl_dead (by rw [Hflf.out]; omega) s] at hfl
              go_wp2_with fail
              refine hfl.mono ?_
              rintro e w5 ⟨rfl, hd5, hk5⟩
              have Hz : Hid (Fu w w5 p s (j + 1) N dn) := ⟨by omega, _, _, H2.out.same hd5 hk5, by show S.puts.length ≤ j + 1; omega, Hfz.out⟩
              clear hfl hd5 hk5 H2 Ho Hbx HFl b0 b1 b2 b3
              go_wp2
              go_roundw
              case rel => exact ⟨j + 1, dn, by omega, by go_num, by first | rfl | go_num, Hz.out⟩
              case measure => simp [intOf]; omega
          by_cases k1 : kind = 1
          · subst k1
            as_aux_lemma =>
              go_wp2_with fail
              rw [← hw2]
              clear hw2 c0 c1 c2 c3
              refine hbu.mono ?_
              rintro e w3 ⟨rfl, hw⟩
              have hw' := hw.symm
              subst hw'
              clear hbu
              have b0 := cell_of_block Hbx.out (j := 0) rfl
              have b1 := cell_of_block Hbx.out (j := 1) rfl
              have b2 := cell_of_block Hbx.out (j := 2) rfl
              have b3 := cell_of_block Hbx.out (j := 3) rfl
              have hrd := read_all H2.out.d x (by omega)
              rw [show S.rd s x = (3, S, []) from rd_dead (by rw [Hflf.out]; omega) s x] at hrd
              go_wp2_with fail
              refine hrd.mono ?_
              rintro e w5 ⟨v, rfl, ho5, hd5, hk5⟩
              obtain ⟨a5, c5, rfl, _, _⟩ := ho5
              have Hz : Hid (Fu w w5 p s (j + 1) N dn) := ⟨hdn, _, _, H2.out.same hd5 hk5, by show S.puts.length ≤ j + 1; omega, Hfz.out⟩
              clear hrd hd5 hk5 H2 Ho Hbx HFl b0 b1 b2 b3
              go_wp2
              go_roundw
              case rel => exact ⟨j + 1, dn, by omega, by go_num, by first | rfl | go_num, Hz.out⟩
              case measure => simp [intOf]; omega
          as_aux_lemma =>
            go_wp2_with fail
            rw [← hw2]
            clear hw2 c0 c1 c2 c3
            refine hbu.mono ?_
            rintro e w3 ⟨rfl, hw⟩
            have hw' := hw.symm
            subst hw'
            clear hbu
            have b0 := cell_of_block Hbx.out (j := 0) rfl
            have b1 := cell_of_block Hbx.out (j := 1) rfl
            have b2 := cell_of_block Hbx.out (j := 2) rfl
            have b3 := cell_of_block Hbx.out (j := 3) rfl
            have hac := act_any H2.out.d (by omega) kind x a' m c' pa pn pc l' pl Ho.out
            have hpu := act_puts S s kind x m l' pl
            have e2 : (kind == 2) = false := by simp [k2]
            have e3 : (kind == 3) = false := by simp [k3]
            have e1 : (kind == 1) = false := by simp [k1]
            go_wp2_with fail
            refine hac.mono ?_
            rintro e w5 ⟨rfl, hd5, hk5⟩
            have Hz : Hid (Fu w w5 p s (j + 1) N dn) := ⟨hdn, _, _, H2.out.step hd5 hk5, by omega, (act_fuse_same k1 k2 k3 k4 k6).trans Hfz.out⟩
            clear hac hd5 hk5 H2 Ho Hbx HFl b0 b1 b2 b3 hpu
            go_wp2
            go_roundw
            case rel => exact ⟨j + 1, dn, by omega, by go_num, by first | rfl | go_num, Hz.out⟩
            case measure => simp [intOf]; omega
        · have hk1 : (k : Int) < (s : Int) := by omega
          by_cases k2 : kind = 2
          · subst k2
            by_cases hm : m = 512
            · subst hm
              as_aux_lemma =>
                go_wp2_with fail
                rw [← hw2]
                clear hw2 c0 c1 c2 c3
                refine hbu.mono ?_
                rintro e w3 ⟨rfl, hw⟩
                have hw' := hw.symm
                subst hw'
                clear hbu
                have b0 := cell_of_block Hbx.out (j := 0) rfl
                have b1 := cell_of_block Hbx.out (j := 1) rfl
                have b2 := cell_of_block Hbx.out (j := 2) rfl
                have b3 := cell_of_block Hbx.out (j := 3) rfl
                have Hwr : Hid (S.wr s (k : Int) 512 l' = (3, S)) := wr_dead (by rw [Hflf.out]; omega) s (k : Int) 512 l'
                have htw : Calls Try.prog 13 #[.slice a' 512 c'] w2.drew fun e w' => ∃ v, e = .returned v ∧ TwA w2 512 l' v w' :=
                  (twin_any a' 512 c' l' w2.drew (by have := Ho.out.n; omega) (show Src w2 a' 512 l' from Ho.out.s)).mono (by rintro e w' ⟨g, rfl, h1, h2, h3⟩; exact ⟨_, rfl, g, rfl, h1, h2, ⟨h3.os, h3.tape, h3.output, h3.size, h3.block⟩⟩)
                have Htw := Hid.mk htw
                have hl := Ho.out.s.1
                clear htw
                go_wp2_with fail
                go_region_law
                  (first
                    | (refine stepA_call (by rfl) 13 #[.slice a' 512 c'] (by simp [go_sem]) (TwA w2 512 l') Htw.out ?_; rintro _ w4 ⟨g, rfl, hg, hr, hb4⟩; have h4 := H2.out.later hb4; have k1 := cell_of_block ((hb4.block _ (Array.getElem?_eq_some_iff.1 Hbx.out).1).trans Hbx.out) (j := 1) rfl)
                    | (refine stepA_call (by rfl) 12 #[.pointer (some ⟨p, 0, none⟩), .int .i64 (k : Int), .slice (some ⟨g, 0, none⟩) 512 512] (by simp [go_sem]) (fun v w' => v = .int .i64 3 ∧ DiskAt w' (more F w4 w') p s S ∧ Keeps F w4 w') ((write_all h4.d (k : Int) (some ⟨g, 0, none⟩) 512 512 l' (hl ▸ hr.src) (by omega)).mono (by rintro e w' ⟨rfl, h1, h2⟩; rw [Hwr.out] at h1 ⊢; exact ⟨_, rfl, rfl, h1, h2⟩)) ?_; rintro _ w5 ⟨rfl, hd5, hk5⟩))
                all_goals
                  have k5 := cell_of_block ((hk5.block _ (Nat.lt_of_lt_of_le (Array.getElem?_eq_some_iff.1 Hbx.out).1 hb4.size) (fun hf => by have := HFl.out _ hf; omega)).trans ((hb4.block _ (Array.getElem?_eq_some_iff.1 Hbx.out).1).trans Hbx.out)) (j := 2) rfl
                  have Hz : Hid (Fu w w5 p s (j + 1) N dn) := ⟨by omega, _, _, h4.step hd5 hk5, by show S.puts.length ≤ j + 1; omega, Hfz.out⟩
                  clear hd5 hk5 h4 hr hb4 k1 hg H2 Ho Hbx HFl Htw b0 b1 b2 b3 Hwr
                  go_wp2
                  go_roundw
                  case rel => exact ⟨j + 1, dn, by omega, by go_num, by first | rfl | go_num, Hz.out⟩
                  case measure => simp [intOf]; omega
            · have hm1 : ((m : Int) == 512) = false := by rw [Bool.eq_false_iff, ne_eq, beq_iff_eq]; omega
              as_aux_lemma =>
                go_wp2_with fail
                rw [← hw2]
                clear hw2 c0 c1 c2 c3
                refine hbu.mono ?_
                rintro e w3 ⟨rfl, hw⟩
                have hw' := hw.symm
                subst hw'
                clear hbu
                have b0 := cell_of_block Hbx.out (j := 0) rfl
                have b1 := cell_of_block Hbx.out (j := 1) rfl
                have b2 := cell_of_block Hbx.out (j := 2) rfl
                have b3 := cell_of_block Hbx.out (j := 3) rfl
                have Hwr : Hid (S.wr s (k : Int) m l' = (3, S)) := wr_dead (by rw [Hflf.out]; omega) s (k : Int) m l'
                have htw : Calls Try.prog 13 #[.slice a' m c'] w2.drew fun e w' => ∃ v, e = .returned v ∧ TwA w2 m l' v w' :=
                  (twin_any a' m c' l' w2.drew (by have := Ho.out.n; omega) (show Src w2 a' m l' from Ho.out.s)).mono (by rintro e w' ⟨g, rfl, h1, h2, h3⟩; exact ⟨_, rfl, g, rfl, h1, h2, ⟨h3.os, h3.tape, h3.output, h3.size, h3.block⟩⟩)
                have Htw := Hid.mk htw
                have hl := Ho.out.s.1
                clear htw
                go_wp2_with fail
                go_region_law
                  (first
                    | (refine stepA_call (by rfl) 13 #[.slice a' m c'] (by simp [go_sem]) (TwA w2 m l') Htw.out ?_; rintro _ w4 ⟨g, rfl, hg, hr, hb4⟩; have h4 := H2.out.later hb4; have k1 := cell_of_block ((hb4.block _ (Array.getElem?_eq_some_iff.1 Hbx.out).1).trans Hbx.out) (j := 1) rfl)
                    | (refine stepA_call (by rfl) 12 #[.pointer (some ⟨p, 0, none⟩), .int .i64 (k : Int), .slice (some ⟨g, 0, none⟩) m m] (by simp [go_sem]) (fun v w' => v = .int .i64 3 ∧ DiskAt w' (more F w4 w') p s S ∧ Keeps F w4 w') ((write_all h4.d (k : Int) (some ⟨g, 0, none⟩) m m l' (hl ▸ hr.src) (by omega)).mono (by rintro e w' ⟨rfl, h1, h2⟩; rw [Hwr.out] at h1 ⊢; exact ⟨_, rfl, rfl, h1, h2⟩)) ?_; rintro _ w5 ⟨rfl, hd5, hk5⟩))
                all_goals
                  have k5 := cell_of_block ((hk5.block _ (Nat.lt_of_lt_of_le (Array.getElem?_eq_some_iff.1 Hbx.out).1 hb4.size) (fun hf => by have := HFl.out _ hf; omega)).trans ((hb4.block _ (Array.getElem?_eq_some_iff.1 Hbx.out).1).trans Hbx.out)) (j := 2) rfl
                  have Hz : Hid (Fu w w5 p s (j + 1) N dn) := ⟨by omega, _, _, h4.step hd5 hk5, by show S.puts.length ≤ j + 1; omega, Hfz.out⟩
                  clear hd5 hk5 h4 hr hb4 k1 hg H2 Ho Hbx HFl Htw b0 b1 b2 b3 Hwr
                  go_wp2
                  go_roundw
                  case rel => exact ⟨j + 1, dn, by omega, by go_num, by first | rfl | go_num, Hz.out⟩
                  case measure => simp [intOf]; omega
          by_cases k3 : kind = 3
          · subst k3
            as_aux_lemma =>
              go_wp2_with fail
              rw [← hw2]
              clear hw2 c0 c1 c2 c3
              refine hbu.mono ?_
              rintro e w3 ⟨rfl, hw⟩
              have hw' := hw.symm
              subst hw'
              clear hbu
              have b0 := cell_of_block Hbx.out (j := 0) rfl
              have b1 := cell_of_block Hbx.out (j := 1) rfl
              have b2 := cell_of_block Hbx.out (j := 2) rfl
              have b3 := cell_of_block Hbx.out (j := 3) rfl
              have hfl := flush_all H2.out.d (by omega)
              rw [show S.fl s = (3, S) from fl_dead (by rw [Hflf.out]; omega) s] at hfl
              go_wp2_with fail
              refine hfl.mono ?_
              rintro e w5 ⟨rfl, hd5, hk5⟩
              have Hz : Hid (Fu w w5 p s (j + 1) N dn) := ⟨by omega, _, _, H2.out.same hd5 hk5, by show S.puts.length ≤ j + 1; omega, Hfz.out⟩
              clear hfl hd5 hk5 H2 Ho Hbx HFl b0 b1 b2 b3
              go_wp2
              go_roundw
              case rel => exact ⟨j + 1, dn, by omega, by go_num, by first | rfl | go_num, Hz.out⟩
              case measure => simp [intOf]; omega
          by_cases k1 : kind = 1
          · subst k1
            as_aux_lemma =>
              go_wp2_with fail
              rw [← hw2]
              clear hw2 c0 c1 c2 c3
              refine hbu.mono ?_
              rintro e w3 ⟨rfl, hw⟩
              have hw' := hw.symm
              subst hw'
              clear hbu
              have b0 := cell_of_block Hbx.out (j := 0) rfl
              have b1 := cell_of_block Hbx.out (j := 1) rfl
              have b2 := cell_of_block Hbx.out (j := 2) rfl
              have b3 := cell_of_block Hbx.out (j := 3) rfl
              have hrd := read_all H2.out.d (k : Int) (by omega)
              rw [show S.rd s (k : Int) = (3, S, []) from rd_dead (by rw [Hflf.out]; omega) s (k : Int)] at hrd
              go_wp2_with fail
              refine hrd.mono ?_
              rintro e w5 ⟨v, rfl, ho5, hd5, hk5⟩
              obtain ⟨a5, c5, rfl, _, _⟩ := ho5
              have Hz : Hid (Fu w w5 p s (j + 1) N dn) := ⟨hdn, _, _, H2.out.same hd5 hk5, by show S.puts.length ≤ j + 1; omega, Hfz.out⟩
              clear hrd hd5 hk5 H2 Ho Hbx HFl b0 b1 b2 b3
              go_wp2
              go_roundw
              case rel => exact ⟨j + 1, dn, by omega, by go_num, by first | rfl | go_num, Hz.out⟩
              case measure => simp [intOf]; omega
          as_aux_lemma =>
            go_wp2_with fail
            rw [← hw2]
            clear hw2 c0 c1 c2 c3
            refine hbu.mono ?_
            rintro e w3 ⟨rfl, hw⟩
            have hw' := hw.symm
            subst hw'
            clear hbu
            have b0 := cell_of_block Hbx.out (j := 0) rfl
            have b1 := cell_of_block Hbx.out (j := 1) rfl
            have b2 := cell_of_block Hbx.out (j := 2) rfl
            have b3 := cell_of_block Hbx.out (j := 3) rfl
            have hac := act_any H2.out.d (by omega) kind (k : Int) a' m c' pa pn pc l' pl Ho.out
            have hpu := act_puts S s kind (k : Int) m l' pl
            have e2 : (kind == 2) = false := by simp [k2]
            have e3 : (kind == 3) = false := by simp [k3]
            have e1 : (kind == 1) = false := by simp [k1]
            go_wp2_with fail
            refine hac.mono ?_
            rintro e w5 ⟨rfl, hd5, hk5⟩
            have Hz : Hid (Fu w w5 p s (j + 1) N dn) := ⟨hdn, _, _, H2.out.step hd5 hk5, by omega, (act_fuse_same k1 k2 k3 k4 k6).trans Hfz.out⟩
            clear hac hd5 hk5 H2 Ho Hbx HFl b0 b1 b2 b3 hpu
            go_wp2
            go_roundw
            case rel => exact ⟨j + 1, dn, by omega, by go_num, by first | rfl | go_num, Hz.out⟩
            case measure => simp [intOf]; omega
      · have hA1 : ¬ (lf : Int) ≤ 0 := by omega
        have hA2 : (0 : Int) < (lf : Int) := by omega
        have hdn1 : dn + 1 ≤ N := by have h9 := Hlf.out; omega
        rw [show (S.fuse == 0) = false by rw [Hflf.out, Bool.eq_false_iff, ne_eq, beq_iff_eq]; omega] at hbu
        rcases hxc with hx | ⟨hx, hx0⟩ | ⟨k, rfl, hk⟩
        · have hxx : ¬ (0 : Int) ≤ x := by omega
          by_cases k2 : kind = 2
          · subst k2
            as_aux_lemma =>
              go_wp2_with fail
              rw [← hw2]
              clear hw2 c0 c1 c2 c3
              refine hbu.mono ?_
              rintro e w3 ⟨rfl, hw⟩
              have hw' := hw.symm
              subst hw'
              clear hbu
              have b0 := cell_of_block Hbx.out (j := 0) rfl
              have b1 := cell_of_block Hbx.out (j := 1) rfl
              have b2 := cell_of_block Hbx.out (j := 2) rfl
              have b3 := cell_of_block Hbx.out (j := 3) rfl
              have Hwr : Hid (S.wr s x m l' = (11, S.refuse)) := wr_out (by rw [Hflf.out]; omega) (.inl hx) m l'
              have htw : Calls Try.prog 13 #[.slice a' m c'] w2.drew fun e w' => ∃ v, e = .returned v ∧ TwA w2 m l' v w' :=
                (twin_any a' m c' l' w2.drew (by have := Ho.out.n; omega) (show Src w2 a' m l' from Ho.out.s)).mono (by rintro e w' ⟨g, rfl, h1, h2, h3⟩; exact ⟨_, rfl, g, rfl, h1, h2, ⟨h3.os, h3.tape, h3.output, h3.size, h3.block⟩⟩)
              have Htw := Hid.mk htw
              have hl := Ho.out.s.1
              clear htw
              go_wp2_with fail
              go_region_law
                (first
                  | (refine stepA_call (by rfl) 13 #[.slice a' m c'] (by simp [go_sem]) (TwA w2 m l') Htw.out ?_; rintro _ w4 ⟨g, rfl, hg, hr, hb4⟩; have h4 := H2.out.later hb4; have k1 := cell_of_block ((hb4.block _ (Array.getElem?_eq_some_iff.1 Hbx.out).1).trans Hbx.out) (j := 1) rfl)
                  | (refine stepA_call (by rfl) 12 #[.pointer (some ⟨p, 0, none⟩), .int .i64 x, .slice (some ⟨g, 0, none⟩) m m] (by simp [go_sem]) (fun v w' => v = .int .i64 11 ∧ DiskAt w' (more F w4 w') p s S.refuse ∧ Keeps F w4 w') ((write_all h4.d x (some ⟨g, 0, none⟩) m m l' (hl ▸ hr.src) (by omega)).mono (by rintro e w' ⟨rfl, h1, h2⟩; rw [Hwr.out] at h1 ⊢; exact ⟨_, rfl, rfl, h1, h2⟩)) ?_; rintro _ w5 ⟨rfl, hd5, hk5⟩))
              all_goals
                have k5 := cell_of_block ((hk5.block _ (Nat.lt_of_lt_of_le (Array.getElem?_eq_some_iff.1 Hbx.out).1 hb4.size) (fun hf => by have := HFl.out _ hf; omega)).trans ((hb4.block _ (Array.getElem?_eq_some_iff.1 Hbx.out).1).trans Hbx.out)) (j := 2) rfl
                have Hz : Hid (Fu w w5 p s (j + 1) N dn) := ⟨by omega, _, _, h4.step hd5 hk5, by show S.puts.length ≤ j + 1; omega, Hfz.out⟩
                clear hd5 hk5 h4 hr hb4 k1 hg H2 Ho Hbx HFl Htw b0 b1 b2 b3 Hwr
                go_wp2
                go_roundw
                case rel => exact ⟨j + 1, dn, by omega, by go_num, by first | rfl | go_num, Hz.out⟩
                case measure => simp [intOf]; omega
          by_cases k3 : kind = 3
          · subst k3
            as_aux_lemma =>
              go_wp2_with fail
              rw [← hw2]
              clear hw2 c0 c1 c2 c3
              refine hbu.mono ?_
              rintro e w3 ⟨rfl, hw⟩
              have hw' := hw.symm
              subst hw'
              clear hbu
              have b0 := cell_of_block Hbx.out (j := 0) rfl
              have b1 := cell_of_block Hbx.out (j := 1) rfl
              have b2 := cell_of_block Hbx.out (j := 2) rfl
              have b3 := cell_of_block Hbx.out (j := 3) rfl
              have hfl := flush_all H2.out.d (by omega)
              rw [show S.fl s = (0, ((S.flush s).spend)) from fl_good (by rw [Hflf.out]; omega) s] at hfl
              go_wp2_with fail
              refine hfl.mono ?_
              rintro e w5 ⟨rfl, hd5, hk5⟩
              have Hz : Hid (Fu w w5 p s (j + 1) N (dn + 1)) := ⟨by omega, _, _, H2.out.same hd5 hk5, by simp [DS.flush, DS.spend], by have h8 := Hflf.out; have h9 := Hlf.out; show (if 0 < S.fuse then S.fuse - 1 else S.fuse) = _; rw [if_pos (by omega)]; omega⟩
              clear hfl hd5 hk5 H2 Ho Hbx HFl b0 b1 b2 b3
              go_wp2
              go_roundw
              case rel => exact ⟨j + 1, (dn + 1), by omega, by go_num, by first | rfl | go_num, Hz.out⟩
              case measure => simp [intOf]; omega
          by_cases k1 : kind = 1
          · subst k1
            as_aux_lemma =>
              go_wp2_with fail
              rw [← hw2]
              clear hw2 c0 c1 c2 c3
              refine hbu.mono ?_
              rintro e w3 ⟨rfl, hw⟩
              have hw' := hw.symm
              subst hw'
              clear hbu
              have b0 := cell_of_block Hbx.out (j := 0) rfl
              have b1 := cell_of_block Hbx.out (j := 1) rfl
              have b2 := cell_of_block Hbx.out (j := 2) rfl
              have b3 := cell_of_block Hbx.out (j := 3) rfl
              have hrd := read_all H2.out.d x (by omega)
              rw [show S.rd s x = (11, S.refuse, []) from rd_out (by rw [Hflf.out]; omega) (.inl hx)] at hrd
              go_wp2_with fail
              refine hrd.mono ?_
              rintro e w5 ⟨v, rfl, ho5, hd5, hk5⟩
              obtain ⟨a5, c5, rfl, _, _⟩ := ho5
              have Hz : Hid (Fu w w5 p s (j + 1) N dn) := ⟨hdn, _, _, H2.out.same hd5 hk5, by show S.puts.length ≤ j + 1; omega, Hfz.out⟩
              clear hrd hd5 hk5 H2 Ho Hbx HFl b0 b1 b2 b3
              go_wp2
              go_roundw
              case rel => exact ⟨j + 1, dn, by omega, by go_num, by first | rfl | go_num, Hz.out⟩
              case measure => simp [intOf]; omega
          as_aux_lemma =>
            go_wp2_with fail
            rw [← hw2]
            clear hw2 c0 c1 c2 c3
            refine hbu.mono ?_
            rintro e w3 ⟨rfl, hw⟩
            have hw' := hw.symm
            subst hw'
            clear hbu
            have b0 := cell_of_block Hbx.out (j := 0) rfl
            have b1 := cell_of_block Hbx.out (j := 1) rfl
            have b2 := cell_of_block Hbx.out (j := 2) rfl
            have b3 := cell_of_block Hbx.out (j := 3) rfl
            have hac := act_any H2.out.d (by omega) kind x a' m c' pa pn pc l' pl Ho.out
            have hpu := act_puts S s kind x m l' pl
            have e2 : (kind == 2) = false := by simp [k2]
            have e3 : (kind == 3) = false := by simp [k3]
            have e1 : (kind == 1) = false := by simp [k1]
            go_wp2_with fail
            refine hac.mono ?_
            rintro e w5 ⟨rfl, hd5, hk5⟩
            have Hz : Hid (Fu w w5 p s (j + 1) N dn) := ⟨hdn, _, _, H2.out.step hd5 hk5, by omega, (act_fuse_same k1 k2 k3 k4 k6).trans Hfz.out⟩
            clear hac hd5 hk5 H2 Ho Hbx HFl b0 b1 b2 b3 hpu
            go_wp2
            go_roundw
            case rel => exact ⟨j + 1, dn, by omega, by go_num, by first | rfl | go_num, Hz.out⟩
            case measure => simp [intOf]; omega
        · have hxx : ¬ x < (s : Int) := by omega
          by_cases k2 : kind = 2
          · subst k2
            as_aux_lemma =>
              go_wp2_with fail
              rw [← hw2]
              clear hw2 c0 c1 c2 c3
              refine hbu.mono ?_
              rintro e w3 ⟨rfl, hw⟩
              have hw' := hw.symm
              subst hw'
              clear hbu
              have b0 := cell_of_block Hbx.out (j := 0) rfl
              have b1 := cell_of_block Hbx.out (j := 1) rfl
              have b2 := cell_of_block Hbx.out (j := 2) rfl
              have b3 := cell_of_block Hbx.out (j := 3) rfl
              have Hwr : Hid (S.wr s x m l' = (11, S.refuse)) := wr_out (by rw [Hflf.out]; omega) (.inr hx) m l'
              have htw : Calls Try.prog 13 #[.slice a' m c'] w2.drew fun e w' => ∃ v, e = .returned v ∧ TwA w2 m l' v w' :=
                (twin_any a' m c' l' w2.drew (by have := Ho.out.n; omega) (show Src w2 a' m l' from Ho.out.s)).mono (by rintro e w' ⟨g, rfl, h1, h2, h3⟩; exact ⟨_, rfl, g, rfl, h1, h2, ⟨h3.os, h3.tape, h3.output, h3.size, h3.block⟩⟩)
              have Htw := Hid.mk htw
              have hl := Ho.out.s.1
              clear htw
              go_wp2_with fail
              go_region_law
                (first
                  | (refine stepA_call (by rfl) 13 #[.slice a' m c'] (by simp [go_sem]) (TwA w2 m l') Htw.out ?_; rintro _ w4 ⟨g, rfl, hg, hr, hb4⟩; have h4 := H2.out.later hb4; have k1 := cell_of_block ((hb4.block _ (Array.getElem?_eq_some_iff.1 Hbx.out).1).trans Hbx.out) (j := 1) rfl)
                  | (refine stepA_call (by rfl) 12 #[.pointer (some ⟨p, 0, none⟩), .int .i64 x, .slice (some ⟨g, 0, none⟩) m m] (by simp [go_sem]) (fun v w' => v = .int .i64 11 ∧ DiskAt w' (more F w4 w') p s S.refuse ∧ Keeps F w4 w') ((write_all h4.d x (some ⟨g, 0, none⟩) m m l' (hl ▸ hr.src) (by omega)).mono (by rintro e w' ⟨rfl, h1, h2⟩; rw [Hwr.out] at h1 ⊢; exact ⟨_, rfl, rfl, h1, h2⟩)) ?_; rintro _ w5 ⟨rfl, hd5, hk5⟩))
              all_goals
                have k5 := cell_of_block ((hk5.block _ (Nat.lt_of_lt_of_le (Array.getElem?_eq_some_iff.1 Hbx.out).1 hb4.size) (fun hf => by have := HFl.out _ hf; omega)).trans ((hb4.block _ (Array.getElem?_eq_some_iff.1 Hbx.out).1).trans Hbx.out)) (j := 2) rfl
                have Hz : Hid (Fu w w5 p s (j + 1) N dn) := ⟨by omega, _, _, h4.step hd5 hk5, by show S.puts.length ≤ j + 1; omega, Hfz.out⟩
                clear hd5 hk5 h4 hr hb4 k1 hg H2 Ho Hbx HFl Htw b0 b1 b2 b3 Hwr
                go_wp2
                go_roundw
                case rel => exact ⟨j + 1, dn, by omega, by go_num, by first | rfl | go_num, Hz.out⟩
                case measure => simp [intOf]; omega
          by_cases k3 : kind = 3
          · subst k3
            as_aux_lemma =>
              go_wp2_with fail
              rw [← hw2]
              clear hw2 c0 c1 c2 c3
              refine hbu.mono ?_
              rintro e w3 ⟨rfl, hw⟩
              have hw' := hw.symm
              subst hw'
              clear hbu
              have b0 := cell_of_block Hbx.out (j := 0) rfl
              have b1 := cell_of_block Hbx.out (j := 1) rfl
              have b2 := cell_of_block Hbx.out (j := 2) rfl
              have b3 := cell_of_block Hbx.out (j := 3) rfl
              have hfl := flush_all H2.out.d (by omega)
              rw [show S.fl s = (0, ((S.flush s).spend)) from fl_good (by rw [Hflf.out]; omega) s] at hfl
              go_wp2_with fail
              refine hfl.mono ?_
              rintro e w5 ⟨rfl, hd5, hk5⟩
              have Hz : Hid (Fu w w5 p s (j + 1) N (dn + 1)) := ⟨by omega, _, _, H2.out.same hd5 hk5, by simp [DS.flush, DS.spend], by have h8 := Hflf.out; have h9 := Hlf.out; show (if 0 < S.fuse then S.fuse - 1 else S.fuse) = _; rw [if_pos (by omega)]; omega⟩
              clear hfl hd5 hk5 H2 Ho Hbx HFl b0 b1 b2 b3
              go_wp2
              go_roundw
              case rel => exact ⟨j + 1, (dn + 1), by omega, by go_num, by first | rfl | go_num, Hz.out⟩
              case measure => simp [intOf]; omega
          by_cases k1 : kind = 1
          · subst k1
            as_aux_lemma =>
              go_wp2_with fail
              rw [← hw2]
              clear hw2 c0 c1 c2 c3
              refine hbu.mono ?_
              rintro e w3 ⟨rfl, hw⟩
              have hw' := hw.symm
              subst hw'
              clear hbu
              have b0 := cell_of_block Hbx.out (j := 0) rfl
              have b1 := cell_of_block Hbx.out (j := 1) rfl
              have b2 := cell_of_block Hbx.out (j := 2) rfl
              have b3 := cell_of_block Hbx.out (j := 3) rfl
              have hrd := read_all H2.out.d x (by omega)
              rw [show S.rd s x = (11, S.refuse, []) from rd_out (by rw [Hflf.out]; omega) (.inr hx)] at hrd
              go_wp2_with fail
              refine hrd.mono ?_
              rintro e w5 ⟨v, rfl, ho5, hd5, hk5⟩
              obtain ⟨a5, c5, rfl, _, _⟩ := ho5
              have Hz : Hid (Fu w w5 p s (j + 1) N dn) := ⟨hdn, _, _, H2.out.same hd5 hk5, by show S.puts.length ≤ j + 1; omega, Hfz.out⟩
              clear hrd hd5 hk5 H2 Ho Hbx HFl b0 b1 b2 b3
              go_wp2
              go_roundw
              case rel => exact ⟨j + 1, dn, by omega, by go_num, by first | rfl | go_num, Hz.out⟩
              case measure => simp [intOf]; omega
          as_aux_lemma =>
            go_wp2_with fail
            rw [← hw2]
            clear hw2 c0 c1 c2 c3
            refine hbu.mono ?_
            rintro e w3 ⟨rfl, hw⟩
            have hw' := hw.symm
            subst hw'
            clear hbu
            have b0 := cell_of_block Hbx.out (j := 0) rfl
            have b1 := cell_of_block Hbx.out (j := 1) rfl
            have b2 := cell_of_block Hbx.out (j := 2) rfl
            have b3 := cell_of_block Hbx.out (j := 3) rfl
            have hac := act_any H2.out.d (by omega) kind x a' m c' pa pn pc l' pl Ho.out
            have hpu := act_puts S s kind x m l' pl
            have e2 : (kind == 2) = false := by simp [k2]
            have e3 : (kind == 3) = false := by simp [k3]
            have e1 : (kind == 1) = false := by simp [k1]
            go_wp2_with fail
            refine hac.mono ?_
            rintro e w5 ⟨rfl, hd5, hk5⟩
            have Hz : Hid (Fu w w5 p s (j + 1) N dn) := ⟨hdn, _, _, H2.out.step hd5 hk5, by omega, (act_fuse_same k1 k2 k3 k4 k6).trans Hfz.out⟩
            clear hac hd5 hk5 H2 Ho Hbx HFl b0 b1 b2 b3 hpu
            go_wp2
            go_roundw
            case rel => exact ⟨j + 1, dn, by omega, by go_num, by first | rfl | go_num, Hz.out⟩
            case measure => simp [intOf]; omega
        · have hk1 : (k : Int) < (s : Int) := by omega
          by_cases k2 : kind = 2
          · subst k2
            by_cases hm : m = 512
            · subst hm
              as_aux_lemma =>
                go_wp2_with fail
                rw [← hw2]
                clear hw2 c0 c1 c2 c3
                refine hbu.mono ?_
                rintro e w3 ⟨rfl, hw⟩
                have hw' := hw.symm
                subst hw'
                clear hbu
                have b0 := cell_of_block Hbx.out (j := 0) rfl
                have b1 := cell_of_block Hbx.out (j := 1) rfl
                have b2 := cell_of_block Hbx.out (j := 2) rfl
                have b3 := cell_of_block Hbx.out (j := 3) rfl
                have Hwr : Hid (S.wr s (k : Int) 512 l' = (0, ((S.put k l').wrote.spend))) := wr_good (by rw [Hflf.out]; omega) hk l'
                have htw : Calls Try.prog 13 #[.slice a' 512 c'] w2.drew fun e w' => ∃ v, e = .returned v ∧ TwA w2 512 l' v w' :=
                  (twin_any a' 512 c' l' w2.drew (by have := Ho.out.n; omega) (show Src w2 a' 512 l' from Ho.out.s)).mono (by rintro e w' ⟨g, rfl, h1, h2, h3⟩; exact ⟨_, rfl, g, rfl, h1, h2, ⟨h3.os, h3.tape, h3.output, h3.size, h3.block⟩⟩)
                have Htw := Hid.mk htw
                have hl := Ho.out.s.1
                clear htw
                go_wp2_with fail
                go_region_law
                  (first
                    | (refine stepA_call (by rfl) 13 #[.slice a' 512 c'] (by simp [go_sem]) (TwA w2 512 l') Htw.out ?_; rintro _ w4 ⟨g, rfl, hg, hr, hb4⟩; have h4 := H2.out.later hb4; have k1 := cell_of_block ((hb4.block _ (Array.getElem?_eq_some_iff.1 Hbx.out).1).trans Hbx.out) (j := 1) rfl)
                    | (refine stepA_call (by rfl) 12 #[.pointer (some ⟨p, 0, none⟩), .int .i64 (k : Int), .slice (some ⟨g, 0, none⟩) 512 512] (by simp [go_sem]) (fun v w' => v = .int .i64 0 ∧ DiskAt w' (more F w4 w') p s ((S.put k l').wrote.spend) ∧ Keeps F w4 w') ((write_all h4.d (k : Int) (some ⟨g, 0, none⟩) 512 512 l' (hl ▸ hr.src) (by omega)).mono (by rintro e w' ⟨rfl, h1, h2⟩; rw [Hwr.out] at h1 ⊢; exact ⟨_, rfl, rfl, h1, h2⟩)) ?_; rintro _ w5 ⟨rfl, hd5, hk5⟩))
                all_goals
                  have k5 := cell_of_block ((hk5.block _ (Nat.lt_of_lt_of_le (Array.getElem?_eq_some_iff.1 Hbx.out).1 hb4.size) (fun hf => by have := HFl.out _ hf; omega)).trans ((hb4.block _ (Array.getElem?_eq_some_iff.1 Hbx.out).1).trans Hbx.out)) (j := 2) rfl
                  have Hz : Hid (Fu w w5 p s (j + 1) N (dn + 1)) := ⟨by omega, _, _, h4.step hd5 hk5, by simp only [DS.put, DS.wrote, DS.spend, List.length_append, List.length_singleton]; omega, by have h8 := Hflf.out; have h9 := Hlf.out; show (if 0 < S.fuse then S.fuse - 1 else S.fuse) = _; rw [if_pos (by omega)]; omega⟩
                  clear hd5 hk5 h4 hr hb4 k1 hg H2 Ho Hbx HFl Htw b0 b1 b2 b3 Hwr
                  go_wp2
                  go_roundw
                  case rel => exact ⟨j + 1, (dn + 1), by omega, by go_num, by first | rfl | go_num, Hz.out⟩
                  case measure => simp [intOf]; omega
            · have hm1 : ((m : Int) == 512) = false := by rw [Bool.eq_false_iff, ne_eq, beq_iff_eq]; omega
              as_aux_lemma =>
                go_wp2_with fail
                rw [← hw2]
                clear hw2 c0 c1 c2 c3
                refine hbu.mono ?_
                rintro e w3 ⟨rfl, hw⟩
                have hw' := hw.symm
                subst hw'
                clear hbu
                have b0 := cell_of_block Hbx.out (j := 0) rfl
                have b1 := cell_of_block Hbx.out (j := 1) rfl
                have b2 := cell_of_block Hbx.out (j := 2) rfl
                have b3 := cell_of_block Hbx.out (j := 3) rfl
                have Hwr : Hid (S.wr s (k : Int) m l' = (2, S.refuse)) := wr_len (by rw [Hflf.out]; omega) hk hm l'
                have htw : Calls Try.prog 13 #[.slice a' m c'] w2.drew fun e w' => ∃ v, e = .returned v ∧ TwA w2 m l' v w' :=
                  (twin_any a' m c' l' w2.drew (by have := Ho.out.n; omega) (show Src w2 a' m l' from Ho.out.s)).mono (by rintro e w' ⟨g, rfl, h1, h2, h3⟩; exact ⟨_, rfl, g, rfl, h1, h2, ⟨h3.os, h3.tape, h3.output, h3.size, h3.block⟩⟩)
                have Htw := Hid.mk htw
                have hl := Ho.out.s.1
                clear htw
                go_wp2_with fail
                go_region_law
                  (first
                    | (refine stepA_call (by rfl) 13 #[.slice a' m c'] (by simp [go_sem]) (TwA w2 m l') Htw.out ?_; rintro _ w4 ⟨g, rfl, hg, hr, hb4⟩; have h4 := H2.out.later hb4; have k1 := cell_of_block ((hb4.block _ (Array.getElem?_eq_some_iff.1 Hbx.out).1).trans Hbx.out) (j := 1) rfl)
                    | (refine stepA_call (by rfl) 12 #[.pointer (some ⟨p, 0, none⟩), .int .i64 (k : Int), .slice (some ⟨g, 0, none⟩) m m] (by simp [go_sem]) (fun v w' => v = .int .i64 2 ∧ DiskAt w' (more F w4 w') p s S.refuse ∧ Keeps F w4 w') ((write_all h4.d (k : Int) (some ⟨g, 0, none⟩) m m l' (hl ▸ hr.src) (by omega)).mono (by rintro e w' ⟨rfl, h1, h2⟩; rw [Hwr.out] at h1 ⊢; exact ⟨_, rfl, rfl, h1, h2⟩)) ?_; rintro _ w5 ⟨rfl, hd5, hk5⟩))
                all_goals
                  have k5 := cell_of_block ((hk5.block _ (Nat.lt_of_lt_of_le (Array.getElem?_eq_some_iff.1 Hbx.out).1 hb4.size) (fun hf => by have := HFl.out _ hf; omega)).trans ((hb4.block _ (Array.getElem?_eq_some_iff.1 Hbx.out).1).trans Hbx.out)) (j := 2) rfl
                  have Hz : Hid (Fu w w5 p s (j + 1) N dn) := ⟨by omega, _, _, h4.step hd5 hk5, by show S.puts.length ≤ j + 1; omega, Hfz.out⟩
                  clear hd5 hk5 h4 hr hb4 k1 hg H2 Ho Hbx HFl Htw b0 b1 b2 b3 Hwr
                  go_wp2
                  go_roundw
                  case rel => exact ⟨j + 1, dn, by omega, by go_num, by first | rfl | go_num, Hz.out⟩
                  case measure => simp [intOf]; omega
          by_cases k3 : kind = 3
          · subst k3
            as_aux_lemma =>
              go_wp2_with fail
              rw [← hw2]
              clear hw2 c0 c1 c2 c3
              refine hbu.mono ?_
              rintro e w3 ⟨rfl, hw⟩
              have hw' := hw.symm
              subst hw'
              clear hbu
              have b0 := cell_of_block Hbx.out (j := 0) rfl
              have b1 := cell_of_block Hbx.out (j := 1) rfl
              have b2 := cell_of_block Hbx.out (j := 2) rfl
              have b3 := cell_of_block Hbx.out (j := 3) rfl
              have hfl := flush_all H2.out.d (by omega)
              rw [show S.fl s = (0, ((S.flush s).spend)) from fl_good (by rw [Hflf.out]; omega) s] at hfl
              go_wp2_with fail
              refine hfl.mono ?_
              rintro e w5 ⟨rfl, hd5, hk5⟩
              have Hz : Hid (Fu w w5 p s (j + 1) N (dn + 1)) := ⟨by omega, _, _, H2.out.same hd5 hk5, by simp [DS.flush, DS.spend], by have h8 := Hflf.out; have h9 := Hlf.out; show (if 0 < S.fuse then S.fuse - 1 else S.fuse) = _; rw [if_pos (by omega)]; omega⟩
              clear hfl hd5 hk5 H2 Ho Hbx HFl b0 b1 b2 b3
              go_wp2
              go_roundw
              case rel => exact ⟨j + 1, (dn + 1), by omega, by go_num, by first | rfl | go_num, Hz.out⟩
              case measure => simp [intOf]; omega
          by_cases k1 : kind = 1
          · subst k1
            as_aux_lemma =>
              go_wp2_with fail
              rw [← hw2]
              clear hw2 c0 c1 c2 c3
              refine hbu.mono ?_
              rintro e w3 ⟨rfl, hw⟩
              have hw' := hw.symm
              subst hw'
              clear hbu
              have b0 := cell_of_block Hbx.out (j := 0) rfl
              have b1 := cell_of_block Hbx.out (j := 1) rfl
              have b2 := cell_of_block Hbx.out (j := 2) rfl
              have b3 := cell_of_block Hbx.out (j := 3) rfl
              have hrd := read_all H2.out.d (k : Int) (by omega)
              rw [show S.rd s (k : Int) = (0, S.read, S.now k) from rd_good (by rw [Hflf.out]; omega) hk] at hrd
              go_wp2_with fail
              refine hrd.mono ?_
              rintro e w5 ⟨v, rfl, ho5, hd5, hk5⟩
              obtain ⟨a5, c5, rfl, _, _⟩ := ho5
              have Hz : Hid (Fu w w5 p s (j + 1) N dn) := ⟨hdn, _, _, H2.out.same hd5 hk5, by show S.puts.length ≤ j + 1; omega, Hfz.out⟩
              clear hrd hd5 hk5 H2 Ho Hbx HFl b0 b1 b2 b3
              go_wp2
              go_roundw
              case rel => exact ⟨j + 1, dn, by omega, by go_num, by first | rfl | go_num, Hz.out⟩
              case measure => simp [intOf]; omega
          as_aux_lemma =>
            go_wp2_with fail
            rw [← hw2]
            clear hw2 c0 c1 c2 c3
            refine hbu.mono ?_
            rintro e w3 ⟨rfl, hw⟩
            have hw' := hw.symm
            subst hw'
            clear hbu
            have b0 := cell_of_block Hbx.out (j := 0) rfl
            have b1 := cell_of_block Hbx.out (j := 1) rfl
            have b2 := cell_of_block Hbx.out (j := 2) rfl
            have b3 := cell_of_block Hbx.out (j := 3) rfl
            have hac := act_any H2.out.d (by omega) kind (k : Int) a' m c' pa pn pc l' pl Ho.out
            have hpu := act_puts S s kind (k : Int) m l' pl
            have e2 : (kind == 2) = false := by simp [k2]
            have e3 : (kind == 3) = false := by simp [k3]
            have e1 : (kind == 1) = false := by simp [k1]
            go_wp2_with fail
            refine hac.mono ?_
            rintro e w5 ⟨rfl, hd5, hk5⟩
            have Hz : Hid (Fu w w5 p s (j + 1) N dn) := ⟨hdn, _, _, H2.out.step hd5 hk5, by omega, (act_fuse_same k1 k2 k3 k4 k6).trans Hfz.out⟩
            clear hac hd5 hk5 H2 Ho Hbx HFl b0 b1 b2 b3 hpu
            go_wp2
            go_roundw
            case rel => exact ⟨j + 1, dn, by omega, by go_num, by first | rfl | go_num, Hz.out⟩
            case measure => simp [intOf]; omega
    · have hlt' : ¬ (j : Int) < (sn : Int) := by omega
      have hcr := crash_ok sorts sortn hd.d (by omega) none 0 0 [] (PSrc.nil _) (by omega) (fun x hx => by cases hx)
      have Hd := Hid.mk hd
      clear HS hd
      go_wp2_with fail
      refine hcr.mono ?_
      rintro e w2 ⟨rfl, hd2, hk2⟩
      have H2 := Hd.out.same hd2 hk2
      have hfl := flush_ok H2.d (by simp [DS.crash]) (by simp [DS.crash])
      have HH2 := Hid.mk H2
      clear hcr hd2 hk2 H2 Hd
      go_wp2_with fail
      refine hfl.mono ?_
      rintro e w3 ⟨rfl, hd3, hk3⟩
      have H3 := HH2.out.same hd3 hk3
      have hbu : Calls Try.prog 11 #[.pointer (some ⟨p, 0, none⟩)] w3 fun e w' => e = .returned (.bool false) ∧ w' = w3 := burnt_at H3.d
      have hb3 := H3.bel
      clear hfl hd3 hk3 H3 HH2
      go_wp2_with fail
      refine hbu.mono ?_
      rintro e w4 ⟨rfl, hw⟩
      have hw' := hw.symm
      subst hw'
      clear hbu
      go_wp2
      go_ret
      exact ⟨rfl, hb3⟩
end Go.Proofs.Ytkkmkogpbhcpmaa
