import Derived.Test.YtijgdmhglnanjaaGreatW25
section
namespace Go.Proofs.YtijgdmhglnanjaaGreat
open Go.RowKit Go.Maps

set_option maxHeartbeats 8000000 in
set_option maxRecDepth 100000 in
theorem rcrash_zero {w : World} {F : Nat → Prop} {r s : Nat} {S : DS} (hd : RefAt w F r s S) (hz : S.puts.length = 0) (a : Option Addr) (n c : Nat) (l : List P3) :
    Calls Tryz.prog 24 #[.pointer (some ⟨r, 0, none⟩), .slice a n c] w fun e w' => e = .returned (.tuple #[]) ∧ RefAt w' (more F w w') r s (S.crash s l) ∧ Keeps F w w' := by
  obtain ⟨gl, cl, ls, pv, xs, h⟩ := hd
  obtain ⟨ap, cp, hpv, _⟩ := h.form
  have c1 := cell_of_block h.blk (j := 1) rfl
  have hks : keysOf S s = [] := keysOf_none (List.eq_nil_of_length_eq_zero hz) s
  have hall := crash_all h.ok l h.ok.len (fun i _ => by simp [hks])
  have h' : RefRaw w F r s { S with im := S.im } gl cl ls pv xs := h
  obtain ⟨d1, d2, d3, d4, d5, d6, hd7, hk7⟩ := rcrash_end h' hall h.fr (Keeps.refl F w)
  have hs7 : (((w.setCell ⟨r, 1, none⟩ (.slice none 0 0)).setCell ⟨r, 2, none⟩ (.int .i64 (-1))).setCell ⟨r, 3, none⟩ (.int .i64 (wrap64 (S.life + 1)))).heap.size = w.heap.size := by simp [World.setCell]
  have Hq := Hid.mk (And.intro (show RefAt _ (more F w (((w.setCell ⟨r, 1, none⟩ (.slice none 0 0)).setCell ⟨r, 2, none⟩ (.int .i64 (-1))).setCell ⟨r, 3, none⟩ (.int .i64 (wrap64 (S.life + 1))))) r s (S.crash s l) from ⟨gl, cl, ls, _, _, hd7.mono (fun _ hk => .inl hk) (fun k hk => by
    rcases hk with hk | hk
    · exact hd7.lt k hk
    · exact hk.2)⟩) hk7)
  rw [hpv, hz] at c1 d1
  clear h h' hpv hks hz hall hd7 hk7 hs7
  go_enter Tryz.func24, Tryz.ntmps24
  go_wp2
  refine wp_loop_rounds 1 ?_
  rw [rounds_succ]
  go_wp2
  go_end0
  exact ⟨rfl, Hq.out⟩

set_option maxHeartbeats 8000000 in
set_option maxRecDepth 100000 in
theorem rcrash_more {w : World} {F : Nat → Prop} {r s : Nat} {S : DS} (hd : RefAt w F r s S) (hz : 0 < S.puts.length) (hbig : S.puts.length + 1 ≤ 4000000000000) (a : Option Addr) (n c : Nat) (l : List P3) (hps : PSrc w a n l) (hn : n ≤ 140737488355328) :
    Calls Tryz.prog 24 #[.pointer (some ⟨r, 0, none⟩), .slice a n c] w fun e w' => e = .returned (.tuple #[]) ∧ RefAt w' (more F w w') r s (S.crash s l) ∧ Keeps F w w' := by
  obtain ⟨i0, hi0, hz0, hz1, hz2⟩ := info_parts infoPut
  obtain ⟨gl, cl, ls, pv, xs, h⟩ := hd
  have Hok := Hid.mk h.ok
  have HFl := Hid.mk h.fl
  have HFr := Hid.mk h.fr
  obtain ⟨ap, cp, hpv, _⟩ := h.form
  have c0 := cell_of_block h.blk (j := 0) rfl
  have c1 := cell_of_block h.blk (j := 1) rfl
  rw [hpv] at c1
  have hz' : (0 : Int) < (S.puts.length : Int) := by omega
  have hsm := h.ok.hi
  have H := Hid.mk h
  have HP := Hid.mk hps
  clear h hpv hps
  go_enter Tryz.func24, Tryz.ntmps24
  go_wp2
  clear c1
  go_loopw [4, 5, 6, 7, 8] (fun kc v i _ _ wr => ∃ t : Nat, t ≤ s ∧ i = .int .i64 (t : Int) ∧ kc = .int .i64 ((keysOf S t).length : Int) ∧ ∃ ys, wr.ownsRow w.heap.size 94 2 v (keysOf S t).length ys ∧ Fresh wr (fun b => w.heap.size ≤ b ∧ b < wr.heap.size) S l (keysOf S t) ys ∧ Below w.heap.size w wr) (fun _ _ i _ _ _ => s - (intOf i).toNat)
  case atStart => exact ⟨0, Nat.zero_le _, rfl, rfl, [], World.ownsRow_nil _ _ _ _, ⟨rfl, fun i hi => by simp [keysOf] at hi⟩, Below.refl _ _⟩
  case round =>
    obtain ⟨t, ht, rfl, rfl, ys, hown, hfr, hb⟩ := hrel
    have e0 := cell_later hb c0
    have hkt : (keysOf S t).length ≤ t := by
      have := List.length_filter_le (fun k => !(pendOf S.puts k).isEmpty) (List.range t)
      rw [List.length_range] at this
      exact this
    by_cases hlt : t < s
    · have hlt' : (t : Int) < (s : Int) := by omega
      have hh : RefRaw wr F r s S gl cl ls pv xs := H.out.agree hb.size (fun k hk => hb.block k (H.out.lt k hk))
      have hca := rcands_at hh t hlt hbig
      have Hown := Hid.mk hown
      have Hfr := Hid.mk hfr
      have hpl := pendOf_len S.puts t
      clear hh hown hfr
      by_cases hp : pendOf S.puts t = []
      · have hl1 : (pendOf S.puts t).length = 0 := by rw [hp]; rfl
        rw [hl1] at hca
        have hsk := Hid.mk (fun w5 h5 => fresh_skip (w5 := w5) hb h5 Hown.out Hfr.out hp)
        have hk2 : keysOf S (t + 1) = keysOf S t := keysOf_skip hp
        have Hk2 := Hid.mk hk2
        clear hk2 hp hl1
        go_wp2_with fail
        refine hca.mono ?_
        rintro e w1 ⟨g1, cg1, vs, rfl, hg1, hr1, hvs, hb1⟩
        obtain ⟨z1, z2, z3⟩ := hsk.out w1 hb1
        have Hz := Hid.mk (And.intro z1 (And.intro z2 z3))
        clear hca hsk z1 z2 z3 hr1 hvs hb1 Hown Hfr hb e0
        go_wp2
        go_roundw
        case rel => exact ⟨t + 1, by omega, by go_num, by rw [Hk2.out], ys, Hz.out.1, Hz.out.2.1, Hz.out.2.2⟩
        case measure => simp [intOf]; omega
      · have hl1 : ((((pendOf S.puts t).length : Int) + 1) == 1) = false := by
          have := List.length_pos_iff.2 hp
          rw [Bool.eq_false_iff, ne_eq, beq_iff_eq]; omega
        have hk2 : (keysOf S (t + 1)).length = (keysOf S t).length + 1 := by rw [keysOf_take hp]; simp
        have Hk2 := Hid.mk hk2
        clear hk2
        go_wp2_with fail
        refine hca.mono ?_
        rintro e w1 ⟨g1, cg1, vs, rfl, hg1, hr1, hvs, hb1⟩
        have hbw1 : Below w.heap.size w w1 := hb.trans (hb1.mono hb.size)
        have Hr1 := Hid.mk hr1
        have Hvs := Hid.mk hvs
        clear hr1 hvs hca
        by_cases hn0 : n = 0
        · subst hn0
          have hq : pickN l (keysOf S t).length = (0, 0, 0) := by simp [pickN, HP.out.1]
          have hte := fun o => rcrash_torn Hok.out hlt hp Hr1.out Hvs.out (fun b hb' => Nat.lt_of_lt_of_le (H.out.lt b hb') hb.size) hb1 ((Below.refl w1.heap.size w1).alloc (Nat.le_refl _) o) 0 0 0 hq (by omega) (by omega) (by omega)
          have Hte := Hid.mk hte
          clear hte hq
          go_wp2_with fail
          refine (Hte.out _).mono ?_
          rintro e w5 ⟨g5, rfl, hg5, hr5, hb5⟩
          have hx5 : Below wr.heap.size wr w5 := (hb1.alloc hb1.size _).trans (hb5.mono (by simp; have := hb1.size; omega))
          have hown5 : w5.ownsRow w.heap.size 94 2 u5 (keysOf S t).length ys := ownsRow_agree Hown.out (fun b e => hx5.block b (Hown.out.lt b e).2)
          have hg6 : wr.heap.size ≤ g5 := by simp at hg5; have := hb1.size; omega
          have hw5 : w.heap.size ≤ w5.heap.size := Nat.le_trans hb.size hx5.size
          have Hown5 := Hid.mk hown5
          have Hr5 := Hid.mk hr5
          have Hx5 := Hid.mk hx5
          clear hown5 hr5 hx5 hb5 hg5 Hte Hr1 Hvs hbw1
          go_wp2_with (at_builtin; refine wpList_append_own _ rfl _ _ 71 rfl w.heap.size 94 i0 _ 2 32 Tryz.underlying71 hi0 hz0 hz1 hz2 rfl (by decide) _ _ _ rfl (Hown5.out.alloc _) ⟨w5.heap.size, 0, none⟩ 1 1 [.int .i64 (t : Int), .slice (some ⟨g5, 0, none⟩) 512 512] rfl rfl (World.news_of_block (cs := #[.int .i64 (t : Int), .slice (some ⟨g5, 0, none⟩) 512 512]) (t := 94) (fr := (0, 0)) (heap_alloc_new w5 _)) (by simp [Value.oneCell']) (by unfold maxLen; omega) (by omega) (by simp; omega) ?_)
          intro v' w6 hown' hgrow hnil
          obtain ⟨z1, z2, z3⟩ := fresh_step hb Hx5.out Hown.out Hfr.out hp hg6 Hr5.out hgrow hown'
          have Hz := Hid.mk (And.intro z1 (And.intro z2 z3))
          clear z1 z2 z3 hown' hgrow hnil Hown5 Hr5 Hx5 Hown Hfr hb e0
          go_wp2
          go_roundw
          case rel => exact ⟨t + 1, by omega, by go_num, by rw [Hk2.out]; go_num, _, Hz.out.1, Hz.out.2.1, Hz.out.2.2⟩
          case measure => simp [intOf]; omega
        · obtain ⟨x, rfl⟩ : ∃ x, a = some x := by
            cases a with
            | none => exact absurd (HP.out.2.1 rfl) hn0
            | some x => exact ⟨x, rfl⟩
          have hll := HP.out.1
          have hlp : 0 < l.length := by omega
          obtain ⟨q, hq⟩ : ∃ q, q = (keysOf S t).length % n := ⟨_, rfl⟩
          have hqn : q < n := by rw [hq]; exact Nat.mod_lt _ (by omega)
          have hql : q < l.length := by omega
          obtain ⟨b, o, rfl, p0, p1, p2⟩ := HP.out.2.2.1 x rfl q hql
          have hpk : pickN l (keysOf S t).length = (l[q].1, l[q].2.1, l[q].2.2) := by
            have e1 : (keysOf S t).length % l.length = q := by rw [hll, hq]
            simp only [pickN, hlp, dif_pos, e1]
          obtain ⟨b1, b2, b3⟩ := HP.out.2.2.2 l[q] (List.getElem_mem hql)
          have hte := fun o => rcrash_torn Hok.out hlt hp Hr1.out Hvs.out (fun b hb' => Nat.lt_of_lt_of_le (H.out.lt b hb') hb.size) hb1 ((Below.refl w1.heap.size w1).alloc (Nat.le_refl _) o) _ _ _ hpk b1 b2 b3
          have hmo : ((keysOf S t).length : Int) % (n : Int) = (q : Int) := by rw [hq]; push_cast; rfl
          have hn1 : (0 : Int) < (n : Int) := by omega
          have hq1 : (q : Int) < (n : Int) := by omega
          replace p0 := cell_later hbw1 p0
          replace p1 := cell_later hbw1 p1
          replace p2 := cell_later hbw1 p2
          have hbw := World.block_lt_of_cell? _ _ p0
          have Hte := Hid.mk hte
          clear hte hpk hq
          generalize l[q].1 = qa at *
          generalize l[q].2.1 = qb at *
          generalize l[q].2.2 = qc at *
          go_wp2_with fail
          refine (Hte.out _).mono ?_
          rintro e w5 ⟨g5, rfl, hg5, hr5, hb5⟩
          have hx5 : Below wr.heap.size wr w5 := (hb1.alloc hb1.size _).trans (hb5.mono (by simp; have := hb1.size; omega))
          have hown5 : w5.ownsRow w.heap.size 94 2 u5 (keysOf S t).length ys := ownsRow_agree Hown.out (fun b e => hx5.block b (Hown.out.lt b e).2)
          have hg6 : wr.heap.size ≤ g5 := by simp at hg5; have := hb1.size; omega
          have hw5 : w.heap.size ≤ w5.heap.size := Nat.le_trans hb.size hx5.size
          have Hown5 := Hid.mk hown5
          have Hr5 := Hid.mk hr5
          have Hx5 := Hid.mk hx5
          clear p0 p1 p2 hown5 hr5 hx5 hb5 hg5 Hte Hr1 Hvs hbw1
          go_wp2_with (at_builtin; refine wpList_append_own _ rfl _ _ 71 rfl w.heap.size 94 i0 _ 2 32 Tryz.underlying71 hi0 hz0 hz1 hz2 rfl (by decide) _ _ _ rfl (Hown5.out.alloc _) ⟨w5.heap.size, 0, none⟩ 1 1 [.int .i64 (t : Int), .slice (some ⟨g5, 0, none⟩) 512 512] rfl rfl (World.news_of_block (cs := #[.int .i64 (t : Int), .slice (some ⟨g5, 0, none⟩) 512 512]) (t := 94) (fr := (0, 0)) (heap_alloc_new w5 _)) (by simp [Value.oneCell']) (by unfold maxLen; omega) (by omega) (by simp; omega) ?_)
          intro v' w6 hown' hgrow hnil
          obtain ⟨z1, z2, z3⟩ := fresh_step hb Hx5.out Hown.out Hfr.out hp hg6 Hr5.out hgrow hown'
          have Hz := Hid.mk (And.intro z1 (And.intro z2 z3))
          clear z1 z2 z3 hown' hgrow hnil Hown5 Hr5 Hx5 Hown Hfr hb e0
          go_wp2
          go_roundw
          case rel => exact ⟨t + 1, by omega, by go_num, by rw [Hk2.out]; go_num, _, Hz.out.1, Hz.out.2.1, Hz.out.2.2⟩
          case measure => simp [intOf]; omega
    · have hlt' : ¬ (t : Int) < (s : Int) := by omega
      have et : t = s := by omega
      subst et
      obtain ⟨W7, hW7⟩ : ∃ W7, W7 = wr := ⟨_, rfl⟩
      subst hW7
      have hk7 : Keeps F w W7 := Keeps.of_below F hb
      have hml : ∀ k, more F w W7 k → k < W7.heap.size := fun k hk => by
        rcases hk with hk | hk
        · exact Nat.lt_of_lt_of_le (H.out.lt k hk) hb.size
        · exact hk.2
      have Hh7 : Hid (RefRaw W7 (more F w W7) r t { S with im := S.im } gl cl ls pv xs) := (H.out.agree hb.size (fun k hk => hb.block k (H.out.lt k hk))).mono (fun _ hk => .inl hk) hml
      have Hk7 := Hid.mk hk7
      have Hown7 := Hid.mk hown
      have Hfr7 := Hid.mk hfr
      clear hk7 hml hown hfr hb H HP c0
      go_wp2
      clear e0
      go_loopw [9] (fun i wr => ∃ j : Nat, j ≤ (keysOf S t).length ∧ i = .int .i64 (j : Int) ∧ ∃ ls im, RefRaw wr (more F w W7) r t { S with im := im } gl cl ls pv xs ∧ (∀ i, i < t → dsec im i = if i ∈ (keysOf S t).take j then cutOf S l i else dsec S.im i) ∧ Keeps F w wr ∧ wr.ownsRow w.heap.size 94 2 u5 (keysOf S t).length ys ∧ Fresh wr (fun b => w.heap.size ≤ b ∧ b < W7.heap.size) S l (keysOf S t) ys ∧ wr.heap.size = W7.heap.size) (fun i _ => (keysOf S t).length - (intOf i).toNat)
      case atStart => exact ⟨0, Nat.zero_le _, rfl, ls, S.im, Hh7.out, fun i _ => by simp, Hk7.out, Hown7.out, Hfr7.out, rfl⟩
      case round =>
        clear Hh7 Hk7 Hown7 Hfr7
        obtain ⟨j, hj, rfl, ls, im, hd, hse, hk, hown, hfr, hsz⟩ := hrel
        have c0 := cell_of_block hd.blk (j := 0) rfl
        obtain ⟨af, cf, hv7, hfc⟩ := fresh_cells hown hfr
        have Hse := Hid.mk hse
        clear hse
        by_cases hlt : j < (keysOf S t).length
        · have hlt' : (j : Int) < ((keysOf S t).length : Int) := by omega
          obtain ⟨gf, rfl, hgf, hfc⟩ := hfc (by omega)
          obtain ⟨g, p1, p2, hF, hr⟩ := hfc j hlt
          have hkj : (keysOf S t)[j]? = some (keysOf S t)[j] := List.getElem?_eq_getElem hlt
          obtain ⟨hks, hp, _, hse2⟩ := crash_step Hok.out l hd.ok.len hkj Hse.out
          have hks' : (((keysOf S t)[j] : Nat) : Int) < (t : Int) := by omega
          obtain ⟨q1, q2⟩ := hd.stored hks (.inr hF) hr (im := splice im ((keysOf S t)[j] * 512) (cutOf S l (keysOf S t)[j])) (by rw [splice_len _ _ _ (by rw [cut_len Hok.out l _ hks]; have := hd.ok.len; simp only at this; omega)]; exact hd.ok.len) (fun i hi => sec_splice hd.ok.len (cut_len Hok.out l _ hks) hks)
          obtain ⟨gx, cx, hx1, _⟩ := hd.secs _ hks
          have cl0 := hd.last.cell hx1
          have fl := hd.last.frozen (keysOf S t)[j]
          have hrl : r ≠ gl := fun e => hd.last.ne hd.blk (by decide) e.symm
          have hb' := hd.last
          obtain ⟨cur, hbl, _⟩ := hb'
          have hpl : gf ≠ gl := ownsRow_ne hown (by rw [hv7]; rfl) hbl (by decide)
          have hown2 : (wr.setCell ⟨gl, (keysOf S t)[j], none⟩ (.slice (some ⟨g, 0, none⟩) 512 512)).ownsRow w.heap.size 94 2 u5 (keysOf S t).length ys := ownsRow_agree hown (fun b e => Below.heap_setCell _ _ _ _ (ownsRow_ne hown e hbl (by decide)))
          have hfr2 : Fresh (wr.setCell ⟨gl, (keysOf S t)[j], none⟩ (.slice (some ⟨g, 0, none⟩) 512 512)) (fun b => w.heap.size ≤ b ∧ b < W7.heap.size) S l (keysOf S t) ys := hfr.agree (fun _ h => h) (fun b zs _ hr' => hr'.other q2 hbl (by decide))
          have hq : RefRaw (wr.setCell ⟨gl, (keysOf S t)[j], none⟩ (.slice (some ⟨g, 0, none⟩) 512 512)) (more F w W7) r t { S with im := splice im ((keysOf S t)[j] * 512) (cutOf S l (keysOf S t)[j]) } gl cl (ls.set (keysOf S t)[j] (.slice (some ⟨g, 0, none⟩) 512 512)) pv xs ∧ (∀ i, i < t → dsec (splice im ((keysOf S t)[j] * 512) (cutOf S l (keysOf S t)[j])) i = if i ∈ (keysOf S t).take (j + 1) then cutOf S l i else dsec S.im i) ∧ Keeps F w (wr.setCell ⟨gl, (keysOf S t)[j], none⟩ (.slice (some ⟨g, 0, none⟩) 512 512)) ∧
              (wr.setCell ⟨gl, (keysOf S t)[j], none⟩ (.slice (some ⟨g, 0, none⟩) 512 512)).ownsRow w.heap.size 94 2 u5 (keysOf S t).length ys ∧ Fresh (wr.setCell ⟨gl, (keysOf S t)[j], none⟩ (.slice (some ⟨g, 0, none⟩) 512 512)) (fun b => w.heap.size ≤ b ∧ b < W7.heap.size) S l (keysOf S t) ys ∧ (wr.setCell ⟨gl, (keysOf S t)[j], none⟩ (.slice (some ⟨g, 0, none⟩) 512 512)).heap.size = W7.heap.size :=
            ⟨q1, hse2, hk.trans q2 (fun b hb => .inl (hb ▸ HFl.out)), hown2, hfr2, by simpa [World.setCell] using hsz⟩
          have Hq := Hid.mk hq
          have mo : ∀ b o v, b ≠ gl → (wr.setCell ⟨gl, (keysOf S t)[j], none⟩ v).cell? ⟨b, o, none⟩ = wr.cell? ⟨b, o, none⟩ := fun b o v hb => World.cell?_of_block (w := wr) (a := ⟨b, o, none⟩) (Below.heap_setCell wr ⟨gl, (keysOf S t)[j], none⟩ v b hb)
          have m0 := fun v => (mo r 0 v hrl).trans c0
          have m2 := fun v => (mo gf (j * 2) v hpl).trans p1
          have m3 := fun v => (mo gf (j * 2 + 1) v hpl).trans p2
          have M := Hid.mk (And.intro m0 (And.intro m2 m3))
          clear m0 m2 m3 mo hq q1 q2 hr hd hfc hk hx1 hown hfr hown2 hfr2 hbl hse2 Hse hkj
          generalize (keysOf S t)[j] = kj at *
          subst hv7
          go_wp2_with fail
          go_region_held3 (fun w' => w'.cell? ⟨r, 0, none⟩ = some (.slice (some ⟨gl, 0, none⟩) t cl) ∧ w'.cell? ⟨gf, j * 2, none⟩ = some (.int .i64 (kj : Int)) ∧ w'.cell? ⟨gf, j * 2 + 1, none⟩ = some (.slice (some ⟨g, 0, none⟩) 512 512)) (first | exact ⟨c0, p1, p2⟩ | exact ⟨M.out.1 _, M.out.2.1 _, M.out.2.2 _⟩) (fail)
          all_goals
            go_wp2
            go_roundw
            case rel =>
              obtain ⟨z1, z2, z3, z4, z5, z6⟩ := Hq.out
              exact ⟨j + 1, by omega, by go_num, _, _, z1.agree (Nat.le_refl _) (fun _ _ => rfl), z2, ⟨z3.os, z3.tape, z3.output, z3.size, z3.block⟩, z4, z5, z6⟩
            case measure => simp [intOf]; omega
        · have hlt' : ¬ (j : Int) < ((keysOf S t).length : Int) := by omega
          have ej : j = (keysOf S t).length := by omega
          rw [ej] at Hse
          have hall := crash_all Hok.out l hd.ok.len Hse.out
          obtain ⟨d1, d2, d3, d4, d5, d6, hd7, hk7⟩ := rcrash_end hd hall HFr.out hk
          have hs7 : (((wr.setCell ⟨r, 1, none⟩ (.slice none 0 0)).setCell ⟨r, 2, none⟩ (.int .i64 (-1))).setCell ⟨r, 3, none⟩ (.int .i64 (wrap64 (S.life + 1)))).heap.size = W7.heap.size := by simpa [World.setCell] using hsz
          have hm : more F w W7 = more F w (((wr.setCell ⟨r, 1, none⟩ (.slice none 0 0)).setCell ⟨r, 2, none⟩ (.int .i64 (-1))).setCell ⟨r, 3, none⟩ (.int .i64 (wrap64 (S.life + 1)))) := by unfold more; rw [hs7]
          rw [hm] at hd7
          have Hq := Hid.mk (And.intro (show RefAt _ _ r t (S.crash t l) from ⟨gl, cl, ls, _, _, hd7⟩) hk7)
          obtain ⟨ap, cp, hpv, _⟩ := hd.form
          rw [hpv] at d1
          subst hv7
          clear hd7 hk7 hall hd Hse hk ej hown hfr hfc hm hs7
          go_wp2
          go_end0
          exact ⟨rfl, Hq.out⟩

end Go.Proofs.YtijgdmhglnanjaaGreat
end

section
namespace Go.Proofs.YtijgdmhglnanjaaGreat
open Go.RowKit Go.Maps

/-- The sectors laid so far. -/
def LS (w : World) (lo : Nat) (l : List Int) (vs : List Value) : Prop := ∀ i, i < vs.length → ∃ g c, vs[i]? = some (.slice (some ⟨g, 0, none⟩) 512 c) ∧ lo ≤ g ∧ RowAt w 5 g c (bs (dsec l i))

theorem ref_fresh {w0 w : World} {r s gl cl : Nat} {vs : List Value} {l : List Int} (hb : w.heap[r]? = some (.cells (dkCells (.slice (some ⟨gl, 0, none⟩) s cl) (.slice none 0 0) (-1) 1 0 0 0 0) 73 (0, 0))) (hr : RowAt w 34 gl cl vs) (hvl : vs.length = s) (hls : LS w w0.heap.size l vs)
    (hr0 : w0.heap.size ≤ r) (hg0 : w0.heap.size ≤ gl) (hl : l.length = s * 512) (h1 : 1 ≤ s) (h2 : s ≤ 2048) : RefAt w (fun k => w0.heap.size ≤ k ∧ k < w.heap.size) r s (DS.fresh l) := by
  refine ⟨gl, cl, vs, .slice none 0 0, [], ⟨hr0, (Array.getElem?_eq_some_iff.1 hb).1⟩, ⟨hg0, hr.lt⟩, fun k hk => hk.2, hb, hr, hvl, fun k hk => ?_, World.ownsRow_nil _ _ _ _, by simp [Value.ownBlock], by simp [DS.fresh], ⟨hl, h1, h2, by simp [DS.fresh], by simp [DS.fresh]⟩⟩
  obtain ⟨g, c, e1, e2, e3⟩ := hls k (by omega)
  exact ⟨g, c, e1, ⟨e2, e3.lt⟩, e3⟩

theorem rnew_no (s : Int) (w : World) (h : s < 1 ∨ 2048 < s) :
    Calls Tryz.prog 42 #[.int .i64 s] w fun e w' => e = .returned (.tuple #[.pointer none, .int .i64 10]) ∧ w' = w := by
  rcases h with h | h
  · go_enter Tryz.func42, Tryz.ntmps42
    go_wp2
    go_ret2
    exact ⟨rfl, rfl⟩
  · have h' : ¬ s < 1 := by omega
    go_enter Tryz.func42, Tryz.ntmps42
    go_wp2
    go_ret2
    exact ⟨rfl, rfl⟩

theorem zeros_low (w : World) :
    Calls Tryz.prog 48 #[] w fun e w' => e = .returned (.slice (some ⟨w.heap.size, 0, none⟩) 512 512) ∧ RowAt w' 5 w.heap.size 512 (bs (List.replicate 512 0)) ∧ Below w.heap.size w w' := by
  obtain ⟨i0, hi, hz0, hz1, hz2⟩ := info_parts infoU8
  go_enter Tryz.func48, Tryz.ntmps48
  go_wp2_with (at_make; refine wpList_make_full _ rfl _ _ 34 rfl w.heap.size 5 i0 (.int .u8 0) 1 Tryz.underlying34 hi hz0 hz1 _ _ _ _ 512 rfl rfl (by omega) (by omega) (by rw [hz2]; omega) (by unfold maxLen; omega) (Nat.le_refl _) ?_)
  intro w1 hown hgrow
  have hr := made_row (by simpa [Value.cells] using hown)
  have hb : Below w.heap.size w w1 := (Below.refl _ w).grown hgrow (Nat.le_refl _) (by intro k hk; cases hk)
  have Hr := Hid.mk hr
  clear hown hgrow hr
  go_wp2
  go_ret
  exact ⟨rfl, Hr.out, hb⟩

theorem sec_zero (s k : Nat) (hk : k < s) : dsec (List.replicate (s * 512) 0) k = List.replicate 512 0 := by
  unfold dsec
  rw [List.drop_replicate, List.take_replicate]
  congr 1
  omega

/-- One sector joins. -/
theorem LS.snoc {w w' : World} {lo : Nat} {l : List Int} {vs : List Value} (h : LS w lo l vs) (hb : ∀ b c ys, lo ≤ b → RowAt w 5 b c ys → RowAt w' 5 b c ys) {g c : Nat} (hg : lo ≤ g) (hr : RowAt w' 5 g c (bs (dsec l vs.length))) : LS w' lo l (vs ++ [.slice (some ⟨g, 0, none⟩) 512 c]) := by
  intro i hi
  by_cases hi' : i < vs.length
  · obtain ⟨g', c', e1, e2, e3⟩ := h i hi'
    exact ⟨g', c', by rw [List.getElem?_append_left hi']; exact e1, e2, hb _ _ _ e2 e3⟩
  · have ei : i = vs.length := by simp at hi; omega
    subst ei
    exact ⟨g, c, by simp, hg, hr⟩

/-- What a round leaves: the list has grown, and lies in the struct. -/
theorem last_step {w0 w1 w2 : World} {r j g2 cap2 g cg : Nat} {v : Value} {vs : List Value} {l : List Int} {o : Obj} (hr0 : w0.heap.size ≤ r) (hb1 : Below w0.heap.size w0 w1) (hst : w1.heap[r]? = some (.cells (dkCells v (.slice none 0 0) (-1) 1 0 0 0 0) 73 (0, 0)))
    (hown1 : w1.ownsRow w0.heap.size 34 1 v j vs) (hls : LS w1 w0.heap.size l vs) (hg : w0.heap.size ≤ g) (hr : RowAt w1 5 g cg (bs (dsec l vs.length)))
    (hgrow : (w1.alloc o).grownBy w2 v.ownBlock) (hown : w2.ownsRow w0.heap.size 34 1 (.slice (some ⟨g2, 0, none⟩) (j + 1) cap2) (j + 1) (vs ++ [.slice (some ⟨g, 0, none⟩) 512 cg])) :
    w2.cell? ⟨r, 0, none⟩ = some v ∧ w2.frozen? ⟨r, 0, none⟩ = false ∧
    (w2.setCell ⟨r, 0, none⟩ (.slice (some ⟨g2, 0, none⟩) (j + 1) cap2)).heap[r]? = some (.cells (dkCells (.slice (some ⟨g2, 0, none⟩) (j + 1) cap2) (.slice none 0 0) (-1) 1 0 0 0 0) 73 (0, 0)) ∧
    (w2.setCell ⟨r, 0, none⟩ (.slice (some ⟨g2, 0, none⟩) (j + 1) cap2)).ownsRow w0.heap.size 34 1 (.slice (some ⟨g2, 0, none⟩) (j + 1) cap2) (j + 1) (vs ++ [.slice (some ⟨g, 0, none⟩) 512 cg]) ∧
    LS (w2.setCell ⟨r, 0, none⟩ (.slice (some ⟨g2, 0, none⟩) (j + 1) cap2)) w0.heap.size l (vs ++ [.slice (some ⟨g, 0, none⟩) 512 cg]) ∧ Below w0.heap.size w0 (w2.setCell ⟨r, 0, none⟩ (.slice (some ⟨g2, 0, none⟩) (j + 1) cap2)) ∧
    (∀ b c ys, RowAt w1 5 b c ys → RowAt (w2.setCell ⟨r, 0, none⟩ (.slice (some ⟨g2, 0, none⟩) (j + 1) cap2)) 5 b c ys) := by
  have hzs : (w1.alloc o).heap.size = w1.heap.size + 1 := by simp
  have hz2 := hgrow.size
  have hrl := (Array.getElem?_eq_some_iff.1 hst).1
  have hr2 : w2.heap[r]? = some (.cells (dkCells v (.slice none 0 0) (-1) 1 0 0 0 0) 73 (0, 0)) :=
    ((hgrow.block r (by omega) (fun e => ownsRow_ne hown1 e.symm hst (by decide) rfl)).trans (Below.heap_alloc _ _ _ hrl)).trans hst
  have keep : ∀ b c ys, RowAt w1 5 b c ys → RowAt (w2.setCell ⟨r, 0, none⟩ (.slice (some ⟨g2, 0, none⟩) (j + 1) cap2)) 5 b c ys := fun b c ys hb => by
    have h1 := hb.lt
    have hne := hb.ne hst (by decide)
    have hb2 := hb
    obtain ⟨cur, hbb, _⟩ := hb2
    exact hb.agree ((Below.heap_setCell _ _ _ _ hne).trans ((hgrow.block b (by omega) (fun e => ownsRow_ne hown1 e.symm hbb (by decide) rfl)).trans (Below.heap_alloc _ _ _ h1)))
  refine ⟨cell_of_block hr2 (j := 0) rfl, frozen_of_block hr2 0, ?_, ?_, hls.snoc (fun b c ys _ h => keep b c ys h) hg (keep _ _ _ hr), ?_, keep⟩
  · rw [heap_setCell_same _ _ _ _ _ _ hr2]; simp [dkCells]
  · exact ownsRow_agree hown (fun b e => Below.heap_setCell _ _ _ _ (ownsRow_ne hown e hr2 (by decide)))
  · exact ((hb1.alloc hb1.size o).grown hgrow (by have := hb1.size; omega) (fun b e => (hown1.lt b e).1)).setCell hr0 _

set_option maxHeartbeats 4000000 in
theorem rnew_ok (s : Nat) (w : World) (h1 : 1 ≤ s) (h2 : s ≤ 2048) :
    Calls Tryz.prog 42 #[.int .i64 s] w fun e w' => ∃ r, e = .returned (.tuple #[.pointer (some ⟨r, 0, none⟩), .int .i64 0]) ∧ RefAt w' (fun k => w.heap.size ≤ k ∧ k < w'.heap.size) r s (DS.fresh (List.replicate (s * 512) 0)) ∧ Below w.heap.size w w' := by
  obtain ⟨i0, hi0, hz0, hz1, hz2⟩ := info_parts infoRow
  have h1' : ¬ (s : Int) < 1 := by omega
  have h2' : ¬ (2048 : Int) < (s : Int) := by omega
  go_enter Tryz.func42, Tryz.ntmps42
  go_wp2_with (go_at_call 48; refine (zeros_low w).mono ?_; rintro e w1 ⟨rfl, hr1, hb1⟩)
  have hsz := hb1.size
  have hst : (w1.alloc (.cells (dkCells (.slice none 0 0) (.slice none 0 0) (-1) 1 0 0 0 0) 73)).heap[w1.heap.size]? = some (.cells (dkCells (.slice none 0 0) (.slice none 0 0) (-1) 1 0 0 0 0) 73 (0, 0)) := heap_alloc_new _ _
  have hz3 : RowAt (w1.alloc (.cells (dkCells (.slice none 0 0) (.slice none 0 0) (-1) 1 0 0 0 0) 73)) 5 w.heap.size 512 (bs (List.replicate 512 0)) := hr1.agree (Below.heap_alloc _ _ _ hr1.lt)
  have hb3 : Below w.heap.size w (w1.alloc (.cells (dkCells (.slice none 0 0) (.slice none 0 0) (-1) 1 0 0 0 0) 73)) := hb1.alloc hsz _
  have H0 := Hid.mk (And.intro hst (And.intro hz3 hb3))
  clear hst hz3 hb3 hr1 hb1
  go_loopw [6] (fun i wr => ∃ j : Nat, j ≤ s ∧ i = .int .i64 (j : Int) ∧ ∃ v vs, wr.heap[w1.heap.size]? = some (.cells (dkCells v (.slice none 0 0) (-1) 1 0 0 0 0) 73 (0, 0)) ∧ wr.ownsRow w.heap.size 34 1 v j vs ∧ LS wr w.heap.size (List.replicate (s * 512) 0) vs ∧
      RowAt wr 5 w.heap.size 512 (bs (List.replicate 512 0)) ∧ Below w.heap.size w wr) (fun i _ => s - (intOf i).toNat)
  case atStart => exact ⟨0, Nat.zero_le _, rfl, .slice none 0 0, [], H0.out.1, World.ownsRow_nil _ _ _ _, fun i hi => by simp at hi, H0.out.2.1, H0.out.2.2⟩
  case round =>
    clear H0
    obtain ⟨j, hj, rfl, v, vs, hst, hown, hls, hz, hb⟩ := hrel
    have c0 := cell_of_block hst (j := 0) rfl
    have hvl : vs.length = j := by simpa using hown.1
    by_cases hlt : j < s
    · have hlt' : (j : Int) < (s : Int) := by omega
      obtain ⟨av, cv, hv⟩ : ∃ a c, v = .slice a j c := by
        obtain ⟨_, ⟨e, hn⟩ | ⟨g, cap, cur, e, _⟩⟩ := hown
        · exact ⟨none, 0, by rw [e, hn]⟩
        · exact ⟨_, _, e⟩
      subst hv
      have Hall := Hid.mk (And.intro hst (And.intro hown (And.intro hls (And.intro hz hb))))
      have hrl := (Array.getElem?_eq_some_iff.1 hst).1
      have hwz := hb.size
      clear hst hls hz hb
      have Hown := Hid.mk hown
      clear hown
      go_wp2_with (at_builtin; refine wpList_append_own _ rfl _ _ 70 rfl w.heap.size 34 i0 (.slice none 0 0) 1 24 Tryz.underlying70 hi0 hz0 hz1 hz2 rfl (by decide) _ _ _ rfl (Hown.out.alloc _) ⟨wr.heap.size, 0, none⟩ 1 1 [.slice (some ⟨w.heap.size, 0, none⟩) 512 512] rfl rfl (cell_one_new _ _ _) (by intro u hu; simp at hu; subst hu; rfl) (by unfold maxLen; omega) (by omega) (by simp; omega) ?_)
      intro v' w3 hown' hgrow hnil
      obtain ⟨g2, cap2, rfl, _, _, _⟩ := RowAt.of_owns hown' (by rintro rfl; rcases hown'.2 with ⟨_, h⟩ | ⟨_, _, _, h, _⟩; omega; cases h)
      obtain ⟨hst, hown, hls, hz, hb⟩ := Hall.out
      obtain ⟨d1, d2, d3, d4, d5, d6, d7⟩ := last_step hsz hb hst hown hls (Nat.le_refl _) (by rw [hvl, sec_zero s j hlt]; exact hz) hgrow hown'
      have Hz := Hid.mk (And.intro d3 (And.intro d4 (And.intro d5 (And.intro (d7 _ _ _ hz) d6))))
      clear d3 d4 d5 d6 d7 hst hown hls hz hb hown' hgrow hnil Hall Hown c0
      go_wp2
      go_roundw
      case rel => exact ⟨j + 1, by omega, by go_num, _, _, Hz.out⟩
      case measure => simp [intOf]; omega
    · have hlt' : ¬ (j : Int) < (s : Int) := by omega
      have ej : j = s := by omega
      subst ej
      obtain ⟨g2, cap2, hv, hg2, hr2, _⟩ := RowAt.of_owns hown (by rintro rfl; rcases hown.2 with ⟨_, h⟩ | ⟨_, _, _, h, _⟩; omega; cases h)
      rw [hv] at hst
      have hfin := ref_fresh (w0 := w) hst hr2 hvl hls hsz hg2 (by simp) h1 h2
      have Hq := Hid.mk (And.intro hfin hb)
      clear hst hown hls hz hb hr2 hfin c0
      go_wp2
      go_ret2
      exact ⟨_, rfl, Hq.out⟩
end Go.Proofs.YtijgdmhglnanjaaGreat
end

section
namespace Go.Proofs.YtijgdmhglnanjaaGreat
open Go.RowKit Go.Maps

theorem rload_bad (a : Option Addr) (n c : Nat) (w : World) (h : n % 512 ≠ 0) :
    Calls Tryz.prog 40 #[.slice a n c] w fun e w' => e = .returned (.tuple #[.pointer none, .int .i64 2]) ∧ w' = w := by
  have h' : (((n : Int) % 512) != 0) = true := by rw [bne_iff_ne]; omega
  go_enter Tryz.func40, Tryz.ntmps40
  go_wp2
  go_ret2
  exact ⟨rfl, rfl⟩

theorem rload_no (a : Option Addr) (n c : Nat) (w : World) (hn : n ≤ 140737488355328) (h : n % 512 = 0) (h0 : n = 0 ∨ 1048576 < n) :
    Calls Tryz.prog 40 #[.slice a n c] w fun e w' => e = .returned (.tuple #[.pointer none, .int .i64 10]) ∧ w' = w := by
  have h' : (((n : Int) % 512) != 0) = false := by rw [Bool.eq_false_iff, ne_eq, bne_iff_ne]; omega
  obtain ⟨q, hq⟩ : ∃ q : Nat, ((n : Int) / 512) = (q : Int) := ⟨n / 512, by omega⟩
  have hwq : wrap64 (q : Int) = (q : Int) := by unfold wrap64; omega
  rcases h0 with h0 | h0
  · have h1 : (q : Int) < 1 := by omega
    go_enter Tryz.func40, Tryz.ntmps40
    go_wp2
    go_ret2
    exact ⟨rfl, rfl⟩
  · have h1 : ¬ (q : Int) < 1 := by omega
    have h2 : 2048 < (q : Int) := by omega
    go_enter Tryz.func40, Tryz.ntmps40
    go_wp2
    go_ret2
    exact ⟨rfl, rfl⟩

theorem part_src {w : World} {b o n k : Nat} {l : List Int} (h : ∀ i, i < n → w.cell? ⟨b, o + i, none⟩ = some (.int .u8 (l.getD i 0))) (hl : l.length = n) (hk : k * 512 + 512 ≤ n) : Src w (some ⟨b, o + k * 512, none⟩) 512 (dsec l k) := by
  refine ⟨by simp [dsec]; omega, (fun h => by cases h), fun x hx i hi => ?_⟩
  cases hx
  rw [addr_add, Nat.add_assoc, h (k * 512 + i) (by omega)]
  simp [dsec, List.getD, hi]

set_option maxHeartbeats 4000000 in
set_option maxRecDepth 100000 in
theorem rload_ok (b o n c s : Nat) (l : List Int) (w : World) (hc : ∀ i, i < n → w.cell? ⟨b, o + i, none⟩ = some (.int .u8 (l.getD i 0))) (hll : l.length = n) (h : n = s * 512) (hcap : n ≤ c) (h1 : 1 ≤ s) (h2 : s ≤ 2048) :
    Calls Tryz.prog 40 #[.slice (some ⟨b, o, none⟩) n c] w fun e w' => ∃ r, e = .returned (.tuple #[.pointer (some ⟨r, 0, none⟩), .int .i64 0]) ∧ RefAt w' (fun k => w.heap.size ≤ k ∧ k < w'.heap.size) r s (DS.fresh l) ∧ Below w.heap.size w w' := by
  obtain ⟨i0, hi0, hz0, hz1, hz2⟩ := info_parts infoRow
  have h' : (((n : Int) % 512) != 0) = false := by rw [Bool.eq_false_iff, ne_eq, bne_iff_ne]; omega
  have hq : ((n : Int) / 512) = (s : Int) := by omega
  have h1' : ¬ (s : Int) < 1 := by omega
  have h2' : ¬ (2048 : Int) < (s : Int) := by omega
  have Hc := Hid.mk hc
  have Hn := Hid.mk h
  clear hc h
  go_enter Tryz.func40, Tryz.ntmps40
  go_wp2
  have hst : (w.alloc (.cells (dkCells (.slice none 0 0) (.slice none 0 0) (-1) 1 0 0 0 0) 73)).heap[w.heap.size]? = some (.cells (dkCells (.slice none 0 0) (.slice none 0 0) (-1) 1 0 0 0 0) 73 (0, 0)) := heap_alloc_new _ _
  have hb3 : Below w.heap.size w (w.alloc (.cells (dkCells (.slice none 0 0) (.slice none 0 0) (-1) 1 0 0 0 0) 73)) := (Below.refl _ _).alloc (Nat.le_refl _) _
  have H0 := Hid.mk (And.intro hst hb3)
  clear hst hb3
  go_loopw [6] (fun i wr => ∃ j : Nat, j ≤ s ∧ i = .int .i64 (j : Int) ∧ ∃ v vs, wr.heap[w.heap.size]? = some (.cells (dkCells v (.slice none 0 0) (-1) 1 0 0 0 0) 73 (0, 0)) ∧ wr.ownsRow w.heap.size 34 1 v j vs ∧ LS wr w.heap.size l vs ∧
      Below w.heap.size w wr) (fun i _ => s - (intOf i).toNat)
  case atStart => exact ⟨0, Nat.zero_le _, rfl, .slice none 0 0, [], H0.out.1, World.ownsRow_nil _ _ _ _, fun i hi => by simp at hi, H0.out.2⟩
  case round =>
    clear H0
    obtain ⟨j, hj, rfl, v, vs, hst, hown, hls, hb⟩ := hrel
    have c0 := cell_of_block hst (j := 0) rfl
    have hvl : vs.length = j := by simpa using hown.1
    by_cases hlt : j < s
    · have hlt' : (j : Int) < (s : Int) := by omega
      obtain ⟨av, cv, hv⟩ : ∃ a c, v = .slice a j c := by
        obtain ⟨_, ⟨e, hn⟩ | ⟨g, cap, cur, e, _⟩⟩ := hown
        · exact ⟨none, 0, by rw [e, hn]⟩
        · exact ⟨_, _, e⟩
      subst hv
      have hnn := Hn.out
      have hkk : j * 512 + 512 ≤ n := by omega
      obtain ⟨m, hm⟩ : ∃ m : Nat, m = j * 512 := ⟨_, rfl⟩
      obtain ⟨m2, hm2⟩ : ∃ m2 : Nat, m2 = m + 512 := ⟨_, rfl⟩
      have x1 : IntKind.i64.wrap ((j : Int) * 512) = (m : Int) := by rw [IntKind.wrap_i64]; all_goals omega
      have x2 : IntKind.i64.wrap ((m : Int) + 512) = (m2 : Int) := by rw [IntKind.wrap_i64]; all_goals omega
      have x3 : (m2 : Int) ≤ (c : Int) := by omega
      have x4 : m ≤ m2 := by omega
      have x5 : ¬ c = m := by omega
      have x6 : m2 - m = 512 := by omega
      have hsrc : Src wr (some ⟨b, o + j * 512, none⟩) 512 (dsec l j) := part_src (fun i hi => cell_later hb (Hc.out i hi)) hll hkk
      rw [← hm] at hsrc
      have hrl := (Array.getElem?_eq_some_iff.1 hst).1
      have hwz := hb.size
      have htw : ∀ cx, Calls Tryz.prog 77 #[.slice (some ⟨b, o + m, none⟩) 512 cx] wr.drew fun e w' => ∃ v, e = .returned v ∧ TwR wr (dsec l j) v w' := fun cx =>
        (rtwin_any (some ⟨b, o + m, none⟩) 512 cx (dsec l j) wr.drew (by omega) hsrc).mono (by rintro e w' ⟨g, rfl, h1, h2, h3⟩; exact ⟨_, rfl, g, rfl, h1, h2, ⟨h3.os, h3.tape, h3.output, h3.size, h3.block⟩⟩)
      have hcell : ∀ wx : World, wx.heap[w.heap.size]? = wr.heap[w.heap.size]? → wx.cell? ⟨w.heap.size, 0, none⟩ = some (.slice av j cv) := fun wx e => cell_of_block (e.trans hst) (j := 0) rfl
      have Hcell := Hid.mk hcell
      have Htw := Hid.mk htw
      have Hst := Hid.mk hst
      have Hown := Hid.mk hown
      have Hls := Hid.mk hls
      have Hb := Hid.mk hb
      clear hst hls hb hown htw hcell hsrc hnn hm hm2
      go_wp2_with fail
      go_region_law
        (first
          | (refine step_call (by rfl) 77 #[.slice (some ⟨b, o + m, none⟩) 512 (c - m)] (by simp [go_sem]) (TwR wr (dsec l j)) (Htw.out _) ?_; rintro _ w1 ⟨g, rfl, hg, hr, hb1⟩; have hr1 : w1.heap[w.heap.size]? = wr.heap[w.heap.size]? := hb1.block w.heap.size hrl; have k1 := Hcell.out w1 hr1; have k2 := fun o => Hcell.out (w1.alloc o) ((Below.heap_alloc w1 o w.heap.size (Nat.lt_of_lt_of_le hrl hb1.size)).trans hr1))
          | (refine step_append_lies _ (by rfl) _ _ _ (by rfl) w.heap.size 34 i0 _ 1 24 Tryz.underlying70 hi0 hz0 hz1 hz2 rfl (by omega) (.slice av j cv) j vs (by rfl) (ownsRow_agree Hown.out (fun g e => (Below.heap_alloc w1 _ _ (Nat.lt_of_lt_of_le (Hown.out.lt g e).2 hb1.size)).trans (hb1.block g (Hown.out.lt g e).2)))
              ⟨w1.heap.size, 0, none⟩ 1 1 [.slice (some ⟨g, 0, none⟩) 512 512] (by rfl) (by rfl) (cell_one_new _ _ _) (by simp [Value.oneCell']) (by omega) (by unfold maxLen; omega) (by omega) (by have := hb1.size; simp; omega) (w1.heap.size + 1) (by simp) ?_; intro g2 cap2 w2 hown2 hgrow2 hat2 hlt2
             obtain ⟨d1, d2, d3, d4, d5, d6, d7⟩ := last_step (Nat.le_refl _) (Hb.out.trans (hb1.mono hwz)) (hr1.trans Hst.out) (ownsRow_agree Hown.out (fun g e => hb1.block g (Hown.out.lt g e).2)) (fun i hi => by obtain ⟨g', c', e1, e2, e3⟩ := Hls.out i hi; exact ⟨g', c', e1, e2, e3.agree (hb1.block g' e3.lt)⟩) (Nat.le_trans hwz hg) (by rw [hvl]; exact hr) hgrow2 hown2))
      all_goals
        have Hz := Hid.mk (And.intro d3 (And.intro d4 (And.intro d5 d6)))
        clear d3 d4 d5 d6 d7 hr hb1 hown2 hgrow2 hat2 hlt2 hr1 k1 k2 d1 d2 Hst Hown Hls Hb Htw Hcell c0 x1 x2 x3 x4 x5 x6
        go_wp2
        go_roundw
        case rel => exact ⟨j + 1, by omega, by go_num, _, _, Hz.out⟩
        case measure => simp [intOf]; omega
    · have hlt' : ¬ (j : Int) < (s : Int) := by omega
      have ej : j = s := by omega
      subst ej
      obtain ⟨g2, cap2, hv, hg2, hr2, _⟩ := RowAt.of_owns hown (by rintro rfl; rcases hown.2 with ⟨_, h⟩ | ⟨_, _, _, h, _⟩; omega; cases h)
      rw [hv] at hst
      have hfin := ref_fresh (w0 := w) hst hr2 hvl hls (Nat.le_refl _) hg2 (by have := Hn.out; omega) h1 h2
      have Hq := Hid.mk (And.intro hfin hb)
      clear hst hown hls hb hr2 hfin c0
      go_wp2
      go_ret2
      exact ⟨_, rfl, Hq.out⟩
end Go.Proofs.YtijgdmhglnanjaaGreat
end

section
namespace Go.Proofs.YtijgdmhglnanjaaGreat
open Go.RowKit Go.Maps

theorem take_sec {im : List Int} (j : Nat) : im.take (j * 512) ++ dsec im j = im.take ((j + 1) * 512) := by
  unfold dsec
  rw [show (j + 1) * 512 = j * 512 + 512 by omega, List.take_add]

set_option maxHeartbeats 4000000 in
theorem rimage_any {w : World} {F : Nat → Prop} {r s : Nat} {S : DS} (hd : RefAt w F r s S) :
    Calls Tryz.prog 30 #[.pointer (some ⟨r, 0, none⟩)] w fun e w' => ∃ g c, e = .returned (.slice (some ⟨g, 0, none⟩) (s * 512) c) ∧ w.heap.size ≤ g ∧ RowAt w' 5 g c (bs S.im) ∧ Below w.heap.size w w' := by
  obtain ⟨gl, cl, ls, pv, xs, h⟩ := hd
  obtain ⟨i0, hi, hz0, hz1, hz2⟩ := info_parts infoU8
  have c0 := cell_of_block h.blk (j := 0) rfl
  have hsm := h.ok.hi
  have hlen := h.ok.len
  have H := Hid.mk h
  clear h
  obtain ⟨m, hm⟩ : ∃ m : Nat, m = s * 512 := ⟨_, rfl⟩
  have x1 : IntKind.i64.wrap ((s : Int) * 512) = (m : Int) := by rw [IntKind.wrap_i64]; all_goals omega
  have x1' : wrap64 ((s : Int) * 512) = (m : Int) := by unfold wrap64; omega
  rw [← hm] at hlen ⊢
  have Hm := Hid.mk hm
  have hm20 : m ≤ 1048576 := by omega
  clear hm
  go_enter Tryz.func30, Tryz.ntmps30
  go_wp2_with (at_make; refine wpList_make_own _ rfl _ _ 34 rfl w.heap.size 5 i0 (.int .u8 0) 1 Tryz.underlying34 hi hz0 hz1 _ _ _ m rfl rfl ?c1 ?c2 ?c3 (Nat.le_refl _) ?_)
  case c1 => first | rfl | omega
  case c2 => rw [hz2]; omega
  case c3 => unfold maxLen; omega
  intro w1 hown hgrow
  have hb : Below w.heap.size w w1 := (Below.refl _ w).grown hgrow (Nat.le_refl _) (by intro k hk; cases hk)
  have H0 := Hid.mk (And.intro hown hb)
  clear hown hgrow hb x1 x1'
  go_wp2
  go_loopw [3, 4] (fun v i wr => ∃ j : Nat, j ≤ s ∧ i = .int .i64 (j : Int) ∧ ∃ q, v = .slice (some ⟨q, 0, none⟩) (j * 512) m ∧ w.heap.size ≤ q ∧ wr.ownsRow w.heap.size 5 1 v (j * 512) (bs (S.im.take (j * 512))) ∧ Below w.heap.size w wr) (fun _ i _ => s - (intOf i).toNat)
  case atStart => exact ⟨0, Nat.zero_le _, rfl, _, rfl, Nat.le_refl _, H0.out.1, H0.out.2⟩
  case round =>
    clear H0
    obtain ⟨j, hj, rfl, q, rfl, hq, hown, hb⟩ := hrel
    have e0 := cell_later hb c0
    by_cases hlt : j < s
    · have hlt' : (j : Int) < (s : Int) := by omega
      obtain ⟨g, c, p1, hF, hr⟩ := H.out.secs j hlt
      have cj := cell_later hb (H.out.last.cell p1)
      have hr' := hr.agree (hb.block g hr.lt)
      have hl5 : (dsec S.im j).length = 512 := by have := Hm.out; simp [dsec]; omega
      have hsr := hr'.src
      rw [hl5] at hsr
      obtain ⟨k, hk⟩ : ∃ k, k = j * 512 := ⟨_, rfl⟩
      have hkm : k + 512 ≤ m := by have := Hm.out; omega
      have hjk : (j + 1) * 512 = k + 512 := by omega
      rw [← hk] at hown
      have htk : bs (S.im.take k) ++ bs (dsec S.im j) = bs (S.im.take (k + 512)) := by rw [← hjk, ← take_sec, ← hk]; simp [bs]
      rw [← hk]
      have Hown := Hid.mk hown
      have Hsr := Hid.mk hsr
      have Hj := Hid.mk hjk
      have Htk := Hid.mk htk
      have hwz := hb.size
      clear hown hsr hr hr' hk hjk htk
      go_wp2_with (at_builtin; refine wpList_append_fits _ rfl _ _ 34 rfl w.heap.size 5 i0 1 Tryz.underlying34 hi hz1 q k m (bs (S.im.take k)) rfl Hown.out ⟨g, 0, none⟩ 512 c (bs (dsec S.im j)) rfl (by simp [bs, hl5]) (fun t u hu => by obtain ⟨h1, rfl⟩ := bs_getElem hu; exact Hsr.out.2.2 _ rfl t (by omega)) (bs_one _) hkm ?_)
      intro w3 hown hgrow
      have hb3 : Below w.heap.size w w3 := hb.grown hgrow hwz (by intro x hx; cases hx; exact hq)
      have hown : w3.ownsRow w.heap.size 5 1 (.slice (some ⟨q, 0, none⟩) (k + 512) m) (k + 512) (bs (S.im.take (k + 512))) := by
        have h9 := Htk.out
        simp only [bs, List.map_take] at h9 hown ⊢
        rw [h9] at hown
        exact hown
      have Hz := Hid.mk (And.intro hown hb3)
      clear hown hgrow hb3 Hown Hsr Htk hb cj e0
      go_wp2
      go_roundw
      case rel => exact ⟨j + 1, by omega, by go_num, q, by rw [Hj.out], hq, by rw [Hj.out]; exact Hz.out.1, Hz.out.2⟩
      case measure => simp [intOf]; omega
    · have hlt' : ¬ (j : Int) < (s : Int) := by omega
      have ej : j = s := by omega
      subst ej
      rw [← Hm.out, List.take_of_length_le (by omega)] at hown
      obtain ⟨g2, cap2, hv, hg2, hr2, _⟩ := RowAt.of_owns hown (by rintro h; cases h)
      have Hq := Hid.mk (And.intro hg2 (And.intro hr2 hb))
      rw [← Hm.out]
      cases hv
      clear hown hr2 hb hg2
      go_wp2
      go_ret
      exact ⟨_, _, rfl, Hq.out⟩
end Go.Proofs.YtijgdmhglnanjaaGreat
end
