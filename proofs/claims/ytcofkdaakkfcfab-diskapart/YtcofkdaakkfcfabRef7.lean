import Derived.Test.YtcofkdaakkfcfabRef6
namespace Go.Proofs.Ytcofkdaakkfcfab
open Go.RowKit Go.Maps

set_option maxHeartbeats 8000000 in
set_option maxRecDepth 100000 in
theorem rcrash_zero {w : World} {F : Nat → Prop} {r s : Nat} {S : DS} (hd : RefAt w F r s S) (hz : S.puts.length = 0) (a : Option Addr) (n c : Nat) (l : List P3) :
    Calls Try.prog 50 #[.pointer (some ⟨r, 0, none⟩), .slice a n c] w fun e w' => e = .returned (.tuple #[]) ∧ RefAt w' (more F w w') r s (S.crash s l) ∧ Keeps F w w' := by
  obtain ⟨gl, cl, ls, pv, xs, h⟩ := hd
  obtain ⟨ap, cp, hpv, _⟩ := h.form
  have c1 := cell_of_block h.blk (j := 1) rfl
  have hks : keysOf S s = [] := keysOf_none (List.eq_nil_of_length_eq_zero hz) s
  have hall := crash_all h.ok l h.ok.len (fun i _ => by simp [hks])
  have h' : RefRaw w F r s { S with im := S.im } gl cl ls pv xs := h
  obtain ⟨d1, d2, d3, d4, d5, d6, hd7, hk7⟩ := rcrash_end h' hall h.fr (Keeps.refl F w)
  have hs7 : (((w.setCell ⟨r, 1, none⟩ (.slice none 0 0)).setCell ⟨r, 2, none⟩ (.int .i64 (-1))).setCell ⟨r, 3, none⟩ (.int .i64 (wrap64 (S.life + 1)))).heap.size = w.heap.size := by simp [World.setCell]
  have Hq := Hid.mk (And.intro (show RefAt _ (more F w (((w.setCell ⟨r, 1, none⟩ (.slice none 0 0)).setCell ⟨r, 2, none⟩ (.int .i64 (-1))).setCell ⟨r, 3, none⟩ (.int .i64 (wrap64 (S.life + 1))))) r s (S.crash s l) from ⟨gl, cl, ls, _, _, hd7.mono (fun _ hk => .inl hk) (fun k hk => by
    rcases hk with hk | hk
    · exact hd7.lt k hk
    · exact hk.2)⟩) hk7)
  rw [hpv, hz] at c1 d1
  clear h h' hpv hks hz hall hd7 hk7 hs7
  go_enter Try.func50, Try.ntmps50
  go_wp2
  refine wp_loop_rounds 1 ?_
  rw [rounds_succ]
  go_wp2
  go_end0
  exact ⟨rfl, Hq.out⟩

set_option maxHeartbeats 8000000 in
set_option maxRecDepth 100000 in
theorem rcrash_more {w : World} {F : Nat → Prop} {r s : Nat} {S : DS} (hd : RefAt w F r s S) (hz : 0 < S.puts.length) (hbig : S.puts.length + 1 ≤ 4000000000000) (a : Option Addr) (n c : Nat) (l : List P3) (hps : PSrc w a n l) (hn : n ≤ 140737488355328) :
    Calls Try.prog 50 #[.pointer (some ⟨r, 0, none⟩), .slice a n c] w fun e w' => e = .returned (.tuple #[]) ∧ RefAt w' (more F w w') r s (S.crash s l) ∧ Keeps F w w' := by
  obtain ⟨i0, hi0, hz0, hz1, hz2⟩ := info_parts infoPut
  obtain ⟨gl, cl, ls, pv, xs, h⟩ := hd
  have Hok := Hid.mk h.ok
  have HFl := Hid.mk h.fl
  have HFr := Hid.mk h.fr
  obtain ⟨ap, cp, hpv, _⟩ := h.form
  have c0 := cell_of_block h.blk (j := 0) rfl
  have c1 := cell_of_block h.blk (j := 1) rfl
  rw [hpv] at c1
  have hz' : (0 : Int) < (S.puts.length : Int) := by omega
  have hsm := h.ok.hi
  have H := Hid.mk h
  have HP := Hid.mk hps
  clear h hpv hps
  go_enter Try.func50, Try.ntmps50
  go_wp2
  clear c1
  go_loopw [4, 5, 6, 7, 8] (fun kc v i _ _ wr => ∃ t : Nat, t ≤ s ∧ i = .int .i64 (t : Int) ∧ kc = .int .i64 ((keysOf S t).length : Int) ∧ ∃ ys, wr.ownsRow w.heap.size 88 2 v (keysOf S t).length ys ∧ Fresh wr (fun b => w.heap.size ≤ b ∧ b < wr.heap.size) S l (keysOf S t) ys ∧ Below w.heap.size w wr) (fun _ _ i _ _ _ => s - (intOf i).toNat)
  case atStart => exact ⟨0, Nat.zero_le _, rfl, rfl, [], World.ownsRow_nil _ _ _ _, ⟨rfl, fun i hi => by simp [keysOf] at hi⟩, Below.refl _ _⟩
  case round =>
    obtain ⟨t, ht, rfl, rfl, ys, hown, hfr, hb⟩ := hrel
    have e0 := cell_later hb c0
    have hkt : (keysOf S t).length ≤ t := by
      have := List.length_filter_le (fun k => !(pendOf S.puts k).isEmpty) (List.range t)
      rw [List.length_range] at this
      exact this
    by_cases hlt : t < s
    · have hlt' : (t : Int) < (s : Int) := by omega
      have hh : RefRaw wr F r s S gl cl ls pv xs := H.out.agree hb.size (fun k hk => hb.block k (H.out.lt k hk))
      have hca := rcands_at hh t hlt hbig
      have Hown := Hid.mk hown
      have Hfr := Hid.mk hfr
      have hpl := pendOf_len S.puts t
      clear hh hown hfr
      by_cases hp : pendOf S.puts t = []
      · have hl1 : (pendOf S.puts t).length = 0 := by rw [hp]; rfl
        rw [hl1] at hca
        have hsk := Hid.mk (fun w5 h5 => fresh_skip (w5 := w5) hb h5 Hown.out Hfr.out hp)
        have hk2 : keysOf S (t + 1) = keysOf S t := keysOf_skip hp
        have Hk2 := Hid.mk hk2
        clear hk2 hp hl1
        go_wp2_with fail
        refine hca.mono ?_
        rintro e w1 ⟨g1, cg1, vs, rfl, hg1, hr1, hvs, hb1⟩
        obtain ⟨z1, z2, z3⟩ := hsk.out w1 hb1
        have Hz := Hid.mk (And.intro z1 (And.intro z2 z3))
        clear hca hsk z1 z2 z3 hr1 hvs hb1 Hown Hfr hb e0
        go_wp2
        go_roundw
        case rel => exact ⟨t + 1, by omega, by go_num, by rw [Hk2.out], ys, Hz.out.1, Hz.out.2.1, Hz.out.2.2⟩
        case measure => simp [intOf]; omega
      · have hl1 : ((((pendOf S.puts t).length : Int) + 1) == 1) = false := by
          have := List.length_pos_iff.2 hp
          rw [Bool.eq_false_iff, ne_eq, beq_iff_eq]; omega
        have hk2 : (keysOf S (t + 1)).length = (keysOf S t).length + 1 := by rw [keysOf_take hp]; simp
        have Hk2 := Hid.mk hk2
        clear hk2
        go_wp2_with fail
        refine hca.mono ?_
        rintro e w1 ⟨g1, cg1, vs, rfl, hg1, hr1, hvs, hb1⟩
        have hbw1 : Below w.heap.size w w1 := hb.trans (hb1.mono hb.size)
        have Hr1 := Hid.mk hr1
        have Hvs := Hid.mk hvs
        clear hr1 hvs hca
        by_cases hn0 : n = 0
        · subst hn0
          have hq : pickN l (keysOf S t).length = (0, 0, 0) := by simp [pickN, HP.out.1]
          have hte := fun o => rcrash_torn Hok.out hlt hp Hr1.out Hvs.out (fun b hb' => Nat.lt_of_lt_of_le (H.out.lt b hb') hb.size) hb1 ((Below.refl w1.heap.size w1).alloc (Nat.le_refl _) o) 0 0 0 hq (by omega) (by omega) (by omega)
          have Hte := Hid.mk hte
          clear hte hq
          go_wp2_with fail
          refine (Hte.out _).mono ?_
          rintro e w5 ⟨g5, rfl, hg5, hr5, hb5⟩
          have hx5 : Below wr.heap.size wr w5 := (hb1.alloc hb1.size _).trans (hb5.mono (by simp; have := hb1.size; omega))
          have hown5 : w5.ownsRow w.heap.size 88 2 u5 (keysOf S t).length ys := ownsRow_agree Hown.out (fun b e => hx5.block b (Hown.out.lt b e).2)
          have hg6 : wr.heap.size ≤ g5 := by simp at hg5; have := hb1.size; omega
          have hw5 : w.heap.size ≤ w5.heap.size := Nat.le_trans hb.size hx5.size
          have Hown5 := Hid.mk hown5
          have Hr5 := Hid.mk hr5
          have Hx5 := Hid.mk hx5
          clear hown5 hr5 hx5 hb5 hg5 Hte Hr1 Hvs hbw1
          go_wp2_with (at_builtin; refine wpList_append_own _ rfl _ _ 84 rfl w.heap.size 88 i0 _ 2 32 Try.underlying84 hi0 hz0 hz1 hz2 rfl (by decide) _ _ _ rfl (Hown5.out.alloc _) ⟨w5.heap.size, 0, none⟩ 1 1 [.int .i64 (t : Int), .slice (some ⟨g5, 0, none⟩) 512 512] rfl rfl (World.news_of_block (cs := #[.int .i64 (t : Int), .slice (some ⟨g5, 0, none⟩) 512 512]) (t := 88) (fr := (0, 0)) (heap_alloc_new w5 _)) (by simp [Value.oneCell']) (by unfold maxLen; omega) (by omega) (by simp; omega) ?_)
          intro v' w6 hown' hgrow hnil
          obtain ⟨z1, z2, z3⟩ := fresh_step hb Hx5.out Hown.out Hfr.out hp hg6 Hr5.out hgrow hown'
          have Hz := Hid.mk (And.intro z1 (And.intro z2 z3))
          clear z1 z2 z3 hown' hgrow hnil Hown5 Hr5 Hx5 Hown Hfr hb e0
          go_wp2
          go_roundw
          case rel => exact ⟨t + 1, by omega, by go_num, by rw [Hk2.out]; go_num, _, Hz.out.1, Hz.out.2.1, Hz.out.2.2⟩
          case measure => simp [intOf]; omega
        · obtain ⟨x, rfl⟩ : ∃ x, a = some x := by
            cases a with
            | none => exact absurd (HP.out.2.1 rfl) hn0
            | some x => exact ⟨x, rfl⟩
          have hll := HP.out.1
          have hlp : 0 < l.length := by omega
          obtain ⟨q, hq⟩ : ∃ q, q = (keysOf S t).length % n := ⟨_, rfl⟩
          have hqn : q < n := by rw [hq]; exact Nat.mod_lt _ (by omega)
          have hql : q < l.length := by omega
          obtain ⟨b, o, rfl, p0, p1, p2⟩ := HP.out.2.2.1 x rfl q hql
          have hpk : pickN l (keysOf S t).length = (l[q].1, l[q].2.1, l[q].2.2) := by
            have e1 : (keysOf S t).length % l.length = q := by rw [hll, hq]
            simp only [pickN, hlp, dif_pos, e1]
          obtain ⟨b1, b2, b3⟩ := HP.out.2.2.2 l[q] (List.getElem_mem hql)
          have hte := fun o => rcrash_torn Hok.out hlt hp Hr1.out Hvs.out (fun b hb' => Nat.lt_of_lt_of_le (H.out.lt b hb') hb.size) hb1 ((Below.refl w1.heap.size w1).alloc (Nat.le_refl _) o) _ _ _ hpk b1 b2 b3
          have hmo : ((keysOf S t).length : Int) % (n : Int) = (q : Int) := by rw [hq]; push_cast; rfl
          have hn1 : (0 : Int) < (n : Int) := by omega
          have hq1 : (q : Int) < (n : Int) := by omega
          replace p0 := cell_later hbw1 p0
          replace p1 := cell_later hbw1 p1
          replace p2 := cell_later hbw1 p2
          have hbw := World.block_lt_of_cell? _ _ p0
          have Hte := Hid.mk hte
          clear hte hpk hq
          generalize l[q].1 = qa at *
          generalize l[q].2.1 = qb at *
          generalize l[q].2.2 = qc at *
          go_wp2_with fail
          refine (Hte.out _).mono ?_
          rintro e w5 ⟨g5, rfl, hg5, hr5, hb5⟩
          have hx5 : Below wr.heap.size wr w5 := (hb1.alloc hb1.size _).trans (hb5.mono (by simp; have := hb1.size; omega))
          have hown5 : w5.ownsRow w.heap.size 88 2 u5 (keysOf S t).length ys := ownsRow_agree Hown.out (fun b e => hx5.block b (Hown.out.lt b e).2)
          have hg6 : wr.heap.size ≤ g5 := by simp at hg5; have := hb1.size; omega
          have hw5 : w.heap.size ≤ w5.heap.size := Nat.le_trans hb.size hx5.size
          have Hown5 := Hid.mk hown5
          have Hr5 := Hid.mk hr5
          have Hx5 := Hid.mk hx5
          clear p0 p1 p2 hown5 hr5 hx5 hb5 hg5 Hte Hr1 Hvs hbw1
          go_wp2_with (at_builtin; refine wpList_append_own _ rfl _ _ 84 rfl w.heap.size 88 i0 _ 2 32 Try.underlying84 hi0 hz0 hz1 hz2 rfl (by decide) _ _ _ rfl (Hown5.out.alloc _) ⟨w5.heap.size, 0, none⟩ 1 1 [.int .i64 (t : Int), .slice (some ⟨g5, 0, none⟩) 512 512] rfl rfl (World.news_of_block (cs := #[.int .i64 (t : Int), .slice (some ⟨g5, 0, none⟩) 512 512]) (t := 88) (fr := (0, 0)) (heap_alloc_new w5 _)) (by simp [Value.oneCell']) (by unfold maxLen; omega) (by omega) (by simp; omega) ?_)
          intro v' w6 hown' hgrow hnil
          obtain ⟨z1, z2, z3⟩ := fresh_step hb Hx5.out Hown.out Hfr.out hp hg6 Hr5.out hgrow hown'
          have Hz := Hid.mk (And.intro z1 (And.intro z2 z3))
          clear z1 z2 z3 hown' hgrow hnil Hown5 Hr5 Hx5 Hown Hfr hb e0
          go_wp2
          go_roundw
          case rel => exact ⟨t + 1, by omega, by go_num, by rw [Hk2.out]; go_num, _, Hz.out.1, Hz.out.2.1, Hz.out.2.2⟩
          case measure => simp [intOf]; omega
    · have hlt' : ¬ (t : Int) < (s : Int) := by omega
      have et : t = s := by omega
      subst et
      obtain ⟨W7, hW7⟩ : ∃ W7, W7 = wr := ⟨_, rfl⟩
      subst hW7
      have hk7 : Keeps F w W7 := Keeps.of_below F hb
      have hml : ∀ k, more F w W7 k → k < W7.heap.size := fun k hk => by
        rcases hk with hk | hk
        · exact Nat.lt_of_lt_of_le (H.out.lt k hk) hb.size
        · exact hk.2
      have Hh7 : Hid (RefRaw W7 (more F w W7) r t { S with im := S.im } gl cl ls pv xs) := (H.out.agree hb.size (fun k hk => hb.block k (H.out.lt k hk))).mono (fun _ hk => .inl hk) hml
      have Hk7 := Hid.mk hk7
      have Hown7 := Hid.mk hown
      have Hfr7 := Hid.mk hfr
      clear hk7 hml hown hfr hb H HP c0
      go_wp2
      clear e0
      go_loopw [9] (fun i wr => ∃ j : Nat, j ≤ (keysOf S t).length ∧ i = .int .i64 (j : Int) ∧ ∃ ls im, RefRaw wr (more F w W7) r t { S with im := im } gl cl ls pv xs ∧ (∀ i, i < t → sec im i = if i ∈ (keysOf S t).take j then cutOf S l i else sec S.im i) ∧ Keeps F w wr ∧ wr.ownsRow w.heap.size 88 2 u5 (keysOf S t).length ys ∧ Fresh wr (fun b => w.heap.size ≤ b ∧ b < W7.heap.size) S l (keysOf S t) ys ∧ wr.heap.size = W7.heap.size) (fun i _ => (keysOf S t).length - (intOf i).toNat)
      case atStart => exact ⟨0, Nat.zero_le _, rfl, ls, S.im, Hh7.out, fun i _ => by simp, Hk7.out, Hown7.out, Hfr7.out, rfl⟩
      case round =>
        clear Hh7 Hk7 Hown7 Hfr7
        obtain ⟨j, hj, rfl, ls, im, hd, hse, hk, hown, hfr, hsz⟩ := hrel
        have c0 := cell_of_block hd.blk (j := 0) rfl
        obtain ⟨af, cf, hv7, hfc⟩ := fresh_cells hown hfr
        have Hse := Hid.mk hse
        clear hse
        by_cases hlt : j < (keysOf S t).length
        · have hlt' : (j : Int) < ((keysOf S t).length : Int) := by omega
          obtain ⟨gf, rfl, hgf, hfc⟩ := hfc (by omega)
          obtain ⟨g, p1, p2, hF, hr⟩ := hfc j hlt
          have hkj : (keysOf S t)[j]? = some (keysOf S t)[j] := List.getElem?_eq_getElem hlt
          obtain ⟨hks, hp, _, hse2⟩ := crash_step Hok.out l hd.ok.len hkj Hse.out
          have hks' : (((keysOf S t)[j] : Nat) : Int) < (t : Int) := by omega
          obtain ⟨q1, q2⟩ := hd.stored hks (.inr hF) hr (im := splice im ((keysOf S t)[j] * 512) (cutOf S l (keysOf S t)[j])) (by rw [splice_len _ _ _ (by rw [cut_len Hok.out l _ hks]; have := hd.ok.len; simp only at this; omega)]; exact hd.ok.len) (fun i hi => sec_splice hd.ok.len (cut_len Hok.out l _ hks) hks)
          obtain ⟨gx, cx, hx1, _⟩ := hd.secs _ hks
          have cl0 := hd.last.cell hx1
          have fl := hd.last.frozen (keysOf S t)[j]
          have hrl : r ≠ gl := fun e => hd.last.ne hd.blk (by decide) e.symm
          have hb' := hd.last
          obtain ⟨cur, hbl, _⟩ := hb'
          have hpl : gf ≠ gl := ownsRow_ne hown (by rw [hv7]; rfl) hbl (by decide)
          have hown2 : (wr.setCell ⟨gl, (keysOf S t)[j], none⟩ (.slice (some ⟨g, 0, none⟩) 512 512)).ownsRow w.heap.size 88 2 u5 (keysOf S t).length ys := ownsRow_agree hown (fun b e => Below.heap_setCell _ _ _ _ (ownsRow_ne hown e hbl (by decide)))
          have hfr2 : Fresh (wr.setCell ⟨gl, (keysOf S t)[j], none⟩ (.slice (some ⟨g, 0, none⟩) 512 512)) (fun b => w.heap.size ≤ b ∧ b < W7.heap.size) S l (keysOf S t) ys := hfr.agree (fun _ h => h) (fun b zs _ hr' => hr'.other q2 hbl (by decide))
          have hq : RefRaw (wr.setCell ⟨gl, (keysOf S t)[j], none⟩ (.slice (some ⟨g, 0, none⟩) 512 512)) (more F w W7) r t { S with im := splice im ((keysOf S t)[j] * 512) (cutOf S l (keysOf S t)[j]) } gl cl (ls.set (keysOf S t)[j] (.slice (some ⟨g, 0, none⟩) 512 512)) pv xs ∧ (∀ i, i < t → sec (splice im ((keysOf S t)[j] * 512) (cutOf S l (keysOf S t)[j])) i = if i ∈ (keysOf S t).take (j + 1) then cutOf S l i else sec S.im i) ∧ Keeps F w (wr.setCell ⟨gl, (keysOf S t)[j], none⟩ (.slice (some ⟨g, 0, none⟩) 512 512)) ∧
              (wr.setCell ⟨gl, (keysOf S t)[j], none⟩ (.slice (some ⟨g, 0, none⟩) 512 512)).ownsRow w.heap.size 88 2 u5 (keysOf S t).length ys ∧ Fresh (wr.setCell ⟨gl, (keysOf S t)[j], none⟩ (.slice (some ⟨g, 0, none⟩) 512 512)) (fun b => w.heap.size ≤ b ∧ b < W7.heap.size) S l (keysOf S t) ys ∧ (wr.setCell ⟨gl, (keysOf S t)[j], none⟩ (.slice (some ⟨g, 0, none⟩) 512 512)).heap.size = W7.heap.size :=
            ⟨q1, hse2, hk.trans q2 (fun b hb => .inl (hb ▸ HFl.out)), hown2, hfr2, by simpa [World.setCell] using hsz⟩
          have Hq := Hid.mk hq
          have mo : ∀ b o v, b ≠ gl → (wr.setCell ⟨gl, (keysOf S t)[j], none⟩ v).cell? ⟨b, o, none⟩ = wr.cell? ⟨b, o, none⟩ := fun b o v hb => World.cell?_of_block (w := wr) (a := ⟨b, o, none⟩) (Below.heap_setCell wr ⟨gl, (keysOf S t)[j], none⟩ v b hb)
          have m0 := fun v => (mo r 0 v hrl).trans c0
          have m2 := fun v => (mo gf (j * 2) v hpl).trans p1
          have m3 := fun v => (mo gf (j * 2 + 1) v hpl).trans p2
          have M := Hid.mk (And.intro m0 (And.intro m2 m3))
          clear m0 m2 m3 mo hq q1 q2 hr hd hfc hk hx1 hown hfr hown2 hfr2 hbl hse2 Hse hkj
          generalize (keysOf S t)[j] = kj at *
          subst hv7
          go_wp2_with fail
          go_region_held3 (fun w' => w'.cell? ⟨r, 0, none⟩ = some (.slice (some ⟨gl, 0, none⟩) t cl) ∧ w'.cell? ⟨gf, j * 2, none⟩ = some (.int .i64 (kj : Int)) ∧ w'.cell? ⟨gf, j * 2 + 1, none⟩ = some (.slice (some ⟨g, 0, none⟩) 512 512)) (first | exact ⟨c0, p1, p2⟩ | exact ⟨M.out.1 _, M.out.2.1 _, M.out.2.2 _⟩) (fail)
          all_goals
            go_wp2
            go_roundw
            case rel =>
              obtain ⟨z1, z2, z3, z4, z5, z6⟩ := Hq.out
              exact ⟨j + 1, by omega, by go_num, _, _, z1.agree (Nat.le_refl _) (fun _ _ => rfl), z2, ⟨z3.os, z3.tape, z3.output, z3.size, z3.block⟩, z4, z5, z6⟩
            case measure => simp [intOf]; omega
        · have hlt' : ¬ (j : Int) < ((keysOf S t).length : Int) := by omega
          have ej : j = (keysOf S t).length := by omega
          rw [ej] at Hse
          have hall := crash_all Hok.out l hd.ok.len Hse.out
          obtain ⟨d1, d2, d3, d4, d5, d6, hd7, hk7⟩ := rcrash_end hd hall HFr.out hk
          have hs7 : (((wr.setCell ⟨r, 1, none⟩ (.slice none 0 0)).setCell ⟨r, 2, none⟩ (.int .i64 (-1))).setCell ⟨r, 3, none⟩ (.int .i64 (wrap64 (S.life + 1)))).heap.size = W7.heap.size := by simpa [World.setCell] using hsz
          have hm : more F w W7 = more F w (((wr.setCell ⟨r, 1, none⟩ (.slice none 0 0)).setCell ⟨r, 2, none⟩ (.int .i64 (-1))).setCell ⟨r, 3, none⟩ (.int .i64 (wrap64 (S.life + 1)))) := by unfold more; rw [hs7]
          rw [hm] at hd7
          have Hq := Hid.mk (And.intro (show RefAt _ _ r t (S.crash t l) from ⟨gl, cl, ls, _, _, hd7⟩) hk7)
          obtain ⟨ap, cp, hpv, _⟩ := hd.form
          rw [hpv] at d1
          subst hv7
          clear hd7 hk7 hall hd Hse hk ej hown hfr hfc hm hs7
          go_wp2
          go_end0
          exact ⟨rfl, Hq.out⟩

end Go.Proofs.Ytcofkdaakkfcfab
