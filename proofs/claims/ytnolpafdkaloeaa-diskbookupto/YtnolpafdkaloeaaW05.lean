import Derived.Test.YtnolpafdkaloeaaW04
import Derived.Shelf.Lays
import Derived.Test.YtnolpafdkaloeaaProg
import Derived.Shelf.Sort.AssemblyIn
import Derived.Sort.EveryDepth
import Derived.Sort.OwnSortedInts
section
namespace Go.Proofs.Ytnolpafdkaloeaa
open Go.RowKit Go.Maps

/-- The torn sectors as they wait to be laid home. -/
def Fresh (w : World) (F : Nat → Prop) (S : DS) (l : List P3) (ks : List Nat) (xs : List Value) : Prop :=
  xs.length = ks.length * 2 ∧ ∀ i (hi : i < ks.length), ∃ g, xs[2 * i]? = some (.int .i64 ((ks[i] : Nat) : Int)) ∧ xs[2 * i + 1]? = some (.slice (some ⟨g, 0, none⟩) 512 512) ∧ F g ∧ RowAt w 5 g 512 (bs (cutOf S l ks[i]))

theorem Fresh.snoc {w w' : World} {F G : Nat → Prop} {S : DS} {l : List P3} {ks : List Nat} {xs : List Value} (h : Fresh w F S l ks xs) (hF : ∀ k, F k → G k) (hb : ∀ b ys, F b → RowAt w 5 b 512 ys → RowAt w' 5 b 512 ys) {k g : Nat} (hG : G g) (hr : RowAt w' 5 g 512 (bs (cutOf S l k))) :
    Fresh w' G S l (ks ++ [k]) (xs ++ [.int .i64 (k : Int), .slice (some ⟨g, 0, none⟩) 512 512]) := by
  obtain ⟨h1, h2⟩ := h
  refine ⟨by simp [h1]; omega, fun i hi => ?_⟩
  by_cases hi' : i < ks.length
  · obtain ⟨g', e1, e2, e3, e4⟩ := h2 i hi'
    refine ⟨g', ?_, ?_, hF _ e3, ?_⟩
    · rw [List.getElem?_append_left (by omega), e1, List.getElem_append_left hi']
    · rw [List.getElem?_append_left (by omega), e2]
    · rw [List.getElem_append_left hi']; exact hb _ _ e3 e4
  · have ei : i = ks.length := by simp at hi; omega
    subst ei
    refine ⟨g, ?_, ?_, hG, ?_⟩
    · rw [List.getElem?_append_right (by omega), show 2 * ks.length - xs.length = 0 by omega]
      simp
    · rw [List.getElem?_append_right (by omega), show 2 * ks.length + 1 - xs.length = 1 by omega]
      simp
    · simpa using hr

theorem Fresh.agree {w w' : World} {F G : Nat → Prop} {S : DS} {l : List P3} {ks : List Nat} {xs : List Value} (h : Fresh w F S l ks xs) (hF : ∀ k, F k → G k) (hb : ∀ b ys, F b → RowAt w 5 b 512 ys → RowAt w' 5 b 512 ys) : Fresh w' G S l ks xs :=
  ⟨h.1, fun i hi => by obtain ⟨g, e1, e2, e3, e4⟩ := h.2 i hi; exact ⟨g, e1, e2, hF _ e3, hb _ _ e3 e4⟩⟩

theorem keysOf_skip {S : DS} {k : Nat} (h : pendOf S.puts k = []) : keysOf S (k + 1) = keysOf S k := by rw [keysOf_succ, if_pos h, List.append_nil]
theorem keysOf_take {S : DS} {k : Nat} (h : pendOf S.puts k ≠ []) : keysOf S (k + 1) = keysOf S k ++ [k] := by rw [keysOf_succ, if_neg h]

theorem keysOf_none {S : DS} (h : S.puts = []) (s : Nat) : keysOf S s = [] := by
  unfold keysOf
  rw [List.filter_eq_nil_iff]
  intro k _
  simp [h, pendOf]

/-- The crash's first loop, one sector: its candidates and the torn one. -/
theorem rcrash_torn {w wr wx : World} {F : Nat → Prop} {S : DS} {l : List P3} {k s : Nat} (hok : S.Ok s) (hks : k < s) (hp : pendOf S.puts k ≠ []) {g c : Nat} {vs : List Value} (hr : RowAt wr 22 g c vs) (hv : VS w F S k vs) (hlt : ∀ b, F b → b < w.heap.size) (hb : Below w.heap.size w wr) (hx : Below wr.heap.size wr wx)
    (A B C : Int) (hq : pickN l (keysOf S k).length = (A, B, C)) (hA : A ≤ 9223372036854775807) (hB : B ≤ 9223372036854775807) (hC : C ≤ 9223372036854775807) :
    Calls Try.prog 77 #[.slice (some ⟨g, 0, none⟩) ((pendOf S.puts k).length + 1) c, .agg #[.int .i64 A, .int .i64 B, .int .i64 C]] wx fun e w' => ∃ g', e = .returned (.slice (some ⟨g', 0, none⟩) 512 512) ∧ wx.heap.size ≤ g' ∧ RowAt w' 5 g' 512 (bs (cutOf S l k)) ∧ Below wx.heap.size wx w' := by
  have hbx : Below w.heap.size w wx := hb.trans (hx.mono hb.size)
  have hvx : VS wx F S k vs := ⟨hv.1, fun j hj => by obtain ⟨g', c', e1, e2, e3⟩ := hv.2 j hj; exact ⟨g', c', e1, e2, e3.agree (hbx.block g' (hlt g' e2))⟩⟩
  have e : cutOf S l k = tornOf S k (max A 0).toNat (max B 0).toNat (max C 0).toNat := by
    unfold cutOf tornBy
    rw [if_neg hp, hq]
  rw [e]
  exact rtorn_at hok hks (hr.agree (hx.block g hr.lt)) hvx A B C _ _ _ (by omega) (by omega) (by omega) hA hB hC

/-- The first loop's step, when a torn sector has joined the list. -/
theorem fresh_step {w wr w5 w6 : World} {S : DS} {l : List P3} {k : Nat} {v v' : Value} {ys : List Value} {o : Obj} (hb : Below w.heap.size w wr) (hb5 : Below wr.heap.size wr w5) (hown : wr.ownsRow w.heap.size 122 2 v (keysOf S k).length ys)
    (hfr : Fresh wr (fun b => w.heap.size ≤ b ∧ b < wr.heap.size) S l (keysOf S k) ys) (hp : pendOf S.puts k ≠ []) {g : Nat} (hg : wr.heap.size ≤ g) (hr : RowAt w5 5 g 512 (bs (cutOf S l k))) (hgrow : (w5.alloc o).grownBy w6 v.ownBlock)
    (hown' : w6.ownsRow w.heap.size 122 2 v' ((keysOf S k).length + 1) (ys ++ [.int .i64 (k : Int), .slice (some ⟨g, 0, none⟩) 512 512])) :
    w6.ownsRow w.heap.size 122 2 v' (keysOf S (k + 1)).length (ys ++ [.int .i64 (k : Int), .slice (some ⟨g, 0, none⟩) 512 512]) ∧ Fresh w6 (fun b => w.heap.size ≤ b ∧ b < w6.heap.size) S l (keysOf S (k + 1)) (ys ++ [.int .i64 (k : Int), .slice (some ⟨g, 0, none⟩) 512 512]) ∧ Below w.heap.size w w6 := by
  have hz := hb.size
  have hz5 := hb5.size
  have hzs : (w5.alloc o).heap.size = w5.heap.size + 1 := by simp
  have hz6 := hgrow.size
  have hgl := hr.lt
  have hown5 : w5.ownsRow w.heap.size 122 2 v (keysOf S k).length ys := ownsRow_agree hown (fun b e => hb5.block b (hown.lt b e).2)
  have keep : ∀ b ys, RowAt w5 5 b 512 ys → RowAt w6 5 b 512 ys := fun b zs hb' => by
    have h1 := hb'.lt
    refine hb'.agree ((hgrow.block b (by omega) (fun e => ?_)).trans (Below.heap_alloc _ _ _ h1))
    have hb2 := hb'
    obtain ⟨cur, hbb, _⟩ := hb2
    exact ownsRow_ne hown5 e.symm hbb (by decide) rfl
  refine ⟨by rw [keysOf_take hp]; simpa using hown', ?_, ?_⟩
  · rw [keysOf_take hp]
    exact hfr.snoc (fun b h => ⟨h.1, by omega⟩) (fun b zs h hr' => keep b zs (hr'.agree (hb5.block b h.2))) ⟨by omega, by omega⟩ (keep g _ hr)
  · exact ((hb.trans (hb5.mono hz)).alloc (by omega) o).grown hgrow (by omega) (fun b e => (hown.lt b e).1)

theorem fresh_skip {w wr w5 : World} {S : DS} {l : List P3} {k : Nat} {v : Value} {ys : List Value} (hb : Below w.heap.size w wr) (hb5 : Below wr.heap.size wr w5) (hown : wr.ownsRow w.heap.size 122 2 v (keysOf S k).length ys)
    (hfr : Fresh wr (fun b => w.heap.size ≤ b ∧ b < wr.heap.size) S l (keysOf S k) ys) (hp : pendOf S.puts k = []) :
    w5.ownsRow w.heap.size 122 2 v (keysOf S (k + 1)).length ys ∧ Fresh w5 (fun b => w.heap.size ≤ b ∧ b < w5.heap.size) S l (keysOf S (k + 1)) ys ∧ Below w.heap.size w w5 := by
  have hz5 := hb5.size
  rw [keysOf_skip hp]
  exact ⟨ownsRow_agree hown (fun b e => hb5.block b (hown.lt b e).2), hfr.agree (fun b h => ⟨h.1, by omega⟩) (fun b zs h hr' => hr'.agree (hb5.block b h.2)), hb.trans (hb5.mono hb.size)⟩

theorem rcrash_end {w wr : World} {F G : Nat → Prop} {r s : Nat} {S : DS} {gl cl : Nat} {ls : List Value} {pv : Value} {xs : List Value} {im : List Int} {l : List P3} (h : RefRaw wr G r s { S with im := im } gl cl ls pv xs) (he : im = imOf s (cutOf S l)) (hF : F r) (hk : Keeps F w wr) :
    wr.cell? ⟨r, 1, none⟩ = some pv ∧ wr.frozen? ⟨r, 1, none⟩ = false ∧ (wr.setCell ⟨r, 1, none⟩ (.slice none 0 0)).cell? ⟨r, 2, none⟩ = some (.int .i64 S.fuse) ∧ (wr.setCell ⟨r, 1, none⟩ (.slice none 0 0)).frozen? ⟨r, 2, none⟩ = false ∧
    ((wr.setCell ⟨r, 1, none⟩ (.slice none 0 0)).setCell ⟨r, 2, none⟩ (.int .i64 (-1))).cell? ⟨r, 3, none⟩ = some (.int .i64 S.life) ∧ ((wr.setCell ⟨r, 1, none⟩ (.slice none 0 0)).setCell ⟨r, 2, none⟩ (.int .i64 (-1))).frozen? ⟨r, 3, none⟩ = false ∧
    RefRaw (((wr.setCell ⟨r, 1, none⟩ (.slice none 0 0)).setCell ⟨r, 2, none⟩ (.int .i64 (-1))).setCell ⟨r, 3, none⟩ (.int .i64 (wrap64 (S.life + 1)))) G r s (S.crash s l) gl cl ls (.slice none 0 0) [] ∧
    Keeps F w (((wr.setCell ⟨r, 1, none⟩ (.slice none 0 0)).setCell ⟨r, 2, none⟩ (.int .i64 (-1))).setCell ⟨r, 3, none⟩ (.int .i64 (wrap64 (S.life + 1)))) := by
  subst he
  obtain ⟨h1, hk1⟩ := h.dropped
  have h2 : RefRaw ((wr.setCell ⟨r, 1, none⟩ (.slice none 0 0)).setCell ⟨r, 2, none⟩ (.int .i64 (-1))) G r s { S with im := imOf s (cutOf S l), puts := [], fuse := -1 } gl cl ls (.slice none 0 0) [] :=
    h1.turn (h1.set 2 _).2 ((h1.set 2 _).1.trans (by simp [dkCells])) rfl rfl (by simp)
  have h3 : RefRaw (((wr.setCell ⟨r, 1, none⟩ (.slice none 0 0)).setCell ⟨r, 2, none⟩ (.int .i64 (-1))).setCell ⟨r, 3, none⟩ (.int .i64 (wrap64 (S.life + 1)))) G r s (S.crash s l) gl cl ls (.slice none 0 0) [] :=
    h2.turn (h2.set 3 _).2 ((h2.set 3 _).1.trans (by simp [dkCells, DS.crash])) rfl rfl (by simp [DS.crash])
  exact ⟨cell_of_block h.blk (j := 1) rfl, frozen_of_block h.blk 1, cell_of_block h1.blk (j := 2) rfl, frozen_of_block h1.blk 2, cell_of_block h2.blk (j := 3) rfl, frozen_of_block h2.blk 3, h3,
    ((hk.trans hk1 (fun j hj => .inl (hj ▸ hF))).trans (h1.set 2 _).2 (fun j hj => .inl (hj ▸ hF))).trans (h2.set 3 _).2 (fun j hj => .inl (hj ▸ hF))⟩

/-- The cells of the list of torn sectors. -/
theorem fresh_cells {w wr : World} {G : Nat → Prop} {S : DS} {l : List P3} {ks : List Nat} {v : Value} {ys : List Value} {base : Nat} (hown : w.ownsRow base 122 2 v ks.length ys) (hfr : Fresh wr G S l ks ys) :
    ∃ a c, v = .slice a ks.length c ∧ (0 < ks.length → ∃ gf, a = some ⟨gf, 0, none⟩ ∧ base ≤ gf ∧ ∀ i (hi : i < ks.length), ∃ g, w.cell? ⟨gf, i * 2, none⟩ = some (.int .i64 ((ks[i] : Nat) : Int)) ∧ w.cell? ⟨gf, i * 2 + 1, none⟩ = some (.slice (some ⟨g, 0, none⟩) 512 512) ∧ G g ∧ RowAt wr 5 g 512 (bs (cutOf S l ks[i]))) := by
  have hp := hown
  obtain ⟨_, ⟨e, hn⟩ | ⟨gp, cap, cur, e, hg, _⟩⟩ := hown
  · exact ⟨none, 0, by rw [e, hn], fun h0 => by omega⟩
  · refine ⟨_, _, e, fun _ => ⟨gp, rfl, hg, fun i hi => ?_⟩⟩
    obtain ⟨g, h1, h2, h3, h4⟩ := hfr.2 i hi
    have k1 := hp.cells (g := gp) (by rw [e]; rfl) _ _ h1
    have k2 := hp.cells (g := gp) (by rw [e]; rfl) _ _ h2
    rw [addr_add, Nat.zero_add] at k1 k2
    exact ⟨g, by rw [Nat.mul_comm]; exact k1, by rw [Nat.mul_comm]; exact k2, h3, h4⟩

end Go.Proofs.Ytnolpafdkaloeaa
end

section
namespace Go.Proofs.Ytnolpafdkaloeaa
open Go.RowKit Go.Maps

set_option maxHeartbeats 8000000 in
set_option maxRecDepth 100000 in
theorem rcrash_zero {w : World} {F : Nat → Prop} {r s : Nat} {S : DS} (hd : RefAt w F r s S) (hz : S.puts.length = 0) (a : Option Addr) (n c : Nat) (l : List P3) :
    Calls Try.prog 39 #[.pointer (some ⟨r, 0, none⟩), .slice a n c] w fun e w' => e = .returned (.tuple #[]) ∧ RefAt w' (more F w w') r s (S.crash s l) ∧ Keeps F w w' := by
  obtain ⟨gl, cl, ls, pv, xs, h⟩ := hd
  obtain ⟨ap, cp, hpv, _⟩ := h.form
  have c1 := cell_of_block h.blk (j := 1) rfl
  have hks : keysOf S s = [] := keysOf_none (List.eq_nil_of_length_eq_zero hz) s
  have hall := crash_all h.ok l h.ok.len (fun i _ => by simp [hks])
  have h' : RefRaw w F r s { S with im := S.im } gl cl ls pv xs := h
  obtain ⟨d1, d2, d3, d4, d5, d6, hd7, hk7⟩ := rcrash_end h' hall h.fr (Keeps.refl F w)
  have hs7 : (((w.setCell ⟨r, 1, none⟩ (.slice none 0 0)).setCell ⟨r, 2, none⟩ (.int .i64 (-1))).setCell ⟨r, 3, none⟩ (.int .i64 (wrap64 (S.life + 1)))).heap.size = w.heap.size := by simp [World.setCell]
  have Hq := Hid.mk (And.intro (show RefAt _ (more F w (((w.setCell ⟨r, 1, none⟩ (.slice none 0 0)).setCell ⟨r, 2, none⟩ (.int .i64 (-1))).setCell ⟨r, 3, none⟩ (.int .i64 (wrap64 (S.life + 1))))) r s (S.crash s l) from ⟨gl, cl, ls, _, _, hd7.mono (fun _ hk => .inl hk) (fun k hk => by
    rcases hk with hk | hk
    · exact hd7.lt k hk
    · exact hk.2)⟩) hk7)
  rw [hpv, hz] at c1 d1
  clear h h' hpv hks hz hall hd7 hk7 hs7
  go_enter Try.func39, Try.ntmps39
  go_wp2
  refine wp_loop_rounds 1 ?_
  rw [rounds_succ]
  go_wp2
  go_end0
  exact ⟨rfl, Hq.out⟩

set_option maxHeartbeats 8000000 in
set_option maxRecDepth 100000 in
theorem rcrash_more {w : World} {F : Nat → Prop} {r s : Nat} {S : DS} (hd : RefAt w F r s S) (hz : 0 < S.puts.length) (hbig : S.puts.length + 1 ≤ 4000000000000) (a : Option Addr) (n c : Nat) (l : List P3) (hps : PSrc w a n l) (hn : n ≤ 140737488355328) :
    Calls Try.prog 39 #[.pointer (some ⟨r, 0, none⟩), .slice a n c] w fun e w' => e = .returned (.tuple #[]) ∧ RefAt w' (more F w w') r s (S.crash s l) ∧ Keeps F w w' := by
  obtain ⟨i0, hi0, hz0, hz1, hz2⟩ := info_parts infoPut
  obtain ⟨gl, cl, ls, pv, xs, h⟩ := hd
  have Hok := Hid.mk h.ok
  have HFl := Hid.mk h.fl
  have HFr := Hid.mk h.fr
  obtain ⟨ap, cp, hpv, _⟩ := h.form
  have c0 := cell_of_block h.blk (j := 0) rfl
  have c1 := cell_of_block h.blk (j := 1) rfl
  rw [hpv] at c1
  have hz' : (0 : Int) < (S.puts.length : Int) := by omega
  have hsm := h.ok.hi
  have H := Hid.mk h
  have HP := Hid.mk hps
  clear h hpv hps
  go_enter Try.func39, Try.ntmps39
  go_wp2
  clear c1
  go_loopw [4, 5, 6, 7, 8] (fun kc v i _ _ wr => ∃ t : Nat, t ≤ s ∧ i = .int .i64 (t : Int) ∧ kc = .int .i64 ((keysOf S t).length : Int) ∧ ∃ ys, wr.ownsRow w.heap.size 122 2 v (keysOf S t).length ys ∧ Fresh wr (fun b => w.heap.size ≤ b ∧ b < wr.heap.size) S l (keysOf S t) ys ∧ Below w.heap.size w wr) (fun _ _ i _ _ _ => s - (intOf i).toNat)
  case atStart => exact ⟨0, Nat.zero_le _, rfl, rfl, [], World.ownsRow_nil _ _ _ _, ⟨rfl, fun i hi => by simp [keysOf] at hi⟩, Below.refl _ _⟩
  case round =>
    obtain ⟨t, ht, rfl, rfl, ys, hown, hfr, hb⟩ := hrel
    have e0 := cell_later hb c0
    have hkt : (keysOf S t).length ≤ t := by
      have := List.length_filter_le (fun k => !(pendOf S.puts k).isEmpty) (List.range t)
      rw [List.length_range] at this
      exact this
    by_cases hlt : t < s
    · have hlt' : (t : Int) < (s : Int) := by omega
      have hh : RefRaw wr F r s S gl cl ls pv xs := H.out.agree hb.size (fun k hk => hb.block k (H.out.lt k hk))
      have hca := rcands_at hh t hlt hbig
      have Hown := Hid.mk hown
      have Hfr := Hid.mk hfr
      have hpl := pendOf_len S.puts t
      clear hh hown hfr
      by_cases hp : pendOf S.puts t = []
      · have hl1 : (pendOf S.puts t).length = 0 := by rw [hp]; rfl
        rw [hl1] at hca
        have hsk := Hid.mk (fun w5 h5 => fresh_skip (w5 := w5) hb h5 Hown.out Hfr.out hp)
        have hk2 : keysOf S (t + 1) = keysOf S t := keysOf_skip hp
        have Hk2 := Hid.mk hk2
        clear hk2 hp hl1
        go_wp2_with fail
        refine hca.mono ?_
        rintro e w1 ⟨g1, cg1, vs, rfl, hg1, hr1, hvs, hb1⟩
        obtain ⟨z1, z2, z3⟩ := hsk.out w1 hb1
        have Hz := Hid.mk (And.intro z1 (And.intro z2 z3))
        clear hca hsk z1 z2 z3 hr1 hvs hb1 Hown Hfr hb e0
        go_wp2
        go_roundw
        case rel => exact ⟨t + 1, by omega, by go_num, by rw [Hk2.out], ys, Hz.out.1, Hz.out.2.1, Hz.out.2.2⟩
        case measure => simp [intOf]; omega
      · have hl1 : ((((pendOf S.puts t).length : Int) + 1) == 1) = false := by
          have := List.length_pos_iff.2 hp
          rw [Bool.eq_false_iff, ne_eq, beq_iff_eq]; omega
        have hk2 : (keysOf S (t + 1)).length = (keysOf S t).length + 1 := by rw [keysOf_take hp]; simp
        have Hk2 := Hid.mk hk2
        clear hk2
        go_wp2_with fail
        refine hca.mono ?_
        rintro e w1 ⟨g1, cg1, vs, rfl, hg1, hr1, hvs, hb1⟩
        have hbw1 : Below w.heap.size w w1 := hb.trans (hb1.mono hb.size)
        have Hr1 := Hid.mk hr1
        have Hvs := Hid.mk hvs
        clear hr1 hvs hca
        by_cases hn0 : n = 0
        · subst hn0
          have hq : pickN l (keysOf S t).length = (0, 0, 0) := by simp [pickN, HP.out.1]
          have hte := fun o => rcrash_torn Hok.out hlt hp Hr1.out Hvs.out (fun b hb' => Nat.lt_of_lt_of_le (H.out.lt b hb') hb.size) hb1 ((Below.refl w1.heap.size w1).alloc (Nat.le_refl _) o) 0 0 0 hq (by omega) (by omega) (by omega)
          have Hte := Hid.mk hte
          clear hte hq
          go_wp2_with fail
          refine (Hte.out _).mono ?_
          rintro e w5 ⟨g5, rfl, hg5, hr5, hb5⟩
          have hx5 : Below wr.heap.size wr w5 := (hb1.alloc hb1.size _).trans (hb5.mono (by simp; have := hb1.size; omega))
          have hown5 : w5.ownsRow w.heap.size 122 2 u5 (keysOf S t).length ys := ownsRow_agree Hown.out (fun b e => hx5.block b (Hown.out.lt b e).2)
          have hg6 : wr.heap.size ≤ g5 := by simp at hg5; have := hb1.size; omega
          have hw5 : w.heap.size ≤ w5.heap.size := Nat.le_trans hb.size hx5.size
          have Hown5 := Hid.mk hown5
          have Hr5 := Hid.mk hr5
          have Hx5 := Hid.mk hx5
          clear hown5 hr5 hx5 hb5 hg5 Hte Hr1 Hvs hbw1
          go_wp2_with (at_builtin; refine wpList_append_own _ rfl _ _ 117 rfl w.heap.size 122 i0 _ 2 32 Try.underlying117 hi0 hz0 hz1 hz2 rfl (by decide) _ _ _ rfl (Hown5.out.alloc _) ⟨w5.heap.size, 0, none⟩ 1 1 [.int .i64 (t : Int), .slice (some ⟨g5, 0, none⟩) 512 512] rfl rfl (World.news_of_block (cs := #[.int .i64 (t : Int), .slice (some ⟨g5, 0, none⟩) 512 512]) (t := 122) (fr := (0, 0)) (heap_alloc_new w5 _)) (by simp [Value.oneCell']) (by unfold maxLen; omega) (by omega) (by simp; omega) ?_)
          intro v' w6 hown' hgrow hnil
          obtain ⟨z1, z2, z3⟩ := fresh_step hb Hx5.out Hown.out Hfr.out hp hg6 Hr5.out hgrow hown'
          have Hz := Hid.mk (And.intro z1 (And.intro z2 z3))
          clear z1 z2 z3 hown' hgrow hnil Hown5 Hr5 Hx5 Hown Hfr hb e0
          go_wp2
          go_roundw
          case rel => exact ⟨t + 1, by omega, by go_num, by rw [Hk2.out]; go_num, _, Hz.out.1, Hz.out.2.1, Hz.out.2.2⟩
          case measure => simp [intOf]; omega
        · obtain ⟨x, rfl⟩ : ∃ x, a = some x := by
            cases a with
            | none => exact absurd (HP.out.2.1 rfl) hn0
            | some x => exact ⟨x, rfl⟩
          have hll := HP.out.1
          have hlp : 0 < l.length := by omega
          obtain ⟨q, hq⟩ : ∃ q, q = (keysOf S t).length % n := ⟨_, rfl⟩
          have hqn : q < n := by rw [hq]; exact Nat.mod_lt _ (by omega)
          have hql : q < l.length := by omega
          obtain ⟨b, o, rfl, p0, p1, p2⟩ := HP.out.2.2.1 x rfl q hql
          have hpk : pickN l (keysOf S t).length = (l[q].1, l[q].2.1, l[q].2.2) := by
            have e1 : (keysOf S t).length % l.length = q := by rw [hll, hq]
            simp only [pickN, hlp, dif_pos, e1]
          obtain ⟨b1, b2, b3⟩ := HP.out.2.2.2 l[q] (List.getElem_mem hql)
          have hte := fun o => rcrash_torn Hok.out hlt hp Hr1.out Hvs.out (fun b hb' => Nat.lt_of_lt_of_le (H.out.lt b hb') hb.size) hb1 ((Below.refl w1.heap.size w1).alloc (Nat.le_refl _) o) _ _ _ hpk b1 b2 b3
          have hmo : ((keysOf S t).length : Int) % (n : Int) = (q : Int) := by rw [hq]; push_cast; rfl
          have hn1 : (0 : Int) < (n : Int) := by omega
          have hq1 : (q : Int) < (n : Int) := by omega
          replace p0 := cell_later hbw1 p0
          replace p1 := cell_later hbw1 p1
          replace p2 := cell_later hbw1 p2
          have hbw := World.block_lt_of_cell? _ _ p0
          have Hte := Hid.mk hte
          clear hte hpk hq
          generalize l[q].1 = qa at *
          generalize l[q].2.1 = qb at *
          generalize l[q].2.2 = qc at *
          go_wp2_with fail
          refine (Hte.out _).mono ?_
          rintro e w5 ⟨g5, rfl, hg5, hr5, hb5⟩
          have hx5 : Below wr.heap.size wr w5 := (hb1.alloc hb1.size _).trans (hb5.mono (by simp; have := hb1.size; omega))
          have hown5 : w5.ownsRow w.heap.size 122 2 u5 (keysOf S t).length ys := ownsRow_agree Hown.out (fun b e => hx5.block b (Hown.out.lt b e).2)
          have hg6 : wr.heap.size ≤ g5 := by simp at hg5; have := hb1.size; omega
          have hw5 : w.heap.size ≤ w5.heap.size := Nat.le_trans hb.size hx5.size
          have Hown5 := Hid.mk hown5
          have Hr5 := Hid.mk hr5
          have Hx5 := Hid.mk hx5
          clear p0 p1 p2 hown5 hr5 hx5 hb5 hg5 Hte Hr1 Hvs hbw1
          go_wp2_with (at_builtin; refine wpList_append_own _ rfl _ _ 117 rfl w.heap.size 122 i0 _ 2 32 Try.underlying117 hi0 hz0 hz1 hz2 rfl (by decide) _ _ _ rfl (Hown5.out.alloc _) ⟨w5.heap.size, 0, none⟩ 1 1 [.int .i64 (t : Int), .slice (some ⟨g5, 0, none⟩) 512 512] rfl rfl (World.news_of_block (cs := #[.int .i64 (t : Int), .slice (some ⟨g5, 0, none⟩) 512 512]) (t := 122) (fr := (0, 0)) (heap_alloc_new w5 _)) (by simp [Value.oneCell']) (by unfold maxLen; omega) (by omega) (by simp; omega) ?_)
          intro v' w6 hown' hgrow hnil
          obtain ⟨z1, z2, z3⟩ := fresh_step hb Hx5.out Hown.out Hfr.out hp hg6 Hr5.out hgrow hown'
          have Hz := Hid.mk (And.intro z1 (And.intro z2 z3))
          clear z1 z2 z3 hown' hgrow hnil Hown5 Hr5 Hx5 Hown Hfr hb e0
          go_wp2
          go_roundw
          case rel => exact ⟨t + 1, by omega, by go_num, by rw [Hk2.out]; go_num, _, Hz.out.1, Hz.out.2.1, Hz.out.2.2⟩
          case measure => simp [intOf]; omega
    · have hlt' : ¬ (t : Int) < (s : Int) := by omega
      have et : t = s := by omega
      subst et
      obtain ⟨W7, hW7⟩ : ∃ W7, W7 = wr := ⟨_, rfl⟩
      subst hW7
      have hk7 : Keeps F w W7 := Keeps.of_below F hb
      have hml : ∀ k, more F w W7 k → k < W7.heap.size := fun k hk => by
        rcases hk with hk | hk
        · exact Nat.lt_of_lt_of_le (H.out.lt k hk) hb.size
        · exact hk.2
      have Hh7 : Hid (RefRaw W7 (more F w W7) r t { S with im := S.im } gl cl ls pv xs) := (H.out.agree hb.size (fun k hk => hb.block k (H.out.lt k hk))).mono (fun _ hk => .inl hk) hml
      have Hk7 := Hid.mk hk7
      have Hown7 := Hid.mk hown
      have Hfr7 := Hid.mk hfr
      clear hk7 hml hown hfr hb H HP c0
      go_wp2
      clear e0
      go_loopw [9] (fun i wr => ∃ j : Nat, j ≤ (keysOf S t).length ∧ i = .int .i64 (j : Int) ∧ ∃ ls im, RefRaw wr (more F w W7) r t { S with im := im } gl cl ls pv xs ∧ (∀ i, i < t → sec im i = if i ∈ (keysOf S t).take j then cutOf S l i else sec S.im i) ∧ Keeps F w wr ∧ wr.ownsRow w.heap.size 122 2 u5 (keysOf S t).length ys ∧ Fresh wr (fun b => w.heap.size ≤ b ∧ b < W7.heap.size) S l (keysOf S t) ys ∧ wr.heap.size = W7.heap.size) (fun i _ => (keysOf S t).length - (intOf i).toNat)
      case atStart => exact ⟨0, Nat.zero_le _, rfl, ls, S.im, Hh7.out, fun i _ => by simp, Hk7.out, Hown7.out, Hfr7.out, rfl⟩
      case round =>
        clear Hh7 Hk7 Hown7 Hfr7
        obtain ⟨j, hj, rfl, ls, im, hd, hse, hk, hown, hfr, hsz⟩ := hrel
        have c0 := cell_of_block hd.blk (j := 0) rfl
        obtain ⟨af, cf, hv7, hfc⟩ := fresh_cells hown hfr
        have Hse := Hid.mk hse
        clear hse
        by_cases hlt : j < (keysOf S t).length
        · have hlt' : (j : Int) < ((keysOf S t).length : Int) := by omega
          obtain ⟨gf, rfl, hgf, hfc⟩ := hfc (by omega)
          obtain ⟨g, p1, p2, hF, hr⟩ := hfc j hlt
          have hkj : (keysOf S t)[j]? = some (keysOf S t)[j] := List.getElem?_eq_getElem hlt
          obtain ⟨hks, hp, _, hse2⟩ := crash_step Hok.out l hd.ok.len hkj Hse.out
          have hks' : (((keysOf S t)[j] : Nat) : Int) < (t : Int) := by omega
          obtain ⟨q1, q2⟩ := hd.stored hks (.inr hF) hr (im := splice im ((keysOf S t)[j] * 512) (cutOf S l (keysOf S t)[j])) (by rw [splice_len _ _ _ (by rw [cut_len Hok.out l _ hks]; have := hd.ok.len; simp only at this; omega)]; exact hd.ok.len) (fun i hi => sec_splice hd.ok.len (cut_len Hok.out l _ hks) hks)
          obtain ⟨gx, cx, hx1, _⟩ := hd.secs _ hks
          have cl0 := hd.last.cell hx1
          have fl := hd.last.frozen (keysOf S t)[j]
          have hrl : r ≠ gl := fun e => hd.last.ne hd.blk (by decide) e.symm
          have hb' := hd.last
          obtain ⟨cur, hbl, _⟩ := hb'
          have hpl : gf ≠ gl := ownsRow_ne hown (by rw [hv7]; rfl) hbl (by decide)
          have hown2 : (wr.setCell ⟨gl, (keysOf S t)[j], none⟩ (.slice (some ⟨g, 0, none⟩) 512 512)).ownsRow w.heap.size 122 2 u5 (keysOf S t).length ys := ownsRow_agree hown (fun b e => Below.heap_setCell _ _ _ _ (ownsRow_ne hown e hbl (by decide)))
          have hfr2 : Fresh (wr.setCell ⟨gl, (keysOf S t)[j], none⟩ (.slice (some ⟨g, 0, none⟩) 512 512)) (fun b => w.heap.size ≤ b ∧ b < W7.heap.size) S l (keysOf S t) ys := hfr.agree (fun _ h => h) (fun b zs _ hr' => hr'.other q2 hbl (by decide))
          have hq : RefRaw (wr.setCell ⟨gl, (keysOf S t)[j], none⟩ (.slice (some ⟨g, 0, none⟩) 512 512)) (more F w W7) r t { S with im := splice im ((keysOf S t)[j] * 512) (cutOf S l (keysOf S t)[j]) } gl cl (ls.set (keysOf S t)[j] (.slice (some ⟨g, 0, none⟩) 512 512)) pv xs ∧ (∀ i, i < t → sec (splice im ((keysOf S t)[j] * 512) (cutOf S l (keysOf S t)[j])) i = if i ∈ (keysOf S t).take (j + 1) then cutOf S l i else sec S.im i) ∧ Keeps F w (wr.setCell ⟨gl, (keysOf S t)[j], none⟩ (.slice (some ⟨g, 0, none⟩) 512 512)) ∧
              (wr.setCell ⟨gl, (keysOf S t)[j], none⟩ (.slice (some ⟨g, 0, none⟩) 512 512)).ownsRow w.heap.size 122 2 u5 (keysOf S t).length ys ∧ Fresh (wr.setCell ⟨gl, (keysOf S t)[j], none⟩ (.slice (some ⟨g, 0, none⟩) 512 512)) (fun b => w.heap.size ≤ b ∧ b < W7.heap.size) S l (keysOf S t) ys ∧ (wr.setCell ⟨gl, (keysOf S t)[j], none⟩ (.slice (some ⟨g, 0, none⟩) 512 512)).heap.size = W7.heap.size :=
            ⟨q1, hse2, hk.trans q2 (fun b hb => .inl (hb ▸ HFl.out)), hown2, hfr2, by simpa [World.setCell] using hsz⟩
          have Hq := Hid.mk hq
          have mo : ∀ b o v, b ≠ gl → (wr.setCell ⟨gl, (keysOf S t)[j], none⟩ v).cell? ⟨b, o, none⟩ = wr.cell? ⟨b, o, none⟩ := fun b o v hb => World.cell?_of_block (w := wr) (a := ⟨b, o, none⟩) (Below.heap_setCell wr ⟨gl, (keysOf S t)[j], none⟩ v b hb)
          have m0 := fun v => (mo r 0 v hrl).trans c0
          have m2 := fun v => (mo gf (j * 2) v hpl).trans p1
          have m3 := fun v => (mo gf (j * 2 + 1) v hpl).trans p2
          have M := Hid.mk (And.intro m0 (And.intro m2 m3))
          clear m0 m2 m3 mo hq q1 q2 hr hd hfc hk hx1 hown hfr hown2 hfr2 hbl hse2 Hse hkj
          generalize (keysOf S t)[j] = kj at *
          subst hv7
          go_wp2_with fail
          go_region_held3 (fun w' => w'.cell? ⟨r, 0, none⟩ = some (.slice (some ⟨gl, 0, none⟩) t cl) ∧ w'.cell? ⟨gf, j * 2, none⟩ = some (.int .i64 (kj : Int)) ∧ w'.cell? ⟨gf, j * 2 + 1, none⟩ = some (.slice (some ⟨g, 0, none⟩) 512 512)) (first | exact ⟨c0, p1, p2⟩ | exact ⟨M.out.1 _, M.out.2.1 _, M.out.2.2 _⟩) (fail)
          all_goals
            go_wp2
            go_roundw
            case rel =>
              obtain ⟨z1, z2, z3, z4, z5, z6⟩ := Hq.out
              exact ⟨j + 1, by omega, by go_num, _, _, z1.agree (Nat.le_refl _) (fun _ _ => rfl), z2, ⟨z3.os, z3.tape, z3.output, z3.size, z3.block⟩, z4, z5, z6⟩
            case measure => simp [intOf]; omega
        · have hlt' : ¬ (j : Int) < ((keysOf S t).length : Int) := by omega
          have ej : j = (keysOf S t).length := by omega
          rw [ej] at Hse
          have hall := crash_all Hok.out l hd.ok.len Hse.out
          obtain ⟨d1, d2, d3, d4, d5, d6, hd7, hk7⟩ := rcrash_end hd hall HFr.out hk
          have hs7 : (((wr.setCell ⟨r, 1, none⟩ (.slice none 0 0)).setCell ⟨r, 2, none⟩ (.int .i64 (-1))).setCell ⟨r, 3, none⟩ (.int .i64 (wrap64 (S.life + 1)))).heap.size = W7.heap.size := by simpa [World.setCell] using hsz
          have hm : more F w W7 = more F w (((wr.setCell ⟨r, 1, none⟩ (.slice none 0 0)).setCell ⟨r, 2, none⟩ (.int .i64 (-1))).setCell ⟨r, 3, none⟩ (.int .i64 (wrap64 (S.life + 1)))) := by unfold more; rw [hs7]
          rw [hm] at hd7
          have Hq := Hid.mk (And.intro (show RefAt _ _ r t (S.crash t l) from ⟨gl, cl, ls, _, _, hd7⟩) hk7)
          obtain ⟨ap, cp, hpv, _⟩ := hd.form
          rw [hpv] at d1
          subst hv7
          clear hd7 hk7 hall hd Hse hk ej hown hfr hfc hm hs7
          go_wp2
          go_end0
          exact ⟨rfl, Hq.out⟩

end Go.Proofs.Ytnolpafdkaloeaa
end

section
namespace Go.Proofs.Ytnolpafdkaloeaa
open Go.RowKit Go.Maps

/-- The sectors laid so far. -/
def LS (w : World) (lo : Nat) (l : List Int) (vs : List Value) : Prop := ∀ i, i < vs.length → ∃ g c, vs[i]? = some (.slice (some ⟨g, 0, none⟩) 512 c) ∧ lo ≤ g ∧ RowAt w 5 g c (bs (sec l i))

theorem ref_fresh {w0 w : World} {r s gl cl : Nat} {vs : List Value} {l : List Int} (hb : w.heap[r]? = some (.cells (dkCells (.slice (some ⟨gl, 0, none⟩) s cl) (.slice none 0 0) (-1) 1 0 0 0 0) 119 (0, 0))) (hr : RowAt w 22 gl cl vs) (hvl : vs.length = s) (hls : LS w w0.heap.size l vs)
    (hr0 : w0.heap.size ≤ r) (hg0 : w0.heap.size ≤ gl) (hl : l.length = s * 512) (h1 : 1 ≤ s) (h2 : s ≤ 2048) : RefAt w (fun k => w0.heap.size ≤ k ∧ k < w.heap.size) r s (DS.fresh l) := by
  refine ⟨gl, cl, vs, .slice none 0 0, [], ⟨hr0, (Array.getElem?_eq_some_iff.1 hb).1⟩, ⟨hg0, hr.lt⟩, fun k hk => hk.2, hb, hr, hvl, fun k hk => ?_, World.ownsRow_nil _ _ _ _, by simp [Value.ownBlock], by simp [DS.fresh], ⟨hl, h1, h2, by simp [DS.fresh], by simp [DS.fresh]⟩⟩
  obtain ⟨g, c, e1, e2, e3⟩ := hls k (by omega)
  exact ⟨g, c, e1, ⟨e2, e3.lt⟩, e3⟩

theorem sec_zero (s k : Nat) (hk : k < s) : sec (List.replicate (s * 512) 0) k = List.replicate 512 0 := by
  unfold sec
  rw [List.drop_replicate, List.take_replicate]
  congr 1
  omega

/-- One sector joins. -/
theorem LS.snoc {w w' : World} {lo : Nat} {l : List Int} {vs : List Value} (h : LS w lo l vs) (hb : ∀ b c ys, lo ≤ b → RowAt w 5 b c ys → RowAt w' 5 b c ys) {g c : Nat} (hg : lo ≤ g) (hr : RowAt w' 5 g c (bs (sec l vs.length))) : LS w' lo l (vs ++ [.slice (some ⟨g, 0, none⟩) 512 c]) := by
  intro i hi
  by_cases hi' : i < vs.length
  · obtain ⟨g', c', e1, e2, e3⟩ := h i hi'
    exact ⟨g', c', by rw [List.getElem?_append_left hi']; exact e1, e2, hb _ _ _ e2 e3⟩
  · have ei : i = vs.length := by simp at hi; omega
    subst ei
    exact ⟨g, c, by simp, hg, hr⟩

/-- What a round leaves: the list has grown, and lies in the struct. -/
theorem last_step {w0 w1 w2 : World} {r j g2 cap2 g cg : Nat} {v : Value} {vs : List Value} {l : List Int} {o : Obj} (hr0 : w0.heap.size ≤ r) (hb1 : Below w0.heap.size w0 w1) (hst : w1.heap[r]? = some (.cells (dkCells v (.slice none 0 0) (-1) 1 0 0 0 0) 119 (0, 0)))
    (hown1 : w1.ownsRow w0.heap.size 22 1 v j vs) (hls : LS w1 w0.heap.size l vs) (hg : w0.heap.size ≤ g) (hr : RowAt w1 5 g cg (bs (sec l vs.length)))
    (hgrow : (w1.alloc o).grownBy w2 v.ownBlock) (hown : w2.ownsRow w0.heap.size 22 1 (.slice (some ⟨g2, 0, none⟩) (j + 1) cap2) (j + 1) (vs ++ [.slice (some ⟨g, 0, none⟩) 512 cg])) :
    w2.cell? ⟨r, 0, none⟩ = some v ∧ w2.frozen? ⟨r, 0, none⟩ = false ∧
    (w2.setCell ⟨r, 0, none⟩ (.slice (some ⟨g2, 0, none⟩) (j + 1) cap2)).heap[r]? = some (.cells (dkCells (.slice (some ⟨g2, 0, none⟩) (j + 1) cap2) (.slice none 0 0) (-1) 1 0 0 0 0) 119 (0, 0)) ∧
    (w2.setCell ⟨r, 0, none⟩ (.slice (some ⟨g2, 0, none⟩) (j + 1) cap2)).ownsRow w0.heap.size 22 1 (.slice (some ⟨g2, 0, none⟩) (j + 1) cap2) (j + 1) (vs ++ [.slice (some ⟨g, 0, none⟩) 512 cg]) ∧
    LS (w2.setCell ⟨r, 0, none⟩ (.slice (some ⟨g2, 0, none⟩) (j + 1) cap2)) w0.heap.size l (vs ++ [.slice (some ⟨g, 0, none⟩) 512 cg]) ∧ Below w0.heap.size w0 (w2.setCell ⟨r, 0, none⟩ (.slice (some ⟨g2, 0, none⟩) (j + 1) cap2)) ∧
    (∀ b c ys, RowAt w1 5 b c ys → RowAt (w2.setCell ⟨r, 0, none⟩ (.slice (some ⟨g2, 0, none⟩) (j + 1) cap2)) 5 b c ys) := by
  have hzs : (w1.alloc o).heap.size = w1.heap.size + 1 := by simp
  have hz2 := hgrow.size
  have hrl := (Array.getElem?_eq_some_iff.1 hst).1
  have hr2 : w2.heap[r]? = some (.cells (dkCells v (.slice none 0 0) (-1) 1 0 0 0 0) 119 (0, 0)) :=
    ((hgrow.block r (by omega) (fun e => ownsRow_ne hown1 e.symm hst (by decide) rfl)).trans (Below.heap_alloc _ _ _ hrl)).trans hst
  have keep : ∀ b c ys, RowAt w1 5 b c ys → RowAt (w2.setCell ⟨r, 0, none⟩ (.slice (some ⟨g2, 0, none⟩) (j + 1) cap2)) 5 b c ys := fun b c ys hb => by
    have h1 := hb.lt
    have hne := hb.ne hst (by decide)
    have hb2 := hb
    obtain ⟨cur, hbb, _⟩ := hb2
    exact hb.agree ((Below.heap_setCell _ _ _ _ hne).trans ((hgrow.block b (by omega) (fun e => ownsRow_ne hown1 e.symm hbb (by decide) rfl)).trans (Below.heap_alloc _ _ _ h1)))
  refine ⟨cell_of_block hr2 (j := 0) rfl, frozen_of_block hr2 0, ?_, ?_, hls.snoc (fun b c ys _ h => keep b c ys h) hg (keep _ _ _ hr), ?_, keep⟩
  · rw [heap_setCell_same _ _ _ _ _ _ hr2]; simp [dkCells]
  · exact ownsRow_agree hown (fun b e => Below.heap_setCell _ _ _ _ (ownsRow_ne hown e hr2 (by decide)))
  · exact ((hb1.alloc hb1.size o).grown hgrow (by have := hb1.size; omega) (fun b e => (hown1.lt b e).1)).setCell hr0 _

end Go.Proofs.Ytnolpafdkaloeaa
end

section
namespace Go.Proofs.Ytnolpafdkaloeaa
open Go.RowKit Go.Maps

theorem rload_bad (a : Option Addr) (n c : Nat) (w : World) (h : n % 512 ≠ 0) :
    Calls Try.prog 26 #[.slice a n c] w fun e w' => e = .returned (.tuple #[.pointer none, .int .i64 2]) ∧ w' = w := by
  have h' : (((n : Int) % 512) != 0) = true := by rw [bne_iff_ne]; omega
  go_enter Try.func26, Try.ntmps26
  go_wp2
  go_ret2
  exact ⟨rfl, rfl⟩

theorem rload_no (a : Option Addr) (n c : Nat) (w : World) (hn : n ≤ 140737488355328) (h : n % 512 = 0) (h0 : n = 0 ∨ 1048576 < n) :
    Calls Try.prog 26 #[.slice a n c] w fun e w' => e = .returned (.tuple #[.pointer none, .int .i64 10]) ∧ w' = w := by
  have h' : (((n : Int) % 512) != 0) = false := by rw [Bool.eq_false_iff, ne_eq, bne_iff_ne]; omega
  obtain ⟨q, hq⟩ : ∃ q : Nat, ((n : Int) / 512) = (q : Int) := ⟨n / 512, by omega⟩
  have hwq : wrap64 (q : Int) = (q : Int) := by unfold wrap64; omega
  rcases h0 with h0 | h0
  · have h1 : (q : Int) < 1 := by omega
    go_enter Try.func26, Try.ntmps26
    go_wp2
    go_ret2
    exact ⟨rfl, rfl⟩
  · have h1 : ¬ (q : Int) < 1 := by omega
    have h2 : 2048 < (q : Int) := by omega
    go_enter Try.func26, Try.ntmps26
    go_wp2
    go_ret2
    exact ⟨rfl, rfl⟩

theorem part_src {w : World} {b o n k : Nat} {l : List Int} (h : ∀ i, i < n → w.cell? ⟨b, o + i, none⟩ = some (.int .u8 (l.getD i 0))) (hl : l.length = n) (hk : k * 512 + 512 ≤ n) : Src w (some ⟨b, o + k * 512, none⟩) 512 (sec l k) := by
  refine ⟨by simp [sec]; omega, (fun h => by cases h), fun x hx i hi => ?_⟩
  cases hx
  rw [addr_add, Nat.add_assoc, h (k * 512 + i) (by omega)]
  simp [sec, List.getD, hi]

set_option maxHeartbeats 4000000 in
set_option maxRecDepth 100000 in
theorem rload_ok (b o n c s : Nat) (l : List Int) (w : World) (hc : ∀ i, i < n → w.cell? ⟨b, o + i, none⟩ = some (.int .u8 (l.getD i 0))) (hll : l.length = n) (h : n = s * 512) (hcap : n ≤ c) (h1 : 1 ≤ s) (h2 : s ≤ 2048) :
    Calls Try.prog 26 #[.slice (some ⟨b, o, none⟩) n c] w fun e w' => ∃ r, e = .returned (.tuple #[.pointer (some ⟨r, 0, none⟩), .int .i64 0]) ∧ RefAt w' (fun k => w.heap.size ≤ k ∧ k < w'.heap.size) r s (DS.fresh l) ∧ Below w.heap.size w w' := by
  obtain ⟨i0, hi0, hz0, hz1, hz2⟩ := info_parts infoRow
  have h' : (((n : Int) % 512) != 0) = false := by rw [Bool.eq_false_iff, ne_eq, bne_iff_ne]; omega
  have hq : ((n : Int) / 512) = (s : Int) := by omega
  have h1' : ¬ (s : Int) < 1 := by omega
  have h2' : ¬ (2048 : Int) < (s : Int) := by omega
  have Hc := Hid.mk hc
  have Hn := Hid.mk h
  clear hc h
  go_enter Try.func26, Try.ntmps26
  go_wp2
  have hst : (w.alloc (.cells (dkCells (.slice none 0 0) (.slice none 0 0) (-1) 1 0 0 0 0) 119)).heap[w.heap.size]? = some (.cells (dkCells (.slice none 0 0) (.slice none 0 0) (-1) 1 0 0 0 0) 119 (0, 0)) := heap_alloc_new _ _
  have hb3 : Below w.heap.size w (w.alloc (.cells (dkCells (.slice none 0 0) (.slice none 0 0) (-1) 1 0 0 0 0) 119)) := (Below.refl _ _).alloc (Nat.le_refl _) _
  have H0 := Hid.mk (And.intro hst hb3)
  clear hst hb3
  go_loopw [6] (fun i wr => ∃ j : Nat, j ≤ s ∧ i = .int .i64 (j : Int) ∧ ∃ v vs, wr.heap[w.heap.size]? = some (.cells (dkCells v (.slice none 0 0) (-1) 1 0 0 0 0) 119 (0, 0)) ∧ wr.ownsRow w.heap.size 22 1 v j vs ∧ LS wr w.heap.size l vs ∧
      Below w.heap.size w wr) (fun i _ => s - (intOf i).toNat)
  case atStart => exact ⟨0, Nat.zero_le _, rfl, .slice none 0 0, [], H0.out.1, World.ownsRow_nil _ _ _ _, fun i hi => by simp at hi, H0.out.2⟩
  case round =>
    clear H0
    obtain ⟨j, hj, rfl, v, vs, hst, hown, hls, hb⟩ := hrel
    have c0 := cell_of_block hst (j := 0) rfl
    have hvl : vs.length = j := by simpa using hown.1
    by_cases hlt : j < s
    · have hlt' : (j : Int) < (s : Int) := by omega
      obtain ⟨av, cv, hv⟩ : ∃ a c, v = .slice a j c := by
        obtain ⟨_, ⟨e, hn⟩ | ⟨g, cap, cur, e, _⟩⟩ := hown
        · exact ⟨none, 0, by rw [e, hn]⟩
        · exact ⟨_, _, e⟩
      subst hv
      have hnn := Hn.out
      have hkk : j * 512 + 512 ≤ n := by omega
      obtain ⟨m, hm⟩ : ∃ m : Nat, m = j * 512 := ⟨_, rfl⟩
      obtain ⟨m2, hm2⟩ : ∃ m2 : Nat, m2 = m + 512 := ⟨_, rfl⟩
      have x1 : IntKind.i64.wrap ((j : Int) * 512) = (m : Int) := by rw [IntKind.wrap_i64]; all_goals omega
      have x2 : IntKind.i64.wrap ((m : Int) + 512) = (m2 : Int) := by rw [IntKind.wrap_i64]; all_goals omega
      have x3 : (m2 : Int) ≤ (c : Int) := by omega
      have x4 : m ≤ m2 := by omega
      have x5 : ¬ c = m := by omega
      have x6 : m2 - m = 512 := by omega
      have hsrc : Src wr (some ⟨b, o + j * 512, none⟩) 512 (sec l j) := part_src (fun i hi => cell_later hb (Hc.out i hi)) hll hkk
      rw [← hm] at hsrc
      have hrl := (Array.getElem?_eq_some_iff.1 hst).1
      have hwz := hb.size
      have htw : ∀ cx, Calls Try.prog 72 #[.slice (some ⟨b, o + m, none⟩) 512 cx] wr.drew fun e w' => ∃ v, e = .returned v ∧ TwR wr (sec l j) v w' := fun cx =>
        (rtwin_any (some ⟨b, o + m, none⟩) 512 cx (sec l j) wr.drew (by omega) hsrc).mono (by rintro e w' ⟨g, rfl, h1, h2, h3⟩; exact ⟨_, rfl, g, rfl, h1, h2, ⟨h3.os, h3.tape, h3.output, h3.size, h3.block⟩⟩)
      have hcell : ∀ wx : World, wx.heap[w.heap.size]? = wr.heap[w.heap.size]? → wx.cell? ⟨w.heap.size, 0, none⟩ = some (.slice av j cv) := fun wx e => cell_of_block (e.trans hst) (j := 0) rfl
      have Hcell := Hid.mk hcell
      have Htw := Hid.mk htw
      have Hst := Hid.mk hst
      have Hown := Hid.mk hown
      have Hls := Hid.mk hls
      have Hb := Hid.mk hb
      clear hst hls hb hown htw hcell hsrc hnn hm hm2
      go_wp2_with fail
      go_region_law
        (first
          | (refine step_call (by rfl) 72 #[.slice (some ⟨b, o + m, none⟩) 512 (c - m)] (by simp [go_sem]) (TwR wr (sec l j)) (Htw.out _) ?_; rintro _ w1 ⟨g, rfl, hg, hr, hb1⟩; have hr1 : w1.heap[w.heap.size]? = wr.heap[w.heap.size]? := hb1.block w.heap.size hrl; have k1 := Hcell.out w1 hr1; have k2 := fun o => Hcell.out (w1.alloc o) ((Below.heap_alloc w1 o w.heap.size (Nat.lt_of_lt_of_le hrl hb1.size)).trans hr1))
          | (refine step_append_lies _ (by rfl) _ _ _ (by rfl) w.heap.size 22 i0 _ 1 24 Try.underlying28 hi0 hz0 hz1 hz2 rfl (by omega) (.slice av j cv) j vs (by rfl) (ownsRow_agree Hown.out (fun g e => (Below.heap_alloc w1 _ _ (Nat.lt_of_lt_of_le (Hown.out.lt g e).2 hb1.size)).trans (hb1.block g (Hown.out.lt g e).2)))
              ⟨w1.heap.size, 0, none⟩ 1 1 [.slice (some ⟨g, 0, none⟩) 512 512] (by rfl) (by rfl) (cell_one_new _ _ _) (by simp [Value.oneCell']) (by omega) (by unfold maxLen; omega) (by omega) (by have := hb1.size; simp; omega) (w1.heap.size + 1) (by simp) ?_; intro g2 cap2 w2 hown2 hgrow2 hat2 hlt2
             obtain ⟨d1, d2, d3, d4, d5, d6, d7⟩ := last_step (Nat.le_refl _) (Hb.out.trans (hb1.mono hwz)) (hr1.trans Hst.out) (ownsRow_agree Hown.out (fun g e => hb1.block g (Hown.out.lt g e).2)) (fun i hi => by obtain ⟨g', c', e1, e2, e3⟩ := Hls.out i hi; exact ⟨g', c', e1, e2, e3.agree (hb1.block g' e3.lt)⟩) (Nat.le_trans hwz hg) (by rw [hvl]; exact hr) hgrow2 hown2))
      all_goals
        have Hz := Hid.mk (And.intro d3 (And.intro d4 (And.intro d5 d6)))
        clear d3 d4 d5 d6 d7 hr hb1 hown2 hgrow2 hat2 hlt2 hr1 k1 k2 d1 d2 Hst Hown Hls Hb Htw Hcell c0 x1 x2 x3 x4 x5 x6
        go_wp2
        go_roundw
        case rel => exact ⟨j + 1, by omega, by go_num, _, _, Hz.out⟩
        case measure => simp [intOf]; omega
    · have hlt' : ¬ (j : Int) < (s : Int) := by omega
      have ej : j = s := by omega
      subst ej
      obtain ⟨g2, cap2, hv, hg2, hr2, _⟩ := RowAt.of_owns hown (by rintro rfl; rcases hown.2 with ⟨_, h⟩ | ⟨_, _, _, h, _⟩; omega; cases h)
      rw [hv] at hst
      have hfin := ref_fresh (w0 := w) hst hr2 hvl hls (Nat.le_refl _) hg2 (by have := Hn.out; omega) h1 h2
      have Hq := Hid.mk (And.intro hfin hb)
      clear hst hown hls hb hr2 hfin c0
      go_wp2
      go_ret2
      exact ⟨_, rfl, Hq.out⟩
end Go.Proofs.Ytnolpafdkaloeaa
end

section
namespace Go.Proofs.Ytnolpafdkaloeaa
open Go.RowKit Go.Maps

theorem take_sec {im : List Int} (j : Nat) : im.take (j * 512) ++ sec im j = im.take ((j + 1) * 512) := by
  unfold sec
  rw [show (j + 1) * 512 = j * 512 + 512 by omega, List.take_add]

set_option maxHeartbeats 4000000 in
theorem rimage_any {w : World} {F : Nat → Prop} {r s : Nat} {S : DS} (hd : RefAt w F r s S) :
    Calls Try.prog 34 #[.pointer (some ⟨r, 0, none⟩)] w fun e w' => ∃ g c, e = .returned (.slice (some ⟨g, 0, none⟩) (s * 512) c) ∧ w.heap.size ≤ g ∧ RowAt w' 5 g c (bs S.im) ∧ Below w.heap.size w w' := by
  obtain ⟨gl, cl, ls, pv, xs, h⟩ := hd
  obtain ⟨i0, hi, hz0, hz1, hz2⟩ := info_parts infoU8
  have c0 := cell_of_block h.blk (j := 0) rfl
  have hsm := h.ok.hi
  have hlen := h.ok.len
  have H := Hid.mk h
  clear h
  obtain ⟨m, hm⟩ : ∃ m : Nat, m = s * 512 := ⟨_, rfl⟩
  have x1 : IntKind.i64.wrap ((s : Int) * 512) = (m : Int) := by rw [IntKind.wrap_i64]; all_goals omega
  have x1' : wrap64 ((s : Int) * 512) = (m : Int) := by unfold wrap64; omega
  rw [← hm] at hlen ⊢
  have Hm := Hid.mk hm
  have hm20 : m ≤ 1048576 := by omega
  clear hm
  go_enter Try.func34, Try.ntmps34
  go_wp2_with (at_make; refine wpList_make_own _ rfl _ _ 22 rfl w.heap.size 5 i0 (.int .u8 0) 1 Try.underlying22 hi hz0 hz1 _ _ _ m rfl rfl ?c1 ?c2 ?c3 (Nat.le_refl _) ?_)
  case c1 => first | rfl | omega
  case c2 => rw [hz2]; omega
  case c3 => unfold maxLen; omega
  intro w1 hown hgrow
  have hb : Below w.heap.size w w1 := (Below.refl _ w).grown hgrow (Nat.le_refl _) (by intro k hk; cases hk)
  have H0 := Hid.mk (And.intro hown hb)
  clear hown hgrow hb x1 x1'
  go_wp2
  go_loopw [3, 4] (fun v i wr => ∃ j : Nat, j ≤ s ∧ i = .int .i64 (j : Int) ∧ ∃ q, v = .slice (some ⟨q, 0, none⟩) (j * 512) m ∧ w.heap.size ≤ q ∧ wr.ownsRow w.heap.size 5 1 v (j * 512) (bs (S.im.take (j * 512))) ∧ Below w.heap.size w wr) (fun _ i _ => s - (intOf i).toNat)
  case atStart => exact ⟨0, Nat.zero_le _, rfl, _, rfl, Nat.le_refl _, H0.out.1, H0.out.2⟩
  case round =>
    clear H0
    obtain ⟨j, hj, rfl, q, rfl, hq, hown, hb⟩ := hrel
    have e0 := cell_later hb c0
    by_cases hlt : j < s
    · have hlt' : (j : Int) < (s : Int) := by omega
      obtain ⟨g, c, p1, hF, hr⟩ := H.out.secs j hlt
      have cj := cell_later hb (H.out.last.cell p1)
      have hr' := hr.agree (hb.block g hr.lt)
      have hl5 : (sec S.im j).length = 512 := by have := Hm.out; simp [sec]; omega
      have hsr := hr'.src
      rw [hl5] at hsr
      obtain ⟨k, hk⟩ : ∃ k, k = j * 512 := ⟨_, rfl⟩
      have hkm : k + 512 ≤ m := by have := Hm.out; omega
      have hjk : (j + 1) * 512 = k + 512 := by omega
      rw [← hk] at hown
      have htk : bs (S.im.take k) ++ bs (sec S.im j) = bs (S.im.take (k + 512)) := by rw [← hjk, ← take_sec, ← hk]; simp [bs]
      rw [← hk]
      have Hown := Hid.mk hown
      have Hsr := Hid.mk hsr
      have Hj := Hid.mk hjk
      have Htk := Hid.mk htk
      have hwz := hb.size
      clear hown hsr hr hr' hk hjk htk
      go_wp2_with (at_builtin; refine wpList_append_fits _ rfl _ _ 22 rfl w.heap.size 5 i0 1 Try.underlying22 hi hz1 q k m (bs (S.im.take k)) rfl Hown.out ⟨g, 0, none⟩ 512 c (bs (sec S.im j)) rfl (by simp [bs, hl5]) (fun t u hu => by obtain ⟨h1, rfl⟩ := bs_getElem hu; exact Hsr.out.2.2 _ rfl t (by omega)) (bs_one _) hkm ?_)
      intro w3 hown hgrow
      have hb3 : Below w.heap.size w w3 := hb.grown hgrow hwz (by intro x hx; cases hx; exact hq)
      have hown : w3.ownsRow w.heap.size 5 1 (.slice (some ⟨q, 0, none⟩) (k + 512) m) (k + 512) (bs (S.im.take (k + 512))) := by
        have h9 := Htk.out
        simp only [bs, List.map_take] at h9 hown ⊢
        rw [h9] at hown
        exact hown
      have Hz := Hid.mk (And.intro hown hb3)
      clear hown hgrow hb3 Hown Hsr Htk hb cj e0
      go_wp2
      go_roundw
      case rel => exact ⟨j + 1, by omega, by go_num, q, by rw [Hj.out], hq, by rw [Hj.out]; exact Hz.out.1, Hz.out.2⟩
      case measure => simp [intOf]; omega
    · have hlt' : ¬ (j : Int) < (s : Int) := by omega
      have ej : j = s := by omega
      subst ej
      rw [← Hm.out, List.take_of_length_le (by omega)] at hown
      obtain ⟨g2, cap2, hv, hg2, hr2, _⟩ := RowAt.of_owns hown (by rintro h; cases h)
      have Hq := Hid.mk (And.intro hg2 (And.intro hr2 hb))
      rw [← Hm.out]
      cases hv
      clear hown hr2 hb hg2
      go_wp2
      go_ret
      exact ⟨_, _, rfl, Hq.out⟩
end Go.Proofs.Ytnolpafdkaloeaa
end

section
namespace Go.Proofs.Ytnolpafdkaloeaa
open Go.RowKit Go.Maps

theorem infoPick : (Try.prog.info? 50).map (fun i => (i.zero, i.size, i.bytes)) = some (some (.agg #[.int .i64 0, .int .i64 0, .int .i64 0]), 3, 24) := by kernel_rfl
theorem sizePick : (Try.prog.info? 50).map (·.size) = some 3 := by kernel_rfl

def p3 (l : List P3) : List Value := l.flatMap (fun q => [.int .i64 q.1, .int .i64 q.2.1, .int .i64 q.2.2])

theorem p3_len : ∀ l : List P3, (p3 l).length = l.length * 3
  | [] => rfl
  | q :: l => by have := p3_len l; simp only [p3, List.flatMap_cons, List.length_append, List.length_cons, List.length_nil] at this ⊢; omega

theorem p3_one (l : List P3) : ∀ v ∈ p3 l, v.oneCell' = true := by
  intro v hv
  simp only [p3, List.mem_flatMap] at hv
  obtain ⟨q, _, h⟩ := hv
  simp at h
  rcases h with rfl | rfl | rfl <;> rfl

theorem p3_at : ∀ (l : List P3) (i : Nat) (hi : i < l.length), (p3 l)[i * 3]? = some (.int .i64 l[i].1) ∧ (p3 l)[i * 3 + 1]? = some (.int .i64 l[i].2.1) ∧ (p3 l)[i * 3 + 2]? = some (.int .i64 l[i].2.2)
  | q :: l, 0, _ => by simp [p3]
  | q :: l, i + 1, hi => by
    have := p3_at l i (by simpa using hi)
    have e : p3 (q :: l) = [.int .i64 q.1, .int .i64 q.2.1, .int .i64 q.2.2] ++ p3 l := rfl
    rw [e, List.getElem?_append_right (by simp; omega), List.getElem?_append_right (by simp; omega), List.getElem?_append_right (by simp; omega)]
    simp only [List.length_cons, List.length_nil, List.getElem_cons_succ]
    rw [show (i + 1) * 3 - (0 + 1 + 1 + 1) = i * 3 by omega, show (i + 1) * 3 + 1 - (0 + 1 + 1 + 1) = i * 3 + 1 by omega, show (i + 1) * 3 + 2 - (0 + 1 + 1 + 1) = i * 3 + 2 by omega]
    exact this

theorem p3_src {w : World} {b o n : Nat} {l : List P3} (h : PSrc w (some ⟨b, o, none⟩) n l) (j : Nat) (v : Value) (hv : (p3 l)[j]? = some v) : w.cell? ((⟨b, o, none⟩ : Addr).add j) = some v := by
  rw [addr_add]
  have hj := (List.getElem?_eq_some_iff.1 hv).1
  rw [p3_len] at hj
  obtain ⟨i, t, ht, rfl⟩ : ∃ i t, t < 3 ∧ j = i * 3 + t := ⟨j / 3, j % 3, by omega, by omega⟩
  have hi : i < l.length := by omega
  obtain ⟨e0, e1, e2⟩ := p3_at l i hi
  obtain ⟨b', o', hx, c0, c1, c2⟩ := h.2.2.1 _ rfl i hi
  cases hx
  rw [← Nat.add_assoc]
  match t, ht with
  | 0, _ => rw [Nat.add_zero] at hv ⊢; rw [e0] at hv; rw [c0]; exact hv
  | 1, _ => rw [e1] at hv; rw [c1]; exact hv
  | 2, _ => rw [e2] at hv; rw [c2]; exact hv

theorem p3_to {w : World} {g n : Nat} {l : List P3} (hn : l.length = n) (hb : ∀ q ∈ l, q.1 ≤ 9223372036854775807 ∧ q.2.1 ≤ 9223372036854775807 ∧ q.2.2 ≤ 9223372036854775807) (h : w.heap[g]? = some (.cells (p3 l).toArray 50 (0, 0))) : PSrc w (some ⟨g, 0, none⟩) n l := by
  refine ⟨hn, (fun h => by cases h), fun x hx i hi => ?_, hb⟩
  cases hx
  obtain ⟨e0, e1, e2⟩ := p3_at l i hi
  refine ⟨g, 0, rfl, ?_, ?_, ?_⟩ <;> (simp only [World.cell?, h, Nat.zero_add]; simpa using ‹_›)

/-- copy of elements of three cells. -/
theorem copy3_run (w : World) (ty : TypeId) (g n : Nat) (a : Option Addr) (c d : Nat) (cur : Array Value) (l : List P3) (hg : w.heap[g]? = some (.cells cur 50 (0, 0))) (hcur : cur.size = n * 3) (hs : PSrc w a n l) :
    ∃ w2, (Builtin.copy_ #[31, 31] ty #[.slice (some ⟨g, 0, none⟩) n d, .slice a n c]).run Try.prog w = .ok (goInt n) w2 ∧
      w2.heap[g]? = some (.cells (p3 l).toArray 50 (0, 0)) ∧ Keeps (fun k => k = g) w w2 ∧ w2.heap.size = w.heap.size := by
  have hl := hs.1
  have hmm : Nat.min n n = n := Nat.min_self n
  obtain ⟨i0, hq, _, hi, _⟩ := info_parts infoPick
  by_cases h0 : n = 0
  · subst h0
    obtain rfl : l = [] := List.eq_nil_of_length_eq_zero hl
    have hcz : cur = #[] := Array.eq_empty_of_size_eq_zero (by omega)
    subst hcz
    have hlc : ∀ (x : Addr), (loadCells x 0).run Try.prog w = .ok #[] w := fun x => by simpa using run_loadCells_list (P := Try.prog) w x [] (by simp)
    refine ⟨w, ?_, hg, Keeps.refl _ _, rfl⟩
    cases a <;> simp [Builtin.copy_, run_underlying Try.underlying31, Builtin.lenOf, Builtin.firstCells, sizeOf, typeInfo, hq, storeCells, hlc]
  · obtain ⟨x, rfl⟩ : ∃ x, a = some x := by
      cases a with
      | none => exact absurd (hs.2.1 rfl) h0
      | some x => exact ⟨x, rfl⟩
    obtain ⟨b, o, rfl, _⟩ := hs.2.2.1 x rfl 0 (by omega)
    have hlc := run_loadCells_list (P := Try.prog) w ⟨b, o, none⟩ (p3 l) (p3_src hs)
    rw [p3_len, hl] at hlc
    have hst := run_storeCells_at Try.prog g 0 50 (p3 l) 0 cur w hg (by rw [p3_len]; omega) (p3_one l)
    have e : (List.take (0 + 0) cur.toList ++ p3 l ++ List.drop (0 + 0 + (p3 l).length) cur.toList).toArray = (p3 l).toArray := by
      rw [p3_len, List.drop_of_length_le (by simp; omega)]; simp
    rw [e] at hst
    refine ⟨w.setRow g (p3 l).toArray, ?_, ?_, ⟨rfl, rfl, rfl, by simp, fun k _ hk => setRow_other w g k _ hk⟩, by simp⟩
    · simp [Builtin.copy_, run_underlying Try.underlying31, Builtin.lenOf, Builtin.firstCells, sizeOf, typeInfo, hq, hi, hmm, hlc, hst]
    · exact setRow_heap w g _ _ 50 _ hg

theorem PSrc.later {w w' : World} {a : Option Addr} {n : Nat} {l : List P3} (h : PSrc w a n l) (hb : Below w.heap.size w w') : PSrc w' a n l := h.keeps (Keeps.of_below (fun _ => False) hb) (fun _ _ h => h)

set_option maxHeartbeats 2000000 in
theorem twinp_any (a : Option Addr) (n c : Nat) (l : List P3) (w : World) (hn : 24 * n ≤ 140737488355328) (hs : PSrc w a n l) :
    Calls Try.prog 17 #[.slice a n c] w fun e w' => ∃ g, e = .returned (.slice (some ⟨g, 0, none⟩) n n) ∧ w.heap.size ≤ g ∧ PSrc w' (some ⟨g, 0, none⟩) n l ∧ Below w.heap.size w w' := by
  obtain ⟨i0, hi, hz0, hz1, hz2⟩ := info_parts infoPick
  have H := Hid.mk hs
  clear hs
  go_enter Try.func17, Try.ntmps17
  go_wp2_with (at_make; refine wpList_make_full _ rfl _ _ 31 rfl w.heap.size 50 i0 _ 3 Try.underlying31 hi hz0 hz1 _ _ _ _ n rfl rfl ?c1 ?c2 ?c3 ?c4 ?c5 ?_)
  case c1 => rfl
  case c2 => rfl
  case c3 => rw [hz2]; omega
  case c4 => unfold maxLen; omega
  case c5 => exact Nat.le_refl _
  intro w1 hown hgrow
  have hb : Below w.heap.size w w1 := (Below.refl _ w).grown hgrow (Nat.le_refl _) (by intro k hk; cases hk)
  have hs1 := H.out.later hb
  have hl := H.out.1
  obtain ⟨_, ⟨hv, _⟩ | ⟨g', cap, cur, hv, _, hg, _, _, hcs, _⟩⟩ := hown
  · cases hv
  cases hv
  obtain ⟨w2, hrun, hh, hk, _⟩ := copy3_run w1 3 w.heap.size n a c n cur l hg hcs hs1
  have hb2 : Below w.heap.size w w2 := hb.trans (hk.below (fun k h => by omega) hb.size)
  have hr2 := p3_to (n := n) hl hs1.2.2.2 hh
  clear hh hs1 hb hk hg hcs hgrow
  go_wp2
  go_ret
  exact ⟨w.heap.size, rfl, Nat.le_refl _, hr2, hb2⟩
end Go.Proofs.Ytnolpafdkaloeaa
end

section
namespace Go.Proofs
open Go.Shelf
def Try.lays189_ren : Go.Shelf.Ren := ⟨fun | 189 => 94 | 125 => 115 | 257 => 114 | 128 => 133 | 129 => 134 | 294 => 124 | 295 => 125 | 296 => 126 | 297 => 127 | 298 => 128 | 299 => 129 | 216 => 130 | 300 => 131 | 301 => 132 | 328 => 139 | 329 => 140 | 330 => 141 | 331 => 142 | 332 => 143 | 215 => 144 | 343 => 145 | n => n, fun | 28 => 109 | 3 => 3 | 46 => 164 | 0 => 0 | 51 => 183 | 53 => 141 | 4 => 4 | 183 => 175 | 182 => 174 | 131 => 180 | 5 => 5 | 9 => 9 | 218 => 189 | 222 => 193 | 228 => 195 | 229 => 196 | n => n, fun | n => n⟩
theorem Try.lays189 : Go.Proofs.Lays.n189 Try.prog Try.lays189_ren := {
  mixed := by kernel_rfl
  f125 := Try.func115.trans (congrArg some (by kernel_rfl))
  f128 := Try.func133.trans (congrArg some (by kernel_rfl))
  f129 := Try.func134.trans (congrArg some (by kernel_rfl))
  f189 := Try.func94.trans (congrArg some (by kernel_rfl))
  f215 := Try.func144.trans (congrArg some (by kernel_rfl))
  f216 := Try.func130.trans (congrArg some (by kernel_rfl))
  f257 := Try.func114.trans (congrArg some (by kernel_rfl))
  f294 := Try.func124.trans (congrArg some (by kernel_rfl))
  f295 := Try.func125.trans (congrArg some (by kernel_rfl))
  f296 := Try.func126.trans (congrArg some (by kernel_rfl))
  f297 := Try.func127.trans (congrArg some (by kernel_rfl))
  f298 := Try.func128.trans (congrArg some (by kernel_rfl))
  f299 := Try.func129.trans (congrArg some (by kernel_rfl))
  f300 := Try.func131.trans (congrArg some (by kernel_rfl))
  f301 := Try.func132.trans (congrArg some (by kernel_rfl))
  f328 := Try.func139.trans (congrArg some (by kernel_rfl))
  f329 := Try.func140.trans (congrArg some (by kernel_rfl))
  f330 := Try.func141.trans (congrArg some (by kernel_rfl))
  f331 := Try.func142.trans (congrArg some (by kernel_rfl))
  f332 := Try.func143.trans (congrArg some (by kernel_rfl))
  f343 := Try.func145.trans (congrArg some (by kernel_rfl))
  t0 := Try.underlying0
  a0 := Try.isAgg0
  z0 := Try.sizeOf0
  v0 := Try.zeroValue0
  t3 := Try.underlying3
  a3 := Try.isAgg3
  z3 := Try.sizeOf3
  v3 := Try.zeroValue3
  t4 := Try.underlying4
  a4 := Try.isAgg4
  z4 := Try.sizeOf4
  v4 := Try.zeroValue4
  t5 := Try.underlying5
  a5 := Try.isAgg5
  z5 := Try.sizeOf5
  v5 := Try.zeroValue5
  t9 := Try.underlying9
  a9 := Try.isAgg9
  z9 := Try.sizeOf9
  v9 := Try.zeroValue9
  t28 := Try.underlying109
  a28 := Try.isAgg109
  z28 := Try.sizeOf109
  v28 := Try.zeroValue109
  t46 := Try.underlying164
  a46 := Try.isAgg164
  z46 := Try.sizeOf164
  v46 := Try.zeroValue164
  t51 := Try.underlying183
  a51 := Try.isAgg183
  z51 := Try.sizeOf183
  v51 := Try.zeroValue183
  t53 := Try.underlying141
  a53 := Try.isAgg141
  z53 := Try.sizeOf141
  v53 := Try.zeroValue141
  t131 := Try.underlying180
  a131 := Try.isAgg180
  z131 := Try.sizeOf180
  v131 := Try.zeroValue180
  t182 := Try.underlying174
  a182 := Try.isAgg174
  z182 := Try.sizeOf174
  v182 := Try.zeroValue174
  t183 := Try.underlying175
  a183 := Try.isAgg175
  z183 := Try.sizeOf175
  v183 := Try.zeroValue175
  t218 := Try.underlying189
  a218 := Try.isAgg189
  z218 := Try.sizeOf189
  v218 := Try.zeroValue189
  t222 := Try.underlying193
  a222 := Try.isAgg193
  z222 := Try.sizeOf193
  v222 := Try.zeroValue193
  t228 := Try.underlying195
  a228 := Try.isAgg195
  z228 := Try.sizeOf195
  v228 := Try.zeroValue195
  t229 := Try.underlying196
  a229 := Try.isAgg196
  z229 := Try.sizeOf196
  v229 := Try.zeroValue196 }
end Go.Proofs
end

section
namespace Go.Proofs.Ytnolpafdkaloeaa
open Go.RowKit Go.Maps Go.Shelf Go.Sort

theorem sorts : SortSaid := by
  intro g cap zs w hr hsz
  have hle := hr.le
  have hr0 := hr
  obtain ⟨cur, hb, hc, ht, hm⟩ := hr0
  have hlz : (zs.map (Value.int .i64)).length = zs.length := by simp
  rw [hlz] at hle ht
  have hH : Holds (Value.int .i64) w g 0 zs.toArray := holds_of_blockI hb ht
  refine (calls_of_every_depth fun D => AnyS.slices_Sort_int_in Try.lays189 D g 0 cap zs w hH hr.lt hsz).mono ?_
  rintro e w' ⟨rfl, n, os, rfl⟩
  have hl : (zs.mergeSort fun x y => decide (x ≤ y)).length = zs.length := List.length_mergeSort _
  have hg := grownBy_sortedI (w := w) (g := g) (n := n) (os := os) (zs.mergeSort fun x y => decide (x ≤ y)).toArray
  refine ⟨rfl, ⟨_, heap_sortedI _ hb, by simp [putCells, hc], ?_, hm⟩, ⟨hg.os, hg.tape, hg.output, hg.size, fun k hk hne => hg.block k hk (by simpa using hne)⟩⟩
  rw [List.length_map]
  exact take_putCellsI cur _ (by omega)

theorem ins_nil (w : World) : Calls Try.prog 124 #[.slice none 0 0, .int .i64 0, .int .i64 0] w fun e w' => e = .returned (.tuple #[]) ∧ w' = w := by
  go_enter Try.func124, Try.ntmps124
  go_wp2
  refine wp_loop_rounds 1 ?_
  rw [rounds_succ]
  go_wp2
  go_end0
  exact ⟨rfl, rfl⟩

theorem pdq_nil (n : Int) (w : World) : Calls Try.prog 114 #[.slice none 0 0, .int .i64 0, .int .i64 0, .int .i64 n] w fun e w' => e = .returned (.tuple #[]) ∧ w' = w := by
  go_enter Try.func114, Try.ntmps114
  go_wp2
  refine wp_loop_rounds 1 ?_
  rw [rounds_succ]
  go_wp2_with (go_at_call 124; refine (ins_nil _).mono ?_; rintro e w' ⟨rfl, rfl⟩)
  exact bodyPost_ret (results_none rfl _ _ _) rfl ⟨rfl, rfl⟩

theorem sortn : SortNil := by
  intro w
  go_enter Try.func94, Try.ntmps94
  go_wp2_with (first | (go_at_call 114; refine (pdq_nil _ _).mono ?_; rintro e w' ⟨rfl, rfl⟩) | go_in)
  go_end0
  exact ⟨rfl, RowKit.Below.refl _ _⟩
end Go.Proofs.Ytnolpafdkaloeaa
end
