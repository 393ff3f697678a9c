import Derived.Test.YtijgdmhglnanjaaGreatW24
section
namespace Go.Proofs.YtijgdmhglnanjaaGreat
open Go.RowKit Go.Maps

theorem RowAt.stored {w : World} {e : TypeId} {g c : Nat} {xs : List Value} (h : RowAt w e g c xs) (k : Nat) (v : Value) : RowAt (w.setCell ⟨g, k, none⟩ v) e g c (xs.set k v) := by
  obtain ⟨cur, hb, hc, ht, hm⟩ := h
  refine ⟨_, heap_setCell_same _ _ _ _ _ _ hb, by simpa using hc, ?_, hm⟩
  rw [List.length_set, Array.toList_setIfInBounds, List.take_set, ht]

/-- One sector is written home. -/
theorem RefRaw.stored {w : World} {F : Nat → Prop} {r s : Nat} {S : DS} {gl cl : Nat} {ls : List Value} {pv : Value} {xs : List Value} (h : RefRaw w F r s S gl cl ls pv xs) {k : Nat} (hk : k < s) {g c : Nat} {l : List Int} (hF : F g) (hr : RowAt w 5 g c (bs l)) {im : List Int} (hl : im.length = s * 512)
    (hs : ∀ j, j < s → dsec im j = if j = k then l else dsec S.im j) :
    RefRaw (w.setCell ⟨gl, k, none⟩ (.slice (some ⟨g, 0, none⟩) 512 c)) F r s { S with im := im } gl cl (ls.set k (.slice (some ⟨g, 0, none⟩) 512 c)) pv xs ∧ Keeps (fun b => b = gl) w (w.setCell ⟨gl, k, none⟩ (.slice (some ⟨g, 0, none⟩) 512 c)) := by
  have hke : Keeps (fun b => b = gl) w (w.setCell ⟨gl, k, none⟩ (.slice (some ⟨g, 0, none⟩) 512 c)) := Keeps.setCell (F := fun b => b = gl) w (p := ⟨gl, k, none⟩) rfl _
  have hb' := h.last
  obtain ⟨cur, hbl, _⟩ := hb'
  refine ⟨⟨h.fr, h.fl, fun b hb => Nat.lt_of_lt_of_le (h.lt b hb) hke.size, (hke.block r (h.lt r h.fr) (fun e => h.last.ne h.blk (by decide) e.symm)).trans h.blk, h.last.stored k _, by rw [List.length_set]; exact h.llen, fun j hj => ?_,
    ownsRow_agree h.pend (fun b e => hke.block b (h.lt b (h.pvf b e)) (ownsRow_ne h.pend e hbl (by decide))), h.pvf, fun i hi => ?_, ⟨hl, h.ok.lo, h.ok.hi, h.ok.puts, h.ok.fuse⟩⟩, hke⟩
  · simp only [hs j hj]
    by_cases e : j = k
    · subst e
      rw [if_pos rfl]
      exact ⟨g, c, by rw [List.getElem?_set_self (by rw [h.llen]; exact hj)], hF, hr.other hke hbl (by decide)⟩
    · rw [if_neg e]
      obtain ⟨g', c', e1, e2, e3⟩ := h.secs j hj
      exact ⟨g', c', by rw [List.getElem?_set_ne (by omega)]; exact e1, e2, e3.other hke hbl (by decide)⟩
  · obtain ⟨g', c', e1, e2, e3, e4⟩ := h.puts i hi
    exact ⟨g', c', e1, e2, e3, e4.other hke hbl (by decide)⟩

/-- The image behind the first i pending writes. -/
def imUp (S : DS) (s i : Nat) : List Int := imOf s (DS.now { S with puts := S.puts.take i })

theorem ok_take {S : DS} {s : Nat} (h : S.Ok s) (i : Nat) : DS.Ok { S with puts := S.puts.take i } s := ⟨h.len, h.lo, h.hi, fun q hq => h.puts q (List.mem_of_mem_take hq), h.fuse⟩

theorem imUp_len {S : DS} {s : Nat} (h : S.Ok s) (i : Nat) : (imUp S s i).length = s * 512 := imOf_len s _ (now_len (ok_take h i))

theorem imUp_zero {S : DS} {s : Nat} (h : S.Ok s) : imUp S s 0 = S.im := by
  refine im_ext s (imUp_len h 0) h.len (fun k hk => ?_)
  unfold imUp
  rw [sec_imOf s _ (now_len (ok_take h 0)) k hk]
  exact now_none _ _ (by simp [pendOf])

theorem imUp_all {S : DS} {s : Nat} : imUp S s S.puts.length = imOf s S.now := by
  unfold imUp
  rw [List.take_length]

theorem imUp_succ {S : DS} {s : Nat} (h : S.Ok s) {i : Nat} (hi : i < S.puts.length) : ∀ j, j < s → dsec (imUp S s (i + 1)) j = if j = S.puts[i].1 then S.puts[i].2 else dsec (imUp S s i) j := fun j hj => by
  unfold imUp
  rw [sec_imOf s _ (now_len (ok_take h (i + 1))) j hj, sec_imOf s _ (now_len (ok_take h i)) j hj]
  have ht : S.puts.take (i + 1) = S.puts.take i ++ [S.puts[i]] := by rw [List.take_add_one, List.getElem?_eq_getElem hi]; rfl
  by_cases e : j = S.puts[i].1
  · rw [if_pos e]
    unfold DS.now DS.cand
    simp only [ht]
    rw [pendOf_append]
    simp [pendOf, e, List.getD]
  · rw [if_neg e]
    have hp : pendOf (S.puts.take (i + 1)) j = pendOf (S.puts.take i) j := by
      rw [ht, pendOf_append, pendOf_none (puts := [S.puts[i]]) (by simp; omega), List.append_nil]
    unfold DS.now DS.cand
    simp only [hp]

theorem rflush_dead {w : World} {F : Nat → Prop} {r s : Nat} {S : DS} (h : RefAt w F r s S) (hf : S.fuse = 0) :
    Calls Tryz.prog 49 #[.pointer (some ⟨r, 0, none⟩)] w fun e w' => e = .returned (.int .i64 3) ∧ w' = w := by
  obtain ⟨gl, cl, ls, pv, xs, h⟩ := h
  have c2 := cell_of_block h.blk (j := 2) rfl
  have hb : (S.fuse == 0) = true := by simp [hf]
  clear h hf
  go_enter Tryz.func49, Tryz.ntmps49
  go_wp2
  go_ret
  exact ⟨rfl, rfl⟩

/-- The pending list is let go. -/
theorem RefRaw.dropped {w : World} {F : Nat → Prop} {r s : Nat} {S : DS} {gl cl : Nat} {ls : List Value} {pv : Value} {xs : List Value} (h : RefRaw w F r s S gl cl ls pv xs) :
    RefRaw (w.setCell ⟨r, 1, none⟩ (.slice none 0 0)) F r s { S with puts := [] } gl cl ls (.slice none 0 0) [] ∧ Keeps (fun k => k = r) w (w.setCell ⟨r, 1, none⟩ (.slice none 0 0)) := by
  have hk := (h.set 1 (.slice none 0 0)).2
  refine ⟨⟨h.fr, h.fl, fun b hb => Nat.lt_of_lt_of_le (h.lt b hb) hk.size, (h.set 1 _).1.trans (by simp [dkCells]), h.last.other hk h.blk (by decide), h.llen, fun j hj => ?_, World.ownsRow_nil _ _ _ _, by simp [Value.ownBlock], by simp, ⟨h.ok.len, h.ok.lo, h.ok.hi, by simp, h.ok.fuse⟩⟩, hk⟩
  obtain ⟨g', c', e1, e2, e3⟩ := h.secs j hj
  exact ⟨g', c', e1, e2, e3.other hk h.blk (by decide)⟩

theorem rflush_fin {w wr : World} {F : Nat → Prop} {r s : Nat} {S : DS} {gl cl : Nat} {ls : List Value} {pv : Value} {xs : List Value} (h : RefRaw wr F r s { S with im := imUp S s S.puts.length } gl cl ls pv xs) (hk : Keeps F w wr) :
    wr.cell? ⟨r, 1, none⟩ = some pv ∧ wr.frozen? ⟨r, 1, none⟩ = false ∧ (wr.setCell ⟨r, 1, none⟩ (.slice none 0 0)).cell? ⟨r, 6, none⟩ = some (.int .i64 S.flushes) ∧ (wr.setCell ⟨r, 1, none⟩ (.slice none 0 0)).frozen? ⟨r, 6, none⟩ = false ∧
    Calls Tryz.prog 84 #[.pointer (some ⟨r, 0, none⟩)] ((wr.setCell ⟨r, 1, none⟩ (.slice none 0 0)).setCell ⟨r, 6, none⟩ (.int .i64 (wrap64 (S.flushes + 1)))) fun e w' => e = .returned (.tuple #[]) ∧ RefAt w' F r s ((S.flush s).spend) ∧ Keeps F w w' := by
  rw [imUp_all] at h
  obtain ⟨h1, hk1⟩ := h.dropped
  have h2 : RefRaw ((wr.setCell ⟨r, 1, none⟩ (.slice none 0 0)).setCell ⟨r, 6, none⟩ (.int .i64 (wrap64 (S.flushes + 1)))) F r s (S.flush s) gl cl ls (.slice none 0 0) [] :=
    h1.turn (h1.set 6 _).2 ((h1.set 6 _).1.trans (by simp [dkCells, DS.flush])) rfl rfl h1.ok.fuse
  refine ⟨cell_of_block h.blk (j := 1) rfl, frozen_of_block h.blk 1, cell_of_block h1.blk (j := 6) rfl, frozen_of_block h1.blk 6, (rspent_low r S.fuse _ (cell_of_block h2.blk (j := 2) rfl) (frozen_of_block h2.blk 2) h2.ok.fuse.1).mono ?_⟩
  rintro e w' ⟨rfl, rfl⟩
  have h5 := h2.spends
  exact ⟨rfl, ⟨gl, cl, ls, _, _, h5.1⟩, ((hk.trans hk1 (fun j hj => .inl (hj ▸ h.fr))).trans (h1.set 6 _).2 (fun j hj => .inl (hj ▸ h.fr))).trans h5.2 (fun j hj => .inl hj)⟩

set_option maxHeartbeats 4000000 in
set_option maxRecDepth 100000 in
theorem rflush_ok {w : World} {F : Nat → Prop} {r s : Nat} {S : DS} (hd : RefAt w F r s S) (hf : S.fuse ≠ 0) (hbig : S.puts.length + 1 ≤ 4000000000000) :
    Calls Tryz.prog 49 #[.pointer (some ⟨r, 0, none⟩)] w fun e w' => e = .returned (.int .i64 0) ∧ RefAt w' F r s ((S.flush s).spend) ∧ Keeps F w w' := by
  obtain ⟨gl, cl, ls, pv, xs, h⟩ := hd
  have c2 := cell_of_block h.blk (j := 2) rfl
  have hb : (S.fuse == 0) = false := by simp [hf]
  have hok := h.ok
  have h0 : RefRaw w F r s { S with im := imUp S s 0 } gl cl ls pv xs := by rw [imUp_zero h.ok]; exact h
  have Hok := Hid.mk hok
  clear h hf hok
  go_enter Tryz.func49, Tryz.ntmps49
  go_wp2
  clear c2
  go_loopw [3] (fun i wr => ∃ j : Nat, j ≤ S.puts.length ∧ i = .int .i64 (j : Int) ∧ ∃ ls, RefRaw wr F r s { S with im := imUp S s j } gl cl ls pv xs ∧ Keeps F w wr) (fun i _ => S.puts.length - (intOf i).toNat)
  case atStart => exact ⟨0, Nat.zero_le _, rfl, ls, h0, Keeps.refl _ _⟩
  case round =>
    clear h0
    obtain ⟨j, hj, rfl, ls, hd, hk⟩ := hrel
    obtain ⟨a, ca, hpv, hfo⟩ := hd.form
    have c0 := cell_of_block hd.blk (j := 0) rfl
    have c1 := cell_of_block hd.blk (j := 1) rfl
    rw [hpv] at c1
    have Hpv := Hid.mk hpv
    clear hpv
    by_cases hlt : j < S.puts.length
    · have hlt' : (j : Int) < (S.puts.length : Int) := by omega
      obtain ⟨gp, rfl, hp⟩ := hfo (by simp only; omega)
      obtain ⟨g, cg, p1, p2, hF, hr⟩ := hp j hlt
      have hks := (Hok.out.puts S.puts[j] (List.getElem_mem hlt)).1
      have hks' : ((S.puts[j].1 : Nat) : Int) < (s : Int) := by omega
      obtain ⟨q1, q2⟩ := hd.stored hks hF hr (imUp_len Hok.out (j + 1)) (imUp_succ Hok.out hlt)
      have fl := hd.last.frozen S.puts[j].1
      obtain ⟨gx, cx, hx1, _⟩ := hd.secs _ hks
      have cl0 := hd.last.cell hx1
      have hq := And.intro q1 (hk.trans q2 (fun b hb => .inl (hb ▸ hd.fl)))
      have hrl : r ≠ gl := fun e => hd.last.ne hd.blk (by decide) e.symm
      have hpl : gp ≠ gl := by
        have hb' := hd.last
        obtain ⟨cur, hbl, _⟩ := hb'
        exact ownsRow_ne hd.pend (by rw [Hpv.out]; rfl) hbl (by decide)
      have Hq := Hid.mk hq
      clear hq q1 q2 hp hr hd hfo hk hx1
      generalize S.puts[j].1 = kj at *
      have mo : ∀ b o v, b ≠ gl → (wr.setCell ⟨gl, kj, none⟩ v).cell? ⟨b, o, none⟩ = wr.cell? ⟨b, o, none⟩ := fun b o v hb => World.cell?_of_block (w := wr) (a := ⟨b, o, none⟩) (Below.heap_setCell wr ⟨gl, kj, none⟩ v b hb)
      have m0 := fun v => (mo r 0 v hrl).trans c0
      have m1 := fun v => (mo r 1 v hrl).trans c1
      have m2 := fun v => (mo gp (j * 2) v hpl).trans p1
      have m3 := fun v => (mo gp (j * 2 + 1) v hpl).trans p2
      have M := Hid.mk (And.intro m0 (And.intro m1 (And.intro m2 m3)))
      clear m0 m1 m2 m3 mo
      go_wp2_with fail
      go_region_held3 (fun w' => w'.cell? ⟨r, 0, none⟩ = some (.slice (some ⟨gl, 0, none⟩) s cl) ∧ w'.cell? ⟨r, 1, none⟩ = some (.slice (some ⟨gp, 0, none⟩) S.puts.length ca) ∧ w'.cell? ⟨gp, j * 2, none⟩ = some (.int .i64 (kj : Int)) ∧ w'.cell? ⟨gp, j * 2 + 1, none⟩ = some (.slice (some ⟨g, 0, none⟩) 512 cg)) (first | exact ⟨c0, c1, p1, p2⟩ | exact ⟨M.out.1 _, M.out.2.1 _, M.out.2.2.1 _, M.out.2.2.2 _⟩) (fail)
      all_goals
        go_wp2
        go_roundw
        case rel => exact ⟨j + 1, by omega, by go_num, _, Hq.out.1.agree (Nat.le_refl _) (fun _ _ => rfl), ⟨Hq.out.2.os, Hq.out.2.tape, Hq.out.2.output, Hq.out.2.size, Hq.out.2.block⟩⟩
        case measure => simp [intOf]; omega
    · have hlt' : ¬ (j : Int) < (S.puts.length : Int) := by omega
      have ej : j = S.puts.length := by omega
      rw [ej] at hd
      obtain ⟨d1, d2, d3, d4, hsp⟩ := rflush_fin hd hk
      rw [Hpv.out] at d1
      clear hd hk hfo ej
      go_wp2_with (go_at_call 84; refine hsp.mono ?_; rintro e w5 ⟨rfl, hd5, hk5⟩)
      go_ret
      exact ⟨rfl, hd5, hk5⟩
end Go.Proofs.YtijgdmhglnanjaaGreat
end

section
namespace Go.Proofs.YtijgdmhglnanjaaGreat
open Go.RowKit Go.Maps

/-- A list of candidates in memory. -/
def VS (w : World) (F : Nat → Prop) (S : DS) (k : Nat) (vs : List Value) : Prop :=
  vs.length = (pendOf S.puts k).length + 1 ∧ ∀ j, j < vs.length → ∃ g c, vs[j]? = some (.slice (some ⟨g, 0, none⟩) 512 c) ∧ F g ∧ RowAt w 5 g c (bs (S.cand k j))

theorem take_puts {S : DS} {i : Nat} (hi : i < S.puts.length) : S.puts.take (i + 1) = S.puts.take i ++ [S.puts[i]] := by rw [List.take_add_one, List.getElem?_eq_getElem hi]; rfl

theorem VS.skip {w : World} {F : Nat → Prop} {S : DS} {k i : Nat} {vs : List Value} (hi : i < S.puts.length) (h : VS w F { S with puts := S.puts.take i } k vs) (he : S.puts[i].1 ≠ k) : VS w F { S with puts := S.puts.take (i + 1) } k vs := by
  have hp : pendOf (S.puts.take (i + 1)) k = pendOf (S.puts.take i) k := by rw [take_puts hi, pendOf_append, pendOf_none (puts := [S.puts[i]]) (by simpa using he), List.append_nil]
  unfold VS DS.cand at *
  simp only [hp] at *
  exact h

theorem VS.snoc {w : World} {F : Nat → Prop} {S : DS} {k i : Nat} {vs : List Value} (hi : i < S.puts.length) (h : VS w F { S with puts := S.puts.take i } k vs) (he : S.puts[i].1 = k) {g c : Nat} (hF : F g) (hr : RowAt w 5 g c (bs S.puts[i].2)) :
    VS w F { S with puts := S.puts.take (i + 1) } k (vs ++ [.slice (some ⟨g, 0, none⟩) 512 c]) := by
  have hp : pendOf (S.puts.take (i + 1)) k = pendOf (S.puts.take i) k ++ [S.puts[i].2] := by rw [take_puts hi, pendOf_append]; simp [pendOf, he]
  obtain ⟨h1, h2⟩ := h
  simp only at h1
  refine ⟨by simp only [hp]; simp [h1], fun j hj => ?_⟩
  by_cases hj' : j < vs.length
  · obtain ⟨g', c', e1, e2, e3⟩ := h2 j hj'
    refine ⟨g', c', by rw [List.getElem?_append_left hj']; exact e1, e2, ?_⟩
    have : DS.cand { S with puts := S.puts.take (i + 1) } k j = DS.cand { S with puts := S.puts.take i } k j := by
      unfold DS.cand
      split
      · rfl
      · simp only [hp]
        rw [List.getD, List.getD, List.getElem?_append_left (by omega)]
    rw [this]
    exact e3
  · have ej : j = vs.length := by simp at hj; omega
    subst ej
    refine ⟨g, c, by simp, hF, ?_⟩
    have : DS.cand { S with puts := S.puts.take (i + 1) } k vs.length = S.puts[i].2 := by
      unfold DS.cand
      rw [if_neg (by omega)]
      simp only [hp, h1, Nat.add_sub_cancel]
      simp [List.getD]
    rw [this]
    exact hr

theorem VS.start {w : World} {F : Nat → Prop} {S : DS} {k g c : Nat} (hF : F g) (hr : RowAt w 5 g c (bs (dsec S.im k))) :
    VS w F { S with puts := S.puts.take 0 } k [.slice (some ⟨g, 0, none⟩) 512 c] := by
  refine ⟨by simp [pendOf], fun j hj => ?_⟩
  have : j = 0 := by simp at hj; omega
  subst this
  exact ⟨g, c, rfl, hF, hr⟩

set_option maxHeartbeats 2000000 in
theorem rcands_at {w : World} {F : Nat → Prop} {r s : Nat} {S : DS} {gl cl : Nat} {ls : List Value} {pv : Value} {xs : List Value} (h : RefRaw w F r s S gl cl ls pv xs) (k : Nat) (hk : k < s) (hbig : S.puts.length + 1 ≤ 4000000000000) :
    Calls Tryz.prog 56 #[.pointer (some ⟨r, 0, none⟩), .int .i64 (k : Int)] w fun e w' => ∃ g c vs, e = .returned (.slice (some ⟨g, 0, none⟩) ((pendOf S.puts k).length + 1) c) ∧ w.heap.size ≤ g ∧ RowAt w' 34 g c vs ∧ VS w F S k vs ∧ Below w.heap.size w w' := by
  obtain ⟨i0, hi0, hz0, hz1, hz2⟩ := info_parts infoRow
  obtain ⟨a, c, rfl, hpu⟩ := h.form
  have c0 := cell_of_block h.blk (j := 0) rfl
  have c1 := cell_of_block h.blk (j := 1) rfl
  obtain ⟨gs, cs, hls, hFs, hrs⟩ := h.secs k hk
  have cs0 := h.last.cell hls
  have hst := VS.start (S := S) hFs hrs
  have hrl := h.lt r h.fr
  have hgl := h.lt gl h.fl
  have Hpu := Hid.mk hpu
  have Hst := Hid.mk hst
  have hks : (k : Int) < (s : Int) := by omega
  clear h hpu hrs hls hst
  go_enter Tryz.func56, Tryz.ntmps56
  go_wp2
  go_loopw [5, 6] (fun v i wr => ∃ j : Nat, j ≤ S.puts.length ∧ i = .int .i64 (j : Int) ∧ ∃ vs, wr.ownsRow w.heap.size 34 1 v ((pendOf (S.puts.take j) k).length + 1) vs ∧ VS w F { S with puts := S.puts.take j } k vs ∧ Below w.heap.size w wr) (fun _ i _ => S.puts.length - (intOf i).toNat)
  case atStart =>
    refine ⟨0, Nat.zero_le _, rfl, _, ?_, Hst.out, (Below.refl _ w).alloc (Nat.le_refl _) _⟩
    exact ⟨by simp [pendOf], .inr ⟨w.heap.size, 1, #[.slice (some ⟨gs, 0, none⟩) 512 cs], by simp [pendOf], Nat.le_refl _, heap_alloc_new _ _, by simp [pendOf], by decide, by simp, by simp [pendOf]⟩⟩
  case round =>
    clear Hst cs0
    obtain ⟨j, hj, rfl, vs, hown, hvs, hb⟩ := hrel
    have d1 := cell_later hb c1
    by_cases hlt : j < S.puts.length
    · have hlt' : (j : Int) < (S.puts.length : Int) := by omega
      obtain ⟨gp, rfl, hp⟩ := Hpu.out (by omega)
      obtain ⟨g, cg, p1, p2, hF, hr⟩ := hp j hlt
      have q1 := cell_later hb p1
      have q2 := cell_later hb p2
      have hpl := pendOf_len (S.puts.take j) k
      have hpl2 : (S.puts.take j).length ≤ S.puts.length := by rw [List.length_take]; omega
      by_cases he : S.puts[j].1 = k
      · have hv2 := Hid.mk (VS.snoc hlt hvs he hF hr)
        have hp2 : (pendOf (S.puts.take (j + 1)) k).length = (pendOf (S.puts.take j) k).length + 1 := by rw [take_puts hlt, pendOf_append]; simp [pendOf, he]
        have Hp2 := Hid.mk hp2
        rw [he] at q1
        have Hown := Hid.mk hown
        clear hp hr hvs hp2 p1 p2 hown he
        go_wp2_with (at_builtin; refine wpList_append_own _ rfl _ _ 70 rfl w.heap.size 34 i0 (.slice none 0 0) 1 24 Tryz.underlying70 hi0 hz0 hz1 hz2 rfl (by decide) _ _ _ rfl (Hown.out.alloc _) ⟨wr.heap.size, 0, none⟩ 1 1 [.slice (some ⟨g, 0, none⟩) 512 cg] rfl rfl (cell_one_new _ _ _) (by intro u hu; simp at hu; subst hu; rfl) (by unfold maxLen; omega) (by omega) (by simp; have := hb.size; omega) ?_)
        intro v' w3 hown' hgrow hnil
        have hgr2 : ∀ b, u5.ownBlock = some b → w.heap.size ≤ b := fun b e => (Hown.out.lt b e).1
        have hb3 : Below w.heap.size w w3 := (hb.alloc hb.size _).grown hgrow (by simp; have := hb.size; omega) (fun b e => hgr2 b e)
        have hown2 : w3.ownsRow w.heap.size 34 1 v' ((pendOf (S.puts.take (j + 1)) k).length + 1) (vs ++ [.slice (some ⟨g, 0, none⟩) 512 cg]) := by rw [Hp2.out]; exact hown'
        have Hown2 := Hid.mk hown2
        clear hown' hgrow hnil hown2 Hown hgr2 q1 q2 d1
        go_wp2
        go_roundw
        case rel => exact ⟨j + 1, by omega, by go_num, _, Hown2.out, hv2.out, hb3⟩
        case measure => simp [intOf]; omega
      · have hne : (((S.puts[j].1 : Nat) : Int) == (k : Int)) = false := by rw [Bool.eq_false_iff, ne_eq, beq_iff_eq]; omega
        have hv2 := Hid.mk (VS.skip hlt hvs he)
        have hp2 : pendOf (S.puts.take (j + 1)) k = pendOf (S.puts.take j) k := by rw [take_puts hlt, pendOf_append, pendOf_none (puts := [S.puts[j]]) (by simpa using he), List.append_nil]
        rw [← hp2] at hown
        have Hown := Hid.mk hown
        clear hp hr hvs hp2 p1 p2 hown he q2
        go_wp2
        go_roundw
        case rel => exact ⟨j + 1, by omega, by go_num, _, Hown.out, hv2.out, hb⟩
        case measure => simp [intOf]; omega
    · have hlt' : ¬ (j : Int) < (S.puts.length : Int) := by omega
      have ej : j = S.puts.length := by omega
      subst ej
      rw [List.take_length] at hown hvs
      obtain ⟨g, cg, hv, hg, hr, _⟩ := RowAt.of_owns hown (by rintro rfl; rcases hown.2 with ⟨_, h⟩ | ⟨_, _, _, h, _⟩; omega; cases h)
      have Hq := Hid.mk (And.intro hg (And.intro hr hvs))
      subst hv
      clear hown hvs hr hg
      go_wp2
      go_ret
      exact ⟨g, cg, rfl, Hq.out.1, vs, Hq.out.2.1, Hq.out.2.2, hb⟩
theorem floor_low (x : Int) (y : Nat) (h : max x 0 = (y : Int)) (w : World) :
    Calls Tryz.prog 92 #[.int .i64 x] w fun e w' => e = .returned (.int .i64 (y : Int)) ∧ w' = w := by
  by_cases hx : x < 0
  · have hy : (y : Int) = 0 := by omega
    rw [hy]
    clear h hy
    go_enter Tryz.func92, Tryz.ntmps92
    go_wp2
    go_ret
    exact ⟨rfl, rfl⟩
  · have hy : (y : Int) = x := by omega
    rw [hy]
    clear h hy
    go_enter Tryz.func92, Tryz.ntmps92
    go_wp2
    go_ret
    exact ⟨rfl, rfl⟩

theorem splice_set (la lb : List Int) (j : Nat) (hla : j < la.length) (hlb : j < lb.length) : (la.take j ++ lb.drop j).set j la[j] = la.take (j + 1) ++ lb.drop (j + 1) := by
  have e1 : (la.take j).length = j := by rw [List.length_take]; omega
  have e2 : lb.drop j = lb[j] :: lb.drop (j + 1) := List.drop_eq_getElem_cons hlb
  have e3 : la.take (j + 1) = la.take j ++ [la[j]] := by rw [List.take_add_one, List.getElem?_eq_getElem hla]; rfl
  rw [List.set_append_right _ _ (by omega), e1, Nat.sub_self, e2, e3, List.set_cons_zero, List.append_assoc]
  rfl

set_option maxRecDepth 100000 in
set_option maxHeartbeats 2000000 in
theorem rtorn_at {w : World} {F : Nat → Prop} {S : DS} {k s : Nat} (hok : S.Ok s) (hks : k < s) {g c : Nat} {vs : List Value} (hr : RowAt w 34 g c vs) (hv : VS w F S k vs)
    (A B C : Int) (A' B' C' : Nat) (hA : max A 0 = (A' : Int)) (hB : max B 0 = (B' : Int)) (hC : max C 0 = (C' : Int)) (hAb : A ≤ 9223372036854775807) (hBb : B ≤ 9223372036854775807) (hCb : C ≤ 9223372036854775807) :
    Calls Tryz.prog 57 #[.slice (some ⟨g, 0, none⟩) ((pendOf S.puts k).length + 1) c, .agg #[.int .i64 A, .int .i64 B, .int .i64 C]] w fun e w' => ∃ g', e = .returned (.slice (some ⟨g', 0, none⟩) 512 512) ∧ w.heap.size ≤ g' ∧ RowAt w' 5 g' 512 (bs (tornOf S k A' B' C')) ∧ Below w.heap.size w w' := by
  have hpn := pendOf_len S.puts k
  have hvl := hv.1
  have hm1 : ∀ j : Nat, (j : Int) % (((pendOf S.puts k).length : Int) + 1) = ((j % ((pendOf S.puts k).length + 1) : Nat) : Int) := fun j => by push_cast; rfl
  have hm2 : ∀ j : Nat, j % ((pendOf S.puts k).length + 1) < (pendOf S.puts k).length + 1 := fun j => Nat.mod_lt _ (by omega)
  obtain ⟨ja, hja⟩ : ∃ ja, ja = A' % ((pendOf S.puts k).length + 1) := ⟨_, rfl⟩
  obtain ⟨jb, hjb⟩ : ∃ jb, jb = B' % ((pendOf S.puts k).length + 1) := ⟨_, rfl⟩
  have hja2 : ja < (pendOf S.puts k).length + 1 := hja ▸ hm2 A'
  have hjb2 : jb < (pendOf S.puts k).length + 1 := hjb ▸ hm2 B'
  have hmA := hm1 A'
  have hmB := hm1 B'
  rw [← hja] at hmA
  rw [← hjb] at hmB
  obtain ⟨ga, ca, ea, hFa, hra⟩ := hv.2 ja (by omega)
  obtain ⟨gb, cb, eb, hFb, hrb⟩ := hv.2 jb (by omega)
  have ka := hr.cell ea
  have kb := hr.cell eb
  have hgw := hr.lt
  have hla := DS.cand_len hok hks (j := ja) (by omega)
  have hlb := DS.cand_len hok hks (j := jb) (by omega)
  have hCm : (C' : Int) % 513 = ((C' % 513 : Nat) : Int) := by push_cast; rfl
  obtain ⟨cut, hcut⟩ : ∃ cut, cut = C' % 513 := ⟨_, rfl⟩
  rw [← hcut] at hCm
  have hcut2 : cut ≤ 512 := by omega
  have hfA := floor_low A A' hA
  have hfB := floor_low B B' hB
  have hfC := floor_low C C' hC
  have hA2 : (A' : Int) ≤ 9223372036854775807 := by omega
  have hB2 : (B' : Int) ≤ 9223372036854775807 := by omega
  have hC2 : (C' : Int) ≤ 9223372036854775807 := by omega
  have hja3 : (ja : Int) < ((pendOf S.puts k).length : Int) + 1 := by omega
  have hjb3 : (jb : Int) < ((pendOf S.puts k).length : Int) + 1 := by omega
  have hte : tornOf S k A' B' C' = (S.cand k ja).take cut ++ (S.cand k jb).drop cut := by unfold tornOf; rw [← hja, ← hjb, ← hcut]
  rw [hte]
  have Hra := Hid.mk hra
  have Hrb := Hid.mk hrb
  have Hla := Hid.mk hla
  have Hlb := Hid.mk hlb
  clear hA hB hC hAb hBb hCb hm1 hm2 hcut hja hjb hte hra hrb hr hv hvl ea eb hja2 hjb2 hla hlb
  generalize S.cand k ja = la at *
  generalize S.cand k jb = lb at *
  go_enter Tryz.func57, Tryz.ntmps57
  go_wp2_with fail
  refine (hfA _).mono ?_
  rintro e w1 ⟨rfl, hw⟩
  have hw' := hw.symm; subst hw'; clear hw
  go_wp2_with fail
  refine (hfB _).mono ?_
  rintro e w1 ⟨rfl, hw⟩
  have hw' := hw.symm; subst hw'; clear hw
  go_wp2_with fail
  refine (hfC _).mono ?_
  rintro e w1 ⟨rfl, hw⟩
  have hw' := hw.symm; subst hw'; clear hw
  have hsb : Src (w.alloc (.cells #[.int .i64 A, .int .i64 B, .int .i64 C] 89)) (some ⟨gb, 0, none⟩) 512 lb := by
    have := Hrb.out.src
    rw [Hlb.out] at this
    exact this.later ((Below.refl _ w).alloc (Nat.le_refl _) _)
  have htw := rtwin_any (some ⟨gb, 0, none⟩) 512 cb lb _ (by omega) hsb
  clear hsb
  go_wp2_with (go_at_call 77; refine htw.mono ?_; rintro e w2 ⟨g', rfl, hg', hr', hb'⟩)
  have hb2 : Below w.heap.size w w2 := ((Below.refl _ w).alloc (Nat.le_refl _) _).trans (hb'.mono (by simp))
  have hg2 : w.heap.size ≤ g' := by simp at hg'; omega
  have hf2 : w2.heap[g']? = some (.cells (bs (la.take 0 ++ lb.drop 0)).toArray 5 (0, 0)) := by simpa using hr'.full (by simp [bs, Hlb.out])
  have Hf2 := Hid.mk hf2
  clear hr' hb' hg' htw hf2 hfA hfB hfC ka kb
  go_loopw [9] (fun i wr => ∃ j : Nat, j ≤ cut ∧ i = .int .i64 (j : Int) ∧ wr.heap[g']? = some (.cells (bs (la.take j ++ lb.drop j)).toArray 5 (0, 0)) ∧ Below w.heap.size w wr) (fun i _ => cut - (intOf i).toNat)
  case atStart => exact ⟨0, Nat.zero_le _, rfl, Hf2.out, hb2⟩
  case round =>
    clear hb2 Hf2
    obtain ⟨j, hj, rfl, hh, hb⟩ := hrel
    have Hh := Hid.mk hh
    clear hh
    by_cases hlt : j < cut
    · have hlt' : (j : Int) < (cut : Int) := by omega
      have hj5 : (j : Int) < 512 := by omega
      have hja : j < la.length := by have := Hla.out; omega
      have hjb : j < lb.length := by have := Hlb.out; omega
      have ca1 : wr.cell? ⟨ga, j, none⟩ = some (.int .u8 la[j]) := by
        have := Hra.out.byte hja
        rw [addr_add, Nat.zero_add] at this
        have h2 := cell_later hb this
        simpa [List.getD, List.getElem?_eq_getElem hja] using h2
      have hlen : (la.take j ++ lb.drop j).length = 512 := by rw [List.length_append, List.length_take, List.length_drop]; have := Hla.out; have := Hlb.out; omega
      have cb1 : ∃ u, wr.cell? ⟨g', j, none⟩ = some u := ⟨_, cell_of_block Hh.out (j := j) (by simp only [List.getElem?_toArray]; exact List.getElem?_eq_getElem (by simp [bs]; have := Hla.out; have := Hlb.out; omega))⟩
      obtain ⟨u, cb1⟩ := cb1
      have fb1 := frozen_of_block Hh.out j
      have hh2 : (wr.setCell ⟨g', j, none⟩ (.int .u8 la[j])).heap[g']? = some (.cells (bs (la.take (j + 1) ++ lb.drop (j + 1))).toArray 5 (0, 0)) := by
        rw [heap_setCell_same _ _ _ _ _ _ Hh.out, ← splice_set la lb j hja hjb]
        simp [bs, List.map_set]
      have Hh2 := Hid.mk (And.intro hh2 (hb.setCell (p := ⟨g', j, none⟩) hg2 (.int .u8 la[j])))
      clear hh2 Hh hlen
      generalize la[j] = y at *
      go_wp2
      go_roundw
      case rel => exact ⟨j + 1, by omega, by go_num, Hh2.out.1, Hh2.out.2⟩
      case measure => simp [intOf]; omega
    · have hlt' : ¬ (j : Int) < (cut : Int) := by omega
      have ej : j = cut := by omega
      subst ej
      have hrr : RowAt wr 5 g' 512 (bs (la.take j ++ lb.drop j)) := by
        have hl5 : (bs (la.take j ++ lb.drop j)).length = 512 := by simp only [bs, List.length_map, List.length_append, List.length_take, List.length_drop]; have := Hla.out; have := Hlb.out; omega
        have := RowAt.of_full Hh.out (by rw [hl5]; decide)
        rw [hl5] at this
        exact this
      have Hrr := Hid.mk hrr
      clear hrr Hh
      go_wp2
      go_ret
      refine ⟨g', rfl, hg2, ?_, hb⟩
      have hx := Hrr.out
      simp only [bs, List.map_append, List.map_take, List.map_drop] at hx
      exact hx
end Go.Proofs.YtijgdmhglnanjaaGreat
end

section
namespace Go.Proofs.YtijgdmhglnanjaaGreat
open Go.RowKit Go.Maps

/-- The torn sectors as they wait to be laid home. -/
def Fresh (w : World) (F : Nat → Prop) (S : DS) (l : List P3) (ks : List Nat) (xs : List Value) : Prop :=
  xs.length = ks.length * 2 ∧ ∀ i (hi : i < ks.length), ∃ g, xs[2 * i]? = some (.int .i64 ((ks[i] : Nat) : Int)) ∧ xs[2 * i + 1]? = some (.slice (some ⟨g, 0, none⟩) 512 512) ∧ F g ∧ RowAt w 5 g 512 (bs (cutOf S l ks[i]))

theorem Fresh.snoc {w w' : World} {F G : Nat → Prop} {S : DS} {l : List P3} {ks : List Nat} {xs : List Value} (h : Fresh w F S l ks xs) (hF : ∀ k, F k → G k) (hb : ∀ b ys, F b → RowAt w 5 b 512 ys → RowAt w' 5 b 512 ys) {k g : Nat} (hG : G g) (hr : RowAt w' 5 g 512 (bs (cutOf S l k))) :
    Fresh w' G S l (ks ++ [k]) (xs ++ [.int .i64 (k : Int), .slice (some ⟨g, 0, none⟩) 512 512]) := by
  obtain ⟨h1, h2⟩ := h
  refine ⟨by simp [h1]; omega, fun i hi => ?_⟩
  by_cases hi' : i < ks.length
  · obtain ⟨g', e1, e2, e3, e4⟩ := h2 i hi'
    refine ⟨g', ?_, ?_, hF _ e3, ?_⟩
    · rw [List.getElem?_append_left (by omega), e1, List.getElem_append_left hi']
    · rw [List.getElem?_append_left (by omega), e2]
    · rw [List.getElem_append_left hi']; exact hb _ _ e3 e4
  · have ei : i = ks.length := by simp at hi; omega
    subst ei
    refine ⟨g, ?_, ?_, hG, ?_⟩
    · rw [List.getElem?_append_right (by omega), show 2 * ks.length - xs.length = 0 by omega]
      simp
    · rw [List.getElem?_append_right (by omega), show 2 * ks.length + 1 - xs.length = 1 by omega]
      simp
    · simpa using hr

theorem Fresh.agree {w w' : World} {F G : Nat → Prop} {S : DS} {l : List P3} {ks : List Nat} {xs : List Value} (h : Fresh w F S l ks xs) (hF : ∀ k, F k → G k) (hb : ∀ b ys, F b → RowAt w 5 b 512 ys → RowAt w' 5 b 512 ys) : Fresh w' G S l ks xs :=
  ⟨h.1, fun i hi => by obtain ⟨g, e1, e2, e3, e4⟩ := h.2 i hi; exact ⟨g, e1, e2, hF _ e3, hb _ _ e3 e4⟩⟩

theorem keysOf_skip {S : DS} {k : Nat} (h : pendOf S.puts k = []) : keysOf S (k + 1) = keysOf S k := by rw [keysOf_succ, if_pos h, List.append_nil]
theorem keysOf_take {S : DS} {k : Nat} (h : pendOf S.puts k ≠ []) : keysOf S (k + 1) = keysOf S k ++ [k] := by rw [keysOf_succ, if_neg h]

theorem keysOf_none {S : DS} (h : S.puts = []) (s : Nat) : keysOf S s = [] := by
  unfold keysOf
  rw [List.filter_eq_nil_iff]
  intro k _
  simp [h, pendOf]

/-- The crash's first loop, one sector: its candidates and the torn one. -/
theorem rcrash_torn {w wr wx : World} {F : Nat → Prop} {S : DS} {l : List P3} {k s : Nat} (hok : S.Ok s) (hks : k < s) (hp : pendOf S.puts k ≠ []) {g c : Nat} {vs : List Value} (hr : RowAt wr 34 g c vs) (hv : VS w F S k vs) (hlt : ∀ b, F b → b < w.heap.size) (hb : Below w.heap.size w wr) (hx : Below wr.heap.size wr wx)
    (A B C : Int) (hq : pickN l (keysOf S k).length = (A, B, C)) (hA : A ≤ 9223372036854775807) (hB : B ≤ 9223372036854775807) (hC : C ≤ 9223372036854775807) :
    Calls Tryz.prog 57 #[.slice (some ⟨g, 0, none⟩) ((pendOf S.puts k).length + 1) c, .agg #[.int .i64 A, .int .i64 B, .int .i64 C]] wx fun e w' => ∃ g', e = .returned (.slice (some ⟨g', 0, none⟩) 512 512) ∧ wx.heap.size ≤ g' ∧ RowAt w' 5 g' 512 (bs (cutOf S l k)) ∧ Below wx.heap.size wx w' := by
  have hbx : Below w.heap.size w wx := hb.trans (hx.mono hb.size)
  have hvx : VS wx F S k vs := ⟨hv.1, fun j hj => by obtain ⟨g', c', e1, e2, e3⟩ := hv.2 j hj; exact ⟨g', c', e1, e2, e3.agree (hbx.block g' (hlt g' e2))⟩⟩
  have e : cutOf S l k = tornOf S k (max A 0).toNat (max B 0).toNat (max C 0).toNat := by
    unfold cutOf tornBy
    rw [if_neg hp, hq]
  rw [e]
  exact rtorn_at hok hks (hr.agree (hx.block g hr.lt)) hvx A B C _ _ _ (by omega) (by omega) (by omega) hA hB hC

/-- The first loop's step, when a torn sector has joined the list. -/
theorem fresh_step {w wr w5 w6 : World} {S : DS} {l : List P3} {k : Nat} {v v' : Value} {ys : List Value} {o : Obj} (hb : Below w.heap.size w wr) (hb5 : Below wr.heap.size wr w5) (hown : wr.ownsRow w.heap.size 94 2 v (keysOf S k).length ys)
    (hfr : Fresh wr (fun b => w.heap.size ≤ b ∧ b < wr.heap.size) S l (keysOf S k) ys) (hp : pendOf S.puts k ≠ []) {g : Nat} (hg : wr.heap.size ≤ g) (hr : RowAt w5 5 g 512 (bs (cutOf S l k))) (hgrow : (w5.alloc o).grownBy w6 v.ownBlock)
    (hown' : w6.ownsRow w.heap.size 94 2 v' ((keysOf S k).length + 1) (ys ++ [.int .i64 (k : Int), .slice (some ⟨g, 0, none⟩) 512 512])) :
    w6.ownsRow w.heap.size 94 2 v' (keysOf S (k + 1)).length (ys ++ [.int .i64 (k : Int), .slice (some ⟨g, 0, none⟩) 512 512]) ∧ Fresh w6 (fun b => w.heap.size ≤ b ∧ b < w6.heap.size) S l (keysOf S (k + 1)) (ys ++ [.int .i64 (k : Int), .slice (some ⟨g, 0, none⟩) 512 512]) ∧ Below w.heap.size w w6 := by
  have hz := hb.size
  have hz5 := hb5.size
  have hzs : (w5.alloc o).heap.size = w5.heap.size + 1 := by simp
  have hz6 := hgrow.size
  have hgl := hr.lt
  have hown5 : w5.ownsRow w.heap.size 94 2 v (keysOf S k).length ys := ownsRow_agree hown (fun b e => hb5.block b (hown.lt b e).2)
  have keep : ∀ b ys, RowAt w5 5 b 512 ys → RowAt w6 5 b 512 ys := fun b zs hb' => by
    have h1 := hb'.lt
    refine hb'.agree ((hgrow.block b (by omega) (fun e => ?_)).trans (Below.heap_alloc _ _ _ h1))
    have hb2 := hb'
    obtain ⟨cur, hbb, _⟩ := hb2
    exact ownsRow_ne hown5 e.symm hbb (by decide) rfl
  refine ⟨by rw [keysOf_take hp]; simpa using hown', ?_, ?_⟩
  · rw [keysOf_take hp]
    exact hfr.snoc (fun b h => ⟨h.1, by omega⟩) (fun b zs h hr' => keep b zs (hr'.agree (hb5.block b h.2))) ⟨by omega, by omega⟩ (keep g _ hr)
  · exact ((hb.trans (hb5.mono hz)).alloc (by omega) o).grown hgrow (by omega) (fun b e => (hown.lt b e).1)

theorem fresh_skip {w wr w5 : World} {S : DS} {l : List P3} {k : Nat} {v : Value} {ys : List Value} (hb : Below w.heap.size w wr) (hb5 : Below wr.heap.size wr w5) (hown : wr.ownsRow w.heap.size 94 2 v (keysOf S k).length ys)
    (hfr : Fresh wr (fun b => w.heap.size ≤ b ∧ b < wr.heap.size) S l (keysOf S k) ys) (hp : pendOf S.puts k = []) :
    w5.ownsRow w.heap.size 94 2 v (keysOf S (k + 1)).length ys ∧ Fresh w5 (fun b => w.heap.size ≤ b ∧ b < w5.heap.size) S l (keysOf S (k + 1)) ys ∧ Below w.heap.size w w5 := by
  have hz5 := hb5.size
  rw [keysOf_skip hp]
  exact ⟨ownsRow_agree hown (fun b e => hb5.block b (hown.lt b e).2), hfr.agree (fun b h => ⟨h.1, by omega⟩) (fun b zs h hr' => hr'.agree (hb5.block b h.2)), hb.trans (hb5.mono hb.size)⟩

theorem rcrash_end {w wr : World} {F G : Nat → Prop} {r s : Nat} {S : DS} {gl cl : Nat} {ls : List Value} {pv : Value} {xs : List Value} {im : List Int} {l : List P3} (h : RefRaw wr G r s { S with im := im } gl cl ls pv xs) (he : im = imOf s (cutOf S l)) (hF : F r) (hk : Keeps F w wr) :
    wr.cell? ⟨r, 1, none⟩ = some pv ∧ wr.frozen? ⟨r, 1, none⟩ = false ∧ (wr.setCell ⟨r, 1, none⟩ (.slice none 0 0)).cell? ⟨r, 2, none⟩ = some (.int .i64 S.fuse) ∧ (wr.setCell ⟨r, 1, none⟩ (.slice none 0 0)).frozen? ⟨r, 2, none⟩ = false ∧
    ((wr.setCell ⟨r, 1, none⟩ (.slice none 0 0)).setCell ⟨r, 2, none⟩ (.int .i64 (-1))).cell? ⟨r, 3, none⟩ = some (.int .i64 S.life) ∧ ((wr.setCell ⟨r, 1, none⟩ (.slice none 0 0)).setCell ⟨r, 2, none⟩ (.int .i64 (-1))).frozen? ⟨r, 3, none⟩ = false ∧
    RefRaw (((wr.setCell ⟨r, 1, none⟩ (.slice none 0 0)).setCell ⟨r, 2, none⟩ (.int .i64 (-1))).setCell ⟨r, 3, none⟩ (.int .i64 (wrap64 (S.life + 1)))) G r s (S.crash s l) gl cl ls (.slice none 0 0) [] ∧
    Keeps F w (((wr.setCell ⟨r, 1, none⟩ (.slice none 0 0)).setCell ⟨r, 2, none⟩ (.int .i64 (-1))).setCell ⟨r, 3, none⟩ (.int .i64 (wrap64 (S.life + 1)))) := by
  subst he
  obtain ⟨h1, hk1⟩ := h.dropped
  have h2 : RefRaw ((wr.setCell ⟨r, 1, none⟩ (.slice none 0 0)).setCell ⟨r, 2, none⟩ (.int .i64 (-1))) G r s { S with im := imOf s (cutOf S l), puts := [], fuse := -1 } gl cl ls (.slice none 0 0) [] :=
    h1.turn (h1.set 2 _).2 ((h1.set 2 _).1.trans (by simp [dkCells])) rfl rfl (by simp)
  have h3 : RefRaw (((wr.setCell ⟨r, 1, none⟩ (.slice none 0 0)).setCell ⟨r, 2, none⟩ (.int .i64 (-1))).setCell ⟨r, 3, none⟩ (.int .i64 (wrap64 (S.life + 1)))) G r s (S.crash s l) gl cl ls (.slice none 0 0) [] :=
    h2.turn (h2.set 3 _).2 ((h2.set 3 _).1.trans (by simp [dkCells, DS.crash])) rfl rfl (by simp [DS.crash])
  exact ⟨cell_of_block h.blk (j := 1) rfl, frozen_of_block h.blk 1, cell_of_block h1.blk (j := 2) rfl, frozen_of_block h1.blk 2, cell_of_block h2.blk (j := 3) rfl, frozen_of_block h2.blk 3, h3,
    ((hk.trans hk1 (fun j hj => .inl (hj ▸ hF))).trans (h1.set 2 _).2 (fun j hj => .inl (hj ▸ hF))).trans (h2.set 3 _).2 (fun j hj => .inl (hj ▸ hF))⟩

/-- The cells of the list of torn sectors. -/
theorem fresh_cells {w wr : World} {G : Nat → Prop} {S : DS} {l : List P3} {ks : List Nat} {v : Value} {ys : List Value} {base : Nat} (hown : w.ownsRow base 94 2 v ks.length ys) (hfr : Fresh wr G S l ks ys) :
    ∃ a c, v = .slice a ks.length c ∧ (0 < ks.length → ∃ gf, a = some ⟨gf, 0, none⟩ ∧ base ≤ gf ∧ ∀ i (hi : i < ks.length), ∃ g, w.cell? ⟨gf, i * 2, none⟩ = some (.int .i64 ((ks[i] : Nat) : Int)) ∧ w.cell? ⟨gf, i * 2 + 1, none⟩ = some (.slice (some ⟨g, 0, none⟩) 512 512) ∧ G g ∧ RowAt wr 5 g 512 (bs (cutOf S l ks[i]))) := by
  have hp := hown
  obtain ⟨_, ⟨e, hn⟩ | ⟨gp, cap, cur, e, hg, _⟩⟩ := hown
  · exact ⟨none, 0, by rw [e, hn], fun h0 => by omega⟩
  · refine ⟨_, _, e, fun _ => ⟨gp, rfl, hg, fun i hi => ?_⟩⟩
    obtain ⟨g, h1, h2, h3, h4⟩ := hfr.2 i hi
    have k1 := hp.cells (g := gp) (by rw [e]; rfl) _ _ h1
    have k2 := hp.cells (g := gp) (by rw [e]; rfl) _ _ h2
    rw [addr_add, Nat.zero_add] at k1 k2
    exact ⟨g, by rw [Nat.mul_comm]; exact k1, by rw [Nat.mul_comm]; exact k2, h3, h4⟩

end Go.Proofs.YtijgdmhglnanjaaGreat
end
