import Derived.Test.YtcofkdaakkfcfabRef3
namespace Go.Proofs.Ytcofkdaakkfcfab
open Go.RowKit Go.Maps

theorem RowAt.stored {w : World} {e : TypeId} {g c : Nat} {xs : List Value} (h : RowAt w e g c xs) (k : Nat) (v : Value) : RowAt (w.setCell ⟨g, k, none⟩ v) e g c (xs.set k v) := by
  obtain ⟨cur, hb, hc, ht, hm⟩ := h
  refine ⟨_, heap_setCell_same _ _ _ _ _ _ hb, by simpa using hc, ?_, hm⟩
  rw [List.length_set, Array.toList_setIfInBounds, List.take_set, ht]

/-- One sector is written home. -/
theorem RefRaw.stored {w : World} {F : Nat → Prop} {r s : Nat} {S : DS} {gl cl : Nat} {ls : List Value} {pv : Value} {xs : List Value} (h : RefRaw w F r s S gl cl ls pv xs) {k : Nat} (hk : k < s) {g c : Nat} {l : List Int} (hF : F g) (hr : RowAt w 5 g c (bs l)) {im : List Int} (hl : im.length = s * 512)
    (hs : ∀ j, j < s → sec im j = if j = k then l else sec S.im j) :
    RefRaw (w.setCell ⟨gl, k, none⟩ (.slice (some ⟨g, 0, none⟩) 512 c)) F r s { S with im := im } gl cl (ls.set k (.slice (some ⟨g, 0, none⟩) 512 c)) pv xs ∧ Keeps (fun b => b = gl) w (w.setCell ⟨gl, k, none⟩ (.slice (some ⟨g, 0, none⟩) 512 c)) := by
  have hke : Keeps (fun b => b = gl) w (w.setCell ⟨gl, k, none⟩ (.slice (some ⟨g, 0, none⟩) 512 c)) := Keeps.setCell (F := fun b => b = gl) w (p := ⟨gl, k, none⟩) rfl _
  have hb' := h.last
  obtain ⟨cur, hbl, _⟩ := hb'
  refine ⟨⟨h.fr, h.fl, fun b hb => Nat.lt_of_lt_of_le (h.lt b hb) hke.size, (hke.block r (h.lt r h.fr) (fun e => h.last.ne h.blk (by decide) e.symm)).trans h.blk, h.last.stored k _, by rw [List.length_set]; exact h.llen, fun j hj => ?_,
    ownsRow_agree h.pend (fun b e => hke.block b (h.lt b (h.pvf b e)) (ownsRow_ne h.pend e hbl (by decide))), h.pvf, fun i hi => ?_, ⟨hl, h.ok.lo, h.ok.hi, h.ok.puts, h.ok.fuse⟩⟩, hke⟩
  · simp only [hs j hj]
    by_cases e : j = k
    · subst e
      rw [if_pos rfl]
      exact ⟨g, c, by rw [List.getElem?_set_self (by rw [h.llen]; exact hj)], hF, hr.other hke hbl (by decide)⟩
    · rw [if_neg e]
      obtain ⟨g', c', e1, e2, e3⟩ := h.secs j hj
      exact ⟨g', c', by rw [List.getElem?_set_ne (by omega)]; exact e1, e2, e3.other hke hbl (by decide)⟩
  · obtain ⟨g', c', e1, e2, e3, e4⟩ := h.puts i hi
    exact ⟨g', c', e1, e2, e3, e4.other hke hbl (by decide)⟩

/-- The image behind the first i pending writes. -/
def imUp (S : DS) (s i : Nat) : List Int := imOf s (DS.now { S with puts := S.puts.take i })

theorem ok_take {S : DS} {s : Nat} (h : S.Ok s) (i : Nat) : DS.Ok { S with puts := S.puts.take i } s := ⟨h.len, h.lo, h.hi, fun q hq => h.puts q (List.mem_of_mem_take hq), h.fuse⟩

theorem imUp_len {S : DS} {s : Nat} (h : S.Ok s) (i : Nat) : (imUp S s i).length = s * 512 := imOf_len s _ (now_len (ok_take h i))

theorem imUp_zero {S : DS} {s : Nat} (h : S.Ok s) : imUp S s 0 = S.im := by
  refine im_ext s (imUp_len h 0) h.len (fun k hk => ?_)
  unfold imUp
  rw [sec_imOf s _ (now_len (ok_take h 0)) k hk]
  exact now_none _ _ (by simp [pendOf])

theorem imUp_all {S : DS} {s : Nat} : imUp S s S.puts.length = imOf s S.now := by
  unfold imUp
  rw [List.take_length]

theorem imUp_succ {S : DS} {s : Nat} (h : S.Ok s) {i : Nat} (hi : i < S.puts.length) : ∀ j, j < s → sec (imUp S s (i + 1)) j = if j = S.puts[i].1 then S.puts[i].2 else sec (imUp S s i) j := fun j hj => by
  unfold imUp
  rw [sec_imOf s _ (now_len (ok_take h (i + 1))) j hj, sec_imOf s _ (now_len (ok_take h i)) j hj]
  have ht : S.puts.take (i + 1) = S.puts.take i ++ [S.puts[i]] := by rw [List.take_add_one, List.getElem?_eq_getElem hi]; rfl
  by_cases e : j = S.puts[i].1
  · rw [if_pos e]
    unfold DS.now DS.cand
    simp only [ht]
    rw [pendOf_append]
    simp [pendOf, e, List.getD]
  · rw [if_neg e]
    have hp : pendOf (S.puts.take (i + 1)) j = pendOf (S.puts.take i) j := by
      rw [ht, pendOf_append, pendOf_none (puts := [S.puts[i]]) (by simp; omega), List.append_nil]
    unfold DS.now DS.cand
    simp only [hp]

theorem rflush_dead {w : World} {F : Nat → Prop} {r s : Nat} {S : DS} (h : RefAt w F r s S) (hf : S.fuse = 0) :
    Calls Try.prog 48 #[.pointer (some ⟨r, 0, none⟩)] w fun e w' => e = .returned (.int .i64 3) ∧ w' = w := by
  obtain ⟨gl, cl, ls, pv, xs, h⟩ := h
  have c2 := cell_of_block h.blk (j := 2) rfl
  have hb : (S.fuse == 0) = true := by simp [hf]
  clear h hf
  go_enter Try.func48, Try.ntmps48
  go_wp2
  go_ret
  exact ⟨rfl, rfl⟩

/-- The pending list is let go. -/
theorem RefRaw.dropped {w : World} {F : Nat → Prop} {r s : Nat} {S : DS} {gl cl : Nat} {ls : List Value} {pv : Value} {xs : List Value} (h : RefRaw w F r s S gl cl ls pv xs) :
    RefRaw (w.setCell ⟨r, 1, none⟩ (.slice none 0 0)) F r s { S with puts := [] } gl cl ls (.slice none 0 0) [] ∧ Keeps (fun k => k = r) w (w.setCell ⟨r, 1, none⟩ (.slice none 0 0)) := by
  have hk := (h.set 1 (.slice none 0 0)).2
  refine ⟨⟨h.fr, h.fl, fun b hb => Nat.lt_of_lt_of_le (h.lt b hb) hk.size, (h.set 1 _).1.trans (by simp [dkCells]), h.last.other hk h.blk (by decide), h.llen, fun j hj => ?_, World.ownsRow_nil _ _ _ _, by simp [Value.ownBlock], by simp, ⟨h.ok.len, h.ok.lo, h.ok.hi, by simp, h.ok.fuse⟩⟩, hk⟩
  obtain ⟨g', c', e1, e2, e3⟩ := h.secs j hj
  exact ⟨g', c', e1, e2, e3.other hk h.blk (by decide)⟩

theorem rflush_fin {w wr : World} {F : Nat → Prop} {r s : Nat} {S : DS} {gl cl : Nat} {ls : List Value} {pv : Value} {xs : List Value} (h : RefRaw wr F r s { S with im := imUp S s S.puts.length } gl cl ls pv xs) (hk : Keeps F w wr) :
    wr.cell? ⟨r, 1, none⟩ = some pv ∧ wr.frozen? ⟨r, 1, none⟩ = false ∧ (wr.setCell ⟨r, 1, none⟩ (.slice none 0 0)).cell? ⟨r, 6, none⟩ = some (.int .i64 S.flushes) ∧ (wr.setCell ⟨r, 1, none⟩ (.slice none 0 0)).frozen? ⟨r, 6, none⟩ = false ∧
    Calls Try.prog 58 #[.pointer (some ⟨r, 0, none⟩)] ((wr.setCell ⟨r, 1, none⟩ (.slice none 0 0)).setCell ⟨r, 6, none⟩ (.int .i64 (wrap64 (S.flushes + 1)))) fun e w' => e = .returned (.tuple #[]) ∧ RefAt w' F r s ((S.flush s).spend) ∧ Keeps F w w' := by
  rw [imUp_all] at h
  obtain ⟨h1, hk1⟩ := h.dropped
  have h2 : RefRaw ((wr.setCell ⟨r, 1, none⟩ (.slice none 0 0)).setCell ⟨r, 6, none⟩ (.int .i64 (wrap64 (S.flushes + 1)))) F r s (S.flush s) gl cl ls (.slice none 0 0) [] :=
    h1.turn (h1.set 6 _).2 ((h1.set 6 _).1.trans (by simp [dkCells, DS.flush])) rfl rfl h1.ok.fuse
  refine ⟨cell_of_block h.blk (j := 1) rfl, frozen_of_block h.blk 1, cell_of_block h1.blk (j := 6) rfl, frozen_of_block h1.blk 6, (rspent_low r S.fuse _ (cell_of_block h2.blk (j := 2) rfl) (frozen_of_block h2.blk 2) h2.ok.fuse.1).mono ?_⟩
  rintro e w' ⟨rfl, rfl⟩
  have h5 := h2.spends
  exact ⟨rfl, ⟨gl, cl, ls, _, _, h5.1⟩, ((hk.trans hk1 (fun j hj => .inl (hj ▸ h.fr))).trans (h1.set 6 _).2 (fun j hj => .inl (hj ▸ h.fr))).trans h5.2 (fun j hj => .inl hj)⟩

set_option maxHeartbeats 4000000 in
set_option maxRecDepth 100000 in
theorem rflush_ok {w : World} {F : Nat → Prop} {r s : Nat} {S : DS} (hd : RefAt w F r s S) (hf : S.fuse ≠ 0) (hbig : S.puts.length + 1 ≤ 4000000000000) :
    Calls Try.prog 48 #[.pointer (some ⟨r, 0, none⟩)] w fun e w' => e = .returned (.int .i64 0) ∧ RefAt w' F r s ((S.flush s).spend) ∧ Keeps F w w' := by
  obtain ⟨gl, cl, ls, pv, xs, h⟩ := hd
  have c2 := cell_of_block h.blk (j := 2) rfl
  have hb : (S.fuse == 0) = false := by simp [hf]
  have hok := h.ok
  have h0 : RefRaw w F r s { S with im := imUp S s 0 } gl cl ls pv xs := by rw [imUp_zero h.ok]; exact h
  have Hok := Hid.mk hok
  clear h hf hok
  go_enter Try.func48, Try.ntmps48
  go_wp2
  clear c2
  go_loopw [3] (fun i wr => ∃ j : Nat, j ≤ S.puts.length ∧ i = .int .i64 (j : Int) ∧ ∃ ls, RefRaw wr F r s { S with im := imUp S s j } gl cl ls pv xs ∧ Keeps F w wr) (fun i _ => S.puts.length - (intOf i).toNat)
  case atStart => exact ⟨0, Nat.zero_le _, rfl, ls, h0, Keeps.refl _ _⟩
  case round =>
    clear h0
    obtain ⟨j, hj, rfl, ls, hd, hk⟩ := hrel
    obtain ⟨a, ca, hpv, hfo⟩ := hd.form
    have c0 := cell_of_block hd.blk (j := 0) rfl
    have c1 := cell_of_block hd.blk (j := 1) rfl
    rw [hpv] at c1
    have Hpv := Hid.mk hpv
    clear hpv
    by_cases hlt : j < S.puts.length
    · have hlt' : (j : Int) < (S.puts.length : Int) := by omega
      obtain ⟨gp, rfl, hp⟩ := hfo (by simp only; omega)
      obtain ⟨g, cg, p1, p2, hF, hr⟩ := hp j hlt
      have hks := (Hok.out.puts S.puts[j] (List.getElem_mem hlt)).1
      have hks' : ((S.puts[j].1 : Nat) : Int) < (s : Int) := by omega
      obtain ⟨q1, q2⟩ := hd.stored hks hF hr (imUp_len Hok.out (j + 1)) (imUp_succ Hok.out hlt)
      have fl := hd.last.frozen S.puts[j].1
      obtain ⟨gx, cx, hx1, _⟩ := hd.secs _ hks
      have cl0 := hd.last.cell hx1
      have hq := And.intro q1 (hk.trans q2 (fun b hb => .inl (hb ▸ hd.fl)))
      have hrl : r ≠ gl := fun e => hd.last.ne hd.blk (by decide) e.symm
      have hpl : gp ≠ gl := by
        have hb' := hd.last
        obtain ⟨cur, hbl, _⟩ := hb'
        exact ownsRow_ne hd.pend (by rw [Hpv.out]; rfl) hbl (by decide)
      have Hq := Hid.mk hq
      clear hq q1 q2 hp hr hd hfo hk hx1
      generalize S.puts[j].1 = kj at *
      have mo : ∀ b o v, b ≠ gl → (wr.setCell ⟨gl, kj, none⟩ v).cell? ⟨b, o, none⟩ = wr.cell? ⟨b, o, none⟩ := fun b o v hb => World.cell?_of_block (w := wr) (a := ⟨b, o, none⟩) (Below.heap_setCell wr ⟨gl, kj, none⟩ v b hb)
      have m0 := fun v => (mo r 0 v hrl).trans c0
      have m1 := fun v => (mo r 1 v hrl).trans c1
      have m2 := fun v => (mo gp (j * 2) v hpl).trans p1
      have m3 := fun v => (mo gp (j * 2 + 1) v hpl).trans p2
      have M := Hid.mk (And.intro m0 (And.intro m1 (And.intro m2 m3)))
      clear m0 m1 m2 m3 mo
      go_wp2_with fail
      go_region_held3 (fun w' => w'.cell? ⟨r, 0, none⟩ = some (.slice (some ⟨gl, 0, none⟩) s cl) ∧ w'.cell? ⟨r, 1, none⟩ = some (.slice (some ⟨gp, 0, none⟩) S.puts.length ca) ∧ w'.cell? ⟨gp, j * 2, none⟩ = some (.int .i64 (kj : Int)) ∧ w'.cell? ⟨gp, j * 2 + 1, none⟩ = some (.slice (some ⟨g, 0, none⟩) 512 cg)) (first | exact ⟨c0, c1, p1, p2⟩ | exact ⟨M.out.1 _, M.out.2.1 _, M.out.2.2.1 _, M.out.2.2.2 _⟩) (fail)
      all_goals
        go_wp2
        go_roundw
        case rel => exact ⟨j + 1, by omega, by go_num, _, Hq.out.1.agree (Nat.le_refl _) (fun _ _ => rfl), ⟨Hq.out.2.os, Hq.out.2.tape, Hq.out.2.output, Hq.out.2.size, Hq.out.2.block⟩⟩
        case measure => simp [intOf]; omega
    · have hlt' : ¬ (j : Int) < (S.puts.length : Int) := by omega
      have ej : j = S.puts.length := by omega
      rw [ej] at hd
      obtain ⟨d1, d2, d3, d4, hsp⟩ := rflush_fin hd hk
      rw [Hpv.out] at d1
      clear hd hk hfo ej
      go_wp2_with (go_at_call 58; refine hsp.mono ?_; rintro e w5 ⟨rfl, hd5, hk5⟩)
      go_ret
      exact ⟨rfl, hd5, hk5⟩
end Go.Proofs.Ytcofkdaakkfcfab
