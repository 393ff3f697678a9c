import Derived.Test.YtcofkdaakkfcfabRef1
namespace Go.Proofs.Ytcofkdaakkfcfab
open Go.RowKit Go.Maps

set_option maxHeartbeats 1000000 in
theorem rcounts_at {w : World} {F : Nat → Prop} {r s : Nat} {S : DS} (h : RefAt w F r s S) :
    Calls Try.prog 64 #[.pointer (some ⟨r, 0, none⟩)] w fun e w' => e = .returned (.agg (cnCells S.reads S.writes S.flushes S.refused S.puts.length)) ∧ Below w.heap.size w w' := by
  obtain ⟨gl, cl, ls, pv, xs, h⟩ := h
  have hrl := h.lt r h.fr
  have hpv : ∃ a c, pv = .slice a S.puts.length c := by
    obtain ⟨_, ⟨e, hn⟩ | ⟨g, cap, cur, e, _⟩⟩ := h.pend
    · exact ⟨none, 0, by rw [e, hn]⟩
    · exact ⟨_, _, e⟩
  obtain ⟨a, c, rfl⟩ := hpv
  have c1 := cell_of_block h.blk (j := 1) rfl
  have c4 := cell_of_block h.blk (j := 4) rfl
  have c5 := cell_of_block h.blk (j := 5) rfl
  have c6 := cell_of_block h.blk (j := 6) rfl
  have c7 := cell_of_block h.blk (j := 7) rfl
  have c8 := cell_of_block h.blk (j := 8) rfl
  clear h
  go_enter Try.func64, Try.ntmps64
  go_wp2
  refine bodyPost_ret (v := .agg (cnCells S.reads S.writes S.flushes S.refused S.puts.length)) (by simp [results, Try.results64, go_sem, cnCells]) rfl ⟨rfl, ?_⟩
  exact ((Below.refl _ w).alloc (Nat.le_refl _) _).alloc (by simp) _

theorem pendOf_append (a b : List (Nat × List Int)) (k : Nat) : pendOf (a ++ b) k = pendOf a k ++ pendOf b k := by simp [pendOf]

theorem pendOf_none {puts : List (Nat × List Int)} {k : Nat} (h : ∀ q ∈ puts, q.1 ≠ k) : pendOf puts k = [] := by
  unfold pendOf
  rw [List.map_eq_nil_iff, List.filter_eq_nil_iff]
  intro q hq
  have := h q hq
  simpa using this

/-- What the newest pending write of a sector is. -/
theorem now_last {S : DS} {k i : Nat} (hi : i < S.puts.length) (he : S.puts[i].1 = k) (hl : ∀ j (hj : j < S.puts.length), i < j → S.puts[j].1 ≠ k) : S.now k = S.puts[i].2 := by
  have h1 : S.puts = S.puts.take i ++ (S.puts[i] :: S.puts.drop (i + 1)) := by
    rw [← List.drop_eq_getElem_cons hi, List.take_append_drop]
  have h2 : pendOf (S.puts.drop (i + 1)) k = [] := pendOf_none (fun q hq => by
    obtain ⟨j, hj, rfl⟩ := List.mem_iff_getElem.1 hq
    rw [List.getElem_drop]
    exact hl _ (by simp at hj; omega) (by omega))
  have h3 : pendOf S.puts k = pendOf (S.puts.take i) k ++ [S.puts[i].2] := by
    conv => lhs; rw [h1]
    rw [pendOf_append, show S.puts[i] :: S.puts.drop (i + 1) = [S.puts[i]] ++ S.puts.drop (i + 1) from rfl, pendOf_append, h2]
    simp [pendOf, he]
  unfold DS.now DS.cand
  rw [h3]
  simp [List.getD]

theorem now_sec {S : DS} {k : Nat} (h : ∀ j (hj : j < S.puts.length), S.puts[j].1 ≠ k) : S.now k = sec S.im k := by
  apply now_none
  apply pendOf_none
  intro q hq
  obtain ⟨j, hj, rfl⟩ := List.mem_iff_getElem.1 hq
  exact h j hj

/-- The pending writes' cells. -/
theorem RefRaw.form {w : World} {F : Nat → Prop} {r s : Nat} {S : DS} {gl cl : Nat} {ls : List Value} {pv : Value} {xs : List Value} (h : RefRaw w F r s S gl cl ls pv xs) :
    ∃ a c, pv = .slice a S.puts.length c ∧ (0 < S.puts.length → ∃ gp, a = some ⟨gp, 0, none⟩ ∧ ∀ i (hi : i < S.puts.length), ∃ g cg, w.cell? ⟨gp, i * 2, none⟩ = some (.int .i64 ((S.puts[i].1 : Nat) : Int)) ∧ w.cell? ⟨gp, i * 2 + 1, none⟩ = some (.slice (some ⟨g, 0, none⟩) 512 cg) ∧ F g ∧ RowAt w 5 g cg (bs S.puts[i].2)) := by
  have hp := h.pend
  obtain ⟨_, ⟨e, hn⟩ | ⟨gp, cap, cur, e, _⟩⟩ := h.pend
  · exact ⟨none, 0, by rw [e, hn], fun h0 => by omega⟩
  · refine ⟨_, _, e, fun _ => ⟨gp, rfl, fun i hi => ?_⟩⟩
    obtain ⟨g, cg, h1, h2, h3, h4⟩ := h.puts i hi
    have k1 := hp.cells (g := gp) (by rw [e]; rfl) _ _ h1
    have k2 := hp.cells (g := gp) (by rw [e]; rfl) _ _ h2
    rw [addr_add, Nat.zero_add] at k1 k2
    exact ⟨g, cg, by rw [Nat.mul_comm]; exact k1, by rw [Nat.mul_comm]; exact k2, h3, h4⟩

set_option maxHeartbeats 1000000 in
theorem rnow_at {w : World} {F : Nat → Prop} {r s : Nat} {S : DS} (h : RefAt w F r s S) (k : Nat) (hk : k < s) (hbig : S.puts.length ≤ 5000000000000) :
    Calls Try.prog 57 #[.pointer (some ⟨r, 0, none⟩), .int .i64 (k : Int)] w fun e w' => ∃ g c, e = .returned (.slice (some ⟨g, 0, none⟩) 512 c) ∧ F g ∧ RowAt w 5 g c (bs (S.now k)) ∧ w' = w := by
  obtain ⟨gl, cl, ls, pv, xs, h⟩ := h
  obtain ⟨a, c, rfl, hpu⟩ := h.form
  have c0 := cell_of_block h.blk (j := 0) rfl
  have c1 := cell_of_block h.blk (j := 1) rfl
  obtain ⟨gs, cs, hls, hFs, hrs⟩ := h.secs k hk
  have cs0 := h.last.cell hls
  have Hpu := Hid.mk hpu
  have Hrs := Hid.mk hrs
  have hks : (k : Int) < (s : Int) := by omega
  clear h hpu hrs hls
  go_enter Try.func57, Try.ntmps57
  go_wp2
  go_loopw [5] (fun i wr => ∃ j : Nat, j ≤ S.puts.length ∧ i = .int .i64 ((j : Int) - 1) ∧ wr = w ∧ ∀ i (hi : i < S.puts.length), j ≤ i → S.puts[i].1 ≠ k) (fun i _ => (intOf i + 1).toNat)
  case atStart => exact ⟨S.puts.length, Nat.le_refl _, rfl, rfl, fun i hi h => by omega⟩
  case round =>
    obtain ⟨j, hj, rfl, rfl, hno⟩ := hrel
    have Hno := Hid.mk hno
    clear hno
    cases j with
    | zero =>
      have hneg : ¬ (0 : Int) ≤ ((0 : Nat) : Int) - 1 := by omega
      have hn := now_sec (S := S) (k := k) (fun j hj => Hno.out j hj (by omega))
      rw [← hn] at Hrs
      clear hn
      go_wp2
      go_ret
      exact ⟨gs, cs, rfl, hFs, Hrs.out, rfl⟩
    | succ j =>
      obtain ⟨gp, rfl, hp⟩ := Hpu.out (by omega)
      obtain ⟨g, cg, p1, p2, hF, hr⟩ := hp j (by omega)
      have Hr := Hid.mk hr
      clear hp hr
      by_cases he : S.puts[j].1 = k
      · have hn := now_last (S := S) (by omega) he (fun i hi h => Hno.out i hi (by omega))
        rw [he] at p1
        rw [← hn] at Hr
        clear hn
        go_wp2
        go_ret
        exact ⟨g, cg, rfl, hF, Hr.out, rfl⟩
      · have hne : (((S.puts[j].1 : Nat) : Int) == (k : Int)) = false := by rw [Bool.eq_false_iff, ne_eq, beq_iff_eq]; omega
        have hno2 : ∀ i (hi : i < S.puts.length), j ≤ i → S.puts[i].1 ≠ k := fun i hi h => by
          by_cases e : i = j
          · subst e; exact he
          · exact Hno.out i hi (by omega)
        have Hno2 := Hid.mk hno2
        clear hno2 Hno he Hr
        go_wp2
        go_roundw
        case rel => exact ⟨j, by omega, by go_num, trivial, Hno2.out⟩
        case measure => simp [intOf]

theorem rread_dead {w : World} {F : Nat → Prop} {r s : Nat} {S : DS} (h : RefAt w F r s S) (at_ : Int) (hf : S.fuse = 0) :
    Calls Try.prog 46 #[.pointer (some ⟨r, 0, none⟩), .int .i64 at_] w fun e w' => e = .returned (.tuple #[.slice none 0 0, .int .i64 3]) ∧ w' = w := by
  obtain ⟨gl, cl, ls, pv, xs, h⟩ := h
  have c2 := cell_of_block h.blk (j := 2) rfl
  have hb : (S.fuse == 0) = true := by simp [hf]
  clear h hf
  go_enter Try.func46, Try.ntmps46
  go_wp2
  go_ret2
  exact ⟨rfl, rfl⟩

theorem rread_range {w : World} {F : Nat → Prop} {r s : Nat} {S : DS} (h : RefAt w F r s S) (at_ : Int) (hf : S.fuse ≠ 0) (ha : at_ < 0 ∨ (s : Int) ≤ at_) :
    Calls Try.prog 46 #[.pointer (some ⟨r, 0, none⟩), .int .i64 at_] w fun e w' => e = .returned (.tuple #[.slice none 0 0, .int .i64 11]) ∧ RefAt w' F r s S.refuse ∧ Keeps F w w' := by
  obtain ⟨gl, cl, ls, pv, xs, h⟩ := h
  have c0 := cell_of_block h.blk (j := 0) rfl
  have c2 := cell_of_block h.blk (j := 2) rfl
  have c7 := cell_of_block h.blk (j := 7) rfl
  have f7 := frozen_of_block h.blk 7
  have hb : (S.fuse == 0) = false := by simp [hf]
  have Hq := Hid.mk (And.intro h.refused (Keeps.setCell (F := F) w (p := ⟨r, 7, none⟩) h.fr (.int .i64 (wrap64 (S.refused + 1)))))
  clear h hf
  rcases ha with ha | ha
  · go_enter Try.func46, Try.ntmps46
    go_wp2
    go_ret2
    exact ⟨rfl, ⟨gl, cl, ls, pv, xs, Hq.out.1⟩, Hq.out.2⟩
  · have ha0 : ¬ at_ < 0 := by omega
    go_enter Try.func46, Try.ntmps46
    go_wp2
    go_ret2
    exact ⟨rfl, ⟨gl, cl, ls, pv, xs, Hq.out.1⟩, Hq.out.2⟩

theorem RefRaw.reads {w : World} {F : Nat → Prop} {r s : Nat} {S : DS} {gl cl : Nat} {ls : List Value} {pv : Value} {xs : List Value} (h : RefRaw w F r s S gl cl ls pv xs) :
    RefRaw (w.setCell ⟨r, 4, none⟩ (.int .i64 (wrap64 (S.reads + 1)))) F r s S.read gl cl ls pv xs :=
  h.turn (h.set 4 _).2 ((h.set 4 _).1.trans (by simp [dkCells, DS.read])) rfl rfl h.ok.fuse

set_option maxHeartbeats 1000000 in
theorem rread_ok {w : World} {F : Nat → Prop} {r s : Nat} {S : DS} (h : RefAt w F r s S) (k : Nat) (hf : S.fuse ≠ 0) (hk : k < s) (hbig : S.puts.length ≤ 5000000000000) :
    Calls Try.prog 46 #[.pointer (some ⟨r, 0, none⟩), .int .i64 (k : Int)] w fun e w' => ∃ g, e = .returned (.tuple #[.slice (some ⟨g, 0, none⟩) 512 512, .int .i64 0]) ∧ w.heap.size ≤ g ∧ RowAt w' 5 g 512 (bs (S.now k)) ∧
      RefAt w' F r s S.read ∧ Keeps F w w' := by
  obtain ⟨gl, cl, ls, pv, xs, h⟩ := h
  have c0 := cell_of_block h.blk (j := 0) rfl
  have c2 := cell_of_block h.blk (j := 2) rfl
  have c4 := cell_of_block h.blk (j := 4) rfl
  have f4 := frozen_of_block h.blk 4
  have hb : (S.fuse == 0) = false := by simp [hf]
  have hd := h.reads
  have hkp : Keeps F w (w.setCell ⟨r, 4, none⟩ (.int .i64 (wrap64 (S.reads + 1)))) := Keeps.setCell w h.fr _
  have hsz : (w.setCell ⟨r, 4, none⟩ (.int .i64 (wrap64 (S.reads + 1)))).heap.size = w.heap.size := by simp [World.setCell]
  have hno := rnow_at ⟨gl, cl, ls, pv, xs, hd⟩ k hk hbig
  have hnl := now_len h.ok k hk
  have hk0 : ¬ (k : Int) < 0 := by omega
  have hk1 : ¬ (s : Int) ≤ (k : Int) := by omega
  have Hd := Hid.mk hd
  have Hk := Hid.mk hkp
  have Hs := Hid.mk hsz
  clear h hd hkp hsz hf
  go_enter Try.func46, Try.ntmps46
  go_wp2_with fail
  refine hno.mono ?_
  rintro e w1 ⟨g, c, rfl, hF, hr, hw⟩
  have hw' := hw.symm
  subst hw'
  have hsrc := hr.src
  rw [show (S.read.now k).length = 512 from hnl] at hsrc
  have htw := rtwin_any (some ⟨g, 0, none⟩) 512 c _ _ (by omega) hsrc
  clear hno hr hsrc hw
  go_wp2_with (go_at_call 55; refine htw.mono ?_; rintro e w2 ⟨g2, rfl, hg2, hr2, hb2⟩)
  have hdk : RefAt w2 F r s S.read := RefAt.keep ⟨gl, cl, ls, pv, xs, Hd.out⟩ (Keeps.of_below (fun _ => False) hb2) (fun _ _ h => h)
  have hke := Hk.out.trans (Keeps.of_below (fun _ => False) hb2) (fun _ h => h.elim)
  rw [Hs.out] at hg2
  go_ret2
  exact ⟨g2, rfl, hg2, hr2, hdk, hke⟩

end Go.Proofs.Ytcofkdaakkfcfab
