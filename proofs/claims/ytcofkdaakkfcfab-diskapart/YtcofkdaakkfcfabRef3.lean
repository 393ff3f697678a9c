import Derived.Test.YtcofkdaakkfcfabRef2
import Derived.Deep.RegionLaw
import Derived.BigRegion
namespace Go.Proofs.Ytcofkdaakkfcfab
open Go.RowKit Go.Maps

theorem infoPut : (Try.prog.info? 88).map (fun i => (i.zero, i.size, i.bytes)) = some (some (.agg #[.int .i64 0, .slice none 0 0]), 2, 32) := by kernel_rfl

theorem RefRaw.wrote {w w1 w2 : World} {F : Nat → Prop} {r s : Nat} {S : DS} {gl cl : Nat} {ls : List Value} {pv : Value} {xs : List Value} (h : RefRaw w F r s S gl cl ls pv xs) {k : Nat} (hk : k < s) {l : List Int} (hl : l.length = 512) {g cg g2 cap2 : Nat} {o : Obj}
    (hb1 : Below w.heap.size w w1) (hg : w.heap.size ≤ g) (hr : RowAt w1 5 g cg (bs l))
    (hown : w2.ownsRow 0 88 2 (.slice (some ⟨g2, 0, none⟩) (S.puts.length + 1) cap2) (S.puts.length + 1) (xs ++ [.int .i64 (k : Int), .slice (some ⟨g, 0, none⟩) 512 cg]))
    (hgrow : (w1.alloc o).grownBy w2 pv.ownBlock) (hat : pv.ownBlock = some g2 ∨ g2 = w1.heap.size + 1) :
    w2.heap[r]? = w.heap[r]? ∧ RefRaw (w2.setCell ⟨r, 1, none⟩ (.slice (some ⟨g2, 0, none⟩) (S.puts.length + 1) cap2)) (more F w (w2.setCell ⟨r, 1, none⟩ (.slice (some ⟨g2, 0, none⟩) (S.puts.length + 1) cap2))) r s (S.put k l) gl cl ls (.slice (some ⟨g2, 0, none⟩) (S.puts.length + 1) cap2) (xs ++ [.int .i64 (k : Int), .slice (some ⟨g, 0, none⟩) 512 cg]) ∧
      Keeps F w (w2.setCell ⟨r, 1, none⟩ (.slice (some ⟨g2, 0, none⟩) (S.puts.length + 1) cap2)) := by
  have hb2 : Below w.heap.size w (w1.alloc o) := hb1.alloc hb1.size o
  have hsz1 := hb1.size
  have hszs : (w1.alloc o).heap.size = w1.heap.size + 1 := by simp
  have hsz2 := hgrow.size
  have hrl := h.lt r h.fr
  have stay : ∀ b, b < w.heap.size → some b ≠ pv.ownBlock → w2.heap[b]? = w.heap[b]? := fun b hb hn => (hgrow.block b (by omega) hn).trans (hb2.block b hb)
  have rne : some r ≠ pv.ownBlock := fun e => ownsRow_ne h.pend e.symm h.blk (by decide) rfl
  have hr2 := stay r hrl rne
  have stayc : ∀ (b : Nat) (cur : Array Value) (e : TypeId) (fz : Nat × Nat), w.heap[b]? = some (Obj.cells cur e fz) → e ≠ 88 → w2.heap[b]? = w.heap[b]? := fun b cur e fz hb he =>
    stay b (Array.getElem?_eq_some_iff.1 hb).1 (fun e1 => ownsRow_ne h.pend e1.symm hb he rfl)
  have w3sz : (w2.setCell ⟨r, 1, none⟩ (.slice (some ⟨g2, 0, none⟩) (S.puts.length + 1) cap2)).heap.size = w2.heap.size := by simp [World.setCell]
  have other : ∀ b, b ≠ r → (w2.setCell ⟨r, 1, none⟩ (.slice (some ⟨g2, 0, none⟩) (S.puts.length + 1) cap2)).heap[b]? = w2.heap[b]? := fun b hb => Below.heap_setCell _ _ _ _ hb
  have st5 : ∀ b c ys, RowAt w 5 b c ys → RowAt (w2.setCell ⟨r, 1, none⟩ (.slice (some ⟨g2, 0, none⟩) (S.puts.length + 1) cap2)) 5 b c ys := fun b c ys hb => by
    have hne := hb.ne h.blk (by decide)
    have hb' := hb
    obtain ⟨cur, hbb, _⟩ := hb'
    exact hb.agree ((other b hne).trans (stayc b cur _ _ hbb (by decide)))
  have hgl := hr.lt
  have hgr : g ≠ r := by omega
  have hg2l : g2 < w2.heap.size := by
    obtain ⟨_, ⟨e, _⟩ | ⟨g', _, cur, e, _, hb, _⟩⟩ := hown
    · cases e
    · cases e; exact (Array.getElem?_eq_some_iff.1 hb).1
  have hg2r : g2 ≠ r := fun e => by
    rcases hat with h1 | h1
    · rw [e] at h1; exact rne h1.symm
    · omega
  refine ⟨hr2, ⟨.inl h.fr, .inl h.fl, fun b hb => ?_, ?_, ?_, h.llen, fun j hj => ?_, ?_, fun b hb => ?_, fun i hi => ?_, ⟨h.ok.len, h.ok.lo, h.ok.hi, fun q hq => ?_, h.ok.fuse⟩⟩, ?_⟩
  · rw [w3sz]
    rcases hb with hb | hb
    · have := h.lt b hb; omega
    · rw [w3sz] at hb; exact hb.2
  · rw [heap_setCell_same _ _ _ _ _ _ (hr2.trans h.blk)]
    simp [dkCells, DS.put]
  · have hne := h.last.ne h.blk (by decide)
    have hb' := h.last
    obtain ⟨cur, hbb, _⟩ := hb'
    exact h.last.agree ((other gl hne).trans (stayc gl cur _ _ hbb (by decide)))
  · obtain ⟨g', c', e1, e2, e3⟩ := h.secs j hj
    exact ⟨g', c', e1, .inl e2, st5 _ _ _ e3⟩
  · have : (S.put k l).puts.length = S.puts.length + 1 := by simp [DS.put]
    rw [this]
    exact ownsRow_agree hown (fun b hb => other b (fun e => by simp [Value.ownBlock] at hb; omega))
  · simp [Value.ownBlock] at hb
    subst hb
    rcases hat with h1 | h1
    · exact .inl (h.pvf g2 h1)
    · exact .inr ⟨by omega, by omega⟩
  · have hxl : xs.length = S.puts.length * 2 := h.pend.1
    by_cases hi' : i < S.puts.length
    · obtain ⟨g', c', e1, e2, e3, e4⟩ := h.puts i hi'
      refine ⟨g', c', ?_, ?_, .inl e3, ?_⟩
      · rw [List.getElem?_append_left (by omega), e1]
        simp [DS.put, List.getElem_append_left hi']
      · rw [List.getElem?_append_left (by omega), e2]
      · simp only [DS.put, List.getElem_append_left hi']
        exact st5 _ _ _ e4
    · have hi2 : i = S.puts.length := by simp [DS.put] at hi; omega
      subst hi2
      refine ⟨g, cg, ?_, ?_, .inr ⟨hg, by omega⟩, ?_⟩
      · rw [List.getElem?_append_right (by omega), show 2 * S.puts.length - xs.length = 0 by omega]
        simp [DS.put]
      · rw [List.getElem?_append_right (by omega), show 2 * S.puts.length + 1 - xs.length = 1 by omega]
        simp
      · have : RowAt (w2.setCell ⟨r, 1, none⟩ (.slice (some ⟨g2, 0, none⟩) (S.puts.length + 1) cap2)) 5 g cg (bs l) := by
          refine hr.agree ((other g hgr).trans ((hgrow.block g (by omega) (fun e => ?_)).trans (Below.heap_alloc _ _ _ hgl)))
          have := h.lt _ (h.pvf g e.symm)
          omega
        simpa [DS.put] using this
  · simp only [DS.put, List.mem_append, List.mem_singleton] at hq
    rcases hq with hq | rfl
    · exact h.ok.puts q hq
    · exact ⟨hk, hl⟩
  · refine ⟨hgrow.os.trans hb2.os, hgrow.tape.trans hb2.tape, hgrow.output.trans hb2.output, by omega, fun b hb hn => ?_⟩
    exact (other b (fun e => hn (e ▸ h.fr))).trans (stay b hb (fun e => hn (h.pvf b e.symm)))

/-- What Twin gives. -/
def TwR (w : World) (l : List Int) (v : Value) (w' : World) : Prop := ∃ g, v = .slice (some ⟨g, 0, none⟩) 512 512 ∧ w.heap.size ≤ g ∧ RowAt w' 5 g 512 (bs l) ∧ Below w.heap.size w w'

/-- A call of a Go function at a step of a region that draws its order. -/
theorem step_call {P : Program} {w : World} {ops : Array Oper} {o : Oper} {a : Act} {K : Act → World → Prop} {Q : Exit → Act → World → Prop} {E : Prop} (hgd : o.guard = none) (f : FuncId) (args : Array Value)
    (hen : (execOp a.eval o).run P w = .ok (.enter f args) w) (R : Value → World → Prop) (hc : Calls P f args w fun e w' => ∃ v, e = .returned v ∧ R v w') (h : ∀ v w', R v w' → K (a.put o.dst v) w') :
    if Region.wanted o (yielded ops a.tmps) = true then Oper.wp P o a w K Q else E := by
  have hw : Region.wanted o (yielded ops a.tmps) = true := by simp [Region.wanted, hgd]
  rw [if_pos hw]
  unfold Oper.wp
  rw [hen, Oper.upon_enter]
  refine hc.mono ?_
  rintro e w' ⟨v, rfl, hr⟩
  exact h v w' hr

theorem rwrite_dead {w : World} {F : Nat → Prop} {r s : Nat} {S : DS} (h : RefAt w F r s S) (at_ : Int) (a : Option Addr) (n c : Nat) (hf : S.fuse = 0) :
    Calls Try.prog 47 #[.pointer (some ⟨r, 0, none⟩), .int .i64 at_, .slice a n c] w fun e w' => e = .returned (.int .i64 3) ∧ w' = w := by
  obtain ⟨gl, cl, ls, pv, xs, h⟩ := h
  have c2 := cell_of_block h.blk (j := 2) rfl
  have hb : (S.fuse == 0) = true := by simp [hf]
  clear h hf
  go_enter Try.func47, Try.ntmps47
  go_wp2
  go_ret
  exact ⟨rfl, rfl⟩

theorem rwrite_range {w : World} {F : Nat → Prop} {r s : Nat} {S : DS} (h : RefAt w F r s S) (at_ : Int) (a0 : Option Addr) (n c : Nat) (hf : S.fuse ≠ 0) (ha : at_ < 0 ∨ (s : Int) ≤ at_) :
    Calls Try.prog 47 #[.pointer (some ⟨r, 0, none⟩), .int .i64 at_, .slice a0 n c] w fun e w' => e = .returned (.int .i64 11) ∧ RefAt w' F r s S.refuse ∧ Keeps F w w' := by
  obtain ⟨gl, cl, ls, pv, xs, h⟩ := h
  have c0 := cell_of_block h.blk (j := 0) rfl
  have c2 := cell_of_block h.blk (j := 2) rfl
  have c7 := cell_of_block h.blk (j := 7) rfl
  have f7 := frozen_of_block h.blk 7
  have hb : (S.fuse == 0) = false := by simp [hf]
  have Hq := Hid.mk (And.intro h.refused (Keeps.setCell (F := F) w (p := ⟨r, 7, none⟩) h.fr (.int .i64 (wrap64 (S.refused + 1)))))
  clear h hf
  rcases ha with ha | ha
  · go_enter Try.func47, Try.ntmps47
    go_wp2
    go_ret
    exact ⟨rfl, ⟨gl, cl, ls, pv, xs, Hq.out.1⟩, Hq.out.2⟩
  · have ha0 : ¬ at_ < 0 := by omega
    go_enter Try.func47, Try.ntmps47
    go_wp2
    go_ret
    exact ⟨rfl, ⟨gl, cl, ls, pv, xs, Hq.out.1⟩, Hq.out.2⟩

theorem rwrite_length {w : World} {F : Nat → Prop} {r s : Nat} {S : DS} (h : RefAt w F r s S) (k : Nat) (a0 : Option Addr) (n c : Nat) (hf : S.fuse ≠ 0) (hk : k < s) (hn : n ≠ 512) :
    Calls Try.prog 47 #[.pointer (some ⟨r, 0, none⟩), .int .i64 (k : Int), .slice a0 n c] w fun e w' => e = .returned (.int .i64 2) ∧ RefAt w' F r s S.refuse ∧ Keeps F w w' := by
  obtain ⟨gl, cl, ls, pv, xs, h⟩ := h
  have c0 := cell_of_block h.blk (j := 0) rfl
  have c2 := cell_of_block h.blk (j := 2) rfl
  have c7 := cell_of_block h.blk (j := 7) rfl
  have f7 := frozen_of_block h.blk 7
  have hb : (S.fuse == 0) = false := by simp [hf]
  have Hq := Hid.mk (And.intro h.refused (Keeps.setCell (F := F) w (p := ⟨r, 7, none⟩) h.fr (.int .i64 (wrap64 (S.refused + 1)))))
  have hne : ((n : Int) != 512) = true := by rw [bne_iff_ne]; omega
  have hk0 : ¬ (k : Int) < 0 := by omega
  have hk1 : ¬ (s : Int) ≤ (k : Int) := by omega
  clear h hf
  go_enter Try.func47, Try.ntmps47
  go_wp2
  go_ret
  exact ⟨rfl, ⟨gl, cl, ls, pv, xs, Hq.out.1⟩, Hq.out.2⟩

theorem RefRaw.wrotes {w : World} {F : Nat → Prop} {r s : Nat} {S : DS} {gl cl : Nat} {ls : List Value} {pv : Value} {xs : List Value} (h : RefRaw w F r s S gl cl ls pv xs) :
    RefRaw (w.setCell ⟨r, 5, none⟩ (.int .i64 (wrap64 (S.writes + 1)))) F r s S.wrote gl cl ls pv xs :=
  h.turn (h.set 5 _).2 ((h.set 5 _).1.trans (by simp [dkCells, DS.wrote])) rfl rfl h.ok.fuse

/-- The end of a Write. -/
theorem rwrite_fin {w w3 : World} {F : Nat → Prop} {r s : Nat} {S : DS} {gl cl : Nat} {ls : List Value} {pv : Value} {xs : List Value} (hF : F r) (h : RefRaw w3 (more F w w3) r s S gl cl ls pv xs) (hk : Keeps F w w3) :
    w3.cell? ⟨r, 5, none⟩ = some (.int .i64 S.writes) ∧ w3.frozen? ⟨r, 5, none⟩ = false ∧
    Calls Try.prog 58 #[.pointer (some ⟨r, 0, none⟩)] (w3.setCell ⟨r, 5, none⟩ (.int .i64 (wrap64 (S.writes + 1)))) fun e w' => e = .returned (.tuple #[]) ∧ RefAt w' (more F w w') r s S.wrote.spend ∧ Keeps F w w' := by
  have hd4 := h.wrotes
  have hk4 : Keeps F w (w3.setCell ⟨r, 5, none⟩ (.int .i64 (wrap64 (S.writes + 1)))) := hk.trans (Keeps.setCell (F := fun k => k = r) w3 (p := ⟨r, 5, none⟩) rfl _) (fun j hj => .inl (hj ▸ hF))
  have hsz : (w3.setCell ⟨r, 5, none⟩ (.int .i64 (wrap64 (S.writes + 1)))).heap.size = w3.heap.size := by simp [World.setCell]
  refine ⟨cell_of_block h.blk (j := 5) rfl, frozen_of_block h.blk 5, (rspent_low r S.fuse _ (cell_of_block hd4.blk (j := 2) rfl) (frozen_of_block hd4.blk 2) hd4.ok.fuse.1).mono ?_⟩
  rintro e w' ⟨rfl, rfl⟩
  obtain ⟨h5, _⟩ := hd4.spends
  have hk5 : Keeps (fun k => k = r) (w3.setCell ⟨r, 5, none⟩ (.int .i64 (wrap64 (S.writes + 1)))) (if 0 < S.fuse then (w3.setCell ⟨r, 5, none⟩ (.int .i64 (wrap64 (S.writes + 1)))).setCell ⟨r, 2, none⟩ (.int .i64 (wrap64 (S.fuse - 1))) else (w3.setCell ⟨r, 5, none⟩ (.int .i64 (wrap64 (S.writes + 1))))) := by
    split
    · exact Keeps.setCell (F := fun k => k = r) _ (p := ⟨r, 2, none⟩) rfl _
    · exact Keeps.refl _ _
  have hs5 : (if 0 < S.fuse then (w3.setCell ⟨r, 5, none⟩ (.int .i64 (wrap64 (S.writes + 1)))).setCell ⟨r, 2, none⟩ (.int .i64 (wrap64 (S.fuse - 1))) else (w3.setCell ⟨r, 5, none⟩ (.int .i64 (wrap64 (S.writes + 1))))).heap.size = w3.heap.size := by split <;> simp [World.setCell]
  refine ⟨rfl, ⟨gl, cl, ls, pv, xs, RefRaw.mono h5 (more_mono (by rw [hs5]; exact Nat.le_refl _)) (fun k hk' => ?_)⟩, hk4.trans hk5 (fun j hj => .inl (hj ▸ hF))⟩
  rw [hs5]
  rcases hk' with h' | h'
  · exact h.lt k (.inl h')
  · rw [hs5] at h'; exact h'.2

set_option maxHeartbeats 4000000 in
set_option maxRecDepth 100000 in
theorem rwrite_ok {w : World} {F : Nat → Prop} {r s : Nat} {S : DS} (hd : RefAt w F r s S) (k : Nat) (hk : k < s) (hf : S.fuse ≠ 0) (hbig : S.puts.length + 1 ≤ 4000000000000)
    (x : Addr) (c : Nat) (l : List Int) (hsrc : Src w (some x) 512 l) :
    Calls Try.prog 47 #[.pointer (some ⟨r, 0, none⟩), .int .i64 (k : Int), .slice (some x) 512 c] w fun e w' => e = .returned (.int .i64 0) ∧ RefAt w' (more F w w') r s ((S.put k l).wrote.spend) ∧ Keeps F w w' := by
  obtain ⟨gl, cl, ls, pv, xs, h⟩ := hd
  obtain ⟨i0, hi0, hz0, hz1, hz2⟩ := info_parts infoPut
  obtain ⟨a, ca, rfl, _⟩ := h.form
  have c0 := cell_of_block h.blk (j := 0) rfl
  have c1 := cell_of_block h.blk (j := 1) rfl
  have c2 := cell_of_block h.blk (j := 2) rfl
  have hb : (S.fuse == 0) = false := by simp [hf]
  have hk0 : ¬ (k : Int) < 0 := by omega
  have hk1 : ¬ (s : Int) ≤ (k : Int) := by omega
  have hrl := h.lt r h.fr
  have H := Hid.mk h
  have Hsrc := Hid.mk hsrc
  have hll := hsrc.1
  have hcell : ∀ wx : World, wx.heap[r]? = w.heap[r]? → wx.cell? ⟨r, 1, none⟩ = some (.slice a S.puts.length ca) := fun wx e => cell_of_block (e.trans H.out.blk) (j := 1) rfl
  have Hcell := Hid.mk hcell
  clear h hsrc hf hcell
  go_enter Try.func47, Try.ntmps47
  go_wp2_with fail
  have htw : Calls Try.prog 55 #[.slice (some x) 512 c] w.drew fun e w' => ∃ v, e = .returned v ∧ TwR w l v w' :=
    (rtwin_any (some x) 512 c l w.drew (by omega) Hsrc.out).mono (by rintro e w' ⟨g, rfl, h1, h2, h3⟩; exact ⟨_, rfl, g, rfl, h1, h2, ⟨h3.os, h3.tape, h3.output, h3.size, h3.block⟩⟩)
  have Htw := Hid.mk htw
  clear htw
  go_region_law
    (first
      | (refine step_call (by rfl) 55 #[.slice (some x) 512 c] (by simp [go_sem]) (TwR w l) Htw.out ?_; rintro _ w1 ⟨g, rfl, hg, hr, hb1⟩; have hr1 : w1.heap[r]? = w.heap[r]? := hb1.block r hrl; have k1 := Hcell.out w1 hr1; have k2 := fun o => Hcell.out (w1.alloc o) ((Below.heap_alloc w1 o r (Nat.lt_of_lt_of_le hrl hb1.size)).trans hr1))
      | (refine step_append_lies _ (by rfl) _ _ _ (by rfl) 0 88 i0 _ 2 32 Try.underlying84 hi0 hz0 hz1 hz2 rfl (by omega) (.slice a S.puts.length ca) S.puts.length xs (by rfl) (ownsRow_agree H.out.pend (fun g e => (Below.heap_alloc w1 _ _ (Nat.lt_of_lt_of_le (H.out.lt g (H.out.pvf g e)) hb1.size)).trans (hb1.block g (H.out.lt g (H.out.pvf g e)))))
          ⟨w1.heap.size, 0, none⟩ 1 1 [.int .i64 (k : Int), .slice (some ⟨g, 0, none⟩) 512 512] (by rfl) (by rfl) (World.news_of_block (cs := #[.int .i64 (k : Int), .slice (some ⟨g, 0, none⟩) 512 512]) (t := 88) (fr := (0, 0)) (heap_alloc_new w1 _)) (by simp [Value.oneCell']) (by omega) (by unfold maxLen; omega) (by omega) (Nat.zero_le _) (w1.heap.size + 1) (by simp) ?_; intro g2 cap2 w2 hown2 hgrow2 hat2 hlt2; obtain ⟨hr2, hd3, hk3⟩ := H.out.wrote hk hll hb1 hg hr hown2 hgrow2 hat2; have k3 := Hcell.out w2 hr2; have f3 := frozen_of_block (hr2.trans H.out.blk) 1))
  all_goals
    obtain ⟨c5, f5, hsp⟩ := rwrite_fin H.out.fr hd3 hk3
    clear hd3 hk3 hr hb1 hown2 hgrow2 hat2 hlt2 hr1 hr2 k1 k2 k3 f3 H Hsrc Hcell Htw
    go_wp2_with (go_at_call 58; refine hsp.mono ?_; rintro e w5 ⟨rfl, hd5, hk5⟩)
    go_ret
    exact ⟨rfl, hd5, hk5⟩
end Go.Proofs.Ytcofkdaakkfcfab
