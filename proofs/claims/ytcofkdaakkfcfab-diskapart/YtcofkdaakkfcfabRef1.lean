import Derived.Test.YtcofkdaakkfcfabSmall
namespace Go.Proofs.Ytcofkdaakkfcfab
open Go.RowKit Go.Maps

set_option maxHeartbeats 2000000 in
theorem rtwin_any (a : Option Addr) (n c : Nat) (l : List Int) (w : World) (hn : n ≤ 140737488355328) (hs : Src w a n l) :
    Calls Try.prog 55 #[.slice a n c] w fun e w' => ∃ g, e = .returned (.slice (some ⟨g, 0, none⟩) n n) ∧ w.heap.size ≤ g ∧ RowAt w' 5 g n (bs l) ∧ Below w.heap.size w w' := by
  obtain ⟨i0, hi, hz0, hz1, hz2⟩ := info_parts infoU8
  have H := Hid.mk hs
  clear hs
  go_enter Try.func55, Try.ntmps55
  go_wp2_with (at_make; refine wpList_make_full _ rfl _ _ 22 rfl w.heap.size 5 i0 (.int .u8 0) 1 Try.underlying22 hi hz0 hz1 _ _ _ _ n rfl rfl ?c1 ?c2 ?c3 ?c4 ?c5 ?_)
  case c1 => rfl
  case c2 => rfl
  case c3 => rw [hz2]; omega
  case c4 => unfold maxLen; omega
  case c5 => exact Nat.le_refl _
  intro w1 hown hgrow
  have hr := made_row hown
  have hb : Below w.heap.size w w1 := (Below.refl _ w).grown hgrow (Nat.le_refl _) (by intro k hk; cases hk)
  have hf := hr.full (by simp [bs])
  have hs1 := H.out.later hb
  have hl := H.out.1
  clear hown hgrow
  obtain ⟨w2, hrun, hh, hk, _⟩ := copy_run w1 3 (some ⟨w.heap.size, 0, none⟩) w.heap.size 0 n n a n c (bs (List.replicate n 0)) l hf hs1 (fun _ => rfl) (by simp [bs])
  have hb2 : Below w.heap.size w w2 := hb.trans (hk.below (fun k h => by omega) hb.size)
  have hr2 : RowAt w2 5 w.heap.size n (bs l) := by
    have e : splice (bs (List.replicate n 0)) 0 (bs (l.take n)) = bs l := by
      rw [List.take_of_length_le (by omega)]
      simp [splice, bs]; omega
    rw [e] at hh
    have := RowAt.of_full hh (by simp [bs, maxLen]; omega)
    simpa [bs, hl] using this
  clear hh hf hr hs1 hb hk
  go_wp2
  go_ret
  exact ⟨w.heap.size, rfl, Nat.le_refl _, hr2, hb2⟩

/-- The document's disk in memory. -/
structure RefRaw (w : World) (F : Nat → Prop) (r s : Nat) (S : DS) (gl cl : Nat) (ls : List Value) (pv : Value) (xs : List Value) : Prop where
  fr : F r
  fl : F gl
  lt : ∀ k, F k → k < w.heap.size
  blk : w.heap[r]? = some (.cells (dkCells (.slice (some ⟨gl, 0, none⟩) s cl) pv S.fuse S.life S.reads S.writes S.flushes S.refused) 86 (0, 0))
  last : RowAt w 22 gl cl ls
  llen : ls.length = s
  secs : ∀ k, k < s → ∃ g c, ls[k]? = some (.slice (some ⟨g, 0, none⟩) 512 c) ∧ F g ∧ RowAt w 5 g c (bs (sec S.im k))
  pend : w.ownsRow 0 88 2 pv S.puts.length xs
  pvf : ∀ g, pv.ownBlock = some g → F g
  puts : ∀ i (hi : i < S.puts.length), ∃ g c, xs[2 * i]? = some (.int .i64 ((S.puts[i].1 : Nat) : Int)) ∧ xs[2 * i + 1]? = some (.slice (some ⟨g, 0, none⟩) 512 c) ∧ F g ∧ RowAt w 5 g c (bs S.puts[i].2)
  ok : S.Ok s

def RefAt (w : World) (F : Nat → Prop) (r s : Nat) (S : DS) : Prop := ∃ gl cl ls pv xs, RefRaw w F r s S gl cl ls pv xs

theorem ownsRow_agree {w w' : World} {base : Nat} {e : TypeId} {size : Nat} {v : Value} {n : Nat} {xs : List Value} (h : w.ownsRow base e size v n xs) (hb : ∀ g, v.ownBlock = some g → w'.heap[g]? = w.heap[g]?) : w'.ownsRow base e size v n xs := by
  obtain ⟨hl, h | ⟨g, cap, cur, rfl, hg, hbk, h1⟩⟩ := h
  · exact ⟨hl, .inl h⟩
  · exact ⟨hl, .inr ⟨g, cap, cur, rfl, hg, (hb g rfl).trans hbk, h1⟩⟩

theorem RefRaw.agree {w w' : World} {F : Nat → Prop} {r s : Nat} {S : DS} {gl cl : Nat} {ls : List Value} {pv : Value} {xs : List Value} (h : RefRaw w F r s S gl cl ls pv xs) (hs : w.heap.size ≤ w'.heap.size) (hb : ∀ k, F k → w'.heap[k]? = w.heap[k]?) : RefRaw w' F r s S gl cl ls pv xs := by
  refine ⟨h.fr, h.fl, fun k hk => Nat.lt_of_lt_of_le (h.lt k hk) hs, (hb r h.fr).trans h.blk, h.last.agree (hb gl h.fl), h.llen, fun k hk => ?_, ownsRow_agree h.pend (fun g e => hb g (h.pvf g e)), h.pvf, fun i hi => ?_, h.ok⟩
  · obtain ⟨g, c, h1, h2, h3⟩ := h.secs k hk
    exact ⟨g, c, h1, h2, h3.agree (hb g h2)⟩
  · obtain ⟨g, c, h1, h2, h3, h4⟩ := h.puts i hi
    exact ⟨g, c, h1, h2, h3, h4.agree (hb g h3)⟩

theorem RefAt.lt {w : World} {F : Nat → Prop} {r s : Nat} {S : DS} (h : RefAt w F r s S) : ∀ k, F k → k < w.heap.size := by obtain ⟨gl, cl, ls, pv, xs, h⟩ := h; exact h.lt
theorem RefAt.ok {w : World} {F : Nat → Prop} {r s : Nat} {S : DS} (h : RefAt w F r s S) : S.Ok s := by obtain ⟨gl, cl, ls, pv, xs, h⟩ := h; exact h.ok
theorem RefAt.keep {w w' : World} {F G : Nat → Prop} {r s : Nat} {S : DS} (h : RefAt w F r s S) (k : Keeps G w w') (hd : ∀ k, F k → ¬ G k) : RefAt w' F r s S := by
  obtain ⟨gl, cl, ls, pv, xs, h⟩ := h
  exact ⟨gl, cl, ls, pv, xs, h.agree k.size (fun j hj => k.block j (h.lt j hj) (hd j hj))⟩

theorem RefRaw.mono {w : World} {F G : Nat → Prop} {r s : Nat} {S : DS} {gl cl : Nat} {ls : List Value} {pv : Value} {xs : List Value} (h : RefRaw w F r s S gl cl ls pv xs) (hG : ∀ k, F k → G k) (hl : ∀ k, G k → k < w.heap.size) : RefRaw w G r s S gl cl ls pv xs :=
  ⟨hG _ h.fr, hG _ h.fl, hl, h.blk, h.last, h.llen, fun k hk => by obtain ⟨g, c, h1, h2, h3⟩ := h.secs k hk; exact ⟨g, c, h1, hG _ h2, h3⟩, h.pend, fun g e => hG _ (h.pvf g e), fun i hi => by
    obtain ⟨g, c, h1, h2, h3, h4⟩ := h.puts i hi; exact ⟨g, c, h1, h2, hG _ h3, h4⟩, h.ok⟩

theorem ownsRow_ne {w : World} {base : Nat} {e e' : TypeId} {size : Nat} {v : Value} {n g q : Nat} {xs : List Value} {cur : Array Value} {fz : Nat × Nat} (h : w.ownsRow base e size v n xs) (hv : v.ownBlock = some g) (hq : w.heap[q]? = some (.cells cur e' fz)) (he : e' ≠ e) : g ≠ q := by
  obtain ⟨_, ⟨rfl, _⟩ | ⟨g', cap, cur', rfl, _, hb, _⟩⟩ := h
  · simp [Value.ownBlock] at hv
  · simp [Value.ownBlock] at hv
    intro e1
    rw [hv, e1, hq] at hb
    simp at hb
    exact he hb.2.1

/-- Where the struct's own cells alone have turned. -/
theorem RefRaw.turn {w w' : World} {F : Nat → Prop} {r s : Nat} {S S' : DS} {gl cl : Nat} {ls : List Value} {pv : Value} {xs : List Value} (h : RefRaw w F r s S gl cl ls pv xs) (hk : Keeps (fun k => k = r) w w')
    (hb : w'.heap[r]? = some (.cells (dkCells (.slice (some ⟨gl, 0, none⟩) s cl) pv S'.fuse S'.life S'.reads S'.writes S'.flushes S'.refused) 86 (0, 0))) (h1 : S'.im = S.im) (h2 : S'.puts = S.puts) (h3 : -1 ≤ S'.fuse ∧ S'.fuse ≤ 9223372036854775807) :
    RefRaw w' F r s S' gl cl ls pv xs := by
  refine ⟨h.fr, h.fl, fun k hf => Nat.lt_of_lt_of_le (h.lt k hf) hk.size, hb, h.last.other hk h.blk (by decide), h.llen, fun k hk' => ?_, ?_, h.pvf, ?_, ⟨?_, h.ok.lo, h.ok.hi, ?_, h3⟩⟩
  · obtain ⟨g, c, e1, e2, e3⟩ := h.secs k hk'
    rw [h1]
    exact ⟨g, c, e1, e2, e3.other hk h.blk (by decide)⟩
  · rw [h2]
    exact ownsRow_agree h.pend (fun g e => hk.block g (h.lt g (h.pvf g e)) (ownsRow_ne h.pend e h.blk (by decide)))
  · rw [h2]
    intro i hi
    obtain ⟨g, c, e1, e2, e3, e4⟩ := h.puts i hi
    exact ⟨g, c, e1, e2, e3, e4.other hk h.blk (by decide)⟩
  · rw [h1]; exact h.ok.len
  · rw [h2]; exact h.ok.puts

theorem RefRaw.set {w : World} {F : Nat → Prop} {r s : Nat} {S : DS} {gl cl : Nat} {ls : List Value} {pv : Value} {xs : List Value} (h : RefRaw w F r s S gl cl ls pv xs) (i : Nat) (v : Value) :
    (w.setCell ⟨r, i, none⟩ v).heap[r]? = some (.cells ((dkCells (.slice (some ⟨gl, 0, none⟩) s cl) pv S.fuse S.life S.reads S.writes S.flushes S.refused).setIfInBounds i v) 86 (0, 0)) ∧ Keeps (fun k => k = r) w (w.setCell ⟨r, i, none⟩ v) :=
  ⟨heap_setCell_same _ _ _ _ _ _ h.blk, Keeps.setCell (F := fun k => k = r) w (p := ⟨r, i, none⟩) rfl v⟩

theorem RefRaw.refused {w : World} {F : Nat → Prop} {r s : Nat} {S : DS} {gl cl : Nat} {ls : List Value} {pv : Value} {xs : List Value} (h : RefRaw w F r s S gl cl ls pv xs) :
    RefRaw (w.setCell ⟨r, 7, none⟩ (.int .i64 (wrap64 (S.refused + 1)))) F r s S.refuse gl cl ls pv xs :=
  h.turn (h.set 7 _).2 ((h.set 7 _).1.trans (by simp [dkCells, DS.refuse])) rfl rfl h.ok.fuse

theorem rsectors_at {w : World} {F : Nat → Prop} {r s : Nat} {S : DS} (h : RefAt w F r s S) :
    Calls Try.prog 65 #[.pointer (some ⟨r, 0, none⟩)] w fun e w' => e = .returned (.int .i64 s) ∧ w' = w := by
  obtain ⟨gl, cl, ls, pv, xs, h⟩ := h
  have c0 := cell_of_block h.blk (j := 0) rfl
  clear h
  go_enter Try.func65, Try.ntmps65
  go_wp2
  go_ret
  exact ⟨rfl, rfl⟩

theorem rburnt_at {w : World} {F : Nat → Prop} {r s : Nat} {S : DS} (h : RefAt w F r s S) :
    Calls Try.prog 61 #[.pointer (some ⟨r, 0, none⟩)] w fun e w' => e = .returned (.bool (S.fuse == 0)) ∧ w' = w := by
  obtain ⟨gl, cl, ls, pv, xs, h⟩ := h
  have c2 := cell_of_block h.blk (j := 2) rfl
  clear h
  go_enter Try.func61, Try.ntmps61
  go_wp2
  go_ret
  exact ⟨rfl, rfl⟩

theorem rlife_at {w : World} {F : Nat → Prop} {r s : Nat} {S : DS} (h : RefAt w F r s S) :
    Calls Try.prog 62 #[.pointer (some ⟨r, 0, none⟩)] w fun e w' => e = .returned (.int .i64 S.life) ∧ w' = w := by
  obtain ⟨gl, cl, ls, pv, xs, h⟩ := h
  have c3 := cell_of_block h.blk (j := 3) rfl
  clear h
  go_enter Try.func62, Try.ntmps62
  go_wp2
  go_ret
  exact ⟨rfl, rfl⟩

theorem rtake_at {w : World} {F : Nat → Prop} {r s : Nat} {S : DS} (h : RefAt w F r s S) :
    Calls Try.prog 51 #[.pointer (some ⟨r, 0, none⟩)] w fun e w' => e = .returned (.int .i64 (wrap64 (S.life + 1))) ∧ RefAt w' F r s S.take ∧ Keeps F w w' := by
  obtain ⟨gl, cl, ls, pv, xs, h⟩ := h
  have c3 := cell_of_block h.blk (j := 3) rfl
  have f3 := frozen_of_block h.blk 3
  have hq : RefAt (w.setCell ⟨r, 3, none⟩ (.int .i64 (wrap64 (S.life + 1)))) F r s S.take ∧ Keeps F w (w.setCell ⟨r, 3, none⟩ (.int .i64 (wrap64 (S.life + 1)))) :=
    ⟨⟨gl, cl, ls, pv, xs, h.turn (h.set 3 _).2 ((h.set 3 _).1.trans (by simp [dkCells, DS.take])) rfl rfl h.ok.fuse⟩, Keeps.setCell w h.fr _⟩
  have Hq := Hid.mk hq
  clear h hq
  go_enter Try.func51, Try.ntmps51
  go_wp2
  go_ret
  exact ⟨rfl, Hq.out⟩

theorem twice_setCell (w : World) (b o : Nat) (v u : Value) : (w.setCell ⟨b, o, none⟩ v).setCell ⟨b, o, none⟩ u = w.setCell ⟨b, o, none⟩ u := by
  unfold World.setCell
  congr 1
  apply Array.ext_getElem?
  intro i
  simp only [Array.getElem?_modify]
  by_cases e : b = i
  · subst e
    simp only [if_true]
    cases w.heap[b]? with
    | none => rfl
    | some ob => cases ob <;> simp
  · simp [e]

theorem rfuse_at {w : World} {F : Nat → Prop} {r s : Nat} {S : DS} (h : RefAt w F r s S) (calls : Int) (hc : calls ≤ 9223372036854775807) :
    Calls Try.prog 49 #[.pointer (some ⟨r, 0, none⟩), .int .i64 calls] w fun e w' => e = .returned (.tuple #[]) ∧ RefAt w' F r s (S.lay calls) ∧ Keeps F w w' := by
  obtain ⟨gl, cl, ls, pv, xs, h⟩ := h
  have c2 := cell_of_block h.blk (j := 2) rfl
  have f2 := frozen_of_block h.blk 2
  by_cases hf : S.fuse = 0
  · have hb : (S.fuse == 0) = true := by simp [hf]
    have hq : RefAt w F r s (S.lay calls) := by simp only [DS.lay, hf, if_true]; exact ⟨gl, cl, ls, pv, xs, h⟩
    have Hq := Hid.mk hq
    clear h hq hf
    go_enter Try.func49, Try.ntmps49
    go_wp2
    exact bodyPost_ret (results_none rfl _ _ _) rfl ⟨rfl, Hq.out, Keeps.refl _ _⟩
  · have hb : (S.fuse == 0) = false := by simp [hf]
    have hq : ∀ v, v = max calls (-1) → RefAt (w.setCell ⟨r, 2, none⟩ (.int .i64 v)) F r s (S.lay calls) ∧ Keeps F w (w.setCell ⟨r, 2, none⟩ (.int .i64 v)) := fun v hv => by
      subst hv
      simp only [DS.lay, hf, if_false]
      exact ⟨⟨gl, cl, ls, pv, xs, h.turn (h.set 2 _).2 ((h.set 2 _).1.trans (by simp [dkCells])) rfl rfl (by simp only; omega)⟩, Keeps.setCell w h.fr _⟩
    have hkk : Keeps F w (w.setCell ⟨r, 2, none⟩ (.int .i64 calls)) := Keeps.setCell w h.fr _
    have hss : ∀ v u, (w.setCell ⟨r, 2, none⟩ v).setCell ⟨r, 2, none⟩ u = w.setCell ⟨r, 2, none⟩ u := fun v u => twice_setCell w r 2 v u
    have Hq := Hid.mk hq
    clear h hq
    by_cases hneg : calls < 0
    · go_enter Try.func49, Try.ntmps49
      go_wp2
      go_end0
      exact ⟨rfl, Hq.out (-1) (by omega)⟩
    · go_enter Try.func49, Try.ntmps49
      go_wp2
      go_end0
      exact ⟨rfl, Hq.out calls (by omega)⟩

theorem rspent_low (r : Nat) (fuse : Int) (w : World) (c2 : w.cell? ⟨r, 2, none⟩ = some (.int .i64 fuse)) (f2 : w.frozen? ⟨r, 2, none⟩ = false) (hf : -1 ≤ fuse) :
    Calls Try.prog 58 #[.pointer (some ⟨r, 0, none⟩)] w fun e w' => e = .returned (.tuple #[]) ∧ w' = if 0 < fuse then w.setCell ⟨r, 2, none⟩ (.int .i64 (wrap64 (fuse - 1))) else w := by
  by_cases h : 0 < fuse
  · go_enter Try.func58, Try.ntmps58
    go_wp2
    go_end0
    exact ⟨rfl, rfl⟩
  · go_enter Try.func58, Try.ntmps58
    go_wp2
    go_end0
    exact ⟨rfl, rfl⟩

theorem RefRaw.spends {w : World} {F : Nat → Prop} {r s : Nat} {S : DS} {gl cl : Nat} {ls : List Value} {pv : Value} {xs : List Value} (h : RefRaw w F r s S gl cl ls pv xs) :
    RefRaw (if 0 < S.fuse then w.setCell ⟨r, 2, none⟩ (.int .i64 (wrap64 (S.fuse - 1))) else w) F r s S.spend gl cl ls pv xs ∧ Keeps F w (if 0 < S.fuse then w.setCell ⟨r, 2, none⟩ (.int .i64 (wrap64 (S.fuse - 1))) else w) := by
  have hl := h.ok.fuse
  by_cases hp : 0 < S.fuse
  · rw [if_pos hp]
    have e : wrap64 (S.fuse - 1) = S.fuse - 1 := by unfold wrap64; omega
    refine ⟨h.turn (h.set 2 _).2 ((h.set 2 _).1.trans ?_) rfl rfl ?_, Keeps.setCell w h.fr _⟩
    · rw [e]
      simp [dkCells, DS.spend, hp]
    · simp only [DS.spend, if_pos hp]; omega
  · rw [if_neg hp]
    have e : S.spend = S := by simp [DS.spend, hp]
    rw [e]
    exact ⟨h, Keeps.refl _ _⟩

end Go.Proofs.Ytcofkdaakkfcfab
