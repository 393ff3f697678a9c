import Derived.Test.YtnolpafdkaloeaaW02
import Derived.Deep.RegionLaw
import Derived.BigRegion
section
namespace Go.Proofs.Ytnolpafdkaloeaa
open Go.RowKit Go.Maps

set_option maxHeartbeats 2000000 in
theorem rtwin_any (a : Option Addr) (n c : Nat) (l : List Int) (w : World) (hn : n ≤ 140737488355328) (hs : Src w a n l) :
    Calls Try.prog 72 #[.slice a n c] w fun e w' => ∃ g, e = .returned (.slice (some ⟨g, 0, none⟩) n n) ∧ w.heap.size ≤ g ∧ RowAt w' 5 g n (bs l) ∧ Below w.heap.size w w' := by
  obtain ⟨i0, hi, hz0, hz1, hz2⟩ := info_parts infoU8
  have H := Hid.mk hs
  clear hs
  go_enter Try.func72, Try.ntmps72
  go_wp2_with (at_make; refine wpList_make_full _ rfl _ _ 22 rfl w.heap.size 5 i0 (.int .u8 0) 1 Try.underlying22 hi hz0 hz1 _ _ _ _ n rfl rfl ?c1 ?c2 ?c3 ?c4 ?c5 ?_)
  case c1 => rfl
  case c2 => rfl
  case c3 => rw [hz2]; omega
  case c4 => unfold maxLen; omega
  case c5 => exact Nat.le_refl _
  intro w1 hown hgrow
  have hr := made_row hown
  have hb : Below w.heap.size w w1 := (Below.refl _ w).grown hgrow (Nat.le_refl _) (by intro k hk; cases hk)
  have hf := hr.full (by simp [bs])
  have hs1 := H.out.later hb
  have hl := H.out.1
  clear hown hgrow
  obtain ⟨w2, hrun, hh, hk, _⟩ := copy_run w1 3 (some ⟨w.heap.size, 0, none⟩) w.heap.size 0 n n a n c (bs (List.replicate n 0)) l hf hs1 (fun _ => rfl) (by simp [bs])
  have hb2 : Below w.heap.size w w2 := hb.trans (hk.below (fun k h => by omega) hb.size)
  have hr2 : RowAt w2 5 w.heap.size n (bs l) := by
    have e : splice (bs (List.replicate n 0)) 0 (bs (l.take n)) = bs l := by
      rw [List.take_of_length_le (by omega)]
      simp [splice, bs]; omega
    rw [e] at hh
    have := RowAt.of_full hh (by simp [bs, maxLen]; omega)
    simpa [bs, hl] using this
  clear hh hf hr hs1 hb hk
  go_wp2
  go_ret
  exact ⟨w.heap.size, rfl, Nat.le_refl _, hr2, hb2⟩

/-- The document's disk in memory. -/
structure RefRaw (w : World) (F : Nat → Prop) (r s : Nat) (S : DS) (gl cl : Nat) (ls : List Value) (pv : Value) (xs : List Value) : Prop where
  fr : F r
  fl : F gl
  lt : ∀ k, F k → k < w.heap.size
  blk : w.heap[r]? = some (.cells (dkCells (.slice (some ⟨gl, 0, none⟩) s cl) pv S.fuse S.life S.reads S.writes S.flushes S.refused) 119 (0, 0))
  last : RowAt w 22 gl cl ls
  llen : ls.length = s
  secs : ∀ k, k < s → ∃ g c, ls[k]? = some (.slice (some ⟨g, 0, none⟩) 512 c) ∧ F g ∧ RowAt w 5 g c (bs (sec S.im k))
  pend : w.ownsRow 0 122 2 pv S.puts.length xs
  pvf : ∀ g, pv.ownBlock = some g → F g
  puts : ∀ i (hi : i < S.puts.length), ∃ g c, xs[2 * i]? = some (.int .i64 ((S.puts[i].1 : Nat) : Int)) ∧ xs[2 * i + 1]? = some (.slice (some ⟨g, 0, none⟩) 512 c) ∧ F g ∧ RowAt w 5 g c (bs S.puts[i].2)
  ok : S.Ok s

def RefAt (w : World) (F : Nat → Prop) (r s : Nat) (S : DS) : Prop := ∃ gl cl ls pv xs, RefRaw w F r s S gl cl ls pv xs

theorem ownsRow_agree {w w' : World} {base : Nat} {e : TypeId} {size : Nat} {v : Value} {n : Nat} {xs : List Value} (h : w.ownsRow base e size v n xs) (hb : ∀ g, v.ownBlock = some g → w'.heap[g]? = w.heap[g]?) : w'.ownsRow base e size v n xs := by
  obtain ⟨hl, h | ⟨g, cap, cur, rfl, hg, hbk, h1⟩⟩ := h
  · exact ⟨hl, .inl h⟩
  · exact ⟨hl, .inr ⟨g, cap, cur, rfl, hg, (hb g rfl).trans hbk, h1⟩⟩

theorem RefRaw.agree {w w' : World} {F : Nat → Prop} {r s : Nat} {S : DS} {gl cl : Nat} {ls : List Value} {pv : Value} {xs : List Value} (h : RefRaw w F r s S gl cl ls pv xs) (hs : w.heap.size ≤ w'.heap.size) (hb : ∀ k, F k → w'.heap[k]? = w.heap[k]?) : RefRaw w' F r s S gl cl ls pv xs := by
  refine ⟨h.fr, h.fl, fun k hk => Nat.lt_of_lt_of_le (h.lt k hk) hs, (hb r h.fr).trans h.blk, h.last.agree (hb gl h.fl), h.llen, fun k hk => ?_, ownsRow_agree h.pend (fun g e => hb g (h.pvf g e)), h.pvf, fun i hi => ?_, h.ok⟩
  · obtain ⟨g, c, h1, h2, h3⟩ := h.secs k hk
    exact ⟨g, c, h1, h2, h3.agree (hb g h2)⟩
  · obtain ⟨g, c, h1, h2, h3, h4⟩ := h.puts i hi
    exact ⟨g, c, h1, h2, h3, h4.agree (hb g h3)⟩

theorem RefAt.lt {w : World} {F : Nat → Prop} {r s : Nat} {S : DS} (h : RefAt w F r s S) : ∀ k, F k → k < w.heap.size := by obtain ⟨gl, cl, ls, pv, xs, h⟩ := h; exact h.lt
theorem RefAt.ok {w : World} {F : Nat → Prop} {r s : Nat} {S : DS} (h : RefAt w F r s S) : S.Ok s := by obtain ⟨gl, cl, ls, pv, xs, h⟩ := h; exact h.ok
theorem RefAt.keep {w w' : World} {F G : Nat → Prop} {r s : Nat} {S : DS} (h : RefAt w F r s S) (k : Keeps G w w') (hd : ∀ k, F k → ¬ G k) : RefAt w' F r s S := by
  obtain ⟨gl, cl, ls, pv, xs, h⟩ := h
  exact ⟨gl, cl, ls, pv, xs, h.agree k.size (fun j hj => k.block j (h.lt j hj) (hd j hj))⟩

theorem RefRaw.mono {w : World} {F G : Nat → Prop} {r s : Nat} {S : DS} {gl cl : Nat} {ls : List Value} {pv : Value} {xs : List Value} (h : RefRaw w F r s S gl cl ls pv xs) (hG : ∀ k, F k → G k) (hl : ∀ k, G k → k < w.heap.size) : RefRaw w G r s S gl cl ls pv xs :=
  ⟨hG _ h.fr, hG _ h.fl, hl, h.blk, h.last, h.llen, fun k hk => by obtain ⟨g, c, h1, h2, h3⟩ := h.secs k hk; exact ⟨g, c, h1, hG _ h2, h3⟩, h.pend, fun g e => hG _ (h.pvf g e), fun i hi => by
    obtain ⟨g, c, h1, h2, h3, h4⟩ := h.puts i hi; exact ⟨g, c, h1, h2, hG _ h3, h4⟩, h.ok⟩

theorem ownsRow_ne {w : World} {base : Nat} {e e' : TypeId} {size : Nat} {v : Value} {n g q : Nat} {xs : List Value} {cur : Array Value} {fz : Nat × Nat} (h : w.ownsRow base e size v n xs) (hv : v.ownBlock = some g) (hq : w.heap[q]? = some (.cells cur e' fz)) (he : e' ≠ e) : g ≠ q := by
  obtain ⟨_, ⟨rfl, _⟩ | ⟨g', cap, cur', rfl, _, hb, _⟩⟩ := h
  · simp [Value.ownBlock] at hv
  · simp [Value.ownBlock] at hv
    intro e1
    rw [hv, e1, hq] at hb
    simp at hb
    exact he hb.2.1

/-- Where the struct's own cells alone have turned. -/
theorem RefRaw.turn {w w' : World} {F : Nat → Prop} {r s : Nat} {S S' : DS} {gl cl : Nat} {ls : List Value} {pv : Value} {xs : List Value} (h : RefRaw w F r s S gl cl ls pv xs) (hk : Keeps (fun k => k = r) w w')
    (hb : w'.heap[r]? = some (.cells (dkCells (.slice (some ⟨gl, 0, none⟩) s cl) pv S'.fuse S'.life S'.reads S'.writes S'.flushes S'.refused) 119 (0, 0))) (h1 : S'.im = S.im) (h2 : S'.puts = S.puts) (h3 : -1 ≤ S'.fuse ∧ S'.fuse ≤ 9223372036854775807) :
    RefRaw w' F r s S' gl cl ls pv xs := by
  refine ⟨h.fr, h.fl, fun k hf => Nat.lt_of_lt_of_le (h.lt k hf) hk.size, hb, h.last.other hk h.blk (by decide), h.llen, fun k hk' => ?_, ?_, h.pvf, ?_, ⟨?_, h.ok.lo, h.ok.hi, ?_, h3⟩⟩
  · obtain ⟨g, c, e1, e2, e3⟩ := h.secs k hk'
    rw [h1]
    exact ⟨g, c, e1, e2, e3.other hk h.blk (by decide)⟩
  · rw [h2]
    exact ownsRow_agree h.pend (fun g e => hk.block g (h.lt g (h.pvf g e)) (ownsRow_ne h.pend e h.blk (by decide)))
  · rw [h2]
    intro i hi
    obtain ⟨g, c, e1, e2, e3, e4⟩ := h.puts i hi
    exact ⟨g, c, e1, e2, e3, e4.other hk h.blk (by decide)⟩
  · rw [h1]; exact h.ok.len
  · rw [h2]; exact h.ok.puts

theorem RefRaw.set {w : World} {F : Nat → Prop} {r s : Nat} {S : DS} {gl cl : Nat} {ls : List Value} {pv : Value} {xs : List Value} (h : RefRaw w F r s S gl cl ls pv xs) (i : Nat) (v : Value) :
    (w.setCell ⟨r, i, none⟩ v).heap[r]? = some (.cells ((dkCells (.slice (some ⟨gl, 0, none⟩) s cl) pv S.fuse S.life S.reads S.writes S.flushes S.refused).setIfInBounds i v) 119 (0, 0)) ∧ Keeps (fun k => k = r) w (w.setCell ⟨r, i, none⟩ v) :=
  ⟨heap_setCell_same _ _ _ _ _ _ h.blk, Keeps.setCell (F := fun k => k = r) w (p := ⟨r, i, none⟩) rfl v⟩

theorem RefRaw.refused {w : World} {F : Nat → Prop} {r s : Nat} {S : DS} {gl cl : Nat} {ls : List Value} {pv : Value} {xs : List Value} (h : RefRaw w F r s S gl cl ls pv xs) :
    RefRaw (w.setCell ⟨r, 7, none⟩ (.int .i64 (wrap64 (S.refused + 1)))) F r s S.refuse gl cl ls pv xs :=
  h.turn (h.set 7 _).2 ((h.set 7 _).1.trans (by simp [dkCells, DS.refuse])) rfl rfl h.ok.fuse

theorem rsectors_at {w : World} {F : Nat → Prop} {r s : Nat} {S : DS} (h : RefAt w F r s S) :
    Calls Try.prog 99 #[.pointer (some ⟨r, 0, none⟩)] w fun e w' => e = .returned (.int .i64 s) ∧ w' = w := by
  obtain ⟨gl, cl, ls, pv, xs, h⟩ := h
  have c0 := cell_of_block h.blk (j := 0) rfl
  clear h
  go_enter Try.func99, Try.ntmps99
  go_wp2
  go_ret
  exact ⟨rfl, rfl⟩

theorem rburnt_at {w : World} {F : Nat → Prop} {r s : Nat} {S : DS} (h : RefAt w F r s S) :
    Calls Try.prog 96 #[.pointer (some ⟨r, 0, none⟩)] w fun e w' => e = .returned (.bool (S.fuse == 0)) ∧ w' = w := by
  obtain ⟨gl, cl, ls, pv, xs, h⟩ := h
  have c2 := cell_of_block h.blk (j := 2) rfl
  clear h
  go_enter Try.func96, Try.ntmps96
  go_wp2
  go_ret
  exact ⟨rfl, rfl⟩

theorem rlife_at {w : World} {F : Nat → Prop} {r s : Nat} {S : DS} (h : RefAt w F r s S) :
    Calls Try.prog 97 #[.pointer (some ⟨r, 0, none⟩)] w fun e w' => e = .returned (.int .i64 S.life) ∧ w' = w := by
  obtain ⟨gl, cl, ls, pv, xs, h⟩ := h
  have c3 := cell_of_block h.blk (j := 3) rfl
  clear h
  go_enter Try.func97, Try.ntmps97
  go_wp2
  go_ret
  exact ⟨rfl, rfl⟩

theorem rtake_at {w : World} {F : Nat → Prop} {r s : Nat} {S : DS} (h : RefAt w F r s S) :
    Calls Try.prog 80 #[.pointer (some ⟨r, 0, none⟩)] w fun e w' => e = .returned (.int .i64 (wrap64 (S.life + 1))) ∧ RefAt w' F r s S.take ∧ Keeps F w w' := by
  obtain ⟨gl, cl, ls, pv, xs, h⟩ := h
  have c3 := cell_of_block h.blk (j := 3) rfl
  have f3 := frozen_of_block h.blk 3
  have hq : RefAt (w.setCell ⟨r, 3, none⟩ (.int .i64 (wrap64 (S.life + 1)))) F r s S.take ∧ Keeps F w (w.setCell ⟨r, 3, none⟩ (.int .i64 (wrap64 (S.life + 1)))) :=
    ⟨⟨gl, cl, ls, pv, xs, h.turn (h.set 3 _).2 ((h.set 3 _).1.trans (by simp [dkCells, DS.take])) rfl rfl h.ok.fuse⟩, Keeps.setCell w h.fr _⟩
  have Hq := Hid.mk hq
  clear h hq
  go_enter Try.func80, Try.ntmps80
  go_wp2
  go_ret
  exact ⟨rfl, Hq.out⟩

theorem twice_setCell (w : World) (b o : Nat) (v u : Value) : (w.setCell ⟨b, o, none⟩ v).setCell ⟨b, o, none⟩ u = w.setCell ⟨b, o, none⟩ u := by
  unfold World.setCell
  congr 1
  apply Array.ext_getElem?
  intro i
  simp only [Array.getElem?_modify]
  by_cases e : b = i
  · subst e
    simp only [if_true]
    cases w.heap[b]? with
    | none => rfl
    | some ob => cases ob <;> simp
  · simp [e]

theorem rfuse_at {w : World} {F : Nat → Prop} {r s : Nat} {S : DS} (h : RefAt w F r s S) (calls : Int) (hc : calls ≤ 9223372036854775807) :
    Calls Try.prog 79 #[.pointer (some ⟨r, 0, none⟩), .int .i64 calls] w fun e w' => e = .returned (.tuple #[]) ∧ RefAt w' F r s (S.lay calls) ∧ Keeps F w w' := by
  obtain ⟨gl, cl, ls, pv, xs, h⟩ := h
  have c2 := cell_of_block h.blk (j := 2) rfl
  have f2 := frozen_of_block h.blk 2
  by_cases hf : S.fuse = 0
  · have hb : (S.fuse == 0) = true := by simp [hf]
    have hq : RefAt w F r s (S.lay calls) := by simp only [DS.lay, hf, if_true]; exact ⟨gl, cl, ls, pv, xs, h⟩
    have Hq := Hid.mk hq
    clear h hq hf
    go_enter Try.func79, Try.ntmps79
    go_wp2
    exact bodyPost_ret (results_none rfl _ _ _) rfl ⟨rfl, Hq.out, Keeps.refl _ _⟩
  · have hb : (S.fuse == 0) = false := by simp [hf]
    have hq : ∀ v, v = max calls (-1) → RefAt (w.setCell ⟨r, 2, none⟩ (.int .i64 v)) F r s (S.lay calls) ∧ Keeps F w (w.setCell ⟨r, 2, none⟩ (.int .i64 v)) := fun v hv => by
      subst hv
      simp only [DS.lay, hf, if_false]
      exact ⟨⟨gl, cl, ls, pv, xs, h.turn (h.set 2 _).2 ((h.set 2 _).1.trans (by simp [dkCells])) rfl rfl (by simp only; omega)⟩, Keeps.setCell w h.fr _⟩
    have hkk : Keeps F w (w.setCell ⟨r, 2, none⟩ (.int .i64 calls)) := Keeps.setCell w h.fr _
    have hss : ∀ v u, (w.setCell ⟨r, 2, none⟩ v).setCell ⟨r, 2, none⟩ u = w.setCell ⟨r, 2, none⟩ u := fun v u => twice_setCell w r 2 v u
    have Hq := Hid.mk hq
    clear h hq
    by_cases hneg : calls < 0
    · go_enter Try.func79, Try.ntmps79
      go_wp2
      go_end0
      exact ⟨rfl, Hq.out (-1) (by omega)⟩
    · go_enter Try.func79, Try.ntmps79
      go_wp2
      go_end0
      exact ⟨rfl, Hq.out calls (by omega)⟩

theorem rspent_low (r : Nat) (fuse : Int) (w : World) (c2 : w.cell? ⟨r, 2, none⟩ = some (.int .i64 fuse)) (f2 : w.frozen? ⟨r, 2, none⟩ = false) (hf : -1 ≤ fuse) :
    Calls Try.prog 75 #[.pointer (some ⟨r, 0, none⟩)] w fun e w' => e = .returned (.tuple #[]) ∧ w' = if 0 < fuse then w.setCell ⟨r, 2, none⟩ (.int .i64 (wrap64 (fuse - 1))) else w := by
  by_cases h : 0 < fuse
  · go_enter Try.func75, Try.ntmps75
    go_wp2
    go_end0
    exact ⟨rfl, rfl⟩
  · go_enter Try.func75, Try.ntmps75
    go_wp2
    go_end0
    exact ⟨rfl, rfl⟩

theorem RefRaw.spends {w : World} {F : Nat → Prop} {r s : Nat} {S : DS} {gl cl : Nat} {ls : List Value} {pv : Value} {xs : List Value} (h : RefRaw w F r s S gl cl ls pv xs) :
    RefRaw (if 0 < S.fuse then w.setCell ⟨r, 2, none⟩ (.int .i64 (wrap64 (S.fuse - 1))) else w) F r s S.spend gl cl ls pv xs ∧ Keeps F w (if 0 < S.fuse then w.setCell ⟨r, 2, none⟩ (.int .i64 (wrap64 (S.fuse - 1))) else w) := by
  have hl := h.ok.fuse
  by_cases hp : 0 < S.fuse
  · rw [if_pos hp]
    have e : wrap64 (S.fuse - 1) = S.fuse - 1 := by unfold wrap64; omega
    refine ⟨h.turn (h.set 2 _).2 ((h.set 2 _).1.trans ?_) rfl rfl ?_, Keeps.setCell w h.fr _⟩
    · rw [e]
      simp [dkCells, DS.spend, hp]
    · simp only [DS.spend, if_pos hp]; omega
  · rw [if_neg hp]
    have e : S.spend = S := by simp [DS.spend, hp]
    rw [e]
    exact ⟨h, Keeps.refl _ _⟩

end Go.Proofs.Ytnolpafdkaloeaa
end

section
namespace Go.Proofs.Ytnolpafdkaloeaa
open Go.RowKit Go.Maps

set_option maxHeartbeats 1000000 in
theorem rcounts_at {w : World} {F : Nat → Prop} {r s : Nat} {S : DS} (h : RefAt w F r s S) :
    Calls Try.prog 98 #[.pointer (some ⟨r, 0, none⟩)] w fun e w' => e = .returned (.agg (cnCells S.reads S.writes S.flushes S.refused S.puts.length)) ∧ Below w.heap.size w w' := by
  obtain ⟨gl, cl, ls, pv, xs, h⟩ := h
  have hrl := h.lt r h.fr
  have hpv : ∃ a c, pv = .slice a S.puts.length c := by
    obtain ⟨_, ⟨e, hn⟩ | ⟨g, cap, cur, e, _⟩⟩ := h.pend
    · exact ⟨none, 0, by rw [e, hn]⟩
    · exact ⟨_, _, e⟩
  obtain ⟨a, c, rfl⟩ := hpv
  have c1 := cell_of_block h.blk (j := 1) rfl
  have c4 := cell_of_block h.blk (j := 4) rfl
  have c5 := cell_of_block h.blk (j := 5) rfl
  have c6 := cell_of_block h.blk (j := 6) rfl
  have c7 := cell_of_block h.blk (j := 7) rfl
  have c8 := cell_of_block h.blk (j := 8) rfl
  clear h
  go_enter Try.func98, Try.ntmps98
  go_wp2
  refine bodyPost_ret (v := .agg (cnCells S.reads S.writes S.flushes S.refused S.puts.length)) (by simp [results, Try.results98, go_sem, cnCells]) rfl ⟨rfl, ?_⟩
  exact ((Below.refl _ w).alloc (Nat.le_refl _) _).alloc (by simp) _

theorem pendOf_append (a b : List (Nat × List Int)) (k : Nat) : pendOf (a ++ b) k = pendOf a k ++ pendOf b k := by simp [pendOf]

theorem pendOf_none {puts : List (Nat × List Int)} {k : Nat} (h : ∀ q ∈ puts, q.1 ≠ k) : pendOf puts k = [] := by
  unfold pendOf
  rw [List.map_eq_nil_iff, List.filter_eq_nil_iff]
  intro q hq
  have := h q hq
  simpa using this

/-- What the newest pending write of a sector is. -/
theorem now_last {S : DS} {k i : Nat} (hi : i < S.puts.length) (he : S.puts[i].1 = k) (hl : ∀ j (hj : j < S.puts.length), i < j → S.puts[j].1 ≠ k) : S.now k = S.puts[i].2 := by
  have h1 : S.puts = S.puts.take i ++ (S.puts[i] :: S.puts.drop (i + 1)) := by
    rw [← List.drop_eq_getElem_cons hi, List.take_append_drop]
  have h2 : pendOf (S.puts.drop (i + 1)) k = [] := pendOf_none (fun q hq => by
    obtain ⟨j, hj, rfl⟩ := List.mem_iff_getElem.1 hq
    rw [List.getElem_drop]
    exact hl _ (by simp at hj; omega) (by omega))
  have h3 : pendOf S.puts k = pendOf (S.puts.take i) k ++ [S.puts[i].2] := by
    conv => lhs; rw [h1]
    rw [pendOf_append, show S.puts[i] :: S.puts.drop (i + 1) = [S.puts[i]] ++ S.puts.drop (i + 1) from rfl, pendOf_append, h2]
    simp [pendOf, he]
  unfold DS.now DS.cand
  rw [h3]
  simp [List.getD]

theorem now_sec {S : DS} {k : Nat} (h : ∀ j (hj : j < S.puts.length), S.puts[j].1 ≠ k) : S.now k = sec S.im k := by
  apply now_none
  apply pendOf_none
  intro q hq
  obtain ⟨j, hj, rfl⟩ := List.mem_iff_getElem.1 hq
  exact h j hj

/-- The pending writes' cells. -/
theorem RefRaw.form {w : World} {F : Nat → Prop} {r s : Nat} {S : DS} {gl cl : Nat} {ls : List Value} {pv : Value} {xs : List Value} (h : RefRaw w F r s S gl cl ls pv xs) :
    ∃ a c, pv = .slice a S.puts.length c ∧ (0 < S.puts.length → ∃ gp, a = some ⟨gp, 0, none⟩ ∧ ∀ i (hi : i < S.puts.length), ∃ g cg, w.cell? ⟨gp, i * 2, none⟩ = some (.int .i64 ((S.puts[i].1 : Nat) : Int)) ∧ w.cell? ⟨gp, i * 2 + 1, none⟩ = some (.slice (some ⟨g, 0, none⟩) 512 cg) ∧ F g ∧ RowAt w 5 g cg (bs S.puts[i].2)) := by
  have hp := h.pend
  obtain ⟨_, ⟨e, hn⟩ | ⟨gp, cap, cur, e, _⟩⟩ := h.pend
  · exact ⟨none, 0, by rw [e, hn], fun h0 => by omega⟩
  · refine ⟨_, _, e, fun _ => ⟨gp, rfl, fun i hi => ?_⟩⟩
    obtain ⟨g, cg, h1, h2, h3, h4⟩ := h.puts i hi
    have k1 := hp.cells (g := gp) (by rw [e]; rfl) _ _ h1
    have k2 := hp.cells (g := gp) (by rw [e]; rfl) _ _ h2
    rw [addr_add, Nat.zero_add] at k1 k2
    exact ⟨g, cg, by rw [Nat.mul_comm]; exact k1, by rw [Nat.mul_comm]; exact k2, h3, h4⟩

set_option maxHeartbeats 1000000 in
theorem rnow_at {w : World} {F : Nat → Prop} {r s : Nat} {S : DS} (h : RefAt w F r s S) (k : Nat) (hk : k < s) (hbig : S.puts.length ≤ 5000000000000) :
    Calls Try.prog 73 #[.pointer (some ⟨r, 0, none⟩), .int .i64 (k : Int)] w fun e w' => ∃ g c, e = .returned (.slice (some ⟨g, 0, none⟩) 512 c) ∧ F g ∧ RowAt w 5 g c (bs (S.now k)) ∧ w' = w := by
  obtain ⟨gl, cl, ls, pv, xs, h⟩ := h
  obtain ⟨a, c, rfl, hpu⟩ := h.form
  have c0 := cell_of_block h.blk (j := 0) rfl
  have c1 := cell_of_block h.blk (j := 1) rfl
  obtain ⟨gs, cs, hls, hFs, hrs⟩ := h.secs k hk
  have cs0 := h.last.cell hls
  have Hpu := Hid.mk hpu
  have Hrs := Hid.mk hrs
  have hks : (k : Int) < (s : Int) := by omega
  clear h hpu hrs hls
  go_enter Try.func73, Try.ntmps73
  go_wp2
  go_loopw [5] (fun i wr => ∃ j : Nat, j ≤ S.puts.length ∧ i = .int .i64 ((j : Int) - 1) ∧ wr = w ∧ ∀ i (hi : i < S.puts.length), j ≤ i → S.puts[i].1 ≠ k) (fun i _ => (intOf i + 1).toNat)
  case atStart => exact ⟨S.puts.length, Nat.le_refl _, rfl, rfl, fun i hi h => by omega⟩
  case round =>
    obtain ⟨j, hj, rfl, rfl, hno⟩ := hrel
    have Hno := Hid.mk hno
    clear hno
    cases j with
    | zero =>
      have hneg : ¬ (0 : Int) ≤ ((0 : Nat) : Int) - 1 := by omega
      have hn := now_sec (S := S) (k := k) (fun j hj => Hno.out j hj (by omega))
      rw [← hn] at Hrs
      clear hn
      go_wp2
      go_ret
      exact ⟨gs, cs, rfl, hFs, Hrs.out, rfl⟩
    | succ j =>
      obtain ⟨gp, rfl, hp⟩ := Hpu.out (by omega)
      obtain ⟨g, cg, p1, p2, hF, hr⟩ := hp j (by omega)
      have Hr := Hid.mk hr
      clear hp hr
      by_cases he : S.puts[j].1 = k
      · have hn := now_last (S := S) (by omega) he (fun i hi h => Hno.out i hi (by omega))
        rw [he] at p1
        rw [← hn] at Hr
        clear hn
        go_wp2
        go_ret
        exact ⟨g, cg, rfl, hF, Hr.out, rfl⟩
      · have hne : (((S.puts[j].1 : Nat) : Int) == (k : Int)) = false := by rw [Bool.eq_false_iff, ne_eq, beq_iff_eq]; omega
        have hno2 : ∀ i (hi : i < S.puts.length), j ≤ i → S.puts[i].1 ≠ k := fun i hi h => by
          by_cases e : i = j
          · subst e; exact he
          · exact Hno.out i hi (by omega)
        have Hno2 := Hid.mk hno2
        clear hno2 Hno he Hr
        go_wp2
        go_roundw
        case rel => exact ⟨j, by omega, by go_num, trivial, Hno2.out⟩
        case measure => simp [intOf]

theorem rread_dead {w : World} {F : Nat → Prop} {r s : Nat} {S : DS} (h : RefAt w F r s S) (at_ : Int) (hf : S.fuse = 0) :
    Calls Try.prog 30 #[.pointer (some ⟨r, 0, none⟩), .int .i64 at_] w fun e w' => e = .returned (.tuple #[.slice none 0 0, .int .i64 3]) ∧ w' = w := by
  obtain ⟨gl, cl, ls, pv, xs, h⟩ := h
  have c2 := cell_of_block h.blk (j := 2) rfl
  have hb : (S.fuse == 0) = true := by simp [hf]
  clear h hf
  go_enter Try.func30, Try.ntmps30
  go_wp2
  go_ret2
  exact ⟨rfl, rfl⟩

theorem rread_range {w : World} {F : Nat → Prop} {r s : Nat} {S : DS} (h : RefAt w F r s S) (at_ : Int) (hf : S.fuse ≠ 0) (ha : at_ < 0 ∨ (s : Int) ≤ at_) :
    Calls Try.prog 30 #[.pointer (some ⟨r, 0, none⟩), .int .i64 at_] w fun e w' => e = .returned (.tuple #[.slice none 0 0, .int .i64 11]) ∧ RefAt w' F r s S.refuse ∧ Keeps F w w' := by
  obtain ⟨gl, cl, ls, pv, xs, h⟩ := h
  have c0 := cell_of_block h.blk (j := 0) rfl
  have c2 := cell_of_block h.blk (j := 2) rfl
  have c7 := cell_of_block h.blk (j := 7) rfl
  have f7 := frozen_of_block h.blk 7
  have hb : (S.fuse == 0) = false := by simp [hf]
  have Hq := Hid.mk (And.intro h.refused (Keeps.setCell (F := F) w (p := ⟨r, 7, none⟩) h.fr (.int .i64 (wrap64 (S.refused + 1)))))
  clear h hf
  rcases ha with ha | ha
  · go_enter Try.func30, Try.ntmps30
    go_wp2
    go_ret2
    exact ⟨rfl, ⟨gl, cl, ls, pv, xs, Hq.out.1⟩, Hq.out.2⟩
  · have ha0 : ¬ at_ < 0 := by omega
    go_enter Try.func30, Try.ntmps30
    go_wp2
    go_ret2
    exact ⟨rfl, ⟨gl, cl, ls, pv, xs, Hq.out.1⟩, Hq.out.2⟩

theorem RefRaw.reads {w : World} {F : Nat → Prop} {r s : Nat} {S : DS} {gl cl : Nat} {ls : List Value} {pv : Value} {xs : List Value} (h : RefRaw w F r s S gl cl ls pv xs) :
    RefRaw (w.setCell ⟨r, 4, none⟩ (.int .i64 (wrap64 (S.reads + 1)))) F r s S.read gl cl ls pv xs :=
  h.turn (h.set 4 _).2 ((h.set 4 _).1.trans (by simp [dkCells, DS.read])) rfl rfl h.ok.fuse

set_option maxHeartbeats 1000000 in
theorem rread_ok {w : World} {F : Nat → Prop} {r s : Nat} {S : DS} (h : RefAt w F r s S) (k : Nat) (hf : S.fuse ≠ 0) (hk : k < s) (hbig : S.puts.length ≤ 5000000000000) :
    Calls Try.prog 30 #[.pointer (some ⟨r, 0, none⟩), .int .i64 (k : Int)] w fun e w' => ∃ g, e = .returned (.tuple #[.slice (some ⟨g, 0, none⟩) 512 512, .int .i64 0]) ∧ w.heap.size ≤ g ∧ RowAt w' 5 g 512 (bs (S.now k)) ∧
      RefAt w' F r s S.read ∧ Keeps F w w' := by
  obtain ⟨gl, cl, ls, pv, xs, h⟩ := h
  have c0 := cell_of_block h.blk (j := 0) rfl
  have c2 := cell_of_block h.blk (j := 2) rfl
  have c4 := cell_of_block h.blk (j := 4) rfl
  have f4 := frozen_of_block h.blk 4
  have hb : (S.fuse == 0) = false := by simp [hf]
  have hd := h.reads
  have hkp : Keeps F w (w.setCell ⟨r, 4, none⟩ (.int .i64 (wrap64 (S.reads + 1)))) := Keeps.setCell w h.fr _
  have hsz : (w.setCell ⟨r, 4, none⟩ (.int .i64 (wrap64 (S.reads + 1)))).heap.size = w.heap.size := by simp [World.setCell]
  have hno := rnow_at ⟨gl, cl, ls, pv, xs, hd⟩ k hk hbig
  have hnl := now_len h.ok k hk
  have hk0 : ¬ (k : Int) < 0 := by omega
  have hk1 : ¬ (s : Int) ≤ (k : Int) := by omega
  have Hd := Hid.mk hd
  have Hk := Hid.mk hkp
  have Hs := Hid.mk hsz
  clear h hd hkp hsz hf
  go_enter Try.func30, Try.ntmps30
  go_wp2_with fail
  refine hno.mono ?_
  rintro e w1 ⟨g, c, rfl, hF, hr, hw⟩
  have hw' := hw.symm
  subst hw'
  have hsrc := hr.src
  rw [show (S.read.now k).length = 512 from hnl] at hsrc
  have htw := rtwin_any (some ⟨g, 0, none⟩) 512 c _ _ (by omega) hsrc
  clear hno hr hsrc hw
  go_wp2_with (go_at_call 72; refine htw.mono ?_; rintro e w2 ⟨g2, rfl, hg2, hr2, hb2⟩)
  have hdk : RefAt w2 F r s S.read := RefAt.keep ⟨gl, cl, ls, pv, xs, Hd.out⟩ (Keeps.of_below (fun _ => False) hb2) (fun _ _ h => h)
  have hke := Hk.out.trans (Keeps.of_below (fun _ => False) hb2) (fun _ h => h.elim)
  rw [Hs.out] at hg2
  go_ret2
  exact ⟨g2, rfl, hg2, hr2, hdk, hke⟩

end Go.Proofs.Ytnolpafdkaloeaa
end

section
namespace Go.Proofs.Ytnolpafdkaloeaa
open Go.RowKit Go.Maps

theorem infoPut : (Try.prog.info? 122).map (fun i => (i.zero, i.size, i.bytes)) = some (some (.agg #[.int .i64 0, .slice none 0 0]), 2, 32) := by kernel_rfl

theorem RefRaw.wrote {w w1 w2 : World} {F : Nat → Prop} {r s : Nat} {S : DS} {gl cl : Nat} {ls : List Value} {pv : Value} {xs : List Value} (h : RefRaw w F r s S gl cl ls pv xs) {k : Nat} (hk : k < s) {l : List Int} (hl : l.length = 512) {g cg g2 cap2 : Nat} {o : Obj}
    (hb1 : Below w.heap.size w w1) (hg : w.heap.size ≤ g) (hr : RowAt w1 5 g cg (bs l))
    (hown : w2.ownsRow 0 122 2 (.slice (some ⟨g2, 0, none⟩) (S.puts.length + 1) cap2) (S.puts.length + 1) (xs ++ [.int .i64 (k : Int), .slice (some ⟨g, 0, none⟩) 512 cg]))
    (hgrow : (w1.alloc o).grownBy w2 pv.ownBlock) (hat : pv.ownBlock = some g2 ∨ g2 = w1.heap.size + 1) :
    w2.heap[r]? = w.heap[r]? ∧ RefRaw (w2.setCell ⟨r, 1, none⟩ (.slice (some ⟨g2, 0, none⟩) (S.puts.length + 1) cap2)) (more F w (w2.setCell ⟨r, 1, none⟩ (.slice (some ⟨g2, 0, none⟩) (S.puts.length + 1) cap2))) r s (S.put k l) gl cl ls (.slice (some ⟨g2, 0, none⟩) (S.puts.length + 1) cap2) (xs ++ [.int .i64 (k : Int), .slice (some ⟨g, 0, none⟩) 512 cg]) ∧
      Keeps F w (w2.setCell ⟨r, 1, none⟩ (.slice (some ⟨g2, 0, none⟩) (S.puts.length + 1) cap2)) := by
  have hb2 : Below w.heap.size w (w1.alloc o) := hb1.alloc hb1.size o
  have hsz1 := hb1.size
  have hszs : (w1.alloc o).heap.size = w1.heap.size + 1 := by simp
  have hsz2 := hgrow.size
  have hrl := h.lt r h.fr
  have stay : ∀ b, b < w.heap.size → some b ≠ pv.ownBlock → w2.heap[b]? = w.heap[b]? := fun b hb hn => (hgrow.block b (by omega) hn).trans (hb2.block b hb)
  have rne : some r ≠ pv.ownBlock := fun e => ownsRow_ne h.pend e.symm h.blk (by decide) rfl
  have hr2 := stay r hrl rne
  have stayc : ∀ (b : Nat) (cur : Array Value) (e : TypeId) (fz : Nat × Nat), w.heap[b]? = some (Obj.cells cur e fz) → e ≠ 122 → w2.heap[b]? = w.heap[b]? := fun b cur e fz hb he =>
    stay b (Array.getElem?_eq_some_iff.1 hb).1 (fun e1 => ownsRow_ne h.pend e1.symm hb he rfl)
  have w3sz : (w2.setCell ⟨r, 1, none⟩ (.slice (some ⟨g2, 0, none⟩) (S.puts.length + 1) cap2)).heap.size = w2.heap.size := by simp [World.setCell]
  have other : ∀ b, b ≠ r → (w2.setCell ⟨r, 1, none⟩ (.slice (some ⟨g2, 0, none⟩) (S.puts.length + 1) cap2)).heap[b]? = w2.heap[b]? := fun b hb => Below.heap_setCell _ _ _ _ hb
  have st5 : ∀ b c ys, RowAt w 5 b c ys → RowAt (w2.setCell ⟨r, 1, none⟩ (.slice (some ⟨g2, 0, none⟩) (S.puts.length + 1) cap2)) 5 b c ys := fun b c ys hb => by
    have hne := hb.ne h.blk (by decide)
    have hb' := hb
    obtain ⟨cur, hbb, _⟩ := hb'
    exact hb.agree ((other b hne).trans (stayc b cur _ _ hbb (by decide)))
  have hgl := hr.lt
  have hgr : g ≠ r := by omega
  have hg2l : g2 < w2.heap.size := by
    obtain ⟨_, ⟨e, _⟩ | ⟨g', _, cur, e, _, hb, _⟩⟩ := hown
    · cases e
    · cases e; exact (Array.getElem?_eq_some_iff.1 hb).1
  have hg2r : g2 ≠ r := fun e => by
    rcases hat with h1 | h1
    · rw [e] at h1; exact rne h1.symm
    · omega
  refine ⟨hr2, ⟨.inl h.fr, .inl h.fl, fun b hb => ?_, ?_, ?_, h.llen, fun j hj => ?_, ?_, fun b hb => ?_, fun i hi => ?_, ⟨h.ok.len, h.ok.lo, h.ok.hi, fun q hq => ?_, h.ok.fuse⟩⟩, ?_⟩
  · rw [w3sz]
    rcases hb with hb | hb
    · have := h.lt b hb; omega
    · rw [w3sz] at hb; exact hb.2
  · rw [heap_setCell_same _ _ _ _ _ _ (hr2.trans h.blk)]
    simp [dkCells, DS.put]
  · have hne := h.last.ne h.blk (by decide)
    have hb' := h.last
    obtain ⟨cur, hbb, _⟩ := hb'
    exact h.last.agree ((other gl hne).trans (stayc gl cur _ _ hbb (by decide)))
  · obtain ⟨g', c', e1, e2, e3⟩ := h.secs j hj
    exact ⟨g', c', e1, .inl e2, st5 _ _ _ e3⟩
  · have : (S.put k l).puts.length = S.puts.length + 1 := by simp [DS.put]
    rw [this]
    exact ownsRow_agree hown (fun b hb => other b (fun e => by simp [Value.ownBlock] at hb; omega))
  · simp [Value.ownBlock] at hb
    subst hb
    rcases hat with h1 | h1
    · exact .inl (h.pvf g2 h1)
    · exact .inr ⟨by omega, by omega⟩
  · have hxl : xs.length = S.puts.length * 2 := h.pend.1
    by_cases hi' : i < S.puts.length
    · obtain ⟨g', c', e1, e2, e3, e4⟩ := h.puts i hi'
      refine ⟨g', c', ?_, ?_, .inl e3, ?_⟩
      · rw [List.getElem?_append_left (by omega), e1]
        simp [DS.put, List.getElem_append_left hi']
      · rw [List.getElem?_append_left (by omega), e2]
      · simp only [DS.put, List.getElem_append_left hi']
        exact st5 _ _ _ e4
    · have hi2 : i = S.puts.length := by simp [DS.put] at hi; omega
      subst hi2
      refine ⟨g, cg, ?_, ?_, .inr ⟨hg, by omega⟩, ?_⟩
      · rw [List.getElem?_append_right (by omega), show 2 * S.puts.length - xs.length = 0 by omega]
        simp [DS.put]
      · rw [List.getElem?_append_right (by omega), show 2 * S.puts.length + 1 - xs.length = 1 by omega]
        simp
      · have : RowAt (w2.setCell ⟨r, 1, none⟩ (.slice (some ⟨g2, 0, none⟩) (S.puts.length + 1) cap2)) 5 g cg (bs l) := by
          refine hr.agree ((other g hgr).trans ((hgrow.block g (by omega) (fun e => ?_)).trans (Below.heap_alloc _ _ _ hgl)))
          have := h.lt _ (h.pvf g e.symm)
          omega
        simpa [DS.put] using this
  · simp only [DS.put, List.mem_append, List.mem_singleton] at hq
    rcases hq with hq | rfl
    · exact h.ok.puts q hq
    · exact ⟨hk, hl⟩
  · refine ⟨hgrow.os.trans hb2.os, hgrow.tape.trans hb2.tape, hgrow.output.trans hb2.output, by omega, fun b hb hn => ?_⟩
    exact (other b (fun e => hn (e ▸ h.fr))).trans (stay b hb (fun e => hn (h.pvf b e.symm)))

/-- What Twin gives. -/
def TwR (w : World) (l : List Int) (v : Value) (w' : World) : Prop := ∃ g, v = .slice (some ⟨g, 0, none⟩) 512 512 ∧ w.heap.size ≤ g ∧ RowAt w' 5 g 512 (bs l) ∧ Below w.heap.size w w'

/-- A call of a Go function at a step of a region that draws its order. -/
theorem step_call {P : Program} {w : World} {ops : Array Oper} {o : Oper} {a : Act} {K : Act → World → Prop} {Q : Exit → Act → World → Prop} {E : Prop} (hgd : o.guard = none) (f : FuncId) (args : Array Value)
    (hen : (execOp a.eval o).run P w = .ok (.enter f args) w) (R : Value → World → Prop) (hc : Calls P f args w fun e w' => ∃ v, e = .returned v ∧ R v w') (h : ∀ v w', R v w' → K (a.put o.dst v) w') :
    if Region.wanted o (yielded ops a.tmps) = true then Oper.wp P o a w K Q else E := by
  have hw : Region.wanted o (yielded ops a.tmps) = true := by simp [Region.wanted, hgd]
  rw [if_pos hw]
  unfold Oper.wp
  rw [hen, Oper.upon_enter]
  refine hc.mono ?_
  rintro e w' ⟨v, rfl, hr⟩
  exact h v w' hr

theorem rwrite_dead {w : World} {F : Nat → Prop} {r s : Nat} {S : DS} (h : RefAt w F r s S) (at_ : Int) (a : Option Addr) (n c : Nat) (hf : S.fuse = 0) :
    Calls Try.prog 36 #[.pointer (some ⟨r, 0, none⟩), .int .i64 at_, .slice a n c] w fun e w' => e = .returned (.int .i64 3) ∧ w' = w := by
  obtain ⟨gl, cl, ls, pv, xs, h⟩ := h
  have c2 := cell_of_block h.blk (j := 2) rfl
  have hb : (S.fuse == 0) = true := by simp [hf]
  clear h hf
  go_enter Try.func36, Try.ntmps36
  go_wp2
  go_ret
  exact ⟨rfl, rfl⟩

theorem rwrite_range {w : World} {F : Nat → Prop} {r s : Nat} {S : DS} (h : RefAt w F r s S) (at_ : Int) (a0 : Option Addr) (n c : Nat) (hf : S.fuse ≠ 0) (ha : at_ < 0 ∨ (s : Int) ≤ at_) :
    Calls Try.prog 36 #[.pointer (some ⟨r, 0, none⟩), .int .i64 at_, .slice a0 n c] w fun e w' => e = .returned (.int .i64 11) ∧ RefAt w' F r s S.refuse ∧ Keeps F w w' := by
  obtain ⟨gl, cl, ls, pv, xs, h⟩ := h
  have c0 := cell_of_block h.blk (j := 0) rfl
  have c2 := cell_of_block h.blk (j := 2) rfl
  have c7 := cell_of_block h.blk (j := 7) rfl
  have f7 := frozen_of_block h.blk 7
  have hb : (S.fuse == 0) = false := by simp [hf]
  have Hq := Hid.mk (And.intro h.refused (Keeps.setCell (F := F) w (p := ⟨r, 7, none⟩) h.fr (.int .i64 (wrap64 (S.refused + 1)))))
  clear h hf
  rcases ha with ha | ha
  · go_enter Try.func36, Try.ntmps36
    go_wp2
    go_ret
    exact ⟨rfl, ⟨gl, cl, ls, pv, xs, Hq.out.1⟩, Hq.out.2⟩
  · have ha0 : ¬ at_ < 0 := by omega
    go_enter Try.func36, Try.ntmps36
    go_wp2
    go_ret
    exact ⟨rfl, ⟨gl, cl, ls, pv, xs, Hq.out.1⟩, Hq.out.2⟩

theorem rwrite_length {w : World} {F : Nat → Prop} {r s : Nat} {S : DS} (h : RefAt w F r s S) (k : Nat) (a0 : Option Addr) (n c : Nat) (hf : S.fuse ≠ 0) (hk : k < s) (hn : n ≠ 512) :
    Calls Try.prog 36 #[.pointer (some ⟨r, 0, none⟩), .int .i64 (k : Int), .slice a0 n c] w fun e w' => e = .returned (.int .i64 2) ∧ RefAt w' F r s S.refuse ∧ Keeps F w w' := by
  obtain ⟨gl, cl, ls, pv, xs, h⟩ := h
  have c0 := cell_of_block h.blk (j := 0) rfl
  have c2 := cell_of_block h.blk (j := 2) rfl
  have c7 := cell_of_block h.blk (j := 7) rfl
  have f7 := frozen_of_block h.blk 7
  have hb : (S.fuse == 0) = false := by simp [hf]
  have Hq := Hid.mk (And.intro h.refused (Keeps.setCell (F := F) w (p := ⟨r, 7, none⟩) h.fr (.int .i64 (wrap64 (S.refused + 1)))))
  have hne : ((n : Int) != 512) = true := by rw [bne_iff_ne]; omega
  have hk0 : ¬ (k : Int) < 0 := by omega
  have hk1 : ¬ (s : Int) ≤ (k : Int) := by omega
  clear h hf
  go_enter Try.func36, Try.ntmps36
  go_wp2
  go_ret
  exact ⟨rfl, ⟨gl, cl, ls, pv, xs, Hq.out.1⟩, Hq.out.2⟩

theorem RefRaw.wrotes {w : World} {F : Nat → Prop} {r s : Nat} {S : DS} {gl cl : Nat} {ls : List Value} {pv : Value} {xs : List Value} (h : RefRaw w F r s S gl cl ls pv xs) :
    RefRaw (w.setCell ⟨r, 5, none⟩ (.int .i64 (wrap64 (S.writes + 1)))) F r s S.wrote gl cl ls pv xs :=
  h.turn (h.set 5 _).2 ((h.set 5 _).1.trans (by simp [dkCells, DS.wrote])) rfl rfl h.ok.fuse

/-- The end of a Write. -/
theorem rwrite_fin {w w3 : World} {F : Nat → Prop} {r s : Nat} {S : DS} {gl cl : Nat} {ls : List Value} {pv : Value} {xs : List Value} (hF : F r) (h : RefRaw w3 (more F w w3) r s S gl cl ls pv xs) (hk : Keeps F w w3) :
    w3.cell? ⟨r, 5, none⟩ = some (.int .i64 S.writes) ∧ w3.frozen? ⟨r, 5, none⟩ = false ∧
    Calls Try.prog 75 #[.pointer (some ⟨r, 0, none⟩)] (w3.setCell ⟨r, 5, none⟩ (.int .i64 (wrap64 (S.writes + 1)))) fun e w' => e = .returned (.tuple #[]) ∧ RefAt w' (more F w w') r s S.wrote.spend ∧ Keeps F w w' := by
  have hd4 := h.wrotes
  have hk4 : Keeps F w (w3.setCell ⟨r, 5, none⟩ (.int .i64 (wrap64 (S.writes + 1)))) := hk.trans (Keeps.setCell (F := fun k => k = r) w3 (p := ⟨r, 5, none⟩) rfl _) (fun j hj => .inl (hj ▸ hF))
  have hsz : (w3.setCell ⟨r, 5, none⟩ (.int .i64 (wrap64 (S.writes + 1)))).heap.size = w3.heap.size := by simp [World.setCell]
  refine ⟨cell_of_block h.blk (j := 5) rfl, frozen_of_block h.blk 5, (rspent_low r S.fuse _ (cell_of_block hd4.blk (j := 2) rfl) (frozen_of_block hd4.blk 2) hd4.ok.fuse.1).mono ?_⟩
  rintro e w' ⟨rfl, rfl⟩
  obtain ⟨h5, _⟩ := hd4.spends
  have hk5 : Keeps (fun k => k = r) (w3.setCell ⟨r, 5, none⟩ (.int .i64 (wrap64 (S.writes + 1)))) (if 0 < S.fuse then (w3.setCell ⟨r, 5, none⟩ (.int .i64 (wrap64 (S.writes + 1)))).setCell ⟨r, 2, none⟩ (.int .i64 (wrap64 (S.fuse - 1))) else (w3.setCell ⟨r, 5, none⟩ (.int .i64 (wrap64 (S.writes + 1))))) := by
    split
    · exact Keeps.setCell (F := fun k => k = r) _ (p := ⟨r, 2, none⟩) rfl _
    · exact Keeps.refl _ _
  have hs5 : (if 0 < S.fuse then (w3.setCell ⟨r, 5, none⟩ (.int .i64 (wrap64 (S.writes + 1)))).setCell ⟨r, 2, none⟩ (.int .i64 (wrap64 (S.fuse - 1))) else (w3.setCell ⟨r, 5, none⟩ (.int .i64 (wrap64 (S.writes + 1))))).heap.size = w3.heap.size := by split <;> simp [World.setCell]
  refine ⟨rfl, ⟨gl, cl, ls, pv, xs, RefRaw.mono h5 (more_mono (by rw [hs5]; exact Nat.le_refl _)) (fun k hk' => ?_)⟩, hk4.trans hk5 (fun j hj => .inl (hj ▸ hF))⟩
  rw [hs5]
  rcases hk' with h' | h'
  · exact h.lt k (.inl h')
  · rw [hs5] at h'; exact h'.2

set_option maxHeartbeats 4000000 in
set_option maxRecDepth 100000 in
theorem rwrite_ok {w : World} {F : Nat → Prop} {r s : Nat} {S : DS} (hd : RefAt w F r s S) (k : Nat) (hk : k < s) (hf : S.fuse ≠ 0) (hbig : S.puts.length + 1 ≤ 4000000000000)
    (x : Addr) (c : Nat) (l : List Int) (hsrc : Src w (some x) 512 l) :
    Calls Try.prog 36 #[.pointer (some ⟨r, 0, none⟩), .int .i64 (k : Int), .slice (some x) 512 c] w fun e w' => e = .returned (.int .i64 0) ∧ RefAt w' (more F w w') r s ((S.put k l).wrote.spend) ∧ Keeps F w w' := by
  obtain ⟨gl, cl, ls, pv, xs, h⟩ := hd
  obtain ⟨i0, hi0, hz0, hz1, hz2⟩ := info_parts infoPut
  obtain ⟨a, ca, rfl, _⟩ := h.form
  have c0 := cell_of_block h.blk (j := 0) rfl
  have c1 := cell_of_block h.blk (j := 1) rfl
  have c2 := cell_of_block h.blk (j := 2) rfl
  have hb : (S.fuse == 0) = false := by simp [hf]
  have hk0 : ¬ (k : Int) < 0 := by omega
  have hk1 : ¬ (s : Int) ≤ (k : Int) := by omega
  have hrl := h.lt r h.fr
  have H := Hid.mk h
  have Hsrc := Hid.mk hsrc
  have hll := hsrc.1
  have hcell : ∀ wx : World, wx.heap[r]? = w.heap[r]? → wx.cell? ⟨r, 1, none⟩ = some (.slice a S.puts.length ca) := fun wx e => cell_of_block (e.trans H.out.blk) (j := 1) rfl
  have Hcell := Hid.mk hcell
  clear h hsrc hf hcell
  go_enter Try.func36, Try.ntmps36
  go_wp2_with fail
  have htw : Calls Try.prog 72 #[.slice (some x) 512 c] w.drew fun e w' => ∃ v, e = .returned v ∧ TwR w l v w' :=
    (rtwin_any (some x) 512 c l w.drew (by omega) Hsrc.out).mono (by rintro e w' ⟨g, rfl, h1, h2, h3⟩; exact ⟨_, rfl, g, rfl, h1, h2, ⟨h3.os, h3.tape, h3.output, h3.size, h3.block⟩⟩)
  have Htw := Hid.mk htw
  clear htw
  go_region_law
    (first
      | (refine step_call (by rfl) 72 #[.slice (some x) 512 c] (by simp [go_sem]) (TwR w l) Htw.out ?_; rintro _ w1 ⟨g, rfl, hg, hr, hb1⟩; have hr1 : w1.heap[r]? = w.heap[r]? := hb1.block r hrl; have k1 := Hcell.out w1 hr1; have k2 := fun o => Hcell.out (w1.alloc o) ((Below.heap_alloc w1 o r (Nat.lt_of_lt_of_le hrl hb1.size)).trans hr1))
      | (refine step_append_lies _ (by rfl) _ _ _ (by rfl) 0 122 i0 _ 2 32 Try.underlying117 hi0 hz0 hz1 hz2 rfl (by omega) (.slice a S.puts.length ca) S.puts.length xs (by rfl) (ownsRow_agree H.out.pend (fun g e => (Below.heap_alloc w1 _ _ (Nat.lt_of_lt_of_le (H.out.lt g (H.out.pvf g e)) hb1.size)).trans (hb1.block g (H.out.lt g (H.out.pvf g e)))))
          ⟨w1.heap.size, 0, none⟩ 1 1 [.int .i64 (k : Int), .slice (some ⟨g, 0, none⟩) 512 512] (by rfl) (by rfl) (World.news_of_block (cs := #[.int .i64 (k : Int), .slice (some ⟨g, 0, none⟩) 512 512]) (t := 122) (fr := (0, 0)) (heap_alloc_new w1 _)) (by simp [Value.oneCell']) (by omega) (by unfold maxLen; omega) (by omega) (Nat.zero_le _) (w1.heap.size + 1) (by simp) ?_; intro g2 cap2 w2 hown2 hgrow2 hat2 hlt2; obtain ⟨hr2, hd3, hk3⟩ := H.out.wrote hk hll hb1 hg hr hown2 hgrow2 hat2; have k3 := Hcell.out w2 hr2; have f3 := frozen_of_block (hr2.trans H.out.blk) 1))
  all_goals
    obtain ⟨c5, f5, hsp⟩ := rwrite_fin H.out.fr hd3 hk3
    clear hd3 hk3 hr hb1 hown2 hgrow2 hat2 hlt2 hr1 hr2 k1 k2 k3 f3 H Hsrc Hcell Htw
    go_wp2_with (go_at_call 75; refine hsp.mono ?_; rintro e w5 ⟨rfl, hd5, hk5⟩)
    go_ret
    exact ⟨rfl, hd5, hk5⟩
end Go.Proofs.Ytnolpafdkaloeaa
end

section
namespace Go.Proofs.Ytnolpafdkaloeaa
open Go.RowKit Go.Maps

theorem RowAt.stored {w : World} {e : TypeId} {g c : Nat} {xs : List Value} (h : RowAt w e g c xs) (k : Nat) (v : Value) : RowAt (w.setCell ⟨g, k, none⟩ v) e g c (xs.set k v) := by
  obtain ⟨cur, hb, hc, ht, hm⟩ := h
  refine ⟨_, heap_setCell_same _ _ _ _ _ _ hb, by simpa using hc, ?_, hm⟩
  rw [List.length_set, Array.toList_setIfInBounds, List.take_set, ht]

/-- One sector is written home. -/
theorem RefRaw.stored {w : World} {F : Nat → Prop} {r s : Nat} {S : DS} {gl cl : Nat} {ls : List Value} {pv : Value} {xs : List Value} (h : RefRaw w F r s S gl cl ls pv xs) {k : Nat} (hk : k < s) {g c : Nat} {l : List Int} (hF : F g) (hr : RowAt w 5 g c (bs l)) {im : List Int} (hl : im.length = s * 512)
    (hs : ∀ j, j < s → sec im j = if j = k then l else sec S.im j) :
    RefRaw (w.setCell ⟨gl, k, none⟩ (.slice (some ⟨g, 0, none⟩) 512 c)) F r s { S with im := im } gl cl (ls.set k (.slice (some ⟨g, 0, none⟩) 512 c)) pv xs ∧ Keeps (fun b => b = gl) w (w.setCell ⟨gl, k, none⟩ (.slice (some ⟨g, 0, none⟩) 512 c)) := by
  have hke : Keeps (fun b => b = gl) w (w.setCell ⟨gl, k, none⟩ (.slice (some ⟨g, 0, none⟩) 512 c)) := Keeps.setCell (F := fun b => b = gl) w (p := ⟨gl, k, none⟩) rfl _
  have hb' := h.last
  obtain ⟨cur, hbl, _⟩ := hb'
  refine ⟨⟨h.fr, h.fl, fun b hb => Nat.lt_of_lt_of_le (h.lt b hb) hke.size, (hke.block r (h.lt r h.fr) (fun e => h.last.ne h.blk (by decide) e.symm)).trans h.blk, h.last.stored k _, by rw [List.length_set]; exact h.llen, fun j hj => ?_,
    ownsRow_agree h.pend (fun b e => hke.block b (h.lt b (h.pvf b e)) (ownsRow_ne h.pend e hbl (by decide))), h.pvf, fun i hi => ?_, ⟨hl, h.ok.lo, h.ok.hi, h.ok.puts, h.ok.fuse⟩⟩, hke⟩
  · simp only [hs j hj]
    by_cases e : j = k
    · subst e
      rw [if_pos rfl]
      exact ⟨g, c, by rw [List.getElem?_set_self (by rw [h.llen]; exact hj)], hF, hr.other hke hbl (by decide)⟩
    · rw [if_neg e]
      obtain ⟨g', c', e1, e2, e3⟩ := h.secs j hj
      exact ⟨g', c', by rw [List.getElem?_set_ne (by omega)]; exact e1, e2, e3.other hke hbl (by decide)⟩
  · obtain ⟨g', c', e1, e2, e3, e4⟩ := h.puts i hi
    exact ⟨g', c', e1, e2, e3, e4.other hke hbl (by decide)⟩

/-- The image behind the first i pending writes. -/
def imUp (S : DS) (s i : Nat) : List Int := imOf s (DS.now { S with puts := S.puts.take i })

theorem ok_take {S : DS} {s : Nat} (h : S.Ok s) (i : Nat) : DS.Ok { S with puts := S.puts.take i } s := ⟨h.len, h.lo, h.hi, fun q hq => h.puts q (List.mem_of_mem_take hq), h.fuse⟩

theorem imUp_len {S : DS} {s : Nat} (h : S.Ok s) (i : Nat) : (imUp S s i).length = s * 512 := imOf_len s _ (now_len (ok_take h i))

theorem imUp_zero {S : DS} {s : Nat} (h : S.Ok s) : imUp S s 0 = S.im := by
  refine im_ext s (imUp_len h 0) h.len (fun k hk => ?_)
  unfold imUp
  rw [sec_imOf s _ (now_len (ok_take h 0)) k hk]
  exact now_none _ _ (by simp [pendOf])

theorem imUp_all {S : DS} {s : Nat} : imUp S s S.puts.length = imOf s S.now := by
  unfold imUp
  rw [List.take_length]

theorem imUp_succ {S : DS} {s : Nat} (h : S.Ok s) {i : Nat} (hi : i < S.puts.length) : ∀ j, j < s → sec (imUp S s (i + 1)) j = if j = S.puts[i].1 then S.puts[i].2 else sec (imUp S s i) j := fun j hj => by
  unfold imUp
  rw [sec_imOf s _ (now_len (ok_take h (i + 1))) j hj, sec_imOf s _ (now_len (ok_take h i)) j hj]
  have ht : S.puts.take (i + 1) = S.puts.take i ++ [S.puts[i]] := by rw [List.take_add_one, List.getElem?_eq_getElem hi]; rfl
  by_cases e : j = S.puts[i].1
  · rw [if_pos e]
    unfold DS.now DS.cand
    simp only [ht]
    rw [pendOf_append]
    simp [pendOf, e, List.getD]
  · rw [if_neg e]
    have hp : pendOf (S.puts.take (i + 1)) j = pendOf (S.puts.take i) j := by
      rw [ht, pendOf_append, pendOf_none (puts := [S.puts[i]]) (by simp; omega), List.append_nil]
    unfold DS.now DS.cand
    simp only [hp]

theorem rflush_dead {w : World} {F : Nat → Prop} {r s : Nat} {S : DS} (h : RefAt w F r s S) (hf : S.fuse = 0) :
    Calls Try.prog 78 #[.pointer (some ⟨r, 0, none⟩)] w fun e w' => e = .returned (.int .i64 3) ∧ w' = w := by
  obtain ⟨gl, cl, ls, pv, xs, h⟩ := h
  have c2 := cell_of_block h.blk (j := 2) rfl
  have hb : (S.fuse == 0) = true := by simp [hf]
  clear h hf
  go_enter Try.func78, Try.ntmps78
  go_wp2
  go_ret
  exact ⟨rfl, rfl⟩

/-- The pending list is let go. -/
theorem RefRaw.dropped {w : World} {F : Nat → Prop} {r s : Nat} {S : DS} {gl cl : Nat} {ls : List Value} {pv : Value} {xs : List Value} (h : RefRaw w F r s S gl cl ls pv xs) :
    RefRaw (w.setCell ⟨r, 1, none⟩ (.slice none 0 0)) F r s { S with puts := [] } gl cl ls (.slice none 0 0) [] ∧ Keeps (fun k => k = r) w (w.setCell ⟨r, 1, none⟩ (.slice none 0 0)) := by
  have hk := (h.set 1 (.slice none 0 0)).2
  refine ⟨⟨h.fr, h.fl, fun b hb => Nat.lt_of_lt_of_le (h.lt b hb) hk.size, (h.set 1 _).1.trans (by simp [dkCells]), h.last.other hk h.blk (by decide), h.llen, fun j hj => ?_, World.ownsRow_nil _ _ _ _, by simp [Value.ownBlock], by simp, ⟨h.ok.len, h.ok.lo, h.ok.hi, by simp, h.ok.fuse⟩⟩, hk⟩
  obtain ⟨g', c', e1, e2, e3⟩ := h.secs j hj
  exact ⟨g', c', e1, e2, e3.other hk h.blk (by decide)⟩

theorem rflush_fin {w wr : World} {F : Nat → Prop} {r s : Nat} {S : DS} {gl cl : Nat} {ls : List Value} {pv : Value} {xs : List Value} (h : RefRaw wr F r s { S with im := imUp S s S.puts.length } gl cl ls pv xs) (hk : Keeps F w wr) :
    wr.cell? ⟨r, 1, none⟩ = some pv ∧ wr.frozen? ⟨r, 1, none⟩ = false ∧ (wr.setCell ⟨r, 1, none⟩ (.slice none 0 0)).cell? ⟨r, 6, none⟩ = some (.int .i64 S.flushes) ∧ (wr.setCell ⟨r, 1, none⟩ (.slice none 0 0)).frozen? ⟨r, 6, none⟩ = false ∧
    Calls Try.prog 75 #[.pointer (some ⟨r, 0, none⟩)] ((wr.setCell ⟨r, 1, none⟩ (.slice none 0 0)).setCell ⟨r, 6, none⟩ (.int .i64 (wrap64 (S.flushes + 1)))) fun e w' => e = .returned (.tuple #[]) ∧ RefAt w' F r s ((S.flush s).spend) ∧ Keeps F w w' := by
  rw [imUp_all] at h
  obtain ⟨h1, hk1⟩ := h.dropped
  have h2 : RefRaw ((wr.setCell ⟨r, 1, none⟩ (.slice none 0 0)).setCell ⟨r, 6, none⟩ (.int .i64 (wrap64 (S.flushes + 1)))) F r s (S.flush s) gl cl ls (.slice none 0 0) [] :=
    h1.turn (h1.set 6 _).2 ((h1.set 6 _).1.trans (by simp [dkCells, DS.flush])) rfl rfl h1.ok.fuse
  refine ⟨cell_of_block h.blk (j := 1) rfl, frozen_of_block h.blk 1, cell_of_block h1.blk (j := 6) rfl, frozen_of_block h1.blk 6, (rspent_low r S.fuse _ (cell_of_block h2.blk (j := 2) rfl) (frozen_of_block h2.blk 2) h2.ok.fuse.1).mono ?_⟩
  rintro e w' ⟨rfl, rfl⟩
  have h5 := h2.spends
  exact ⟨rfl, ⟨gl, cl, ls, _, _, h5.1⟩, ((hk.trans hk1 (fun j hj => .inl (hj ▸ h.fr))).trans (h1.set 6 _).2 (fun j hj => .inl (hj ▸ h.fr))).trans h5.2 (fun j hj => .inl hj)⟩

set_option maxHeartbeats 4000000 in
set_option maxRecDepth 100000 in
theorem rflush_ok {w : World} {F : Nat → Prop} {r s : Nat} {S : DS} (hd : RefAt w F r s S) (hf : S.fuse ≠ 0) (hbig : S.puts.length + 1 ≤ 4000000000000) :
    Calls Try.prog 78 #[.pointer (some ⟨r, 0, none⟩)] w fun e w' => e = .returned (.int .i64 0) ∧ RefAt w' F r s ((S.flush s).spend) ∧ Keeps F w w' := by
  obtain ⟨gl, cl, ls, pv, xs, h⟩ := hd
  have c2 := cell_of_block h.blk (j := 2) rfl
  have hb : (S.fuse == 0) = false := by simp [hf]
  have hok := h.ok
  have h0 : RefRaw w F r s { S with im := imUp S s 0 } gl cl ls pv xs := by rw [imUp_zero h.ok]; exact h
  have Hok := Hid.mk hok
  clear h hf hok
  go_enter Try.func78, Try.ntmps78
  go_wp2
  clear c2
  go_loopw [3] (fun i wr => ∃ j : Nat, j ≤ S.puts.length ∧ i = .int .i64 (j : Int) ∧ ∃ ls, RefRaw wr F r s { S with im := imUp S s j } gl cl ls pv xs ∧ Keeps F w wr) (fun i _ => S.puts.length - (intOf i).toNat)
  case atStart => exact ⟨0, Nat.zero_le _, rfl, ls, h0, Keeps.refl _ _⟩
  case round =>
    clear h0
    obtain ⟨j, hj, rfl, ls, hd, hk⟩ := hrel
    obtain ⟨a, ca, hpv, hfo⟩ := hd.form
    have c0 := cell_of_block hd.blk (j := 0) rfl
    have c1 := cell_of_block hd.blk (j := 1) rfl
    rw [hpv] at c1
    have Hpv := Hid.mk hpv
    clear hpv
    by_cases hlt : j < S.puts.length
    · have hlt' : (j : Int) < (S.puts.length : Int) := by omega
      obtain ⟨gp, rfl, hp⟩ := hfo (by simp only; omega)
      obtain ⟨g, cg, p1, p2, hF, hr⟩ := hp j hlt
      have hks := (Hok.out.puts S.puts[j] (List.getElem_mem hlt)).1
      have hks' : ((S.puts[j].1 : Nat) : Int) < (s : Int) := by omega
      obtain ⟨q1, q2⟩ := hd.stored hks hF hr (imUp_len Hok.out (j + 1)) (imUp_succ Hok.out hlt)
      have fl := hd.last.frozen S.puts[j].1
      obtain ⟨gx, cx, hx1, _⟩ := hd.secs _ hks
      have cl0 := hd.last.cell hx1
      have hq := And.intro q1 (hk.trans q2 (fun b hb => .inl (hb ▸ hd.fl)))
      have hrl : r ≠ gl := fun e => hd.last.ne hd.blk (by decide) e.symm
      have hpl : gp ≠ gl := by
        have hb' := hd.last
        obtain ⟨cur, hbl, _⟩ := hb'
        exact ownsRow_ne hd.pend (by rw [Hpv.out]; rfl) hbl (by decide)
      have Hq := Hid.mk hq
      clear hq q1 q2 hp hr hd hfo hk hx1
      generalize S.puts[j].1 = kj at *
      have mo : ∀ b o v, b ≠ gl → (wr.setCell ⟨gl, kj, none⟩ v).cell? ⟨b, o, none⟩ = wr.cell? ⟨b, o, none⟩ := fun b o v hb => World.cell?_of_block (w := wr) (a := ⟨b, o, none⟩) (Below.heap_setCell wr ⟨gl, kj, none⟩ v b hb)
      have m0 := fun v => (mo r 0 v hrl).trans c0
      have m1 := fun v => (mo r 1 v hrl).trans c1
      have m2 := fun v => (mo gp (j * 2) v hpl).trans p1
      have m3 := fun v => (mo gp (j * 2 + 1) v hpl).trans p2
      have M := Hid.mk (And.intro m0 (And.intro m1 (And.intro m2 m3)))
      clear m0 m1 m2 m3 mo
      go_wp2_with fail
      go_region_held3 (fun w' => w'.cell? ⟨r, 0, none⟩ = some (.slice (some ⟨gl, 0, none⟩) s cl) ∧ w'.cell? ⟨r, 1, none⟩ = some (.slice (some ⟨gp, 0, none⟩) S.puts.length ca) ∧ w'.cell? ⟨gp, j * 2, none⟩ = some (.int .i64 (kj : Int)) ∧ w'.cell? ⟨gp, j * 2 + 1, none⟩ = some (.slice (some ⟨g, 0, none⟩) 512 cg)) (first | exact ⟨c0, c1, p1, p2⟩ | exact ⟨M.out.1 _, M.out.2.1 _, M.out.2.2.1 _, M.out.2.2.2 _⟩) (fail)
      all_goals
        go_wp2
        go_roundw
        case rel => exact ⟨j + 1, by omega, by go_num, _, Hq.out.1.agree (Nat.le_refl _) (fun _ _ => rfl), ⟨Hq.out.2.os, Hq.out.2.tape, Hq.out.2.output, Hq.out.2.size, Hq.out.2.block⟩⟩
        case measure => simp [intOf]; omega
    · have hlt' : ¬ (j : Int) < (S.puts.length : Int) := by omega
      have ej : j = S.puts.length := by omega
      rw [ej] at hd
      obtain ⟨d1, d2, d3, d4, hsp⟩ := rflush_fin hd hk
      rw [Hpv.out] at d1
      clear hd hk hfo ej
      go_wp2_with (go_at_call 75; refine hsp.mono ?_; rintro e w5 ⟨rfl, hd5, hk5⟩)
      go_ret
      exact ⟨rfl, hd5, hk5⟩
end Go.Proofs.Ytnolpafdkaloeaa
end
