import Derived.Test.YtkkmkogpbhcpmaaXReload
namespace Go.Proofs.Ytkkmkogpbhcpmaa
open Go.RowKit Go.Maps

def secOf (l : List Int) : List Int := splice (List.replicate 512 0) 0 (l.take 512)
theorem secOf_len (l : List Int) : (secOf l).length = 512 := by
  simp only [secOf, splice, List.length_append, List.length_take, List.length_drop, List.length_replicate]
  omega

set_option maxHeartbeats 2000000 in
theorem sector_any (a : Option Addr) (n c : Nat) (l : List Int) (w : World) (hs : Src w a n l) :
    Calls Try.prog 23 #[.slice a n c] w fun e w' => ∃ g, e = .returned (.slice (some ⟨g, 0, none⟩) 512 512) ∧ w.heap.size ≤ g ∧ Src w' (some ⟨g, 0, none⟩) 512 (secOf l) ∧ Below w.heap.size w w' := by
  obtain ⟨i0, hi, hz0, hz1, hz2⟩ := info_parts infoU8
  have H := Hid.mk hs
  clear hs
  go_enter Try.func23, Try.ntmps23
  go_wp2_with (at_make; refine wpList_make_full _ rfl _ _ 27 rfl w.heap.size 5 i0 (.int .u8 0) 1 Try.underlying27 hi hz0 hz1 _ _ _ _ 512 rfl rfl (by omega) (by omega) (by rw [hz2]; omega) (by unfold maxLen; omega) (Nat.le_refl _) ?_)
  intro w1 hown hgrow
  have hr := made_row (n := 512) hown
  have hb : Below w.heap.size w w1 := (Below.refl _ w).grown hgrow (Nat.le_refl _) (by intro k hk; cases hk)
  have hf := hr.full (by simp only [bs, List.length_map, List.length_replicate])
  have hs1 := H.out.later hb
  clear hown hgrow
  obtain ⟨w2, hrun, hh, hk, _⟩ := copy_run w1 3 (some ⟨w.heap.size, 0, none⟩) w.heap.size 0 512 512 a n c (bs (List.replicate 512 0)) l hf hs1 (fun _ => rfl) (by simp only [bs, List.length_map, List.length_replicate]; omega)
  have hb2 : Below w.heap.size w w2 := hb.trans (hk.below (fun k h => by omega) hb.size)
  have hr2 : Src w2 (some ⟨w.heap.size, 0, none⟩) 512 (secOf l) := by
    have e : splice (bs (List.replicate 512 0)) 0 (bs (l.take 512)) = bs (secOf l) := by
      simp only [splice, bs, secOf, List.map_append, List.map_take, List.map_drop, List.length_take, List.length_map]
    rw [e] at hh
    have := (RowAt.of_full hh (by simp [bs, maxLen, secOf_len])).src
    rwa [secOf_len] at this
  clear hh hf hr hs1 hb hk
  go_wp2
  go_ret
  exact ⟨w.heap.size, rfl, Nat.le_refl _, hr2, hb2⟩

theorem now_put (S : DS) (k : Nat) (l : List Int) : (S.put k l).now k = l := by
  have e : pendOf (S.put k l).puts k = pendOf S.puts k ++ [l] := by simp [DS.put, pendOf]
  simp [DS.now, DS.cand, e]

/-- A disk and what has been told since w0. -/
structure Dk (w0 w : World) (F : Nat → Prop) (p s : Nat) (S : DS) : Prop where
  d : DiskAt w F p s S
  lo : ∀ k, F k → w0.heap.size ≤ k
  bel : Below w0.heap.size w0 w

theorem Dk.step {w0 w w' : World} {F : Nat → Prop} {p s : Nat} {S S' : DS} (h : Dk w0 w F p s S) (hd : DiskAt w' (more F w w') p s S') (hk : Keeps F w w') : Dk w0 w' (more F w w') p s S' :=
  ⟨hd, fun k hk' => by rcases hk' with h1 | h1; exact h.lo k h1; have := h.bel.size; omega, h.bel.trans (hk.below h.lo h.bel.size)⟩
theorem Dk.same {w0 w w' : World} {F : Nat → Prop} {p s : Nat} {S S' : DS} (h : Dk w0 w F p s S) (hd : DiskAt w' F p s S') (hk : Keeps F w w') : Dk w0 w' F p s S' :=
  ⟨hd, h.lo, h.bel.trans (hk.below h.lo h.bel.size)⟩
theorem Dk.later {w0 w w' : World} {F : Nat → Prop} {p s : Nat} {S : DS} (h : Dk w0 w F p s S) (hb : Below w.heap.size w w') : Dk w0 w' F p s S :=
  ⟨h.d.keep (Keeps.of_below (fun _ => False) hb) (fun _ _ h => h), h.lo, h.bel.trans (hb.mono h.bel.size)⟩

/-- A list of bytes of the caller's own. -/
structure Own (w : World) (F : Nat → Prop) (g n : Nat) (l : List Int) : Prop where
  src : Src w (some ⟨g, 0, none⟩) n l
  lt : g < w.heap.size
  nf : ¬ F g
theorem Own.keeps {w w' : World} {F : Nat → Prop} {g n : Nat} {l : List Int} (h : Own w F g n l) (hk : Keeps F w w') : Own w' F g n l := ⟨h.src.keepsG hk h.nf, Nat.lt_of_lt_of_le h.lt hk.size, h.nf⟩
theorem Own.more {w w' : World} {F : Nat → Prop} {g n : Nat} {l : List Int} (h : Own w F g n l) (hk : Keeps F w w') : Own w' (more F w w') g n l := ⟨h.src.keepsG hk h.nf, Nat.lt_of_lt_of_le h.lt hk.size, fun hm => by rcases hm with h1 | h1; exact h.nf h1; have := h.lt; omega⟩
theorem Own.later {w w' : World} {F : Nat → Prop} {g n : Nat} {l : List Int} (h : Own w F g n l) (hb : Below w.heap.size w w') : Own w' F g n l := ⟨h.src.later hb, Nat.lt_of_lt_of_le h.lt hb.size, h.nf⟩
theorem Own.new {w0 w w' : World} {F : Nat → Prop} {p s : Nat} {S : DS} {g n : Nat} {l : List Int} (h : Dk w0 w F p s S) (hs : Src w' (some ⟨g, 0, none⟩) n l) (hn : 0 < n) (hg : w.heap.size ≤ g) : Own w' F g n l :=
  ⟨hs, by have := World.block_lt_of_cell? _ _ (hs.2.2 _ rfl 0 hn); rw [addr_add] at this; exact this, fun hf => by have := h.d.lt g hf; omega⟩

theorem flush_im {S : DS} {s : Nat} (h : S.Ok s) {k : Nat} (hk : k < s) : sec (S.flush s).im k = S.now k := sec_imOf s _ (now_len h) k hk
theorem crash_flat {S : DS} {s : Nat} (h : S.Ok s) (hp : S.puts = []) (pl : List P3) : (S.crash s pl).im = S.im := by
  show imOf s (cutOf S pl) = S.im
  refine im_ext s (imOf_len s _ (cut_len h pl)) h.len (fun k hk => ?_)
  rw [sec_imOf s _ (cut_len h pl) k hk]
  simp [cutOf, hp, pendOf]

/-- Behind the script: the disk has power, and no fuse. -/
theorem lay_off (S : DS) (hf : S.fuse ≠ 0) : (S.lay (-1)).fuse = -1 := by simp [DS.lay, hf]
theorem spend_off {S : DS} (h : S.fuse = -1) : S.spend.fuse = -1 := by simp [DS.spend, h]

end Go.Proofs.Ytkkmkogpbhcpmaa
