import Derived.Test.YtkkmkogpbhcpmaaWrote
import Derived.Deep.RegionHeld3
import Derived.Deep.AppendLies
namespace Go.Proofs.Ytkkmkogpbhcpmaa
open Go.RowKit Go.Maps

def DS.wrote (S : DS) : DS := { S with writes := wrap64 (S.writes + 1) }

theorem more_mono {F : Nat → Prop} {w w' w'' : World} (h : w'.heap.size ≤ w''.heap.size) : ∀ k, more F w w' k → more F w w'' k := fun k hk => by
  rcases hk with hk | hk
  · exact .inl hk
  · exact .inr ⟨hk.1, by omega⟩

/-- The two stores at a Write's end (and at a Flush's). -/
theorem spend_fin {w w4 : World} {F : Nat → Prop} {p s : Nat} {S : DS} {gi ci m : Nat} {D : DataW Value} {gr cr : Nat → Nat} (hF : F p) (h : DiskRaw w4 (more F w w4) p s S gi ci m D gr cr) (hk : Keeps F w w4) :
    DiskAt (if 0 < S.fuse then w4.setCell ⟨p, 2, none⟩ (.int .i64 (wrap64 (S.fuse - 1))) else w4) (more F w (if 0 < S.fuse then w4.setCell ⟨p, 2, none⟩ (.int .i64 (wrap64 (S.fuse - 1))) else w4)) p s S.spend ∧
      Keeps F w (if 0 < S.fuse then w4.setCell ⟨p, 2, none⟩ (.int .i64 (wrap64 (S.fuse - 1))) else w4) := by
  obtain ⟨h1, _⟩ := h.spends
  have hsz : (if 0 < S.fuse then w4.setCell ⟨p, 2, none⟩ (.int .i64 (wrap64 (S.fuse - 1))) else w4).heap.size = w4.heap.size := by split <;> simp [World.setCell]
  have hk2 : Keeps (fun k => k = p) w4 (if 0 < S.fuse then w4.setCell ⟨p, 2, none⟩ (.int .i64 (wrap64 (S.fuse - 1))) else w4) := by
    split
    · exact Keeps.setCell (F := fun k => k = p) w4 (p := ⟨p, 2, none⟩) rfl _
    · exact Keeps.refl _ _
  refine ⟨DiskAt.mono ⟨gi, ci, m, D, gr, cr, h1⟩ (more_mono (Nat.le_of_eq hsz.symm)) (fun k hk' => ?_), hk.trans hk2 (fun j hj => .inl (hj ▸ hF))⟩
  rw [hsz]
  rcases hk' with h' | h'
  · exact h.lt k (.inl h')
  · rw [hsz] at h'; exact h'.2

set_option maxHeartbeats 4000000 in
set_option maxRecDepth 100000 in
theorem write_ok {w : World} {F : Nat → Prop} {p s : Nat} {S : DS} (hd : DiskAt w F p s S) (k : Nat) (hk : k < s) (hf : S.fuse ≠ 0) (hbig : S.puts.length + 1 ≤ 5000000000000)
    (x : Addr) (c : Nat) (l : List Int) (hsrc : Src w (some x) 512 l) :
    Calls Try.prog 12 #[.pointer (some ⟨p, 0, none⟩), .int .i64 (k : Int), .slice (some x) 512 c] w fun e w' => e = .returned (.int .i64 0) ∧ DiskAt w' (more F w w') p s ((S.put k l).wrote.spend) ∧ Keeps F w w' := by
  have hb := burnt_at hd
  rw [show (S.fuse == 0) = false by simp [hf]] at hb
  obtain ⟨gi, ci, m, D, gr, cr, h⟩ := hd
  have hs := h.ok.hi
  have hh := has_low p _ (s * 512) ci k w (by omega) (cell_of_block h.blk (j := 0) rfl)
  rw [show s * 512 / 512 = s by omega, show (decide (0 ≤ (k : Int)) && decide ((k : Int) < (s : Int))) = true by simp; omega] at hh
  obtain ⟨a, cc, xs, hlook, howns, hrows, hnil, hsome⟩ := h.sector hk
  obtain ⟨i0, hi0, hz0, hz1, hz2⟩ := info_parts infoRow
  have hpl := h.lt p h.fp
  have hml := h.lt m h.fm
  have hpn := pendOf_len S.puts k
  have hcell : ∀ wx : World, wx.heap[p]? = w.heap[p]? → wx.cell? ⟨p, 1, none⟩ = some (.map (some m)) := fun wx e => cell_of_block (e.trans h.blk) (j := 1) rfl
  have Hsrc := Hid.mk hsrc
  have Hlook := Hid.mk hlook
  have Howns := Hid.mk howns
  have Hcell := Hid.mk hcell
  have H := Hid.mk h
  have Hrows := Hid.mk hrows
  have Hnil := Hid.mk hnil
  have Hsome := Hid.mk hsome
  have hll := hsrc.1
  have hl0 := hlook w.drew rfl
  clear h hsrc hlook howns hrows hnil hsome hcell
  go_enter Try.func12, Try.ntmps12
  go_wp2_with (first | (go_at_call 11; refine hb.mono ?_; rintro e w' ⟨rfl, hw⟩; have hw' := hw.symm; subst hw') | (go_at_call 59; refine hh.mono ?_; rintro e w' ⟨rfl, hw⟩; have hw' := hw.symm; subst hw'))
  go_region_held3 (fun w' => w'.cell? ⟨p, 1, none⟩ = some (.map (some m)))
    ((refine Hcell.out _ ?_; first | rfl | assumption | (refine (Below.heap_alloc _ _ _ (Nat.lt_of_lt_of_le ?_ hb1.size)).trans ?_ <;> assumption)))
    (first
      | (go_at_call 61; refine (clone_low x 512 c l w.drew hll (by omega) (fun i hi => Hsrc.out.2.2 _ rfl i hi)).mono ?_; rintro e w1 ⟨g, cg, rfl, hg, hr, hb0⟩; have hb1 : Below w.heap.size w w1 := ⟨hb0.os, hb0.tape, hb0.output, hb0.size, hb0.block⟩; clear hb0; have hp1 : w1.heap[p]? = w.heap[p]? := hb1.block p hpl; have hm1 : w1.heap[m]? = w.heap[m]? := hb1.block m hml; have hl1 := Hlook.out w1 hm1; have hl2 := fun o => Hlook.out (w1.alloc o) ((Below.heap_alloc w1 o m (Nat.lt_of_lt_of_le hml hb1.size)).trans hm1))
      | (refine step_append_lies _ (by rfl) _ _ _ (by rfl) 0 27 i0 _ 1 24 Try.underlying42 hi0 hz0 hz1 hz2 rfl (by omega) (.slice a (pendOf S.puts k).length cc) (pendOf S.puts k).length xs (by rfl) (Howns.out _ (fun hp => (Below.heap_alloc w1 _ _ (Nat.lt_of_lt_of_le (H.out.lt _ (H.out.pend.row k hp).1) hb1.size)).trans (hb1.block _ (H.out.lt _ (H.out.pend.row k hp).1))))
          ⟨w1.heap.size, 0, none⟩ 1 1 [.slice (some ⟨g, 0, none⟩) 512 cg] (by rfl) (by rfl) (World.news_of_block (cs := #[.slice (some ⟨g, 0, none⟩) 512 cg]) (t := 27) (fr := (0, 0)) (heap_alloc_new w1 _)) (by simp [Value.oneCell']) (by omega) (by unfold maxLen; omega) (by omega) (Nat.zero_le _) (w1.heap.size + 1) (by simp) ?_; intro g2 cap2 w2 hown2 hgrow2 hat2 hlt2; obtain ⟨hp2, hm2, w3, hrun3, hd3, hk3, hp3⟩ := write_end H.out hk hll Hrows.out Hnil.out Hsome.out hb1 hg hr hown2 hgrow2 hat2 hbig))
  all_goals
    have HFp := Hid.mk H.out.fp
    have c5 := cell_of_block hd3.blk (j := 5) rfl
    have f5 := frozen_of_block hd3.blk 5
    have hd4 := hd3.wrotes
    have hk4 : Keeps F w (w3.setCell ⟨p, 5, none⟩ (.int .i64 (wrap64 ((S.put k l).writes + 1)))) := hk3.trans (Keeps.setCell (F := fun k => k = p) w3 (p := ⟨p, 5, none⟩) rfl _) (fun j hj => .inl (hj ▸ HFp.out))
    have hsp := spend_low p (S.put k l).fuse _ (cell_of_block hd4.blk (j := 2) rfl) (frozen_of_block hd4.blk 2) hd4.ok.fuse.1
    have hsz : (w3.setCell ⟨p, 5, none⟩ (.int .i64 (wrap64 ((S.put k l).writes + 1)))).heap.size = w3.heap.size := by simp [World.setCell]
    have he : more F w (w3.setCell ⟨p, 5, none⟩ (.int .i64 (wrap64 ((S.put k l).writes + 1)))) = more F w w3 := by unfold more; rw [hsz]
    rw [← he] at hd4
    have hs2 : Calls Try.prog 62 #[.pointer (some ⟨p, 0, none⟩)] (w3.setCell ⟨p, 5, none⟩ (.int .i64 (wrap64 ((S.put k l).writes + 1)))) fun e w' => e = .returned (.tuple #[]) ∧ DiskAt w' (more F w w') p s ((S.put k l).wrote.spend) ∧ Keeps F w w' :=
      hsp.mono (by rintro e w' ⟨rfl, rfl⟩; exact ⟨rfl, spend_fin HFp.out hd4 hk4⟩)
    clear he hsp hd4 hk4 hsz hd3 hk3 hl0 hl1 hl2 hb hh hr hb1 hown2 hgrow2 hat2 hlt2 hrun3 hp1 hp2 hp3 hm1 hm2 H Hsrc Hlook Howns Hcell Hrows Hnil Hsome
    go_wp2_with (go_at_call 62; refine hs2.mono ?_; rintro e w5 ⟨rfl, hd5, hk5⟩)
    go_ret
    exact ⟨rfl, hd5, hk5⟩
end Go.Proofs.Ytkkmkogpbhcpmaa
