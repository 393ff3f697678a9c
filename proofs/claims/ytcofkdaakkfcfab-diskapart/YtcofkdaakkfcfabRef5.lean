import Derived.Test.YtcofkdaakkfcfabRef4
import Derived.Test.YtcofkdaakkfcfabCrash
namespace Go.Proofs.Ytcofkdaakkfcfab
open Go.RowKit Go.Maps

/-- A list of candidates in memory. -/
def VS (w : World) (F : Nat → Prop) (S : DS) (k : Nat) (vs : List Value) : Prop :=
  vs.length = (pendOf S.puts k).length + 1 ∧ ∀ j, j < vs.length → ∃ g c, vs[j]? = some (.slice (some ⟨g, 0, none⟩) 512 c) ∧ F g ∧ RowAt w 5 g c (bs (S.cand k j))

theorem take_puts {S : DS} {i : Nat} (hi : i < S.puts.length) : S.puts.take (i + 1) = S.puts.take i ++ [S.puts[i]] := by rw [List.take_add_one, List.getElem?_eq_getElem hi]; rfl

theorem VS.skip {w : World} {F : Nat → Prop} {S : DS} {k i : Nat} {vs : List Value} (hi : i < S.puts.length) (h : VS w F { S with puts := S.puts.take i } k vs) (he : S.puts[i].1 ≠ k) : VS w F { S with puts := S.puts.take (i + 1) } k vs := by
  have hp : pendOf (S.puts.take (i + 1)) k = pendOf (S.puts.take i) k := by rw [take_puts hi, pendOf_append, pendOf_none (puts := [S.puts[i]]) (by simpa using he), List.append_nil]
  unfold VS DS.cand at *
  simp only [hp] at *
  exact h

theorem VS.snoc {w : World} {F : Nat → Prop} {S : DS} {k i : Nat} {vs : List Value} (hi : i < S.puts.length) (h : VS w F { S with puts := S.puts.take i } k vs) (he : S.puts[i].1 = k) {g c : Nat} (hF : F g) (hr : RowAt w 5 g c (bs S.puts[i].2)) :
    VS w F { S with puts := S.puts.take (i + 1) } k (vs ++ [.slice (some ⟨g, 0, none⟩) 512 c]) := by
  have hp : pendOf (S.puts.take (i + 1)) k = pendOf (S.puts.take i) k ++ [S.puts[i].2] := by rw [take_puts hi, pendOf_append]; simp [pendOf, he]
  obtain ⟨h1, h2⟩ := h
  simp only at h1
  refine ⟨by simp only [hp]; simp [h1], fun j hj => ?_⟩
  by_cases hj' : j < vs.length
  · obtain ⟨g', c', e1, e2, e3⟩ := h2 j hj'
    refine ⟨g', c', by rw [List.getElem?_append_left hj']; exact e1, e2, ?_⟩
    have : DS.cand { S with puts := S.puts.take (i + 1) } k j = DS.cand { S with puts := S.puts.take i } k j := by
      unfold DS.cand
      split
      · rfl
      · simp only [hp]
        rw [List.getD, List.getD, List.getElem?_append_left (by omega)]
    rw [this]
    exact e3
  · have ej : j = vs.length := by simp at hj; omega
    subst ej
    refine ⟨g, c, by simp, hF, ?_⟩
    have : DS.cand { S with puts := S.puts.take (i + 1) } k vs.length = S.puts[i].2 := by
      unfold DS.cand
      rw [if_neg (by omega)]
      simp only [hp, h1, Nat.add_sub_cancel]
      simp [List.getD]
    rw [this]
    exact hr

theorem VS.start {w : World} {F : Nat → Prop} {S : DS} {k g c : Nat} (hF : F g) (hr : RowAt w 5 g c (bs (sec S.im k))) :
    VS w F { S with puts := S.puts.take 0 } k [.slice (some ⟨g, 0, none⟩) 512 c] := by
  refine ⟨by simp [pendOf], fun j hj => ?_⟩
  have : j = 0 := by simp at hj; omega
  subst this
  exact ⟨g, c, rfl, hF, hr⟩

set_option maxHeartbeats 2000000 in
theorem rcands_at {w : World} {F : Nat → Prop} {r s : Nat} {S : DS} {gl cl : Nat} {ls : List Value} {pv : Value} {xs : List Value} (h : RefRaw w F r s S gl cl ls pv xs) (k : Nat) (hk : k < s) (hbig : S.puts.length + 1 ≤ 4000000000000) :
    Calls Try.prog 59 #[.pointer (some ⟨r, 0, none⟩), .int .i64 (k : Int)] w fun e w' => ∃ g c vs, e = .returned (.slice (some ⟨g, 0, none⟩) ((pendOf S.puts k).length + 1) c) ∧ w.heap.size ≤ g ∧ RowAt w' 22 g c vs ∧ VS w F S k vs ∧ Below w.heap.size w w' := by
  obtain ⟨i0, hi0, hz0, hz1, hz2⟩ := info_parts infoRow
  obtain ⟨a, c, rfl, hpu⟩ := h.form
  have c0 := cell_of_block h.blk (j := 0) rfl
  have c1 := cell_of_block h.blk (j := 1) rfl
  obtain ⟨gs, cs, hls, hFs, hrs⟩ := h.secs k hk
  have cs0 := h.last.cell hls
  have hst := VS.start (S := S) hFs hrs
  have hrl := h.lt r h.fr
  have hgl := h.lt gl h.fl
  have Hpu := Hid.mk hpu
  have Hst := Hid.mk hst
  have hks : (k : Int) < (s : Int) := by omega
  clear h hpu hrs hls hst
  go_enter Try.func59, Try.ntmps59
  go_wp2
  go_loopw [5, 6] (fun v i wr => ∃ j : Nat, j ≤ S.puts.length ∧ i = .int .i64 (j : Int) ∧ ∃ vs, wr.ownsRow w.heap.size 22 1 v ((pendOf (S.puts.take j) k).length + 1) vs ∧ VS w F { S with puts := S.puts.take j } k vs ∧ Below w.heap.size w wr) (fun _ i _ => S.puts.length - (intOf i).toNat)
  case atStart =>
    refine ⟨0, Nat.zero_le _, rfl, _, ?_, Hst.out, (Below.refl _ w).alloc (Nat.le_refl _) _⟩
    exact ⟨by simp [pendOf], .inr ⟨w.heap.size, 1, #[.slice (some ⟨gs, 0, none⟩) 512 cs], by simp [pendOf], Nat.le_refl _, heap_alloc_new _ _, by simp [pendOf], by decide, by simp, by simp [pendOf]⟩⟩
  case round =>
    clear Hst cs0
    obtain ⟨j, hj, rfl, vs, hown, hvs, hb⟩ := hrel
    have d1 := cell_later hb c1
    by_cases hlt : j < S.puts.length
    · have hlt' : (j : Int) < (S.puts.length : Int) := by omega
      obtain ⟨gp, rfl, hp⟩ := Hpu.out (by omega)
      obtain ⟨g, cg, p1, p2, hF, hr⟩ := hp j hlt
      have q1 := cell_later hb p1
      have q2 := cell_later hb p2
      have hpl := pendOf_len (S.puts.take j) k
      have hpl2 : (S.puts.take j).length ≤ S.puts.length := by rw [List.length_take]; omega
      by_cases he : S.puts[j].1 = k
      · have hv2 := Hid.mk (VS.snoc hlt hvs he hF hr)
        have hp2 : (pendOf (S.puts.take (j + 1)) k).length = (pendOf (S.puts.take j) k).length + 1 := by rw [take_puts hlt, pendOf_append]; simp [pendOf, he]
        have Hp2 := Hid.mk hp2
        rw [he] at q1
        have Hown := Hid.mk hown
        clear hp hr hvs hp2 p1 p2 hown he
        go_wp2_with (at_builtin; refine wpList_append_own _ rfl _ _ 36 rfl w.heap.size 22 i0 (.slice none 0 0) 1 24 Try.underlying36 hi0 hz0 hz1 hz2 rfl (by decide) _ _ _ rfl (Hown.out.alloc _) ⟨wr.heap.size, 0, none⟩ 1 1 [.slice (some ⟨g, 0, none⟩) 512 cg] rfl rfl (cell_one_new _ _ _) (by intro u hu; simp at hu; subst hu; rfl) (by unfold maxLen; omega) (by omega) (by simp; have := hb.size; omega) ?_)
        intro v' w3 hown' hgrow hnil
        have hgr2 : ∀ b, u5.ownBlock = some b → w.heap.size ≤ b := fun b e => (Hown.out.lt b e).1
        have hb3 : Below w.heap.size w w3 := (hb.alloc hb.size _).grown hgrow (by simp; have := hb.size; omega) (fun b e => hgr2 b e)
        have hown2 : w3.ownsRow w.heap.size 22 1 v' ((pendOf (S.puts.take (j + 1)) k).length + 1) (vs ++ [.slice (some ⟨g, 0, none⟩) 512 cg]) := by rw [Hp2.out]; exact hown'
        have Hown2 := Hid.mk hown2
        clear hown' hgrow hnil hown2 Hown hgr2 q1 q2 d1
        go_wp2
        go_roundw
        case rel => exact ⟨j + 1, by omega, by go_num, _, Hown2.out, hv2.out, hb3⟩
        case measure => simp [intOf]; omega
      · have hne : (((S.puts[j].1 : Nat) : Int) == (k : Int)) = false := by rw [Bool.eq_false_iff, ne_eq, beq_iff_eq]; omega
        have hv2 := Hid.mk (VS.skip hlt hvs he)
        have hp2 : pendOf (S.puts.take (j + 1)) k = pendOf (S.puts.take j) k := by rw [take_puts hlt, pendOf_append, pendOf_none (puts := [S.puts[j]]) (by simpa using he), List.append_nil]
        rw [← hp2] at hown
        have Hown := Hid.mk hown
        clear hp hr hvs hp2 p1 p2 hown he q2
        go_wp2
        go_roundw
        case rel => exact ⟨j + 1, by omega, by go_num, _, Hown.out, hv2.out, hb⟩
        case measure => simp [intOf]; omega
    · have hlt' : ¬ (j : Int) < (S.puts.length : Int) := by omega
      have ej : j = S.puts.length := by omega
      subst ej
      rw [List.take_length] at hown hvs
      obtain ⟨g, cg, hv, hg, hr, _⟩ := RowAt.of_owns hown (by rintro rfl; rcases hown.2 with ⟨_, h⟩ | ⟨_, _, _, h, _⟩; omega; cases h)
      have Hq := Hid.mk (And.intro hg (And.intro hr hvs))
      subst hv
      clear hown hvs hr hg
      go_wp2
      go_ret
      exact ⟨g, cg, rfl, Hq.out.1, vs, Hq.out.2.1, Hq.out.2.2, hb⟩
theorem floor_low (x : Int) (y : Nat) (h : max x 0 = (y : Int)) (w : World) :
    Calls Try.prog 68 #[.int .i64 x] w fun e w' => e = .returned (.int .i64 (y : Int)) ∧ w' = w := by
  by_cases hx : x < 0
  · have hy : (y : Int) = 0 := by omega
    rw [hy]
    clear h hy
    go_enter Try.func68, Try.ntmps68
    go_wp2
    go_ret
    exact ⟨rfl, rfl⟩
  · have hy : (y : Int) = x := by omega
    rw [hy]
    clear h hy
    go_enter Try.func68, Try.ntmps68
    go_wp2
    go_ret
    exact ⟨rfl, rfl⟩

theorem splice_set (la lb : List Int) (j : Nat) (hla : j < la.length) (hlb : j < lb.length) : (la.take j ++ lb.drop j).set j la[j] = la.take (j + 1) ++ lb.drop (j + 1) := by
  have e1 : (la.take j).length = j := by rw [List.length_take]; omega
  have e2 : lb.drop j = lb[j] :: lb.drop (j + 1) := List.drop_eq_getElem_cons hlb
  have e3 : la.take (j + 1) = la.take j ++ [la[j]] := by rw [List.take_add_one, List.getElem?_eq_getElem hla]; rfl
  rw [List.set_append_right _ _ (by omega), e1, Nat.sub_self, e2, e3, List.set_cons_zero, List.append_assoc]
  rfl

set_option maxRecDepth 100000 in
set_option maxHeartbeats 2000000 in
theorem rtorn_at {w : World} {F : Nat → Prop} {S : DS} {k s : Nat} (hok : S.Ok s) (hks : k < s) {g c : Nat} {vs : List Value} (hr : RowAt w 22 g c vs) (hv : VS w F S k vs)
    (A B C : Int) (A' B' C' : Nat) (hA : max A 0 = (A' : Int)) (hB : max B 0 = (B' : Int)) (hC : max C 0 = (C' : Int)) (hAb : A ≤ 9223372036854775807) (hBb : B ≤ 9223372036854775807) (hCb : C ≤ 9223372036854775807) :
    Calls Try.prog 60 #[.slice (some ⟨g, 0, none⟩) ((pendOf S.puts k).length + 1) c, .agg #[.int .i64 A, .int .i64 B, .int .i64 C]] w fun e w' => ∃ g', e = .returned (.slice (some ⟨g', 0, none⟩) 512 512) ∧ w.heap.size ≤ g' ∧ RowAt w' 5 g' 512 (bs (tornOf S k A' B' C')) ∧ Below w.heap.size w w' := by
  have hpn := pendOf_len S.puts k
  have hvl := hv.1
  have hm1 : ∀ j : Nat, (j : Int) % (((pendOf S.puts k).length : Int) + 1) = ((j % ((pendOf S.puts k).length + 1) : Nat) : Int) := fun j => by push_cast; rfl
  have hm2 : ∀ j : Nat, j % ((pendOf S.puts k).length + 1) < (pendOf S.puts k).length + 1 := fun j => Nat.mod_lt _ (by omega)
  obtain ⟨ja, hja⟩ : ∃ ja, ja = A' % ((pendOf S.puts k).length + 1) := ⟨_, rfl⟩
  obtain ⟨jb, hjb⟩ : ∃ jb, jb = B' % ((pendOf S.puts k).length + 1) := ⟨_, rfl⟩
  have hja2 : ja < (pendOf S.puts k).length + 1 := hja ▸ hm2 A'
  have hjb2 : jb < (pendOf S.puts k).length + 1 := hjb ▸ hm2 B'
  have hmA := hm1 A'
  have hmB := hm1 B'
  rw [← hja] at hmA
  rw [← hjb] at hmB
  obtain ⟨ga, ca, ea, hFa, hra⟩ := hv.2 ja (by omega)
  obtain ⟨gb, cb, eb, hFb, hrb⟩ := hv.2 jb (by omega)
  have ka := hr.cell ea
  have kb := hr.cell eb
  have hgw := hr.lt
  have hla := DS.cand_len hok hks (j := ja) (by omega)
  have hlb := DS.cand_len hok hks (j := jb) (by omega)
  have hCm : (C' : Int) % 513 = ((C' % 513 : Nat) : Int) := by push_cast; rfl
  obtain ⟨cut, hcut⟩ : ∃ cut, cut = C' % 513 := ⟨_, rfl⟩
  rw [← hcut] at hCm
  have hcut2 : cut ≤ 512 := by omega
  have hfA := floor_low A A' hA
  have hfB := floor_low B B' hB
  have hfC := floor_low C C' hC
  have hA2 : (A' : Int) ≤ 9223372036854775807 := by omega
  have hB2 : (B' : Int) ≤ 9223372036854775807 := by omega
  have hC2 : (C' : Int) ≤ 9223372036854775807 := by omega
  have hja3 : (ja : Int) < ((pendOf S.puts k).length : Int) + 1 := by omega
  have hjb3 : (jb : Int) < ((pendOf S.puts k).length : Int) + 1 := by omega
  have hte : tornOf S k A' B' C' = (S.cand k ja).take cut ++ (S.cand k jb).drop cut := by unfold tornOf; rw [← hja, ← hjb, ← hcut]
  rw [hte]
  have Hra := Hid.mk hra
  have Hrb := Hid.mk hrb
  have Hla := Hid.mk hla
  have Hlb := Hid.mk hlb
  clear hA hB hC hAb hBb hCb hm1 hm2 hcut hja hjb hte hra hrb hr hv hvl ea eb hja2 hjb2 hla hlb
  generalize S.cand k ja = la at *
  generalize S.cand k jb = lb at *
  go_enter Try.func60, Try.ntmps60
  go_wp2_with fail
  refine (hfA _).mono ?_
  rintro e w1 ⟨rfl, hw⟩
  have hw' := hw.symm; subst hw'; clear hw
  go_wp2_with fail
  refine (hfB _).mono ?_
  rintro e w1 ⟨rfl, hw⟩
  have hw' := hw.symm; subst hw'; clear hw
  go_wp2_with fail
  refine (hfC _).mono ?_
  rintro e w1 ⟨rfl, hw⟩
  have hw' := hw.symm; subst hw'; clear hw
  have hsb : Src (w.alloc (.cells #[.int .i64 A, .int .i64 B, .int .i64 C] 45)) (some ⟨gb, 0, none⟩) 512 lb := by
    have := Hrb.out.src
    rw [Hlb.out] at this
    exact this.later ((Below.refl _ w).alloc (Nat.le_refl _) _)
  have htw := rtwin_any (some ⟨gb, 0, none⟩) 512 cb lb _ (by omega) hsb
  clear hsb
  go_wp2_with (go_at_call 55; refine htw.mono ?_; rintro e w2 ⟨g', rfl, hg', hr', hb'⟩)
  have hb2 : Below w.heap.size w w2 := ((Below.refl _ w).alloc (Nat.le_refl _) _).trans (hb'.mono (by simp))
  have hg2 : w.heap.size ≤ g' := by simp at hg'; omega
  have hf2 : w2.heap[g']? = some (.cells (bs (la.take 0 ++ lb.drop 0)).toArray 5 (0, 0)) := by simpa using hr'.full (by simp [bs, Hlb.out])
  have Hf2 := Hid.mk hf2
  clear hr' hb' hg' htw hf2 hfA hfB hfC ka kb
  go_loopw [9] (fun i wr => ∃ j : Nat, j ≤ cut ∧ i = .int .i64 (j : Int) ∧ wr.heap[g']? = some (.cells (bs (la.take j ++ lb.drop j)).toArray 5 (0, 0)) ∧ Below w.heap.size w wr) (fun i _ => cut - (intOf i).toNat)
  case atStart => exact ⟨0, Nat.zero_le _, rfl, Hf2.out, hb2⟩
  case round =>
    clear hb2 Hf2
    obtain ⟨j, hj, rfl, hh, hb⟩ := hrel
    have Hh := Hid.mk hh
    clear hh
    by_cases hlt : j < cut
    · have hlt' : (j : Int) < (cut : Int) := by omega
      have hj5 : (j : Int) < 512 := by omega
      have hja : j < la.length := by have := Hla.out; omega
      have hjb : j < lb.length := by have := Hlb.out; omega
      have ca1 : wr.cell? ⟨ga, j, none⟩ = some (.int .u8 la[j]) := by
        have := Hra.out.byte hja
        rw [addr_add, Nat.zero_add] at this
        have h2 := cell_later hb this
        simpa [List.getD, List.getElem?_eq_getElem hja] using h2
      have hlen : (la.take j ++ lb.drop j).length = 512 := by rw [List.length_append, List.length_take, List.length_drop]; have := Hla.out; have := Hlb.out; omega
      have cb1 : ∃ u, wr.cell? ⟨g', j, none⟩ = some u := ⟨_, cell_of_block Hh.out (j := j) (by simp only [List.getElem?_toArray]; exact List.getElem?_eq_getElem (by simp [bs]; have := Hla.out; have := Hlb.out; omega))⟩
      obtain ⟨u, cb1⟩ := cb1
      have fb1 := frozen_of_block Hh.out j
      have hh2 : (wr.setCell ⟨g', j, none⟩ (.int .u8 la[j])).heap[g']? = some (.cells (bs (la.take (j + 1) ++ lb.drop (j + 1))).toArray 5 (0, 0)) := by
        rw [heap_setCell_same _ _ _ _ _ _ Hh.out, ← splice_set la lb j hja hjb]
        simp [bs, List.map_set]
      have Hh2 := Hid.mk (And.intro hh2 (hb.setCell (p := ⟨g', j, none⟩) hg2 (.int .u8 la[j])))
      clear hh2 Hh hlen
      generalize la[j] = y at *
      go_wp2
      go_roundw
      case rel => exact ⟨j + 1, by omega, by go_num, Hh2.out.1, Hh2.out.2⟩
      case measure => simp [intOf]; omega
    · have hlt' : ¬ (j : Int) < (cut : Int) := by omega
      have ej : j = cut := by omega
      subst ej
      have hrr : RowAt wr 5 g' 512 (bs (la.take j ++ lb.drop j)) := by
        have hl5 : (bs (la.take j ++ lb.drop j)).length = 512 := by simp only [bs, List.length_map, List.length_append, List.length_take, List.length_drop]; have := Hla.out; have := Hlb.out; omega
        have := RowAt.of_full Hh.out (by rw [hl5]; decide)
        rw [hl5] at this
        exact this
      have Hrr := Hid.mk hrr
      clear hrr Hh
      go_wp2
      go_ret
      refine ⟨g', rfl, hg2, ?_, hb⟩
      have hx := Hrr.out
      simp only [bs, List.map_append, List.map_take, List.map_drop] at hx
      exact hx
end Go.Proofs.Ytcofkdaakkfcfab
