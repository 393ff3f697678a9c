import Derived.Test.YtkgnkdnipcacgaaTE1
import Derived.Test.YtkgnkdnipcacgaaTE3
namespace Go.Proofs.Ytkgnkdnipcacgaa
open Go.RowKit Go.Maps

theorem below_drew1 {w W : World} {B : Nat} (h : Below B w W) : Below B w W.drew := ⟨h.os, h.tape, h.output, h.size, h.block⟩
set_option maxRecDepth 100000 in
set_option maxHeartbeats 8000000 in
theorem joined_any {B : Nat} {w : World} {F : Nat → Prop} {q cq s : Nat} {h : Nat → List Int} (hm : MayAt B w F q cq s (fun k => [h k])) (hs : s ≤ 2048) (hlen : ∀ k, k < s → (h k).length = 512) :
    Calls Try.prog 21 #[.slice (some ⟨q, 0, none⟩) s cq] w fun e w' => ∃ a c, e = .returned (.slice a (s * 512) c) ∧ Src w' a (s * 512) (imOf s h) ∧ Below w.heap.size w w' := by
  obtain ⟨i0, hi0, hz0, hz1, hz2⟩ := info_parts infoU8
  have HM := Hid.mk hm
  have HLn := Hid.mk hlen
  clear hm hlen
  go_enter Try.func21, Try.ntmps21
  go_wp2
  go_loopw [3, 4] (fun v i wr => ∃ j : Nat, j ≤ s ∧ i = .int .i64 (j : Int) ∧ wr.ownsRow w.heap.size 5 1 v (j * 512) (bs (imOf j h)) ∧ Below w.heap.size w wr) (fun _ i _ => s - (intOf i).toNat)
  case atStart => exact ⟨0, Nat.zero_le _, rfl, World.ownsRow_nil _ _ _ _, Below.refl _ _⟩
  case round =>
    obtain ⟨j, hj, rfl, hown, hb⟩ := hrel
    by_cases hlt : j < s
    · have hlt' : (j : Int) < (s : Int) := by omega
      have hwz := hb.size
      obtain ⟨gk, ck, kq, _, hnow⟩ := (HM.out.later hb).at hlt
      obtain ⟨ad, cd, kd, hsr⟩ := hnow.at (k := 0) (by simp)
      simp only [List.length_cons, List.length_nil, Nat.zero_add] at kq
      obtain ⟨y, rfl⟩ := src_some hsr (by omega)
      have HSr : Hid (Src wr (some y) 512 (h j)) := hsr
      have HNew : Hid (bs (imOf j h) ++ bs (h j) = bs (imOf (j + 1) h)) := by
        show bs (imOf j h) ++ bs (h j) = bs (imOf (j + 1) h)
        rw [imOf_succ]; simp [bs]
      have Hown := Hid.mk hown
      have Hb := Hid.mk hb
      obtain ⟨m, hmm⟩ : ∃ m : Nat, m = j * 512 := ⟨_, rfl⟩
      have HMm := Hid.mk hmm
      rw [← hmm] at hown
      obtain ⟨av, cv, hv⟩ : ∃ a c, u3 = .slice a m c := by
        obtain ⟨_, ⟨e, hn⟩ | ⟨g, cap, cur, e, _⟩⟩ := hown
        · exact ⟨none, 0, by rw [e, hn]⟩
        · exact ⟨_, _, e⟩
      have hm20 : m ≤ 1048576 := by omega
      subst hv
      rw [← hmm] at Hown
      clear hown hb hsr hnow hmm
      go_wp2_with (at_builtin; refine wpList_append_own _ rfl _ _ 22 rfl w.heap.size 5 i0 (.int .u8 0) 1 1 Try.underlying22 hi0 hz0 hz1 hz2 rfl (by decide) _ _ _ rfl Hown.out y 512 cd (bs (h j)) rfl ?qa ?qb (by intro u hu; obtain ⟨x, _, rfl⟩ := List.mem_map.1 hu; rfl) (by unfold maxLen; omega) (by omega) hwz ?_)
      case qa => simp [bs, HSr.out.1]
      case qb =>
        intro i u hi
        have hl := HSr.out.1
        have hin : i < 512 := by
          have := (List.getElem?_eq_some_iff.1 hi).1
          simp at this
          omega
        rw [HSr.out.2.2 y rfl i hin]
        have e : (bs (h j))[i]? = some (Value.int .u8 ((h j).getD i 0)) := by simp [bs, List.getD, List.getElem?_eq_getElem (show i < (h j).length by omega)]
        rw [e] at hi
        exact hi
      intro v' w3 hown' hgrow hnil
      have HZ : Hid (w3.ownsRow w.heap.size 5 1 v' ((j + 1) * 512) (bs (imOf (j + 1) h)) ∧ Below w.heap.size w w3) := by
        refine ⟨?_, Hb.out.grown hgrow hwz (fun k e => (Hown.out.lt k e).1)⟩
        rw [← HNew.out, show (j + 1) * 512 = m + 512 by have := HMm.out; omega]
        exact hown'
      clear hown' hgrow hnil Hown HNew Hb HSr kq kd
      go_wp2
      go_roundw
      case rel => exact ⟨j + 1, by omega, by go_num, HZ.out⟩
      case measure => simp [intOf]; omega
    · have ej : j = s := by omega
      subst ej
      have hil := imOf_len j h HLn.out
      have HQ : Hid (∃ a c, u3 = .slice a (j * 512) c ∧ Src wr a (j * 512) (imOf j h)) := by
        rcases hown.2 with ⟨e, hn⟩ | ⟨g, cap, cur, e, _⟩
        · refine ⟨none, 0, by rw [e, hn], hil, fun _ => hn, fun x hx => by cases hx⟩
        · have := RowAt.of_owns hown (by rw [e]; intro h; cases h)
          obtain ⟨g2, cap2, hv, hg2, hr2, _⟩ := this
          exact ⟨_, _, hv, by have := hr2.src; rwa [hil] at this⟩
      have HB := Hid.mk hb
      obtain ⟨a, c, rfl, _⟩ := HQ.out
      clear hown hb
      go_wp2
      go_ret
      obtain ⟨a', c', e, h2⟩ := HQ.out
      cases e
      exact ⟨_, _, rfl, h2, HB.out⟩
set_option maxRecDepth 100000 in
set_option maxHeartbeats 8000000 in
theorem torn_any {B : Nat} {w : World} {F : Nat → Prop} {p q cq s : Nat} {S : DS} {f : Nat → List (List Int)} (hd : DiskAt w F p s S) (hm : MayAt B w F q cq s f) (hbig : ∀ k, k < s → (f k).length ≤ 4000000000000) (hlen : ∀ k, k < s → ∀ i, i < (f k).length → ((f k).getD i []).length = 512)
    (hcut : ∀ k, k < s → ∃ A B c, A < (f k).length ∧ B < (f k).length ∧ c ≤ 512 ∧ sec S.im k = ((f k).getD A []).take c ++ ((f k).getD B []).drop c) :
    Calls Try.prog 22 #[.pointer (some ⟨p, 0, none⟩), .slice (some ⟨q, 0, none⟩) s cq] w fun e w' => e = .returned (.bool true) ∧ Below w.heap.size w w' := by
  have hlo := hd.ok.lo
  have hhi := hd.ok.hi
  have him := hd.ok.len
  have h2 := image_any p s F S w hd
  have HM := Hid.mk hm
  have HCut := Hid.mk hcut
  have HLn := Hid.mk hlen
  have HBig := Hid.mk hbig
  clear hm hcut hlen hbig hd
  go_enter Try.func22, Try.ntmps22
  go_wp2_with fail
  refine h2.mono ?_
  rintro e w2 ⟨g, cg, rfl, hg, hr2, hb2⟩
  have hcg : s * 512 ≤ cg := by have := hr2.le; simp only [bs, List.length_map] at this; omega
  have h3 := cut_any g cg s w2 hcg hlo hhi
  have HR2 := Hid.mk hr2
  have HB2 := Hid.mk hb2
  have hz2 := hb2.size
  clear h2 hr2 hb2
  go_wp2_with fail
  refine h3.mono ?_
  rintro e w3 ⟨q3, cq3, rfl, hq3, hr3, hb3⟩
  have HR3 := Hid.mk hr3
  have HM3 := Hid.mk ((HM.out.later HB2.out).later hb3)
  have HI3 := Hid.mk (HR2.out.agree (hb3.block g HR2.out.lt))
  have HB3 := Hid.mk (HB2.out.trans (hb3.mono hz2))
  have hz3 := hb3.size
  clear h3 hr3 hb3 HM HB2 HR2
  go_wp2
  go_loopw [7] (fun i wr => ∃ j : Nat, j ≤ s ∧ i = .int .i64 (j : Int) ∧ Below w3.heap.size w3 wr) (fun i _ => s - (intOf i).toNat)
  case atStart => exact ⟨0, Nat.zero_le _, rfl, Below.refl _ _⟩
  case round =>
    obtain ⟨j, hj, rfl, hb⟩ := hrel
    by_cases hlt : j < s
    · have hlt' : (j : Int) < (s : Int) := by omega
      have hwz := hb.size
      have k1 : wr.cell? ⟨q3, j, none⟩ = some (.slice (some ⟨g, j * 512, none⟩) 512 (cg - j * 512)) := (HR3.out.agree (hb.block q3 HR3.out.lt)).cell (cutsOf_at g cg hlt)
      have hmr := HM3.out.later hb
      obtain ⟨gk, ck, k2, hn0, hnow⟩ := hmr.at hlt
      have hdr := below_drew1 (Below.refl wr.heap.size wr)
      have hx := (row_part (HI3.out.agree (hb.block g HI3.out.lt)) him hlt).later hdr
      obtain ⟨A, B', c, hA, hB', hc, hcutk⟩ := HCut.out j hlt
      have hsp := spliced_any (hnow.later hdr) _ (cg - j * 512) _ hx (HBig.out j hlt) hA hB' hc hcutk (HLn.out j hlt)
      have Hb := Hid.mk hb
      have hql := HR3.out.lt
      have hx3 : q3 < wr.drew.heap.size := Nat.lt_of_lt_of_le hql hwz
      have hxq : q < wr.drew.heap.size := hmr.lt
      clear hmr hnow hdr hx hcutk hb
      go_wp2_with fail
      go_region_held3 (fun w' => w'.cell? ⟨q3, j, none⟩ = some (.slice (some ⟨g, j * 512, none⟩) 512 (cg - j * 512)) ∧ w'.cell? ⟨q, j, none⟩ = some (.slice (some ⟨gk, 0, none⟩) (f j).length ck))
        (first | exact ⟨k1, k2⟩ | exact ⟨k1', k2'⟩)
        (first | (go_at_call 60; refine hsp.mono ?_; rintro e w6 ⟨rfl, hb6⟩; have k1' := (World.cell?_of_block (w := wr.drew) (a := ⟨q3, j, none⟩) (hb6.block q3 hx3)).trans k1; have k2' := (World.cell?_of_block (w := wr.drew) (a := ⟨q, j, none⟩) (hb6.block q hxq)).trans k2))
      have HZ : Hid (Below w3.heap.size w3 w6) := (below_drew1 Hb.out).trans (hb6.mono hwz)
      clear hsp hb6 k1 k2 k1' k2' Hb
      go_wp2
      go_roundw
      case rel => exact ⟨j + 1, by omega, by go_num, HZ.out⟩
      case measure => simp [intOf]; omega
    · have HB := Hid.mk hb
      clear hb
      go_wp2
      go_ret
      exact ⟨rfl, HB3.out.trans (HB.out.mono (by omega))⟩
end Go.Proofs.Ytkgnkdnipcacgaa
