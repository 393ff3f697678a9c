import Derived.Test.YtkkmkogpbhcpmaaKNE1
import Derived.Test.YtkkmkogpbhcpmaaKDecEnc
namespace Go.Proofs.Ytkkmkogpbhcpmaa
open Go.RowKit

theorem rencnode_any (x : NV) (w : World) :
    Calls Try.prog 47 #[x.v] w fun e w' => ∃ v b E, EncR x b E ∧ e = .returned (.tuple #[v, .int .i64 E]) ∧ (E = 0 → Made w w' v b) ∧ (E ≠ 0 → v = .slice none 0 0) ∧ Below w.heap.size w w' := by
  by_cases h0 : NNone x.k x.l x.p x.s x.o x.d
  · obtain ⟨k, l, p, s, o, d⟩ := x
    have hk : k = 0 := h0.1
    subst hk
    refine (rencnode_none l p s o d w h0).mono ?_
    rintro e w' ⟨v, rfl, hm⟩
    exact ⟨v, _, 0, .inl ⟨h0, rfl, rfl⟩, rfl, fun _ => hm, fun h => absurd rfl h, hm.choose_spec.choose_spec.2.2.2⟩
  · by_cases hf : NFits x.k x.l x.p x.s x.o x.d
    · have he := rencnode_ok x.k.toNat x.l.toNat x.p.toNat x.s.toNat x.o.toNat (fun i => (x.d i).toNat) w (nfits_nat hf)
      rw [← ndc_nat hf] at he
      refine he.mono ?_
      rintro e w' ⟨v, rfl, hm⟩
      exact ⟨v, _, 0, .inr (.inl ⟨h0, hf, rfl, rfl⟩), rfl, fun _ => hm, fun h => absurd rfl h, hm.choose_spec.choose_spec.2.2.2⟩
    · refine (rencnode_bad x.k x.l x.p x.s x.o x.d w (fun h => h.elim h0 hf)).mono ?_
      rintro e w' ⟨rfl, hbb⟩
      exact ⟨_, [], 20, .inr (.inr ⟨h0, hf, rfl, rfl⟩), rfl, fun h => absurd h (by decide), fun _ => rfl, hbb⟩
theorem results_cell_tmp {P : Program} {fn : Func} {p q : Tmp} {ty : TypeId} (h : fn.results = #[.cell p ty, .tmp q]) (tmps : Array Value) (w : World) (g : Nat) (cs : List Value) (d : TypeDesc) (v : Value)
    (hp : tmps.getD p undef = .pointer (some ⟨g, 0, none⟩)) (hq : tmps.getD q undef = v) (hg : w.rangeAt g 0 cs) (hu : P.underlying ty = some d) (hd : d.isRow = true) (hi : (P.info? ty).map (·.size) = some cs.length) :
    (results fn tmps).run P w = .ok (.tuple #[.agg cs.toArray, v]) w := by
  have hp' : tmps[p]?.getD undef = .pointer (some ⟨g, 0, none⟩) := by simpa using hp
  have hq' : tmps[q]?.getD undef = v := by simpa using hq
  simp [results, h, hp', hq', asAddr, run_loadVar_mid w g 0 ty cs d hg hu hd hi]
theorem rtk (b o c : Nat) (l : List Int) (k n : Nat) (w : World) (hl : l.length = 128) (hb : Bytes l) (hn : k + n ≤ 128) (h4 : n ≤ 4) (hs : ∀ i, i < 128 → w.cell? ⟨b, o + i, none⟩ = some (.int .u8 (l.getD i 0))) :
    Calls Try.prog 94 #[.slice (some ⟨b, o, none⟩) 128 c, .int .i64 (k : Int), .int .i64 (n : Int)] w fun e w' => e = .returned (.int .i64 ((le (part l k n) : Nat) : Int)) ∧ w' = w := by
  refine (rtake_low b o 128 c l k n w hl hb (by omega) hn (by omega) hs).mono ?_
  rintro e w' ⟨⟨r, rfl, hr⟩, rfl⟩
  rcases hr with h | ⟨_, h⟩
  · exact ⟨by rw [h], rfl⟩
  · have h1 := le_lt (part_bytes hb k n)
    rw [part_len (by omega)] at h1
    have h2 : 2 ^ (8 * n) ≤ 2 ^ 32 := Nat.pow_le_pow_right (by omega) (by omega)
    have h3 : (2 : Nat) ^ 32 = 4294967296 := rfl
    omega
/-- The document's decoder under way. -/
structure DAt (w wr : World) (cs : Array Value) : Prop where
  below : Below w.heap.size w wr
  res : wr.heap[w.heap.size]? = some (.cells (ndc 0 0 0 0 0 (fun _ => 0)) 76 (0, 0))
  box : wr.heap[w.heap.size + 1]? = some (.cells cs 76 (0, 0))
theorem DAt.put {w wr : World} {cs : Array Value} (h : DAt w wr cs) (i : Nat) (v : Value) : DAt w (wr.setCell ⟨w.heap.size + 1, i, none⟩ v) (cs.setIfInBounds i v) :=
  ⟨below_put h.below (by omega) h.below.size v, (Below.heap_setCell _ _ _ _ (by simp)).trans h.res, heap_setCell_same _ _ _ _ _ _ h.box⟩
theorem DAt.far {w wr w2 : World} {cs : Array Value} (h : DAt w wr cs) (hb : Below wr.heap.size wr w2) : DAt w w2 cs :=
  ⟨h.below.trans (hb.mono h.below.size), (hb.block _ (Array.getElem?_eq_some_iff.1 h.res).1).trans h.res, (hb.block _ (Array.getElem?_eq_some_iff.1 h.box).1).trans h.box⟩
theorem arr_all (k l p s o : Int) (d : Nat → Int) : setArr (ndc 0 0 0 0 0 (fun _ => 0)) 0 (ndl k l p s o d) = ndc k l p s o d := by
  apply Array.ext'
  simp [setArr]
/-- The pointers that were read so far. -/
def dj (l : List Int) (j : Nat) : Nat → Int := fun i => if i < j ∨ 10 ≤ i then ((u32 l (24 + 4 * i) : Nat) : Int) else 0
theorem dj_next (l : List Int) (j : Nat) (hj : j < 10) : upd (dj l j) j ((u32 l (24 + 4 * j) : Nat) : Int) = dj l (j + 1) := by
  funext i
  unfold upd dj
  by_cases e : i = j
  · subst e
    rw [if_pos rfl, if_pos (by omega)]
  · rw [if_neg e]
    by_cases e' : i < j ∨ 10 ≤ i
    · rw [if_pos e', if_pos (by omega)]
    · rw [if_neg e', if_neg (by omega)]
theorem dj_end (l : List Int) : dj l 10 = fun i => ((u32 l (24 + 4 * i) : Nat) : Int) := by
  funext i
  unfold dj
  rw [if_pos (by omega)]

set_option maxRecDepth 20000 in
set_option maxHeartbeats 4000000 in
theorem rdecnode_len (a : Option Addr) (n c : Nat) (w : World) (hn : n ≠ 128) (_hb : n ≤ 140737488355328) :
    Calls Try.prog 50 #[.slice a n c] w fun e w' => e = .returned (.tuple #[nd0, .int .i64 2]) ∧ Below w.heap.size w w' := by
  have hne : ((n : Int) != 128) = true := by rw [bne_iff_ne]; omega
  obtain ⟨F, hF⟩ : ∃ F, F = nl0 := ⟨_, rfl⟩
  have hlen : F.length = 17 := by rw [hF]; rfl
  have hth : (w.alloc (.cells (ndc 0 0 0 0 0 (fun _ => 0)) 76)).there w.heap.size 0 F.length := by rw [hlen]; exact there_node (heap_alloc_new _ _) rfl
  have hall : F.toArray.all (·.oneCell') = true := by rw [hF]; exact all_oneCell_toArray (nl_one _ _ _ _ _ _)
  have hinf : (Try.prog.info? 76).map (·.size) = some F.length := by rw [hlen]; exact infoNode
  have hrs := Hid.mk (World.rangeAt_setCells_same _ w.heap.size 0 F hth)
  have HBe : Hid (Below w.heap.size w ((w.alloc (.cells (ndc 0 0 0 0 0 (fun _ => 0)) 76)).setCells w.heap.size 0 F)) := ((Below.refl _ w).alloc (Nat.le_refl _) _).trans ((Keeps.setCells (F := fun j => j = w.heap.size) rfl F 0 _).below (fun j hj => by omega) (by simp))
  have HF := Hid.mk hF
  clear hF hlen
  go_enter Try.func50, Try.ntmps50
  go_wp2_with (refine wpList_store_mid rfl 76 _ _ rfl w.heap.size 0 F.toArray rfl (by rw [HF.out]; rfl) ?h1 ?h2 hall ?_)
  case h1 => exact hth
  case h2 => simpa using hinf
  exact bodyPost_ret (results_cell_tmp (P := Try.prog) rfl _ _ w.heap.size F _ (.int .i64 2) rfl rfl hrs.out Try.underlying76 rfl hinf) rfl ⟨by rw [HF.out], HBe.out⟩

set_option maxRecDepth 20000 in
set_option maxHeartbeats 8000000 in
theorem rdecnode_some (b o c : Nat) (l : List Int) (w : World) (hl : l.length = 128) (_hc : 128 ≤ c) (hby : Bytes l) (hs : ∀ i, i < 128 → w.cell? ⟨b, o + i, none⟩ = some (.int .u8 (l.getD i 0))) :
    Calls Try.prog 50 #[.slice (some ⟨b, o, none⟩) 128 c] w fun e w' => ∃ x E, DecR l x E ∧ e = .returned (.tuple #[x.v, .int .i64 E]) ∧ Below w.heap.size w w' := by
  obtain ⟨w1, hw1⟩ : ∃ w1, w1 = w.alloc (.cells (ndc 0 0 0 0 0 (fun _ => 0)) 76) := ⟨_, rfl⟩
  have hB1 : Below w.heap.size w w1 := by rw [hw1]; exact (Below.refl _ w).alloc (Nat.le_refl _) _
  have hq1 : w1.heap[w.heap.size]? = some (.cells (ndc 0 0 0 0 0 (fun _ => 0)) 76 (0, 0)) := by rw [hw1]; exact heap_alloc_new _ _
  have hz1 : w1.heap.size = w.heap.size + 1 := by rw [hw1]; simp
  have hs1 : ∀ i, i < 128 → w1.cell? ⟨b, o + i, none⟩ = some (.int .u8 (l.getD i 0)) := fun i hi => cell_later hB1 (hs i hi)
  have t0 := rtk b o c l 0 1 w1 hl hby (by omega) (by omega) hs1
  have T2 := Hid.mk (rtk b o c l 2 2 w1 hl hby (by omega) (by omega) hs1)
  have T4 := Hid.mk (rtk b o c l 4 4 w1 hl hby (by omega) (by omega) hs1)
  have T8 := Hid.mk (rtake_low b o 128 c l 8 8 w1 hl hby (by omega) (by omega) (by omega) hs1)
  have T16 := Hid.mk (rtk b o c l 16 4 w1 hl hby (by omega) (by omega) hs1)
  have T64 := Hid.mk (rtk b o c l 64 4 w1 hl hby (by omega) (by omega) hs1)
  have T68 := Hid.mk (rtk b o c l 68 4 w1 hl hby (by omega) (by omega) hs1)
  have HSrc : Hid (∀ wx, Below w.heap.size w wx → ∀ i, i < 128 → wx.cell? ⟨b, o + i, none⟩ = some (.int .u8 (l.getD i 0))) := fun wx hx i hi => cell_later hx (hs i hi)
  have HQ1 := Hid.mk (And.intro hB1 hq1)
  clear hs hs1 hB1 hq1
  go_enter Try.func50, Try.ntmps50
  go_wp2_with fail
  rw [← hw1]
  clear hw1
  refine t0.mono ?_
  rintro e wx ⟨rfl, hw⟩
  have hw' := hw.symm
  subst hw'
  clear hw
  go_wp2_with fail
  refine T2.out.mono ?_
  rintro e wx ⟨rfl, hw⟩
  have hw' := hw.symm
  subst hw'
  clear hw
  go_wp2_with fail
  refine T4.out.mono ?_
  rintro e wx ⟨rfl, hw⟩
  have hw' := hw.symm
  subst hw'
  clear hw
  go_wp2_with fail
  refine T8.out.mono ?_
  rintro e wx ⟨⟨r, rfl, hr⟩, hw⟩
  have hw' := hw.symm
  subst hw'
  clear hw
  have HR := Hid.mk hr
  clear hr
  go_wp2_with fail
  refine T16.out.mono ?_
  rintro e wx ⟨rfl, hw⟩
  have hw' := hw.symm
  subst hw'
  clear hw
  go_wp2_with fail
  refine T64.out.mono ?_
  rintro e wx ⟨rfl, hw⟩
  have hw' := hw.symm
  subst hw'
  clear hw
  go_wp2_with fail
  refine T68.out.mono ?_
  rintro e wx ⟨rfl, hw⟩
  have hw' := hw.symm
  subst hw'
  clear hw
  clear t0 T2 T4 T8 T16 T64 T68
  obtain ⟨F, hF⟩ : ∃ F, F = ndl ((u8 l 0 : Nat) : Int) ((u16 l 2 : Nat) : Int) ((Go.Proofs.Ytkkmkogpbhcpmaa.u32 l 4 : Nat) : Int) r ((Go.Proofs.Ytkkmkogpbhcpmaa.u32 l 16 : Nat) : Int) (dj l 0) := ⟨_, rfl⟩
  have hFv : Value.agg #[.int .i64 ((le (part l 0 1) : Nat) : Int), .int .i64 ((le (part l 2 2) : Nat) : Int), .int .i64 ((le (part l 4 4) : Nat) : Int), .int .i64 r, .int .i64 ((le (part l 16 4) : Nat) : Int), .int .i64 0, .int .i64 0, .int .i64 0, .int .i64 0, .int .i64 0, .int .i64 0, .int .i64 0, .int .i64 0, .int .i64 0, .int .i64 0, .int .i64 ((le (part l 64 4) : Nat) : Int), .int .i64 ((le (part l 68 4) : Nat) : Int)] = .agg F.toArray := by
    rw [hF]
    simp [dj, u8, u16, u32]
  have hlen : F.length = 17 := by rw [hF]; rfl
  have hth : (w1.alloc (.cells (ndc 0 0 0 0 0 (fun _ => 0)) 76)).there (w.heap.size + 1) 0 F.length := by
    rw [hlen, ← hz1]
    exact there_node (heap_alloc_new _ _) rfl
  have hall : F.toArray.all (·.oneCell') = true := by rw [hF]; exact all_oneCell_toArray (nl_one _ _ _ _ _ _)
  have hinf : (Try.prog.info? 76).map (·.size) = some F.length := by rw [hlen]; exact infoNode
  obtain ⟨w2, hw2⟩ : ∃ w2, w2 = (w1.alloc (.cells (ndc 0 0 0 0 0 (fun _ => 0)) 76)).setCells (w.heap.size + 1) 0 F := ⟨_, rfl⟩
  have HD0 : Hid (DAt w w2 (ndc ((u8 l 0 : Nat) : Int) ((u16 l 2 : Nat) : Int) ((Go.Proofs.Ytkkmkogpbhcpmaa.u32 l 4 : Nat) : Int) r ((Go.Proofs.Ytkkmkogpbhcpmaa.u32 l 16 : Nat) : Int) (dj l 0))) := by
    have hb : Below w1.heap.size w1 (w1.alloc (.cells (ndc 0 0 0 0 0 (fun _ => 0)) 76)) := (Below.refl _ w1).alloc (Nat.le_refl _) _
    have hn := heap_alloc_new w1 (.cells (ndc 0 0 0 0 0 (fun _ => 0)) 76)
    rw [hz1] at hn
    have hk := Keeps.setCells (F := fun j => j = w.heap.size + 1) rfl F 0 (w1.alloc (.cells (ndc 0 0 0 0 0 (fun _ => 0)) 76))
    have hB := HQ1.out.1.trans (hb.mono HQ1.out.1.size)
    have hx := heap_setCells_same F 0 _ _ hn
    rw [hF, arr_all] at hx
    rw [hw2]
    refine ⟨hB.trans (hk.below (fun j hj => by omega) hB.size), (hk.block _ (by have := hb.size; omega) (by omega)).trans ((hb.block _ (by omega)).trans HQ1.out.2), ?_⟩
    rw [hF]
    exact hx
  have HFV := Hid.mk hFv
  clear hF hlen hFv HQ1
  go_wp2_with (refine wpList_store_mid rfl 76 _ _ rfl (w.heap.size + 1) 0 F.toArray (by simp [Act.eval]) (by rw [← HFV.out]; rfl) ?h1 ?h2 hall ?_)
  case h1 => exact hth
  case h2 => simpa using hinf
  rw [← hw2]
  clear hw2 hth hall hinf HFV
  go_loopw [5] (fun i wr => ∃ j : Nat, j ≤ 10 ∧ i = .int .i64 j ∧ DAt w wr (ndc ((u8 l 0 : Nat) : Int) ((u16 l 2 : Nat) : Int) ((Go.Proofs.Ytkkmkogpbhcpmaa.u32 l 4 : Nat) : Int) r ((Go.Proofs.Ytkkmkogpbhcpmaa.u32 l 16 : Nat) : Int) (dj l j))) (fun i _ => 10 - (intOf i).toNat)
  case atStart => exact ⟨0, Nat.zero_le _, rfl, HD0.out⟩
  case round =>
    clear HD0
    obtain ⟨j, hj, rfl, hD⟩ := hrel
    by_cases hlt : j < 10
    · have hlt' : (j : Int) < 10 := by omega
      have cj := cell_of_block hD.box (ndc_at ((u8 l 0 : Nat) : Int) ((u16 l 2 : Nat) : Int) ((Go.Proofs.Ytkkmkogpbhcpmaa.u32 l 4 : Nat) : Int) r ((Go.Proofs.Ytkkmkogpbhcpmaa.u32 l 16 : Nat) : Int) (dj l j) j (by omega))
      have fj := frozen_of_block hD.box (5 + j)
      have tj := rtk b o c l (24 + 4 * j) 4 wr hl hby (by omega) (by omega) (HSrc.out wr hD.below)
      rw [show (((24 + 4 * j : Nat)) : Int) = 24 + 4 * (j : Int) by omega] at tj
      have HDn : Hid (DAt w (wr.setCell ⟨w.heap.size + 1, 5 + j, none⟩ (.int .i64 ((le (part l (24 + 4 * j) 4) : Nat) : Int))) (ndc ((u8 l 0 : Nat) : Int) ((u16 l 2 : Nat) : Int) ((Go.Proofs.Ytkkmkogpbhcpmaa.u32 l 4 : Nat) : Int) r ((Go.Proofs.Ytkkmkogpbhcpmaa.u32 l 16 : Nat) : Int) (dj l (j + 1)))) := by
        have := hD.put (5 + j) (.int .i64 ((Go.Proofs.Ytkkmkogpbhcpmaa.u32 l (24 + 4 * j) : Nat) : Int))
        rw [ndc_upd ((u8 l 0 : Nat) : Int) ((u16 l 2 : Nat) : Int) ((Go.Proofs.Ytkkmkogpbhcpmaa.u32 l 4 : Nat) : Int) r ((Go.Proofs.Ytkkmkogpbhcpmaa.u32 l 16 : Nat) : Int) (dj l j) j (by omega), dj_next l j hlt] at this
        exact this
      clear hD
      go_wp2_with fail
      refine tj.mono ?_
      rintro e wx ⟨rfl, hw⟩
      have hw' := hw.symm
      subst hw'
      clear hw tj
      go_wp2
      go_roundw
      case rel => exact ⟨j + 1, by omega, by go_num, HDn.out⟩
      case measure => simp [intOf]; omega
    · have hlt' : ¬ (j : Int) < 10 := by omega
      have hj10 : j = 10 := by omega
      subst hj10
      rw [dj_end] at hD
      have HD : Hid (DAt w wr (ndc ((u8 l 0 : Nat) : Int) ((u16 l 2 : Nat) : Int) ((Go.Proofs.Ytkkmkogpbhcpmaa.u32 l 4 : Nat) : Int) r ((Go.Proofs.Ytkkmkogpbhcpmaa.u32 l 16 : Nat) : Int) (nvRef l r).d)) := hD
      obtain ⟨F, hF⟩ : ∃ F, F = ndl ((u8 l 0 : Nat) : Int) ((u16 l 2 : Nat) : Int) ((Go.Proofs.Ytkkmkogpbhcpmaa.u32 l 4 : Nat) : Int) r ((Go.Proofs.Ytkkmkogpbhcpmaa.u32 l 16 : Nat) : Int) (nvRef l r).d := ⟨_, rfl⟩
      have hFv : (nvRef l r).v = .agg F.toArray := by rw [hF]; rfl
      have hra : wr.rangeAt (w.heap.size + 1) 0 F := by rw [hF]; exact range_of hD.box
      have hlen : F.length = 17 := by rw [hF]; rfl
      have hall : F.toArray.all (·.oneCell') = true := by rw [hF]; exact all_oneCell_toArray (nl_one _ _ _ _ _ _)
      have hinf : (Try.prog.info? 76).map (·.size) = some F.length := by rw [hlen]; exact infoNode
      have he := rencnode_any (nvRef l r) wr
      rw [hFv] at he
      have Hra := Hid.mk hra
      have HFV := Hid.mk hFv
      clear hD hF hra hFv
      go_wp2_with (refine wpList_load_mid rfl 76 _ rfl (w.heap.size + 1) 0 rfl F _ Hra.out Try.underlying76 rfl hinf ?_)
      refine he.mono ?_
      rintro e w3 ⟨v, bb, E, hen, rfl, hm, hv, hb3⟩
      have HD3 := Hid.mk (HD.out.far hb3)
      have HS3 := Hid.mk (HSrc.out w3 HD3.out.below)
      have hra3 : w3.rangeAt (w.heap.size + 1) 0 F := fun i u hu => cell_later hb3 (Hra.out i u hu)
      have Hra3 := Hid.mk hra3
      have HEn := Hid.mk hen
      clear he hb3 HD HSrc Hra hra3 hen
      obtain ⟨G, hG⟩ : ∃ G, G = nl0 := ⟨_, rfl⟩
      have hlenG : G.length = 17 := by rw [hG]; rfl
      have hallG : G.toArray.all (·.oneCell') = true := by rw [hG]; exact all_oneCell_toArray (nl_one _ _ _ _ _ _)
      have hinfG : (Try.prog.info? 76).map (·.size) = some G.length := by rw [hlenG]; exact infoNode
      have HG := Hid.mk hG
      clear hG
      by_cases hE : E = 0
      · subst hE
        have hm := hm rfl
        have hbl : bb.length = 128 := by
          rcases HEn.out with ⟨_, h, _⟩ | ⟨_, _, h, _⟩ | ⟨_, _, _, h⟩
          · rw [h]; exact zeros128_len
          · rw [h, sealed_len, nodeBody_len]
          · exact absurd h (by decide)
        obtain ⟨g, cg, rfl, _, hrow, _⟩ := hm
        rw [hbl]
        have hcg := hrow.src
        rw [hbl] at hcg
        obtain ⟨_, _, hga, hgc⟩ := hcg.spot (by omega)
        cases hga
        have hsa := rsame_low g 0 b o 128 cg c bb l w3 hbl hl (by omega) hgc HS3.out
        clear hrow hcg hgc hv hbl HS3
        go_wp2_with fail
        refine hsa.mono ?_
        rintro e w4 ⟨rfl, hb4⟩
        have HD4 := Hid.mk (HD3.out.far hb4)
        have hra4 : w4.rangeAt (w.heap.size + 1) 0 F := fun i u hu => cell_later hb4 (Hra3.out i u hu)
        have Hra4 := Hid.mk hra4
        have hth4 : w4.there w.heap.size 0 F.length := by rw [hlen]; exact there_node HD4.out.res rfl
        have hth4G : w4.there w.heap.size 0 G.length := by rw [hlenG]; exact there_node HD4.out.res rfl
        clear hsa hb4 HD3 hra4 Hra3
        by_cases hx : bb = l
        · have hdx : decide (bb = l) = true := decide_eq_true hx
          rw [hdx]
          obtain ⟨z, hz, hzv⟩ := ref_yes (y := nvRef l r) (l := l) (by have := HEn.out; rw [hx] at this; exact this)
          have HZ := Hid.mk (And.intro hz hzv)
          have hrs := Hid.mk (World.rangeAt_setCells_same w4 w.heap.size 0 F hth4)
          have HBe : Hid (Below w.heap.size w (w4.setCells w.heap.size 0 F)) := HD4.out.below.trans ((Keeps.setCells (F := fun j => j = w.heap.size) rfl F 0 _).below (fun j hj => by omega) HD4.out.below.size)
          clear hdx hx hz hzv HEn HD4 hth4G hlenG hlen
          go_wp2_with (first | refine wpList_load_mid rfl 76 _ rfl (w.heap.size + 1) 0 rfl F _ Hra4.out Try.underlying76 rfl hinf ?_ | refine wpList_store_mid rfl 76 _ _ rfl w.heap.size 0 F.toArray rfl rfl ?f1 ?f2 hall ?_)
          try any_goals (first | (simpa using hth4) | (simpa using hinf))
          exact bodyPost_ret (results_cell_tmp (P := Try.prog) rfl _ _ w.heap.size F _ (.int .i64 0) rfl rfl hrs.out Try.underlying76 rfl hinf) rfl ⟨z, 0, HZ.out.1, by rw [HZ.out.2, HFV.out], HBe.out⟩
        · have hdx : decide (bb = l) = false := decide_eq_false hx
          rw [hdx]
          have HZ := Hid.mk (ref_no hby hl HR.out HEn.out (fun h => hx h.1))
          have hrs := Hid.mk (World.rangeAt_setCells_same w4 w.heap.size 0 G hth4G)
          have HBe : Hid (Below w.heap.size w (w4.setCells w.heap.size 0 G)) := HD4.out.below.trans ((Keeps.setCells (F := fun j => j = w.heap.size) rfl G 0 _).below (fun j hj => by omega) HD4.out.below.size)
          clear hdx hx HEn HD4 hth4 hlenG hlen
          go_wp2_with (refine wpList_store_mid rfl 76 _ _ rfl w.heap.size 0 G.toArray rfl (by rw [HG.out]; rfl) ?g1 ?g2 hallG ?_)
          try any_goals (first | (simpa using hth4G) | (simpa using hinfG))
          exact bodyPost_ret (results_cell_tmp (P := Try.prog) rfl _ _ w.heap.size G _ (.int .i64 6) rfl rfl hrs.out Try.underlying76 rfl hinfG) rfl ⟨nv0, 6, HZ.out, by rw [HG.out]; rfl, HBe.out⟩
      · obtain rfl := hv hE
        have hEb : (E != 0) = true := by rw [bne_iff_ne]; exact hE
        have HZ := Hid.mk (ref_no hby hl HR.out HEn.out (fun h => hE h.2))
        have hth3 : w3.there w.heap.size 0 G.length := by rw [hlenG]; exact there_node HD3.out.res rfl
        have hrs := Hid.mk (World.rangeAt_setCells_same w3 w.heap.size 0 G hth3)
        have HBe : Hid (Below w.heap.size w (w3.setCells w.heap.size 0 G)) := HD3.out.below.trans ((Keeps.setCells (F := fun j => j = w.heap.size) rfl G 0 _).below (fun j hj => by omega) HD3.out.below.size)
        clear hm hv hE HEn HD3 HS3 Hra3 hlenG hlen
        go_wp2_with (refine wpList_store_mid rfl 76 _ _ rfl w.heap.size 0 G.toArray rfl (by rw [HG.out]; rfl) ?k1 ?k2 hallG ?_)
        try any_goals (first | (simpa using hth3) | (simpa using hinfG))
        exact bodyPost_ret (results_cell_tmp (P := Try.prog) rfl _ _ w.heap.size G _ (.int .i64 6) rfl rfl hrs.out Try.underlying76 rfl hinfG) rfl ⟨nv0, 6, HZ.out, by rw [HG.out]; rfl, HBe.out⟩
theorem rdecnode_any (a : Option Addr) (n c : Nat) (l : List Int) (w : World) (hs : Src w a n l) (hb : Bytes l) (hn : n ≤ 140737488355328) (hc : n ≤ c) :
    Calls Try.prog 50 #[.slice a n c] w fun e w' => ∃ x E, DecR l x E ∧ e = .returned (.tuple #[x.v, .int .i64 E]) ∧ Below w.heap.size w w' := by
  have hl := hs.1
  by_cases h : n = 128
  · cases a with
    | none => have := hs.2.1 rfl; omega
    | some x =>
      obtain ⟨b, o, rfl, hcell⟩ := hs.spot (by omega)
      subst h
      exact rdecnode_some b o c l w hl hc hb hcell
  · refine (rdecnode_len a n c w h hn).mono ?_
    rintro e w' ⟨rfl, hbb⟩
    exact ⟨nv0, 2, .inl ⟨by omega, rfl, rfl⟩, rfl, hbb⟩
/-- A decoder's answer is one. -/
theorem decR_unique {l : List Int} {x y : NV} {E E' : Int} (h : DecR l x E) (h' : DecR l y E') : x = y ∧ E = E' := by
  rcases h with ⟨h0, rfl, rfl⟩ | ⟨h0, h1, rfl, rfl⟩ | ⟨h0, h1, h2, rfl, rfl⟩ | ⟨h0, h1, h2, rfl, rfl⟩ <;> rcases h' with ⟨g0, rfl, rfl⟩ | ⟨g0, g1, rfl, rfl⟩ | ⟨g0, g1, g2, rfl, rfl⟩ | ⟨g0, g1, g2, rfl, rfl⟩ <;> first | exact ⟨rfl, rfl⟩ | exact absurd h0 g0 | exact absurd g0 h0 | exact absurd h1 g1 | exact absurd g1 h1 | exact absurd h2 g2 | exact absurd g2 h2
end Go.Proofs.Ytkkmkogpbhcpmaa
