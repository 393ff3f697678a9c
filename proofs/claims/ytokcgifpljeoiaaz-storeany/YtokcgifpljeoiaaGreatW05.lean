import Derived.Test.YtokcgifpljeoiaaGreatW01
import Derived.Test.YtokcgifpljeoiaaGreatW03
import Derived.Test.YtokcgifpljeoiaaGreatW04
section
namespace Go.Proofs.YtokcgifpljeoiaaGreat
open Go.RowKit Go.Maps

theorem Ra_agg (v : Value) (y : DataW Value × List MemPlace) (h : Ra v = some y) : ∃ c, v = Value.agg c := by
  unfold Ra at h
  split at h
  · exact ⟨_, rfl⟩
  · cases h
theorem ChAt.met {w : World} {m : Nat} {ms : CM} {D : DataW Value} (h : ChAt w m ms D) {x : Int} {kl : Lit} {y : DataW Value} (hkey : keyOf Tryz.prog 3 (.int .i64 x) = some kl) (hat : ∀ zd, D.atKey kl zd = y) :
    ∃ k : Nat, x = (k : Int) ∧ kl = kk k ∧ (CM.get ms k).isSome = true := by
  obtain ⟨k, rfl, hp⟩ := h.key kl (Maps.has_true_of_atKey hat)
  obtain ⟨x', ex, ek, _⟩ := Maps.keyOf_int_inv Tryz.underlying3 hkey
  have hx : x = (k : Int) := by cases ex; simpa [kk] using ek.symm
  exact ⟨k, hx, rfl, hp⟩
theorem mem_keys {ms : CM} (ho : CM.Ok ms) (k : Nat) : k ∈ CM.keys ms ↔ (CM.get ms k).isSome = true := by
  constructor
  · intro h
    obtain ⟨q, hq, e⟩ := List.mem_map.1 h
    rw [CM.get_of_mem ho (k := k) (c := q.2) (by rw [← e]; exact hq)]
    rfl
  · intro h
    obtain ⟨c, hc⟩ := Option.isSome_iff_exists.1 h
    exact List.mem_map.2 ⟨_, CM.get_mem hc, rfl⟩
theorem sorted_cm {ms : CM} (ho : CM.Ok ms) {ks : List Nat} (hn : ks.Nodup) (hm : ∀ k, k ∈ ks ↔ (CM.get ms k).isSome = true) :
    ((ks.map (fun k : Nat => (k : Int))).mergeSort fun x y => decide (x ≤ y)) = (CM.keys ms).map (fun k : Nat => (k : Int)) := by
  have hlt := CM.keys_ok ho
  have hn2 : (CM.keys ms).Nodup := hlt.imp (fun h => Nat.ne_of_lt h)
  have hperm := (List.perm_ext_iff_of_nodup hn hn2).2 (fun k => by rw [hm, mem_keys ho])
  have hs2 : ((CM.keys ms).map (fun k : Nat => (k : Int))).Pairwise (fun x y => decide (x ≤ y) = true) := by
    refine List.pairwise_map.2 ?_
    exact hlt.imp (fun h => by simp; omega)
  have tr : ∀ a b c : Int, decide (a ≤ b) = true → decide (b ≤ c) = true → decide (a ≤ c) = true := fun a b c h1 h2 => by simp only [decide_eq_true_eq] at *; omega
  have to : ∀ a b : Int, (decide (a ≤ b) || decide (b ≤ a)) = true := fun a b => by simp only [Bool.or_eq_true, decide_eq_true_eq]; omega
  refine List.Perm.eq_of_pairwise (le := fun a b => decide (a ≤ b) = true) (fun a b _ _ h1 h2 => ?_) (List.pairwise_mergeSort tr to _) hs2 ((List.mergeSort_perm _ _).trans (hperm.map _))
  simp only [decide_eq_true_eq] at h1 h2
  omega

set_option maxRecDepth 20000 in
set_option maxHeartbeats 8000000 in
theorem inOrder_low {w : World} {m : Nat} {ms : CM} {D : DataW Value} (h : ChAt w m ms D) :
    Calls Tryz.prog 123 #[.map (some m)] w fun e w' => ∃ a c, e = .returned (.slice a (CM.keys ms).length c) ∧ (CM.keys ms ≠ [] → ∃ g, a = some ⟨g, 0, none⟩ ∧ w.heap.size ≤ g ∧ RowAt w' 3 g c (is_ (CM.keys ms))) ∧ Below w.heap.size w w' := by
  obtain ⟨i0, hi0, hz0, hz1, hz2⟩ := info_parts infoInt
  have hml := h.lt
  have hsm := Ch.small ⟨D, h⟩
  have H := Hid.mk h
  clear h
  go_enter Tryz.func123, Tryz.ntmps123
  go_wp2_with (at_range; refine wpList_range_own _ rfl _ 102 rfl 3 118 keyInt Tryz.underlying102 Ra m ms.length D rfl H.out.own ?_; intro w0 hrg0 hg0 hs0; go_frame)
  have hb0 := (Below.refl _ w).grown hg0 (Nat.le_refl _) (fun j hj => by cases hj)
  clear hg0
  go_loopw [3, 4] (fun v _ wr => ∃ (left : Lit → Bool) (cnt : Nat) (ks : List Nat), wr.ranges Tryz.prog 3 Ra m w.heap.size ms.length D left cnt ∧ wr.ownsRow (w.heap.size + 1) 3 1 v ks.length (is_ ks) ∧
      ks.Nodup ∧ (∀ k, k ∈ ks ↔ (CM.get ms k).isSome = true ∧ left (kk k) = false) ∧ Below w.heap.size w wr ∧ ks.length + cnt ≤ ms.length ∧ w.heap.size + 1 ≤ wr.heap.size)
    (fun _ _ wr => wr.rangeLeft m w.heap.size)
  case atStart => 
    refine ⟨_, _, [], hrg0, World.ownsRow_nil _ _ _ _, List.nodup_nil, fun k => ?_, hb0, by simpa using H.out.own.size_le, by omega⟩
    constructor
    · intro hk; cases hk
    · rintro ⟨hp, hl⟩; obtain ⟨c, hc⟩ := Option.isSome_iff_exists.1 hp; rw [(H.out.at' k c hc).1] at hl; cases hl
  case round =>
    clear hrg0 hb0 hs0
    obtain ⟨left, cnt, ks, hrg, hrow, hnd, hmem, hb, hcs, hsz⟩ := hrel
    go_wp2_with (at_next; refine wpList_next_ranges _ rfl _ rfl 3 keyInt Ra (Value.int .i64) Value.agg (fun key kl hkey => by obtain ⟨x, rfl, _⟩ := Maps.keyOf_int_inv Tryz.underlying3 hkey; exact ⟨x, rfl⟩) Ra_agg m w.heap.size ms.length _ _ _ rfl hrg ?_ ?_)
    · intro _ hl0
      have hmem' : ∀ k, k ∈ ks ↔ (CM.get ms k).isSome = true := fun k => by rw [hmem, hl0]; simp
      have hsk := sorted_cm H.out.ok hnd hmem'
      have hlen : ks.length = (CM.keys ms).length := by
        have := congrArg List.length hsk
        rw [List.length_mergeSort] at this
        simpa using this
      have hnil2 : ks = [] → CM.keys ms = [] := fun e => by rw [e] at hlen; exact List.eq_nil_of_length_eq_zero hlen.symm
      rcases hrow.2 with ⟨rfl, hz⟩ | ⟨g, cap, cur, rfl, hg, hbk, h1, h2, h3, h4⟩
      · have hks := hnil2 (List.eq_nil_of_length_eq_zero hz)
        have hsn := sortn wr
        clear hrow hmem hmem' hsk hrg H
        go_wp2_with (go_at_call 90; refine hsn.mono ?_; rintro e w9 ⟨rfl, hb9⟩)
        go_ret
        exact ⟨none, 0, by simp [hks], fun h => absurd hks h, hb.trans (hb9.mono hb.size)⟩
      · have hr9 : RowAt wr 3 g cap ((ks.map (fun k : Nat => (k : Int))).map (Value.int .i64)) := by
          rw [is_eq]
          refine ⟨cur, hbk, by simpa using h3, ?_, h2⟩
          simp only [Nat.mul_one] at h4
          rw [show (is_ ks).length = ks.length by simp [is_]]
          exact h4
        have hso := sorts g cap _ wr hr9 (by simp; omega)
        simp only [List.length_map] at hso
        rw [hsk] at hso
        have Hlen := Hid.mk hlen
        clear hrow hmem hmem' hsk hrg H hr9 hlen h4
        go_wp2_with (go_at_call 90; refine hso.mono ?_; rintro e w9 ⟨rfl, hr10, hk9⟩)
        go_ret
        refine ⟨some ⟨g, 0, none⟩, cap, ?_, fun _ => ⟨g, rfl, by omega, ?_⟩, hb.trans (hk9.below (fun j hj => by omega) hb.size)⟩
        · rw [← Hlen.out]; rfl
        · rw [← is_eq]; exact hr10
    · intro x ca kl yd yp w2 cnt2 hkey hlk hv hat hrg2 hlt hg2 hs2 hen
      obtain ⟨k, rfl, rfl, hp⟩ := H.out.met hkey hat
      have hnk : k ∉ ks := fun hk => by rw [((hmem k).1 hk).2] at hlk; cases hlk
      have hrow2 := hrow.kept hg2 (.inr (fun e => by have := hrow.lt _ e; omega))
      have hb2 := hb.grown hg2 hb.size (fun j hj => by cases hj; exact Nat.le_refl _)
      have hsz2 : w.heap.size + 1 ≤ w2.heap.size := by omega
      have hmem2 : ∀ j, j ∈ ks ++ [k] ↔ (CM.get ms j).isSome = true ∧ (left (kk j) && !(kk j).sameKey (kk k)) = false := fun j => by
        rw [List.mem_append, List.mem_singleton, hmem, same_kk]
        by_cases e : j = k
        · subst e; simp [hp]
        · simp [e]
      have hlen : ks.length + 1 ≤ 5000000000000 := by omega
      have Hmem2 := Hid.mk hmem2
      have Hrow2 := Hid.mk hrow2
      clear hkey hv hat hs2 hg2 hmem hmem2 hrow2
      go_wp2_with (at_builtin; refine wpList_append_own _ rfl _ _ 63 rfl (w.heap.size + 1) 3 i0 (.int .i64 0) 1 8 Tryz.underlying63 hi0 hz0 hz1 hz2 rfl (by decide) _ _ _ rfl (Hrow2.out.alloc _) ⟨w2.heap.size, 0, none⟩ 1 1 [.int .i64 (k : Int)] rfl rfl (cell_one_new _ _ _) (ints_oneCell .i64 [(k : Int)]) (by unfold maxLen; omega) (by omega) (by simp; omega) ?_)
      intro v' w3 hown' hgrow hnil
      have hgr2 := fun j e => (hrow.lt j e).1
      have hrg3 := (hrg2.alloc (.cells #[.int .i64 (k : Int)] 3)).kept hgrow (fun e => by have := hgr2 m e.symm; omega) (fun e => by have := hgr2 _ e.symm; omega)
      have hb3 := (hb2.alloc (by omega) _).grown hgrow (by simp; omega) (fun j e => by have := hgr2 j e; omega)
      have hsz3 : w.heap.size + 1 ≤ w3.heap.size := by have := hgrow.size; simp at this; omega
      have hnd2 : (ks ++ [k]).Nodup := List.nodup_append.2 ⟨hnd, by simp, by intro a ha b hb' e; simp at hb'; subst hb'; exact hnk (e ▸ ha)⟩
      have hown2 : w3.ownsRow (w.heap.size + 1) 3 1 v' (ks ++ [k]).length (is_ (ks ++ [k])) := by simpa [is_] using hown'
      have Hown2 := Hid.mk hown2
      have Hrg3 := Hid.mk hrg3
      clear hown' hgrow hnil hown2 hrg3 hrow Hrow2 hrg2 hen
      go_wp2
      go_roundw
      case rel => exact ⟨_, cnt2, ks ++ [k], Hrg3.out, Hown2.out, hnd2, Hmem2.out, hb3, by simp; omega, hsz3⟩
      case measure => rw [Hrg3.out.left_eq, hrg.left_eq]; exact hlt
theorem inOrder_any {w : World} {m : Nat} {ms : CM} (h : Ch w m ms) :
    Calls Tryz.prog 123 #[.map (some m)] w fun e w' => ∃ a c, e = .returned (.slice a (CM.keys ms).length c) ∧ (CM.keys ms ≠ [] → ∃ g, a = some ⟨g, 0, none⟩ ∧ w.heap.size ≤ g ∧ RowAt w' 3 g c (is_ (CM.keys ms))) ∧ Below w.heap.size w w' := by
  obtain ⟨D, h⟩ := h
  exact inOrder_low h
end Go.Proofs.YtokcgifpljeoiaaGreat
end

section
namespace Go.Proofs.YtokcgifpljeoiaaGreat
open Go.RowKit

theorem blk_range {w : World} {T : TypeId} {g : Nat} {l : List Int} (h : Blk w T g l) : w.rangeAt g 0 (bs l) := by
  intro j v hv
  obtain ⟨hj, rfl⟩ := bs_getElem hv
  rw [Nat.zero_add]
  exact h.cell hj
theorem there_of {w : World} {T : TypeId} {g n : Nat} {cur : Array Value} (h : w.heap[g]? = some (.cells cur T (0, 0))) (hn : cur.size = n) : w.there g 0 n := by
  intro j hj
  rw [Nat.zero_add]
  exact ⟨by rw [cell_of_block h (j := j) (u := cur[j]'(by omega)) (by simp [show j < cur.size by omega])]; rfl, frozen_of_block h j⟩
theorem zsec_size : zsec.size = 512 := by unfold zsec; simp only [List.size_toArray, bs, List.length_map, zs_len]
theorem infoSecL {l : List Int} (h : l.length = 512) : (Tryz.prog.info? 200).map (·.size) = some (bs l).length := by
  rw [sizeSec, bs, List.length_map, h]

set_option maxRecDepth 20000 in
set_option maxHeartbeats 4000000 in
theorem sealed_any (t : Nat) (a : Option Addr) (n c : Nat) (body : List Int) (w : World) (ht : t < 256) (hs : Src w a n body) (hn : n ≤ 504) (hb : Bytes body) :
    Calls Tryz.prog 152 #[.int .u8 (t : Int), .slice a n c] w fun e w' => e = .returned (.agg (bs (sform t body)).toArray) ∧ Below w.heap.size w w' := by
  have H := hs
  have hz := zeroSec
  have hlb := hs.1
  have hc1 := (fun w1 => cut_any (w.heap.size + 1) 0 1 3 w1 (by omega) (by omega))
  have hc2 := (fun w1 => cut_any (w.heap.size + 1) 0 7 511 w1 (by omega) (by omega))
  have hc3 := (fun w1 => cut_any (w.heap.size + 1) 0 3 7 w1 (by omega) (by omega))
  clear hs
  go_enter Tryz.func152, Tryz.ntmps152
  go_wp2_with fail
  rw [s1_of]
  obtain ⟨w1, hw1⟩ : ∃ w1, w1 = (w.alloc (.cells zsec 200)).alloc (.cells (bs (s1 t)).toArray 200) := ⟨_, rfl⟩
  have hB1 : Below w.heap.size w w1 := by rw [hw1]; exact ((Below.refl _ w).alloc (Nat.le_refl _) _).alloc (by simp) _
  have hblk : Blk w1 200 (w.heap.size + 1) (s1 t) := by rw [hw1]; exact heap_alloc2_new _ _ _
  have hres : w1.heap[w.heap.size]? = some (.cells zsec 200 (0, 0)) := by rw [hw1]; exact heap_alloc2_old _ _ _
  rw [← hw1]
  clear hw1 hz
  refine (hc1 w1).mono ?_
  rintro e w' ⟨rfl, hw⟩
  have hw' := hw.symm
  subst hw'
  clear hw hc1
  have hl := lay_any (w.heap.size + 1) 1 2 2 n 200 (s1 t) w1 hblk (by omega) (by rw [s1_len]; omega)
  rw [s2_of t n (by omega)] at hl
  have Hres := hres
  have HB1 := hB1
  clear hblk hres hB1
  go_wp2_with fail
  refine hl.mono ?_
  rintro e w2 ⟨rfl, hblk, hk, hz2⟩
  have hB2 := HB1.trans (hk.below (fun j hj => by omega) HB1.size)
  have hres := (hk.block _ (Array.getElem?_eq_some_iff.1 Hres).1 (by omega)).trans Hres
  obtain ⟨w3, hrun, hblk3, hk3, hz3⟩ := copy_blk w2 3 200 (w.heap.size + 1) 7 504 504 a n c (s2 t n) body hblk (H.later hB2) hn (by rw [s2_len]; omega)
  have hB3 := hB2.trans (hk3.below (fun j hj => by omega) hB2.size)
  have hres3 := (hk3.block _ (Array.getElem?_eq_some_iff.1 hres).1 (by omega)).trans hres
  have e3 := s3_of t body (by omega)
  rw [hlb] at e3
  rw [e3] at hblk3
  have Hblk3 := hblk3
  have Hres3 := hres3
  have HB3 := hB3
  clear hl hblk hk hB2 hres hk3 hB3 hres3 hblk3 HB1 Hres hz2 hz3 e3
  go_wp2_with fail
  refine (hc2 w2).mono ?_
  rintro e w' ⟨rfl, hw⟩
  have hw' := hw.symm
  subst hw'
  clear hw hc2
  go_wp2_with fail
  refine (hc3 w3).mono ?_
  rintro e w' ⟨rfl, hw⟩
  have hw' := hw.symm
  subst hw'
  clear hw hc3 hrun
  have hsum := ssum_any (w.heap.size + 1) 200 (s3 t body) w3 Hblk3 (s3_len t (by omega)) (s3_bytes (by omega) hb (by omega))
  rw [s3_text t body (by omega)] at hsum
  have hS := sumOf_lt (stext_bytes hb (show body.length ≤ 504 by omega))
  have e4 := s4_of t body
  obtain ⟨E, hE⟩ : ∃ E, E = sumOf (stext body) := ⟨_, rfl⟩
  rw [← hE] at hsum hS e4
  have He4 := e4
  clear hE e4
  go_wp2_with fail
  refine hsum.mono ?_
  rintro e w4 ⟨rfl, hb4⟩
  have hblk4 := Hblk3.keep (hb4.block _ Hblk3.lt)
  have hres4 := (hb4.block _ (Array.getElem?_eq_some_iff.1 Hres3).1).trans Hres3
  have hB4 := HB3.trans (hb4.mono HB3.size)
  have hl := lay_any (w.heap.size + 1) 3 4 4 E 200 (s3 t body) w4 hblk4 (by omega) (by rw [s3_len t (by omega)]; omega)
  rw [He4] at hl
  have Hres4 := hres4
  have HB4 := hB4
  clear hsum hb4 hblk4 hres4 hB4 Hblk3 Hres3 HB3 He4
  go_wp2_with fail
  refine hl.mono ?_
  rintro e w5 ⟨rfl, hblk5, hk5, hz5⟩
  have hres5 := (hk5.block _ (Array.getElem?_eq_some_iff.1 Hres4).1 (by omega)).trans Hres4
  have hB5 := HB4.trans (hk5.below (fun j hj => by omega) HB4.size)
  have hfl : (sform t body).length = 512 := sform_len (by omega)
  have hra := blk_range hblk5
  have hth := there_of hres5 zsec_size
  have hinfo := infoSecL hfl
  have hll : (bs (sform t body)).length = 512 := by rw [bs, List.length_map, hfl]
  have hone := bs_one (sform t body)
  generalize hF : bs (sform t body) = F at *
  rw [← hll] at hth
  have hrs := (World.rangeAt_setCells_same w5 w.heap.size 0 F hth)
  have hall := all_oneCell_toArray hone
  have hB6 := hB5.trans ((Keeps.setCells (F := fun j => j = w.heap.size) rfl F 0 w5).below (fun j hj => by omega) hB5.size)
  have HF := hF
  clear hl hblk5 hk5 hz5 hres5 hB5 hfl Hres4 HB4 hone hF
  go_wp2_with (first | refine wpList_load_mid rfl 200 _ rfl (w.heap.size + 1) 0 rfl F _ hra Tryz.underlying200 rfl hinfo ?_ | refine wpList_store_mid rfl 200 _ _ rfl w.heap.size 0 F.toArray rfl rfl ?h1 ?h2 hall ?_)
  case h1 => simpa using hth
  case h2 => simpa using hinfo
  exact bodyPost_ret (results_cell_mid (P := Tryz.prog) rfl _ _ w.heap.size F _ rfl hrs Tryz.underlying200 rfl hinfo) rfl ⟨by rw [HF], hB6⟩
end Go.Proofs.YtokcgifpljeoiaaGreat
end

section
namespace Go.Proofs.YtokcgifpljeoiaaGreat
open Go.RowKit

theorem results_cell_tmp {P : Program} {fn : Func} {p q : Tmp} {ty : TypeId} (h : fn.results = #[.cell p ty, .tmp q]) (tmps : Array Value) (w : World) (g : Nat) (cs : List Value) (d : TypeDesc) (v : Value)
    (hp : tmps.getD p undef = .pointer (some ⟨g, 0, none⟩)) (hq : tmps.getD q undef = v) (hg : w.rangeAt g 0 cs) (hu : P.underlying ty = some d) (hd : d.isRow = true) (hi : (P.info? ty).map (·.size) = some cs.length) :
    (results fn tmps).run P w = .ok (.tuple #[.agg cs.toArray, v]) w := by
  have hp' : tmps[p]?.getD undef = .pointer (some ⟨g, 0, none⟩) := by simpa using hp
  have hq' : tmps[q]?.getD undef = v := by simpa using hq
  simp [results, h, hp', hq', asAddr, run_loadVar_mid w g 0 ty cs d hg hu hd hi]
theorem src_range {w : World} {b o n : Nat} {l : List Int} (h : Src w (some ⟨b, o, none⟩) n l) : w.rangeAt b o (bs l) := by
  intro j v hv
  obtain ⟨hj, rfl⟩ := bs_getElem hv
  have := h.2.2 _ rfl j (by have := h.1; omega)
  rwa [addr_add] at this

theorem arraySec (a : Option Addr) (c : Nat) (w : World) : (Instr.arrayAt 200 (.slice a 512 c)).run Tryz.prog w = .ok (.pointer a) w := by
  simp [Instr.arrayAt, run_underlying Tryz.underlying200]
theorem zsec_one : ∀ v ∈ zsec.toList, v.oneCell' = true := bs_one (zs 512)
theorem infoSecZ : (Tryz.prog.info? 200).map (·.size) = some zsec.toList.length := infoSecL (l := zs 512) (zs_len 512)

set_option maxRecDepth 20000 in
set_option maxHeartbeats 4000000 in
theorem sectorOf_no (a : Option Addr) (n c : Nat) (w : World) (hn : n ≠ 512) :
    Calls Tryz.prog 176 #[.slice a n c] w fun e w' => e = .returned (.tuple #[.agg zsec, .bool false]) ∧ Below w.heap.size w w' := by
  have hz := zeroSec
  have h1 : (((n : Int)) != 512) = true := by rw [bne_iff_ne]; omega
  have hinfo := infoSecZ
  have hone := zsec_one
  generalize zsec = Z at *
  have hw1 : (w.alloc (.cells Z 200)).heap[w.heap.size]? = some (.cells Z 200 (0, 0)) := heap_alloc_new _ _
  have hth : (w.alloc (.cells Z 200)).there w.heap.size 0 Z.toList.length := there_of hw1 (by simp)
  have hall : Z.all Value.oneCell' = true := all_oneCell_toArray hone
  have hB1 : Below w.heap.size w (w.alloc (.cells Z 200)) := (Below.refl _ w).alloc (Nat.le_refl _) _
  go_enter Tryz.func176, Tryz.ntmps176
  go_wp2_with (refine wpList_store_mid rfl 200 _ _ rfl w.heap.size 0 Z rfl rfl ?h1 ?h2 hall ?_)
  case h1 => simpa using hth
  case h2 => simpa using hinfo
  exact bodyPost_ret (results_cell_tmp (P := Tryz.prog) rfl _ _ w.heap.size Z.toList _ _ rfl rfl (World.rangeAt_setCells_same _ w.heap.size 0 Z.toList hth) Tryz.underlying200 rfl hinfo) rfl ⟨rfl, (hB1.trans ((Keeps.setCells (F := fun j => j = w.heap.size) rfl Z.toList 0 _).below (fun j hj => by omega) hB1.size))⟩

set_option maxRecDepth 20000 in
set_option maxHeartbeats 4000000 in
theorem sectorOf_ok (b o c : Nat) (l : List Int) (w : World) (hs : Src w (some ⟨b, o, none⟩) 512 l) :
    Calls Tryz.prog 176 #[.slice (some ⟨b, o, none⟩) 512 c] w fun e w' => e = .returned (.tuple #[.agg (bs l).toArray, .bool true]) ∧ Below w.heap.size w w' := by
  have hz := zeroSec
  have harr := arraySec (some ⟨b, o, none⟩) c
  have hB1 : Below w.heap.size w (w.alloc (.cells zsec 200)) := (Below.refl _ w).alloc (Nat.le_refl _) _
  have hra := src_range (hs.later hB1)
  have hinfo := infoSecL (l := l) hs.1
  have hone := bs_one l
  have hw1 : (w.alloc (.cells zsec 200)).heap[w.heap.size]? = some (.cells zsec 200 (0, 0)) := heap_alloc_new _ _
  have hth := there_of hw1 zsec_size
  have hll : (bs l).length = 512 := by rw [bs, List.length_map, hs.1]
  generalize bs l = F at *
  rw [← hll] at hth
  have hrs := (World.rangeAt_setCells_same _ w.heap.size 0 F hth)
  have hall := all_oneCell_toArray hone
  have hB6 := (hB1.trans ((Keeps.setCells (F := fun j => j = w.heap.size) rfl F 0 _).below (fun j hj => by omega) hB1.size))
  go_enter Tryz.func176, Tryz.ntmps176
  go_wp2_with (first | refine wpList_load_mid rfl 200 _ rfl b o rfl F _ hra Tryz.underlying200 rfl hinfo ?_ | refine wpList_store_mid rfl 200 _ _ rfl w.heap.size 0 F.toArray rfl rfl ?h1 ?h2 hall ?_)
  case h1 => simpa using hth
  case h2 => simpa using hinfo
  exact bodyPost_ret (results_cell_tmp (P := Tryz.prog) rfl _ _ w.heap.size F _ _ rfl rfl hrs Tryz.underlying200 rfl hinfo) rfl ⟨rfl, hB6⟩
end Go.Proofs.YtokcgifpljeoiaaGreat
end

section
namespace Go.Proofs.YtokcgifpljeoiaaGreat
open Go.RowKit

/-- v is a slice that reads as l; its memory, if any, lies at B or above. -/
def Lst (w : World) (B : Nat) (v : Value) (l : List Int) : Prop := ∃ a c, v = .slice a l.length c ∧ Src w a l.length l ∧ l.length ≤ c ∧ ∀ x, a = some x → B ≤ x.block
theorem Lst.nil (w : World) (B : Nat) : Lst w B (.slice none 0 0) [] := ⟨none, 0, rfl, ⟨rfl, fun _ => rfl, fun x hx => by cases hx⟩, Nat.le_refl _, fun x hx => by cases hx⟩
theorem Lst.later {w w' : World} {B : Nat} {v : Value} {l : List Int} (h : Lst w B v l) (hb : Below w.heap.size w w') : Lst w' B v l := by
  obtain ⟨a, c, rfl, hs, hc, hx⟩ := h
  exact ⟨a, c, rfl, hs.later hb, hc, hx⟩
theorem Blk.lst {w : World} {T : TypeId} {g B : Nat} {l : List Int} (h : Blk w T g l) (hg : B ≤ g) : Lst w B (.slice (some ⟨g, 0, none⟩) l.length l.length) l := by
  refine ⟨some ⟨g, 0, none⟩, l.length, rfl, ?_, Nat.le_refl _, fun x hx => by cases hx; exact hg⟩
  have := h.src (o := 0) (n := l.length) (by omega)
  simpa using this

theorem heap_setCells_full {w : World} {T : TypeId} {g : Nat} : ∀ (vs pre : List Value) (cur : Array Value), w.heap[g]? = some (.cells cur T (0, 0)) → (∃ post, cur.toList = pre ++ post ∧ post.length = vs.length) →
    (w.setCells g pre.length vs).heap[g]? = some (.cells (pre ++ vs).toArray T (0, 0)) := by
  intro vs
  induction vs generalizing w with
  | nil =>
    intro pre cur hg ⟨post, he, hl⟩
    have : post = [] := List.eq_nil_of_length_eq_zero hl
    subst this
    simp only [List.append_nil] at he ⊢
    show w.heap[g]? = _
    rw [hg, ← he]
  | cons v r ih =>
    intro pre cur hg ⟨post, he, hl⟩
    cases post with
    | nil => simp at hl
    | cons u post =>
      have e : (cur.setIfInBounds pre.length v).toList = (pre ++ [v]) ++ post := by
        rw [Array.toList_setIfInBounds, he, List.set_append_right _ _ (Nat.le_refl _), Nat.sub_self]
        simp
      have := ih (w := w.setCell ⟨g, pre.length, none⟩ v) (pre ++ [v]) _ (heap_setCell_same w g pre.length cur T v hg) ⟨post, e, by simpa using hl⟩
      simp only [World.setCells]
      simpa using this
theorem blk_stored {w : World} {T : TypeId} {g : Nat} {cur : Array Value} {l : List Int} (hg : w.heap[g]? = some (.cells cur T (0, 0))) (hl : cur.size = l.length) : Blk (w.setCells g 0 (bs l)) T g l :=
  heap_setCells_full (bs l) [] cur hg ⟨cur.toList, rfl, by simp [bs, hl]⟩
end Go.Proofs.YtokcgifpljeoiaaGreat
end

section
namespace Go.Proofs.YtokcgifpljeoiaaGreat
open Go.RowKit

set_option maxRecDepth 20000 in
set_option maxHeartbeats 4000000 in
theorem seal_no1 (a : Option Addr) (n c : Nat) (a2 : Option Addr) (m c2 : Nat) (w : World) (hn : n ≠ 512) :
    Calls Tryz.prog 167 #[.slice a n c, .slice a2 m c2] w fun e w' => e = .returned (.tuple #[.slice none 0 0, .int .i64 2]) ∧ Below w.heap.size w w' := by
  have hz := zeroSec
  have hs := sectorOf_no a n c w hn
  have hinfo := infoSecZ
  have hone := zsec_one
  generalize zsec = Z at *
  have hall : Z.all Value.oneCell' = true := all_oneCell_toArray hone
  go_enter Tryz.func167, Tryz.ntmps167
  go_wp2_with fail
  refine hs.mono ?_
  rintro e w1 ⟨rfl, hb1⟩
  have hw1 : (w1.alloc (.cells Z 200)).heap[w1.heap.size]? = some (.cells Z 200 (0, 0)) := heap_alloc_new _ _
  have hth : (w1.alloc (.cells Z 200)).there w1.heap.size 0 Z.toList.length := there_of hw1 (by simp)
  have hB1 : Below w.heap.size w (w1.alloc (.cells Z 200)) := hb1.alloc hb1.size _
  have hsz := hb1.size
  have hB6 := (hB1.trans ((Keeps.setCells (F := fun j => j = w1.heap.size) rfl Z.toList 0 _).below (fun j hj => by omega) hB1.size))
  go_wp2_with (refine wpList_store_mid rfl 200 _ _ rfl w1.heap.size 0 Z rfl rfl ?h1 ?h2 hall ?_)
  case h1 => simpa using hth
  case h2 => simpa using hinfo
  go_ret2
  exact ⟨rfl, hB6⟩

set_option maxRecDepth 20000 in
set_option maxHeartbeats 4000000 in
theorem seal_no2 (b o c : Nat) (old : List Int) (a2 : Option Addr) (m c2 : Nat) (w : World) (hs : Src w (some ⟨b, o, none⟩) 512 old) (hm : 504 < m) :
    Calls Tryz.prog 167 #[.slice (some ⟨b, o, none⟩) 512 c, .slice a2 m c2] w fun e w' => e = .returned (.tuple #[.slice none 0 0, .int .i64 7]) ∧ Below w.heap.size w w' := by
  have hz := zeroSec
  have hm' : 504 < (m : Int) := by omega
  have hs1 := sectorOf_ok b o c old w hs
  have hinfo := infoSecL (l := old) hs.1
  have hone := bs_one old
  have hll : (bs old).length = 512 := by rw [bs, List.length_map, hs.1]
  generalize bs old = F at *
  have hall := all_oneCell_toArray hone
  go_enter Tryz.func167, Tryz.ntmps167
  go_wp2_with fail
  refine hs1.mono ?_
  rintro e w1 ⟨rfl, hb1⟩
  have hw1 : (w1.alloc (.cells zsec 200)).heap[w1.heap.size]? = some (.cells zsec 200 (0, 0)) := heap_alloc_new _ _
  have hth := there_of hw1 zsec_size
  rw [← hll] at hth
  have hB1 : Below w.heap.size w (w1.alloc (.cells zsec 200)) := hb1.alloc hb1.size _
  have hsz := hb1.size
  have hB6 := Hid.mk (hB1.trans ((Keeps.setCells (F := fun j => j = w1.heap.size) rfl F 0 _).below (fun j hj => by omega) hB1.size))
  go_wp2_with (refine wpList_store_mid rfl 200 _ _ rfl w1.heap.size 0 F.toArray rfl rfl ?h1 ?h2 hall ?_)
  case h1 => simpa using hth
  case h2 => simpa using hinfo
  go_ret2
  exact ⟨rfl, hB6.out⟩

set_option maxRecDepth 20000 in
set_option maxHeartbeats 4000000 in
theorem seal_ok (b o c : Nat) (old : List Int) (a2 : Option Addr) (m c2 : Nat) (body : List Int) (w : World) (hs : Src w (some ⟨b, o, none⟩) 512 old) (hs2 : Src w a2 m body) (hm : m ≤ 504) (hb : Bytes body) :
    Calls Tryz.prog 167 #[.slice (some ⟨b, o, none⟩) 512 c, .slice a2 m c2] w fun e w' => ∃ g, e = .returned (.tuple #[.slice (some ⟨g, 0, none⟩) 512 512, .int .i64 0]) ∧ Blk w' 200 g (sform (turnOf (old.getD 0 0) (old.getD 511 0)) body) ∧ w.heap.size ≤ g ∧ Below w.heap.size w w' := by
  have hz := zeroSec
  have hs1 := sectorOf_ok b o c old w hs
  have hinfo := infoSecL (l := old) hs.1
  have hone := bs_one old
  have hll : (bs old).length = 512 := by rw [bs, List.length_map, hs.1]
  have holdl := hs.1
  have hall := all_oneCell_toArray hone
  have H2 := Hid.mk hs2
  have hlb := hs2.1
  have ht := turnOf_le (old.getD 0 0) (old.getD 511 0)
  obtain ⟨t, hteq⟩ : ∃ t, t = turnOf (old.getD 0 0) (old.getD 511 0) := ⟨_, rfl⟩
  rw [← hteq] at ht
  obtain ⟨F, hF⟩ : ∃ F, F = bs old := ⟨_, rfl⟩
  rw [← hF] at hs1 hinfo hone hll hall
  clear hone hs hs2
  go_enter Tryz.func167, Tryz.ntmps167
  go_wp2_with fail
  refine hs1.mono ?_
  rintro e w1 ⟨rfl, hb1⟩
  have hw1 : (w1.alloc (.cells zsec 200)).heap[w1.heap.size]? = some (.cells zsec 200 (0, 0)) := heap_alloc_new _ _
  have hth := there_of hw1 zsec_size
  rw [← hll] at hth
  have hB1 : Below w.heap.size w (w1.alloc (.cells zsec 200)) := hb1.alloc hb1.size _
  have hsz := hb1.size
  have hB2 := hB1.trans ((Keeps.setCells (F := fun j => j = w1.heap.size) rfl F 0 _).below (fun j hj => by omega) hB1.size)
  have hblk := blk_stored (l := old) hw1 (by rw [zsec_size, holdl])
  rw [← hF] at hblk
  have hnt := nextTurn_any w1.heap.size 0 (old.getD 0 0) (old.getD 511 0) _ (hblk.cell (by omega)) (hblk.cell (i := 511) (by omega))
  rw [← hteq] at hnt
  have hsd := sealed_any t a2 m c2 body _ (by omega) (H2.out.later hB2) hm hb
  obtain ⟨w2, hw2⟩ : ∃ w2, w2 = (w1.alloc (.cells zsec 200)).setCells w1.heap.size 0 F := ⟨_, rfl⟩
  rw [← hw2] at hnt hsd hB2
  have HB2 := Hid.mk hB2
  have Hteq := Hid.mk hteq
  clear hs1 hw1 hB1 hb1 hblk hB2 hteq hF H2
  go_wp2_with (refine wpList_store_mid rfl 200 _ _ rfl w1.heap.size 0 F.toArray rfl rfl ?h1 ?h2 hall ?_)
  case h1 => simpa using hth
  case h2 => simpa using hinfo
  rw [← hw2]
  refine hnt.mono ?_
  rintro e w' ⟨rfl, hw⟩
  have hw' := hw.symm
  subst hw'
  clear hw hnt hth hw2 hall hinfo
  have hfl : (sform t body).length = 512 := sform_len (by omega)
  have hinfo := infoSecL (l := sform t body) hfl
  have hall := all_oneCell_toArray (bs_one (sform t body))
  have hll2 : (bs (sform t body)).length = 512 := by rw [bs, List.length_map, hfl]
  obtain ⟨G, hG⟩ : ∃ G, G = bs (sform t body) := ⟨_, rfl⟩
  rw [← hG] at hsd hinfo hall hll2
  have HG := Hid.mk hG
  clear hG
  go_wp2_with fail
  refine hsd.mono ?_
  rintro e w3 ⟨rfl, hb3⟩
  have hB3 := HB2.out.trans (hb3.mono HB2.out.size)
  have hw3 : (w3.alloc (.cells zsec 200)).heap[w3.heap.size]? = some (.cells zsec 200 (0, 0)) := heap_alloc_new _ _
  have hth := there_of hw3 zsec_size
  rw [← hll2] at hth
  have hblk := blk_stored (l := sform t body) hw3 (by rw [zsec_size, hfl])
  rw [← HG.out] at hblk
  have hsz3 := hB3.size
  have hB4 : Below w.heap.size w (w3.alloc (.cells zsec 200)) := hB3.alloc hB3.size _
  rw [Hteq.out] at hblk
  have HH := Hid.mk (And.intro hblk (And.intro hB3.size (hB4.trans ((Keeps.setCells (F := fun j => j = w3.heap.size) rfl G 0 _).below (fun j hj => by omega) hB4.size))))
  clear hsd hB3 hw3 hblk hB4 hb3 HB2
  go_wp2_with (refine wpList_store_mid rfl 200 _ _ rfl w3.heap.size 0 G.toArray rfl rfl ?h1 ?h2 hall ?_)
  case h1 => simpa using hth
  case h2 => simpa using hinfo
  go_ret2
  exact ⟨w3.heap.size, rfl, HH.out⟩
end Go.Proofs.YtokcgifpljeoiaaGreat
end

section
namespace Go.Proofs.YtokcgifpljeoiaaGreat
open Go.RowKit

end Go.Proofs.YtokcgifpljeoiaaGreat
end

section
namespace Go.Proofs.YtokcgifpljeoiaaGreat
open Go.RowKit Go.Maps

/-- What the log holds of a transaction. -/
def recOf (ms : CM) : List Int := leb 2 ms.length ++ (ms.flatMap (fun q => leb 4 q.1) ++ ms.flatMap (·.2))
theorem names_len (ms : CM) : (ms.flatMap (fun q => leb 4 q.1)).length = 4 * ms.length := by
  induction ms with
  | nil => rfl
  | cons q qs ih => simp only [List.flatMap_cons, List.length_append, leb_len, ih, List.length_cons]; omega
theorem texts_len {ms : CM} (h : ∀ q ∈ ms, q.2.length = 512) : (ms.flatMap (·.2)).length = 512 * ms.length := by
  induction ms with
  | nil => rfl
  | cons q qs ih =>
    simp only [List.flatMap_cons, List.length_append, ih (fun x hx => h x (List.mem_cons_of_mem _ hx)), h q List.mem_cons_self, List.length_cons]
    omega
theorem recOf_len {ms : CM} (h : ∀ q ∈ ms, q.2.length = 512) : (recOf ms).length = 2 + 516 * ms.length := by
  unfold recOf
  rw [List.length_append, List.length_append, leb_len, names_len, texts_len h]
  omega

theorem ssectors_any (a : Option Addr) (n c : Nat) (w : World) (hn : n ≤ 140737488355328) :
    Calls Tryz.prog 96 #[.slice a n c] w fun e w' => e = .returned (.int .i64 (((n + 491) / 492 : Nat) : Int)) ∧ w' = w := by
  have h1 : (n : Int) + 492 - 1 = ((n + 491 : Nat) : Int) := by omega
  go_enter Tryz.func96, Tryz.ntmps96
  go_wp2
  go_ret
  refine ⟨?_, rfl⟩
  refine congrArg (fun z => Ending.returned (.int .i64 z)) ?_
  first | (rw [h1]; omega) | omega

/-- A row of bytes that is answered. -/
def RowOut (B : Nat) (w' : World) (l : List Int) (e : Ending) : Prop := ∃ v', e = .returned v' ∧ w'.ownsRow B 5 1 v' l.length (bs l)

set_option maxRecDepth 20000 in
set_option maxHeartbeats 4000000 in
theorem laid_any {w : World} {B : Nat} {v : Value} {l : List Int} (h : w.ownsRow B 5 1 v l.length (bs l)) (hB : B ≤ w.heap.size) (N k : Nat) (hk : k ≤ 4) (hl : l.length ≤ 1000000) :
    Calls Tryz.prog 131 #[v, .int .i64 (N : Int), .int .i64 (k : Int)] w fun e w' => RowOut B w' (l ++ leb k N) e ∧ Below B w w' := by
  obtain ⟨i0, hi0, hz0, hz1, hz2⟩ := info_parts infoU8
  go_enter Tryz.func131, Tryz.ntmps131
  go_wp2
  go_loopw [0, 9] (fun u i wr => ∃ j : Nat, j ≤ k ∧ i = .int .i64 (j : Int) ∧ wr.ownsRow B 5 1 u (l ++ leb j N).length (bs (l ++ leb j N)) ∧ Below B w wr) (fun _ i _ => k - (intOf i).toNat)
  case atStart => exact ⟨0, Nat.zero_le _, rfl, by simpa [leb] using h, Below.refl _ _⟩
  case round =>
    obtain ⟨j, hj, rfl, hrow, hb⟩ := hrel
    have hbz := hb.size
    by_cases hlt : j < k
    · have hlt' : (j : Int) < (k : Int) := by omega
      have hlen := leb_len j N
      have hnn : (0 : Int) ≤ 8 * (j : Int) := by omega
      have Hrow := hrow
      have hll : (l ++ leb j N).length + 1 ≤ 1000010 := by rw [List.length_append, hlen]; omega
      go_wp2_with (at_builtin; refine wpList_append_own _ rfl _ _ 22 rfl B 5 i0 (.int .u8 0) 1 1 Tryz.underlying22 hi0 hz0 hz1 hz2 rfl (by decide) _ _ _ rfl (Hrow.alloc _) ⟨wr.heap.size, 0, none⟩ 1 1 [.int .u8 ((N / 2 ^ (8 * j) % 256 : Nat) : Int)] rfl rfl (cell_one_new _ _ _) (ints_oneCell .u8 [((N / 2 ^ (8 * j) % 256 : Nat) : Int)]) (by unfold maxLen; omega) (by omega) (by simp; omega) ?_)
      intro v' w3 hown' hgrow hnil
      have hgr2 := fun q e => (hrow.lt q e).1
      have hb3 := (hb.alloc (by omega) _).grown hgrow (by simp; omega) (fun q e => hgr2 q e)
      have hown2 : w3.ownsRow B 5 1 v' (l ++ leb (j + 1) N).length (bs (l ++ leb (j + 1) N)) := by
        have e1 : (l ++ leb j N ++ [((N / 2 ^ (8 * j) % 256 : Nat) : Int)]).length = (l ++ leb j N).length + 1 := by simp only [List.length_append, List.length_singleton]
        have e2 : bs (l ++ leb j N ++ [((N / 2 ^ (8 * j) % 256 : Nat) : Int)]) = bs (l ++ leb j N) ++ [.int .u8 ((N / 2 ^ (8 * j) % 256 : Nat) : Int)] := by simp only [bs, List.map_append, List.map_cons, List.map_nil]
        rw [leb_snoc, ← List.append_assoc, e1, e2, List.length_append, hlen]
        simpa [bs] using hown'
      go_wp2
      go_roundw
      case rel => exact ⟨j + 1, by omega, by go_num, hown2, hb3⟩
      case measure => simp [intOf]; omega
    · have hlt' : ¬ (j : Int) < (k : Int) := by omega
      obtain rfl : j = k := by omega
      have HZ := (And.intro hrow hb)
      go_wp2
      go_ret
      exact ⟨⟨_, rfl, HZ.1⟩, HZ.2⟩
end Go.Proofs.YtokcgifpljeoiaaGreat
end

section
namespace Go.Proofs.YtokcgifpljeoiaaGreat
open Go.RowKit Go.Maps

theorem infoConL {l : List Int} (h : l.length = 512) : (Tryz.prog.info? 118).map (·.size) = some (bs l).length := by
  obtain ⟨i, hi, he⟩ := Option.map_eq_some_iff.1 infoCon
  simp only [Prod.mk.injEq] at he
  rw [hi, bs, List.length_map, h, ← he.2]; rfl
/-- A content in a box of its own. -/
theorem con_stored (w : World) {c : List Int} (hc : c.length = 512) : Blk ((w.alloc (.cells zsec 118)).setCells w.heap.size 0 (bs c)) 118 w.heap.size c ∧ Below w.heap.size w ((w.alloc (.cells zsec 118)).setCells w.heap.size 0 (bs c)) ∧ (w.alloc (.cells zsec 118)).there w.heap.size 0 (bs c).length := by
  have hw1 : (w.alloc (.cells zsec 118)).heap[w.heap.size]? = some (.cells zsec 118 (0, 0)) := heap_alloc_new _ _
  have hB1 : Below w.heap.size w (w.alloc (.cells zsec 118)) := (Below.refl _ w).alloc (Nat.le_refl _) _
  refine ⟨blk_stored (l := c) hw1 (by rw [zsec_size, hc]), hB1.trans ((Keeps.setCells (F := fun j => j = w.heap.size) rfl (bs c) 0 _).below (fun j hj => by omega) hB1.size), ?_⟩
  rw [bs, List.length_map, hc]
  exact (there_of hw1 zsec_size)
theorem Blk.news {w : World} {T : TypeId} {g : Nat} {l : List Int} (h : Blk w T g l) : ∀ j u, (bs l)[j]? = some u → w.cell? ((⟨g, 0, none⟩ : Addr).add j) = some u := fun j u hu => by
  obtain ⟨hj, rfl⟩ := bs_getElem hu
  rw [addr_add, Nat.zero_add]
  exact h.cell hj
theorem owns_agreeS {W W' : World} {B : Nat} {e : TypeId} {v : Value} {n : Nat} {xs : List Value} (h : W.ownsRow B e 1 v n xs) (hb : ∀ g, v.ownBlock = some g → W'.heap[g]? = W.heap[g]?) : W'.ownsRow B e 1 v n xs := by
  obtain ⟨hl, ⟨e, h3⟩ | ⟨g, cap, cur, rfl, hg, hbk, h4⟩⟩ := h
  · exact ⟨hl, .inl ⟨e, h3⟩⟩
  · exact ⟨hl, .inr ⟨g, cap, cur, rfl, hg, (hb g rfl).trans hbk, h4⟩⟩
theorem keys_at {ms : CM} {j : Nat} (hj : j < ms.length) : (is_ (CM.keys ms))[j]? = some (.int .i64 ((ms[j]).1 : Int)) := by
  simp [is_, CM.keys, hj]

set_option maxRecDepth 20000 in
set_option maxHeartbeats 8000000 in
theorem record_any {w : World} {m : Nat} {ms : CM} (h : Ch w m ms) :
    Calls Tryz.prog 95 #[.map (some m)] w fun e w' => (∃ B, w.heap.size ≤ B ∧ RowOut B w' (recOf ms) e) ∧ Below w.heap.size w w' := by
  obtain ⟨i0, hi0, hz0, hz1, hz2⟩ := info_parts infoU8
  have h1 := inOrder_any h
  have hsm := h.small
  have hlen := h.len
  have hok := h.ok
  have hkl : (CM.keys ms).length = ms.length := by simp [CM.keys]
  rw [hkl] at h1
  have hzc := zeroCon
  have HC := Hid.mk h
  clear h
  go_enter Tryz.func95, Tryz.ntmps95
  go_wp2_with fail
  refine h1.mono ?_
  rintro e w1 ⟨a, c, rfl, hrow, hb1⟩
  have hz1' := hb1.size
  have hl1 := laid_any (w := w1) (B := w1.heap.size) (v := .slice none 0 0) (l := []) (World.ownsRow_nil _ _ _ _) (Nat.le_refl _) ms.length 2 (by omega) (by simp)
  rw [show ((2 : Nat) : Int) = 2 from rfl] at hl1
  have HRow := Hid.mk hrow
  have HB1 := Hid.mk hb1
  clear h1 hrow hb1
  go_wp2_with fail
  refine hl1.mono ?_
  rintro e w2 ⟨⟨v2, rfl, ho2⟩, hb2⟩
  rw [List.nil_append] at ho2
  have HO2 := Hid.mk (And.intro ho2 hb2)
  clear hl1 ho2 hb2
  go_wp2
  go_loopw [4, 17] (fun u i wr => ∃ j : Nat, j ≤ ms.length ∧ i = .int .i64 (j : Int) ∧ wr.ownsRow w1.heap.size 5 1 u (leb 2 ms.length ++ (ms.take j).flatMap (fun q => leb 4 q.1)).length (bs (leb 2 ms.length ++ (ms.take j).flatMap (fun q => leb 4 q.1))) ∧ Below w1.heap.size w1 wr) (fun _ i _ => ms.length - (intOf i).toNat)
  case atStart => exact ⟨0, Nat.zero_le _, rfl, by simpa using HO2.out.1, HO2.out.2⟩
  case round =>
    clear HO2
    obtain ⟨j, hj, rfl, hown, hb⟩ := hrel
    have hbz := hb.size
    by_cases hlt : j < ms.length
    · have hlt' : (j : Int) < (ms.length : Int) := by omega
      have hj0 : (0 : Int) ≤ (j : Int) := by omega
      obtain ⟨g, rfl, hg, hr⟩ := HRow.out (by simp [CM.keys]; intro e; rw [e] at hlt; simp at hlt)
      have hc4 := (hr.agree (hb.block g hr.lt)).cell (keys_at hlt)
      have hq := hlen _ (List.getElem_mem hlt)
      have hl2 := laid_any hown hbz (ms[j]).1 4 (by omega) (by
        rw [List.length_append, leb_len, names_len, List.length_take]
        omega)
      rw [show ((4 : Nat) : Int) = 4 from rfl, List.append_assoc, show (ms.take j).flatMap (fun q => leb 4 q.1) ++ leb 4 (ms[j]).1 = (ms.take (j + 1)).flatMap (fun q => leb 4 q.1) by rw [List.take_succ_eq_append_getElem hlt, List.flatMap_append]; simp] at hl2
      have HB := Hid.mk hb
      clear hr hown hb
      generalize (ms[j]).1 = K at *
      go_wp2_with fail
      refine hl2.mono ?_
      rintro e w3 ⟨⟨v3, rfl, ho3⟩, hb3⟩
      have HN := Hid.mk (And.intro ho3 (HB.out.trans hb3))
      clear hl2 ho3 hb3
      go_wp2
      go_roundw
      case rel => exact ⟨j + 1, by omega, by go_num, HN.out⟩
      case measure => simp [intOf]; omega
    · have hlt' : ¬ (j : Int) < (ms.length : Int) := by omega
      obtain rfl : j = ms.length := by omega
      rw [List.take_length] at hown
      have HN := Hid.mk (And.intro hown hb)
      clear hown hb
      rename World => wo
      go_wp2
      go_loopw [4, 27] (fun u i wr => ∃ j : Nat, j ≤ ms.length ∧ i = .int .i64 (j : Int) ∧ wr.ownsRow w1.heap.size 5 1 u (leb 2 ms.length ++ ((ms.flatMap fun q => leb 4 q.1) ++ (ms.take j).flatMap (·.2))).length (bs (leb 2 ms.length ++ ((ms.flatMap fun q => leb 4 q.1) ++ (ms.take j).flatMap (·.2)))) ∧ Below w1.heap.size w1 wr) (fun _ i _ => ms.length - (intOf i).toNat)
      case atStart => exact ⟨0, Nat.zero_le _, rfl, by simpa using HN.out.1, HN.out.2⟩
      case round =>
        clear HN
        obtain ⟨j, hj, rfl, hown, hb⟩ := hrel
        have hbz := hb.size
        by_cases hlt : j < ms.length
        · have hlt2 : (j : Int) < (ms.length : Int) := by omega
          have hj0 : (0 : Int) ≤ (j : Int) := by omega
          obtain ⟨g, rfl, hg, hr⟩ := HRow.out (by simp [CM.keys]; intro e; rw [e] at hlt; simp at hlt)
          have hc4 := (hr.agree (hb.block g hr.lt)).cell (keys_at hlt)
          have hq := hlen _ (List.getElem_mem hlt)
          have hst := con_stored wr hq.2.1
          have hinfo := infoConL hq.2.1
          have hone := bs_one (ms[j]).2
          have hF5 : (bs (ms[j]).2).length = 512 := by rw [bs, List.length_map, hq.2.1]
          have hnew : leb 2 ms.length ++ ((ms.flatMap fun q => leb 4 q.1) ++ (ms.take (j + 1)).flatMap (·.2)) = leb 2 ms.length ++ ((ms.flatMap fun q => leb 4 q.1) ++ (ms.take j).flatMap (·.2)) ++ (ms[j]).2 := by
            rw [List.take_succ_eq_append_getElem hlt, List.flatMap_append]
            simp
          have hll : (leb 2 ms.length ++ ((ms.flatMap fun q => leb 4 q.1) ++ (ms.take j).flatMap (·.2))).length ≤ 2000000 := by
            rw [List.length_append, List.length_append, leb_len, names_len, texts_len (fun q hq => (hlen q (List.mem_of_mem_take hq)).2.1), List.length_take]
            omega
          have hnl : (leb 2 ms.length ++ ((ms.flatMap fun q => leb 4 q.1) ++ (ms.take (j + 1)).flatMap (·.2))).length = (leb 2 ms.length ++ ((ms.flatMap fun q => leb 4 q.1) ++ (ms.take j).flatMap (·.2))).length + 512 := by rw [hnew, List.length_append, hq.2.1]
          have hnb : bs (leb 2 ms.length ++ ((ms.flatMap fun q => leb 4 q.1) ++ (ms.take (j + 1)).flatMap (·.2))) = bs (leb 2 ms.length ++ ((ms.flatMap fun q => leb 4 q.1) ++ (ms.take j).flatMap (·.2))) ++ bs (ms[j]).2 := by rw [hnew]; simp only [bs, List.map_append]
          have HNL := Hid.mk (And.intro hnl hnb)
          generalize leb 2 ms.length ++ ((ms.flatMap fun q => leb 4 q.1) ++ (ms.take j).flatMap (·.2)) = X at *
          have hnews := hst.1.news
          obtain ⟨A, hA⟩ : ∃ A, A = bs (ms[j]).2 := ⟨_, rfl⟩
          rw [← hA] at hinfo hone hF5 hnews hst
          have hread' : (Instr.lookup 102 (.map (some m)) (.int .i64 ((ms[j]).1 : Int)) false).run Tryz.prog wr = .ok (.agg A.toArray) wr := by rw [hA]; exact (((HC.out.later HB1.out).later hb).read (ms[j]).1 (CM.get_of_mem hok (List.getElem_mem hlt)))
          have HA := Hid.mk hA
          have hall := all_oneCell_toArray hone
          obtain ⟨wS, hwS⟩ : ∃ wS, wS = (wr.alloc (.cells zsec 118)).setCells wr.heap.size 0 A := ⟨_, rfl⟩
          have hth := hst.2.2
          have hbS : Below wr.heap.size wr wS := by rw [hwS]; exact hst.2.1
          have hrow2 := owns_agreeS hown (fun q hq => hbS.block q (by have := (hown.lt q hq).2; omega))
          have hnews2 : ∀ j u, A[j]? = some u → wS.cell? ((⟨wr.heap.size, 0, none⟩ : Addr).add j) = some u := by rw [hwS]; exact hnews
          have Hrow2 := Hid.mk hrow2
          have Hnews := Hid.mk hnews2
          have HwS := Hid.mk hwS
          have hgr2 := fun q e => (hown.lt q e).1
          have HB := Hid.mk (And.intro hb hbS)
          clear hst hr hown hb hrow2 hnews hnews2 hbS hA hnl hnb hnew hq
          generalize (ms[j]).1 = K at *
          generalize zsec = Z at *
          go_wp2_with (first | refine wpList_store_mid rfl 118 _ _ rfl wr.heap.size 0 A.toArray rfl rfl ?h1 ?h2 hall ?_ | (rw [← HwS.out]; at_builtin; refine wpList_append_own _ rfl _ _ 22 rfl w1.heap.size 5 i0 (.int .u8 0) 1 1 Tryz.underlying22 hi0 hz0 hz1 hz2 rfl (by decide) _ _ _ rfl Hrow2.out ⟨wr.heap.size, 0, none⟩ 512 512 A rfl ?n0 Hnews.out ?n2 ?n3 ?n4 ?n5 ?_))
          case h1 => rw [hF5] at hth; simpa using hth
          case n2 => exact hone
          case n3 => unfold maxLen; omega
          case n4 => omega
          case n5 => rw [← HwS.out]; have := HB.out.2.size; omega
          intro v' w3 hown' hgrow hnil
          rw [← HwS.out] at hgrow
          have hb3 := (HB.out.1.trans (HB.out.2.mono hbz)).grown hgrow (by have := HB.out.2.size; omega) (fun q e => hgr2 q e)
          have hown2 : RowOut w1.heap.size w3 (leb 2 ms.length ++ ((ms.flatMap fun q => leb 4 q.1) ++ (ms.take (j + 1)).flatMap (·.2))) (.returned v') := by
            refine ⟨v', rfl, ?_⟩
            rw [HNL.out.1, HNL.out.2, ← HA.out]
            simpa [bs] using hown'
          have HN := Hid.mk (And.intro hown2 hb3)
          clear hown' hgrow hnil hown2 hb3
          go_wp2
          go_roundw
          case rel =>
            obtain ⟨⟨v9, e9, h9⟩, h8⟩ := HN.out
            cases e9
            exact ⟨j + 1, by omega, by go_num, h9, h8⟩
          case measure => simp [intOf]; omega
        · have hlt2 : ¬ (j : Int) < (ms.length : Int) := by omega
          obtain rfl : j = ms.length := by omega
          rw [List.take_length] at hown
          have HN := Hid.mk (And.intro hown (HB1.out.trans (hb.mono hz1')))
          clear hown hb
          go_wp2
          go_ret
          exact ⟨⟨w1.heap.size, hz1', _, rfl, HN.out.1⟩, HN.out.2⟩
end Go.Proofs.YtokcgifpljeoiaaGreat
end

section
namespace Go.Proofs.YtokcgifpljeoiaaGreat
open Go.RowKit Go.Maps

/-- What a range over a map meets. -/
theorem ChAt.meets {w : World} {m : Nat} {ms : CM} {D : DataW Value} (h : ChAt w m ms D) {x : Int} {ca : Array Value} {kl : Lit} {y : DataW Value} {yp : List MemPlace} (hkey : keyOf Tryz.prog 3 (.int .i64 x) = some kl) (hv : Ra (.agg ca) = some (y, yp)) (hat : ∀ zd, D.atKey kl zd = y) :
    ∃ (k : Nat) (c : List Int), x = (k : Int) ∧ kl = kk k ∧ CM.get ms k = some c ∧ Value.agg ca = cV c := by
  obtain ⟨k, hx, hkl, hs⟩ := h.met hkey hat
  obtain ⟨c, hc⟩ := Option.isSome_iff_exists.1 hs
  refine ⟨k, c, hx, hkl, hc, ?_⟩
  have h1 := (h.at' k c hc).2 (.held (.bool false))
  rw [← hkl, hat] at h1
  obtain ⟨h2, _⟩ := Ra_inv hv
  rw [h2] at h1
  exact held_inj h1
end Go.Proofs.YtokcgifpljeoiaaGreat
end

section
namespace Go.Proofs.YtokcgifpljeoiaaGreat
open Go.RowKit Go.Maps

abbrev P3 := Int × Int × Int

/-- What is told of a list of picks. -/
def PSrc (w : World) (a : Option Addr) (n : Nat) (l : List P3) : Prop :=
  l.length = n ∧ (a = none → n = 0) ∧ (∀ x, a = some x → ∀ i (hi : i < l.length), ∃ b o, x = ⟨b, o, none⟩ ∧ w.cell? ⟨b, o + i * 3, none⟩ = some (.int .i64 l[i].1) ∧ w.cell? ⟨b, o + i * 3 + 1, none⟩ = some (.int .i64 l[i].2.1) ∧ w.cell? ⟨b, o + i * 3 + 2, none⟩ = some (.int .i64 l[i].2.2)) ∧
    ∀ q ∈ l, q.1 ≤ 9223372036854775807 ∧ q.2.1 ≤ 9223372036854775807 ∧ q.2.2 ≤ 9223372036854775807

/-- The pick that the i-th sector takes. -/
def pickN (l : List P3) (i : Nat) : P3 := if h : 0 < l.length then l[i % l.length]'(Nat.mod_lt _ h) else (0, 0, 0)

def tornBy (S : DS) (k : Nat) (q : P3) : List Int := tornOf S k (max q.1 0).toNat (max q.2.1 0).toNat (max q.2.2 0).toNat

/-- What a sector holds behind the cut. -/
def cutOf (S : DS) (l : List P3) (k : Nat) : List Int := if pendOf S.puts k = [] then dsec S.im k else tornBy S k (pickN l (keysOf S k).length)

def DS.crash (S : DS) (s : Nat) (l : List P3) : DS := { S with im := imOf s (cutOf S l), puts := [], fuse := -1, life := wrap64 (S.life + 1) }

theorem keysOf_succ (S : DS) (s : Nat) : keysOf S (s + 1) = keysOf S s ++ (if pendOf S.puts s = [] then [] else [s]) := by
  unfold keysOf
  rw [List.range_succ, List.filter_append]
  congr 1
  by_cases h : pendOf S.puts s = [] <;> simp [h]

theorem keysOf_idx (S : DS) : ∀ (s j k : Nat), (keysOf S s)[j]? = some k → (keysOf S k).length = j
  | 0, j, k, h => by simp [keysOf] at h
  | s + 1, j, k, h => by
    rw [keysOf_succ] at h
    by_cases hj : j < (keysOf S s).length
    · rw [List.getElem?_append_left hj] at h
      exact keysOf_idx S s j k h
    · rw [List.getElem?_append_right (by omega)] at h
      split at h
      · simp at h
      · have hj0 : j - (keysOf S s).length = 0 := by
          have := (List.getElem?_eq_some_iff.1 h).1
          simp at this
          omega
        rw [hj0] at h
        simp at h
        subst h
        omega

theorem torn_len {S : DS} {s : Nat} (h : S.Ok s) {k : Nat} (hk : k < s) (A B C : Nat) : (tornOf S k A B C).length = 512 := by
  unfold tornOf
  rw [List.length_append, List.length_take, List.length_drop, (DS.cand_len h hk (j := A % ((pendOf S.puts k).length + 1)) (Nat.le_of_lt_succ (Nat.mod_lt _ (by omega)))), (DS.cand_len h hk (j := B % ((pendOf S.puts k).length + 1)) (Nat.le_of_lt_succ (Nat.mod_lt _ (by omega))))]
  omega

theorem cut_len {S : DS} {s : Nat} (h : S.Ok s) (l : List P3) : ∀ k, k < s → (cutOf S l k).length = 512 := fun k hk => by
  unfold cutOf
  split
  · exact dsec_len h.len hk
  · exact torn_len h hk _ _ _

/-- A sector that has not been torn yet. -/
theorem torn_im (S : DS) (im : List Int) (k A B C : Nat) (h : dsec im k = dsec S.im k) : tornOf { S with im := im } k A B C = tornOf S k A B C := by
  have e : ∀ j, DS.cand { S with im := im } k j = S.cand k j := fun j => by
    unfold DS.cand
    split
    · exact h
    · rfl
  unfold tornOf
  rw [e, e]

theorem mem_take_succ {ks : List Nat} {j k0 : Nat} (h : ks[j]? = some k0) (k : Nat) : k ∈ ks.take (j + 1) ↔ k ∈ ks.take j ∨ k = k0 := by
  rw [List.take_add_one, h]
  simp

theorem not_mem_take {ks : List Nat} (hn : ks.Nodup) {j k0 : Nat} (h : ks[j]? = some k0) : k0 ∉ ks.take j := by
  obtain ⟨hj, e⟩ := List.getElem?_eq_some_iff.1 h
  intro hm
  obtain ⟨i, hi, e2⟩ := List.mem_iff_getElem.1 hm
  rw [List.getElem_take] at e2
  have := List.getElem_inj (h₀ := by simp at hi; omega) (h₁ := hj) hn |>.1 (e2.trans e.symm)
  simp at hi
  omega

/-- One round of a power cut. -/
theorem crash_step {S : DS} {s : Nat} (hok : S.Ok s) (l : List P3) {im : List Int} {j k : Nat} (him : im.length = s * 512) (hk : (keysOf S s)[j]? = some k)
    (hs : ∀ i, i < s → dsec im i = if i ∈ (keysOf S s).take j then cutOf S l i else dsec S.im i) :
    k < s ∧ pendOf S.puts k ≠ [] ∧ tornBy { S with im := im } k (pickN l j) = cutOf S l k ∧ ∀ i, i < s → dsec (splice im (k * 512) (cutOf S l k)) i = if i ∈ (keysOf S s).take (j + 1) then cutOf S l i else dsec S.im i := by
  obtain ⟨hks, hp⟩ := mem_keysOf.1 (List.mem_of_getElem? hk)
  have hnd : (keysOf S s).Nodup := List.Pairwise.filter _ List.nodup_range
  have hsk := hs k hks
  rw [if_neg (not_mem_take hnd hk)] at hsk
  have e : tornBy { S with im := im } k (pickN l j) = cutOf S l k := by
    unfold tornBy cutOf
    rw [if_neg hp, keysOf_idx S s j k hk, torn_im S im k _ _ _ hsk]
    rfl
  refine ⟨hks, hp, e, fun i hi => ?_⟩
  rw [sec_splice him (cut_len hok l k hks) hks]
  by_cases ei : i = k
  · subst ei
    rw [if_pos rfl, if_pos ((mem_take_succ hk i).2 (.inr rfl))]
  · rw [if_neg ei, hs i hi]
    by_cases hm : i ∈ (keysOf S s).take j
    · rw [if_pos hm, if_pos ((mem_take_succ hk i).2 (.inl hm))]
    · rw [if_neg hm, if_neg (fun h => by rcases (mem_take_succ hk i).1 h with h | h; exact hm h; exact ei h)]

theorem crash_all {S : DS} {s : Nat} (hok : S.Ok s) (l : List P3) {im : List Int} (him : im.length = s * 512) (hs : ∀ i, i < s → dsec im i = if i ∈ (keysOf S s).take (keysOf S s).length then cutOf S l i else dsec S.im i) : im = imOf s (cutOf S l) := by
  refine im_ext s him (imOf_len s _ (cut_len hok l)) (fun k hk => ?_)
  rw [hs k hk, sec_imOf s _ (cut_len hok l) k hk, List.take_length]
  by_cases hp : pendOf S.puts k = []
  · rw [if_neg (fun h => (mem_keysOf.1 h).2 hp)]
    simp [cutOf, hp]
  · rw [if_pos (mem_keysOf.2 ⟨hk, hp⟩)]

theorem PSrc.keeps {w w' : World} {a : Option Addr} {n : Nat} {l : List P3} {F : Nat → Prop} (h : PSrc w a n l) (hk : Keeps F w w') (hF : ∀ x, a = some x → ¬ F x.block) : PSrc w' a n l := by
  refine ⟨h.1, h.2.1, fun x hx i hi => ?_, h.2.2.2⟩
  obtain ⟨b, o, rfl, h1, h2, h3⟩ := h.2.2.1 x hx i hi
  have e := hk.block b (World.block_lt_of_cell? _ _ h1) (hF _ hx)
  exact ⟨b, o, rfl, (World.cell?_of_block (w := w) (a := ⟨b, _, none⟩) e).trans h1, (World.cell?_of_block (w := w) (a := ⟨b, _, none⟩) e).trans h2, (World.cell?_of_block (w := w) (a := ⟨b, _, none⟩) e).trans h3⟩

theorem crash_end {w wr w3 : World} {F : Nat → Prop} {p s : Nat} {S : DS} {gi ci m : Nat} {D : DataW Value} {gr cr : Nat → Nat} {im : List Int} {l : List P3} (h : DiskRaw w F p s S gi ci m D gr cr) (hd : DiskRaw wr F p s { S with im := im } gi ci m D gr cr)
    (he : im = imOf s (cutOf S l)) (hk : Keeps F w wr) (hm3 : w3.ownsMap Tryz.prog 3 Rs m 0 (.map [])) (hk3 : Keeps (fun k => k = m) wr w3) :
    w3.cell? ⟨p, 2, none⟩ = some (.int .i64 S.fuse) ∧ w3.frozen? ⟨p, 2, none⟩ = false ∧ w3.cell? ⟨p, 3, none⟩ = some (.int .i64 S.life) ∧ w3.frozen? ⟨p, 3, none⟩ = false ∧
    DiskAt ((w3.setCell ⟨p, 2, none⟩ (.int .i64 (-1))).setCell ⟨p, 3, none⟩ (.int .i64 (wrap64 (S.life + 1)))) F p s (S.crash s l) ∧ Keeps F w ((w3.setCell ⟨p, 2, none⟩ (.int .i64 (-1))).setCell ⟨p, 3, none⟩ (.int .i64 (wrap64 (S.life + 1)))) := by
  subst he
  have hd3 := hd.cleared hm3 hk3
  have hd4 : DiskRaw (w3.setCell ⟨p, 2, none⟩ (.int .i64 (-1))) F p s { S with im := imOf s (cutOf S l), puts := [], fuse := -1 } gi ci m (.map []) gr cr :=
    hd3.turn (hd3.set 2 _).2 ((hd3.set 2 _).1.trans (by simp [dkCells])) rfl rfl (by simp)
  have hd5 : DiskRaw ((w3.setCell ⟨p, 2, none⟩ (.int .i64 (-1))).setCell ⟨p, 3, none⟩ (.int .i64 (wrap64 (S.life + 1)))) F p s (S.crash s l) gi ci m (.map []) gr cr :=
    hd4.turn (hd4.set 3 _).2 ((hd4.set 3 _).1.trans (by simp [dkCells, DS.crash])) rfl rfl (by simp [DS.crash])
  refine ⟨cell_of_block hd3.blk (j := 2) rfl, frozen_of_block hd3.blk 2, cell_of_block hd3.blk (j := 3) rfl, frozen_of_block hd3.blk 3, ⟨gi, ci, m, _, gr, cr, hd5⟩, ?_⟩
  exact ((hk.trans hk3 (fun j hj => .inl (hj ▸ h.fm))).trans (Keeps.setCell (F := fun k => k = p) w3 (p := ⟨p, 2, none⟩) rfl _) (fun j hj => .inl (hj ▸ h.fp))).trans (Keeps.setCell (F := fun k => k = p) _ (p := ⟨p, 3, none⟩) rfl _) (fun j hj => .inl (hj ▸ h.fp))

/-- The round's tear, whichever pick it is. -/
theorem crash_tear {wr wx : World} {F : Nat → Prop} {p s : Nat} {S : DS} {gi ci m : Nat} {D : DataW Value} {gr cr : Nat → Nat} {im : List Int} {l : List P3} (hbig : S.puts.length + 1 ≤ 5000000000000) (hd : DiskRaw wr F p s { S with im := im } gi ci m D gr cr)
    (hb : Below wr.heap.size wr wx) {j k : Nat} (hks : k < s) (hto : tornBy { S with im := im } k (pickN l j) = cutOf S l k) (A B C : Int) (hq : pickN l j = (A, B, C)) (hA : A ≤ 9223372036854775807) (hB : B ≤ 9223372036854775807) (hC : C ≤ 9223372036854775807) :
    Calls Tryz.prog 53 #[.pointer (some ⟨p, 0, none⟩), .int .i64 (k : Int), .agg #[.int .i64 A, .int .i64 B, .int .i64 C]] wx fun e w' => e = .returned (.tuple #[]) ∧ DiskRaw w' F p s { S with im := splice im (k * 512) (cutOf S l k) } gi ci m D gr cr ∧ Keeps F wr w' := by
  refine (tear_ok (hd.agree hb.size (fun i hi => hb.block i (hd.lt i hi))) k hks hbig A B C (max A 0).toNat (max B 0).toNat (max C 0).toNat (by omega) (by omega) (by omega) hA hB hC).mono ?_
  rintro e w' ⟨rfl, h1, h2⟩
  refine ⟨rfl, ?_, (Keeps.of_below F hb).trans h2 (fun i hi => .inl hi)⟩
  rw [← hto, hq]
  exact h1

set_option maxHeartbeats 4000000 in
set_option maxRecDepth 100000 in
theorem crash_ok (sorts : SortSaid) (sortn : SortNil) {w : World} {F : Nat → Prop} {p s : Nat} {S : DS} (hd : DiskAt w F p s S) (hbig : S.puts.length + 1 ≤ 5000000000000) (a : Option Addr) (n c : Nat) (l : List P3) (hps : PSrc w a n l) (hn : n ≤ 140737488355328) (hF : ∀ x, a = some x → ¬ F x.block) :
    Calls Tryz.prog 16 #[.pointer (some ⟨p, 0, none⟩), .slice a n c] w fun e w' => e = .returned (.tuple #[]) ∧ DiskAt w' F p s (S.crash s l) ∧ Keeps F w w' := by
  obtain ⟨gi, ci, m, D, gr, cr, h⟩ := hd
  have hun := unfl_ok sorts sortn h hbig
  have hkl : (keysOf S s).length ≤ 2048 := by
    have := List.length_filter_le (fun k => !(pendOf S.puts k).isEmpty) (List.range s)
    rw [List.length_range] at this
    exact Nat.le_trans this h.ok.hi
  have H := h
  have HP := hps
  clear h hps
  go_enter Tryz.func16, Tryz.ntmps16
  go_wp2_with (go_at_call 52; refine hun.mono ?_; rintro e w1 ⟨ak, ck, rfl, hrow, hb1⟩)
  have Hrow := hrow
  have hd1 := H.agree hb1.size (fun j hj => hb1.block j (H.lt j hj))
  have hk1 := Keeps.of_below F hb1
  clear hun hrow
  go_loopw [4, 5, 6, 10] (fun _ _ _ i wr => ∃ j : Nat, j ≤ (keysOf S s).length ∧ i = .int .i64 (j : Int) ∧ ∃ im, DiskRaw wr F p s { S with im := im } gi ci m D gr cr ∧ (∀ i, i < s → dsec im i = if i ∈ (keysOf S s).take j then cutOf S l i else dsec S.im i) ∧ Keeps F w wr ∧
      (keysOf S s ≠ [] → ∃ g, ak = some ⟨g, 0, none⟩ ∧ RowAt wr 3 g ck (is_ (keysOf S s)) ∧ w.heap.size ≤ g)) (fun _ _ _ i _ => (keysOf S s).length - (intOf i).toNat)
  case atStart => exact ⟨0, Nat.zero_le _, rfl, S.im, hd1, fun i _ => by simp, hk1, fun h => by obtain ⟨g, e, hg, hr⟩ := Hrow h; exact ⟨g, e, hr, hg⟩⟩
  case round =>
    clear hd1 hk1 Hrow
    obtain ⟨j, hj, rfl, im, hd, hse, hk, hrow⟩ := hrel
    have Hd := hd
    have Hse := hse
    clear hd hse
    by_cases hlt : j < (keysOf S s).length
    · have hlt' : (j : Int) < ((keysOf S s).length : Int) := by omega
      obtain ⟨g, rfl, hr, hg⟩ := hrow (by intro e; rw [e] at hlt; simp at hlt)
      obtain ⟨k0, hk0⟩ : ∃ k, (keysOf S s)[j]? = some k := ⟨_, List.getElem?_eq_getElem hlt⟩
      have hc0 : wr.cell? ⟨g, j, none⟩ = some (.int .i64 (k0 : Int)) := hr.cell (by simp [is_, hk0])
      obtain ⟨hks, hp, hto, hse2⟩ := crash_step H.ok l Hd.ok.len hk0 Hse
      have Hr := hr
      have Hse2 := hse2
      clear hr hse2
      by_cases hn0 : n = 0
      · subst hn0
        have hq : pickN l j = (0, 0, 0) := by simp [pickN, HP.1]
        have hte := fun o => crash_tear hbig Hd ((Below.refl wr.heap.size wr).alloc (Nat.le_refl _) o) hks hto 0 0 0 hq (by omega) (by omega) (by omega)
        go_wp2_with (go_at_call 53; refine (hte _).mono ?_; rintro e w5 ⟨rfl, hd5, hk5⟩)
        have hr5 := Hr.agree (hk5.block g Hr.lt (fun hf => by have := H.lt g hf; omega))
        have Hd5 := hd5
        have hk6 := hk.trans hk5 (fun i hi => .inl hi)
        clear hd5 hk5 hte hc0
        go_roundw
        case rel => exact ⟨j + 1, by omega, by go_num, _, Hd5, Hse2, hk6, fun _ => ⟨g, rfl, hr5, hg⟩⟩
        case measure => simp [intOf]; omega
      · obtain ⟨x, rfl⟩ : ∃ x, a = some x := by
          cases a with
          | none => exact absurd (HP.2.1 rfl) hn0
          | some x => exact ⟨x, rfl⟩
        have hll := HP.1
        have hlp : 0 < l.length := by omega
        obtain ⟨q, hq⟩ : ∃ q, q = j % n := ⟨_, rfl⟩
        have hqn : q < n := by rw [hq]; exact Nat.mod_lt _ (by omega)
        have hql : q < l.length := by omega
        have hPr := HP.keeps hk hF
        obtain ⟨b, o, rfl, p0, p1, p2⟩ := hPr.2.2.1 x rfl q hql
        have hpk : pickN l j = (l[q].1, l[q].2.1, l[q].2.2) := by
          have e1 : j % l.length = q := by rw [hll, hq]
          simp only [pickN, hlp, dif_pos, e1]
        obtain ⟨b1, b2, b3⟩ := hPr.2.2.2 l[q] (List.getElem_mem hql)
        have hte := fun wx hx => crash_tear (wx := wx) hbig Hd hx hks hto _ _ _ hpk b1 b2 b3
        have hmo : (j : Int) % (n : Int) = (q : Int) := by rw [hq]; push_cast; rfl
        have hq1 : (q : Int) < (n : Int) := by omega
        have hbw := World.block_lt_of_cell? _ _ p0
        have Hte := hte
        clear hte hpk hPr hq hto
        generalize l[q].1 = qa at *
        generalize l[q].2.1 = qb at *
        generalize l[q].2.2 = qc at *
        go_wp2_with fail
        refine (Hte _ ((Below.refl wr.heap.size wr).alloc (Nat.le_refl _) _)).mono ?_
        rintro e w5 ⟨rfl, hd5, hk5⟩
        have hr5 := Hr.agree (hk5.block g Hr.lt (fun hf => by have := H.lt g hf; omega))
        have Hd5 := hd5
        have hk6 := hk.trans hk5 (fun i hi => .inl hi)
        clear hd5 hk5 Hte hc0 p0 p1 p2
        go_wp2
        go_roundw
        case rel => exact ⟨j + 1, by omega, by go_num, _, Hd5, Hse2, hk6, fun _ => ⟨g, rfl, hr5, hg⟩⟩
        case measure => simp [intOf]; omega
    · have hlt' : ¬ (j : Int) < ((keysOf S s).length : Int) := by omega
      obtain ⟨w3, hrun3, hm3, hk3, _⟩ := clear_run Hd.map
      have c1 := cell_of_block Hd.blk (j := 1) rfl
      have ej : j = (keysOf S s).length := by omega
      rw [ej] at Hse
      have hall := crash_all H.ok l Hd.ok.len Hse
      clear ej
      obtain ⟨c2, f2, c3, f3, hd5, hk5⟩ := crash_end H Hd hall hk hm3 hk3
      have Hq := (And.intro hd5 hk5)
      clear hd5 hk5 hall hm3 hk3 Hd Hse H hk hrow
      go_wp2
      go_end0
      exact ⟨rfl, Hq⟩
end Go.Proofs.YtokcgifpljeoiaaGreat
end

section
namespace Go.Proofs.YtokcgifpljeoiaaGreat
open Go.RowKit Go.Maps

def p3 (l : List P3) : List Value := l.flatMap (fun q => [.int .i64 q.1, .int .i64 q.2.1, .int .i64 q.2.2])

end Go.Proofs.YtokcgifpljeoiaaGreat
end
