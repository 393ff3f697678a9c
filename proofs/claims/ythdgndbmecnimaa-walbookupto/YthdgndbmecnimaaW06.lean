import Derived.Test.YthdgndbmecnimaaW05
section
namespace Go.Proofs.Ythdgndbmecnimaa
open Go.RowKit

theorem blk_range {w : World} {T : TypeId} {g : Nat} {l : List Int} (h : Blk w T g l) : w.rangeAt g 0 (bs l) := by
  intro j v hv
  obtain ⟨hj, rfl⟩ := bs_getElem hv
  rw [Nat.zero_add]
  exact h.cell hj
theorem there_of {w : World} {T : TypeId} {g n : Nat} {cur : Array Value} (h : w.heap[g]? = some (.cells cur T (0, 0))) (hn : cur.size = n) : w.there g 0 n := by
  intro j hj
  rw [Nat.zero_add]
  exact ⟨by rw [cell_of_block h (j := j) (u := cur[j]'(by omega)) (by simp [show j < cur.size by omega])]; rfl, frozen_of_block h j⟩
theorem zsec_size : zsec.size = 512 := by unfold zsec; simp only [List.size_toArray, bs, List.length_map, zs_len]
theorem infoSecL {l : List Int} (h : l.length = 512) : (Try.prog.info? 114).map (·.size) = some (bs l).length := by
  rw [sizeSec, bs, List.length_map, h]

set_option maxRecDepth 20000 in
set_option maxHeartbeats 4000000 in
theorem sealed_any (t : Nat) (a : Option Addr) (n c : Nat) (body : List Int) (w : World) (ht : t < 256) (hs : Src w a n body) (hn : n ≤ 504) (hb : Bytes body) :
    Calls Try.prog 73 #[.int .u8 (t : Int), .slice a n c] w fun e w' => e = .returned (.agg (bs (sform t body)).toArray) ∧ Below w.heap.size w w' := by
  have H := Hid.mk hs
  have hz := zeroSec
  have hlb := hs.1
  have hc1 := Hid.mk (fun w1 => cut_any (w.heap.size + 1) 0 1 3 w1 (by omega) (by omega))
  have hc2 := Hid.mk (fun w1 => cut_any (w.heap.size + 1) 0 7 511 w1 (by omega) (by omega))
  have hc3 := Hid.mk (fun w1 => cut_any (w.heap.size + 1) 0 3 7 w1 (by omega) (by omega))
  clear hs
  go_enter Try.func73, Try.ntmps73
  go_wp2_with fail
  rw [s1_of]
  obtain ⟨w1, hw1⟩ : ∃ w1, w1 = (w.alloc (.cells zsec 114)).alloc (.cells (bs (s1 t)).toArray 114) := ⟨_, rfl⟩
  have hB1 : Below w.heap.size w w1 := by rw [hw1]; exact ((Below.refl _ w).alloc (Nat.le_refl _) _).alloc (by simp) _
  have hblk : Blk w1 114 (w.heap.size + 1) (s1 t) := by rw [hw1]; exact heap_alloc2_new _ _ _
  have hres : w1.heap[w.heap.size]? = some (.cells zsec 114 (0, 0)) := by rw [hw1]; exact heap_alloc2_old _ _ _
  rw [← hw1]
  clear hw1 hz
  refine (hc1.out w1).mono ?_
  rintro e w' ⟨rfl, hw⟩
  have hw' := hw.symm
  subst hw'
  clear hw hc1
  have hl := lay_any (w.heap.size + 1) 1 2 2 n 114 (s1 t) w1 hblk (by omega) (by rw [s1_len]; omega)
  rw [s2_of t n (by omega)] at hl
  have Hres := Hid.mk hres
  have HB1 := Hid.mk hB1
  clear hblk hres hB1
  go_wp2_with fail
  refine hl.mono ?_
  rintro e w2 ⟨rfl, hblk, hk, hz2⟩
  have hB2 : Below w.heap.size w w2 := HB1.out.trans (hk.below (fun j hj => by omega) HB1.out.size)
  have hres : w2.heap[w.heap.size]? = some (.cells zsec 114 (0, 0)) := (hk.block _ (Array.getElem?_eq_some_iff.1 Hres.out).1 (by omega)).trans Hres.out
  obtain ⟨w3, hrun, hblk3, hk3, hz3⟩ := copy_blk w2 3 114 (w.heap.size + 1) 7 504 504 a n c (s2 t n) body hblk (H.out.later hB2) hn (by rw [s2_len]; omega)
  have hB3 : Below w.heap.size w w3 := hB2.trans (hk3.below (fun j hj => by omega) hB2.size)
  have hres3 : w3.heap[w.heap.size]? = some (.cells zsec 114 (0, 0)) := (hk3.block _ (Array.getElem?_eq_some_iff.1 hres).1 (by omega)).trans hres
  have e3 := s3_of t body (by omega)
  rw [hlb] at e3
  rw [e3] at hblk3
  have Hblk3 := Hid.mk hblk3
  have Hres3 := Hid.mk hres3
  have HB3 := Hid.mk hB3
  clear hl hblk hk hB2 hres hk3 hB3 hres3 hblk3 HB1 Hres hz2 hz3 e3
  go_wp2_with fail
  refine (hc2.out w2).mono ?_
  rintro e w' ⟨rfl, hw⟩
  have hw' := hw.symm
  subst hw'
  clear hw hc2
  go_wp2_with fail
  refine (hc3.out w3).mono ?_
  rintro e w' ⟨rfl, hw⟩
  have hw' := hw.symm
  subst hw'
  clear hw hc3 hrun
  have hsum := ssum_any (w.heap.size + 1) 114 (s3 t body) w3 Hblk3.out (s3_len t (by omega)) (s3_bytes (by omega) hb (by omega))
  rw [s3_text t body (by omega)] at hsum
  have hS := sumOf_lt (stext_bytes hb (show body.length ≤ 504 by omega))
  have e4 := s4_of t body
  obtain ⟨E, hE⟩ : ∃ E, E = sumOf (stext body) := ⟨_, rfl⟩
  rw [← hE] at hsum hS e4
  have He4 := Hid.mk e4
  have hS' : (E : Int) < 4294967296 := by omega
  clear hE e4
  go_wp2_with fail
  refine hsum.mono ?_
  rintro e w4 ⟨rfl, hb4⟩
  have hblk4 := Hblk3.out.keep (hb4.block _ Hblk3.out.lt)
  have hres4 : w4.heap[w.heap.size]? = some (.cells zsec 114 (0, 0)) := (hb4.block _ (Array.getElem?_eq_some_iff.1 Hres3.out).1).trans Hres3.out
  have hB4 : Below w.heap.size w w4 := HB3.out.trans (hb4.mono HB3.out.size)
  have hl := lay_any (w.heap.size + 1) 3 4 4 E 114 (s3 t body) w4 hblk4 (by omega) (by rw [s3_len t (by omega)]; omega)
  rw [He4.out] at hl
  have Hres4 := Hid.mk hres4
  have HB4 := Hid.mk hB4
  clear hsum hb4 hblk4 hres4 hB4 Hblk3 Hres3 HB3 He4
  go_wp2_with fail
  refine hl.mono ?_
  rintro e w5 ⟨rfl, hblk5, hk5, hz5⟩
  have hres5 : w5.heap[w.heap.size]? = some (.cells zsec 114 (0, 0)) := (hk5.block _ (Array.getElem?_eq_some_iff.1 Hres4.out).1 (by omega)).trans Hres4.out
  have hB5 : Below w.heap.size w w5 := HB4.out.trans (hk5.below (fun j hj => by omega) HB4.out.size)
  have hfl : (sform t body).length = 512 := sform_len (by omega)
  have hra := blk_range hblk5
  have hth := there_of hres5 zsec_size
  have hinfo := infoSecL hfl
  have hll : (bs (sform t body)).length = 512 := by rw [bs, List.length_map, hfl]
  have hone := bs_one (sform t body)
  generalize hF : bs (sform t body) = F at *
  rw [← hll] at hth
  have hrs := Hid.mk (World.rangeAt_setCells_same w5 w.heap.size 0 F hth)
  have hall := all_oneCell_toArray hone
  have hB6 : Hid (Below w.heap.size w (w5.setCells w.heap.size 0 F)) := hB5.trans ((Keeps.setCells (F := fun j => j = w.heap.size) rfl F 0 w5).below (fun j hj => by omega) hB5.size)
  have HF := Hid.mk hF
  clear hl hblk5 hk5 hz5 hres5 hB5 hfl Hres4 HB4 hone hF
  go_wp2_with (first | refine wpList_load_mid rfl 114 _ rfl (w.heap.size + 1) 0 rfl F _ hra Try.underlying114 rfl hinfo ?_ | refine wpList_store_mid rfl 114 _ _ rfl w.heap.size 0 F.toArray rfl rfl ?h1 ?h2 hall ?_)
  case h1 => simpa using hth
  case h2 => simpa using hinfo
  exact bodyPost_ret (results_cell_mid (P := Try.prog) rfl _ _ w.heap.size F _ rfl hrs.out Try.underlying114 rfl hinfo) rfl ⟨by rw [HF.out], hB6.out⟩
end Go.Proofs.Ythdgndbmecnimaa
end

section
namespace Go.Proofs.Ythdgndbmecnimaa
open Go.RowKit

theorem results_cell_tmp {P : Program} {fn : Func} {p q : Tmp} {ty : TypeId} (h : fn.results = #[.cell p ty, .tmp q]) (tmps : Array Value) (w : World) (g : Nat) (cs : List Value) (d : TypeDesc) (v : Value)
    (hp : tmps.getD p undef = .pointer (some ⟨g, 0, none⟩)) (hq : tmps.getD q undef = v) (hg : w.rangeAt g 0 cs) (hu : P.underlying ty = some d) (hd : d.isRow = true) (hi : (P.info? ty).map (·.size) = some cs.length) :
    (results fn tmps).run P w = .ok (.tuple #[.agg cs.toArray, v]) w := by
  have hp' : tmps[p]?.getD undef = .pointer (some ⟨g, 0, none⟩) := by simpa using hp
  have hq' : tmps[q]?.getD undef = v := by simpa using hq
  simp [results, h, hp', hq', asAddr, run_loadVar_mid w g 0 ty cs d hg hu hd hi]
theorem src_range {w : World} {b o n : Nat} {l : List Int} (h : Src w (some ⟨b, o, none⟩) n l) : w.rangeAt b o (bs l) := by
  intro j v hv
  obtain ⟨hj, rfl⟩ := bs_getElem hv
  have := h.2.2 _ rfl j (by have := h.1; omega)
  rwa [addr_add] at this

theorem arraySec (a : Option Addr) (c : Nat) (w : World) : (Instr.arrayAt 114 (.slice a 512 c)).run Try.prog w = .ok (.pointer a) w := by
  simp [Instr.arrayAt, run_underlying Try.underlying114]
theorem zsec_one : ∀ v ∈ zsec.toList, v.oneCell' = true := bs_one (zs 512)
theorem infoSecZ : (Try.prog.info? 114).map (·.size) = some zsec.toList.length := infoSecL (l := zs 512) (zs_len 512)

set_option maxRecDepth 20000 in
set_option maxHeartbeats 4000000 in
theorem sectorOf_no (a : Option Addr) (n c : Nat) (w : World) (hn : n ≠ 512) :
    Calls Try.prog 72 #[.slice a n c] w fun e w' => e = .returned (.tuple #[.agg zsec, .bool false]) ∧ Below w.heap.size w w' := by
  have hz := zeroSec
  have h1 : (((n : Int)) != 512) = true := by rw [bne_iff_ne]; omega
  have hinfo := infoSecZ
  have hone := zsec_one
  generalize zsec = Z at *
  have hw1 : (w.alloc (.cells Z 114)).heap[w.heap.size]? = some (.cells Z 114 (0, 0)) := heap_alloc_new _ _
  have hth : (w.alloc (.cells Z 114)).there w.heap.size 0 Z.toList.length := there_of hw1 (by simp)
  have hrs := Hid.mk (World.rangeAt_setCells_same _ w.heap.size 0 Z.toList hth)
  have hall : Z.all Value.oneCell' = true := all_oneCell_toArray hone
  have hB1 : Below w.heap.size w (w.alloc (.cells Z 114)) := (Below.refl _ w).alloc (Nat.le_refl _) _
  have hB6 := Hid.mk (hB1.trans ((Keeps.setCells (F := fun j => j = w.heap.size) rfl Z.toList 0 _).below (fun j hj => by omega) hB1.size))
  clear hw1 hone hB1
  go_enter Try.func72, Try.ntmps72
  go_wp2_with (refine wpList_store_mid rfl 114 _ _ rfl w.heap.size 0 Z rfl rfl ?h1 ?h2 hall ?_)
  case h1 => simpa using hth
  case h2 => simpa using hinfo
  exact bodyPost_ret (results_cell_tmp (P := Try.prog) rfl _ _ w.heap.size Z.toList _ _ rfl rfl hrs.out Try.underlying114 rfl hinfo) rfl ⟨rfl, hB6.out⟩

set_option maxRecDepth 20000 in
set_option maxHeartbeats 4000000 in
theorem sectorOf_ok (b o c : Nat) (l : List Int) (w : World) (hs : Src w (some ⟨b, o, none⟩) 512 l) :
    Calls Try.prog 72 #[.slice (some ⟨b, o, none⟩) 512 c] w fun e w' => e = .returned (.tuple #[.agg (bs l).toArray, .bool true]) ∧ Below w.heap.size w w' := by
  have hz := zeroSec
  have harr := arraySec (some ⟨b, o, none⟩) c
  have hB1 : Below w.heap.size w (w.alloc (.cells zsec 114)) := (Below.refl _ w).alloc (Nat.le_refl _) _
  have hra := src_range (hs.later hB1)
  have hinfo := infoSecL (l := l) hs.1
  have hone := bs_one l
  have hw1 : (w.alloc (.cells zsec 114)).heap[w.heap.size]? = some (.cells zsec 114 (0, 0)) := heap_alloc_new _ _
  have hth := there_of hw1 zsec_size
  have hll : (bs l).length = 512 := by rw [bs, List.length_map, hs.1]
  generalize bs l = F at *
  rw [← hll] at hth
  have hrs := Hid.mk (World.rangeAt_setCells_same _ w.heap.size 0 F hth)
  have hall := all_oneCell_toArray hone
  have hB6 := Hid.mk (hB1.trans ((Keeps.setCells (F := fun j => j = w.heap.size) rfl F 0 _).below (fun j hj => by omega) hB1.size))
  clear hw1 hone hB1 hs
  go_enter Try.func72, Try.ntmps72
  go_wp2_with (first | refine wpList_load_mid rfl 114 _ rfl b o rfl F _ hra Try.underlying114 rfl hinfo ?_ | refine wpList_store_mid rfl 114 _ _ rfl w.heap.size 0 F.toArray rfl rfl ?h1 ?h2 hall ?_)
  case h1 => simpa using hth
  case h2 => simpa using hinfo
  exact bodyPost_ret (results_cell_tmp (P := Try.prog) rfl _ _ w.heap.size F _ _ rfl rfl hrs.out Try.underlying114 rfl hinfo) rfl ⟨rfl, hB6.out⟩
end Go.Proofs.Ythdgndbmecnimaa
end

section
namespace Go.Proofs.Ythdgndbmecnimaa
open Go.RowKit

/-- v is a slice that reads as l; its memory, if any, lies at B or above. -/
def Lst (w : World) (B : Nat) (v : Value) (l : List Int) : Prop := ∃ a c, v = .slice a l.length c ∧ Src w a l.length l ∧ l.length ≤ c ∧ ∀ x, a = some x → B ≤ x.block
theorem Lst.nil (w : World) (B : Nat) : Lst w B (.slice none 0 0) [] := ⟨none, 0, rfl, ⟨rfl, fun _ => rfl, fun x hx => by cases hx⟩, Nat.le_refl _, fun x hx => by cases hx⟩
theorem Lst.later {w w' : World} {B : Nat} {v : Value} {l : List Int} (h : Lst w B v l) (hb : Below w.heap.size w w') : Lst w' B v l := by
  obtain ⟨a, c, rfl, hs, hc, hx⟩ := h
  exact ⟨a, c, rfl, hs.later hb, hc, hx⟩
theorem Own.lst {w : World} {B : Nat} {v : Value} {l : List Int} (h : Own w B v l) : Lst w B v l := by
  obtain ⟨a, c, rfl, hs, hc, hx⟩ := h.src
  exact ⟨a, c, rfl, hs, hc, fun x e => (hx x e).1⟩
theorem Blk.lst {w : World} {T : TypeId} {g B : Nat} {l : List Int} (h : Blk w T g l) (hg : B ≤ g) : Lst w B (.slice (some ⟨g, 0, none⟩) l.length l.length) l := by
  refine ⟨some ⟨g, 0, none⟩, l.length, rfl, ?_, Nat.le_refl _, fun x hx => by cases hx; exact hg⟩
  have := h.src (o := 0) (n := l.length) (by omega)
  simpa using this

theorem heap_setCells_full {w : World} {T : TypeId} {g : Nat} : ∀ (vs pre : List Value) (cur : Array Value), w.heap[g]? = some (.cells cur T (0, 0)) → (∃ post, cur.toList = pre ++ post ∧ post.length = vs.length) →
    (w.setCells g pre.length vs).heap[g]? = some (.cells (pre ++ vs).toArray T (0, 0)) := by
  intro vs
  induction vs generalizing w with
  | nil =>
    intro pre cur hg ⟨post, he, hl⟩
    have : post = [] := List.eq_nil_of_length_eq_zero hl
    subst this
    simp only [List.append_nil] at he ⊢
    show w.heap[g]? = _
    rw [hg, ← he]
  | cons v r ih =>
    intro pre cur hg ⟨post, he, hl⟩
    cases post with
    | nil => simp at hl
    | cons u post =>
      have h1 := heap_setCell_same w g pre.length cur T v hg
      have e : (cur.setIfInBounds pre.length v).toList = (pre ++ [v]) ++ post := by
        rw [Array.toList_setIfInBounds, he, List.set_append_right _ _ (Nat.le_refl _), Nat.sub_self]
        simp
      have := ih (w := w.setCell ⟨g, pre.length, none⟩ v) (pre ++ [v]) _ h1 ⟨post, e, by simpa using hl⟩
      simp only [World.setCells]
      simpa using this
theorem blk_stored {w : World} {T : TypeId} {g : Nat} {cur : Array Value} {l : List Int} (hg : w.heap[g]? = some (.cells cur T (0, 0))) (hl : cur.size = l.length) : Blk (w.setCells g 0 (bs l)) T g l :=
  heap_setCells_full (bs l) [] cur hg ⟨cur.toList, rfl, by simp [bs, hl]⟩
end Go.Proofs.Ythdgndbmecnimaa
end

section
namespace Go.Proofs.Ythdgndbmecnimaa
open Go.RowKit

set_option maxRecDepth 20000 in
set_option maxHeartbeats 4000000 in
theorem seal_no1 (a : Option Addr) (n c : Nat) (a2 : Option Addr) (m c2 : Nat) (w : World) (hn : n ≠ 512) :
    Calls Try.prog 55 #[.slice a n c, .slice a2 m c2] w fun e w' => e = .returned (.tuple #[.slice none 0 0, .int .i64 2]) ∧ Below w.heap.size w w' := by
  have hz := zeroSec
  have hs := sectorOf_no a n c w hn
  have hinfo := infoSecZ
  have hone := zsec_one
  generalize zsec = Z at *
  have hall : Z.all Value.oneCell' = true := all_oneCell_toArray hone
  clear hone
  go_enter Try.func55, Try.ntmps55
  go_wp2_with fail
  refine hs.mono ?_
  rintro e w1 ⟨rfl, hb1⟩
  have hw1 : (w1.alloc (.cells Z 114)).heap[w1.heap.size]? = some (.cells Z 114 (0, 0)) := heap_alloc_new _ _
  have hth : (w1.alloc (.cells Z 114)).there w1.heap.size 0 Z.toList.length := there_of hw1 (by simp)
  have hB1 : Below w.heap.size w (w1.alloc (.cells Z 114)) := hb1.alloc hb1.size _
  have hsz := hb1.size
  have hB6 := Hid.mk (hB1.trans ((Keeps.setCells (F := fun j => j = w1.heap.size) rfl Z.toList 0 _).below (fun j hj => by omega) hB1.size))
  clear hs hw1 hB1 hb1
  go_wp2_with (refine wpList_store_mid rfl 114 _ _ rfl w1.heap.size 0 Z rfl rfl ?h1 ?h2 hall ?_)
  case h1 => simpa using hth
  case h2 => simpa using hinfo
  go_ret2
  exact ⟨rfl, hB6.out⟩

set_option maxRecDepth 20000 in
set_option maxHeartbeats 4000000 in
theorem seal_no2 (b o c : Nat) (old : List Int) (a2 : Option Addr) (m c2 : Nat) (w : World) (hs : Src w (some ⟨b, o, none⟩) 512 old) (hm : 504 < m) :
    Calls Try.prog 55 #[.slice (some ⟨b, o, none⟩) 512 c, .slice a2 m c2] w fun e w' => e = .returned (.tuple #[.slice none 0 0, .int .i64 7]) ∧ Below w.heap.size w w' := by
  have hz := zeroSec
  have hm' : 504 < (m : Int) := by omega
  have hs1 := sectorOf_ok b o c old w hs
  have hinfo := infoSecL (l := old) hs.1
  have hone := bs_one old
  have hll : (bs old).length = 512 := by rw [bs, List.length_map, hs.1]
  generalize bs old = F at *
  have hall := all_oneCell_toArray hone
  clear hone hs
  go_enter Try.func55, Try.ntmps55
  go_wp2_with fail
  refine hs1.mono ?_
  rintro e w1 ⟨rfl, hb1⟩
  have hw1 : (w1.alloc (.cells zsec 114)).heap[w1.heap.size]? = some (.cells zsec 114 (0, 0)) := heap_alloc_new _ _
  have hth := there_of hw1 zsec_size
  rw [← hll] at hth
  have hB1 : Below w.heap.size w (w1.alloc (.cells zsec 114)) := hb1.alloc hb1.size _
  have hsz := hb1.size
  have hB6 := Hid.mk (hB1.trans ((Keeps.setCells (F := fun j => j = w1.heap.size) rfl F 0 _).below (fun j hj => by omega) hB1.size))
  clear hs1 hw1 hB1 hb1
  go_wp2_with (refine wpList_store_mid rfl 114 _ _ rfl w1.heap.size 0 F.toArray rfl rfl ?h1 ?h2 hall ?_)
  case h1 => simpa using hth
  case h2 => simpa using hinfo
  go_ret2
  exact ⟨rfl, hB6.out⟩

set_option maxRecDepth 20000 in
set_option maxHeartbeats 4000000 in
theorem seal_ok (b o c : Nat) (old : List Int) (a2 : Option Addr) (m c2 : Nat) (body : List Int) (w : World) (hs : Src w (some ⟨b, o, none⟩) 512 old) (hs2 : Src w a2 m body) (hm : m ≤ 504) (hb : Bytes body) :
    Calls Try.prog 55 #[.slice (some ⟨b, o, none⟩) 512 c, .slice a2 m c2] w fun e w' => ∃ g, e = .returned (.tuple #[.slice (some ⟨g, 0, none⟩) 512 512, .int .i64 0]) ∧ Blk w' 114 g (sform (turnOf (old.getD 0 0) (old.getD 511 0)) body) ∧ w.heap.size ≤ g ∧ Below w.heap.size w w' := by
  have hz := zeroSec
  have hm' : ¬ 504 < (m : Int) := by omega
  have hs1 := sectorOf_ok b o c old w hs
  have hinfo := infoSecL (l := old) hs.1
  have hone := bs_one old
  have hll : (bs old).length = 512 := by rw [bs, List.length_map, hs.1]
  have holdl := hs.1
  have hall := all_oneCell_toArray hone
  have H2 := Hid.mk hs2
  have hlb := hs2.1
  have ht := turnOf_le (old.getD 0 0) (old.getD 511 0)
  obtain ⟨t, hteq⟩ : ∃ t, t = turnOf (old.getD 0 0) (old.getD 511 0) := ⟨_, rfl⟩
  rw [← hteq] at ht
  obtain ⟨F, hF⟩ : ∃ F, F = bs old := ⟨_, rfl⟩
  rw [← hF] at hs1 hinfo hone hll hall
  clear hone hs hs2
  go_enter Try.func55, Try.ntmps55
  go_wp2_with fail
  refine hs1.mono ?_
  rintro e w1 ⟨rfl, hb1⟩
  have hw1 : (w1.alloc (.cells zsec 114)).heap[w1.heap.size]? = some (.cells zsec 114 (0, 0)) := heap_alloc_new _ _
  have hth := there_of hw1 zsec_size
  rw [← hll] at hth
  have hB1 : Below w.heap.size w (w1.alloc (.cells zsec 114)) := hb1.alloc hb1.size _
  have hsz := hb1.size
  have hB2 := hB1.trans ((Keeps.setCells (F := fun j => j = w1.heap.size) rfl F 0 _).below (fun j hj => by omega) hB1.size)
  have hblk := blk_stored (l := old) hw1 (by rw [zsec_size, holdl])
  rw [← hF] at hblk
  have hnt := nextTurn_any w1.heap.size 0 (old.getD 0 0) (old.getD 511 0) _ (hblk.cell (by omega)) (hblk.cell (i := 511) (by omega))
  rw [← hteq] at hnt
  have hsd := sealed_any t a2 m c2 body _ (by omega) (H2.out.later hB2) hm hb
  obtain ⟨w2, hw2⟩ : ∃ w2, w2 = (w1.alloc (.cells zsec 114)).setCells w1.heap.size 0 F := ⟨_, rfl⟩
  rw [← hw2] at hnt hsd hB2
  have HB2 := Hid.mk hB2
  have Hteq := Hid.mk hteq
  clear hs1 hw1 hB1 hb1 hblk hB2 hteq hF H2
  go_wp2_with (refine wpList_store_mid rfl 114 _ _ rfl w1.heap.size 0 F.toArray rfl rfl ?h1 ?h2 hall ?_)
  case h1 => simpa using hth
  case h2 => simpa using hinfo
  rw [← hw2]
  refine hnt.mono ?_
  rintro e w' ⟨rfl, hw⟩
  have hw' := hw.symm
  subst hw'
  clear hw hnt hth hw2 hall hinfo
  have hfl : (sform t body).length = 512 := sform_len (by omega)
  have hinfo := infoSecL (l := sform t body) hfl
  have hall := all_oneCell_toArray (bs_one (sform t body))
  have hll2 : (bs (sform t body)).length = 512 := by rw [bs, List.length_map, hfl]
  obtain ⟨G, hG⟩ : ∃ G, G = bs (sform t body) := ⟨_, rfl⟩
  rw [← hG] at hsd hinfo hall hll2
  have HG := Hid.mk hG
  clear hG
  go_wp2_with fail
  refine hsd.mono ?_
  rintro e w3 ⟨rfl, hb3⟩
  have hB3 : Below w.heap.size w w3 := HB2.out.trans (hb3.mono HB2.out.size)
  have hw3 : (w3.alloc (.cells zsec 114)).heap[w3.heap.size]? = some (.cells zsec 114 (0, 0)) := heap_alloc_new _ _
  have hth := there_of hw3 zsec_size
  rw [← hll2] at hth
  have hblk := blk_stored (l := sform t body) hw3 (by rw [zsec_size, hfl])
  rw [← HG.out] at hblk
  have hsz3 := hB3.size
  have hB4 : Below w.heap.size w (w3.alloc (.cells zsec 114)) := hB3.alloc hB3.size _
  have hB5 := hB4.trans ((Keeps.setCells (F := fun j => j = w3.heap.size) rfl G 0 _).below (fun j hj => by omega) hB4.size)
  rw [Hteq.out] at hblk
  have HH := Hid.mk (And.intro hblk (And.intro hB3.size hB5))
  clear hsd hB3 hw3 hblk hB4 hB5 hb3 HB2
  go_wp2_with (refine wpList_store_mid rfl 114 _ _ rfl w3.heap.size 0 G.toArray rfl rfl ?h1 ?h2 hall ?_)
  case h1 => simpa using hth
  case h2 => simpa using hinfo
  go_ret2
  exact ⟨w3.heap.size, rfl, HH.out⟩
end Go.Proofs.Ythdgndbmecnimaa
end

section
namespace Go.Proofs.Ythdgndbmecnimaa
open Go.RowKit

/-- One byte appended to a list of one's own. -/
theorem wpList_app1 {ops : Array Oper} {rest : List Oper} {o : Oper} {a : Act} {Q : Exit → Act → World → Prop} {w : World} (hgd : o.guard = none) (s x : Operand)
    (hop : o.op = Op.call { callee := Callee.builtin Builtin.append, args := #[s, x], argTypes := #[27, 27] })
    (B : Nat) (v : Value) (l : List Int) (y : Int) (hs : a.eval s = v) (hx : a.eval x = .slice (some ⟨w.heap.size, 0, none⟩) 1 1) (hown : Own w B v l) (hlen : l.length ≤ 140737488355327) (hB : B ≤ w.heap.size)
    (hK : ∀ v' w', Own w' B v' (l ++ [y]) → Below B w w' → wpList Try.prog ops Q rest (a.put o.dst v') w') :
    wpList Try.prog ops Q (o :: rest) a (w.alloc (.cells #[.int .u8 y] 5)) := by
  obtain ⟨i0, hi, hz0, hz1, hz2⟩ := info_parts infoU8
  have ho : w.ownsRow B 5 1 v l.length (bs l) := hown
  refine wpList_append_own _ hgd s x 27 hop B 5 i0 (.int .u8 0) 1 1 Try.underlying27 hi hz0 hz1 hz2 rfl (by decide) v l.length (bs l) hs (ho.alloc _) ⟨w.heap.size, 0, none⟩ 1 1 [.int .u8 y] hx rfl (cell_one_new _ _ _) (by intro u hu; simp at hu; subst hu; rfl) (by unfold maxLen; omega) (by omega) (by simp; omega) ?_
  intro v' w1 hown' hgrow' _
  refine hK v' w1 ?_ (((Below.refl _ w).alloc hB _).grown hgrow' (by simp; omega) (fun q e => (ho.lt q e).1))
  rw [bs_snoc] at hown'
  exact own_of hown' (by simp) rfl
/-- How long a slice is. -/
def lenV : Value → Nat
  | .slice _ n _ => n
  | _ => 0
theorem Own.row' {w : World} {B : Nat} {v : Value} {l : List Int} (h : Own w B v l) (h0 : 0 < l.length) : ∃ g c, v = .slice (some ⟨g, 0, none⟩) l.length c ∧ B ≤ g ∧ RowAt w 5 g c (bs l) := by
  obtain ⟨a, c, rfl, _, _, _⟩ := h.src
  obtain ⟨g, rfl, _, hg, hr⟩ := h.row h0
  exact ⟨g, c, rfl, hg, hr⟩
theorem RowAt.get {w : World} {e : TypeId} {g c : Nat} {l : List Int} (h : RowAt w e g c (bs l)) {i : Nat} (hi : i < l.length) : w.cell? ⟨g, i, none⟩ = some (.int .u8 (l.getD i 0)) := by
  have := h.byte hi
  rwa [addr_add, Nat.zero_add] at this
end Go.Proofs.Ythdgndbmecnimaa
end

section
namespace Go.Proofs.Ythdgndbmecnimaa
open Go.RowKit

theorem append_assoc3 (a b : List Int) (x : Int) : a ++ b ++ [x] = a ++ (b ++ [x]) := List.append_assoc _ _ _
theorem zs_snoc (k : Nat) : zs k ++ [0] = zs (k + 1) := by rw [zs_add]; rfl
theorem getD_app {a b : List Int} {i : Nat} (h : a.length ≤ i) : (a ++ b).getD i 0 = b.getD (i - a.length) 0 := by
  simp only [List.getD, List.getElem?_append_right h]

end Go.Proofs.Ythdgndbmecnimaa
end

section
namespace Go.Proofs.Ythdgndbmecnimaa
open Go.RowKit

theorem turn_least {a b : Int} : ∀ k : Nat, k < turnOf a b → (k : Int) = a ∨ (k : Int) = b := by
  intro k hk
  unfold turnOf at hk
  split at hk
  · omega
  · split at hk
    · next h1 h2 => omega
    · next h1 h2 => omega

end Go.Proofs.Ythdgndbmecnimaa
end

section
namespace Go.Proofs.Ythdgndbmecnimaa
open Go.RowKit

theorem src_spot {w : World} {a : Option Addr} {n : Nat} {l : List Int} (h : Src w a n l) (hn : 0 < n) : ∃ b o, a = some ⟨b, o, none⟩ := by
  cases a with
  | none => have := h.2.1 rfl; omega
  | some x =>
    obtain ⟨b, o, rfl, _⟩ := h.spot hn
    exact ⟨b, o, rfl⟩

theorem seal_any (a : Option Addr) (n c : Nat) (old : List Int) (a2 : Option Addr) (m c2 : Nat) (body : List Int) (w : World) (hs : Src w a n old) (hs2 : Src w a2 m body) (hb : Bytes body) :
    Calls Try.prog 55 #[.slice a n c, .slice a2 m c2] w fun e w' => ∃ v, e = .returned (.tuple #[v, .int .i64 (((sseal old body).2 : Nat) : Int)]) ∧ Lst w' w.heap.size v (sseal old body).1 ∧ Below w.heap.size w w' := by
  have h1 := hs.1
  have h2 := hs2.1
  by_cases hn : n = 512
  · subst hn
    obtain ⟨b, o, rfl⟩ := src_spot hs (by omega)
    by_cases hm : 504 < m
    · refine (seal_no2 b o c old a2 m c2 w hs hm).mono ?_
      rintro e w' ⟨rfl, hbel⟩
      have e : sseal old body = ([], 7) := by unfold sseal; rw [if_neg (by omega), if_pos (by omega)]
      rw [e]
      exact ⟨_, rfl, Lst.nil _ _, hbel⟩
    · refine (seal_ok b o c old a2 m c2 body w hs hs2 (by omega) hb).mono ?_
      rintro e w' ⟨g, rfl, hblk, hg, hbel⟩
      have e : sseal old body = (sform (turnOf (old.getD 0 0) (old.getD 511 0)) body, 0) := by unfold sseal; rw [if_neg (by omega), if_neg (by omega)]
      rw [e]
      have hl : (sform (turnOf (old.getD 0 0) (old.getD 511 0)) body).length = 512 := sform_len (by omega)
      have := hblk.lst hg
      rw [hl] at this
      exact ⟨_, rfl, this, hbel⟩
  · refine (seal_no1 a n c a2 m c2 w hn).mono ?_
    rintro e w' ⟨rfl, hbel⟩
    have e : sseal old body = ([], 2) := by unfold sseal; rw [if_pos (by omega)]
    rw [e]
    exact ⟨_, rfl, Lst.nil _ _, hbel⟩
end Go.Proofs.Ythdgndbmecnimaa
end

section
namespace Go.Proofs.Ythdgndbmecnimaa
open Go.RowKit

end Go.Proofs.Ythdgndbmecnimaa
end

section
namespace Go.Proofs.Ythdgndbmecnimaa
open Go.RowKit

theorem sopens_no1 {s : List Int} (h : s.length ≠ 512) : sopens s = ([], 2) := by unfold sopens; rw [if_pos h]
theorem sopens_none {s : List Int} (h : s.length = 512) (h2 : sopen s = none) : sopens s = ([], 30) := by unfold sopens; rw [if_neg (by omega), h2]
theorem sopens_some {s b : List Int} (h : s.length = 512) (h2 : sopen s = some b) : sopens s = (b, 0) := by unfold sopens; rw [if_neg (by omega), h2]
theorem sopen_yes {s : List Int} (h1 : slen s ≤ 504) (h2 : s.getD 0 0 ≤ 2) (h3 : sform (s.getD 0 0) (sbody s) = s) : sopen s = some (sbody s) := by unfold sopen; rw [if_pos ⟨h1, h2, h3⟩]
theorem sopen_no {s : List Int} (h : ¬ (slen s ≤ 504 ∧ s.getD 0 0 ≤ 2 ∧ sform (s.getD 0 0) (sbody s) = s)) : sopen s = none := by unfold sopen; rw [if_neg h]
theorem slen_eq {s : List Int} (h : Bytes s) : ((slen s : Nat) : Int) = s.getD 1 0 + 256 * s.getD 2 0 := by
  have h1 := h.getD 1
  have h2 := h.getD 2
  unfold slen
  omega

end Go.Proofs.Ythdgndbmecnimaa
end

section
namespace Go.Proofs.Ythdgndbmecnimaa
open Go.RowKit

theorem le2 {a b : Int} (ha : 0 ≤ a) (hb : 0 ≤ b) : ((le [a, b] : Nat) : Int) = a + 256 * b := by
  simp only [le]
  omega
theorem take2 {s : List Int} (h : s.length = 512) : (s.drop 1).take 2 = [s.getD 1 0, s.getD 2 0] := by
  match s, h with
  | a :: b :: c :: r, _ => rfl
theorem src_part {w : World} {b o n : Nat} {l : List Int} (h : Src w (some ⟨b, o, none⟩) n l) {i m : Nat} (hm : i + m ≤ n) : Src w (some ⟨b, o + i, none⟩) m ((l.drop i).take m) :=
  ⟨by have := h.1; simp; omega, (fun e => by cases e), fun x hx j hj => by
    cases hx
    have := h.2.2 _ rfl (i + j) (by omega)
    rw [addr_add] at this ⊢
    rw [Nat.add_assoc, this]
    simp [List.getD, hj]⟩

set_option maxRecDepth 20000 in
set_option maxHeartbeats 4000000 in
theorem open_no (g o : Nat) (s : List Int) (w : World) (hs : Src w (some ⟨g, o, none⟩) 512 s) (hb : Bytes s) (hbad : 504 < slen s ∨ 2 < s.getD 0 0) :
    Calls Try.prog 106 #[.pointer (some ⟨g, o, none⟩)] w fun e w' => e = .returned (.tuple #[.slice none 0 0, .bool false]) ∧ w' = w := by
  have h1 := cut_any g o 1 3 w (by omega) (by omega)
  have hp := src_part hs (i := 1) (m := 2) (by omega)
  have h2 := taken_any g (o + 1) 2 2 ((s.drop 1).take 2) w ((hb.drop _).take _) hp.1 (by omega) (fun i hi => by have := hp.2.2 _ rfl i hi; rwa [addr_add] at this)
  have hle := slen_eq hb
  have g1 := hb.getD 1
  have g2 := hb.getD 2
  rw [take2 hs.1, le2 g1.1 g2.1, ← hle] at h2
  have c0 := hs.2.2 _ rfl 0 (by omega)
  rw [addr_add, Nat.add_zero] at c0
  have g0 := hb.getD 0
  have h00 := g0.1
  have h01 := g0.2
  generalize s.getD 0 0 = x at *
  generalize slen s = N at *
  clear hs hp hle g0 g1 g2
  go_enter Try.func106, Try.ntmps106
  go_wp2_with fail
  refine h1.mono ?_
  rintro e w' ⟨rfl, hw⟩
  have hw' := hw.symm
  subst hw'
  clear hw h1
  go_wp2_with fail
  refine h2.mono ?_
  rintro e w' ⟨rfl, hw⟩
  have hw' := hw.symm
  subst hw'
  clear hw h2
  by_cases hx : 2 < x
  · have hx' : 3 ≤ x := by omega
    go_wp2
    go_ret2
    exact ⟨rfl, rfl⟩
  · have hx' : ¬ 3 ≤ x := by omega
    have hN : 504 < (N : Int) := by omega
    go_wp2
    go_ret2
    exact ⟨rfl, rfl⟩

theorem quiet_load_mid {P : Program} {C : World → Prop} {a : Act} {op : Oper} {K : Act → Prop} (ty : TypeId) (x : Operand) (ho : op.op = .load ty x)
    (b o : Nat) (hx : a.eval x = .pointer (some ⟨b, o, none⟩)) (cs : List Value) (d : TypeDesc) (hc : ∀ w, C w → w.rangeAt b o cs)
    (hu : P.underlying ty = some d) (hd : d.isRow = true) (hi : (P.info? ty).map (·.size) = some cs.length) (hk : K (a.put op.dst (.agg cs.toArray))) : op.quiet P a C K :=
  ⟨_, fun w hw => by
    unfold Oper.quietAt execOp
    simp only [ho, hx, Instr.loadAt, Instr.sureAddr, Sem.run_bind, Sem.run_pure, Result.andThen_ok, run_loadVar_mid w b o ty cs d (hc w hw) hu hd hi]
    exact ⟨rfl, rfl⟩, hk⟩
theorem quiet_eq_sec {C : World → Prop} {a : Act} {op : Oper} {K : Act → Prop} (x y : Operand) (T : TypeId) (ho : op.op = .binOp .eql 114 x y T)
    (l m : List Int) (hx : a.eval x = .agg (bs l).toArray) (hy : a.eval y = .agg (bs m).toArray) (hl : l.length = 512) (hm : m.length = 512) (hk : K (a.put op.dst (.bool (decide (l = m))))) : op.quiet Try.prog a C K :=
  ⟨_, fun w _ => by
    unfold Oper.quietAt execOp
    simp only [ho, hx, hy]
    have := eqop_sec l m hl hm w x y
    rw [Sem.run_bind, this]
    exact ⟨rfl, rfl⟩, hk⟩

set_option maxRecDepth 20000 in
set_option maxHeartbeats 4000000 in
theorem open_yes (g o : Nat) (s : List Int) (w : World) (hs : Src w (some ⟨g, o, none⟩) 512 s) (hb : Bytes s) (hN : slen s ≤ 504) (hx : s.getD 0 0 ≤ 2) :
    Calls Try.prog 106 #[.pointer (some ⟨g, o, none⟩)] w fun e w' => ∃ k, e = .returned (.tuple #[.slice (some ⟨g, k, none⟩) (slen s) (slen s), .bool (decide (sform (s.getD 0 0) (sbody s) = s))]) ∧ (0 < slen s → k = o + 7) ∧ Below w.heap.size w w' := by
  have h1 := cut_any g o 1 3 w (by omega) (by omega)
  have hp := src_part hs (i := 1) (m := 2) (by omega)
  have h2 := taken_any g (o + 1) 2 2 ((s.drop 1).take 2) w ((hb.drop _).take _) hp.1 (by omega) (fun i hi => by have := hp.2.2 _ rfl i hi; rwa [addr_add] at this)
  have hle := slen_eq hb
  have g1 := hb.getD 1
  have g2 := hb.getD 2
  rw [take2 hs.1, le2 g1.1 g2.1, ← hle] at h2
  have c0 := hs.2.2 _ rfl 0 (by omega)
  rw [addr_add, Nat.add_zero] at c0
  have g0 := hb.getD 0
  have hbody : ∃ k, Src w (some ⟨g, k, none⟩) (slen s) (sbody s) ∧ (0 < slen s → k = o + 7) ∧ Calls Try.prog 88 #[.pointer (some ⟨g, o, none⟩), .int .i64 7, .int .i64 (7 + (slen s : Int))] w fun e w' => e = .returned (.slice (some ⟨g, k, none⟩) (slen s) (slen s)) ∧ w' = w := by
    by_cases h0 : slen s = 0
    · have hcn := cut_none g o 7 w (by omega)
      refine ⟨o, ⟨by rw [sbody_len hN hs.1], (fun e => by cases e), fun x hx i hi => by omega⟩, fun h => by omega, ?_⟩
      rw [h0]
      exact hcn
    · have hc := cut_any g o 7 (7 + slen s) w (by omega) (by omega)
      refine ⟨o + 7, src_part hs (i := 7) (m := slen s) (by omega), fun _ => rfl, ?_⟩
      have e1 : 7 + slen s - 7 = slen s := by omega
      rw [e1] at hc
      have e2 : ((7 + slen s : Nat) : Int) = 7 + (slen s : Int) := by omega
      rw [e2] at hc
      exact hc
  obtain ⟨k, hk, hkk, hc⟩ := hbody
  obtain ⟨t, ht⟩ : ∃ t : Nat, s.getD 0 0 = (t : Int) := ⟨(s.getD 0 0).toNat, by omega⟩
  have hbl := sbody_len hN hs.1
  have hbb : Bytes (sbody s) := (hb.drop _).take _
  rw [ht] at c0 hx ⊢
  have p1 : Hid (∀ q : Later w, Calls Try.prog 73 #[.int .u8 (t : Int), .slice (some ⟨g, k, none⟩) (slen s) (slen s)] q.to fun e w' => e = .returned (.agg (bs (sform t (sbody s))).toArray) ∧ Below q.to.heap.size q.to w') :=
    fun q => sealed_any t (some ⟨g, k, none⟩) (slen s) (slen s) (sbody s) q.to (by omega) (hk.later q.h) hN hbb
  have hinfo := infoSecL (l := s) hs.1
  have hfl : (sform t (sbody s)).length = 512 := sform_len (by rw [hbl]; exact hN)
  have hra : ∀ w', (∃ q : Later w, w' = q.to) → w'.rangeAt g o (bs s) := fun w' ⟨q, e⟩ => by rw [e]; exact src_range (hs.later q.h)
  have hsl := hs.1
  have c0q : ∀ q : Later w, q.to.cell? ⟨g, o, none⟩ = some (.int .u8 (t : Int)) := fun q => cell_later q.h c0
  have hNN : ¬ 504 < ((slen s : Nat) : Int) := by omega
  have Hkk := Hid.mk hkk
  have Hra := Hid.mk hra
  have Hfl := Hid.mk hfl
  have Hsl := Hid.mk hsl
  have Hinfo := Hid.mk hinfo
  clear hs hp hle g0 g1 g2 hk hkk hbl hbb hfl hinfo hra hsl
  obtain ⟨R, hR⟩ : ∃ R, R = sform t (sbody s) := ⟨_, rfl⟩
  rw [← hR] at p1 Hfl ⊢
  clear hR
  generalize slen s = N at *
  have hx3 : ¬ 3 ≤ (t : Int) := by omega
  go_enter Try.func106, Try.ntmps106
  go_wp2_with fail
  refine h1.mono ?_
  rintro e w' ⟨rfl, hw⟩
  have hw' := hw.symm
  subst hw'
  clear hw h1
  go_wp2_with fail
  refine h2.mono ?_
  rintro e w' ⟨rfl, hw⟩
  have hw' := hw.symm
  subst hw'
  clear hw h2
  go_wp2_with fail
  refine hc.mono ?_
  rintro e w' ⟨rfl, hw⟩
  have hw' := hw.symm
  subst hw'
  clear hw hc
  go_wp2_with fail
  have hne := Later.some w
  refine wp_region_later (by kernel_rfl) (by kernel_rfl) ?_
  repeat (first | go_big_quiet_skip | (go_big_quiet_want; go_big_quiet_op; first | go_big_quiet_on | (apply Exists.intro; refine ⟨fun q => ?_, ?_⟩; exact Calls.later_of (p1.out q); go_big_quiet_on)))
  go_big_quiet_want
  refine quiet_load_mid 114 _ rfl g o rfl (bs s) _ Hra.out Try.underlying114 rfl Hinfo.out ?_
  simp only [Act.put, List.setIfInBounds_toArray, List.set_cons_succ, List.set_cons_zero]
  go_big_quiet_on
  go_big_quiet_want
  refine quiet_eq_sec _ _ _ rfl R s rfl rfl Hfl.out Hsl.out ?_
  simp only [Act.put, List.setIfInBounds_toArray, List.set_cons_succ, List.set_cons_zero]
  go_big_quiet_on
  repeat (go_big_quiet_want; go_big_quiet_op; go_big_quiet_on)
  refine wpQuiet_nil ?_
  rintro _ ⟨q, rfl⟩
  go_wp2
  go_ret2
  exact ⟨k, rfl, Hkk.out, q.h⟩
end Go.Proofs.Ythdgndbmecnimaa
end

section
namespace Go.Proofs.Ythdgndbmecnimaa
open Go.RowKit

set_option maxRecDepth 20000 in
set_option maxHeartbeats 4000000 in
theorem sopen_no1 (a : Option Addr) (n c : Nat) (w : World) (hn : n ≠ 512) :
    Calls Try.prog 90 #[.slice a n c] w fun e w' => e = .returned (.tuple #[.slice none 0 0, .int .i64 2]) ∧ Below w.heap.size w w' := by
  have hz := zeroSec
  have hs := sectorOf_no a n c w hn
  have hinfo := infoSecZ
  have hone := zsec_one
  generalize zsec = Z at *
  have hall : Z.all Value.oneCell' = true := all_oneCell_toArray hone
  clear hone
  go_enter Try.func90, Try.ntmps90
  go_wp2_with fail
  refine hs.mono ?_
  rintro e w1 ⟨rfl, hb1⟩
  have hw1 : (w1.alloc (.cells Z 114)).heap[w1.heap.size]? = some (.cells Z 114 (0, 0)) := heap_alloc_new _ _
  have hth : (w1.alloc (.cells Z 114)).there w1.heap.size 0 Z.toList.length := there_of hw1 (by simp)
  have hB1 : Below w.heap.size w (w1.alloc (.cells Z 114)) := hb1.alloc hb1.size _
  have hsz := hb1.size
  have hB6 := Hid.mk (hB1.trans ((Keeps.setCells (F := fun j => j = w1.heap.size) rfl Z.toList 0 _).below (fun j hj => by omega) hB1.size))
  clear hs hw1 hB1 hb1
  go_wp2_with (refine wpList_store_mid rfl 114 _ _ rfl w1.heap.size 0 Z rfl rfl ?h1 ?h2 hall ?_)
  case h1 => simpa using hth
  case h2 => simpa using hinfo
  go_ret2
  exact ⟨rfl, hB6.out⟩

set_option maxRecDepth 20000 in
set_option maxHeartbeats 4000000 in
theorem sopen_all (b o c : Nat) (s : List Int) (w : World) (hs : Src w (some ⟨b, o, none⟩) 512 s) (hbs : Bytes s) :
    Calls Try.prog 90 #[.slice (some ⟨b, o, none⟩) 512 c] w fun e w' => ∃ v, e = .returned (.tuple #[v, .int .i64 (((sopens s).2 : Nat) : Int)]) ∧ Lst w' w.heap.size v (sopens s).1 ∧ Below w.heap.size w w' := by
  have hz := zeroSec
  have hs1 := sectorOf_ok b o c s w hs
  have hinfo := infoSecL (l := s) hs.1
  have hone := bs_one s
  have hll : (bs s).length = 512 := by rw [bs, List.length_map, hs.1]
  have hsl := hs.1
  have hall := all_oneCell_toArray hone
  obtain ⟨F, hF⟩ : ∃ F, F = bs s := ⟨_, rfl⟩
  rw [← hF] at hs1 hinfo hone hll hall
  have HF := Hid.mk hF
  clear hone hs hF
  go_enter Try.func90, Try.ntmps90
  go_wp2_with fail
  refine hs1.mono ?_
  rintro e w1 ⟨rfl, hb1⟩
  have hw1 : (w1.alloc (.cells zsec 114)).heap[w1.heap.size]? = some (.cells zsec 114 (0, 0)) := heap_alloc_new _ _
  have hth := there_of hw1 zsec_size
  rw [← hll] at hth
  have hB1 : Below w.heap.size w (w1.alloc (.cells zsec 114)) := hb1.alloc hb1.size _
  have hsz := hb1.size
  have hB2 := hB1.trans ((Keeps.setCells (F := fun j => j = w1.heap.size) rfl F 0 _).below (fun j hj => by omega) hB1.size)
  have hblk := blk_stored (l := s) hw1 (by rw [zsec_size, hsl])
  rw [← HF.out] at hblk
  obtain ⟨w2, hw2⟩ : ∃ w2, w2 = (w1.alloc (.cells zsec 114)).setCells w1.heap.size 0 F := ⟨_, rfl⟩
  rw [← hw2] at hblk hB2
  have hsrc : Src w2 (some ⟨w1.heap.size, 0, none⟩) 512 s := by
    have := hblk.src (o := 0) (n := 512) (by omega)
    rwa [List.drop_zero, List.take_of_length_le (by omega)] at this
  have HB2 := Hid.mk hB2
  have Hsrc := Hid.mk hsrc
  clear hs1 hw1 hB1 hb1 hblk hB2 hsrc
  go_wp2_with (refine wpList_store_mid rfl 114 _ _ rfl w1.heap.size 0 F.toArray rfl rfl ?h1 ?h2 hall ?_)
  case h1 => simpa using hth
  case h2 => simpa using hinfo
  rw [← hw2]
  clear hw2 hth hinfo hall
  by_cases hbad : 504 < slen s ∨ 2 < s.getD 0 0
  · have hno : sopens s = ([], 30) := sopens_none hsl (sopen_no (fun h => by omega))
    have Hno := Hid.mk hno
    refine (open_no w1.heap.size 0 s w2 Hsrc.out hbs hbad).mono ?_
    rintro e w' ⟨rfl, hw⟩
    have hw' := hw.symm
    subst hw'
    clear hw hno hbad
    go_wp2
    go_ret2
    exact ⟨_, by rw [Hno.out]; rfl, by rw [Hno.out]; exact Lst.nil _ _, HB2.out⟩
  · refine (open_yes w1.heap.size 0 s w2 Hsrc.out hbs (by omega) (by omega)).mono ?_
    rintro e w3 ⟨k, rfl, hk, hb3⟩
    have hB3 := HB2.out.trans (hb3.mono HB2.out.size)
    have hsb : Src w3 (some ⟨w1.heap.size, k, none⟩) (slen s) (sbody s) := by
      by_cases h0 : slen s = 0
      · exact ⟨sbody_len (by omega) hsl, (fun e => by cases e), fun x hx i hi => by omega⟩
      · rw [hk (by omega)]
        exact src_part (Hsrc.out.later hb3) (i := 7) (m := slen s) (by omega)
    have HB3 := Hid.mk hB3
    have hbl := sbody_len (s := s) (by omega) hsl
    have hlst : Lst w3 w.heap.size (.slice (some ⟨w1.heap.size, k, none⟩) (slen s) (slen s)) (sbody s) := ⟨some ⟨w1.heap.size, k, none⟩, slen s, by rw [hbl], by rw [hbl]; exact hsb, by omega, fun x hx => by cases hx; exact hsz⟩
    have Hlst := Hid.mk hlst
    clear hB3 hsb hlst hk hb3 hbl
    by_cases heq : sform (s.getD 0 0) (sbody s) = s
    · have hy : sopens s = (sbody s, 0) := sopens_some hsl (sopen_yes (by omega) (by omega) heq)
      have Hy := Hid.mk hy
      rw [decide_eq_true heq]
      clear heq hy
      go_wp2
      go_ret2
      exact ⟨_, by rw [Hy.out]; rfl, by rw [Hy.out]; exact Hlst.out, HB3.out⟩
    · have hy : sopens s = ([], 30) := sopens_none hsl (sopen_no (fun h => heq h.2.2))
      have Hy := Hid.mk hy
      rw [decide_eq_false heq]
      clear heq hy
      go_wp2
      go_ret2
      exact ⟨_, by rw [Hy.out]; rfl, by rw [Hy.out]; exact Lst.nil _ _, HB3.out⟩

theorem sopen_any (a : Option Addr) (n c : Nat) (s : List Int) (w : World) (hs : Src w a n s) (hb : Bytes s) :
    Calls Try.prog 90 #[.slice a n c] w fun e w' => ∃ v, e = .returned (.tuple #[v, .int .i64 (((sopens s).2 : Nat) : Int)]) ∧ Lst w' w.heap.size v (sopens s).1 ∧ Below w.heap.size w w' := by
  by_cases hn : n = 512
  · subst hn
    obtain ⟨b, o, rfl⟩ := src_spot hs (by omega)
    exact sopen_all b o c s w hs hb
  · refine (sopen_no1 a n c w hn).mono ?_
    rintro e w' ⟨rfl, hbel⟩
    rw [sopens_no1 (by rw [hs.1]; exact hn)]
    exact ⟨_, rfl, Lst.nil _ _, hbel⟩
theorem sopens_len (s : List Int) : (sopens s).1.length ≤ 512 := by
  unfold sopens
  split
  · simp
  · next h =>
    have hl : s.length = 512 := by omega
    cases h2 : sopen s with
    | none => simp
    | some b => have := sopen_len h2 hl; simp only; omega
theorem sseal_ok {old body : List Int} (h1 : old.length = 512) (h2 : body.length ≤ 504) : sseal old body = (sform (turnOf (old.getD 0 0) (old.getD 511 0)) body, 0) := by
  unfold sseal; rw [if_neg (by omega), if_neg (by omega)]
theorem Own.full {w : World} {B : Nat} {v : Value} {l : List Int} (h : Own w B v l) (h0 : 0 < l.length) : ∃ g c, v = .slice (some ⟨g, 0, none⟩) l.length c ∧ B ≤ g ∧ RowAt w 5 g c (bs l) := h.row' h0
theorem RowAt.setByte {w : World} {g c : Nat} {l : List Int} (h : RowAt w 5 g c (bs l)) (i : Nat) (x : Int) : RowAt (w.setCell ⟨g, i, none⟩ (.int .u8 x)) 5 g c (bs (l.set i x)) := by
  obtain ⟨cur, hb, hc, ht, hm⟩ := h
  refine ⟨cur.setIfInBounds i (.int .u8 x), heap_setCell_same _ _ _ _ _ _ hb, by simpa using hc, ?_, hm⟩
  have e : (bs (l.set i x)).length = (bs l).length := by simp [bs]
  rw [e, Array.toList_setIfInBounds, List.take_set, ht, bs, bs, List.map_set]
theorem RowAt.spare {w : World} {e : TypeId} {g c : Nat} {l : List Int} (h : RowAt w e g c (bs l)) : l.length ≤ c := by have := h.le; simpa [bs] using this

theorem setByte_bytes {l : List Int} (h : Bytes l) (i : Nat) (x : Int) (hx : 0 ≤ x ∧ x < 256) : Bytes (l.set i x) := by
  intro y hy
  rcases List.mem_or_eq_of_mem_set hy with h1 | h1
  · exact h y h1
  · subst h1; exact hx

end Go.Proofs.Ythdgndbmecnimaa
end

section
namespace Go.Proofs.Ythdgndbmecnimaa
open Go.RowKit

/-- What sectorOf makes of a list. -/
def secOf (l : List Int) : List Int := if l.length = 512 then l else zs 512
theorem secOf_len (l : List Int) : (secOf l).length = 512 := by unfold secOf; split; assumption; exact zs_len 512
theorem secOf_self {l : List Int} (h : l.length = 512) : secOf l = l := by unfold secOf; rw [if_pos h]
theorem sectorOf_any (a : Option Addr) (n c : Nat) (l : List Int) (w : World) (hs : Src w a n l) :
    Calls Try.prog 72 #[.slice a n c] w fun e w' => e = .returned (.tuple #[.agg (bs (secOf l)).toArray, .bool (decide (n = 512))]) ∧ Below w.heap.size w w' := by
  by_cases hn : n = 512
  · subst hn
    cases a with
    | none => have := hs.2.1 rfl; omega
    | some x =>
      obtain ⟨b, o, rfl, _⟩ := hs.spot (by omega)
      rw [secOf_self hs.1]
      exact sectorOf_ok b o c l w hs
  · have e : secOf l = zs 512 := by unfold secOf; rw [if_neg (by rw [hs.1]; exact hn)]
    rw [e, decide_eq_false hn]
    exact sectorOf_no a n c w hn

def zpair : Array Value := (bs (zs 1024)).toArray
theorem infoPair : (Try.prog.info? 130).map (fun i => (i.zero, i.size)) = some (some (.agg zpair), 1024) := by kernel_rfl
theorem zeroPair (w : World) : (zeroValue 130).run Try.prog w = .ok (.agg zpair) w := by
  obtain ⟨i, hi, he⟩ := Option.map_eq_some_iff.1 infoPair
  simp only [Prod.mk.injEq] at he
  simp [zeroValue, typeInfo, hi, he.1]
theorem sizePair : (Try.prog.info? 130).map (·.size) = some 1024 := by
  obtain ⟨i, hi, he⟩ := Option.map_eq_some_iff.1 infoPair
  simp only [Prod.mk.injEq] at he
  rw [hi, ← he.2]; rfl
theorem zpair_size : zpair.size = 1024 := by unfold zpair; simp only [List.size_toArray, bs, List.length_map, zs_len]

theorem foldl_put : ∀ (vs : List Value) (k off : Nat) (cells : Array Value), off + k + vs.length ≤ cells.size →
    ((vs.zipIdx k).foldl (fun cs (x : Value × Nat) => cs.setIfInBounds (off + x.2) x.1) cells).toList = cells.toList.take (off + k) ++ vs ++ cells.toList.drop (off + k + vs.length)
  | [], k, off, cells, h => by simp
  | v :: r, k, off, cells, h => by
    have h1 : off + k < cells.toList.length := by simp at h ⊢; omega
    rw [List.zipIdx_cons, List.foldl_cons, foldl_put r (k + 1) off _ (by simp at h ⊢; omega)]
    simp only [Array.toList_setIfInBounds]
    rw [show off + (k + 1) = off + k + 1 by omega, List.take_set, List.drop_set]
    rw [if_pos (by omega), List.take_succ_eq_append_getElem h1, List.set_append_right _ _ (by simp; omega)]
    have : (off + k) - (cells.toList.take (off + k)).length = 0 := by simp; omega
    rw [this, List.set_cons_zero]
    simp only [List.length_cons, List.append_assoc, List.cons_append, List.nil_append]
    congr 4
    omega
theorem fold_cells (F cells : Array Value) (off : Nat) (h : off + F.size ≤ cells.size) :
    (F.zipIdx.foldl (fun cs (x : Value × Nat) => cs.setIfInBounds (off + x.2) x.1) cells).toList = cells.toList.take off ++ F.toList ++ cells.toList.drop (off + F.size) := by
  rw [← Array.foldl_toList, Array.toList_zipIdx]
  have := foldl_put F.toList 0 off cells (by simpa using h)
  simpa using this
theorem build_pair (F G : Array Value) (hF : F.size = 512) (hG : G.size = 512) (w : World) :
    (Instr.build 130 #[(0, .agg F), (1, .agg G)]).run Try.prog w = .ok (.agg (F ++ G)) w := by
  obtain ⟨i, hi, he⟩ := Option.map_eq_some_iff.1 sizeSec
  have hz := zpair_size
  have e1 := fold_cells F zpair (0 * 512) (by omega)
  have s1 : (F.zipIdx.foldl (fun cs (x : Value × Nat) => cs.setIfInBounds (0 * 512 + x.2) x.1) zpair).size = 1024 := by
    rw [← Array.length_toList, e1]; simp; omega
  have e2 := fold_cells G (F.zipIdx.foldl (fun cs (x : Value × Nat) => cs.setIfInBounds (0 * 512 + x.2) x.1) zpair) (1 * 512) (by omega)
  have key : Instr.fill (fun i => some (i * 512, 512)) zpair [(0, .agg F), (1, .agg G)] = some (F ++ G) := by
    have c1 : (Value.agg F).cells = F := rfl
    have c2 : (Value.agg G).cells = G := rfl
    simp only [Instr.fill, c1, c2, hF, hG, hz]
    rw [if_neg (by simp), if_neg (by simp only [ne_eq, not_true, decide_false, Bool.false_or, decide_eq_true_eq]; omega)]
    refine congrArg some ?_
    apply Array.ext'
    rw [e2, e1]
    have hFl : F.toList.length = 512 := by simpa using hF
    have hGl : G.toList.length = 512 := by simpa using hG
    have hzl : zpair.toList.length = 1024 := by simpa using hz
    simp only [Nat.zero_mul, List.take_zero, List.nil_append, Nat.zero_add, Nat.one_mul, hF, hG]
    rw [List.take_left' hFl, List.drop_eq_nil_of_le (by simp; omega)]
    simp
  have c3 : (Value.agg zpair).cells = zpair := rfl
  simp only [Instr.build, Sem.run_bind, zeroPair, Result.andThen_ok, run_underlying Try.underlying130, c3]
  have hsz : (sizeOf 114).run Try.prog w = .ok 512 w := by simp [sizeOf, typeInfo, hi, he]
  rw [hsz, Result.andThen_ok, key]
  rfl
end Go.Proofs.Ythdgndbmecnimaa
end
