import Derived.Test.YtodleeipefnadacKS7
namespace Go.Proofs.Ytodleeipefnadac
open Go.RowKit

theorem blk_range {w : World} {T : TypeId} {g : Nat} {l : List Int} (h : Blk w T g l) : w.rangeAt g 0 (bs l) := by
  intro j v hv
  obtain ⟨hj, rfl⟩ := bs_getElem hv
  rw [Nat.zero_add]
  exact h.cell hj
theorem there_of {w : World} {T : TypeId} {g n : Nat} {cur : Array Value} (h : w.heap[g]? = some (.cells cur T (0, 0))) (hn : cur.size = n) : w.there g 0 n := by
  intro j hj
  rw [Nat.zero_add]
  exact ⟨by rw [cell_of_block h (j := j) (u := cur[j]'(by omega)) (by simp [show j < cur.size by omega])]; rfl, frozen_of_block h j⟩
theorem zsec_size : zsec.size = 512 := by unfold zsec; simp only [List.size_toArray, bs, List.length_map, zs_len]
theorem infoSecL {l : List Int} (h : l.length = 512) : (Try.prog.info? 87).map (·.size) = some (bs l).length := by
  rw [sizeSec, bs, List.length_map, h]

set_option maxRecDepth 20000 in
set_option maxHeartbeats 4000000 in
theorem sealed_any (t : Nat) (a : Option Addr) (n c : Nat) (body : List Int) (w : World) (ht : t < 256) (hs : Src w a n body) (hn : n ≤ 504) (hb : Bytes body) :
    Calls Try.prog 40 #[.int .u8 (t : Int), .slice a n c] w fun e w' => e = .returned (.agg (bs (sform t body)).toArray) ∧ Below w.heap.size w w' := by
  have H := Hid.mk hs
  have hz := zeroSec
  have hlb := hs.1
  have hc1 := Hid.mk (fun w1 => cut_any (w.heap.size + 1) 0 1 3 w1 (by omega) (by omega))
  have hc2 := Hid.mk (fun w1 => cut_any (w.heap.size + 1) 0 7 511 w1 (by omega) (by omega))
  have hc3 := Hid.mk (fun w1 => cut_any (w.heap.size + 1) 0 3 7 w1 (by omega) (by omega))
  clear hs
  go_enter Try.func40, Try.ntmps40
  go_wp2_with fail
  rw [s1_of]
  obtain ⟨w1, hw1⟩ : ∃ w1, w1 = (w.alloc (.cells zsec 87)).alloc (.cells (bs (s1 t)).toArray 87) := ⟨_, rfl⟩
  have hB1 : Below w.heap.size w w1 := by rw [hw1]; exact ((Below.refl _ w).alloc (Nat.le_refl _) _).alloc (by simp) _
  have hblk : Blk w1 87 (w.heap.size + 1) (s1 t) := by rw [hw1]; exact heap_alloc2_new _ _ _
  have hres : w1.heap[w.heap.size]? = some (.cells zsec 87 (0, 0)) := by rw [hw1]; exact heap_alloc2_old _ _ _
  rw [← hw1]
  clear hw1 hz
  refine (hc1.out w1).mono ?_
  rintro e w' ⟨rfl, hw⟩
  have hw' := hw.symm
  subst hw'
  clear hw hc1
  have hl := lay_any (w.heap.size + 1) 1 2 2 n 87 (s1 t) w1 hblk (by omega) (by rw [s1_len]; omega)
  rw [s2_of t n (by omega)] at hl
  have Hres := Hid.mk hres
  have HB1 := Hid.mk hB1
  clear hblk hres hB1
  go_wp2_with fail
  refine hl.mono ?_
  rintro e w2 ⟨rfl, hblk, hk, hz2⟩
  have hB2 : Below w.heap.size w w2 := HB1.out.trans (hk.below (fun j hj => by omega) HB1.out.size)
  have hres : w2.heap[w.heap.size]? = some (.cells zsec 87 (0, 0)) := (hk.block _ (Array.getElem?_eq_some_iff.1 Hres.out).1 (by omega)).trans Hres.out
  obtain ⟨w3, hrun, hblk3, hk3, hz3⟩ := copy_blk w2 3 87 (w.heap.size + 1) 7 504 504 a n c (s2 t n) body hblk (H.out.later hB2) hn (by rw [s2_len]; omega)
  have hB3 : Below w.heap.size w w3 := hB2.trans (hk3.below (fun j hj => by omega) hB2.size)
  have hres3 : w3.heap[w.heap.size]? = some (.cells zsec 87 (0, 0)) := (hk3.block _ (Array.getElem?_eq_some_iff.1 hres).1 (by omega)).trans hres
  have e3 := s3_of t body (by omega)
  rw [hlb] at e3
  rw [e3] at hblk3
  have Hblk3 := Hid.mk hblk3
  have Hres3 := Hid.mk hres3
  have HB3 := Hid.mk hB3
  clear hl hblk hk hB2 hres hk3 hB3 hres3 hblk3 HB1 Hres hz2 hz3 e3
  go_wp2_with fail
  refine (hc2.out w2).mono ?_
  rintro e w' ⟨rfl, hw⟩
  have hw' := hw.symm
  subst hw'
  clear hw hc2
  go_wp2_with fail
  refine (hc3.out w3).mono ?_
  rintro e w' ⟨rfl, hw⟩
  have hw' := hw.symm
  subst hw'
  clear hw hc3 hrun
  have hsum := ssum_any (w.heap.size + 1) 87 (s3 t body) w3 Hblk3.out (s3_len t (by omega)) (s3_bytes (by omega) hb (by omega))
  rw [s3_text t body (by omega)] at hsum
  have hS := sumOf_lt (stext_bytes hb (show body.length ≤ 504 by omega))
  have e4 := s4_of t body
  obtain ⟨E, hE⟩ : ∃ E, E = sumOf (stext body) := ⟨_, rfl⟩
  rw [← hE] at hsum hS e4
  have He4 := Hid.mk e4
  have hS' : (E : Int) < 4294967296 := by omega
  clear hE e4
  go_wp2_with fail
  refine hsum.mono ?_
  rintro e w4 ⟨rfl, hb4⟩
  have hblk4 := Hblk3.out.keep (hb4.block _ Hblk3.out.lt)
  have hres4 : w4.heap[w.heap.size]? = some (.cells zsec 87 (0, 0)) := (hb4.block _ (Array.getElem?_eq_some_iff.1 Hres3.out).1).trans Hres3.out
  have hB4 : Below w.heap.size w w4 := HB3.out.trans (hb4.mono HB3.out.size)
  have hl := lay_any (w.heap.size + 1) 3 4 4 E 87 (s3 t body) w4 hblk4 (by omega) (by rw [s3_len t (by omega)]; omega)
  rw [He4.out] at hl
  have Hres4 := Hid.mk hres4
  have HB4 := Hid.mk hB4
  clear hsum hb4 hblk4 hres4 hB4 Hblk3 Hres3 HB3 He4
  go_wp2_with fail
  refine hl.mono ?_
  rintro e w5 ⟨rfl, hblk5, hk5, hz5⟩
  have hres5 : w5.heap[w.heap.size]? = some (.cells zsec 87 (0, 0)) := (hk5.block _ (Array.getElem?_eq_some_iff.1 Hres4.out).1 (by omega)).trans Hres4.out
  have hB5 : Below w.heap.size w w5 := HB4.out.trans (hk5.below (fun j hj => by omega) HB4.out.size)
  have hfl : (sform t body).length = 512 := sform_len (by omega)
  have hra := blk_range hblk5
  have hth := there_of hres5 zsec_size
  have hinfo := infoSecL hfl
  have hll : (bs (sform t body)).length = 512 := by rw [bs, List.length_map, hfl]
  have hone := bs_one (sform t body)
  generalize hF : bs (sform t body) = F at *
  rw [← hll] at hth
  have hrs := Hid.mk (World.rangeAt_setCells_same w5 w.heap.size 0 F hth)
  have hall := all_oneCell_toArray hone
  have hB6 : Hid (Below w.heap.size w (w5.setCells w.heap.size 0 F)) := hB5.trans ((Keeps.setCells (F := fun j => j = w.heap.size) rfl F 0 w5).below (fun j hj => by omega) hB5.size)
  have HF := Hid.mk hF
  clear hl hblk5 hk5 hz5 hres5 hB5 hfl Hres4 HB4 hone hF
  go_wp2_with (first | refine wpList_load_mid rfl 87 _ rfl (w.heap.size + 1) 0 rfl F _ hra Try.underlying87 rfl hinfo ?_ | refine wpList_store_mid rfl 87 _ _ rfl w.heap.size 0 F.toArray rfl rfl ?h1 ?h2 hall ?_)
  case h1 => simpa using hth
  case h2 => simpa using hinfo
  exact bodyPost_ret (results_cell_mid (P := Try.prog) rfl _ _ w.heap.size F _ rfl hrs.out Try.underlying87 rfl hinfo) rfl ⟨by rw [HF.out], hB6.out⟩
end Go.Proofs.Ytodleeipefnadac
