import Derived.Test.YtodleeipefnadacKS10
namespace Go.Proofs.Ytodleeipefnadac
open Go.RowKit

set_option maxRecDepth 20000 in
set_option maxHeartbeats 4000000 in
theorem seal_no1 (a : Option Addr) (n c : Nat) (a2 : Option Addr) (m c2 : Nat) (w : World) (hn : n ≠ 512) :
    Calls Try.prog 23 #[.slice a n c, .slice a2 m c2] w fun e w' => e = .returned (.tuple #[.slice none 0 0, .int .i64 2]) ∧ Below w.heap.size w w' := by
  have hz := zeroSec
  have hs := sectorOf_no a n c w hn
  have hinfo := infoSecZ
  have hone := zsec_one
  generalize zsec = Z at *
  have hall : Z.all Value.oneCell' = true := all_oneCell_toArray hone
  clear hone
  go_enter Try.func23, Try.ntmps23
  go_wp2_with fail
  refine hs.mono ?_
  rintro e w1 ⟨rfl, hb1⟩
  have hw1 : (w1.alloc (.cells Z 87)).heap[w1.heap.size]? = some (.cells Z 87 (0, 0)) := heap_alloc_new _ _
  have hth : (w1.alloc (.cells Z 87)).there w1.heap.size 0 Z.toList.length := there_of hw1 (by simp)
  have hB1 : Below w.heap.size w (w1.alloc (.cells Z 87)) := hb1.alloc hb1.size _
  have hsz := hb1.size
  have hB6 := Hid.mk (hB1.trans ((Keeps.setCells (F := fun j => j = w1.heap.size) rfl Z.toList 0 _).below (fun j hj => by omega) hB1.size))
  clear hs hw1 hB1 hb1
  go_wp2_with (refine wpList_store_mid rfl 87 _ _ rfl w1.heap.size 0 Z rfl rfl ?h1 ?h2 hall ?_)
  case h1 => simpa using hth
  case h2 => simpa using hinfo
  go_ret2
  exact ⟨rfl, hB6.out⟩

set_option maxRecDepth 20000 in
set_option maxHeartbeats 4000000 in
theorem seal_no2 (b o c : Nat) (old : List Int) (a2 : Option Addr) (m c2 : Nat) (w : World) (hs : Src w (some ⟨b, o, none⟩) 512 old) (hm : 504 < m) :
    Calls Try.prog 23 #[.slice (some ⟨b, o, none⟩) 512 c, .slice a2 m c2] w fun e w' => e = .returned (.tuple #[.slice none 0 0, .int .i64 7]) ∧ Below w.heap.size w w' := by
  have hz := zeroSec
  have hm' : 504 < (m : Int) := by omega
  have hs1 := sectorOf_ok b o c old w hs
  have hinfo := infoSecL (l := old) hs.1
  have hone := bs_one old
  have hll : (bs old).length = 512 := by rw [bs, List.length_map, hs.1]
  generalize bs old = F at *
  have hall := all_oneCell_toArray hone
  clear hone hs
  go_enter Try.func23, Try.ntmps23
  go_wp2_with fail
  refine hs1.mono ?_
  rintro e w1 ⟨rfl, hb1⟩
  have hw1 : (w1.alloc (.cells zsec 87)).heap[w1.heap.size]? = some (.cells zsec 87 (0, 0)) := heap_alloc_new _ _
  have hth := there_of hw1 zsec_size
  rw [← hll] at hth
  have hB1 : Below w.heap.size w (w1.alloc (.cells zsec 87)) := hb1.alloc hb1.size _
  have hsz := hb1.size
  have hB6 := Hid.mk (hB1.trans ((Keeps.setCells (F := fun j => j = w1.heap.size) rfl F 0 _).below (fun j hj => by omega) hB1.size))
  clear hs1 hw1 hB1 hb1
  go_wp2_with (refine wpList_store_mid rfl 87 _ _ rfl w1.heap.size 0 F.toArray rfl rfl ?h1 ?h2 hall ?_)
  case h1 => simpa using hth
  case h2 => simpa using hinfo
  go_ret2
  exact ⟨rfl, hB6.out⟩

set_option maxRecDepth 20000 in
set_option maxHeartbeats 4000000 in
theorem seal_ok (b o c : Nat) (old : List Int) (a2 : Option Addr) (m c2 : Nat) (body : List Int) (w : World) (hs : Src w (some ⟨b, o, none⟩) 512 old) (hs2 : Src w a2 m body) (hm : m ≤ 504) (hb : Bytes body) :
    Calls Try.prog 23 #[.slice (some ⟨b, o, none⟩) 512 c, .slice a2 m c2] w fun e w' => ∃ g, e = .returned (.tuple #[.slice (some ⟨g, 0, none⟩) 512 512, .int .i64 0]) ∧ Blk w' 87 g (sform (turnOf (old.getD 0 0) (old.getD 511 0)) body) ∧ w.heap.size ≤ g ∧ Below w.heap.size w w' := by
  have hz := zeroSec
  have hm' : ¬ 504 < (m : Int) := by omega
  have hs1 := sectorOf_ok b o c old w hs
  have hinfo := infoSecL (l := old) hs.1
  have hone := bs_one old
  have hll : (bs old).length = 512 := by rw [bs, List.length_map, hs.1]
  have holdl := hs.1
  have hall := all_oneCell_toArray hone
  have H2 := Hid.mk hs2
  have hlb := hs2.1
  have ht := turnOf_le (old.getD 0 0) (old.getD 511 0)
  obtain ⟨t, hteq⟩ : ∃ t, t = turnOf (old.getD 0 0) (old.getD 511 0) := ⟨_, rfl⟩
  rw [← hteq] at ht
  obtain ⟨F, hF⟩ : ∃ F, F = bs old := ⟨_, rfl⟩
  rw [← hF] at hs1 hinfo hone hll hall
  clear hone hs hs2
  go_enter Try.func23, Try.ntmps23
  go_wp2_with fail
  refine hs1.mono ?_
  rintro e w1 ⟨rfl, hb1⟩
  have hw1 : (w1.alloc (.cells zsec 87)).heap[w1.heap.size]? = some (.cells zsec 87 (0, 0)) := heap_alloc_new _ _
  have hth := there_of hw1 zsec_size
  rw [← hll] at hth
  have hB1 : Below w.heap.size w (w1.alloc (.cells zsec 87)) := hb1.alloc hb1.size _
  have hsz := hb1.size
  have hB2 := hB1.trans ((Keeps.setCells (F := fun j => j = w1.heap.size) rfl F 0 _).below (fun j hj => by omega) hB1.size)
  have hblk := blk_stored (l := old) hw1 (by rw [zsec_size, holdl])
  rw [← hF] at hblk
  have hnt := nextTurn_any w1.heap.size 0 (old.getD 0 0) (old.getD 511 0) _ (hblk.cell (by omega)) (hblk.cell (i := 511) (by omega))
  rw [← hteq] at hnt
  have hsd := sealed_any t a2 m c2 body _ (by omega) (H2.out.later hB2) hm hb
  obtain ⟨w2, hw2⟩ : ∃ w2, w2 = (w1.alloc (.cells zsec 87)).setCells w1.heap.size 0 F := ⟨_, rfl⟩
  rw [← hw2] at hnt hsd hB2
  have HB2 := Hid.mk hB2
  have Hteq := Hid.mk hteq
  clear hs1 hw1 hB1 hb1 hblk hB2 hteq hF H2
  go_wp2_with (refine wpList_store_mid rfl 87 _ _ rfl w1.heap.size 0 F.toArray rfl rfl ?h1 ?h2 hall ?_)
  case h1 => simpa using hth
  case h2 => simpa using hinfo
  rw [← hw2]
  refine hnt.mono ?_
  rintro e w' ⟨rfl, hw⟩
  have hw' := hw.symm
  subst hw'
  clear hw hnt hth hw2 hall hinfo
  have hfl : (sform t body).length = 512 := sform_len (by omega)
  have hinfo := infoSecL (l := sform t body) hfl
  have hall := all_oneCell_toArray (bs_one (sform t body))
  have hll2 : (bs (sform t body)).length = 512 := by rw [bs, List.length_map, hfl]
  obtain ⟨G, hG⟩ : ∃ G, G = bs (sform t body) := ⟨_, rfl⟩
  rw [← hG] at hsd hinfo hall hll2
  have HG := Hid.mk hG
  clear hG
  go_wp2_with fail
  refine hsd.mono ?_
  rintro e w3 ⟨rfl, hb3⟩
  have hB3 : Below w.heap.size w w3 := HB2.out.trans (hb3.mono HB2.out.size)
  have hw3 : (w3.alloc (.cells zsec 87)).heap[w3.heap.size]? = some (.cells zsec 87 (0, 0)) := heap_alloc_new _ _
  have hth := there_of hw3 zsec_size
  rw [← hll2] at hth
  have hblk := blk_stored (l := sform t body) hw3 (by rw [zsec_size, hfl])
  rw [← HG.out] at hblk
  have hsz3 := hB3.size
  have hB4 : Below w.heap.size w (w3.alloc (.cells zsec 87)) := hB3.alloc hB3.size _
  have hB5 := hB4.trans ((Keeps.setCells (F := fun j => j = w3.heap.size) rfl G 0 _).below (fun j hj => by omega) hB4.size)
  rw [Hteq.out] at hblk
  have HH := Hid.mk (And.intro hblk (And.intro hB3.size hB5))
  clear hsd hB3 hw3 hblk hB4 hB5 hb3 HB2
  go_wp2_with (refine wpList_store_mid rfl 87 _ _ rfl w3.heap.size 0 G.toArray rfl rfl ?h1 ?h2 hall ?_)
  case h1 => simpa using hth
  case h2 => simpa using hinfo
  go_ret2
  exact ⟨w3.heap.size, rfl, HH.out⟩
end Go.Proofs.Ytodleeipefnadac
