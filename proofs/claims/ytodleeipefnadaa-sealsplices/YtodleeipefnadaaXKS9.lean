import Derived.Test.YtodleeipefnadaaXKS8
namespace Go.Proofs.Ytodleeipefnadaa
open Go.RowKit

theorem results_cell_tmp {P : Program} {fn : Func} {p q : Tmp} {ty : TypeId} (h : fn.results = #[.cell p ty, .tmp q]) (tmps : Array Value) (w : World) (g : Nat) (cs : List Value) (d : TypeDesc) (v : Value)
    (hp : tmps.getD p undef = .pointer (some ⟨g, 0, none⟩)) (hq : tmps.getD q undef = v) (hg : w.rangeAt g 0 cs) (hu : P.underlying ty = some d) (hd : d.isRow = true) (hi : (P.info? ty).map (·.size) = some cs.length) :
    (results fn tmps).run P w = .ok (.tuple #[.agg cs.toArray, v]) w := by
  have hp' : tmps[p]?.getD undef = .pointer (some ⟨g, 0, none⟩) := by simpa using hp
  have hq' : tmps[q]?.getD undef = v := by simpa using hq
  simp [results, h, hp', hq', asAddr, run_loadVar_mid w g 0 ty cs d hg hu hd hi]
theorem src_range {w : World} {b o n : Nat} {l : List Int} (h : Src w (some ⟨b, o, none⟩) n l) : w.rangeAt b o (bs l) := by
  intro j v hv
  obtain ⟨hj, rfl⟩ := bs_getElem hv
  have := h.2.2 _ rfl j (by have := h.1; omega)
  rwa [addr_add] at this

theorem arraySec (a : Option Addr) (c : Nat) (w : World) : (Instr.arrayAt 91 (.slice a 512 c)).run Try.prog w = .ok (.pointer a) w := by
  simp [Instr.arrayAt, run_underlying Try.underlying91]
theorem zsec_one : ∀ v ∈ zsec.toList, v.oneCell' = true := bs_one (zs 512)
theorem infoSecZ : (Try.prog.info? 91).map (·.size) = some zsec.toList.length := infoSecL (l := zs 512) (zs_len 512)

set_option maxRecDepth 20000 in
set_option maxHeartbeats 4000000 in
theorem sectorOf_no (a : Option Addr) (n c : Nat) (w : World) (hn : n ≠ 512) :
    Calls Try.prog 71 #[.slice a n c] w fun e w' => e = .returned (.tuple #[.agg zsec, .bool false]) ∧ Below w.heap.size w w' := by
  have hz := zeroSec
  have h1 : (((n : Int)) != 512) = true := by rw [bne_iff_ne]; omega
  have hinfo := infoSecZ
  have hone := zsec_one
  generalize zsec = Z at *
  have hw1 : (w.alloc (.cells Z 91)).heap[w.heap.size]? = some (.cells Z 91 (0, 0)) := heap_alloc_new _ _
  have hth : (w.alloc (.cells Z 91)).there w.heap.size 0 Z.toList.length := there_of hw1 (by simp)
  have hrs := Hid.mk (World.rangeAt_setCells_same _ w.heap.size 0 Z.toList hth)
  have hall : Z.all Value.oneCell' = true := all_oneCell_toArray hone
  have hB1 : Below w.heap.size w (w.alloc (.cells Z 91)) := (Below.refl _ w).alloc (Nat.le_refl _) _
  have hB6 := Hid.mk (hB1.trans ((Keeps.setCells (F := fun j => j = w.heap.size) rfl Z.toList 0 _).below (fun j hj => by omega) hB1.size))
  clear hw1 hone hB1
  go_enter Try.func71, Try.ntmps71
  go_wp2_with (refine wpList_store_mid rfl 91 _ _ rfl w.heap.size 0 Z rfl rfl ?h1 ?h2 hall ?_)
  case h1 => simpa using hth
  case h2 => simpa using hinfo
  exact bodyPost_ret (results_cell_tmp (P := Try.prog) rfl _ _ w.heap.size Z.toList _ _ rfl rfl hrs.out Try.underlying91 rfl hinfo) rfl ⟨rfl, hB6.out⟩

set_option maxRecDepth 20000 in
set_option maxHeartbeats 4000000 in
theorem sectorOf_ok (b o c : Nat) (l : List Int) (w : World) (hs : Src w (some ⟨b, o, none⟩) 512 l) :
    Calls Try.prog 71 #[.slice (some ⟨b, o, none⟩) 512 c] w fun e w' => e = .returned (.tuple #[.agg (bs l).toArray, .bool true]) ∧ Below w.heap.size w w' := by
  have hz := zeroSec
  have harr := arraySec (some ⟨b, o, none⟩) c
  have hB1 : Below w.heap.size w (w.alloc (.cells zsec 91)) := (Below.refl _ w).alloc (Nat.le_refl _) _
  have hra := src_range (hs.later hB1)
  have hinfo := infoSecL (l := l) hs.1
  have hone := bs_one l
  have hw1 : (w.alloc (.cells zsec 91)).heap[w.heap.size]? = some (.cells zsec 91 (0, 0)) := heap_alloc_new _ _
  have hth := there_of hw1 zsec_size
  have hll : (bs l).length = 512 := by rw [bs, List.length_map, hs.1]
  generalize bs l = F at *
  rw [← hll] at hth
  have hrs := Hid.mk (World.rangeAt_setCells_same _ w.heap.size 0 F hth)
  have hall := all_oneCell_toArray hone
  have hB6 := Hid.mk (hB1.trans ((Keeps.setCells (F := fun j => j = w.heap.size) rfl F 0 _).below (fun j hj => by omega) hB1.size))
  clear hw1 hone hB1 hs
  go_enter Try.func71, Try.ntmps71
  go_wp2_with (first | refine wpList_load_mid rfl 91 _ rfl b o rfl F _ hra Try.underlying91 rfl hinfo ?_ | refine wpList_store_mid rfl 91 _ _ rfl w.heap.size 0 F.toArray rfl rfl ?h1 ?h2 hall ?_)
  case h1 => simpa using hth
  case h2 => simpa using hinfo
  exact bodyPost_ret (results_cell_tmp (P := Try.prog) rfl _ _ w.heap.size F _ _ rfl rfl hrs.out Try.underlying91 rfl hinfo) rfl ⟨rfl, hB6.out⟩
end Go.Proofs.Ytodleeipefnadaa
