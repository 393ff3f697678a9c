import Derived.Test.YtkkmkogpbhcpmaaKNodH
import Derived.Test.YtkkmkogpbhcpmaaKEntR
namespace Go.Proofs.Ytkkmkogpbhcpmaa
open Go.RowKit

/-- Ten numbers' cells. -/
def dirL (f : Nat → Int) : List Value := (List.range 10).map (fun i => .int .i64 (f i))
theorem dirL_len (f : Nat → Int) : (dirL f).length = 10 := by simp [dirL]
theorem dirL_set (f g : Nat → Int) (j : Nat) (_hj : j < 10) (v : Int) (h : ∀ i, i < 10 → g i = if i = j then v else f i) : (dirL f).set j (.int .i64 v) = dirL g := by
  apply List.ext_getElem
  · simp [dirL]
  · intro i h1 h2
    have hi : i < 10 := by rw [dirL_len] at h2; exact h2
    simp only [dirL, List.getElem_set, List.getElem_map, List.getElem_range]
    rw [h i hi]
    by_cases e : j = i
    · subst e; simp
    · rw [if_neg e, if_neg (fun e' => e e'.symm)]
theorem dirL_at (f : Nat → Int) (j : Nat) (hj : j < 10) : (dirL f).toArray[j]? = some (.int .i64 (f j)) := by simp [dirL, hj]
theorem infoDir (f : Nat → Int) : (Try.prog.info? 74).map (·.size) = some (dirL f).length := by rw [dirL_len]; exact infoTen
theorem dirL_one (f : Nat → Int) : ∀ v ∈ dirL f, v.oneCell' = true := by
  intro v hv
  obtain ⟨j, _, rfl⟩ := List.mem_map.1 hv
  rfl

/-- What the loop over the ten pointers keeps. -/
structure DirAt (p b o c k : Nat) (l : List Int) (w wr : World) (j : Nat) : Prop where
  kp : Keeps (fun x => x = p) w wr
  rd : Rd wr p b o c (k + 4 * j) l
  out : wr.heap[w.heap.size]? = some (.cells (dirL (fun _ => 0)).toArray 74 (0, 0))
  box : wr.heap[w.heap.size + 1]? = some (.cells (dirL (fun i => if i < j then ((u32 l (k + 4 * i) : Nat) : Int) else 0)).toArray 74 (0, 0))
  lt : p < w.heap.size
  bt : b < w.heap.size
theorem DirAt.next {p b o c k : Nat} {l : List Int} {w wr w2 : World} {j : Nat} (h : DirAt p b o c k l w wr j) (hj : j < 10) (hk : Keeps (fun x => x = p) wr w2) (hr : Rd w2 p b o c (k + 4 * j + 4) l) :
    w2.cell? ⟨w.heap.size + 1, j, none⟩ = some (.int .i64 0) ∧ w2.frozen? ⟨w.heap.size + 1, j, none⟩ = false ∧ DirAt p b o c k l w (w2.setCell ⟨w.heap.size + 1, j, none⟩ (.int .i64 ((u32 l (k + 4 * j) : Nat) : Int))) (j + 1) := by
  have hlt := h.lt
  have hbt := h.bt
  have hbox := (hk.block _ (Array.getElem?_eq_some_iff.1 h.box).1 (by omega)).trans h.box
  have hout := (hk.block _ (Array.getElem?_eq_some_iff.1 h.out).1 (by omega)).trans h.out
  refine ⟨?_, frozen_of_block hbox j, ?_, ?_, ?_, ?_, hlt, hbt⟩
  · refine cell_of_block hbox ?_
    rw [dirL_at _ j hj]
    simp
  · exact (h.kp.trans hk (fun _ h => .inl h)).put (by omega) _
  · have := hr.put (g := w.heap.size + 1) (i := j) (v := .int .i64 ((u32 l (k + 4 * j) : Nat) : Int)) (by omega) (by omega)
    rw [show k + 4 * (j + 1) = k + 4 * j + 4 by omega]
    exact this
  · exact (Below.heap_setCell _ _ _ _ (by simp)).trans hout
  · rw [heap_setCell_same _ _ _ _ _ _ hbox]
    congr 2
    apply Array.ext'
    simp only [Array.toList_setIfInBounds]
    exact dirL_set _ _ j hj _ (fun i hi => by
      by_cases e : i = j
      · subst e; simp
      · by_cases e' : i < j
        · rw [if_pos (by omega), if_neg e, if_pos e']
        · rw [if_neg (by omega), if_neg e, if_neg e'])

set_option maxRecDepth 20000 in
set_option maxHeartbeats 4000000 in
theorem readdir_any (p b o c k : Nat) (l : List Int) (w : World) (h : Rd w p b o c k l) (hk : k + 40 ≤ l.length) (hcc : l.length < c) :
    Calls Try.prog 111 #[.pointer (some ⟨p, 0, none⟩)] w fun e w' => e = .returned (.agg (dirL (fun i => ((u32 l (k + 4 * i) : Nat) : Int))).toArray) ∧ Rd w' p b o c (k + 40) l ∧ Keeps (fun j => j = p) w w' := by
  have hpl : p < w.heap.size := (Array.getElem?_eq_some_iff.1 h.rd).1
  have hbl : b < w.heap.size := h.old (by omega)
  have hlz : (dirL (fun _ => 0)).toArray = ten (fun _ => 0) := rfl
  have H0 : Hid (DirAt p b o c k l w ((w.alloc (.cells (ten (fun _ => 0)) 74)).alloc (.cells (ten (fun _ => 0)) 74)) 0) := by
    have hB := below_two w (.cells (ten (fun _ => 0)) 74) (.cells (ten (fun _ => 0)) 74)
    exact ⟨Keeps.of_below _ hB, h.far hB, heap_alloc2_old _ _ _, heap_alloc2_new _ _ _, hpl, hbl⟩
  clear h
  go_enter Try.func111, Try.ntmps111
  go_wp2_with fail
  go_loopw [5] (fun i wr => ∃ j : Nat, j ≤ 10 ∧ i = .int .i64 j ∧ DirAt p b o c k l w wr j) (fun i _ => 10 - (intOf i).toNat)
  case atStart => exact ⟨0, Nat.zero_le _, rfl, H0.out⟩
  case round =>
    clear H0
    obtain ⟨j, hj, rfl, hd⟩ := hrel
    by_cases hlt : j < 10
    · have hlt' : (j : Int) < 10 := by omega
      have hn := rnum4 p b o c (k + 4 * j) l wr hd.rd (by omega) (by omega)
      have HD := Hid.mk hd
      clear hd
      go_wp2_with fail
      refine hn.mono ?_
      rintro e w2 ⟨rfl, hr2, hk2⟩
      obtain ⟨hc, hf, hnx⟩ := HD.out.next hlt hk2 hr2
      have HN := Hid.mk hnx
      clear hn hr2 hk2 HD hnx
      go_wp2
      go_roundw
      case rel => exact ⟨j + 1, by omega, by go_num, HN.out⟩
      case measure => simp [intOf]; omega
    · have hlt' : ¬ (j : Int) < 10 := by omega
      have hj10 : j = 10 := by omega
      subst hj10
      have hbox := hd.box
      have hsame : dirL (fun i => if i < 10 then ((u32 l (k + 4 * i) : Nat) : Int) else 0) = dirL (fun i => ((u32 l (k + 4 * i) : Nat) : Int)) := by
        unfold dirL
        apply List.map_congr_left
        intro i hi
        show Value.int .i64 (if i < 10 then ((u32 l (k + 4 * i) : Nat) : Int) else 0) = _
        rw [if_pos (List.mem_range.1 hi)]
      rw [hsame] at hbox
      have hra := range_of hbox
      have hth : wr.there w.heap.size 0 (dirL (fun i => ((u32 l (k + 4 * i) : Nat) : Int))).length := by
        intro i hi
        rw [dirL_len] at hi
        rw [Nat.zero_add]
        exact ⟨by rw [cell_of_block hd.out (dirL_at _ i hi)]; rfl, frozen_of_block hd.out i⟩
      have hinfo := infoDir (fun i => ((u32 l (k + 4 * i) : Nat) : Int))
      have hone := dirL_one (fun i => ((u32 l (k + 4 * i) : Nat) : Int))
      have hrd : Hid (∀ vs : List Value, Rd (wr.setCells w.heap.size 0 vs) p b o c (k + 40) l) := fun vs => by
        have hk := Keeps.setCells (F := fun j => j = w.heap.size) rfl vs 0 wr
        have hpl2 : p < wr.heap.size := (Array.getElem?_eq_some_iff.1 hd.rd.rd).1
        have hbl2 : b < wr.heap.size := hd.rd.old (by omega)
        exact ⟨(hk.block p hpl2 (by omega)).trans hd.rd.rd, hd.rd.ne, fun i hi => (World.cell?_of_block (w := wr) (a := ⟨b, o + i, none⟩) (hk.block b hbl2 (by omega))).trans (hd.rd.src i hi), hd.rd.bytes, hd.rd.small, hd.rd.cap, hd.rd.huge, fun _ => by rw [size_setCells]; exact hbl2⟩
      have hkp : Hid (∀ vs : List Value, Keeps (fun j => j = p) w (wr.setCells w.heap.size 0 vs)) := fun vs => by
        have hk := Keeps.setCells (F := fun j => j = w.heap.size) rfl vs 0 wr
        exact ⟨hk.os.trans hd.kp.os, hk.tape.trans hd.kp.tape, hk.output.trans hd.kp.output, Nat.le_trans hd.kp.size hk.size, fun q hq hne => (hk.block q (Nat.lt_of_lt_of_le hq hd.kp.size) (by omega)).trans (hd.kp.block q hq hne)⟩
      generalize hF : dirL (fun i => ((u32 l (k + 4 * i) : Nat) : Int)) = F at *
      have HF := Hid.mk hF
      clear hF
      have hrs := Hid.mk (World.rangeAt_setCells_same wr w.heap.size 0 F hth)
      have hall := all_oneCell_toArray hone
      clear hd hone hbox hsame
      go_wp2_with (first | refine wpList_load_mid rfl 74 _ rfl (w.heap.size + 1) 0 rfl F _ hra Try.underlying74 rfl hinfo ?_ | refine wpList_store_mid rfl 74 _ _ rfl w.heap.size 0 F.toArray rfl rfl ?h1 ?h2 hall ?_)
      exact bodyPost_ret (results_cell_mid (P := Try.prog) rfl _ _ w.heap.size F _ rfl hrs.out Try.underlying74 rfl hinfo) rfl ⟨by rw [HF.out], hrd.out _, hkp.out _⟩
end Go.Proofs.Ytkkmkogpbhcpmaa
