import Derived.Test.YtkkmkogpbhcpmaaKNodW
namespace Go.Proofs.Ytkkmkogpbhcpmaa
open Go.RowKit

set_option maxRecDepth 20000 in
set_option maxHeartbeats 4000000 in
theorem decnode_len (a : Option Addr) (n c : Nat) (w : World) (hn : n ≠ 128) (_hb : n ≤ 140737488355328) :
    Calls Try.prog 45 #[.slice a n c] w fun e w' => e = .returned (.tuple #[nd0, .int .i64 2]) ∧ Below w.heap.size w w' := by
  have hne : ((n : Int) != 128) = true := by rw [bne_iff_ne]; omega
  have hmf : ∀ (fn : Fn) (first cap : Array Value) (w : World), (Instr.makeFunc fn first cap).run Try.prog w = .ok (.func fn first cap) w := fun _ _ _ _ => rfl
  have hbx := boxes_new w
  obtain ⟨w1, hw1⟩ : ∃ w1, w1 = (w.alloc (.cells (ndc 0 0 0 0 0 (fun _ => 0)) 76)).alloc (.cells #[.int .i64 0] 32) := ⟨_, rfl⟩
  rw [← hw1] at hbx
  obtain ⟨F, hF⟩ : ∃ F, F = nl0 := ⟨_, rfl⟩
  have hlen : F.length = 17 := by rw [hF]; rfl
  have hth : w1.there w.heap.size 0 F.length := by rw [hlen]; exact there_node hbx.node rfl
  have hall : F.toArray.all (·.oneCell') = true := by rw [hF]; exact all_oneCell_toArray (nl_one 0 0 0 0 0 (fun _ => 0))
  have hinf : (Try.prog.info? 76).map (·.size) = some F.length := by rw [hlen]; exact infoNode
  have d0 := cell_puts (g := w.heap.size + 1) (h := w.heap.size) (i := 0) (by omega) (cell_of_block hbx.err (j := 0) (u := .int .i64 0) rfl) (Array.getElem?_eq_some_iff.1 hbx.err).1 0 F
  have e0 := frozen_puts (g := w.heap.size + 1) (h := w.heap.size) (i := 0) (by omega) hbx.err 0 F
  have HF := Hid.mk hF
  clear hF hlen
  rw [hw1] at hth d0 e0
  have HX := Hid.mk hbx
  clear hbx
  go_enter_defers Try.func45, Try.ntmps45
  go_wp2_with (refine wpList_store_mid rfl 76 _ _ rfl w.heap.size 0 F.toArray rfl (by rw [HF.out]; rfl) ?h1 ?h2 hall ?_)
  case h1 => exact hth
  case h2 => simpa using hinf
  rw [← hw1]
  rw [HF.out]
  simp only [bodyPostD]
  exact leave_ok HX.out 0 0 0 0 0 (fun _ => 0) 2 _ _ rfl rfl (fun w' hb => ⟨rfl, hb⟩)

set_option maxRecDepth 20000 in
set_option maxHeartbeats 4000000 in
theorem decnode_zero (b o c : Nat) (l : List Int) (w : World) (hl : l.length = 128) (_hc : 128 ≤ c) (_hcc : c ≤ 9223372036854775807) (_hb : Bytes l) (hs : ∀ i, i < 128 → w.cell? ⟨b, o + i, none⟩ = some (.int .u8 (l.getD i 0))) (hz : Zeros l) :
    Calls Try.prog 45 #[.slice (some ⟨b, o, none⟩) 128 c] w fun e w' => e = .returned (.tuple #[nd0, .int .i64 0]) ∧ Below w.heap.size w w' := by
  have hmf : ∀ (fn : Fn) (first cap : Array Value) (w : World), (Instr.makeFunc fn first cap).run Try.prog w = .ok (.func fn first cap) w := fun _ _ _ _ => rfl
  have hbx := boxes_new w
  obtain ⟨w1, hw1⟩ : ∃ w1, w1 = (w.alloc (.cells (ndc 0 0 0 0 0 (fun _ => 0)) 76)).alloc (.cells #[.int .i64 0] 32) := ⟨_, rfl⟩
  rw [← hw1] at hbx
  have hem := empty_low b o 128 c l w1 hl (by omega) (fun i hi => cell_later hbx.below (hs i hi))
  have HZ := Hid.mk hz
  have HX := Hid.mk hbx
  clear hs hz hbx
  go_enter_defers Try.func45, Try.ntmps45
  go_wp2_with fail
  rw [← hw1]
  clear hw1
  refine hem.mono ?_
  rintro e wx ⟨⟨x, rfl, hx⟩, hw⟩
  have hw' := hw.symm
  subst hw'
  clear hw hem
  have hx' : x = true := hx.2 HZ.out
  subst hx'
  clear hx
  have hbx := HX.out
  obtain ⟨F, hF⟩ : ∃ F, F = nl0 := ⟨_, rfl⟩
  have hlen : F.length = 17 := by rw [hF]; rfl
  have hth : w1.there w.heap.size 0 F.length := by rw [hlen]; exact there_node hbx.node rfl
  have hall : F.toArray.all (·.oneCell') = true := by rw [hF]; exact all_oneCell_toArray (nl_one 0 0 0 0 0 (fun _ => 0))
  have hinf : (Try.prog.info? 76).map (·.size) = some F.length := by rw [hlen]; exact infoNode
  have d0 := cell_puts (g := w.heap.size + 1) (h := w.heap.size) (i := 0) (by omega) (cell_of_block hbx.err (j := 0) (u := .int .i64 0) rfl) (Array.getElem?_eq_some_iff.1 hbx.err).1 0 F
  have e0 := frozen_puts (g := w.heap.size + 1) (h := w.heap.size) (i := 0) (by omega) hbx.err 0 F
  have HF := Hid.mk hF
  clear hF hlen
  clear hbx
  go_wp2_with (refine wpList_store_mid rfl 76 _ _ rfl w.heap.size 0 F.toArray rfl (by rw [HF.out]; rfl) ?h1 ?h2 hall ?_)
  case h1 => exact hth
  case h2 => simpa using hinf
  rw [HF.out]
  simp only [bodyPostD]
  exact leave_ok HX.out 0 0 0 0 0 (fun _ => 0) 0 _ _ rfl rfl (fun w' hb => ⟨rfl, hb⟩)

/-- A node's bytes are right (of one that is not empty). -/
def NodeOk (l : List Int) : Prop := SumOk l ∧ NodOk (part l 0 124)
/-- What DecodeNode answers to bytes that are not all zeros. -/
def DecN (l : List Int) (e : Ending) : Prop := (NodeOk l ∧ e = .returned (.tuple #[ndOf (part l 0 124), .int .i64 0])) ∨ (¬ NodeOk l ∧ e = .returned (.tuple #[nd0, .int .i64 6]))

theorem leave_no {w w1 : World} (h : Boxes w w1) (tmps : Array Value) (R : Ending → World → Prop) (d : Deferred) (fv : Fn) (cap dargs : Array Value) (hd : d = ⟨.fn fv cap, dargs⟩)
    (hi : (invoke (.fn fv cap) dargs).run Try.prog w1 = .ok (.enter 83 #[.pointer (some ⟨w.heap.size, 0, none⟩), .pointer (some ⟨w.heap.size + 1, 0, none⟩)]) w1)
    (h0 : tmps.getD 2 undef = .pointer (some ⟨w.heap.size, 0, none⟩)) (h1 : tmps.getD 3 undef = .pointer (some ⟨w.heap.size + 1, 0, none⟩))
    (hR : ∀ w', Below w.heap.size w w' → R (.returned (.tuple #[nd0, .int .i64 6])) w') :
    Leaves Try.prog Try.f45 tmps R [d] (.panicking gaveUp) w1 := by
  subst hd
  refine leaves_cons (f := 83) (args := #[.pointer (some ⟨w.heap.size, 0, none⟩), .pointer (some ⟨w.heap.size + 1, 0, none⟩)]) (by simp) hi ?_
  refine (ncatch_panic w.heap.size (w.heap.size + 1) _ _ _ h.node rfl h.err (by omega)).mono ?_
  rintro e u' w'' ⟨rfl, rfl, rfl⟩
  exact leave_ok h 0 0 0 0 0 (fun _ => 0) 6 _ _ h0 h1 hR

set_option maxRecDepth 20000 in
set_option maxHeartbeats 8000000 in
theorem decnode_some (b o c : Nat) (l : List Int) (w : World) (hl : l.length = 128) (hc : 128 ≤ c) (hcc : c ≤ 9223372036854775807) (hb : Bytes l) (hs : ∀ i, i < 128 → w.cell? ⟨b, o + i, none⟩ = some (.int .u8 (l.getD i 0))) (hz : ¬ Zeros l) :
    Calls Try.prog 45 #[.slice (some ⟨b, o, none⟩) 128 c] w fun e w' => DecN l e ∧ Below w.heap.size w w' := by
  have hmf : ∀ (fn : Fn) (first cap : Array Value) (w : World), (Instr.makeFunc fn first cap).run Try.prog w = .ok (.func fn first cap) w := fun _ _ _ _ => rfl
  have hbx := boxes_new w
  obtain ⟨w1, hw1⟩ : ∃ w1, w1 = (w.alloc (.cells (ndc 0 0 0 0 0 (fun _ => 0)) 76)).alloc (.cells #[.int .i64 0] 32) := ⟨_, rfl⟩
  rw [← hw1] at hbx
  have hem := empty_low b o 128 c l w1 hl (by omega) (fun i hi => cell_later hbx.below (hs i hi))
  have hsrc1 : ∀ i, i < 128 → w1.cell? ⟨b, o + i, none⟩ = some (.int .u8 (l.getD i 0)) := fun i hi => cell_later hbx.below (hs i hi)
  have Hsrc := Hid.mk hsrc1
  have HZ := Hid.mk hz
  have HX := Hid.mk hbx
  clear hs hz hbx hsrc1
  go_enter_defers Try.func45, Try.ntmps45
  go_wp2_with fail
  rw [← hw1]
  clear hw1
  refine hem.mono ?_
  rintro e wx ⟨⟨x, rfl, hx⟩, hw⟩
  have hw' := hw.symm
  subst hw'
  clear hw hem
  have hx' : x = false := by
    cases x with
    | false => rfl
    | true => exact absurd (hx.1 rfl) HZ.out
  subst hx'
  clear hx
  by_cases h1 : SumOk l
  · have hsm := summed_ok b o 128 c l w1 hl (by omega) (by omega) hc hcc hb Hsrc.out h1
    have HS := Hid.mk h1
    clear h1 Hsrc
    go_wp2_with fail
    refine hsm.mono ?_
    rintro e w2 ⟨p, rfl, hp, hrd, hb2⟩
    have hrs := readnode_any p b o c (part l 0 124) w2 hrd (part_len (by omega)) (by omega)
    have HX2 := Hid.mk (HX.out.far hb2)
    have hp2 : w.heap.size + 2 ≤ p := Nat.le_trans HX.out.lt hp
    clear hsm hrd hb2
    go_wp2_with fail
    refine hrs.mono ?_
    rintro e w3 ⟨hout, hk3⟩
    have HX3 := Hid.mk (HX2.out.keep hk3 hp2)
    clear hrs hk3 HX2 HX
    rcases hout with ⟨hok, rfl⟩ | ⟨hno, rfl⟩
    · have HO : Hid (NodeOk l) := ⟨HS.out, hok⟩
      clear hok HS
      have hbx := HX3.out
      generalize hq : part l 0 124 = q at *
      obtain ⟨F, hF⟩ : ∃ F, F = (ndl ((u8 q 0 : Nat) : Int) ((u16 q 2 : Nat) : Int) ((u32 q 4 : Nat) : Int) (s64 q 8) ((u32 q 16 : Nat) : Int) (fun i => ((u32 q (24 + 4 * i) : Nat) : Int))) := ⟨_, rfl⟩
      have hlen : F.length = 17 := by rw [hF]; rfl
      have hth : w3.there w.heap.size 0 F.length := by rw [hlen]; exact there_node hbx.node rfl
      have hall : F.toArray.all (·.oneCell') = true := by rw [hF]; exact all_oneCell_toArray (nl_one ((u8 q 0 : Nat) : Int) ((u16 q 2 : Nat) : Int) ((u32 q 4 : Nat) : Int) (s64 q 8) ((u32 q 16 : Nat) : Int) (fun i => ((u32 q (24 + 4 * i) : Nat) : Int)))
      have hinf : (Try.prog.info? 76).map (·.size) = some F.length := by rw [hlen]; exact infoNode
      have d0 := cell_puts (g := w.heap.size + 1) (h := w.heap.size) (i := 0) (by omega) (cell_of_block hbx.err (j := 0) (u := .int .i64 0) rfl) (Array.getElem?_eq_some_iff.1 hbx.err).1 0 F
      have e0 := frozen_puts (g := w.heap.size + 1) (h := w.heap.size) (i := 0) (by omega) hbx.err 0 F
      have HF := Hid.mk hF
      clear hF hlen
      clear hbx
      go_wp2_with (refine wpList_store_mid rfl 76 _ _ rfl w.heap.size 0 F.toArray rfl (by rw [HF.out]; rfl) ?h1 ?h2 hall ?_)
      case h1 => exact hth
      case h2 => simpa using hinf
      refine leaves_cons (f := 83) (args := #[.pointer (some ⟨w.heap.size, 0, none⟩), .pointer (some ⟨w.heap.size + 1, 0, none⟩)]) (by simp) (by simp [go_sem]) ?_
      refine (ncatch_idle _ _ _).mono ?_
      rintro e u' w'' ⟨rfl, rfl, rfl⟩
      rw [HF.out]
      exact leave_ok HX3.out ((u8 q 0 : Nat) : Int) ((u16 q 2 : Nat) : Int) ((u32 q 4 : Nat) : Int) (s64 q 8) ((u32 q 16 : Nat) : Int) (fun i => ((u32 q (24 + 4 * i) : Nat) : Int)) 0 _ _ rfl rfl (fun w' hb => ⟨.inl ⟨HO.out, by rw [hq]⟩, hb⟩)
    · have HO : Hid (¬ NodeOk l) := fun h => hno h.2
      clear hno HS
      go_wp2
      exact leave_no HX3.out _ _ _ _ _ _ rfl (by simp [go_sem]) rfl rfl (fun w' hb => ⟨.inr ⟨HO.out, rfl⟩, hb⟩)
  · have hsm := summed_no b o 128 c l w1 hl (by omega) (by omega) hc hcc hb Hsrc.out h1
    have HO : Hid (¬ NodeOk l) := fun h => h1 h.1
    clear h1 Hsrc
    go_wp2_with fail
    refine hsm.mono ?_
    rintro e w2 ⟨rfl, hb2⟩
    have HX2 := Hid.mk (HX.out.far hb2)
    clear hsm hb2 HX
    go_wp2
    exact leave_no HX2.out _ _ _ _ _ _ rfl (by simp [go_sem]) rfl rfl (fun w' hb => ⟨.inr ⟨HO.out, rfl⟩, hb⟩)
end Go.Proofs.Ytkkmkogpbhcpmaa
