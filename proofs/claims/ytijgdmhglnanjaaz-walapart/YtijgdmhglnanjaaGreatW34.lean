import Derived.Test.YtijgdmhglnanjaaGreatW33
import Derived.ProofKit
import Derived.OpenShut
import Derived.ShutString
import Derived.ChangeOld
import Derived.SizedLaws
import Derived.Deep.Slices
section
namespace Go.Proofs.YtijgdmhglnanjaaGreat
open Go.RowKit

theorem PSrc.avoid {w w' : World} {a : Option Addr} {n : Nat} {l : List P3} {F : Nat → Prop} (h : PSrc w a n l) (hk : Keeps F w w') (ha : ∀ x, a = some x → 0 < n → ¬ F x.block) : PSrc w' a n l := by
  by_cases h0 : n = 0
  · exact ⟨h.1, h.2.1, fun x hx i hi => by have := h.1; omega, h.2.2.2⟩
  · exact h.keeps hk (fun x hx => ha x hx (by omega))

section
variable {w : World} {q p r s t : Nat} {lab : Nat → Nat} {S : DS} {v u : Value} {ps rs : List Nat} {ls : List LG} {A B : Int} {da pa : Option Addr} {dn dc pn pc : Nat} {d : List Int} {pl : List P3}

set_option maxRecDepth 20000 in
set_option maxHeartbeats 8000000 in
theorem step_take (h : Wd w q lab p r s S S v u ps rs ls ls) (hi : Inv S s ls t) (ht : t ≤ 1000000000000000000) (ho : OpOk4 w lab A da dn dc pa pn d pl) (_hlen : (ls.length + 1) * 8 ≤ 140737488355328) :
    Calls Tryz.prog 10 #[ptrL q, .agg (opD 11 A B da dn dc pa pn pc)] w fun e w' => e = .returned (.bool true) ∧ StepOut w w' q lab p r s (ls.length + 1) (t + 1) := by
  have hb0 := below_box w (.cells (opD 11 A B da dn dc pa pn pc) 37)
  have h0 := h.later hb0
  have hn0 : (w.alloc (.cells (opD 11 A B da dn dc pa pn pc) 37)).heap[w.heap.size]? = some (.cells (opD 11 A B da dn dc pa pn pc) 37 (0, 0)) := heap_alloc_new _ _
  have hlz := h.lz w.heap.size (Nat.le_refl _)
  have k0 := cell_of_block hn0 (j := 0) rfl
  have kA := cell_of_block hn0 (j := 1) rfl
  have kB := cell_of_block hn0 (j := 2) rfl
  have kD := cell_of_block hn0 (j := 3) rfl
  have kP := cell_of_block hn0 (j := 4) rfl
  have c0 := h0.c0
  have c1 := h0.c1
  have HI := Hid.mk hi
  have HO := Hid.mk ho
  have HB0 := Hid.mk hb0
  have HN0 := Hid.mk hn0
  have HW0 := Hid.mk h0
  have hsz : w.heap.size < (w.alloc (.cells (opD 11 A B da dn dc pa pn pc) 37)).heap.size := lt_there hn0
  have hz0 := hb0.size
  clear h hi ho hn0 hb0 h0
  go_enter Tryz.func10, Tryz.ntmps10
  have h1 := dlife HW0.out.d
  have h2 := wTake HW0.out
  have HX := Hid.mk (HI.out.take ht)
  have hwl := wrap_life HI.out.l0 HI.out.lt ht
  have hl0 := HI.out.l0
  have hlt := HI.out.lt
  rw [hwl] at h2
  go_wp2_with fail
  refine h1.mono ?_
  rintro e w1 ⟨rfl, hw1⟩
  have hw1' := hw1.symm
  clear hw1
  subst hw1'
  clear h1
  go_wp2_with fail
  refine h2.mono ?_
  rintro e w2 ⟨rfl, hw2, hk2⟩
  have h3 := rwTake hw2
  have c1' := hw2.c1
  have HK2 := Hid.mk hk2
  clear h2 hw2 hk2
  go_wp2_with fail
  refine h3.mono ?_
  rintro e w3 ⟨rfl, hw3, hk3⟩
  have HF : Hid (StepOut w w3 q lab p r s (ls.length + 1) (t + 1)) := hw3.stepOut HX.out (Nat.le_succ _) ((Kept.later lab HB0.out).trans (HK2.out.trans hk3))
  clear h3 hw3 hk3
  go_wp2
  go_ret
  exact ⟨by simp, HF.out⟩

set_option maxRecDepth 20000 in
set_option maxHeartbeats 8000000 in
theorem step_look (h : Wd w q lab p r s S S v u ps rs ls ls) (hi : Inv S s ls t) (_ht : t ≤ 1000000000000000000) (ho : OpOk4 w lab A da dn dc pa pn d pl) (_hlen : (ls.length + 1) * 8 ≤ 140737488355328) :
    Calls Tryz.prog 10 #[ptrL q, .agg (opD 12 A B da dn dc pa pn pc)] w fun e w' => e = .returned (.bool true) ∧ StepOut w w' q lab p r s (ls.length + 1) (t + 1) := by
  have hb0 := below_box w (.cells (opD 12 A B da dn dc pa pn pc) 37)
  have h0 := h.later hb0
  have hn0 : (w.alloc (.cells (opD 12 A B da dn dc pa pn pc) 37)).heap[w.heap.size]? = some (.cells (opD 12 A B da dn dc pa pn pc) 37 (0, 0)) := heap_alloc_new _ _
  have hlz := h.lz w.heap.size (Nat.le_refl _)
  have k0 := cell_of_block hn0 (j := 0) rfl
  have kA := cell_of_block hn0 (j := 1) rfl
  have kB := cell_of_block hn0 (j := 2) rfl
  have kD := cell_of_block hn0 (j := 3) rfl
  have kP := cell_of_block hn0 (j := 4) rfl
  have c0 := h0.c0
  have c1 := h0.c1
  have HI := Hid.mk hi
  have HO := Hid.mk ho
  have HB0 := Hid.mk hb0
  have HN0 := Hid.mk hn0
  have HW0 := Hid.mk h0
  have hsz : w.heap.size < (w.alloc (.cells (opD 12 A B da dn dc pa pn pc) 37)).heap.size := lt_there hn0
  have hz0 := hb0.size
  clear h hi ho hn0 hb0 h0
  go_enter Tryz.func10, Tryz.ntmps10
  have h1 := looks_any HW0.out.d HW0.out.e (fun k h1 h2 => by have : lab k = 1 := h1; have : lab k = 2 := h2; omega) HW0.out.box (by have := HW0.out.bq; show ¬ lab q = 1; omega) (by have := HI.out.p6; omega)
  go_wp2_with fail
  refine h1.mono ?_
  rintro e w1 ⟨rfl, hd1, hk1⟩
  have HF : Hid (StepOut w w1 q lab p r s (ls.length + 1) (t + 1)) := (HW0.out.disk0 hd1 hk1).stepOut HI.out.step (Nat.le_succ _) ((Kept.later lab HB0.out).trans (Kept.same hk1 (labF (by omega))))
  clear h1 hd1 hk1
  go_wp2
  go_ret
  exact ⟨rfl, HF.out⟩

set_option maxRecDepth 20000 in
set_option maxHeartbeats 8000000 in
theorem step_open (h : Wd w q lab p r s S S v u ps rs ls ls) (hi : Inv S s ls t) (ht : t ≤ 1000000000000000000) (ho : OpOk4 w lab A da dn dc pa pn d pl) (hlen : (ls.length + 1) * 8 ≤ 140737488355328) :
    Calls Tryz.prog 10 #[ptrL q, .agg (opD 2 A B da dn dc pa pn pc)] w fun e w' => e = .returned (.bool true) ∧ StepOut w w' q lab p r s (ls.length + 1) (t + 1) := by
  have hb0 := below_box w (.cells (opD 2 A B da dn dc pa pn pc) 37)
  have h0 := h.later hb0
  have hn0 : (w.alloc (.cells (opD 2 A B da dn dc pa pn pc) 37)).heap[w.heap.size]? = some (.cells (opD 2 A B da dn dc pa pn pc) 37 (0, 0)) := heap_alloc_new _ _
  have hlz := h.lz w.heap.size (Nat.le_refl _)
  have k0 := cell_of_block hn0 (j := 0) rfl
  have kA := cell_of_block hn0 (j := 1) rfl
  have kB := cell_of_block hn0 (j := 2) rfl
  have kD := cell_of_block hn0 (j := 3) rfl
  have kP := cell_of_block hn0 (j := 4) rfl
  have c0 := h0.c0
  have c1 := h0.c1
  have HI := Hid.mk hi
  have HO := Hid.mk ho
  have HB0 := Hid.mk hb0
  have HN0 := Hid.mk hn0
  have HW0 := Hid.mk h0
  have hsz : w.heap.size < (w.alloc (.cells (opD 2 A B da dn dc pa pn pc) 37)).heap.size := lt_there hn0
  have hz0 := hb0.size
  clear h hi ho hn0 hb0 h0
  go_enter Tryz.func10, Tryz.ntmps10
  have hop : Calls Tryz.prog 19 #[ptrL q, .agg (opD 2 A B da dn dc pa pn pc)] (w.alloc (.cells (opD 2 A B da dn dc pa pn pc) 37)) fun e w' => e = .returned (.bool true) ∧ StepOut (w.alloc (.cells (opD 2 A B da dn dc pa pn pc) 37)) w' q lab p r s (ls.length + 1) (t + 1) := by
    by_cases hP : (lopen S s A B).1 = 0
    · exact opens_yes HW0.out HI.out ht hP hlen
    · exact opens_no HW0.out HI.out ht hP
  go_wp2_with fail
  refine hop.mono ?_
  rintro e w1 ⟨rfl, lab', S', v', u', ps', rs', ls', a1, a2, a3, a4⟩
  have HF : Hid (StepOut w w1 q lab p r s (ls.length + 1) (t + 1)) := a1.stepOut a2 a3 ((Kept.later lab HB0.out).trans a4)
  clear hop a1 a2 a3 a4
  go_wp2
  go_ret
  exact ⟨rfl, HF.out⟩

set_option maxRecDepth 20000 in
set_option maxHeartbeats 8000000 in
theorem step_other (kd : Int) (h : Wd w q lab p r s S S v u ps rs ls ls) (hi : Inv S s ls t) (_ht : t ≤ 1000000000000000000) (ho : OpOk4 w lab A da dn dc pa pn d pl) (hlen : (ls.length + 1) * 8 ≤ 140737488355328) (hkd : kd ≠ 1 ∧ kd ≠ 2 ∧ kd ≠ 9 ∧ kd ≠ 10 ∧ kd ≠ 11 ∧ kd ≠ 12) :
    Calls Tryz.prog 10 #[ptrL q, .agg (opD kd A B da dn dc pa pn pc)] w fun e w' => e = .returned (.bool true) ∧ StepOut w w' q lab p r s (ls.length + 1) (t + 1) := by
  have hb0 := below_box w (.cells (opD kd A B da dn dc pa pn pc) 37)
  have h0 := h.later hb0
  have hn0 : (w.alloc (.cells (opD kd A B da dn dc pa pn pc) 37)).heap[w.heap.size]? = some (.cells (opD kd A B da dn dc pa pn pc) 37 (0, 0)) := heap_alloc_new _ _
  have hlz := h.lz w.heap.size (Nat.le_refl _)
  have k0 := cell_of_block hn0 (j := 0) rfl
  have kA := cell_of_block hn0 (j := 1) rfl
  have kB := cell_of_block hn0 (j := 2) rfl
  have kD := cell_of_block hn0 (j := 3) rfl
  have kP := cell_of_block hn0 (j := 4) rfl
  have c0 := h0.c0
  have c1 := h0.c1
  have HI := Hid.mk hi
  have HO := Hid.mk ho
  have HB0 := Hid.mk hb0
  have HN0 := Hid.mk hn0
  have HW0 := Hid.mk h0
  have hsz : w.heap.size < (w.alloc (.cells (opD kd A B da dn dc pa pn pc) 37)).heap.size := lt_there hn0
  have hz0 := hb0.size
  clear h hi ho hn0 hb0 h0
  go_enter Tryz.func10, Tryz.ntmps10
  have hop := onLog_any (B := B) (pc := pc) kd HW0.out HI.out (⟨HO.out.A, HO.out.s.later HB0.out, HO.out.b, HO.out.c, HO.out.n, HO.out.l, HO.out.p.later HB0.out, HO.out.pq, HO.out.pn⟩ : OpOk4 _ lab A da dn dc pa pn d pl) (by omega)
  have d1 : (kd == 1) = false := by rw [beq_eq_false_iff_ne]; exact hkd.1
  have d2 : (kd == 2) = false := by rw [beq_eq_false_iff_ne]; exact hkd.2.1
  have d9 : (kd == 9) = false := by rw [beq_eq_false_iff_ne]; exact hkd.2.2.1
  have d10 : (kd == 10) = false := by rw [beq_eq_false_iff_ne]; exact hkd.2.2.2.1
  have d11 : (kd == 11) = false := by rw [beq_eq_false_iff_ne]; exact hkd.2.2.2.2.1
  have d12 : (kd == 12) = false := by rw [beq_eq_false_iff_ne]; exact hkd.2.2.2.2.2
  clear hkd
  go_wp2_with fail
  refine hop.mono ?_
  rintro e w1 ⟨rfl, lab', S', v', u', ps', rs', ls', a1, a2, a3, a4⟩
  have HF : Hid (StepOut w w1 q lab p r s (ls.length + 1) (t + 1)) := a1.stepOut a2 a3 ((Kept.later lab HB0.out).trans a4)
  clear hop a1 a2 a3 a4
  go_wp2
  go_ret
  exact ⟨rfl, HF.out⟩

set_option maxRecDepth 20000 in
set_option maxHeartbeats 8000000 in
theorem step_fuse (h : Wd w q lab p r s S S v u ps rs ls ls) (hi : Inv S s ls t) (_ht : t ≤ 1000000000000000000) (ho : OpOk4 w lab A da dn dc pa pn d pl) (_hlen : (ls.length + 1) * 8 ≤ 140737488355328) :
    Calls Tryz.prog 10 #[ptrL q, .agg (opD 9 A B da dn dc pa pn pc)] w fun e w' => e = .returned (.bool true) ∧ StepOut w w' q lab p r s (ls.length + 1) (t + 1) := by
  have hb0 := below_box w (.cells (opD 9 A B da dn dc pa pn pc) 37)
  have h0 := h.later hb0
  have hn0 : (w.alloc (.cells (opD 9 A B da dn dc pa pn pc) 37)).heap[w.heap.size]? = some (.cells (opD 9 A B da dn dc pa pn pc) 37 (0, 0)) := heap_alloc_new _ _
  have hlz := h.lz w.heap.size (Nat.le_refl _)
  have k0 := cell_of_block hn0 (j := 0) rfl
  have kA := cell_of_block hn0 (j := 1) rfl
  have kB := cell_of_block hn0 (j := 2) rfl
  have kD := cell_of_block hn0 (j := 3) rfl
  have kP := cell_of_block hn0 (j := 4) rfl
  have c0 := h0.c0
  have c1 := h0.c1
  have HI := Hid.mk hi
  have HO := Hid.mk ho
  have HB0 := Hid.mk hb0
  have HN0 := Hid.mk hn0
  have HW0 := Hid.mk h0
  have hsz : w.heap.size < (w.alloc (.cells (opD 9 A B da dn dc pa pn pc) 37)).heap.size := lt_there hn0
  have hz0 := hb0.size
  clear h hi ho hn0 hb0 h0
  go_enter Tryz.func10, Tryz.ntmps10
  go_wp2_with fail
  generalize w.alloc (.cells (opD 9 A B da dn dc pa pn pc) 37) = w0 at *
  have hdr := below_drew (Below.refl w0.heap.size w0)
  have h1 := wFuse (HW0.out.later hdr) A HO.out.A
  have HDr := Hid.mk hdr
  clear hdr
  go_region_held3 (fun w' => w'.cell? ⟨q, 0, none⟩ = some (ptrL p) ∧ w'.cell? ⟨w.heap.size, 1, none⟩ = some (.int .i64 A))
    (first | exact ⟨c0, kA⟩ | exact ⟨c0', kA'⟩)
    ((go_at_call 20; refine h1.mono ?_; rintro e w1 ⟨rfl, hw1, hk1⟩; have c0' := hw1.c0; have hnw1 := (hk1.k.block w.heap.size hsz (fun h => h hlz)).trans ((HDr.out.block w.heap.size hsz).trans HN0.out); have kA' := cell_of_block hnw1 (j := 1) rfl))
  have c1' := hw1.c1
  have hz1 := hk1.k.size
  have HW1 := Hid.mk hw1
  have HN1 := Hid.mk hnw1
  have HK1 := Hid.mk hk1
  have hsz1 : w.heap.size < w1.heap.size := lt_there hnw1
  have hlz1 : lab w.heap.size = 0 := (hk1.o w.heap.size hsz).trans hlz
  have hdr1 := below_drew (Below.refl w1.heap.size w1)
  have h2 := rwFuse (hw1.later hdr1) A HO.out.A
  have HDr1 := Hid.mk hdr1
  clear h1 hw1 hk1 hnw1 c0 c1 c0' hdr1
  go_wp2_with fail
  go_region_held3 (fun w' => w'.cell? ⟨q, 1, none⟩ = some (ptrL r) ∧ w'.cell? ⟨w.heap.size, 1, none⟩ = some (.int .i64 A))
    (first | exact ⟨c1', kA'⟩ | exact ⟨c1'', kA''⟩)
    ((go_at_call 21; refine h2.mono ?_; rintro e w2 ⟨rfl, hw2, hk2⟩; have c1'' := hw2.c1; have hnw2 := (hk2.k.block w.heap.size hsz1 (fun h => h hlz1)).trans ((HDr1.out.block w.heap.size hsz1).trans HN1.out); have kA'' := cell_of_block hnw2 (j := 1) rfl))
  have HF : Hid (StepOut w w2 q lab p r s (ls.length + 1) (t + 1)) := hw2.stepOut (HI.out.lay A hw2.d.ok).step (Nat.le_succ _) ((Kept.later lab HB0.out).trans ((Kept.later lab HDr.out).trans (HK1.out.trans ((Kept.later lab HDr1.out).trans hk2))))
  clear h2 hw2 hk2
  go_wp2
  go_ret
  exact ⟨rfl, HF.out⟩

set_option maxRecDepth 20000 in
set_option maxHeartbeats 8000000 in
theorem step_format (h : Wd w q lab p r s S S v u ps rs ls ls) (hi : Inv S s ls t) (ht : t ≤ 1000000000000000000) (ho : OpOk4 w lab A da dn dc pa pn d pl) (_hlen : (ls.length + 1) * 8 ≤ 140737488355328) :
    Calls Tryz.prog 10 #[ptrL q, .agg (opD 1 A B da dn dc pa pn pc)] w fun e w' => e = .returned (.bool true) ∧ StepOut w w' q lab p r s (ls.length + 1) (t + 1) := by
  have hb0 := below_box w (.cells (opD 1 A B da dn dc pa pn pc) 37)
  have h0 := h.later hb0
  have hn0 : (w.alloc (.cells (opD 1 A B da dn dc pa pn pc) 37)).heap[w.heap.size]? = some (.cells (opD 1 A B da dn dc pa pn pc) 37 (0, 0)) := heap_alloc_new _ _
  have hlz := h.lz w.heap.size (Nat.le_refl _)
  have k0 := cell_of_block hn0 (j := 0) rfl
  have kA := cell_of_block hn0 (j := 1) rfl
  have kB := cell_of_block hn0 (j := 2) rfl
  have kD := cell_of_block hn0 (j := 3) rfl
  have kP := cell_of_block hn0 (j := 4) rfl
  have c0 := h0.c0
  have c1 := h0.c1
  have HI := Hid.mk hi
  have HO := Hid.mk ho
  have HB0 := Hid.mk hb0
  have HN0 := Hid.mk hn0
  have HW0 := Hid.mk h0
  have hsz : w.heap.size < (w.alloc (.cells (opD 1 A B da dn dc pa pn pc) 37)).heap.size := lt_there hn0
  have hz0 := hb0.size
  clear h hi ho hn0 hb0 h0
  go_enter Tryz.func10, Tryz.ntmps10
  have h8 := dlife HW0.out.d
  have h9 := rburnt_at HW0.out.e
  have HLi := Hid.mk (lives_format HI.out ht A B)
  obtain ⟨bf, hbf⟩ : ∃ bf, bf = (S.fuse == 0) := ⟨_, rfl⟩
  rw [← hbf] at h9
  have HBf := Hid.mk hbf
  clear hbf
  go_wp2_with fail
  refine h8.mono ?_
  rintro e w1 ⟨rfl, hw1⟩
  have hw1' := hw1.symm
  clear hw1
  subst hw1'
  clear h8
  go_wp2_with fail
  refine h9.mono ?_
  rintro e w1 ⟨rfl, hw1⟩
  have hw1' := hw1.symm
  clear hw1
  subst hw1'
  clear h9
  go_wp2_with fail
  generalize w.alloc (.cells (opD 1 A B da dn dc pa pn pc) 37) = w0 at *
  have hdr := below_drew (Below.refl w0.heap.size w0)
  have h1 := wFormat (HW0.out.later hdr) HI.out.byt HI.out.p6 A B
  have HDr := Hid.mk hdr
  clear hdr
  go_region_held3 (fun w' => w'.cell? ⟨q, 0, none⟩ = some (ptrL p) ∧ w'.cell? ⟨w.heap.size, 1, none⟩ = some (.int .i64 A) ∧ w'.cell? ⟨w.heap.size, 2, none⟩ = some (.int .i64 B))
    (first | exact ⟨c0, kA, kB⟩ | exact ⟨c0', kA', kB'⟩)
    ((go_at_call 16; refine h1.mono ?_; rintro e w1 ⟨rfl, hw1, hk1⟩; have c0' := hw1.c0; have hnw1 := (hk1.k.block w.heap.size hsz (fun h => h hlz)).trans ((HDr.out.block w.heap.size hsz).trans HN0.out); have kA' := cell_of_block hnw1 (j := 1) rfl; have kB' := cell_of_block hnw1 (j := 2) rfl))
  have c1' := hw1.c1
  have hz1 := hk1.k.size
  have HW1 := Hid.mk hw1
  have HN1 := Hid.mk hnw1
  have HK1 := Hid.mk hk1
  have hsz1 : w.heap.size < w1.heap.size := lt_there hnw1
  have hlz1 : (relab lab w0.drew.heap.size w1.heap.size 1) w.heap.size = 0 := (hk1.o w.heap.size hsz).trans hlz
  have hdr1 := below_drew (Below.refl w1.heap.size w1)
  have h2 := rwFormat (hw1.later hdr1) HI.out.byt HI.out.p6 A B
  have HDr1 := Hid.mk hdr1
  clear h1 hw1 hk1 hnw1 c0 c1 c0' hdr1
  go_wp2_with fail
  go_region_held3 (fun w' => w'.cell? ⟨q, 1, none⟩ = some (ptrL r) ∧ w'.cell? ⟨w.heap.size, 1, none⟩ = some (.int .i64 A) ∧ w'.cell? ⟨w.heap.size, 2, none⟩ = some (.int .i64 B))
    (first | exact ⟨c1', kA', kB'⟩ | exact ⟨c1'', kA'', kB''⟩)
    ((go_at_call 17; refine h2.mono ?_; rintro e w2 ⟨rfl, hw2, hk2⟩; have c1'' := hw2.c1; have hnw2 := (hk2.k.block w.heap.size hsz1 (fun h => h hlz1)).trans ((HDr1.out.block w.heap.size hsz1).trans HN1.out); have kA'' := cell_of_block hnw2 (j := 1) rfl; have kB'' := cell_of_block hnw2 (j := 2) rfl))
  have HK2 : Hid (Kept w w2 lab (relab (relab lab w0.drew.heap.size w1.heap.size 1) w1.drew.heap.size w2.heap.size 2)) := (Kept.later lab HB0.out).trans ((Kept.later lab HDr.out).trans (HK1.out.trans ((Kept.later _ HDr1.out).trans hk2)))
  have HW2 := Hid.mk hw2
  have h3 := lives_any hw2.d hw2.c0 (lformat S s A B).1 S.life bf (by have := HLi.out; unfold LivesOk at this; rw [HBf.out]; exact this)
  have HF : Hid (StepOut w w2 q lab p r s (ls.length + 1) (t + 1)) := hw2.stepOut (HI.out.format ht A B hw2.d.ok) (Nat.le_succ _) HK2.out
  clear h2 hw2 hk2
  go_wp2_with fail
  refine h3.mono ?_
  rintro e w3 ⟨rfl, hw3⟩
  have hw3' := hw3.symm
  clear hw3
  subst hw3'
  go_wp2
  go_ret
  exact ⟨rfl, HF.out⟩

set_option maxRecDepth 20000 in
set_option maxHeartbeats 8000000 in
theorem step_crash (h : Wd w q lab p r s S S v u ps rs ls ls) (hi : Inv S s ls t) (ht : t ≤ 1000000000000000000) (ho : OpOk4 w lab A da dn dc pa pn d pl) (_hlen : (ls.length + 1) * 8 ≤ 140737488355328) :
    Calls Tryz.prog 10 #[ptrL q, .agg (opD 10 A B da dn dc pa pn pc)] w fun e w' => e = .returned (.bool true) ∧ StepOut w w' q lab p r s (ls.length + 1) (t + 1) := by
  have hb0 := below_box w (.cells (opD 10 A B da dn dc pa pn pc) 37)
  have h0 := h.later hb0
  have hn0 : (w.alloc (.cells (opD 10 A B da dn dc pa pn pc) 37)).heap[w.heap.size]? = some (.cells (opD 10 A B da dn dc pa pn pc) 37 (0, 0)) := heap_alloc_new _ _
  have hlz := h.lz w.heap.size (Nat.le_refl _)
  have k0 := cell_of_block hn0 (j := 0) rfl
  have kA := cell_of_block hn0 (j := 1) rfl
  have kB := cell_of_block hn0 (j := 2) rfl
  have kD := cell_of_block hn0 (j := 3) rfl
  have kP := cell_of_block hn0 (j := 4) rfl
  have c0 := h0.c0
  have c1 := h0.c1
  have HI := Hid.mk hi
  have HO := Hid.mk ho
  have HB0 := Hid.mk hb0
  have HN0 := Hid.mk hn0
  have HW0 := Hid.mk h0
  have hsz : w.heap.size < (w.alloc (.cells (opD 10 A B da dn dc pa pn pc) 37)).heap.size := lt_there hn0
  have hz0 := hb0.size
  clear h hi ho hn0 hb0 h0
  go_enter Tryz.func10, Tryz.ntmps10
  go_wp2_with fail
  generalize w.alloc (.cells (opD 10 A B da dn dc pa pn pc) 37) = w0 at *
  have hdr := below_drew (Below.refl w0.heap.size w0)
  have hps0 := (HO.out.p.later HB0.out).later hdr
  have h1 := twinp_any pa pn pc pl w0.drew HO.out.pn hps0
  have hpn := HO.out.pn
  have HPS := Hid.mk hps0
  have HDr := Hid.mk hdr
  clear hdr hps0
  go_region_held3 (fun w' => w'.cell? ⟨q, 0, none⟩ = some (ptrL p) ∧ w'.cell? ⟨w.heap.size, 4, none⟩ = some (.slice pa pn pc))
    (first | exact ⟨c0, kP⟩ | exact ⟨c0', kP'⟩ | exact ⟨c0'', kP''⟩)
    (first
      | (go_at_call 23; refine h1.mono ?_; rintro e w1 ⟨g, rfl, hg, hps1, hb1⟩; have hw1 := (HW0.out.later HDr.out).later hb1; have c0' := hw1.c0; have hn1 := (hb1.block w.heap.size hsz).trans ((HDr.out.block w.heap.size hsz).trans HN0.out); have kP' := cell_of_block hn1 (j := 4) rfl; have hlg : lab g = 0 := HW0.out.lz g hg)
      | (go_at_call 22; refine (wCrash hw1 HI.out.p6 (some ⟨g, 0, none⟩) pn pn pl hps1 (by omega) (fun x e => by cases e; exact hlg)).mono ?_; rintro e w2 ⟨rfl, hw2, hk2⟩; have c0'' := hw2.c0; have hsz1 : w.heap.size < w1.heap.size := lt_there hn1; have hn2 := (hk2.k.block w.heap.size hsz1 (fun h => h hlz)).trans hn1; have kP'' := cell_of_block hn2 (j := 4) rfl))
  have c1' := hw2.c1
  have hsz2 : w.heap.size < w2.heap.size := lt_there hn2
  have hps2 := (HPS.out.later hb1).avoid hk2.k (fun x e h h2 => h2 (HO.out.pq x e h))
  have hdr2 := below_drew (Below.refl w2.heap.size w2)
  have h2 := rwCrash (hw2.later hdr2) HI.out.p6 pa pn pc pl (hps2.later hdr2) (by omega)
  have HDr2 := Hid.mk hdr2
  have HN2 := Hid.mk hn2
  have HK2 : Hid (Kept w w2 lab lab) := (Kept.later lab HB0.out).trans ((Kept.later lab HDr.out).trans ((Kept.later lab hb1).trans hk2))
  clear h1 hw1 hb1 hps1 hps2 hw2 hk2 hn1 hn2 c0 c1 c0' c0'' kP kP' hdr2
  go_wp2_with fail
  go_region_held3 (fun w' => w'.cell? ⟨q, 1, none⟩ = some (ptrL r) ∧ w'.cell? ⟨w.heap.size, 4, none⟩ = some (.slice pa pn pc))
    (first | exact ⟨c1', kP''⟩ | exact ⟨c1'', kP3⟩)
    ((go_at_call 24; refine h2.mono ?_; rintro e w3 ⟨rfl, hw3, hk3⟩; have c1'' := hw3.c1; have hn3 := (hk3.k.block w.heap.size hsz2 (fun h => h hlz)).trans ((HDr2.out.block w.heap.size hsz2).trans HN2.out); have kP3 := cell_of_block hn3 (j := 4) rfl))
  have HF : Hid (StepOut w w3 q lab p r s (ls.length + 1) (t + 1)) := hw3.stepOut (HI.out.crash ht pl hw3.d.ok) (Nat.le_succ _) (HK2.out.trans ((Kept.later lab HDr2.out).trans hk3))
  clear h2 hw3 hk3
  go_wp2
  go_ret
  exact ⟨rfl, HF.out⟩

theorem step_any (kd : Int) (h : Wd w q lab p r s S S v u ps rs ls ls) (hi : Inv S s ls t) (ht : t ≤ 1000000000000000000) (ho : OpOk4 w lab A da dn dc pa pn d pl) (hlen : (ls.length + 1) * 8 ≤ 140737488355328) :
    Calls Tryz.prog 10 #[ptrL q, .agg (opD kd A B da dn dc pa pn pc)] w fun e w' => e = .returned (.bool true) ∧ StepOut w w' q lab p r s (ls.length + 1) (t + 1) := by
  by_cases k1 : kd = 1
  · subst k1; exact step_format h hi ht ho hlen
  · by_cases k2 : kd = 2
    · subst k2; exact step_open h hi ht ho hlen
    · by_cases k9 : kd = 9
      · subst k9; exact step_fuse h hi ht ho hlen
      · by_cases k10 : kd = 10
        · subst k10; exact step_crash h hi ht ho hlen
        · by_cases k11 : kd = 11
          · subst k11; exact step_take h hi ht ho hlen
          · by_cases k12 : kd = 12
            · subst k12; exact step_look h hi ht ho hlen
            · exact step_other kd h hi ht ho hlen ⟨k1, k2, k9, k10, k11, k12⟩
end
end Go.Proofs.YtijgdmhglnanjaaGreat
end

section
namespace Go.Proofs.YtijgdmhglnanjaaGreat
open Go.ChangeShapes Go.WideShapes Go.ChangeAt Go.RowKit Go.Deep

theorem bytesPick : Tryz.prog.bytesOf 89 = 24 := by kernel_rfl
theorem bytesOp4 : Tryz.prog.bytesOf 37 = 72 := by kernel_rfl
theorem cellsPicks : Tryz.prog.cellsOf 35 = 1 := by kernel_rfl
theorem cellsPick : Tryz.prog.cellsOf 89 = 3 := by kernel_rfl
theorem cellsOp4 : Tryz.prog.cellsOf 37 = 5 := by kernel_rfl

/-- What is told of an operation of the script. -/
structure OpIn (w : World) (B : Nat) (A : Int) (da : Option Addr) (dn dc : Nat) (pa : Option Addr) (pn : Nat) (d : List Int) (pl : List P3) : Prop where
  A : A ≤ 9223372036854775807
  s : Src w da dn d
  b : Bytes d
  c : dn ≤ dc
  n : dn ≤ 140737488355328
  l : ∀ y, da = some y → 0 < dn → y.block < B
  p : PSrc w pa pn pl
  pq : ∀ y, pa = some y → 0 < pn → y.block < B
  pn : 24 * pn ≤ 140737488355328
theorem OpIn.far {w w' : World} {B : Nat} {A : Int} {da : Option Addr} {dn dc : Nat} {pa : Option Addr} {pn : Nat} {d : List Int} {pl : List P3} (h : OpIn w B A da dn dc pa pn d pl) (hb : Below B w w') : OpIn w' B A da dn dc pa pn d pl :=
  ⟨h.A, h.s.far hb h.l, h.b, h.c, h.n, h.l, h.p.far hb h.pq, h.pq, h.pn⟩
theorem OpIn.ok {w : World} {B : Nat} {lab : Nat → Nat} {A : Int} {da : Option Addr} {dn dc : Nat} {pa : Option Addr} {pn : Nat} {d : List Int} {pl : List P3} (h : OpIn w B A da dn dc pa pn d pl) (hl : ∀ k, k < B → lab k = 0) : OpOk4 w lab A da dn dc pa pn d pl :=
  ⟨h.A, h.s, h.b, h.c, h.n, fun y e hp => hl _ (h.l y e hp), h.p, fun y e hp => hl _ (h.pq y e hp), h.pn⟩
/-- A script: its operations lie below B, and so do their lists. -/
def Script4 (w : World) (B : Nat) (sa : Option Addr) (n : Nat) : Prop :=
  (sa = none → n = 0) ∧ ∀ y, sa = some y → ∀ i, i < n → ∃ b o, y = ⟨b, o, none⟩ ∧ b < B ∧ ∃ kd A B' da dn dc pa pn pc d pl,
    w.cell? ⟨b, o + i * 5, none⟩ = some (.int .i64 kd) ∧ w.cell? ⟨b, o + i * 5 + 1, none⟩ = some (.int .i64 A) ∧ w.cell? ⟨b, o + i * 5 + 2, none⟩ = some (.int .i64 B') ∧ w.cell? ⟨b, o + i * 5 + 3, none⟩ = some (.slice da dn dc) ∧ w.cell? ⟨b, o + i * 5 + 4, none⟩ = some (.slice pa pn pc) ∧ OpIn w B A da dn dc pa pn d pl
theorem Script4.far {w w' : World} {B : Nat} {sa : Option Addr} {n : Nat} (h : Script4 w B sa n) (hb : Below B w w') : Script4 w' B sa n := by
  refine ⟨h.1, fun y hy i hi => ?_⟩
  obtain ⟨b, o, rfl, hbB, kd, A, B', da, dn, dc, pa, pn, pc, d, pl, c0, c1, c2, c3, c4, ho⟩ := h.2 y hy i hi
  have e := hb.block b hbB
  exact ⟨b, o, rfl, hbB, kd, A, B', da, dn, dc, pa, pn, pc, d, pl, (World.cell?_of_block (w := w) (a := ⟨b, _, none⟩) e).trans c0, (World.cell?_of_block (w := w) (a := ⟨b, _, none⟩) e).trans c1, (World.cell?_of_block (w := w) (a := ⟨b, _, none⟩) e).trans c2, (World.cell?_of_block (w := w) (a := ⟨b, _, none⟩) e).trans c3, (World.cell?_of_block (w := w) (a := ⟨b, _, none⟩) e).trans c4, ho.far hb⟩

section
variable {H : Type} {enc : TypeId × Value → H} {W : World} {base : Nat} {spare : Nat → Bool} {held : Bool}

theorem trod5o {P : Program} {e : TypeId} {f0 f1 f2 f3 f4 : Field} {n : Nat} {cs : List Value} {x : DataW H × List MemPlace} (he : P.underlying e = some (.struct #[f0, f1, f2, f3, f4])) (ce : P.cellsOf e = 5) (o0 : f0.offset = 0) (o1 : f1.offset = 1) (o2 : f2.offset = 2) (o3 : f3.offset = 3) (o4 : f4.offset = 4)
    (c0 : P.cellsOf f0.type = 1) (c1 : P.cellsOf f1.type = 1) (c2 : P.cellsOf f2.type = 1) (c3 : P.cellsOf f3.type = 1) (c4 : P.cellsOf f4.type = 1) (h : DataW.trod enc P W base spare held n e cs = some x) :
    ∃ v0 v1 v2 v3 v4 y0 y1 y2 y3 y4 k, cs = [v0, v1, v2, v3, v4] ∧ x.1 = .agg [y0.1, y1.1, y2.1, y3.1, y4.1] ∧ DataW.trod enc P W base spare held k f0.type [v0] = some y0 ∧ DataW.trod enc P W base spare held k f1.type [v1] = some y1 ∧ DataW.trod enc P W base spare held k f2.type [v2] = some y2 ∧ DataW.trod enc P W base spare held k f3.type [v3] = some y3 ∧ DataW.trod enc P W base spare held k f4.type [v4] = some y4 ∧ (∀ m ∈ y3.1.weights P f3.type, m ∈ x.1.weights P e) ∧ (∀ m ∈ y4.1.weights P f4.type, m ∈ x.1.weights P e) := by
  obtain ⟨xs, k, _, hxy, hlen, hxl, hf⟩ := DataW.trod_struct he h
  rw [ce] at hlen
  match xs, hxl, cs, hlen with
  | [y0, y1, y2, y3, y4], _, [v0, v1, v2, v3, v4], _ =>
    have g0 := hf 0 f0 rfl
    have g1 := hf 1 f1 rfl
    have g2 := hf 2 f2 rfl
    have g3 := hf 3 f3 rfl
    have g4 := hf 4 f4 rfl
    simp [o0, o1, o2, o3, o4, c0, c1, c2, c3, c4] at g0 g1 g2 g3 g4
    have ex : x.1 = .agg [y0.1, y1.1, y2.1, y3.1, y4.1] := by rw [hxy]; rfl
    refine ⟨v0, v1, v2, v3, v4, y0, y1, y2, y3, y4, k, rfl, ex, g0, g1, g2, g3, g4, fun m hm => ?_, fun m hm => ?_⟩
    · rw [ex]
      simp [DataW.weights, he, DataW.weightsEach, hm]
    · rw [ex]
      simp [DataW.weights, he, DataW.weightsEach, hm]
theorem int_le {n : Int} (h : (Lit.int .i64 n).wf = true) : n ≤ 9223372036854775807 := by
  have := h
  simp [Lit.wf] at this
  omega

theorem open_picks {fuel : Nat} {v : Value} {d : DataW H} {pl : List MemPlace} (h : DataW.trod enc Tryz.prog W base spare held fuel 35 [v] = some (d, pl)) (hw : ∀ n ∈ d.weights Tryz.prog 35, n ≤ reachBytes) :
    ∃ a n c l, v = .slice a n c ∧ PSrc W a n l ∧ 24 * n ≤ 140737488355328 := by
  rcases open_slice Tryz.underlying35 h with ⟨hcs, _⟩ | ⟨x, len, cap, m, k, D, Pl, hcs, _, hl, hm, hmm, hd, hx⟩
  · simp only [List.cons.injEq, and_true] at hcs
    exact ⟨none, 0, 0, [], hcs, ⟨rfl, fun _ => rfl, (fun x hx => by cases hx), fun q hq => by cases hq⟩, Nat.zero_le _⟩
  · simp only [List.cons.injEq, and_true] at hcs
    simp only [Prod.mk.injEq] at hd
    replace hd := hd.1
    subst hd
    have hlm : len ≤ m := by rw [hmm]; split <;> omega
    have h1 := hw ((((List.range len).map D).length + ((List.range (m - len)).map fun j => D (len + j)).length) * Tryz.prog.bytesOf 89) (by simp [DataW.weights, Tryz.underlying35])
    rw [bytesPick] at h1
    simp only [List.length_map, List.length_range, reachBytes] at h1
    rw [cellsPick] at hx
    have each : ∀ i, i < len → ∃ q : P3, W.cell? (x.add (i * 3)) = some (.int .i64 q.1) ∧ W.cell? (x.add (i * 3 + 1)) = some (.int .i64 q.2.1) ∧ W.cell? (x.add (i * 3 + 2)) = some (.int .i64 q.2.2) ∧ q.1 ≤ 9223372036854775807 ∧ q.2.1 ≤ 9223372036854775807 ∧ q.2.2 ≤ 9223372036854775807 := by
      intro i hi
      obtain ⟨cs', e1, e2⟩ := hx i (by omega)
      obtain ⟨_, hlen, hcell⟩ := World.cells?_some e1
      obtain ⟨v0, v1, v2, y0, y1, y2, k', rfl, _, g0, g1, g2⟩ := trod3 Tryz.underlying89 cellsPick rfl rfl rfl cellsInt cellsInt cellsInt e2
      obtain ⟨n0, q0, _, w0⟩ := DataW.trod_int Tryz.underlying3 g0
      obtain ⟨n1, q1, _, w1⟩ := DataW.trod_int Tryz.underlying3 g1
      obtain ⟨n2, q2, _, w2⟩ := DataW.trod_int Tryz.underlying3 g2
      simp only [List.cons.injEq, and_true] at q0 q1 q2
      subst q0 q1 q2
      have c0 := hcell 0 (by omega)
      have c1 := hcell 1 (by omega)
      have c2 := hcell 2 (by omega)
      rw [add_add] at c0 c1 c2
      exact ⟨(n0, n1, n2), by simpa using c0, by simpa using c1, by simpa using c2, int_le w0, int_le w1, int_le w2⟩
    obtain ⟨f, hf⟩ := choose_lt each
    refine ⟨some x, len, cap, (List.range len).map f, hcs, ⟨by simp, (fun h => by cases h), fun y hy i hi => ?_, fun q hq => ?_⟩, by omega⟩
    · cases hy
      have hi' : i < len := by simpa using hi
      obtain ⟨a0, a1, a2, _⟩ := hf i hi'
      obtain ⟨z0, _⟩ := hf 0 (by omega)
      obtain ⟨b, o, spot⟩ := x
      have hspot : spot = none := by simpa [Addr.add] using World.cell?_spot z0
      subst hspot
      rw [addr_add] at a0 a1 a2
      exact ⟨b, o, rfl, by simpa using a0, by simpa [Nat.add_assoc] using a1, by simpa [Nat.add_assoc] using a2⟩
    · obtain ⟨i, hi, rfl⟩ := List.mem_map.1 hq
      exact (hf i (List.mem_range.1 hi)).2.2.2

theorem PSrc.old {W : World} {a : Option Addr} {n : Nat} {l : List P3} (h : PSrc W a n l) : ∀ x, a = some x → 0 < n → x.block < W.heap.size := fun x hx hn => by
  obtain ⟨b, o, rfl, h1, _⟩ := h.2.2.1 x hx 0 (by rw [h.1]; exact hn)
  exact World.block_lt_of_cell? _ _ h1

theorem open_ops4 {fuel : Nat} {v : Value} {d : DataW H} {pl : List MemPlace} (h : DataW.trod enc Tryz.prog W base spare held fuel 22 [v] = some (d, pl)) (hw : ∀ n ∈ d.weights Tryz.prog 22, n ≤ reachBytes) :
    ∃ a n c, v = .slice a n c ∧ Script4 W W.heap.size a n ∧ 72 * n ≤ 140737488355328 := by
  rcases open_slice Tryz.underlying22 h with ⟨hcs, _⟩ | ⟨x, len, cap, m, k, D, Pl, hcs, _, hl, hm, hmm, hd, hx⟩
  · simp only [List.cons.injEq, and_true] at hcs
    exact ⟨none, 0, 0, hcs, ⟨fun _ => rfl, (fun x hx => by cases hx)⟩, Nat.zero_le _⟩
  · simp only [List.cons.injEq, and_true] at hcs
    simp only [Prod.mk.injEq] at hd
    replace hd := hd.1
    subst hd
    have hlm : len ≤ m := by rw [hmm]; split <;> omega
    have h1 := hw ((((List.range len).map D).length + ((List.range (m - len)).map fun j => D (len + j)).length) * Tryz.prog.bytesOf 37) (by simp [DataW.weights, Tryz.underlying22])
    rw [bytesOp4] at h1
    simp only [List.length_map, List.length_range, reachBytes] at h1
    rw [cellsOp4] at hx
    have hwe : ∀ i, i < len → ∀ n ∈ (D i).weights Tryz.prog 37, n ≤ reachBytes := fun i hi n hn => hw n (by
      simp only [DataW.weights, Tryz.underlying22]
      exact List.mem_cons_of_mem _ (List.mem_append_left _ (weightsAll_mem (List.mem_map.2 ⟨i, List.mem_range.2 hi, rfl⟩) hn)))
    refine ⟨some x, len, cap, hcs, ⟨(fun h => by cases h), fun y hy i hi => ?_⟩, by omega⟩
    cases hy
    obtain ⟨cs', e1, e2⟩ := hx i (by omega)
    obtain ⟨_, hlen, hcell⟩ := World.cells?_some e1
    obtain ⟨v0, v1, v2, v3, v4, y0, y1, y2, y3, y4, k', rfl, _, g0, g1, g2, g3, g4, hwt, hwt2⟩ := trod5o Tryz.underlying37 cellsOp4 rfl rfl rfl rfl rfl cellsInt cellsInt cellsInt cellsBytes cellsPicks e2
    obtain ⟨a, na, ca, l, rfl, hs, hb, hc, hsn⟩ := open_bytes g3 (fun m hm => hwe i hi m (hwt m hm))
    obtain ⟨pa, pn, pc, pl, rfl, hp, hpn⟩ := open_picks g4 (fun m hm => hwe i hi m (hwt2 m hm))
    obtain ⟨n0, q0, _, w0⟩ := DataW.trod_int Tryz.underlying3 g0
    obtain ⟨n1, q1, _, w1⟩ := DataW.trod_int Tryz.underlying3 g1
    obtain ⟨n2, q2, _, w2⟩ := DataW.trod_int Tryz.underlying3 g2
    simp only [List.cons.injEq, and_true] at q0 q1 q2
    subst q0 q1 q2
    have c0 := hcell 0 (by omega)
    have c1 := hcell 1 (by omega)
    have c2 := hcell 2 (by omega)
    have c3 := hcell 3 (by omega)
    have c4 := hcell 4 (by omega)
    rw [add_add] at c0 c1 c2 c3 c4
    obtain ⟨cs0, z1, z2⟩ := hx 0 (by omega)
    obtain ⟨u0, u1, u2, u3, u4, _, _, _, _, _, _, rfl, _⟩ := trod5o Tryz.underlying37 cellsOp4 rfl rfl rfl rfl rfl cellsInt cellsInt cellsInt cellsBytes cellsPicks z2
    obtain ⟨_, _, zcell⟩ := World.cells?_some z1
    have z0 := zcell 0 (by omega)
    rw [add_add] at z0
    obtain ⟨b, o, spot⟩ := x
    have hspot : spot = none := by simpa [Addr.add] using World.cell?_spot z0
    subst hspot
    rw [addr_add] at c0 c1 c2 c3 c4
    simp at c0 c1 c2 c3 c4
    exact ⟨b, o, rfl, World.block_lt_of_cell? _ _ c0, n0, n1, n2, a, na, ca, pa, pn, pc, l, pl, c0, by simpa [Nat.add_assoc] using c1, by simpa [Nat.add_assoc] using c2, by simpa [Nat.add_assoc] using c3, by simpa [Nat.add_assoc] using c4, ⟨int_le w1, hs, hb, hc, hsn, hs.old, hp, hp.old, hpn⟩⟩
end
end Go.Proofs.YtijgdmhglnanjaaGreat
end

section
namespace Go.Proofs.YtijgdmhglnanjaaGreat
open Go.RowKit

/-- What begin leaves. -/
def WBegin (w w' : World) (l : List Int) (q : Nat) : Prop :=
  Below w.heap.size w w' ∧ w.heap.size ≤ q ∧ (w'.heap[q]? = some (.cells #[.pointer none, .pointer none, .slice none 0 0, .slice none 0 0] 32 (0, 0)) ∨
    ∃ lab p r s im, Wd w' q lab p r s (DS.fresh im) (DS.fresh im) (.slice none 0 0) (.slice none 0 0) [] [] [] [] ∧ (im = l ∨ ∃ m, im = List.replicate m 0) ∧ ∀ k, k < w.heap.size → lab k = 0)
theorem two_wd {w w1 : World} {F G : Nat → Prop} {p r s : Nat} {S : DS} (h : Two w1 w.heap.size F G p r s S S) : ∃ lab, Wd (w1.alloc (.cells (wdC p r (.slice none 0 0) (.slice none 0 0)) 32)) w1.heap.size lab p r s S S (.slice none 0 0) (.slice none 0 0) [] [] [] [] ∧ ∀ k, k < w.heap.size → lab k = 0 := by
  classical
  have hb := below_box w1 (.cells (wdC p r (.slice none 0 0) (.slice none 0 0)) 32)
  have hd := h.d.r.later hb
  have he := h.e.later hb
  have hsz : (w1.alloc (.cells (wdC p r (.slice none 0 0) (.slice none 0 0)) 32)).heap.size = w1.heap.size + 1 := by simp
  have hq1 : ¬ F w1.heap.size := fun hf => by have := h.d.r.lt _ hf; omega
  have hq2 : ¬ G w1.heap.size := fun hf => by have := h.e.lt _ hf; omega
  have l1 : ∀ k, F k → (if F k then 1 else if G k then 2 else if k = w1.heap.size then 3 else 0 : Nat) = 1 := fun k hk => if_pos hk
  have l2 : ∀ k, G k → (if F k then 1 else if G k then 2 else if k = w1.heap.size then 3 else 0 : Nat) = 2 := fun k hk => by
    rw [if_neg (fun hf => h.dis k hf hk), if_pos hk]
  refine ⟨fun k => if F k then 1 else if G k then 2 else if k = w1.heap.size then 3 else 0, ⟨heap_alloc_new _ _, ?_, fun k hk => ?_, ?_, ?_, World.ownsRow_nil _ _ _ _, fun g hg => ?_, World.ownsRow_nil _ _ _ _, fun g hg => ?_, fun i L hi => ?_, fun i L hi => ?_⟩, fun k hk => ?_⟩
  · show (if F w1.heap.size then 1 else if G w1.heap.size then 2 else if w1.heap.size = w1.heap.size then 3 else 0 : Nat) = 3
    rw [if_neg hq1, if_neg hq2, if_pos rfl]
  · show (if F k then 1 else if G k then 2 else if k = w1.heap.size then 3 else 0 : Nat) = 0
    rw [if_neg (fun hf => by have := h.d.r.lt _ hf; omega), if_neg (fun hf => by have := h.e.lt _ hf; omega), if_neg (by omega)]
  · refine hd.mono l1 (fun k hk => ?_)
    have hk : (if F k then 1 else if G k then 2 else if k = w1.heap.size then 3 else 0 : Nat) = 1 := hk
    by_cases e : F k
    · have := h.d.r.lt _ e; omega
    · rw [if_neg e] at hk
      split at hk
      · omega
      · split at hk <;> omega
  · refine he.mono l2 (fun k hk => ?_)
    have hk : (if F k then 1 else if G k then 2 else if k = w1.heap.size then 3 else 0 : Nat) = 2 := hk
    by_cases e : G k
    · have := h.e.lt _ e; omega
    · split at hk
      · omega
      · split at hk <;> omega
  · simp [Value.ownBlock] at hg
  · simp [Value.ownBlock] at hg
  · simp at hi
  · simp at hi
  · show (if F k then 1 else if G k then 2 else if k = w1.heap.size then 3 else 0 : Nat) = 0
    have := h.lo
    rw [if_neg (fun hf => by have := h.fF _ hf; omega), if_neg (fun hf => by have := h.fG _ hf; omega), if_neg (by omega)]

set_option maxRecDepth 20000 in
set_option maxHeartbeats 2000000 in
theorem wbegin_any (dsec : Int) (a : Option Addr) (n c : Nat) (l : List Int) (w : World) (hs : Src w a n l) (hn : n ≤ 140737488355328) (hcap : n ≤ c) :
    Calls Tryz.prog 9 #[.int .i64 dsec, .slice a n c] w fun e w' => ∃ q, e = .returned (.tuple #[ptrL q, .bool true]) ∧ WBegin w w' l q := by
  have h1 := begin_any dsec a n c l w w.heap.size (Nat.le_refl _) hs hn hcap
  clear hs
  go_enter Tryz.func9, Tryz.ntmps9
  go_wp2_with fail
  refine h1.mono ?_
  rintro e w1 ⟨d, r, rfl, hb1, ⟨rfl, rfl⟩ | ⟨F, G, p, q, s, im, rfl, rfl, ht, hi, hF, hG⟩⟩
  · have HF : Hid (WBegin w (w1.alloc (.cells #[.pointer none, .pointer none, .slice none 0 0, .slice none 0 0] 32)) l w1.heap.size) := ⟨hb1.trans ((below_box w1 _).mono hb1.size), hb1.size, .inl (heap_alloc_new _ _)⟩
    clear h1 hb1
    go_wp2
    go_ret2
    exact ⟨_, rfl, HF.out⟩
  · have HF : Hid (WBegin w (w1.alloc (.cells (wdC p q (.slice none 0 0) (.slice none 0 0)) 32)) l w1.heap.size) := by
      obtain ⟨lab, h2, h3⟩ := two_wd ht
      exact ⟨hb1.trans ((below_box w1 _).mono hb1.size), hb1.size, .inr ⟨lab, p, q, s, im, h2, hi, h3⟩⟩
    clear h1 hb1 ht hF hG
    go_wp2
    go_ret2
    exact ⟨_, rfl, HF.out⟩
end Go.Proofs.YtijgdmhglnanjaaGreat
end
