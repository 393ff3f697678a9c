import Derived.Test.YtcpmapknmkholaaW06
section
namespace Go.Proofs.Ytcpmapknmkholaa
open Go.RowKit

/-- A reader reads, two boxes of entries are made: what is kept. -/
structure ReadsE (p : Nat) (w w' : World) (cs : Array Value) : Prop where
  k : Keeps (fun j => j = p) w w'
  out : w'.heap[w.heap.size]? = some (.cells #[.int .i64 0, .int .i64 0, .string ⟨#[]⟩, .int .i64 0] 29 (0, 0))
  box : w'.heap[w.heap.size + 1]? = some (.cells cs 29 (0, 0))
  lt : p < w.heap.size
theorem ReadsE.step {p : Nat} {w w1 w2 : World} {cs : Array Value} (h : ReadsE p w w1 cs) (hk : Keeps (fun j => j = p) w1 w2) : ReadsE p w w2 cs :=
  ⟨h.k.trans hk (fun _ h => .inl h), (hk.block _ (Array.getElem?_eq_some_iff.1 h.out).1 (by have := h.lt; omega)).trans h.out, (hk.block _ (Array.getElem?_eq_some_iff.1 h.box).1 (by have := h.lt; omega)).trans h.box, h.lt⟩
theorem ReadsE.put {p : Nat} {w w1 : World} {cs : Array Value} (h : ReadsE p w w1 cs) (i : Nat) (v : Value) : ReadsE p w (w1.setCell ⟨w.heap.size + 1, i, none⟩ v) (cs.setIfInBounds i v) :=
  ⟨h.k.put (by omega) v, (Below.heap_setCell _ _ _ _ (by simp)).trans h.out, heap_setCell_same _ _ _ _ _ _ h.box, h.lt⟩
theorem Rd.put {w : World} {p b o c k : Nat} {l : List Int} (h : Rd w p b o c k l) {g i : Nat} {v : Value} (hp : g ≠ p) (hb : g ≠ b) : Rd (w.setCell ⟨g, i, none⟩ v) p b o c k l :=
  ⟨(Below.heap_setCell _ _ _ _ (fun e => hp e.symm)).trans h.rd, h.ne, fun j hj => (World.cell?_of_block (w := w) (a := ⟨b, o + j, none⟩) (Below.heap_setCell _ _ _ _ (fun e => hb e.symm))).trans (h.src j hj), h.bytes, h.small, h.cap, h.huge, fun h0 => by rw [show (w.setCell ⟨g, i, none⟩ v).heap.size = w.heap.size by simp [World.setCell]]; exact h.old h0⟩

set_option maxRecDepth 20000 in
set_option maxHeartbeats 4000000 in
theorem readent_ok (p b o c : Nat) (l : List Int) (w : World) (h : Rd w p b o c 0 l) (hl : l.length = 60) (hcc : 60 < c) (hok : EntOk l) :
    Calls Try.prog 33 #[.pointer (some ⟨p, 0, none⟩)] w fun e w' => e = .returned (ent ((u32 l 0 : Nat) : Int) ((u8 l 4 : Nat) : Int) (nm l) 0) ∧ Keeps (fun j => j = p) w w' := by
  have h54 := hok.len
  have HZ := Hid.mk hok.zeros
  have HF := Hid.mk hok.fits
  clear hok
  have hc := h.cap
  have hpl : p < w.heap.size := (Array.getElem?_eq_some_iff.1 h.rd).1
  have hbl : b < w.heap.size := h.old (by omega)
  obtain ⟨w1, hw1⟩ : ∃ w1, w1 = (w.alloc (.cells #[.int .i64 0, .int .i64 0, .string ⟨#[]⟩, .int .i64 0] 29)).alloc (.cells #[.int .i64 0, .int .i64 0, .string ⟨#[]⟩, .int .i64 0] 29) := ⟨_, rfl⟩
  have hB1 : Below w.heap.size w w1 := by rw [hw1]; exact below_two w _ _
  have R1 : ReadsE p w w1 #[.int .i64 0, .int .i64 0, .string ⟨#[]⟩, .int .i64 0] := ⟨Keeps.of_below _ hB1, by rw [hw1]; exact heap_alloc2_old _ _ _, by rw [hw1]; exact heap_alloc2_new _ _ _, hpl⟩
  have hn1 := rnum4 p b o c 0 l w1 (h.far hB1) (by omega) (by omega)
  have hby := h.bytes
  have HR1 := Hid.mk R1
  clear h hB1 R1
  go_enter Try.func33, Try.ntmps33
  go_wp2_with fail
  rw [← hw1]
  clear hw1
  refine hn1.mono ?_
  rintro e w2 ⟨rfl, hr2, hk2⟩
  have R2 := HR1.out.step hk2
  have c2 := cell_of_block R2.box (j := 0) rfl
  have f2 := frozen_of_block R2.box 0
  have R2' := R2.put 0 (.int .i64 ((u32 l 0 : Nat) : Int))
  have hr2' := hr2.put (g := w.heap.size + 1) (i := 0) (v := .int .i64 ((u32 l 0 : Nat) : Int)) (by omega) (by omega)
  have hn2 := rnum1 p b o c 4 l _ hr2' (by omega) (by omega)
  have HR2 := Hid.mk R2'
  clear hn1 hk2 R2 R2' hr2 hr2' HR1
  go_wp2_with fail
  refine hn2.mono ?_
  rintro e w3 ⟨rfl, hr3, hk3⟩
  have R3 := HR2.out.step hk3
  have c3 := cell_of_block R3.box (j := 1) (u := .int .i64 0) rfl
  have f3 := frozen_of_block R3.box 1
  have R3' := R3.put 1 (.int .i64 ((u8 l 4 : Nat) : Int))
  have hr3' := hr3.put (g := w.heap.size + 1) (i := 1) (v := .int .i64 ((u8 l 4 : Nat) : Int)) (by omega) (by omega)
  have hn3 := rnum1 p b o c 5 l _ hr3' (by omega) (by omega)
  have HR3 := Hid.mk R3'
  clear hn2 hk3 R3 R3' hr3 hr3' HR2 c2 f2
  go_wp2_with fail
  refine hn3.mono ?_
  rintro e w4 ⟨rfl, hr4, hk4⟩
  have HR4 := Hid.mk (HR3.out.step hk4)
  have hn4 : Calls Try.prog 46 #[.pointer (some ⟨p, 0, none⟩), .int .i64 ((u8 l 5 : Nat) : Int)] w4 fun e w' => e = .returned (.string (nm l)) ∧ Rd w' p b o c (6 + u8 l 5) l ∧ Keeps (fun j => j = p) w4 w' := rtext_ok p b o c 6 (u8 l 5) l w4 hr4 (by omega) (by omega)
  clear hn3 hk4 hr4 HR3 c3 f3
  go_wp2_with fail
  refine hn4.mono ?_
  rintro e w5 ⟨rfl, hr5, hk5⟩
  have R5 := HR4.out.step hk5
  have c5 := cell_of_block R5.box (j := 2) (u := .string ⟨#[]⟩) rfl
  have f5 := frozen_of_block R5.box 2
  have R5' := R5.put 2 (.string (nm l))
  have hr5' := hr5.put (g := w.heap.size + 1) (i := 2) (v := .string (nm l)) (by omega) (by omega)
  have HR5 := Hid.mk R5'
  have hn5 : Calls Try.prog 43 #[.pointer (some ⟨p, 0, none⟩), .int .i64 60] (w5.setCell ⟨w.heap.size + 1, 2, none⟩ (.string (nm l))) fun e w' => e = .returned (.tuple #[]) ∧ Rd w' p b o c (6 + u8 l 5 + (54 - u8 l 5)) l ∧ Keeps (fun j => j = p) (w5.setCell ⟨w.heap.size + 1, 2, none⟩ (.string (nm l))) w' := by
    have := rzeros_ok p b o c (6 + u8 l 5) (54 - u8 l 5) l _ hr5' (by omega) (by omega) HZ.out
    rw [show 6 + u8 l 5 + (54 - u8 l 5) = 60 by omega] at this ⊢
    exact this
  clear hn4 hk5 R5 R5' hr5 hr5' HR4
  go_wp2_with fail
  refine hn5.mono ?_
  rintro e w6 ⟨rfl, _, hk6⟩
  have R6 := HR5.out.step hk6
  have b0 := cell_of_block R6.box (j := 0) (u := .int .i64 ((u32 l 0 : Nat) : Int)) rfl
  have b1 := cell_of_block R6.box (j := 1) (u := .int .i64 ((u8 l 4 : Nat) : Int)) rfl
  have b2 := cell_of_block R6.box (j := 2) (u := .string (nm l)) rfl
  have b3 := cell_of_block R6.box (j := 3) (u := .int .i64 0) rfl
  have HR6 := Hid.mk R6
  clear hn5 hk6 R6 HR5 c5 f5
  have hfit := efits_t _ _ _ 0 w6 HF.out
  have hm := must_t
  go_wp2_with fail
  refine hfit.mono ?_
  rintro e w7 ⟨rfl, hb7⟩
  have R7 := HR6.out.step (Keeps.of_below _ hb7)
  have d0 := cell_of_block R7.out (j := 0) rfl
  have d1 := cell_of_block R7.out (j := 1) rfl
  have d2 := cell_of_block R7.out (j := 2) rfl
  have d3 := cell_of_block R7.out (j := 3) rfl
  have g0 := frozen_of_block R7.out 0
  have g1 := frozen_of_block R7.out 1
  have g2 := frozen_of_block R7.out 2
  have g3 := frozen_of_block R7.out 3
  have x0 := cell_later hb7 b0
  have x1 := cell_later hb7 b1
  have x2 := cell_later hb7 b2
  have x3 := cell_later hb7 b3
  have HR7 := Hid.mk R7.k
  clear hfit hb7 R7 HR6 b0 b1 b2 b3
  go_wp2_with fail
  refine (hm _).mono ?_
  rintro e w9 ⟨rfl, hw⟩
  have hw' := hw.symm
  subst hw'
  clear hw
  go_wp2
  refine bodyPost_ret (v := ent ((u32 l 0 : Nat) : Int) ((u8 l 4 : Nat) : Int) (nm l) 0) (by simp [results, Try.results33, go_sem, d0, d1, d2, d3]) rfl ⟨rfl, ?_⟩
  exact ((((HR7.out.put (Nat.le_refl _) _).put (Nat.le_refl _) _).put (Nat.le_refl _) _).put (Nat.le_refl _) _)

set_option maxRecDepth 20000 in
set_option maxHeartbeats 4000000 in
theorem readent_no1 (p b o c : Nat) (l : List Int) (w : World) (h : Rd w p b o c 0 l) (hl : l.length = 60) (hcc : 60 < c) (h54 : 54 < u8 l 5) :
    Calls Try.prog 33 #[.pointer (some ⟨p, 0, none⟩)] w fun e w' => e = .panicked gaveUp ∧ Keeps (fun j => j = p) w w' := by
  have hc := h.cap
  have hpl : p < w.heap.size := (Array.getElem?_eq_some_iff.1 h.rd).1
  have hbl : b < w.heap.size := h.old (by omega)
  obtain ⟨w1, hw1⟩ : ∃ w1, w1 = (w.alloc (.cells #[.int .i64 0, .int .i64 0, .string ⟨#[]⟩, .int .i64 0] 29)).alloc (.cells #[.int .i64 0, .int .i64 0, .string ⟨#[]⟩, .int .i64 0] 29) := ⟨_, rfl⟩
  have hB1 : Below w.heap.size w w1 := by rw [hw1]; exact below_two w _ _
  have R1 : ReadsE p w w1 #[.int .i64 0, .int .i64 0, .string ⟨#[]⟩, .int .i64 0] := ⟨Keeps.of_below _ hB1, by rw [hw1]; exact heap_alloc2_old _ _ _, by rw [hw1]; exact heap_alloc2_new _ _ _, hpl⟩
  have hn1 := rnum4 p b o c 0 l w1 (h.far hB1) (by omega) (by omega)
  have hby := h.bytes
  have HR1 := Hid.mk R1
  clear h hB1 R1
  go_enter Try.func33, Try.ntmps33
  go_wp2_with fail
  rw [← hw1]
  clear hw1
  refine hn1.mono ?_
  rintro e w2 ⟨rfl, hr2, hk2⟩
  have R2 := HR1.out.step hk2
  have c2 := cell_of_block R2.box (j := 0) rfl
  have f2 := frozen_of_block R2.box 0
  have R2' := R2.put 0 (.int .i64 ((u32 l 0 : Nat) : Int))
  have hr2' := hr2.put (g := w.heap.size + 1) (i := 0) (v := .int .i64 ((u32 l 0 : Nat) : Int)) (by omega) (by omega)
  have hn2 := rnum1 p b o c 4 l _ hr2' (by omega) (by omega)
  have HR2 := Hid.mk R2'
  clear hn1 hk2 R2 R2' hr2 hr2' HR1
  go_wp2_with fail
  refine hn2.mono ?_
  rintro e w3 ⟨rfl, hr3, hk3⟩
  have R3 := HR2.out.step hk3
  have c3 := cell_of_block R3.box (j := 1) (u := .int .i64 0) rfl
  have f3 := frozen_of_block R3.box 1
  have R3' := R3.put 1 (.int .i64 ((u8 l 4 : Nat) : Int))
  have hr3' := hr3.put (g := w.heap.size + 1) (i := 1) (v := .int .i64 ((u8 l 4 : Nat) : Int)) (by omega) (by omega)
  have hn3 := rnum1 p b o c 5 l _ hr3' (by omega) (by omega)
  have HR3 := Hid.mk R3'
  clear hn2 hk3 R3 R3' hr3 hr3' HR2 c2 f2
  go_wp2_with fail
  refine hn3.mono ?_
  rintro e w4 ⟨rfl, hr4, hk4⟩
  have HR4 := Hid.mk (HR3.out.step hk4)
  have h256 := u8_lt hby (k := 5) (by omega)
  have hn4 := rtext_no p b o c 6 (u8 l 5) l w4 hr4 (by omega) (by omega) (by omega)
  clear hn3 hk4 hr4 HR3 c3 f3
  go_wp2_with fail
  refine hn4.mono ?_
  rintro e w5 ⟨rfl, hk5⟩
  have HK := Hid.mk (HR4.out.step hk5).k
  clear hn4 hk5 HR4
  go_wp2
  exact ⟨rfl, rfl, HK.out⟩

set_option maxRecDepth 20000 in
set_option maxHeartbeats 4000000 in
theorem readent_no2 (p b o c : Nat) (l : List Int) (w : World) (h : Rd w p b o c 0 l) (hl : l.length = 60) (hcc : 60 < c) (h54 : u8 l 5 ≤ 54) (hz : ¬ Zeros (part l (6 + u8 l 5) (54 - u8 l 5))) :
    Calls Try.prog 33 #[.pointer (some ⟨p, 0, none⟩)] w fun e w' => e = .panicked gaveUp ∧ Keeps (fun j => j = p) w w' := by
  have HZ := Hid.mk hz
  clear hz
  have hc := h.cap
  have hpl : p < w.heap.size := (Array.getElem?_eq_some_iff.1 h.rd).1
  have hbl : b < w.heap.size := h.old (by omega)
  obtain ⟨w1, hw1⟩ : ∃ w1, w1 = (w.alloc (.cells #[.int .i64 0, .int .i64 0, .string ⟨#[]⟩, .int .i64 0] 29)).alloc (.cells #[.int .i64 0, .int .i64 0, .string ⟨#[]⟩, .int .i64 0] 29) := ⟨_, rfl⟩
  have hB1 : Below w.heap.size w w1 := by rw [hw1]; exact below_two w _ _
  have R1 : ReadsE p w w1 #[.int .i64 0, .int .i64 0, .string ⟨#[]⟩, .int .i64 0] := ⟨Keeps.of_below _ hB1, by rw [hw1]; exact heap_alloc2_old _ _ _, by rw [hw1]; exact heap_alloc2_new _ _ _, hpl⟩
  have hn1 := rnum4 p b o c 0 l w1 (h.far hB1) (by omega) (by omega)
  have hby := h.bytes
  have HR1 := Hid.mk R1
  clear h hB1 R1
  go_enter Try.func33, Try.ntmps33
  go_wp2_with fail
  rw [← hw1]
  clear hw1
  refine hn1.mono ?_
  rintro e w2 ⟨rfl, hr2, hk2⟩
  have R2 := HR1.out.step hk2
  have c2 := cell_of_block R2.box (j := 0) rfl
  have f2 := frozen_of_block R2.box 0
  have R2' := R2.put 0 (.int .i64 ((u32 l 0 : Nat) : Int))
  have hr2' := hr2.put (g := w.heap.size + 1) (i := 0) (v := .int .i64 ((u32 l 0 : Nat) : Int)) (by omega) (by omega)
  have hn2 := rnum1 p b o c 4 l _ hr2' (by omega) (by omega)
  have HR2 := Hid.mk R2'
  clear hn1 hk2 R2 R2' hr2 hr2' HR1
  go_wp2_with fail
  refine hn2.mono ?_
  rintro e w3 ⟨rfl, hr3, hk3⟩
  have R3 := HR2.out.step hk3
  have c3 := cell_of_block R3.box (j := 1) (u := .int .i64 0) rfl
  have f3 := frozen_of_block R3.box 1
  have R3' := R3.put 1 (.int .i64 ((u8 l 4 : Nat) : Int))
  have hr3' := hr3.put (g := w.heap.size + 1) (i := 1) (v := .int .i64 ((u8 l 4 : Nat) : Int)) (by omega) (by omega)
  have hn3 := rnum1 p b o c 5 l _ hr3' (by omega) (by omega)
  have HR3 := Hid.mk R3'
  clear hn2 hk3 R3 R3' hr3 hr3' HR2 c2 f2
  go_wp2_with fail
  refine hn3.mono ?_
  rintro e w4 ⟨rfl, hr4, hk4⟩
  have HR4 := Hid.mk (HR3.out.step hk4)
  have hn4 : Calls Try.prog 46 #[.pointer (some ⟨p, 0, none⟩), .int .i64 ((u8 l 5 : Nat) : Int)] w4 fun e w' => e = .returned (.string (nm l)) ∧ Rd w' p b o c (6 + u8 l 5) l ∧ Keeps (fun j => j = p) w4 w' := rtext_ok p b o c 6 (u8 l 5) l w4 hr4 (by omega) (by omega)
  clear hn3 hk4 hr4 HR3 c3 f3
  go_wp2_with fail
  refine hn4.mono ?_
  rintro e w5 ⟨rfl, hr5, hk5⟩
  have R5 := HR4.out.step hk5
  have c5 := cell_of_block R5.box (j := 2) (u := .string ⟨#[]⟩) rfl
  have f5 := frozen_of_block R5.box 2
  have R5' := R5.put 2 (.string (nm l))
  have hr5' := hr5.put (g := w.heap.size + 1) (i := 2) (v := .string (nm l)) (by omega) (by omega)
  have HR5 := Hid.mk R5'
  have hn5 : Calls Try.prog 43 #[.pointer (some ⟨p, 0, none⟩), .int .i64 60] (w5.setCell ⟨w.heap.size + 1, 2, none⟩ (.string (nm l))) fun e w' => e = .panicked gaveUp ∧ Keeps (fun j => j = p) (w5.setCell ⟨w.heap.size + 1, 2, none⟩ (.string (nm l))) w' := by
    have := rzeros_no p b o c (6 + u8 l 5) (54 - u8 l 5) l _ hr5' (by omega) (by omega) HZ.out
    rw [show 6 + u8 l 5 + (54 - u8 l 5) = 60 by omega] at this
    exact this
  clear hn4 hk5 R5 R5' hr5 hr5' HR4
  go_wp2_with fail
  refine hn5.mono ?_
  rintro e w6 ⟨rfl, hk6⟩
  have HK := Hid.mk (HR5.out.step hk6).k
  clear hn5 hk6 HR5
  go_wp2
  exact ⟨rfl, rfl, HK.out⟩

set_option maxRecDepth 20000 in
set_option maxHeartbeats 4000000 in
theorem readent_no3 (p b o c : Nat) (l : List Int) (w : World) (h : Rd w p b o c 0 l) (hl : l.length = 60) (hcc : 60 < c) (h54 : u8 l 5 ≤ 54) (hz : Zeros (part l (6 + u8 l 5) (54 - u8 l 5))) (hf : ¬ EFits (u32 l 0) (u8 l 4) (nm l)) :
    Calls Try.prog 33 #[.pointer (some ⟨p, 0, none⟩)] w fun e w' => e = .panicked gaveUp ∧ Keeps (fun j => j = p) w w' := by
  have HZ := Hid.mk hz
  have HF := Hid.mk hf
  clear hz hf
  have hc := h.cap
  have hpl : p < w.heap.size := (Array.getElem?_eq_some_iff.1 h.rd).1
  have hbl : b < w.heap.size := h.old (by omega)
  obtain ⟨w1, hw1⟩ : ∃ w1, w1 = (w.alloc (.cells #[.int .i64 0, .int .i64 0, .string ⟨#[]⟩, .int .i64 0] 29)).alloc (.cells #[.int .i64 0, .int .i64 0, .string ⟨#[]⟩, .int .i64 0] 29) := ⟨_, rfl⟩
  have hB1 : Below w.heap.size w w1 := by rw [hw1]; exact below_two w _ _
  have R1 : ReadsE p w w1 #[.int .i64 0, .int .i64 0, .string ⟨#[]⟩, .int .i64 0] := ⟨Keeps.of_below _ hB1, by rw [hw1]; exact heap_alloc2_old _ _ _, by rw [hw1]; exact heap_alloc2_new _ _ _, hpl⟩
  have hn1 := rnum4 p b o c 0 l w1 (h.far hB1) (by omega) (by omega)
  have hby := h.bytes
  have HR1 := Hid.mk R1
  clear h hB1 R1
  go_enter Try.func33, Try.ntmps33
  go_wp2_with fail
  rw [← hw1]
  clear hw1
  refine hn1.mono ?_
  rintro e w2 ⟨rfl, hr2, hk2⟩
  have R2 := HR1.out.step hk2
  have c2 := cell_of_block R2.box (j := 0) rfl
  have f2 := frozen_of_block R2.box 0
  have R2' := R2.put 0 (.int .i64 ((u32 l 0 : Nat) : Int))
  have hr2' := hr2.put (g := w.heap.size + 1) (i := 0) (v := .int .i64 ((u32 l 0 : Nat) : Int)) (by omega) (by omega)
  have hn2 := rnum1 p b o c 4 l _ hr2' (by omega) (by omega)
  have HR2 := Hid.mk R2'
  clear hn1 hk2 R2 R2' hr2 hr2' HR1
  go_wp2_with fail
  refine hn2.mono ?_
  rintro e w3 ⟨rfl, hr3, hk3⟩
  have R3 := HR2.out.step hk3
  have c3 := cell_of_block R3.box (j := 1) (u := .int .i64 0) rfl
  have f3 := frozen_of_block R3.box 1
  have R3' := R3.put 1 (.int .i64 ((u8 l 4 : Nat) : Int))
  have hr3' := hr3.put (g := w.heap.size + 1) (i := 1) (v := .int .i64 ((u8 l 4 : Nat) : Int)) (by omega) (by omega)
  have hn3 := rnum1 p b o c 5 l _ hr3' (by omega) (by omega)
  have HR3 := Hid.mk R3'
  clear hn2 hk3 R3 R3' hr3 hr3' HR2 c2 f2
  go_wp2_with fail
  refine hn3.mono ?_
  rintro e w4 ⟨rfl, hr4, hk4⟩
  have HR4 := Hid.mk (HR3.out.step hk4)
  have hn4 : Calls Try.prog 46 #[.pointer (some ⟨p, 0, none⟩), .int .i64 ((u8 l 5 : Nat) : Int)] w4 fun e w' => e = .returned (.string (nm l)) ∧ Rd w' p b o c (6 + u8 l 5) l ∧ Keeps (fun j => j = p) w4 w' := rtext_ok p b o c 6 (u8 l 5) l w4 hr4 (by omega) (by omega)
  clear hn3 hk4 hr4 HR3 c3 f3
  go_wp2_with fail
  refine hn4.mono ?_
  rintro e w5 ⟨rfl, hr5, hk5⟩
  have R5 := HR4.out.step hk5
  have c5 := cell_of_block R5.box (j := 2) (u := .string ⟨#[]⟩) rfl
  have f5 := frozen_of_block R5.box 2
  have R5' := R5.put 2 (.string (nm l))
  have hr5' := hr5.put (g := w.heap.size + 1) (i := 2) (v := .string (nm l)) (by omega) (by omega)
  have HR5 := Hid.mk R5'
  have hn5 : Calls Try.prog 43 #[.pointer (some ⟨p, 0, none⟩), .int .i64 60] (w5.setCell ⟨w.heap.size + 1, 2, none⟩ (.string (nm l))) fun e w' => e = .returned (.tuple #[]) ∧ Rd w' p b o c (6 + u8 l 5 + (54 - u8 l 5)) l ∧ Keeps (fun j => j = p) (w5.setCell ⟨w.heap.size + 1, 2, none⟩ (.string (nm l))) w' := by
    have := rzeros_ok p b o c (6 + u8 l 5) (54 - u8 l 5) l _ hr5' (by omega) (by omega) HZ.out
    rw [show 6 + u8 l 5 + (54 - u8 l 5) = 60 by omega] at this ⊢
    exact this
  clear hn4 hk5 R5 R5' hr5 hr5' HR4
  go_wp2_with fail
  refine hn5.mono ?_
  rintro e w6 ⟨rfl, _, hk6⟩
  have R6 := HR5.out.step hk6
  have b0 := cell_of_block R6.box (j := 0) (u := .int .i64 ((u32 l 0 : Nat) : Int)) rfl
  have b1 := cell_of_block R6.box (j := 1) (u := .int .i64 ((u8 l 4 : Nat) : Int)) rfl
  have b2 := cell_of_block R6.box (j := 2) (u := .string (nm l)) rfl
  have b3 := cell_of_block R6.box (j := 3) (u := .int .i64 0) rfl
  have HR6 := Hid.mk R6
  clear hn5 hk6 R6 HR5 c5 f5
  have hfit := efits_f _ _ _ 0 w6 HF.out
  have hm := must_f
  go_wp2_with fail
  refine hfit.mono ?_
  rintro e w7 ⟨rfl, hb7⟩
  have HK := Hid.mk (HR6.out.step (Keeps.of_below _ hb7)).k
  clear hfit hb7 HR6 b0 b1 b2 b3
  go_wp2_with fail
  refine (hm _).mono ?_
  rintro e w9 ⟨rfl, hw⟩
  have hw' := hw.symm
  subst hw'
  clear hw
  go_wp2
  exact ⟨rfl, rfl, HK.out⟩

theorem readent_no (p b o c : Nat) (l : List Int) (w : World) (h : Rd w p b o c 0 l) (hl : l.length = 60) (hcc : 60 < c) (hok : ¬ EntOk l) :
    Calls Try.prog 33 #[.pointer (some ⟨p, 0, none⟩)] w fun e w' => e = .panicked gaveUp ∧ Keeps (fun j => j = p) w w' := by
  by_cases h1 : u8 l 5 ≤ 54
  · by_cases h2 : Zeros (part l (6 + u8 l 5) (54 - u8 l 5))
    · exact readent_no3 p b o c l w h hl hcc h1 h2 (fun h3 => hok ⟨h1, h2, h3⟩)
    · exact readent_no2 p b o c l w h hl hcc h1 h2
  · exact readent_no1 p b o c l w h hl hcc (by omega)
end Go.Proofs.Ytcpmapknmkholaa
end

section
namespace Go.Proofs.Ytcpmapknmkholaa
open Go.RowKit

/-- Ten numbers' cells. -/
def dirL (f : Nat → Int) : List Value := (List.range 10).map (fun i => .int .i64 (f i))
theorem dirL_len (f : Nat → Int) : (dirL f).length = 10 := by simp [dirL]
theorem dirL_set (f g : Nat → Int) (j : Nat) (_hj : j < 10) (v : Int) (h : ∀ i, i < 10 → g i = if i = j then v else f i) : (dirL f).set j (.int .i64 v) = dirL g := by
  apply List.ext_getElem
  · simp [dirL]
  · intro i h1 h2
    have hi : i < 10 := by rw [dirL_len] at h2; exact h2
    simp only [dirL, List.getElem_set, List.getElem_map, List.getElem_range]
    rw [h i hi]
    by_cases e : j = i
    · subst e; simp
    · rw [if_neg e, if_neg (fun e' => e e'.symm)]
theorem dirL_at (f : Nat → Int) (j : Nat) (hj : j < 10) : (dirL f).toArray[j]? = some (.int .i64 (f j)) := by simp [dirL, hj]
theorem infoDir (f : Nat → Int) : (Try.prog.info? 25).map (·.size) = some (dirL f).length := by rw [dirL_len]; exact infoTen
theorem dirL_one (f : Nat → Int) : ∀ v ∈ dirL f, v.oneCell' = true := by
  intro v hv
  obtain ⟨j, _, rfl⟩ := List.mem_map.1 hv
  rfl

/-- What the loop over the ten pointers keeps. -/
structure DirAt (p b o c k : Nat) (l : List Int) (w wr : World) (j : Nat) : Prop where
  kp : Keeps (fun x => x = p) w wr
  rd : Rd wr p b o c (k + 4 * j) l
  out : wr.heap[w.heap.size]? = some (.cells (dirL (fun _ => 0)).toArray 25 (0, 0))
  box : wr.heap[w.heap.size + 1]? = some (.cells (dirL (fun i => if i < j then ((u32 l (k + 4 * i) : Nat) : Int) else 0)).toArray 25 (0, 0))
  lt : p < w.heap.size
  bt : b < w.heap.size
theorem DirAt.next {p b o c k : Nat} {l : List Int} {w wr w2 : World} {j : Nat} (h : DirAt p b o c k l w wr j) (hj : j < 10) (hk : Keeps (fun x => x = p) wr w2) (hr : Rd w2 p b o c (k + 4 * j + 4) l) :
    w2.cell? ⟨w.heap.size + 1, j, none⟩ = some (.int .i64 0) ∧ w2.frozen? ⟨w.heap.size + 1, j, none⟩ = false ∧ DirAt p b o c k l w (w2.setCell ⟨w.heap.size + 1, j, none⟩ (.int .i64 ((u32 l (k + 4 * j) : Nat) : Int))) (j + 1) := by
  have hlt := h.lt
  have hbt := h.bt
  have hbox := (hk.block _ (Array.getElem?_eq_some_iff.1 h.box).1 (by omega)).trans h.box
  have hout := (hk.block _ (Array.getElem?_eq_some_iff.1 h.out).1 (by omega)).trans h.out
  refine ⟨?_, frozen_of_block hbox j, ?_, ?_, ?_, ?_, hlt, hbt⟩
  · refine cell_of_block hbox ?_
    rw [dirL_at _ j hj]
    simp
  · exact (h.kp.trans hk (fun _ h => .inl h)).put (by omega) _
  · have := hr.put (g := w.heap.size + 1) (i := j) (v := .int .i64 ((u32 l (k + 4 * j) : Nat) : Int)) (by omega) (by omega)
    rw [show k + 4 * (j + 1) = k + 4 * j + 4 by omega]
    exact this
  · exact (Below.heap_setCell _ _ _ _ (by simp)).trans hout
  · rw [heap_setCell_same _ _ _ _ _ _ hbox]
    congr 2
    apply Array.ext'
    simp only [Array.toList_setIfInBounds]
    exact dirL_set _ _ j hj _ (fun i hi => by
      by_cases e : i = j
      · subst e; simp
      · by_cases e' : i < j
        · rw [if_pos (by omega), if_neg e, if_pos e']
        · rw [if_neg (by omega), if_neg e, if_neg e'])

set_option maxRecDepth 20000 in
set_option maxHeartbeats 4000000 in
theorem readdir_any (p b o c k : Nat) (l : List Int) (w : World) (h : Rd w p b o c k l) (hk : k + 40 ≤ l.length) (hcc : l.length < c) :
    Calls Try.prog 44 #[.pointer (some ⟨p, 0, none⟩)] w fun e w' => e = .returned (.agg (dirL (fun i => ((u32 l (k + 4 * i) : Nat) : Int))).toArray) ∧ Rd w' p b o c (k + 40) l ∧ Keeps (fun j => j = p) w w' := by
  have hpl : p < w.heap.size := (Array.getElem?_eq_some_iff.1 h.rd).1
  have hbl : b < w.heap.size := h.old (by omega)
  have hlz : (dirL (fun _ => 0)).toArray = ten (fun _ => 0) := rfl
  have H0 : Hid (DirAt p b o c k l w ((w.alloc (.cells (ten (fun _ => 0)) 25)).alloc (.cells (ten (fun _ => 0)) 25)) 0) := by
    have hB := below_two w (.cells (ten (fun _ => 0)) 25) (.cells (ten (fun _ => 0)) 25)
    exact ⟨Keeps.of_below _ hB, h.far hB, heap_alloc2_old _ _ _, heap_alloc2_new _ _ _, hpl, hbl⟩
  clear h
  go_enter Try.func44, Try.ntmps44
  go_wp2_with fail
  go_loopw [5] (fun i wr => ∃ j : Nat, j ≤ 10 ∧ i = .int .i64 j ∧ DirAt p b o c k l w wr j) (fun i _ => 10 - (intOf i).toNat)
  case atStart => exact ⟨0, Nat.zero_le _, rfl, H0.out⟩
  case round =>
    clear H0
    obtain ⟨j, hj, rfl, hd⟩ := hrel
    by_cases hlt : j < 10
    · have hlt' : (j : Int) < 10 := by omega
      have hn := rnum4 p b o c (k + 4 * j) l wr hd.rd (by omega) (by omega)
      have HD := Hid.mk hd
      clear hd
      go_wp2_with fail
      refine hn.mono ?_
      rintro e w2 ⟨rfl, hr2, hk2⟩
      obtain ⟨hc, hf, hnx⟩ := HD.out.next hlt hk2 hr2
      have HN := Hid.mk hnx
      clear hn hr2 hk2 HD hnx
      go_wp2
      go_roundw
      case rel => exact ⟨j + 1, by omega, by go_num, HN.out⟩
      case measure => simp [intOf]; omega
    · have hlt' : ¬ (j : Int) < 10 := by omega
      have hj10 : j = 10 := by omega
      subst hj10
      have hbox := hd.box
      have hsame : dirL (fun i => if i < 10 then ((u32 l (k + 4 * i) : Nat) : Int) else 0) = dirL (fun i => ((u32 l (k + 4 * i) : Nat) : Int)) := by
        unfold dirL
        apply List.map_congr_left
        intro i hi
        show Value.int .i64 (if i < 10 then ((u32 l (k + 4 * i) : Nat) : Int) else 0) = _
        rw [if_pos (List.mem_range.1 hi)]
      rw [hsame] at hbox
      have hra := range_of hbox
      have hth : wr.there w.heap.size 0 (dirL (fun i => ((u32 l (k + 4 * i) : Nat) : Int))).length := by
        intro i hi
        rw [dirL_len] at hi
        rw [Nat.zero_add]
        exact ⟨by rw [cell_of_block hd.out (dirL_at _ i hi)]; rfl, frozen_of_block hd.out i⟩
      have hinfo := infoDir (fun i => ((u32 l (k + 4 * i) : Nat) : Int))
      have hone := dirL_one (fun i => ((u32 l (k + 4 * i) : Nat) : Int))
      have hrd : Hid (∀ vs : List Value, Rd (wr.setCells w.heap.size 0 vs) p b o c (k + 40) l) := fun vs => by
        have hk := Keeps.setCells (F := fun j => j = w.heap.size) rfl vs 0 wr
        have hpl2 : p < wr.heap.size := (Array.getElem?_eq_some_iff.1 hd.rd.rd).1
        have hbl2 : b < wr.heap.size := hd.rd.old (by omega)
        exact ⟨(hk.block p hpl2 (by omega)).trans hd.rd.rd, hd.rd.ne, fun i hi => (World.cell?_of_block (w := wr) (a := ⟨b, o + i, none⟩) (hk.block b hbl2 (by omega))).trans (hd.rd.src i hi), hd.rd.bytes, hd.rd.small, hd.rd.cap, hd.rd.huge, fun _ => by rw [size_setCells]; exact hbl2⟩
      have hkp : Hid (∀ vs : List Value, Keeps (fun j => j = p) w (wr.setCells w.heap.size 0 vs)) := fun vs => by
        have hk := Keeps.setCells (F := fun j => j = w.heap.size) rfl vs 0 wr
        exact ⟨hk.os.trans hd.kp.os, hk.tape.trans hd.kp.tape, hk.output.trans hd.kp.output, Nat.le_trans hd.kp.size hk.size, fun q hq hne => (hk.block q (Nat.lt_of_lt_of_le hq hd.kp.size) (by omega)).trans (hd.kp.block q hq hne)⟩
      generalize hF : dirL (fun i => ((u32 l (k + 4 * i) : Nat) : Int)) = F at *
      have HF := Hid.mk hF
      clear hF
      have hrs := Hid.mk (World.rangeAt_setCells_same wr w.heap.size 0 F hth)
      have hall := all_oneCell_toArray hone
      clear hd hone hbox hsame
      go_wp2_with (first | refine wpList_load_mid rfl 25 _ rfl (w.heap.size + 1) 0 rfl F _ hra Try.underlying25 rfl hinfo ?_ | refine wpList_store_mid rfl 25 _ _ rfl w.heap.size 0 F.toArray rfl rfl ?h1 ?h2 hall ?_)
      exact bodyPost_ret (results_cell_mid (P := Try.prog) rfl _ _ w.heap.size F _ rfl hrs.out Try.underlying25 rfl hinfo) rfl ⟨by rw [HF.out], hrd.out _, hkp.out _⟩
end Go.Proofs.Ytcpmapknmkholaa
end

section
namespace Go.Proofs.Ytcpmapknmkholaa
open Go.RowKit

/-- A reader reads, two boxes of nodes are made: what is kept. -/
structure ReadsN (p : Nat) (w w' : World) (cs : Array Value) : Prop where
  k : Keeps (fun j => j = p) w w'
  out : w'.heap[w.heap.size]? = some (.cells (ndc 0 0 0 0 0 (fun _ => 0)) 27 (0, 0))
  box : w'.heap[w.heap.size + 1]? = some (.cells cs 27 (0, 0))
  lt : p < w.heap.size
theorem ReadsN.step {p : Nat} {w w1 w2 : World} {cs : Array Value} (h : ReadsN p w w1 cs) (hk : Keeps (fun j => j = p) w1 w2) : ReadsN p w w2 cs :=
  ⟨h.k.trans hk (fun _ h => .inl h), (hk.block _ (Array.getElem?_eq_some_iff.1 h.out).1 (by have := h.lt; omega)).trans h.out, (hk.block _ (Array.getElem?_eq_some_iff.1 h.box).1 (by have := h.lt; omega)).trans h.box, h.lt⟩
theorem ReadsN.put {p : Nat} {w w1 : World} {cs : Array Value} (h : ReadsN p w w1 cs) (i : Nat) (v : Value) : ReadsN p w (w1.setCell ⟨w.heap.size + 1, i, none⟩ v) (cs.setIfInBounds i v) :=
  ⟨h.k.put (by omega) v, (Below.heap_setCell _ _ _ _ (by simp)).trans h.out, heap_setCell_same _ _ _ _ _ _ h.box, h.lt⟩
/-- An array with a list laid into it. -/
def setArr (cs : Array Value) (o : Nat) : List Value → Array Value
  | [] => cs
  | v :: r => setArr (cs.setIfInBounds o v) (o + 1) r
theorem heap_setCells_same {b : Nat} {t : TypeId} : ∀ (vs : List Value) (o : Nat) (w : World) (cs : Array Value), w.heap[b]? = some (.cells cs t (0, 0)) → (w.setCells b o vs).heap[b]? = some (.cells (setArr cs o vs) t (0, 0))
  | [], _, _, _, h => h
  | _v :: r, o, _w, _cs, h => heap_setCells_same r (o + 1) _ _ (heap_setCell_same _ _ _ _ _ _ h)
theorem arr_ten (k l pp s o : Int) (f : Nat → Int) : setArr (ndc k l pp s o (fun _ => 0)) 5 (dirL f) = ndc k l pp s o (fun i => if i < 10 then f i else 0) := by
  apply Array.ext'
  have e : dirL f = tenl f := rfl
  rw [e]
  simp [setArr]
theorem ReadsN.puts {p : Nat} {w w1 : World} {k l pp s o : Int} (h : ReadsN p w w1 (ndc k l pp s o (fun _ => 0))) (f : Nat → Int) : ReadsN p w (w1.setCells (w.heap.size + 1) 5 (dirL f)) (ndc k l pp s o (fun i => if i < 10 then f i else 0)) := by
  have hk := Keeps.setCells (F := fun j => j = w.heap.size + 1) rfl (dirL f) 5 w1
  have hb := heap_setCells_same (dirL f) 5 _ _ h.box
  rw [arr_ten] at hb
  have hd := h.k
  exact ⟨⟨hk.os.trans hd.os, hk.tape.trans hd.tape, hk.output.trans hd.output, Nat.le_trans hd.size hk.size, fun q hq hne => (hk.block q (Nat.lt_of_lt_of_le hq hd.size) (by omega)).trans (hd.block q hq hne)⟩, (hk.block _ (Array.getElem?_eq_some_iff.1 h.out).1 (by omega)).trans h.out, hb, h.lt⟩
theorem Rd.puts {w : World} {p b o c k : Nat} {l : List Int} (h : Rd w p b o c k l) {g q : Nat} (vs : List Value) (hp : g ≠ p) (hb : g ≠ b) (h0 : 0 < l.length) : Rd (w.setCells g q vs) p b o c k l := by
  have hk := Keeps.setCells (F := fun j => j = g) rfl vs q w
  have hpl2 : p < w.heap.size := (Array.getElem?_eq_some_iff.1 h.rd).1
  have hbl2 : b < w.heap.size := h.old h0
  exact ⟨(hk.block p hpl2 (by omega)).trans h.rd, h.ne, fun i hi => (World.cell?_of_block (w := w) (a := ⟨b, o + i, none⟩) (hk.block b hbl2 (by omega))).trans (h.src i hi), h.bytes, h.small, h.cap, h.huge, fun _ => by rw [size_setCells]; exact hbl2⟩

/-- Two bytes at k; eight bytes, as they come out. -/
def u16 (l : List Int) (k : Nat) : Nat := le (part l k 2)
def s64 (l : List Int) (k : Nat) : Int := wrap64 ((le (part l k 8) : Nat) : Int)
theorem u16_lt {l : List Int} (h : Bytes l) {k : Nat} (hk : k + 2 ≤ l.length) : u16 l k < 65536 := by
  have := le_lt (part_bytes h k 2)
  rw [part_len hk] at this
  exact this
theorem rnum2 (p b o c k : Nat) (l : List Int) (w : World) (h : Rd w p b o c k l) (hk : k + 2 ≤ l.length) (hkc : k < c) :
    Calls Try.prog 42 #[.pointer (some ⟨p, 0, none⟩), .int .i64 2] w fun e w' => e = .returned (.int .i64 ((u16 l k : Nat) : Int)) ∧ Rd w' p b o c (k + 2) l ∧ Keeps (fun j => j = p) w w' := by
  refine (rnumber_any p b o c k 2 l w h hk hkc (by omega)).mono ?_
  rintro e w' ⟨rfl, h1, h2⟩
  refine ⟨?_, h1, h2⟩
  have := u16_lt h.bytes hk
  unfold u16 at *
  congr 2
  unfold wrap64
  omega
theorem rnum8 (p b o c k : Nat) (l : List Int) (w : World) (h : Rd w p b o c k l) (hk : k + 8 ≤ l.length) (hkc : k < c) :
    Calls Try.prog 42 #[.pointer (some ⟨p, 0, none⟩), .int .i64 8] w fun e w' => e = .returned (.int .i64 (s64 l k)) ∧ Rd w' p b o c (k + 8) l ∧ Keeps (fun j => j = p) w w' :=
  rnumber_any p b o c k 8 l w h hk hkc (by omega)

/-- The node that the bytes say. -/
abbrev ndOf (l : List Int) : Value := nd ((u8 l 0 : Nat) : Int) ((u16 l 2 : Nat) : Int) ((u32 l 4 : Nat) : Int) (s64 l 8) ((u32 l 16 : Nat) : Int) (fun i => ((u32 l (24 + 4 * i) : Nat) : Int))
/-- The layout of a node's body is right. -/
structure NodOk (l : List Int) : Prop where
  z1 : Zeros (part l 1 1)
  z2 : Zeros (part l 20 4)
  z3 : Zeros (part l 72 52)
  fits : NFits ((u8 l 0 : Nat) : Int) ((u16 l 2 : Nat) : Int) ((u32 l 4 : Nat) : Int) (s64 l 8) ((u32 l 16 : Nat) : Int) (fun i => ((u32 l (24 + 4 * i) : Nat) : Int))
/-- What readNode does. -/
def RdN (l : List Int) (e : Ending) : Prop := (NodOk l ∧ e = .returned (ndOf l)) ∨ (¬ NodOk l ∧ e = .panicked gaveUp)

set_option maxRecDepth 20000 in
set_option maxHeartbeats 8000000 in
theorem readnode_any (p b o c : Nat) (l : List Int) (w : World) (h : Rd w p b o c 0 l) (hl : l.length = 124) (hcc : 124 < c) :
    Calls Try.prog 30 #[.pointer (some ⟨p, 0, none⟩)] w fun e w' => RdN l e ∧ Keeps (fun j => j = p) w w' := by
  have hpl : p < w.heap.size := (Array.getElem?_eq_some_iff.1 h.rd).1
  have hbl : b < w.heap.size := h.old (by omega)
  obtain ⟨w1, hw1⟩ : ∃ w1, w1 = (w.alloc (.cells (ndc 0 0 0 0 0 (fun _ => 0)) 27)).alloc (.cells (ndc 0 0 0 0 0 (fun _ => 0)) 27) := ⟨_, rfl⟩
  have hB1 : Below w.heap.size w w1 := by rw [hw1]; exact below_two w _ _
  have R1 : ReadsN p w w1 (ndc 0 0 0 0 0 (fun _ => 0)) := ⟨Keeps.of_below _ hB1, by rw [hw1]; exact heap_alloc2_old _ _ _, by rw [hw1]; exact heap_alloc2_new _ _ _, hpl⟩
  have hn0 := rnum1 p b o c 0 l w1 (h.far hB1) (by omega) (by omega)
  have HR0 := Hid.mk R1
  clear h hB1 R1
  go_enter Try.func30, Try.ntmps30
  go_wp2_with fail
  rw [← hw1]
  clear hw1
  refine hn0.mono ?_
  rintro e wa0 ⟨rfl, hr0, hk0⟩
  have R0 := HR0.out.step hk0
  have c0 := cell_of_block R0.box (j := 0) (u := .int .i64 0) rfl
  have f0 := frozen_of_block R0.box 0
  have Rp0 : ReadsN p w (wa0.setCell ⟨w.heap.size + 1, 0, none⟩ (.int .i64 ((u8 l 0 : Nat) : Int))) (ndc ((u8 l 0 : Nat) : Int) 0 0 0 0 (fun _ => 0)) := R0.put 0 (.int .i64 ((u8 l 0 : Nat) : Int))
  have hrp0 := hr0.put (g := w.heap.size + 1) (i := 0) (v := .int .i64 ((u8 l 0 : Nat) : Int)) (by omega) (by omega)
  by_cases hz1 : Zeros (part l 1 1)
  rotate_left
  · have hno1 := rzeros_no p b o c 1 1 l _ hrp0 (by omega) (by omega) hz1
    have HNO1 : Hid (¬ NodOk l) := fun h => hz1 h.z1
    have HR1 := Hid.mk (Rp0)
    clear hn0 hk0 R0 Rp0 hr0 hrp0 HR0
    go_wp2_with fail
    refine hno1.mono ?_
    rintro e wz ⟨rfl, hkz⟩
    have HKz := Hid.mk (HR1.out.step hkz).k
    clear hno1 hkz HR1
    go_wp2
    exact ⟨rfl, .inr ⟨HNO1.out, rfl⟩, HKz.out⟩
  have hn1 := rzeros_ok p b o c 1 1 l _ hrp0 (by omega) (by omega) hz1
  have HZ1 := Hid.mk hz1
  clear hz1
  have HR1 := Hid.mk Rp0
  clear hn0 hk0 R0 Rp0 hr0 hrp0 HR0
  go_wp2_with fail
  refine hn1.mono ?_
  rintro e wa1 ⟨rfl, hr1, hk1⟩
  have R1 := HR1.out.step hk1
  have hn2 := rnum2 p b o c 2 l _ hr1 (by omega) (by omega)
  have HR2 := Hid.mk R1
  clear hn1 hk1 R1 hr1 HR1
  clear c0 f0
  go_wp2_with fail
  refine hn2.mono ?_
  rintro e wa2 ⟨rfl, hr2, hk2⟩
  have R2 := HR2.out.step hk2
  have c2 := cell_of_block R2.box (j := 1) (u := .int .i64 0) rfl
  have f2 := frozen_of_block R2.box 1
  have Rp2 : ReadsN p w (wa2.setCell ⟨w.heap.size + 1, 1, none⟩ (.int .i64 ((u16 l 2 : Nat) : Int))) (ndc ((u8 l 0 : Nat) : Int) ((u16 l 2 : Nat) : Int) 0 0 0 (fun _ => 0)) := R2.put 1 (.int .i64 ((u16 l 2 : Nat) : Int))
  have hrp2 := hr2.put (g := w.heap.size + 1) (i := 1) (v := .int .i64 ((u16 l 2 : Nat) : Int)) (by omega) (by omega)
  have hn3 := rnum4 p b o c 4 l _ hrp2 (by omega) (by omega)
  have HR3 := Hid.mk Rp2
  clear hn2 hk2 R2 Rp2 hr2 hrp2 HR2
  go_wp2_with fail
  refine hn3.mono ?_
  rintro e wa3 ⟨rfl, hr3, hk3⟩
  have R3 := HR3.out.step hk3
  have c3 := cell_of_block R3.box (j := 2) (u := .int .i64 0) rfl
  have f3 := frozen_of_block R3.box 2
  have Rp3 : ReadsN p w (wa3.setCell ⟨w.heap.size + 1, 2, none⟩ (.int .i64 ((u32 l 4 : Nat) : Int))) (ndc ((u8 l 0 : Nat) : Int) ((u16 l 2 : Nat) : Int) ((u32 l 4 : Nat) : Int) 0 0 (fun _ => 0)) := R3.put 2 (.int .i64 ((u32 l 4 : Nat) : Int))
  have hrp3 := hr3.put (g := w.heap.size + 1) (i := 2) (v := .int .i64 ((u32 l 4 : Nat) : Int)) (by omega) (by omega)
  have hn4 := rnum8 p b o c 8 l _ hrp3 (by omega) (by omega)
  have HR4 := Hid.mk Rp3
  clear hn3 hk3 R3 Rp3 hr3 hrp3 HR3
  clear c2 f2
  go_wp2_with fail
  refine hn4.mono ?_
  rintro e wa4 ⟨rfl, hr4, hk4⟩
  have R4 := HR4.out.step hk4
  have c4 := cell_of_block R4.box (j := 3) (u := .int .i64 0) rfl
  have f4 := frozen_of_block R4.box 3
  have Rp4 : ReadsN p w (wa4.setCell ⟨w.heap.size + 1, 3, none⟩ (.int .i64 (s64 l 8))) (ndc ((u8 l 0 : Nat) : Int) ((u16 l 2 : Nat) : Int) ((u32 l 4 : Nat) : Int) (s64 l 8) 0 (fun _ => 0)) := R4.put 3 (.int .i64 (s64 l 8))
  have hrp4 := hr4.put (g := w.heap.size + 1) (i := 3) (v := .int .i64 (s64 l 8)) (by omega) (by omega)
  have hn5 := rnum4 p b o c 16 l _ hrp4 (by omega) (by omega)
  have HR5 := Hid.mk Rp4
  clear hn4 hk4 R4 Rp4 hr4 hrp4 HR4
  clear c3 f3
  go_wp2_with fail
  refine hn5.mono ?_
  rintro e wa5 ⟨rfl, hr5, hk5⟩
  have R5 := HR5.out.step hk5
  have c5 := cell_of_block R5.box (j := 4) (u := .int .i64 0) rfl
  have f5 := frozen_of_block R5.box 4
  have Rp5 : ReadsN p w (wa5.setCell ⟨w.heap.size + 1, 4, none⟩ (.int .i64 ((u32 l 16 : Nat) : Int))) (ndc ((u8 l 0 : Nat) : Int) ((u16 l 2 : Nat) : Int) ((u32 l 4 : Nat) : Int) (s64 l 8) ((u32 l 16 : Nat) : Int) (fun _ => 0)) := R5.put 4 (.int .i64 ((u32 l 16 : Nat) : Int))
  have hrp5 := hr5.put (g := w.heap.size + 1) (i := 4) (v := .int .i64 ((u32 l 16 : Nat) : Int)) (by omega) (by omega)
  by_cases hz6 : Zeros (part l 20 4)
  rotate_left
  · have hno6 := rzeros_no p b o c 20 4 l _ hrp5 (by omega) (by omega) hz6
    have HNO6 : Hid (¬ NodOk l) := fun h => hz6 h.z2
    have HR6 := Hid.mk (Rp5)
    clear hn5 hk5 R5 Rp5 hr5 hrp5 HR5
    go_wp2_with fail
    refine hno6.mono ?_
    rintro e wz ⟨rfl, hkz⟩
    have HKz := Hid.mk (HR6.out.step hkz).k
    clear hno6 hkz HR6
    go_wp2
    exact ⟨rfl, .inr ⟨HNO6.out, rfl⟩, HKz.out⟩
  have hn6 := rzeros_ok p b o c 20 4 l _ hrp5 (by omega) (by omega) hz6
  have HZ6 := Hid.mk hz6
  clear hz6
  have HR6 := Hid.mk Rp5
  clear hn5 hk5 R5 Rp5 hr5 hrp5 HR5
  clear c4 f4
  go_wp2_with fail
  refine hn6.mono ?_
  rintro e wa6 ⟨rfl, hr6, hk6⟩
  have R6 := HR6.out.step hk6
  have hn7 := readdir_any p b o c 24 l _ hr6 (by omega) (by omega)
  have HR7 := Hid.mk R6
  clear hn6 hk6 R6 hr6 HR6
  clear c5 f5
  go_wp2_with fail
  refine hn7.mono ?_
  rintro e wa7 ⟨rfl, hr7, hk7⟩
  have R7 := HR7.out.step hk7
  have hth7 : wa7.there (w.heap.size + 1) 5 (dirL (fun i => ((u32 l (24 + 4 * i) : Nat) : Int))).length := by
    intro j hj
    rw [dirL_len] at hj
    refine ⟨?_, frozen_of_block R7.box _⟩
    rw [cell_of_block R7.box (j := 5 + j) (u := (ndc ((u8 l 0 : Nat) : Int) ((u16 l 2 : Nat) : Int) ((u32 l 4 : Nat) : Int) (s64 l 8) ((u32 l 16 : Nat) : Int) (fun _ => 0))[5 + j]'(by show 5 + j < 17; omega)) (Array.getElem?_eq_getElem (by show 5 + j < 17; omega))]
    rfl
  have Rp7 := R7.puts (fun i => ((u32 l (24 + 4 * i) : Nat) : Int))
  have hrp7 := hr7.puts (g := w.heap.size + 1) (q := 5) (dirL (fun i => ((u32 l (24 + 4 * i) : Nat) : Int))) (by omega) (by omega) (by omega)
  have hn8 := rnum4 p b o c 64 l _ hrp7 (by omega) (by omega)
  have hinfo7 := infoDir (fun i => ((u32 l (24 + 4 * i) : Nat) : Int))
  have hall7 := all_oneCell_toArray (dirL_one (fun i => ((u32 l (24 + 4 * i) : Nat) : Int)))
  have HR8 := Hid.mk Rp7
  clear hn7 hk7 R7 Rp7 hr7 hrp7 HR7
  generalize hF7 : dirL (fun i => ((u32 l (24 + 4 * i) : Nat) : Int)) = F at *
  go_wp2_with (refine wpList_store_mid rfl 25 _ _ rfl (w.heap.size + 1) 5 F.toArray rfl rfl ?h1 ?h2 hall7 ?_)
  case h1 => simpa using hth7
  case h2 => simpa using hinfo7
  clear hth7 hinfo7 hall7
  refine hn8.mono ?_
  rintro e wa8 ⟨rfl, hr8, hk8⟩
  have R8 := HR8.out.step hk8
  have c8 := cell_of_block R8.box (j := 15) (u := .int .i64 0) rfl
  have f8 := frozen_of_block R8.box 15
  have Rp8 : ReadsN p w (wa8.setCell ⟨w.heap.size + 1, 15, none⟩ (.int .i64 ((u32 l 64 : Nat) : Int))) (ndc ((u8 l 0 : Nat) : Int) ((u16 l 2 : Nat) : Int) ((u32 l 4 : Nat) : Int) (s64 l 8) ((u32 l 16 : Nat) : Int) (fun i => if i < 11 then ((u32 l (24 + 4 * i) : Nat) : Int) else 0)) := R8.put 15 (.int .i64 ((u32 l 64 : Nat) : Int))
  have hrp8 := hr8.put (g := w.heap.size + 1) (i := 15) (v := .int .i64 ((u32 l 64 : Nat) : Int)) (by omega) (by omega)
  have hn9 := rnum4 p b o c 68 l _ hrp8 (by omega) (by omega)
  have HR9 := Hid.mk Rp8
  clear hn8 hk8 R8 Rp8 hr8 hrp8 HR8
  go_wp2_with fail
  refine hn9.mono ?_
  rintro e wa9 ⟨rfl, hr9, hk9⟩
  have R9 := HR9.out.step hk9
  have c9 := cell_of_block R9.box (j := 16) (u := .int .i64 0) rfl
  have f9 := frozen_of_block R9.box 16
  have Rp9 : ReadsN p w (wa9.setCell ⟨w.heap.size + 1, 16, none⟩ (.int .i64 ((u32 l 68 : Nat) : Int))) (ndc ((u8 l 0 : Nat) : Int) ((u16 l 2 : Nat) : Int) ((u32 l 4 : Nat) : Int) (s64 l 8) ((u32 l 16 : Nat) : Int) (fun i => if i < 12 then ((u32 l (24 + 4 * i) : Nat) : Int) else 0)) := R9.put 16 (.int .i64 ((u32 l 68 : Nat) : Int))
  have hrp9 := hr9.put (g := w.heap.size + 1) (i := 16) (v := .int .i64 ((u32 l 68 : Nat) : Int)) (by omega) (by omega)
  by_cases hz10 : Zeros (part l 72 52)
  rotate_left
  · have hno10 := rzeros_no p b o c 72 52 l _ hrp9 (by omega) (by omega) hz10
    have HNO10 : Hid (¬ NodOk l) := fun h => hz10 h.z3
    have HR10 := Hid.mk (Rp9)
    clear hn9 hk9 R9 Rp9 hr9 hrp9 HR9
    go_wp2_with fail
    refine hno10.mono ?_
    rintro e wz ⟨rfl, hkz⟩
    have HKz := Hid.mk (HR10.out.step hkz).k
    clear hno10 hkz HR10
    go_wp2
    exact ⟨rfl, .inr ⟨HNO10.out, rfl⟩, HKz.out⟩
  have hn10 := rzeros_ok p b o c 72 52 l _ hrp9 (by omega) (by omega) hz10
  have HZ10 := Hid.mk hz10
  clear hz10
  have HR10 := Hid.mk Rp9
  clear hn9 hk9 R9 Rp9 hr9 hrp9 HR9
  clear c8 f8
  go_wp2_with fail
  refine hn10.mono ?_
  rintro e wa10 ⟨rfl, _, hk10⟩
  have R10 : ReadsN p w wa10 (ndc ((u8 l 0 : Nat) : Int) ((u16 l 2 : Nat) : Int) ((u32 l 4 : Nat) : Int) (s64 l 8) ((u32 l 16 : Nat) : Int) (fun i => ((u32 l (24 + 4 * i) : Nat) : Int))) := HR10.out.step hk10
  have hl10 := range_of (cs := ndl ((u8 l 0 : Nat) : Int) ((u16 l 2 : Nat) : Int) ((u32 l 4 : Nat) : Int) (s64 l 8) ((u32 l 16 : Nat) : Int) (fun i => ((u32 l (24 + 4 * i) : Nat) : Int))) R10.box
  have Hl10 := Hid.mk hl10
  have HR11 := Hid.mk R10
  have hfit := nfit_any ((u8 l 0 : Nat) : Int) ((u16 l 2 : Nat) : Int) ((u32 l 4 : Nat) : Int) (s64 l 8) ((u32 l 16 : Nat) : Int) (fun i => ((u32 l (24 + 4 * i) : Nat) : Int)) wa10
  clear hn10 hk10 R10 HR10 hl10 c9 f9
  go_wp2_with (refine wpList_load_mid rfl 27 _ rfl (w.heap.size + 1) 0 rfl (ndl ((u8 l 0 : Nat) : Int) ((u16 l 2 : Nat) : Int) ((u32 l 4 : Nat) : Int) (s64 l 8) ((u32 l 16 : Nat) : Int) (fun i => ((u32 l (24 + 4 * i) : Nat) : Int))) _ Hl10.out Try.underlying27 rfl infoNode ?_)
  refine hfit.mono ?_
  rintro e wf ⟨⟨bb, rfl, hbb⟩, hbf⟩
  have Rf := HR11.out.step (Keeps.of_below _ hbf)
  have HF := Hid.mk hbb
  have HRf := Hid.mk Rf
  clear hfit hbb hbf Rf HR11 Hl10
  cases bb with
  | false =>
    have hm := must_f
    have HX : Hid (¬ NodOk l) := fun h => absurd (HF.out.2 h.fits) (by simp)
    go_wp2_with fail
    refine (hm _).mono ?_
    rintro e wg ⟨rfl, hw⟩
    have hw' := hw.symm
    subst hw'
    clear hw hm
    go_wp2
    exact ⟨rfl, .inr ⟨HX.out, rfl⟩, HRf.out.k⟩
  | true =>
    have hm := must_t
    have HX : Hid (NodOk l) := ⟨HZ1.out, HZ6.out, HZ10.out, HF.out.1 rfl⟩
    clear HF
    go_wp2_with fail
    refine (hm _).mono ?_
    rintro e wg ⟨rfl, hw⟩
    have hw' := hw.symm
    subst hw'
    clear hw hm
    have hra := Hid.mk (range_of (cs := ndl ((u8 l 0 : Nat) : Int) ((u16 l 2 : Nat) : Int) ((u32 l 4 : Nat) : Int) (s64 l 8) ((u32 l 16 : Nat) : Int) (fun i => ((u32 l (24 + 4 * i) : Nat) : Int))) HRf.out.box)
    have hth : wf.there w.heap.size 0 (ndl ((u8 l 0 : Nat) : Int) ((u16 l 2 : Nat) : Int) ((u32 l 4 : Nat) : Int) (s64 l 8) ((u32 l 16 : Nat) : Int) (fun i => ((u32 l (24 + 4 * i) : Nat) : Int))).length := by
      intro j hj
      have hj' : j < 17 := hj
      rw [Nat.zero_add]
      refine ⟨?_, frozen_of_block HRf.out.out _⟩
      rw [cell_of_block HRf.out.out (j := j) (u := (ndc 0 0 0 0 0 (fun _ => 0))[j]'hj') (Array.getElem?_eq_getElem hj')]
      rfl
    have hrs := Hid.mk (World.rangeAt_setCells_same wf w.heap.size 0 _ hth)
    have Hth := Hid.mk hth
    have hone : ∀ v ∈ ndl ((u8 l 0 : Nat) : Int) ((u16 l 2 : Nat) : Int) ((u32 l 4 : Nat) : Int) (s64 l 8) ((u32 l 16 : Nat) : Int) (fun i => ((u32 l (24 + 4 * i) : Nat) : Int)), v.oneCell' = true := by simp [Value.oneCell']
    have hall := all_oneCell_toArray hone
    have HK : Hid (∀ vs : List Value, Keeps (fun j => j = p) w (wf.setCells w.heap.size 0 vs)) := fun vs => by
      have hk := Keeps.setCells (F := fun j => j = w.heap.size) rfl vs 0 wf
      have hd := HRf.out.k
      exact ⟨hk.os.trans hd.os, hk.tape.trans hd.tape, hk.output.trans hd.output, Nat.le_trans hd.size hk.size, fun q hq hne => (hk.block q (Nat.lt_of_lt_of_le hq hd.size) (by omega)).trans (hd.block q hq hne)⟩
    clear hth hone HRf
    go_wp2_with (first | refine wpList_load_mid rfl 27 _ rfl (w.heap.size + 1) 0 rfl (ndl ((u8 l 0 : Nat) : Int) ((u16 l 2 : Nat) : Int) ((u32 l 4 : Nat) : Int) (s64 l 8) ((u32 l 16 : Nat) : Int) (fun i => ((u32 l (24 + 4 * i) : Nat) : Int))) _ hra.out Try.underlying27 rfl infoNode ?_ | refine wpList_store_mid rfl 27 _ _ rfl w.heap.size 0 (ndc ((u8 l 0 : Nat) : Int) ((u16 l 2 : Nat) : Int) ((u32 l 4 : Nat) : Int) (s64 l 8) ((u32 l 16 : Nat) : Int) (fun i => ((u32 l (24 + 4 * i) : Nat) : Int))) rfl rfl ?h1 ?h2 hall ?_)
    case h1 => exact Hth.out
    case h2 => exact infoNode
    exact bodyPost_ret (results_cell_mid (P := Try.prog) rfl _ _ w.heap.size _ _ rfl hrs.out Try.underlying27 rfl infoNode) rfl ⟨.inl ⟨HX.out, rfl⟩, HK.out _⟩
end Go.Proofs.Ytcpmapknmkholaa
end

section
namespace Go.Proofs.Ytcpmapknmkholaa
open Go.RowKit

theorem scatch_panic (g1 g2 : Nat) (a0 a1 a2 : Value) (x : Value) (w : World) (h1 : w.heap[g1]? = some (.cells #[a0, a1, a2] 31 (0, 0))) (h2 : w.heap[g2]? = some (.cells #[x] 37 (0, 0))) (hne : g1 ≠ g2) :
    CallsD Try.prog 35 #[.pointer (some ⟨g1, 0, none⟩), .pointer (some ⟨g2, 0, none⟩)] (.panicking gaveUp) w fun e u' w' =>
      e = .returned (.tuple #[]) ∧ u' = .panicking [{ v := .iface 37 (.int .i64 6), recovered := true }] ∧ w' = (((w.setCell ⟨g1, 0, none⟩ (.int .i64 0)).setCell ⟨g1, 1, none⟩ (.int .i64 0)).setCell ⟨g1, 2, none⟩ (.int .i64 0)).setCell ⟨g2, 0, none⟩ (.int .i64 6) := by
  have c0 := cell_of_block h1 (j := 0) rfl
  have c1 := cell_of_block h1 (j := 1) rfl
  have c2 := cell_of_block h1 (j := 2) rfl
  have f0 := frozen_of_block h1 0
  have f1 := frozen_of_block h1 1
  have f2 := frozen_of_block h1 2
  have d0 := cell_of_block h2 (j := 0) rfl
  have e0 := frozen_of_block h2 0
  have hne' : ¬ g2 = g1 := fun e => hne e.symm
  refine callsD_of_wpS Try.func35 rfl fun c₀ cs hu => ?_
  apply wpS_seq
  apply wpS_region
  simp [wpOpsS, go_sem, recoverD, hu, Try.ntmps35, Exit.thenS]
  refine wpS_cond (t := true) (by simp [Act.eval, Array.replicate]) ?_
  simp only [if_true]
  apply wpS_region
  simp [wpOpsS, go_sem, c0, c1, c2, f0, f1, f2, d0, e0, bodyPostS, results, Try.results35]

theorem scatch_idle (g1 g2 : Nat) (w : World) :
    CallsD Try.prog 35 #[.pointer (some ⟨g1, 0, none⟩), .pointer (some ⟨g2, 0, none⟩)] .returning w fun e u' w' => e = .returned (.tuple #[]) ∧ u' = .returning ∧ w' = w := by
  refine callsD_of_wpS Try.func35 rfl fun c₀ cs hu => ?_
  apply wpS_seq
  apply wpS_region
  simp [wpOpsS, go_sem, recoverD, hu, Try.ntmps35, Exit.thenS]
  refine wpS_cond (t := false) (by simp [Act.eval, Array.replicate]) ?_
  simp only [Bool.false_eq_true, if_false]
  refine wpS_of_wp (wp_skip ?_)
  cases c₀
  simp_all [bodyPostS, results, Try.results35]

set_option maxRecDepth 20000 in
set_option maxHeartbeats 2000000 in
theorem decsuper_len (a : Option Addr) (n c : Nat) (w : World) (hn : n ≠ 512) (_hb : n ≤ 140737488355328) :
    Calls Try.prog 17 #[.slice a n c] w fun e w' => e = .returned (.tuple #[.agg #[.int .i64 0, .int .i64 0, .int .i64 0], .int .i64 2]) ∧ Below w.heap.size w w' := by
  have hne : ((n : Int) != 512) = true := by rw [bne_iff_ne]; omega
  go_enter_defers Try.func17, Try.ntmps17
  go_wp2
  simp [bodyPostD, Leaves, results, Try.results17, go_sem]
  exact below_two w _ _

theorem below_put {B : Nat} {w wx : World} (h : Below B w wx) {g i : Nat} (hg : B ≤ g) (hB : B ≤ wx.heap.size) (v : Value) : Below B w (wx.setCell ⟨g, i, none⟩ v) :=
  h.trans ((Keeps.setCell (F := fun j => j = g) (p := ⟨g, i, none⟩) wx rfl v).below (fun j hj => by omega) hB)
theorem size_setCell (w : World) (a : Addr) (v : Value) : (w.setCell a v).heap.size = w.heap.size := by simp [World.setCell]
theorem below4 {B : Nat} {w wx : World} (h : Below B w wx) {g1 g2 : Nat} (h1 : B ≤ g1) (h2 : B ≤ g2) (hB : B ≤ wx.heap.size) (x y z u : Value) :
    Below B w ((((wx.setCell ⟨g1, 0, none⟩ x).setCell ⟨g1, 1, none⟩ y).setCell ⟨g1, 2, none⟩ z).setCell ⟨g2, 0, none⟩ u) :=
  below_put (below_put (below_put (below_put h h1 hB x) h1 (by rw [size_setCell]; exact hB) y) h1 (by rw [size_setCell, size_setCell]; exact hB) z) h2 (by rw [size_setCell, size_setCell, size_setCell]; exact hB) u

/-- A superblock's bytes are right. -/
def SuperOk (l : List Int) : Prop := SumOk l ∧ SupOk (part l 0 508)

set_option maxRecDepth 20000 in
set_option maxHeartbeats 4000000 in
theorem decsuper_ok (b o c : Nat) (l : List Int) (w : World) (hl : l.length = 512) (hc : 512 ≤ c) (hcc : c ≤ 9223372036854775807) (hb : Bytes l) (hs : ∀ i, i < 512 → w.cell? ⟨b, o + i, none⟩ = some (.int .u8 (l.getD i 0))) (hok : SuperOk l) :
    Calls Try.prog 17 #[.slice (some ⟨b, o, none⟩) 512 c] w fun e w' => e = .returned (.tuple #[.agg #[.int .i64 ((u32 l 8 : Nat) : Int), .int .i64 ((u32 l 12 : Nat) : Int), .int .i64 ((u32 l 16 : Nat) : Int)], .int .i64 0]) ∧ Below w.heap.size w w' := by
  have hmf : ∀ (fn : Fn) (first cap : Array Value) (w : World), (Instr.makeFunc fn first cap).run Try.prog w = .ok (.func fn first cap) w := fun _ _ _ _ => rfl
  obtain ⟨w1, hw1⟩ : ∃ w1, w1 = (w.alloc (.cells #[.int .i64 0, .int .i64 0, .int .i64 0] 31)).alloc (.cells #[.int .i64 0] 37) := ⟨_, rfl⟩
  have hB1 : Below w.heap.size w w1 := by rw [hw1]; exact below_two w _ _
  have hsz1 : w1.heap.size = w.heap.size + 2 := by rw [hw1]; simp
  have hg1 : w1.heap[w.heap.size]? = some (.cells #[.int .i64 0, .int .i64 0, .int .i64 0] 31 (0, 0)) := by rw [hw1]; exact heap_alloc2_old _ _ _
  have hg2 : w1.heap[w.heap.size + 1]? = some (.cells #[.int .i64 0] 37 (0, 0)) := by rw [hw1]; exact heap_alloc2_new _ _ _
  have hsm := summed_ok b o 512 c l w1 hl (by omega) (by omega) hc hcc hb (fun i hi => cell_later hB1 (hs i hi)) hok.1
  have HOK := Hid.mk hok.2
  clear hs hok
  go_enter_defers Try.func17, Try.ntmps17
  go_wp2_with fail
  rw [← hw1]
  clear hw1
  refine hsm.mono ?_
  rintro e w2 ⟨p, rfl, hp, hrd, hb2⟩
  have hrs := readsuper_ok p b o c (part l 0 508) w2 hrd (part_len (by omega)) HOK.out
  have HB2 : Hid (Below w.heap.size w w2) := hB1.trans (hb2.mono hB1.size)
  have HG1 := Hid.mk ((hb2.block w.heap.size (by omega)).trans hg1)
  have HG2 := Hid.mk ((hb2.block (w.heap.size + 1) (by omega)).trans hg2)
  have u8' : u32 (part l 0 508) 8 = u32 l 8 := by unfold u32; congr 1; simp [part, List.drop_take, List.take_take]
  have u12' : u32 (part l 0 508) 12 = u32 l 12 := by unfold u32; congr 1; simp [part, List.drop_take, List.take_take]
  have u16' : u32 (part l 0 508) 16 = u32 l 16 := by unfold u32; congr 1; simp [part, List.drop_take, List.take_take]
  rw [u8', u12', u16'] at hrs
  clear hsm hrd hb2 hB1 hg1 hg2 u8' u12' u16' HOK
  go_wp2_with fail
  refine hrs.mono ?_
  rintro e w3 ⟨rfl, hk3⟩
  have hg1 := (hk3.block w.heap.size (Array.getElem?_eq_some_iff.1 HG1.out).1 (by omega)).trans HG1.out
  have hg2 := (hk3.block (w.heap.size + 1) (Array.getElem?_eq_some_iff.1 HG2.out).1 (by omega)).trans HG2.out
  have HB3 : Hid (Below w.heap.size w w3) := HB2.out.trans (hk3.below (fun j hj => by omega) HB2.out.size)
  have c0 := cell_of_block hg1 (j := 0) rfl
  have c1 := cell_of_block hg1 (j := 1) rfl
  have c2 := cell_of_block hg1 (j := 2) rfl
  have f0 := frozen_of_block hg1 0
  have f1 := frozen_of_block hg1 1
  have f2 := frozen_of_block hg1 2
  have d0 := cell_of_block hg2 (j := 0) rfl
  have e0 := frozen_of_block hg2 0
  clear hrs hk3 HG1 HG2 HB2 hg1 hg2
  have hB4 := Hid.mk (below4 HB3.out (Nat.le_refl w.heap.size) (show w.heap.size ≤ w.heap.size + 1 by omega) HB3.out.size (.int .i64 ((u32 l 8 : Nat) : Int)) (.int .i64 ((u32 l 12 : Nat) : Int)) (.int .i64 ((u32 l 16 : Nat) : Int)) (.int .i64 0))
  go_wp2
  refine leaves_cons (f := 35) (args := #[.pointer (some ⟨w.heap.size, 0, none⟩), .pointer (some ⟨w.heap.size + 1, 0, none⟩)]) (by simp) (by simp [go_sem]) ?_
  refine (scatch_idle _ _ _).mono ?_
  rintro e u' w'' ⟨rfl, rfl, rfl⟩
  simp [Leaves, settle, results, Try.results17, go_sem, c0, c1, c2, d0]
  exact hB4.out

set_option maxRecDepth 20000 in
set_option maxHeartbeats 4000000 in
theorem decsuper_no1 (b o c : Nat) (l : List Int) (w : World) (hl : l.length = 512) (hc : 512 ≤ c) (hcc : c ≤ 9223372036854775807) (hb : Bytes l) (hs : ∀ i, i < 512 → w.cell? ⟨b, o + i, none⟩ = some (.int .u8 (l.getD i 0))) (h1 : ¬ SumOk l) :
    Calls Try.prog 17 #[.slice (some ⟨b, o, none⟩) 512 c] w fun e w' => e = .returned (.tuple #[.agg #[.int .i64 0, .int .i64 0, .int .i64 0], .int .i64 6]) ∧ Below w.heap.size w w' := by
  have hmf : ∀ (fn : Fn) (first cap : Array Value) (w : World), (Instr.makeFunc fn first cap).run Try.prog w = .ok (.func fn first cap) w := fun _ _ _ _ => rfl
  obtain ⟨w1, hw1⟩ : ∃ w1, w1 = (w.alloc (.cells #[.int .i64 0, .int .i64 0, .int .i64 0] 31)).alloc (.cells #[.int .i64 0] 37) := ⟨_, rfl⟩
  have hB1 : Below w.heap.size w w1 := by rw [hw1]; exact below_two w _ _
  have hsz1 : w1.heap.size = w.heap.size + 2 := by rw [hw1]; simp
  have hg1 : w1.heap[w.heap.size]? = some (.cells #[.int .i64 0, .int .i64 0, .int .i64 0] 31 (0, 0)) := by rw [hw1]; exact heap_alloc2_old _ _ _
  have hg2 : w1.heap[w.heap.size + 1]? = some (.cells #[.int .i64 0] 37 (0, 0)) := by rw [hw1]; exact heap_alloc2_new _ _ _
  have hsm := summed_no b o 512 c l w1 hl (by omega) (by omega) hc hcc hb (fun i hi => cell_later hB1 (hs i hi)) h1
  clear hs h1
  go_enter_defers Try.func17, Try.ntmps17
  go_wp2_with fail
  rw [← hw1]
  clear hw1
  refine hsm.mono ?_
  rintro e w2 ⟨rfl, hb2⟩
  have HB2 : Below w.heap.size w w2 := hB1.trans (hb2.mono hB1.size)
  have HG := Hid.mk (And.intro ((hb2.block w.heap.size (by omega)).trans hg1) ((hb2.block (w.heap.size + 1) (by omega)).trans hg2))
  have hB4 := Hid.mk (below4 HB2 (Nat.le_refl w.heap.size) (show w.heap.size ≤ w.heap.size + 1 by omega) HB2.size (.int .i64 0) (.int .i64 0) (.int .i64 0) (.int .i64 6))
  clear hsm hb2 hB1 hg1 hg2 HB2
  go_wp2
  refine leaves_cons (f := 35) (args := #[.pointer (some ⟨w.heap.size, 0, none⟩), .pointer (some ⟨w.heap.size + 1, 0, none⟩)]) (by simp) (by simp [go_sem]) ?_
  refine (scatch_panic w.heap.size (w.heap.size + 1) _ _ _ _ _ HG.out.1 HG.out.2 (by omega)).mono ?_
  rintro e u' w'' ⟨rfl, rfl, rfl⟩
  have c0 := cell_of_block HG.out.1 (j := 0) rfl
  have c1 := cell_of_block HG.out.1 (j := 1) rfl
  have c2 := cell_of_block HG.out.1 (j := 2) rfl
  have d0 := cell_of_block HG.out.2 (j := 0) rfl
  simp [Leaves, settle, results, Try.results17, go_sem, c0, c1, c2, d0]
  exact hB4.out

set_option maxRecDepth 20000 in
set_option maxHeartbeats 4000000 in
theorem decsuper_no2 (b o c : Nat) (l : List Int) (w : World) (hl : l.length = 512) (hc : 512 ≤ c) (hcc : c ≤ 9223372036854775807) (hb : Bytes l) (hs : ∀ i, i < 512 → w.cell? ⟨b, o + i, none⟩ = some (.int .u8 (l.getD i 0))) (h1 : SumOk l) (h2 : ¬ SupOk (part l 0 508)) :
    Calls Try.prog 17 #[.slice (some ⟨b, o, none⟩) 512 c] w fun e w' => e = .returned (.tuple #[.agg #[.int .i64 0, .int .i64 0, .int .i64 0], .int .i64 6]) ∧ Below w.heap.size w w' := by
  have hmf : ∀ (fn : Fn) (first cap : Array Value) (w : World), (Instr.makeFunc fn first cap).run Try.prog w = .ok (.func fn first cap) w := fun _ _ _ _ => rfl
  obtain ⟨w1, hw1⟩ : ∃ w1, w1 = (w.alloc (.cells #[.int .i64 0, .int .i64 0, .int .i64 0] 31)).alloc (.cells #[.int .i64 0] 37) := ⟨_, rfl⟩
  have hB1 : Below w.heap.size w w1 := by rw [hw1]; exact below_two w _ _
  have hsz1 : w1.heap.size = w.heap.size + 2 := by rw [hw1]; simp
  have hg1 : w1.heap[w.heap.size]? = some (.cells #[.int .i64 0, .int .i64 0, .int .i64 0] 31 (0, 0)) := by rw [hw1]; exact heap_alloc2_old _ _ _
  have hg2 : w1.heap[w.heap.size + 1]? = some (.cells #[.int .i64 0] 37 (0, 0)) := by rw [hw1]; exact heap_alloc2_new _ _ _
  have hsm := summed_ok b o 512 c l w1 hl (by omega) (by omega) hc hcc hb (fun i hi => cell_later hB1 (hs i hi)) h1
  have HOK := Hid.mk h2
  clear hs h1 h2
  go_enter_defers Try.func17, Try.ntmps17
  go_wp2_with fail
  rw [← hw1]
  clear hw1
  refine hsm.mono ?_
  rintro e w2 ⟨p, rfl, hp, hrd, hb2⟩
  have hrs := readsuper_no p b o c (part l 0 508) w2 hrd (part_len (by omega)) HOK.out
  have HB2 : Hid (Below w.heap.size w w2) := hB1.trans (hb2.mono hB1.size)
  have HG1 := Hid.mk ((hb2.block w.heap.size (by omega)).trans hg1)
  have HG2 := Hid.mk ((hb2.block (w.heap.size + 1) (by omega)).trans hg2)
  clear hsm hrd hb2 hB1 hg1 hg2 HOK
  go_wp2_with fail
  refine hrs.mono ?_
  rintro e w3 ⟨rfl, hk3⟩
  have hg1 := (hk3.block w.heap.size (Array.getElem?_eq_some_iff.1 HG1.out).1 (by omega)).trans HG1.out
  have hg2 := (hk3.block (w.heap.size + 1) (Array.getElem?_eq_some_iff.1 HG2.out).1 (by omega)).trans HG2.out
  have HB3 : Hid (Below w.heap.size w w3) := HB2.out.trans (hk3.below (fun j hj => by omega) HB2.out.size)
  have HG := Hid.mk (And.intro hg1 hg2)
  have hB4 := Hid.mk (below4 HB3.out (Nat.le_refl w.heap.size) (show w.heap.size ≤ w.heap.size + 1 by omega) HB3.out.size (.int .i64 0) (.int .i64 0) (.int .i64 0) (.int .i64 6))
  clear hrs hk3 HG1 HG2 HB2 hg1 hg2
  go_wp2
  refine leaves_cons (f := 35) (args := #[.pointer (some ⟨w.heap.size, 0, none⟩), .pointer (some ⟨w.heap.size + 1, 0, none⟩)]) (by simp) (by simp [go_sem]) ?_
  refine (scatch_panic w.heap.size (w.heap.size + 1) _ _ _ _ _ HG.out.1 HG.out.2 (by omega)).mono ?_
  rintro e u' w'' ⟨rfl, rfl, rfl⟩
  have c0 := cell_of_block HG.out.1 (j := 0) rfl
  have c1 := cell_of_block HG.out.1 (j := 1) rfl
  have c2 := cell_of_block HG.out.1 (j := 2) rfl
  have d0 := cell_of_block HG.out.2 (j := 0) rfl
  simp [Leaves, settle, results, Try.results17, go_sem, c0, c1, c2, d0]
  exact hB4.out

theorem decsuper_no (b o c : Nat) (l : List Int) (w : World) (hl : l.length = 512) (hc : 512 ≤ c) (hcc : c ≤ 9223372036854775807) (hb : Bytes l) (hs : ∀ i, i < 512 → w.cell? ⟨b, o + i, none⟩ = some (.int .u8 (l.getD i 0))) (hok : ¬ SuperOk l) :
    Calls Try.prog 17 #[.slice (some ⟨b, o, none⟩) 512 c] w fun e w' => e = .returned (.tuple #[.agg #[.int .i64 0, .int .i64 0, .int .i64 0], .int .i64 6]) ∧ Below w.heap.size w w' := by
  by_cases h1 : SumOk l
  · exact decsuper_no2 b o c l w hl hc hcc hb hs h1 (fun h2 => hok ⟨h1, h2⟩)
  · exact decsuper_no1 b o c l w hl hc hcc hb hs h1
end Go.Proofs.Ytcpmapknmkholaa
end
