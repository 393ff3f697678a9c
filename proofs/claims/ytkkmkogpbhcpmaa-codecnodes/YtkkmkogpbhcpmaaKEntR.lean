import Derived.Test.YtkkmkogpbhcpmaaKEntD
namespace Go.Proofs.Ytkkmkogpbhcpmaa
open Go.RowKit

/-- A reader reads, two boxes of entries are made: what is kept. -/
structure ReadsE (p : Nat) (w w' : World) (cs : Array Value) : Prop where
  k : Keeps (fun j => j = p) w w'
  out : w'.heap[w.heap.size]? = some (.cells #[.int .i64 0, .int .i64 0, .string ⟨#[]⟩, .int .i64 0] 89 (0, 0))
  box : w'.heap[w.heap.size + 1]? = some (.cells cs 89 (0, 0))
  lt : p < w.heap.size
theorem ReadsE.step {p : Nat} {w w1 w2 : World} {cs : Array Value} (h : ReadsE p w w1 cs) (hk : Keeps (fun j => j = p) w1 w2) : ReadsE p w w2 cs :=
  ⟨h.k.trans hk (fun _ h => .inl h), (hk.block _ (Array.getElem?_eq_some_iff.1 h.out).1 (by have := h.lt; omega)).trans h.out, (hk.block _ (Array.getElem?_eq_some_iff.1 h.box).1 (by have := h.lt; omega)).trans h.box, h.lt⟩
theorem ReadsE.put {p : Nat} {w w1 : World} {cs : Array Value} (h : ReadsE p w w1 cs) (i : Nat) (v : Value) : ReadsE p w (w1.setCell ⟨w.heap.size + 1, i, none⟩ v) (cs.setIfInBounds i v) :=
  ⟨h.k.put (by omega) v, (Below.heap_setCell _ _ _ _ (by simp)).trans h.out, heap_setCell_same _ _ _ _ _ _ h.box, h.lt⟩
theorem Rd.put {w : World} {p b o c k : Nat} {l : List Int} (h : Rd w p b o c k l) {g i : Nat} {v : Value} (hp : g ≠ p) (hb : g ≠ b) : Rd (w.setCell ⟨g, i, none⟩ v) p b o c k l :=
  ⟨(Below.heap_setCell _ _ _ _ (fun e => hp e.symm)).trans h.rd, h.ne, fun j hj => (World.cell?_of_block (w := w) (a := ⟨b, o + j, none⟩) (Below.heap_setCell _ _ _ _ (fun e => hb e.symm))).trans (h.src j hj), h.bytes, h.small, h.cap, h.huge, fun h0 => by rw [show (w.setCell ⟨g, i, none⟩ v).heap.size = w.heap.size by simp [World.setCell]]; exact h.old h0⟩

set_option maxRecDepth 20000 in
set_option maxHeartbeats 4000000 in
theorem readent_ok (p b o c : Nat) (l : List Int) (w : World) (h : Rd w p b o c 0 l) (hl : l.length = 60) (hcc : 60 < c) (hok : EntOk l) :
    Calls Try.prog 99 #[.pointer (some ⟨p, 0, none⟩)] w fun e w' => e = .returned (ent ((u32 l 0 : Nat) : Int) ((u8 l 4 : Nat) : Int) (nm l) 0) ∧ Keeps (fun j => j = p) w w' := by
  have h54 := hok.len
  have HZ := Hid.mk hok.zeros
  have HF := Hid.mk hok.fits
  clear hok
  have hc := h.cap
  have hpl : p < w.heap.size := (Array.getElem?_eq_some_iff.1 h.rd).1
  have hbl : b < w.heap.size := h.old (by omega)
  obtain ⟨w1, hw1⟩ : ∃ w1, w1 = (w.alloc (.cells #[.int .i64 0, .int .i64 0, .string ⟨#[]⟩, .int .i64 0] 89)).alloc (.cells #[.int .i64 0, .int .i64 0, .string ⟨#[]⟩, .int .i64 0] 89) := ⟨_, rfl⟩
  have hB1 : Below w.heap.size w w1 := by rw [hw1]; exact below_two w _ _
  have R1 : ReadsE p w w1 #[.int .i64 0, .int .i64 0, .string ⟨#[]⟩, .int .i64 0] := ⟨Keeps.of_below _ hB1, by rw [hw1]; exact heap_alloc2_old _ _ _, by rw [hw1]; exact heap_alloc2_new _ _ _, hpl⟩
  have hn1 := rnum4 p b o c 0 l w1 (h.far hB1) (by omega) (by omega)
  have hby := h.bytes
  have HR1 := Hid.mk R1
  clear h hB1 R1
  go_enter Try.func99, Try.ntmps99
  go_wp2_with fail
  rw [← hw1]
  clear hw1
  refine hn1.mono ?_
  rintro e w2 ⟨rfl, hr2, hk2⟩
  have R2 := HR1.out.step hk2
  have c2 := cell_of_block R2.box (j := 0) rfl
  have f2 := frozen_of_block R2.box 0
  have R2' := R2.put 0 (.int .i64 ((u32 l 0 : Nat) : Int))
  have hr2' := hr2.put (g := w.heap.size + 1) (i := 0) (v := .int .i64 ((u32 l 0 : Nat) : Int)) (by omega) (by omega)
  have hn2 := rnum1 p b o c 4 l _ hr2' (by omega) (by omega)
  have HR2 := Hid.mk R2'
  clear hn1 hk2 R2 R2' hr2 hr2' HR1
  go_wp2_with fail
  refine hn2.mono ?_
  rintro e w3 ⟨rfl, hr3, hk3⟩
  have R3 := HR2.out.step hk3
  have c3 := cell_of_block R3.box (j := 1) (u := .int .i64 0) rfl
  have f3 := frozen_of_block R3.box 1
  have R3' := R3.put 1 (.int .i64 ((u8 l 4 : Nat) : Int))
  have hr3' := hr3.put (g := w.heap.size + 1) (i := 1) (v := .int .i64 ((u8 l 4 : Nat) : Int)) (by omega) (by omega)
  have hn3 := rnum1 p b o c 5 l _ hr3' (by omega) (by omega)
  have HR3 := Hid.mk R3'
  clear hn2 hk3 R3 R3' hr3 hr3' HR2 c2 f2
  go_wp2_with fail
  refine hn3.mono ?_
  rintro e w4 ⟨rfl, hr4, hk4⟩
  have HR4 := Hid.mk (HR3.out.step hk4)
  have hn4 : Calls Try.prog 117 #[.pointer (some ⟨p, 0, none⟩), .int .i64 ((u8 l 5 : Nat) : Int)] w4 fun e w' => e = .returned (.string (nm l)) ∧ Rd w' p b o c (6 + u8 l 5) l ∧ Keeps (fun j => j = p) w4 w' := rtext_ok p b o c 6 (u8 l 5) l w4 hr4 (by omega) (by omega)
  clear hn3 hk4 hr4 HR3 c3 f3
  go_wp2_with fail
  refine hn4.mono ?_
  rintro e w5 ⟨rfl, hr5, hk5⟩
  have R5 := HR4.out.step hk5
  have c5 := cell_of_block R5.box (j := 2) (u := .string ⟨#[]⟩) rfl
  have f5 := frozen_of_block R5.box 2
  have R5' := R5.put 2 (.string (nm l))
  have hr5' := hr5.put (g := w.heap.size + 1) (i := 2) (v := .string (nm l)) (by omega) (by omega)
  have HR5 := Hid.mk R5'
  have hn5 : Calls Try.prog 110 #[.pointer (some ⟨p, 0, none⟩), .int .i64 60] (w5.setCell ⟨w.heap.size + 1, 2, none⟩ (.string (nm l))) fun e w' => e = .returned (.tuple #[]) ∧ Rd w' p b o c (6 + u8 l 5 + (54 - u8 l 5)) l ∧ Keeps (fun j => j = p) (w5.setCell ⟨w.heap.size + 1, 2, none⟩ (.string (nm l))) w' := by
    have := rzeros_ok p b o c (6 + u8 l 5) (54 - u8 l 5) l _ hr5' (by omega) (by omega) HZ.out
    rw [show 6 + u8 l 5 + (54 - u8 l 5) = 60 by omega] at this ⊢
    exact this
  clear hn4 hk5 R5 R5' hr5 hr5' HR4
  go_wp2_with fail
  refine hn5.mono ?_
  rintro e w6 ⟨rfl, _, hk6⟩
  have R6 := HR5.out.step hk6
  have b0 := cell_of_block R6.box (j := 0) (u := .int .i64 ((u32 l 0 : Nat) : Int)) rfl
  have b1 := cell_of_block R6.box (j := 1) (u := .int .i64 ((u8 l 4 : Nat) : Int)) rfl
  have b2 := cell_of_block R6.box (j := 2) (u := .string (nm l)) rfl
  have b3 := cell_of_block R6.box (j := 3) (u := .int .i64 0) rfl
  have HR6 := Hid.mk R6
  clear hn5 hk6 R6 HR5 c5 f5
  have hfit := efits_t _ _ _ 0 w6 HF.out
  have hm := must_t
  go_wp2_with fail
  refine hfit.mono ?_
  rintro e w7 ⟨rfl, hb7⟩
  have R7 := HR6.out.step (Keeps.of_below _ hb7)
  have d0 := cell_of_block R7.out (j := 0) rfl
  have d1 := cell_of_block R7.out (j := 1) rfl
  have d2 := cell_of_block R7.out (j := 2) rfl
  have d3 := cell_of_block R7.out (j := 3) rfl
  have g0 := frozen_of_block R7.out 0
  have g1 := frozen_of_block R7.out 1
  have g2 := frozen_of_block R7.out 2
  have g3 := frozen_of_block R7.out 3
  have x0 := cell_later hb7 b0
  have x1 := cell_later hb7 b1
  have x2 := cell_later hb7 b2
  have x3 := cell_later hb7 b3
  have HR7 := Hid.mk R7.k
  clear hfit hb7 R7 HR6 b0 b1 b2 b3
  go_wp2_with fail
  refine (hm _).mono ?_
  rintro e w9 ⟨rfl, hw⟩
  have hw' := hw.symm
  subst hw'
  clear hw
  go_wp2
  refine bodyPost_ret (v := ent ((u32 l 0 : Nat) : Int) ((u8 l 4 : Nat) : Int) (nm l) 0) (by simp [results, Try.results99, go_sem, d0, d1, d2, d3]) rfl ⟨rfl, ?_⟩
  exact ((((HR7.out.put (Nat.le_refl _) _).put (Nat.le_refl _) _).put (Nat.le_refl _) _).put (Nat.le_refl _) _)

set_option maxRecDepth 20000 in
set_option maxHeartbeats 4000000 in
theorem readent_no1 (p b o c : Nat) (l : List Int) (w : World) (h : Rd w p b o c 0 l) (hl : l.length = 60) (hcc : 60 < c) (h54 : 54 < u8 l 5) :
    Calls Try.prog 99 #[.pointer (some ⟨p, 0, none⟩)] w fun e w' => e = .panicked gaveUp ∧ Keeps (fun j => j = p) w w' := by
  have hc := h.cap
  have hpl : p < w.heap.size := (Array.getElem?_eq_some_iff.1 h.rd).1
  have hbl : b < w.heap.size := h.old (by omega)
  obtain ⟨w1, hw1⟩ : ∃ w1, w1 = (w.alloc (.cells #[.int .i64 0, .int .i64 0, .string ⟨#[]⟩, .int .i64 0] 89)).alloc (.cells #[.int .i64 0, .int .i64 0, .string ⟨#[]⟩, .int .i64 0] 89) := ⟨_, rfl⟩
  have hB1 : Below w.heap.size w w1 := by rw [hw1]; exact below_two w _ _
  have R1 : ReadsE p w w1 #[.int .i64 0, .int .i64 0, .string ⟨#[]⟩, .int .i64 0] := ⟨Keeps.of_below _ hB1, by rw [hw1]; exact heap_alloc2_old _ _ _, by rw [hw1]; exact heap_alloc2_new _ _ _, hpl⟩
  have hn1 := rnum4 p b o c 0 l w1 (h.far hB1) (by omega) (by omega)
  have hby := h.bytes
  have HR1 := Hid.mk R1
  clear h hB1 R1
  go_enter Try.func99, Try.ntmps99
  go_wp2_with fail
  rw [← hw1]
  clear hw1
  refine hn1.mono ?_
  rintro e w2 ⟨rfl, hr2, hk2⟩
  have R2 := HR1.out.step hk2
  have c2 := cell_of_block R2.box (j := 0) rfl
  have f2 := frozen_of_block R2.box 0
  have R2' := R2.put 0 (.int .i64 ((u32 l 0 : Nat) : Int))
  have hr2' := hr2.put (g := w.heap.size + 1) (i := 0) (v := .int .i64 ((u32 l 0 : Nat) : Int)) (by omega) (by omega)
  have hn2 := rnum1 p b o c 4 l _ hr2' (by omega) (by omega)
  have HR2 := Hid.mk R2'
  clear hn1 hk2 R2 R2' hr2 hr2' HR1
  go_wp2_with fail
  refine hn2.mono ?_
  rintro e w3 ⟨rfl, hr3, hk3⟩
  have R3 := HR2.out.step hk3
  have c3 := cell_of_block R3.box (j := 1) (u := .int .i64 0) rfl
  have f3 := frozen_of_block R3.box 1
  have R3' := R3.put 1 (.int .i64 ((u8 l 4 : Nat) : Int))
  have hr3' := hr3.put (g := w.heap.size + 1) (i := 1) (v := .int .i64 ((u8 l 4 : Nat) : Int)) (by omega) (by omega)
  have hn3 := rnum1 p b o c 5 l _ hr3' (by omega) (by omega)
  have HR3 := Hid.mk R3'
  clear hn2 hk3 R3 R3' hr3 hr3' HR2 c2 f2
  go_wp2_with fail
  refine hn3.mono ?_
  rintro e w4 ⟨rfl, hr4, hk4⟩
  have HR4 := Hid.mk (HR3.out.step hk4)
  have h256 := u8_lt hby (k := 5) (by omega)
  have hn4 := rtext_no p b o c 6 (u8 l 5) l w4 hr4 (by omega) (by omega) (by omega)
  clear hn3 hk4 hr4 HR3 c3 f3
  go_wp2_with fail
  refine hn4.mono ?_
  rintro e w5 ⟨rfl, hk5⟩
  have HK := Hid.mk (HR4.out.step hk5).k
  clear hn4 hk5 HR4
  go_wp2
  exact ⟨rfl, rfl, HK.out⟩

set_option maxRecDepth 20000 in
set_option maxHeartbeats 4000000 in
theorem readent_no2 (p b o c : Nat) (l : List Int) (w : World) (h : Rd w p b o c 0 l) (hl : l.length = 60) (hcc : 60 < c) (h54 : u8 l 5 ≤ 54) (hz : ¬ Zeros (part l (6 + u8 l 5) (54 - u8 l 5))) :
    Calls Try.prog 99 #[.pointer (some ⟨p, 0, none⟩)] w fun e w' => e = .panicked gaveUp ∧ Keeps (fun j => j = p) w w' := by
  have HZ := Hid.mk hz
  clear hz
  have hc := h.cap
  have hpl : p < w.heap.size := (Array.getElem?_eq_some_iff.1 h.rd).1
  have hbl : b < w.heap.size := h.old (by omega)
  obtain ⟨w1, hw1⟩ : ∃ w1, w1 = (w.alloc (.cells #[.int .i64 0, .int .i64 0, .string ⟨#[]⟩, .int .i64 0] 89)).alloc (.cells #[.int .i64 0, .int .i64 0, .string ⟨#[]⟩, .int .i64 0] 89) := ⟨_, rfl⟩
  have hB1 : Below w.heap.size w w1 := by rw [hw1]; exact below_two w _ _
  have R1 : ReadsE p w w1 #[.int .i64 0, .int .i64 0, .string ⟨#[]⟩, .int .i64 0] := ⟨Keeps.of_below _ hB1, by rw [hw1]; exact heap_alloc2_old _ _ _, by rw [hw1]; exact heap_alloc2_new _ _ _, hpl⟩
  have hn1 := rnum4 p b o c 0 l w1 (h.far hB1) (by omega) (by omega)
  have hby := h.bytes
  have HR1 := Hid.mk R1
  clear h hB1 R1
  go_enter Try.func99, Try.ntmps99
  go_wp2_with fail
  rw [← hw1]
  clear hw1
  refine hn1.mono ?_
  rintro e w2 ⟨rfl, hr2, hk2⟩
  have R2 := HR1.out.step hk2
  have c2 := cell_of_block R2.box (j := 0) rfl
  have f2 := frozen_of_block R2.box 0
  have R2' := R2.put 0 (.int .i64 ((u32 l 0 : Nat) : Int))
  have hr2' := hr2.put (g := w.heap.size + 1) (i := 0) (v := .int .i64 ((u32 l 0 : Nat) : Int)) (by omega) (by omega)
  have hn2 := rnum1 p b o c 4 l _ hr2' (by omega) (by omega)
  have HR2 := Hid.mk R2'
  clear hn1 hk2 R2 R2' hr2 hr2' HR1
  go_wp2_with fail
  refine hn2.mono ?_
  rintro e w3 ⟨rfl, hr3, hk3⟩
  have R3 := HR2.out.step hk3
  have c3 := cell_of_block R3.box (j := 1) (u := .int .i64 0) rfl
  have f3 := frozen_of_block R3.box 1
  have R3' := R3.put 1 (.int .i64 ((u8 l 4 : Nat) : Int))
  have hr3' := hr3.put (g := w.heap.size + 1) (i := 1) (v := .int .i64 ((u8 l 4 : Nat) : Int)) (by omega) (by omega)
  have hn3 := rnum1 p b o c 5 l _ hr3' (by omega) (by omega)
  have HR3 := Hid.mk R3'
  clear hn2 hk3 R3 R3' hr3 hr3' HR2 c2 f2
  go_wp2_with fail
  refine hn3.mono ?_
  rintro e w4 ⟨rfl, hr4, hk4⟩
  have HR4 := Hid.mk (HR3.out.step hk4)
  have hn4 : Calls Try.prog 117 #[.pointer (some ⟨p, 0, none⟩), .int .i64 ((u8 l 5 : Nat) : Int)] w4 fun e w' => e = .returned (.string (nm l)) ∧ Rd w' p b o c (6 + u8 l 5) l ∧ Keeps (fun j => j = p) w4 w' := rtext_ok p b o c 6 (u8 l 5) l w4 hr4 (by omega) (by omega)
  clear hn3 hk4 hr4 HR3 c3 f3
  go_wp2_with fail
  refine hn4.mono ?_
  rintro e w5 ⟨rfl, hr5, hk5⟩
  have R5 := HR4.out.step hk5
  have c5 := cell_of_block R5.box (j := 2) (u := .string ⟨#[]⟩) rfl
  have f5 := frozen_of_block R5.box 2
  have R5' := R5.put 2 (.string (nm l))
  have hr5' := hr5.put (g := w.heap.size + 1) (i := 2) (v := .string (nm l)) (by omega) (by omega)
  have HR5 := Hid.mk R5'
  have hn5 : Calls Try.prog 110 #[.pointer (some ⟨p, 0, none⟩), .int .i64 60] (w5.setCell ⟨w.heap.size + 1, 2, none⟩ (.string (nm l))) fun e w' => e = .panicked gaveUp ∧ Keeps (fun j => j = p) (w5.setCell ⟨w.heap.size + 1, 2, none⟩ (.string (nm l))) w' := by
    have := rzeros_no p b o c (6 + u8 l 5) (54 - u8 l 5) l _ hr5' (by omega) (by omega) HZ.out
    rw [show 6 + u8 l 5 + (54 - u8 l 5) = 60 by omega] at this
    exact this
  clear hn4 hk5 R5 R5' hr5 hr5' HR4
  go_wp2_with fail
  refine hn5.mono ?_
  rintro e w6 ⟨rfl, hk6⟩
  have HK := Hid.mk (HR5.out.step hk6).k
  clear hn5 hk6 HR5
  go_wp2
  exact ⟨rfl, rfl, HK.out⟩

set_option maxRecDepth 20000 in
set_option maxHeartbeats 4000000 in
theorem readent_no3 (p b o c : Nat) (l : List Int) (w : World) (h : Rd w p b o c 0 l) (hl : l.length = 60) (hcc : 60 < c) (h54 : u8 l 5 ≤ 54) (hz : Zeros (part l (6 + u8 l 5) (54 - u8 l 5))) (hf : ¬ EFits (u32 l 0) (u8 l 4) (nm l)) :
    Calls Try.prog 99 #[.pointer (some ⟨p, 0, none⟩)] w fun e w' => e = .panicked gaveUp ∧ Keeps (fun j => j = p) w w' := by
  have HZ := Hid.mk hz
  have HF := Hid.mk hf
  clear hz hf
  have hc := h.cap
  have hpl : p < w.heap.size := (Array.getElem?_eq_some_iff.1 h.rd).1
  have hbl : b < w.heap.size := h.old (by omega)
  obtain ⟨w1, hw1⟩ : ∃ w1, w1 = (w.alloc (.cells #[.int .i64 0, .int .i64 0, .string ⟨#[]⟩, .int .i64 0] 89)).alloc (.cells #[.int .i64 0, .int .i64 0, .string ⟨#[]⟩, .int .i64 0] 89) := ⟨_, rfl⟩
  have hB1 : Below w.heap.size w w1 := by rw [hw1]; exact below_two w _ _
  have R1 : ReadsE p w w1 #[.int .i64 0, .int .i64 0, .string ⟨#[]⟩, .int .i64 0] := ⟨Keeps.of_below _ hB1, by rw [hw1]; exact heap_alloc2_old _ _ _, by rw [hw1]; exact heap_alloc2_new _ _ _, hpl⟩
  have hn1 := rnum4 p b o c 0 l w1 (h.far hB1) (by omega) (by omega)
  have hby := h.bytes
  have HR1 := Hid.mk R1
  clear h hB1 R1
  go_enter Try.func99, Try.ntmps99
  go_wp2_with fail
  rw [← hw1]
  clear hw1
  refine hn1.mono ?_
  rintro e w2 ⟨rfl, hr2, hk2⟩
  have R2 := HR1.out.step hk2
  have c2 := cell_of_block R2.box (j := 0) rfl
  have f2 := frozen_of_block R2.box 0
  have R2' := R2.put 0 (.int .i64 ((u32 l 0 : Nat) : Int))
  have hr2' := hr2.put (g := w.heap.size + 1) (i := 0) (v := .int .i64 ((u32 l 0 : Nat) : Int)) (by omega) (by omega)
  have hn2 := rnum1 p b o c 4 l _ hr2' (by omega) (by omega)
  have HR2 := Hid.mk R2'
  clear hn1 hk2 R2 R2' hr2 hr2' HR1
  go_wp2_with fail
  refine hn2.mono ?_
  rintro e w3 ⟨rfl, hr3, hk3⟩
  have R3 := HR2.out.step hk3
  have c3 := cell_of_block R3.box (j := 1) (u := .int .i64 0) rfl
  have f3 := frozen_of_block R3.box 1
  have R3' := R3.put 1 (.int .i64 ((u8 l 4 : Nat) : Int))
  have hr3' := hr3.put (g := w.heap.size + 1) (i := 1) (v := .int .i64 ((u8 l 4 : Nat) : Int)) (by omega) (by omega)
  have hn3 := rnum1 p b o c 5 l _ hr3' (by omega) (by omega)
  have HR3 := Hid.mk R3'
  clear hn2 hk3 R3 R3' hr3 hr3' HR2 c2 f2
  go_wp2_with fail
  refine hn3.mono ?_
  rintro e w4 ⟨rfl, hr4, hk4⟩
  have HR4 := Hid.mk (HR3.out.step hk4)
  have hn4 : Calls Try.prog 117 #[.pointer (some ⟨p, 0, none⟩), .int .i64 ((u8 l 5 : Nat) : Int)] w4 fun e w' => e = .returned (.string (nm l)) ∧ Rd w' p b o c (6 + u8 l 5) l ∧ Keeps (fun j => j = p) w4 w' := rtext_ok p b o c 6 (u8 l 5) l w4 hr4 (by omega) (by omega)
  clear hn3 hk4 hr4 HR3 c3 f3
  go_wp2_with fail
  refine hn4.mono ?_
  rintro e w5 ⟨rfl, hr5, hk5⟩
  have R5 := HR4.out.step hk5
  have c5 := cell_of_block R5.box (j := 2) (u := .string ⟨#[]⟩) rfl
  have f5 := frozen_of_block R5.box 2
  have R5' := R5.put 2 (.string (nm l))
  have hr5' := hr5.put (g := w.heap.size + 1) (i := 2) (v := .string (nm l)) (by omega) (by omega)
  have HR5 := Hid.mk R5'
  have hn5 : Calls Try.prog 110 #[.pointer (some ⟨p, 0, none⟩), .int .i64 60] (w5.setCell ⟨w.heap.size + 1, 2, none⟩ (.string (nm l))) fun e w' => e = .returned (.tuple #[]) ∧ Rd w' p b o c (6 + u8 l 5 + (54 - u8 l 5)) l ∧ Keeps (fun j => j = p) (w5.setCell ⟨w.heap.size + 1, 2, none⟩ (.string (nm l))) w' := by
    have := rzeros_ok p b o c (6 + u8 l 5) (54 - u8 l 5) l _ hr5' (by omega) (by omega) HZ.out
    rw [show 6 + u8 l 5 + (54 - u8 l 5) = 60 by omega] at this ⊢
    exact this
  clear hn4 hk5 R5 R5' hr5 hr5' HR4
  go_wp2_with fail
  refine hn5.mono ?_
  rintro e w6 ⟨rfl, _, hk6⟩
  have R6 := HR5.out.step hk6
  have b0 := cell_of_block R6.box (j := 0) (u := .int .i64 ((u32 l 0 : Nat) : Int)) rfl
  have b1 := cell_of_block R6.box (j := 1) (u := .int .i64 ((u8 l 4 : Nat) : Int)) rfl
  have b2 := cell_of_block R6.box (j := 2) (u := .string (nm l)) rfl
  have b3 := cell_of_block R6.box (j := 3) (u := .int .i64 0) rfl
  have HR6 := Hid.mk R6
  clear hn5 hk6 R6 HR5 c5 f5
  have hfit := efits_f _ _ _ 0 w6 HF.out
  have hm := must_f
  go_wp2_with fail
  refine hfit.mono ?_
  rintro e w7 ⟨rfl, hb7⟩
  have HK := Hid.mk (HR6.out.step (Keeps.of_below _ hb7)).k
  clear hfit hb7 HR6 b0 b1 b2 b3
  go_wp2_with fail
  refine (hm _).mono ?_
  rintro e w9 ⟨rfl, hw⟩
  have hw' := hw.symm
  subst hw'
  clear hw
  go_wp2
  exact ⟨rfl, rfl, HK.out⟩

theorem readent_no (p b o c : Nat) (l : List Int) (w : World) (h : Rd w p b o c 0 l) (hl : l.length = 60) (hcc : 60 < c) (hok : ¬ EntOk l) :
    Calls Try.prog 99 #[.pointer (some ⟨p, 0, none⟩)] w fun e w' => e = .panicked gaveUp ∧ Keeps (fun j => j = p) w w' := by
  by_cases h1 : u8 l 5 ≤ 54
  · by_cases h2 : Zeros (part l (6 + u8 l 5) (54 - u8 l 5))
    · exact readent_no3 p b o c l w h hl hcc h1 h2 (fun h3 => hok ⟨h1, h2, h3⟩)
    · exact readent_no2 p b o c l w h hl hcc h1 h2
  · exact readent_no1 p b o c l w h hl hcc (by omega)
end Go.Proofs.Ytkkmkogpbhcpmaa
