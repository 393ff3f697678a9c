import Derived.Test.YtkkmkogpbhcpmaaKDec
import Derived.Defers
import Derived.Recover
namespace Go.Proofs.Ytkkmkogpbhcpmaa
open Go.RowKit

theorem str_eq {xs : List Int} (hx : xs = headL) : ((strOfNums xs).toList == [118, 101, 108, 108, 117, 109, 0, 1]) = true := by
  subst hx
  decide +kernel
theorem str_ne {xs : List Int} (h : Bytes xs) (hx : xs ≠ headL) : ((strOfNums xs).toList == [118, 101, 108, 108, 117, 109, 0, 1]) = false := by
  rw [Bool.eq_false_iff, ne_eq, beq_iff_eq]
  intro e
  apply hx
  have := txt_str h
  rw [← this]
  unfold txt
  rw [← ByteArray.toList_eq, e]
  rfl

/-- A number of four bytes at k. -/
def u32 (l : List Int) (k : Nat) : Nat := le (part l k 4)
theorem u32_lt {l : List Int} (h : Bytes l) {k : Nat} (hk : k + 4 ≤ l.length) : u32 l k < 4294967296 := by
  have := le_lt (part_bytes h k 4)
  rw [part_len hk] at this
  exact this
theorem u32_wrap {l : List Int} (h : Bytes l) {k : Nat} (hk : k + 4 ≤ l.length) : wrap64 ((le (part l k 4) : Nat) : Int) = ((u32 l k : Nat) : Int) := by
  have := u32_lt h hk
  unfold u32 at *
  unfold wrap64
  omega

theorem rnum4 (p b o c k : Nat) (l : List Int) (w : World) (h : Rd w p b o c k l) (hk : k + 4 ≤ l.length) (hkc : k < c) :
    Calls Try.prog 109 #[.pointer (some ⟨p, 0, none⟩), .int .i64 4] w fun e w' => e = .returned (.int .i64 ((u32 l k : Nat) : Int)) ∧ Rd w' p b o c (k + 4) l ∧ Keeps (fun j => j = p) w w' := by
  refine (rnumber_any p b o c k 4 l w h hk hkc (by omega)).mono ?_
  rintro e w' ⟨rfl, h1, h2⟩
  exact ⟨by rw [u32_wrap h.bytes hk], h1, h2⟩

/-- What is kept while a reader reads: all but the reader. -/
structure Reads (p g : Nat) (w w' : World) (cs : Array Value) (t : TypeId) : Prop where
  k : Keeps (fun j => j = p) w w'
  blk : w'.heap[g]? = some (.cells cs t (0, 0))
  ne : g ≠ p
theorem Reads.step {p g : Nat} {w w1 w2 : World} {cs : Array Value} {t : TypeId} (h : Reads p g w w1 cs t) (hk : Keeps (fun j => j = p) w1 w2) : Reads p g w w2 cs t :=
  ⟨h.k.trans hk (fun _ h => .inl h), (hk.block g (Array.getElem?_eq_some_iff.1 h.blk).1 h.ne).trans h.blk, h.ne⟩
theorem Reads.below {p g : Nat} {w w1 w2 : World} {cs : Array Value} {t : TypeId} (h : Reads p g w w1 cs t) (hb : Below w1.heap.size w1 w2) : Reads p g w w2 cs t := h.step (Keeps.of_below _ hb)

theorem Keeps.put {F : Nat → Prop} {w wx : World} (h : Keeps F w wx) {g i : Nat} (hg : w.heap.size ≤ g) (v : Value) : Keeps F w (wx.setCell ⟨g, i, none⟩ v) :=
  h.trans (Keeps.setCell (F := fun j => j = g) (p := ⟨g, i, none⟩) wx rfl v) (fun j hj => .inr (by omega))
theorem Keeps.more {F : Nat → Prop} {w wx : World} (h : Keeps F w wx) (o : Obj) : Keeps F w (wx.alloc o) := h.trans (Keeps.alloc F wx o) (fun _ h => .inl h)

/-- The layout of a superblock's body is right. -/
structure SupOk (l : List Int) : Prop where
  head : part l 0 8 = headL
  zeros : Zeros (part l 20 488)
  geo : Geo (u32 l 8) (u32 l 12) (u32 l 16)

set_option maxRecDepth 20000 in
set_option maxHeartbeats 4000000 in
theorem readsuper_ok (p b o c : Nat) (l : List Int) (w : World) (h : Rd w p b o c 0 l) (hl : l.length = 508) (hok : SupOk l) :
    Calls Try.prog 97 #[.pointer (some ⟨p, 0, none⟩)] w fun e w' => e = .returned (.agg #[.int .i64 ((u32 l 8 : Nat) : Int), .int .i64 ((u32 l 12 : Nat) : Int), .int .i64 ((u32 l 16 : Nat) : Int)]) ∧ Keeps (fun j => j = p) w w' := by
  have hc := h.cap
  have hseq := str_eq hok.head
  have hpl : p < w.heap.size := (Array.getElem?_eq_some_iff.1 h.rd).1
  obtain ⟨w1, hw1⟩ : ∃ w1, w1 = w.alloc (.cells #[.int .i64 0, .int .i64 0, .int .i64 0] 85) := ⟨_, rfl⟩
  have hB1 : Below w.heap.size w w1 := by rw [hw1]; exact (Below.refl _ w).alloc (Nat.le_refl _) _
  have R1 : Reads p w.heap.size w w1 #[.int .i64 0, .int .i64 0, .int .i64 0] 85 := ⟨Keeps.of_below _ hB1, by rw [hw1]; exact heap_alloc_new _ _, by omega⟩
  have ht : Calls Try.prog 117 #[.pointer (some ⟨p, 0, none⟩), .int .i64 8] w1 fun e w' => e = .returned (.string (strOfNums (part l 0 8))) ∧ Rd w' p b o c 8 l ∧ Keeps (fun j => j = p) w1 w' := rtext_ok p b o c 0 8 l w1 (h.far hB1) (by omega) (by omega)
  have hm := must_t
  have hby := h.bytes
  have HOK := Hid.mk hok
  have HR1 := Hid.mk R1
  generalize strOfNums (part l 0 8) = str at *
  clear h hok hB1 R1
  go_enter Try.func97, Try.ntmps97
  go_wp2_with fail
  rw [← hw1]
  clear hw1
  refine ht.mono ?_
  rintro e w2 ⟨rfl, hr2, hk2⟩
  have HR2 := Hid.mk (HR1.out.step hk2)
  have hn2 := rnum4 p b o c 8 l w2 hr2 (by omega) (by omega)
  clear ht hr2 hk2 HR1
  go_wp2_with fail
  refine (hm _).mono ?_
  rintro e w3 ⟨rfl, hw⟩
  have hw' := hw.symm
  subst hw'
  clear hw
  go_wp2_with fail
  refine hn2.mono ?_
  rintro e w4 ⟨rfl, hr4, hk4⟩
  have HR4 := Hid.mk (HR2.out.step hk4)
  have hn4 := rnum4 p b o c 12 l w4 hr4 (by omega) (by omega)
  clear hn2 hr4 hk4 HR2 hseq
  go_wp2_with fail
  refine hn4.mono ?_
  rintro e w5 ⟨rfl, hr5, hk5⟩
  have HR5 := Hid.mk (HR4.out.step hk5)
  have hn5 := rnum4 p b o c 16 l w5 hr5 (by omega) (by omega)
  clear hn4 hr5 hk5 HR4
  go_wp2_with fail
  refine hn5.mono ?_
  rintro e w6 ⟨rfl, hr6, hk6⟩
  have HR6 := Hid.mk (HR5.out.step hk6)
  have hpg : p < w6.heap.size := (Array.getElem?_eq_some_iff.1 hr6.rd).1
  have hz6 := HR6.out.k.size
  have hsz6 : w.heap.size < w6.heap.size := (Array.getElem?_eq_some_iff.1 HR6.out.blk).1
  have hz : ∀ wx : World, Below w6.heap.size w6 wx → Calls Try.prog 110 #[.pointer (some ⟨p, 0, none⟩), .int .i64 508] wx fun e w' => e = .returned (.tuple #[]) ∧ Rd w' p b o c 508 l ∧ Keeps (fun j => j = p) wx w' := fun wx hx => rzeros_ok p b o c 20 488 l wx (hr6.far hx) (by omega) (by omega) HOK.out.zeros
  have HZ := Hid.mk hz
  have hal : ∀ o, Below w6.heap.size w6 (w6.alloc o) := fun o => (Below.refl _ w6).alloc (Nat.le_refl _) _
  have Hal := Hid.mk hal
  clear hn5 hk6 HR5 hr6 hz hal
  go_wp2_with fail
  refine (HZ.out _ (Hal.out _)).mono ?_
  rintro e w7 ⟨rfl, _, hk7⟩
  have hs7 : w7.heap[w6.heap.size]? = some (.cells #[.int .i64 ((u32 l 8 : Nat) : Int), .int .i64 ((u32 l 12 : Nat) : Int), .int .i64 ((u32 l 16 : Nat) : Int)] 85 (0, 0)) := (hk7.block _ (by simp) (by omega)).trans (heap_alloc_new _ _)
  have HR7 := Hid.mk ((HR6.out.below (Hal.out _)).step hk7)
  have hg := HOK.out.geo
  have hpl2 := plan_good (u32 l 8) (u32 l 12) (u32 l 16) w7 hg.1.1 hg.1.2 hg.2.1.1 hg.2.1.2 hg.2.2.1 hg.2.2.2.1 hg.2.2.2.2
  have s0 := cell_of_block hs7 (j := 0) rfl
  have s1 := cell_of_block hs7 (j := 1) rfl
  have s2 := cell_of_block hs7 (j := 2) rfl
  have HS7 := Hid.mk hs7
  clear HZ hk7 HR6 Hal hs7 hg HOK
  go_wp2_with fail
  refine hpl2.mono ?_
  rintro e w8 ⟨rfl, hb8⟩
  have HR8 := Hid.mk (HR7.out.below hb8)
  have t0 := cell_later hb8 s0
  have t1 := cell_later hb8 s1
  have t2 := cell_later hb8 s2
  have hl8 : w6.heap.size < w8.heap.size := Nat.lt_of_lt_of_le (Array.getElem?_eq_some_iff.1 HS7.out).1 hb8.size
  have hbk := HR8.out.blk
  have hbo : ∀ o, (w8.alloc o).heap[w.heap.size]? = some (.cells #[.int .i64 0, .int .i64 0, .int .i64 0] 85 (0, 0)) := fun o => (Below.heap_alloc w8 o _ (Array.getElem?_eq_some_iff.1 hbk).1).trans hbk
  have d0 := fun o => cell_of_block (hbo o) (j := 0) rfl
  have d1 := fun o => cell_of_block (hbo o) (j := 1) rfl
  have d2 := fun o => cell_of_block (hbo o) (j := 2) rfl
  have f0 := fun o => frozen_of_block (hbo o) 0
  have f1 := fun o => frozen_of_block (hbo o) 1
  have f2 := fun o => frozen_of_block (hbo o) 2
  have hne1 : ¬ w6.heap.size = w8.heap.size := by omega
  have hne2 : ¬ w.heap.size = w8.heap.size := by have := (Array.getElem?_eq_some_iff.1 hbk).1; omega
  clear hpl2 s0 s1 s2 HR7 hb8 hbk HS7 hbo
  go_wp2_with fail
  refine (hm _).mono ?_
  rintro e w9 ⟨rfl, hw⟩
  have hw' := hw.symm
  subst hw'
  clear hw
  go_wp2
  refine bodyPost_ret (v := .agg #[.int .i64 ((u32 l 8 : Nat) : Int), .int .i64 ((u32 l 12 : Nat) : Int), .int .i64 ((u32 l 16 : Nat) : Int)]) (by simp [results, Try.results97, go_sem, d0, d1, d2]) rfl ⟨rfl, ?_⟩
  exact (((HR8.out.k.more _).put (Nat.le_refl _) _).put (Nat.le_refl _) _).put (Nat.le_refl _) _
set_option maxRecDepth 20000 in
set_option maxHeartbeats 4000000 in
theorem readsuper_no1 (p b o c : Nat) (l : List Int) (w : World) (h : Rd w p b o c 0 l) (hl : l.length = 508) (hok : part l 0 8 ≠ headL) :
    Calls Try.prog 97 #[.pointer (some ⟨p, 0, none⟩)] w fun e w' => e = .panicked gaveUp ∧ Keeps (fun j => j = p) w w' := by
  have hc := h.cap
  have hseq := str_ne (part_bytes h.bytes 0 8) hok
  have hpl : p < w.heap.size := (Array.getElem?_eq_some_iff.1 h.rd).1
  obtain ⟨w1, hw1⟩ : ∃ w1, w1 = w.alloc (.cells #[.int .i64 0, .int .i64 0, .int .i64 0] 85) := ⟨_, rfl⟩
  have hB1 : Below w.heap.size w w1 := by rw [hw1]; exact (Below.refl _ w).alloc (Nat.le_refl _) _
  have R1 : Reads p w.heap.size w w1 #[.int .i64 0, .int .i64 0, .int .i64 0] 85 := ⟨Keeps.of_below _ hB1, by rw [hw1]; exact heap_alloc_new _ _, by omega⟩
  have ht : Calls Try.prog 117 #[.pointer (some ⟨p, 0, none⟩), .int .i64 8] w1 fun e w' => e = .returned (.string (strOfNums (part l 0 8))) ∧ Rd w' p b o c 8 l ∧ Keeps (fun j => j = p) w1 w' := rtext_ok p b o c 0 8 l w1 (h.far hB1) (by omega) (by omega)
  have hm := must_f
  have hby := h.bytes
  have HR1 := Hid.mk R1
  generalize strOfNums (part l 0 8) = str at *
  clear h hok hB1 R1
  go_enter Try.func97, Try.ntmps97
  go_wp2_with fail
  rw [← hw1]
  clear hw1
  refine ht.mono ?_
  rintro e w2 ⟨rfl, hr2, hk2⟩
  have HR2 := Hid.mk (HR1.out.step hk2)
  clear ht hr2 hk2 HR1
  go_wp2_with fail
  refine (hm _).mono ?_
  rintro e w3 ⟨rfl, hw⟩
  have hw' := hw.symm
  subst hw'
  clear hw
  go_wp2
  exact ⟨rfl, rfl, HR2.out.k⟩

set_option maxRecDepth 20000 in
set_option maxHeartbeats 4000000 in
theorem readsuper_no2 (p b o c : Nat) (l : List Int) (w : World) (h : Rd w p b o c 0 l) (hl : l.length = 508) (h1 : part l 0 8 = headL) (h2 : ¬ Zeros (part l 20 488)) :
    Calls Try.prog 97 #[.pointer (some ⟨p, 0, none⟩)] w fun e w' => e = .panicked gaveUp ∧ Keeps (fun j => j = p) w w' := by
  have hc := h.cap
  have hseq := str_eq h1
  have hpl : p < w.heap.size := (Array.getElem?_eq_some_iff.1 h.rd).1
  obtain ⟨w1, hw1⟩ : ∃ w1, w1 = w.alloc (.cells #[.int .i64 0, .int .i64 0, .int .i64 0] 85) := ⟨_, rfl⟩
  have hB1 : Below w.heap.size w w1 := by rw [hw1]; exact (Below.refl _ w).alloc (Nat.le_refl _) _
  have R1 : Reads p w.heap.size w w1 #[.int .i64 0, .int .i64 0, .int .i64 0] 85 := ⟨Keeps.of_below _ hB1, by rw [hw1]; exact heap_alloc_new _ _, by omega⟩
  have ht : Calls Try.prog 117 #[.pointer (some ⟨p, 0, none⟩), .int .i64 8] w1 fun e w' => e = .returned (.string (strOfNums (part l 0 8))) ∧ Rd w' p b o c 8 l ∧ Keeps (fun j => j = p) w1 w' := rtext_ok p b o c 0 8 l w1 (h.far hB1) (by omega) (by omega)
  have hm := must_t
  have hby := h.bytes
  have H2 := Hid.mk h2
  have HR1 := Hid.mk R1
  generalize strOfNums (part l 0 8) = str at *
  clear h h1 h2 hB1 R1
  go_enter Try.func97, Try.ntmps97
  go_wp2_with fail
  rw [← hw1]
  clear hw1
  refine ht.mono ?_
  rintro e w2 ⟨rfl, hr2, hk2⟩
  have HR2 := Hid.mk (HR1.out.step hk2)
  have hn2 := rnum4 p b o c 8 l w2 hr2 (by omega) (by omega)
  clear ht hr2 hk2 HR1
  go_wp2_with fail
  refine (hm _).mono ?_
  rintro e w3 ⟨rfl, hw⟩
  have hw' := hw.symm
  subst hw'
  clear hw
  go_wp2_with fail
  refine hn2.mono ?_
  rintro e w4 ⟨rfl, hr4, hk4⟩
  have HR4 := Hid.mk (HR2.out.step hk4)
  have hn4 := rnum4 p b o c 12 l w4 hr4 (by omega) (by omega)
  clear hn2 hr4 hk4 HR2 hseq
  go_wp2_with fail
  refine hn4.mono ?_
  rintro e w5 ⟨rfl, hr5, hk5⟩
  have HR5 := Hid.mk (HR4.out.step hk5)
  have hn5 := rnum4 p b o c 16 l w5 hr5 (by omega) (by omega)
  clear hn4 hr5 hk5 HR4
  go_wp2_with fail
  refine hn5.mono ?_
  rintro e w6 ⟨rfl, hr6, hk6⟩
  have HR6 := Hid.mk (HR5.out.step hk6)
  have hpg : p < w6.heap.size := (Array.getElem?_eq_some_iff.1 hr6.rd).1
  have hz6 := HR6.out.k.size
  have hsz6 : w.heap.size < w6.heap.size := (Array.getElem?_eq_some_iff.1 HR6.out.blk).1
  have hz : ∀ wx : World, Below w6.heap.size w6 wx → Calls Try.prog 110 #[.pointer (some ⟨p, 0, none⟩), .int .i64 508] wx fun e w' => e = .panicked gaveUp ∧ Keeps (fun j => j = p) wx w' := fun wx hx => rzeros_no p b o c 20 488 l wx (hr6.far hx) (by omega) (by omega) H2.out
  have HZ := Hid.mk hz
  have hal : ∀ o, Below w6.heap.size w6 (w6.alloc o) := fun o => (Below.refl _ w6).alloc (Nat.le_refl _) _
  have Hal := Hid.mk hal
  clear hn5 hk6 HR5 hr6 hz hal
  go_wp2_with fail
  refine (HZ.out _ (Hal.out _)).mono ?_
  rintro e w7 ⟨rfl, hk7⟩
  have HR7 := Hid.mk ((HR6.out.below (Hal.out _)).step hk7)
  clear HZ hk7 HR6 Hal
  go_wp2
  exact ⟨rfl, rfl, HR7.out.k⟩

set_option maxRecDepth 20000 in
set_option maxHeartbeats 4000000 in
theorem readsuper_no3 (p b o c : Nat) (l : List Int) (w : World) (h : Rd w p b o c 0 l) (hl : l.length = 508) (h1 : part l 0 8 = headL) (h2 : Zeros (part l 20 488)) (h3 : ¬ Geo (u32 l 8) (u32 l 12) (u32 l 16)) :
    Calls Try.prog 97 #[.pointer (some ⟨p, 0, none⟩)] w fun e w' => e = .panicked gaveUp ∧ Keeps (fun j => j = p) w w' := by
  have hc := h.cap
  have hseq := str_eq h1
  have hpl : p < w.heap.size := (Array.getElem?_eq_some_iff.1 h.rd).1
  obtain ⟨w1, hw1⟩ : ∃ w1, w1 = w.alloc (.cells #[.int .i64 0, .int .i64 0, .int .i64 0] 85) := ⟨_, rfl⟩
  have hB1 : Below w.heap.size w w1 := by rw [hw1]; exact (Below.refl _ w).alloc (Nat.le_refl _) _
  have R1 : Reads p w.heap.size w w1 #[.int .i64 0, .int .i64 0, .int .i64 0] 85 := ⟨Keeps.of_below _ hB1, by rw [hw1]; exact heap_alloc_new _ _, by omega⟩
  have ht : Calls Try.prog 117 #[.pointer (some ⟨p, 0, none⟩), .int .i64 8] w1 fun e w' => e = .returned (.string (strOfNums (part l 0 8))) ∧ Rd w' p b o c 8 l ∧ Keeps (fun j => j = p) w1 w' := rtext_ok p b o c 0 8 l w1 (h.far hB1) (by omega) (by omega)
  have hm := must_t
  have hby := h.bytes
  have H2 := Hid.mk h2
  have H3 := Hid.mk h3
  have HR1 := Hid.mk R1
  generalize strOfNums (part l 0 8) = str at *
  clear h h1 h2 h3 hB1 R1
  go_enter Try.func97, Try.ntmps97
  go_wp2_with fail
  rw [← hw1]
  clear hw1
  refine ht.mono ?_
  rintro e w2 ⟨rfl, hr2, hk2⟩
  have HR2 := Hid.mk (HR1.out.step hk2)
  have hn2 := rnum4 p b o c 8 l w2 hr2 (by omega) (by omega)
  clear ht hr2 hk2 HR1
  go_wp2_with fail
  refine (hm _).mono ?_
  rintro e w3 ⟨rfl, hw⟩
  have hw' := hw.symm
  subst hw'
  clear hw
  go_wp2_with fail
  refine hn2.mono ?_
  rintro e w4 ⟨rfl, hr4, hk4⟩
  have HR4 := Hid.mk (HR2.out.step hk4)
  have hn4 := rnum4 p b o c 12 l w4 hr4 (by omega) (by omega)
  clear hn2 hr4 hk4 HR2 hseq
  go_wp2_with fail
  refine hn4.mono ?_
  rintro e w5 ⟨rfl, hr5, hk5⟩
  have HR5 := Hid.mk (HR4.out.step hk5)
  have hn5 := rnum4 p b o c 16 l w5 hr5 (by omega) (by omega)
  clear hn4 hr5 hk5 HR4
  go_wp2_with fail
  refine hn5.mono ?_
  rintro e w6 ⟨rfl, hr6, hk6⟩
  have HR6 := Hid.mk (HR5.out.step hk6)
  have hpg : p < w6.heap.size := (Array.getElem?_eq_some_iff.1 hr6.rd).1
  have hz6 := HR6.out.k.size
  have hsz6 : w.heap.size < w6.heap.size := (Array.getElem?_eq_some_iff.1 HR6.out.blk).1
  have hz : ∀ wx : World, Below w6.heap.size w6 wx → Calls Try.prog 110 #[.pointer (some ⟨p, 0, none⟩), .int .i64 508] wx fun e w' => e = .returned (.tuple #[]) ∧ Rd w' p b o c 508 l ∧ Keeps (fun j => j = p) wx w' := fun wx hx => rzeros_ok p b o c 20 488 l wx (hr6.far hx) (by omega) (by omega) H2.out
  have HZ := Hid.mk hz
  have hal : ∀ o, Below w6.heap.size w6 (w6.alloc o) := fun o => (Below.refl _ w6).alloc (Nat.le_refl _) _
  have Hal := Hid.mk hal
  clear hn5 hk6 HR5 hr6 hz hal
  go_wp2_with fail
  refine (HZ.out _ (Hal.out _)).mono ?_
  rintro e w7 ⟨rfl, _, hk7⟩
  have hs7 : w7.heap[w6.heap.size]? = some (.cells #[.int .i64 ((u32 l 8 : Nat) : Int), .int .i64 ((u32 l 12 : Nat) : Int), .int .i64 ((u32 l 16 : Nat) : Int)] 85 (0, 0)) := (hk7.block _ (by simp) (by omega)).trans (heap_alloc_new _ _)
  have HR7 := Hid.mk ((HR6.out.below (Hal.out _)).step hk7)
  have hpl2 : Calls Try.prog 102 #[.agg #[.int .i64 ((u32 l 8 : Nat) : Int), .int .i64 ((u32 l 12 : Nat) : Int), .int .i64 ((u32 l 16 : Nat) : Int)]] w7 fun e w' => e = .returned (.tuple #[.agg #[.int .i64 0, .int .i64 0, .int .i64 0, .int .i64 0, .int .i64 0], .int .i64 22]) ∧ Below w7.heap.size w7 w' := by
    refine (plan_any _ _ _ w7).mono ?_
    rintro e w' ⟨v, x, rfl, ⟨hg, _⟩ | ⟨_, rfl, rfl⟩, hb⟩
    · exact absurd hg H3.out
    · exact ⟨rfl, hb⟩
  have s0 := cell_of_block hs7 (j := 0) rfl
  have s1 := cell_of_block hs7 (j := 1) rfl
  have s2 := cell_of_block hs7 (j := 2) rfl
  have hmf := must_f
  clear HZ hk7 HR6 Hal hs7 H2 H3
  go_wp2_with fail
  refine hpl2.mono ?_
  rintro e w8 ⟨rfl, hb8⟩
  have HR8 := Hid.mk (HR7.out.below hb8)
  clear hpl2 s0 s1 s2 HR7 hb8 hm
  go_wp2_with fail
  refine (hmf _).mono ?_
  rintro e w9 ⟨rfl, hw⟩
  have hw' := hw.symm
  subst hw'
  clear hw
  go_wp2
  exact ⟨rfl, rfl, HR8.out.k.more _⟩

theorem readsuper_no (p b o c : Nat) (l : List Int) (w : World) (h : Rd w p b o c 0 l) (hl : l.length = 508) (hok : ¬ SupOk l) :
    Calls Try.prog 97 #[.pointer (some ⟨p, 0, none⟩)] w fun e w' => e = .panicked gaveUp ∧ Keeps (fun j => j = p) w w' := by
  by_cases h1 : part l 0 8 = headL
  · by_cases h2 : Zeros (part l 20 488)
    · exact readsuper_no3 p b o c l w h hl h1 h2 (fun h3 => hok ⟨h1, h2, h3⟩)
    · exact readsuper_no2 p b o c l w h hl h1 h2
  · exact readsuper_no1 p b o c l w h hl h1
end Go.Proofs.Ytkkmkogpbhcpmaa
