import Derived.Test.YtokcgifpljeoiaaGreatV11
import Derived.Test.YtokcgifpljeoiaaGreatV13
import Derived.Defers
import Derived.Recover
section
namespace Go.Proofs.YtokcgifpljeoiaaGreat
open Go.RowKit

theorem str_eq {xs : List Int} (hx : xs = headL) : ((strOfNums xs).toList == [118, 101, 108, 108, 117, 109, 0, 1]) = true := by
  subst hx
  decide +kernel
theorem str_ne {xs : List Int} (h : Bytes xs) (hx : xs ≠ headL) : ((strOfNums xs).toList == [118, 101, 108, 108, 117, 109, 0, 1]) = false := by
  rw [Bool.eq_false_iff, ne_eq, beq_iff_eq]
  intro e
  apply hx
  have := txt_str h
  rw [← this]
  unfold txt
  rw [← ByteArray.toList_eq, e]
  rfl

/-- A number of four bytes at k. -/
def u32 (l : List Int) (k : Nat) : Nat := le (part l k 4)
theorem u32_lt {l : List Int} (h : Bytes l) {k : Nat} (hk : k + 4 ≤ l.length) : u32 l k < 4294967296 := by
  have := le_lt (part_bytes h k 4)
  rw [part_len hk] at this
  exact this
theorem u32_wrap {l : List Int} (h : Bytes l) {k : Nat} (hk : k + 4 ≤ l.length) : wrap64 ((le (part l k 4) : Nat) : Int) = ((u32 l k : Nat) : Int) := by
  have := u32_lt h hk
  unfold u32 at *
  unfold wrap64
  omega

theorem rnum4 (p b o c k : Nat) (l : List Int) (w : World) (h : Rd w p b o c k l) (hk : k + 4 ≤ l.length) (hkc : k < c) :
    Calls Tryz.prog 140 #[.pointer (some ⟨p, 0, none⟩), .int .i64 4] w fun e w' => e = .returned (.int .i64 ((u32 l k : Nat) : Int)) ∧ Rd w' p b o c (k + 4) l ∧ Keeps (fun j => j = p) w w' := by
  refine (crnumber_any p b o c k 4 l w h hk hkc (by omega)).mono ?_
  rintro e w' ⟨rfl, h1, h2⟩
  exact ⟨by rw [u32_wrap h.bytes hk], h1, h2⟩

/-- What is kept while a reader reads: all but the reader. -/
structure Reads (p g : Nat) (w w' : World) (cs : Array Value) (t : TypeId) : Prop where
  k : Keeps (fun j => j = p) w w'
  blk : w'.heap[g]? = some (.cells cs t (0, 0))
  ne : g ≠ p
theorem Reads.step {p g : Nat} {w w1 w2 : World} {cs : Array Value} {t : TypeId} (h : Reads p g w w1 cs t) (hk : Keeps (fun j => j = p) w1 w2) : Reads p g w w2 cs t :=
  ⟨h.k.trans hk (fun _ h => .inl h), (hk.block g (Array.getElem?_eq_some_iff.1 h.blk).1 h.ne).trans h.blk, h.ne⟩
theorem Reads.below {p g : Nat} {w w1 w2 : World} {cs : Array Value} {t : TypeId} (h : Reads p g w w1 cs t) (hb : Below w1.heap.size w1 w2) : Reads p g w w2 cs t := h.step (Keeps.of_below _ hb)

theorem Keeps.put {F : Nat → Prop} {w wx : World} (h : Keeps F w wx) {g i : Nat} (hg : w.heap.size ≤ g) (v : Value) : Keeps F w (wx.setCell ⟨g, i, none⟩ v) :=
  h.trans (Keeps.setCell (F := fun j => j = g) (p := ⟨g, i, none⟩) wx rfl v) (fun j hj => .inr (by omega))
theorem Keeps.more {F : Nat → Prop} {w wx : World} (h : Keeps F w wx) (o : Obj) : Keeps F w (wx.alloc o) := h.trans (Keeps.alloc F wx o) (fun _ h => .inl h)

/-- The layout of a superblock's body is right. -/
structure SupOk (l : List Int) : Prop where
  head : part l 0 8 = headL
  zeros : Zeros (part l 20 488)
  geo : Geo (u32 l 8) (u32 l 12) (u32 l 16)

set_option maxRecDepth 20000 in
set_option maxHeartbeats 4000000 in
theorem readsuper_ok (p b o c : Nat) (l : List Int) (w : World) (h : Rd w p b o c 0 l) (hl : l.length = 508) (hok : SupOk l) :
    Calls Tryz.prog 114 #[.pointer (some ⟨p, 0, none⟩)] w fun e w' => e = .returned (.agg #[.int .i64 ((u32 l 8 : Nat) : Int), .int .i64 ((u32 l 12 : Nat) : Int), .int .i64 ((u32 l 16 : Nat) : Int)]) ∧ Keeps (fun j => j = p) w w' := by
  have hc := h.cap
  have hseq := str_eq hok.head
  have hpl := (Array.getElem?_eq_some_iff.1 h.rd).1
  obtain ⟨w1, hw1⟩ : ∃ w1, w1 = w.alloc (.cells #[.int .i64 0, .int .i64 0, .int .i64 0] 67) := ⟨_, rfl⟩
  have hB1 : Below w.heap.size w w1 := by rw [hw1]; exact (Below.refl _ w).alloc (Nat.le_refl _) _
  have R1 : Reads p w.heap.size w w1 #[.int .i64 0, .int .i64 0, .int .i64 0] 67 := ⟨Keeps.of_below _ hB1, by rw [hw1]; exact heap_alloc_new _ _, by omega⟩
  have ht : Calls Tryz.prog 139 #[.pointer (some ⟨p, 0, none⟩), .int .i64 8] w1 fun e w' => e = .returned (.string (strOfNums (part l 0 8))) ∧ Rd w' p b o c 8 l ∧ Keeps (fun j => j = p) w1 w' := rtext_ok p b o c 0 8 l w1 (h.far hB1) (by omega) (by omega)
  generalize strOfNums (part l 0 8) = str at *
  go_enter Tryz.func114, Tryz.ntmps114
  go_wp2_with fail
  rw [← hw1]
  refine ht.mono ?_
  rintro e w2 ⟨rfl, hr2, hk2⟩
  go_wp2_with fail
  refine (must_t _).mono ?_
  rintro e w3 ⟨rfl, hw⟩
  have hw' := hw.symm
  subst hw'
  go_wp2_with fail
  refine (rnum4 p b o c 8 l w2 hr2 (by omega) (by omega)).mono ?_
  rintro e w4 ⟨rfl, hr4, hk4⟩
  go_wp2_with fail
  refine (rnum4 p b o c 12 l w4 hr4 (by omega) (by omega)).mono ?_
  rintro e w5 ⟨rfl, hr5, hk5⟩
  go_wp2_with fail
  refine (rnum4 p b o c 16 l w5 hr5 (by omega) (by omega)).mono ?_
  rintro e w6 ⟨rfl, hr6, hk6⟩
  have HR6 := ((((R1.step hk2).step hk4).step hk5).step hk6)
  have hpg := (Array.getElem?_eq_some_iff.1 hr6.rd).1
  have hz : ∀ wx : World, Below w6.heap.size w6 wx → Calls Tryz.prog 141 #[.pointer (some ⟨p, 0, none⟩), .int .i64 508] wx fun e w' => e = .returned (.tuple #[]) ∧ Rd w' p b o c 508 l ∧ Keeps (fun j => j = p) wx w' := fun wx hx => rzeros_ok p b o c 20 488 l wx (hr6.far hx) (by omega) (by omega) hok.zeros
  have hal : ∀ o, Below w6.heap.size w6 (w6.alloc o) := fun o => (Below.refl _ w6).alloc (Nat.le_refl _) _
  go_wp2_with fail
  refine (hz _ (hal _)).mono ?_
  rintro e w7 ⟨rfl, _, hk7⟩
  have hs7 : w7.heap[w6.heap.size]? = some (.cells #[.int .i64 ((u32 l 8 : Nat) : Int), .int .i64 ((u32 l 12 : Nat) : Int), .int .i64 ((u32 l 16 : Nat) : Int)] 67 (0, 0)) := (hk7.block _ (by simp) (by omega)).trans (heap_alloc_new _ _)
  have hg := hok.geo
  have s0 := cell_of_block hs7 (j := 0) rfl
  have s1 := cell_of_block hs7 (j := 1) rfl
  have s2 := cell_of_block hs7 (j := 2) rfl
  go_wp2_with fail
  refine (plan_good (u32 l 8) (u32 l 12) (u32 l 16) w7 hg.1.1 hg.1.2 hg.2.1.1 hg.2.1.2 hg.2.2.1 hg.2.2.2.1 hg.2.2.2.2).mono ?_
  rintro e w8 ⟨rfl, hb8⟩
  have HR8 := (((HR6.below (hal _)).step hk7).below hb8)
  have t0 := cell_later hb8 s0
  have t1 := cell_later hb8 s1
  have t2 := cell_later hb8 s2
  have hl8 := Nat.lt_of_lt_of_le (Array.getElem?_eq_some_iff.1 hs7).1 hb8.size
  have hbk := HR8.blk
  have hbo := fun o => (Below.heap_alloc w8 o _ (Array.getElem?_eq_some_iff.1 hbk).1).trans hbk
  have d0 := fun o => cell_of_block (hbo o) (j := 0) rfl
  have d1 := fun o => cell_of_block (hbo o) (j := 1) rfl
  have d2 := fun o => cell_of_block (hbo o) (j := 2) rfl
  have f0 := fun o => frozen_of_block (hbo o) 0
  have f1 := fun o => frozen_of_block (hbo o) 1
  have f2 := fun o => frozen_of_block (hbo o) 2
  go_wp2_with fail
  refine (must_t _).mono ?_
  rintro e w9 ⟨rfl, hw⟩
  have hw' := hw.symm
  subst hw'
  go_wp2
  refine bodyPost_ret (v := .agg #[.int .i64 ((u32 l 8 : Nat) : Int), .int .i64 ((u32 l 12 : Nat) : Int), .int .i64 ((u32 l 16 : Nat) : Int)]) (by simp [results, Tryz.results114, go_sem, d0, d1, d2]) rfl ⟨rfl, ?_⟩
  exact (((HR8.k.more _).put (Nat.le_refl _) _).put (Nat.le_refl _) _).put (Nat.le_refl _) _
set_option maxRecDepth 20000 in
set_option maxHeartbeats 4000000 in
theorem readsuper_no1 (p b o c : Nat) (l : List Int) (w : World) (h : Rd w p b o c 0 l) (hl : l.length = 508) (hok : part l 0 8 ≠ headL) :
    Calls Tryz.prog 114 #[.pointer (some ⟨p, 0, none⟩)] w fun e w' => e = .panicked gaveUp ∧ Keeps (fun j => j = p) w w' := by
  have hc := h.cap
  have hseq := str_ne (part_bytes h.bytes 0 8) hok
  have hpl := (Array.getElem?_eq_some_iff.1 h.rd).1
  obtain ⟨w1, hw1⟩ : ∃ w1, w1 = w.alloc (.cells #[.int .i64 0, .int .i64 0, .int .i64 0] 67) := ⟨_, rfl⟩
  have hB1 : Below w.heap.size w w1 := by rw [hw1]; exact (Below.refl _ w).alloc (Nat.le_refl _) _
  have R1 : Reads p w.heap.size w w1 #[.int .i64 0, .int .i64 0, .int .i64 0] 67 := ⟨Keeps.of_below _ hB1, by rw [hw1]; exact heap_alloc_new _ _, by omega⟩
  have ht : Calls Tryz.prog 139 #[.pointer (some ⟨p, 0, none⟩), .int .i64 8] w1 fun e w' => e = .returned (.string (strOfNums (part l 0 8))) ∧ Rd w' p b o c 8 l ∧ Keeps (fun j => j = p) w1 w' := rtext_ok p b o c 0 8 l w1 (h.far hB1) (by omega) (by omega)
  generalize strOfNums (part l 0 8) = str at *
  go_enter Tryz.func114, Tryz.ntmps114
  go_wp2_with fail
  rw [← hw1]
  refine ht.mono ?_
  rintro e w2 ⟨rfl, hr2, hk2⟩
  go_wp2_with fail
  refine (must_f _).mono ?_
  rintro e w3 ⟨rfl, hw⟩
  have hw' := hw.symm
  subst hw'
  go_wp2
  exact ⟨rfl, rfl, (R1.step hk2).k⟩

set_option maxRecDepth 20000 in
set_option maxHeartbeats 4000000 in
theorem readsuper_no2 (p b o c : Nat) (l : List Int) (w : World) (h : Rd w p b o c 0 l) (hl : l.length = 508) (h1 : part l 0 8 = headL) (h2 : ¬ Zeros (part l 20 488)) :
    Calls Tryz.prog 114 #[.pointer (some ⟨p, 0, none⟩)] w fun e w' => e = .panicked gaveUp ∧ Keeps (fun j => j = p) w w' := by
  have hc := h.cap
  have hseq := str_eq h1
  have hpl := (Array.getElem?_eq_some_iff.1 h.rd).1
  obtain ⟨w1, hw1⟩ : ∃ w1, w1 = w.alloc (.cells #[.int .i64 0, .int .i64 0, .int .i64 0] 67) := ⟨_, rfl⟩
  have hB1 : Below w.heap.size w w1 := by rw [hw1]; exact (Below.refl _ w).alloc (Nat.le_refl _) _
  have R1 : Reads p w.heap.size w w1 #[.int .i64 0, .int .i64 0, .int .i64 0] 67 := ⟨Keeps.of_below _ hB1, by rw [hw1]; exact heap_alloc_new _ _, by omega⟩
  have ht : Calls Tryz.prog 139 #[.pointer (some ⟨p, 0, none⟩), .int .i64 8] w1 fun e w' => e = .returned (.string (strOfNums (part l 0 8))) ∧ Rd w' p b o c 8 l ∧ Keeps (fun j => j = p) w1 w' := rtext_ok p b o c 0 8 l w1 (h.far hB1) (by omega) (by omega)
  generalize strOfNums (part l 0 8) = str at *
  go_enter Tryz.func114, Tryz.ntmps114
  go_wp2_with fail
  rw [← hw1]
  refine ht.mono ?_
  rintro e w2 ⟨rfl, hr2, hk2⟩
  go_wp2_with fail
  refine (must_t _).mono ?_
  rintro e w3 ⟨rfl, hw⟩
  have hw' := hw.symm
  subst hw'
  go_wp2_with fail
  refine (rnum4 p b o c 8 l w2 hr2 (by omega) (by omega)).mono ?_
  rintro e w4 ⟨rfl, hr4, hk4⟩
  go_wp2_with fail
  refine (rnum4 p b o c 12 l w4 hr4 (by omega) (by omega)).mono ?_
  rintro e w5 ⟨rfl, hr5, hk5⟩
  go_wp2_with fail
  refine (rnum4 p b o c 16 l w5 hr5 (by omega) (by omega)).mono ?_
  rintro e w6 ⟨rfl, hr6, hk6⟩
  have HR6 := ((((R1.step hk2).step hk4).step hk5).step hk6)
  have hz : ∀ wx : World, Below w6.heap.size w6 wx → Calls Tryz.prog 141 #[.pointer (some ⟨p, 0, none⟩), .int .i64 508] wx fun e w' => e = .panicked gaveUp ∧ Keeps (fun j => j = p) wx w' := fun wx hx => rzeros_no p b o c 20 488 l wx (hr6.far hx) (by omega) (by omega) h2
  have hal : ∀ o, Below w6.heap.size w6 (w6.alloc o) := fun o => (Below.refl _ w6).alloc (Nat.le_refl _) _
  go_wp2_with fail
  refine (hz _ (hal _)).mono ?_
  rintro e w7 ⟨rfl, hk7⟩
  go_wp2
  exact ⟨rfl, rfl, ((HR6.below (hal _)).step hk7).k⟩

set_option maxRecDepth 20000 in
set_option maxHeartbeats 4000000 in
theorem readsuper_no3 (p b o c : Nat) (l : List Int) (w : World) (h : Rd w p b o c 0 l) (hl : l.length = 508) (h1 : part l 0 8 = headL) (h2 : Zeros (part l 20 488)) (h3 : ¬ Geo (u32 l 8) (u32 l 12) (u32 l 16)) :
    Calls Tryz.prog 114 #[.pointer (some ⟨p, 0, none⟩)] w fun e w' => e = .panicked gaveUp ∧ Keeps (fun j => j = p) w w' := by
  have hc := h.cap
  have hseq := str_eq h1
  have hpl := (Array.getElem?_eq_some_iff.1 h.rd).1
  obtain ⟨w1, hw1⟩ : ∃ w1, w1 = w.alloc (.cells #[.int .i64 0, .int .i64 0, .int .i64 0] 67) := ⟨_, rfl⟩
  have hB1 : Below w.heap.size w w1 := by rw [hw1]; exact (Below.refl _ w).alloc (Nat.le_refl _) _
  have R1 : Reads p w.heap.size w w1 #[.int .i64 0, .int .i64 0, .int .i64 0] 67 := ⟨Keeps.of_below _ hB1, by rw [hw1]; exact heap_alloc_new _ _, by omega⟩
  have ht : Calls Tryz.prog 139 #[.pointer (some ⟨p, 0, none⟩), .int .i64 8] w1 fun e w' => e = .returned (.string (strOfNums (part l 0 8))) ∧ Rd w' p b o c 8 l ∧ Keeps (fun j => j = p) w1 w' := rtext_ok p b o c 0 8 l w1 (h.far hB1) (by omega) (by omega)
  generalize strOfNums (part l 0 8) = str at *
  go_enter Tryz.func114, Tryz.ntmps114
  go_wp2_with fail
  rw [← hw1]
  refine ht.mono ?_
  rintro e w2 ⟨rfl, hr2, hk2⟩
  go_wp2_with fail
  refine (must_t _).mono ?_
  rintro e w3 ⟨rfl, hw⟩
  have hw' := hw.symm
  subst hw'
  go_wp2_with fail
  refine (rnum4 p b o c 8 l w2 hr2 (by omega) (by omega)).mono ?_
  rintro e w4 ⟨rfl, hr4, hk4⟩
  go_wp2_with fail
  refine (rnum4 p b o c 12 l w4 hr4 (by omega) (by omega)).mono ?_
  rintro e w5 ⟨rfl, hr5, hk5⟩
  go_wp2_with fail
  refine (rnum4 p b o c 16 l w5 hr5 (by omega) (by omega)).mono ?_
  rintro e w6 ⟨rfl, hr6, hk6⟩
  have HR6 := ((((R1.step hk2).step hk4).step hk5).step hk6)
  have hpg := (Array.getElem?_eq_some_iff.1 hr6.rd).1
  have hz : ∀ wx : World, Below w6.heap.size w6 wx → Calls Tryz.prog 141 #[.pointer (some ⟨p, 0, none⟩), .int .i64 508] wx fun e w' => e = .returned (.tuple #[]) ∧ Rd w' p b o c 508 l ∧ Keeps (fun j => j = p) wx w' := fun wx hx => rzeros_ok p b o c 20 488 l wx (hr6.far hx) (by omega) (by omega) h2
  have hal : ∀ o, Below w6.heap.size w6 (w6.alloc o) := fun o => (Below.refl _ w6).alloc (Nat.le_refl _) _
  go_wp2_with fail
  refine (hz _ (hal _)).mono ?_
  rintro e w7 ⟨rfl, _, hk7⟩
  have hs7 : w7.heap[w6.heap.size]? = some (.cells #[.int .i64 ((u32 l 8 : Nat) : Int), .int .i64 ((u32 l 12 : Nat) : Int), .int .i64 ((u32 l 16 : Nat) : Int)] 67 (0, 0)) := (hk7.block _ (by simp) (by omega)).trans (heap_alloc_new _ _)
  have hpl2 : Calls Tryz.prog 82 #[.agg #[.int .i64 ((u32 l 8 : Nat) : Int), .int .i64 ((u32 l 12 : Nat) : Int), .int .i64 ((u32 l 16 : Nat) : Int)]] w7 fun e w' => e = .returned (.tuple #[.agg #[.int .i64 0, .int .i64 0, .int .i64 0, .int .i64 0, .int .i64 0], .int .i64 22]) ∧ Below w7.heap.size w7 w' := by
    refine (plan_any _ _ _ w7).mono ?_
    rintro e w' ⟨v, x, rfl, ⟨hg, _⟩ | ⟨_, rfl, rfl⟩, hb⟩
    · exact absurd hg h3
    · exact ⟨rfl, hb⟩
  have s0 := cell_of_block hs7 (j := 0) rfl
  have s1 := cell_of_block hs7 (j := 1) rfl
  have s2 := cell_of_block hs7 (j := 2) rfl
  go_wp2_with fail
  refine hpl2.mono ?_
  rintro e w8 ⟨rfl, hb8⟩
  go_wp2_with fail
  refine (must_f _).mono ?_
  rintro e w9 ⟨rfl, hw⟩
  have hw' := hw.symm
  subst hw'
  go_wp2
  exact ⟨rfl, rfl, (((HR6.below (hal _)).step hk7).below hb8).k.more _⟩

theorem readsuper_no (p b o c : Nat) (l : List Int) (w : World) (h : Rd w p b o c 0 l) (hl : l.length = 508) (hok : ¬ SupOk l) :
    Calls Tryz.prog 114 #[.pointer (some ⟨p, 0, none⟩)] w fun e w' => e = .panicked gaveUp ∧ Keeps (fun j => j = p) w w' := by
  by_cases h1 : part l 0 8 = headL
  · by_cases h2 : Zeros (part l 20 488)
    · exact readsuper_no3 p b o c l w h hl h1 h2 (fun h3 => hok ⟨h1, h2, h3⟩)
    · exact readsuper_no2 p b o c l w h hl h1 h2
  · exact readsuper_no1 p b o c l w h hl h1
end Go.Proofs.YtokcgifpljeoiaaGreat
end

section
namespace Go.Proofs.YtokcgifpljeoiaaGreat

theorem leb_le : ∀ {xs : List Int}, Bytes xs → leb xs.length (le xs) = xs
  | [], _ => rfl
  | x :: t, h => by
    have h1 := h x (by simp)
    rw [List.length_cons, leb, le]
    have e1 : (x.toNat + 256 * le t) / 256 = le t := by omega
    have e2 : (((x.toNat + 256 * le t) % 256 : Nat) : Int) = x := by omega
    rw [e1, e2, (leb_le (xs := t) (fun y hy => h y (by simp [hy])))]
theorem le_leb : ∀ (k m : Nat), m < 256 ^ k → le (leb k m) = m
  | 0, m, h => by simp at h; simp [leb, le, h]
  | k + 1, m, h => by
    have h2 : m / 256 < 256 ^ k := by rw [Nat.pow_succ] at h; exact Nat.div_lt_of_lt_mul (by rw [Nat.mul_comm]; exact h)
    rw [leb, le, le_leb k _ h2]
    omega
theorem zeros_rep {l : List Int} (h : ∀ x ∈ l, x = 0) : l = List.replicate l.length 0 := List.eq_replicate_iff.2 ⟨rfl, h⟩
theorem part_take {l : List Int} {a q m : Nat} (h : q + m ≤ a) : part (part l 0 a) q m = part l q m := by
  unfold part
  rw [List.drop_zero, List.drop_take, List.take_take]
  congr 1
  omega
theorem part_split (l : List Int) (q m k : Nat) : part l q (m + k) = part l q m ++ part l (q + m) k := by
  unfold part
  rw [List.take_add, List.drop_drop]
theorem part_all (l : List Int) : part l 0 l.length = l := by simp [part]
theorem part_app (A B : List Int) (q m : Nat) (h : q = A.length) : part (A ++ B) q m = B.take m := by
  subst h
  simp [part]
theorem part_appl (A B : List Int) (q m : Nat) (h : q + m ≤ A.length) : part (A ++ B) q m = part A q m := by
  unfold part
  rw [List.drop_append_of_le_length (by omega), List.take_append_of_le_length (by simp; omega)]
theorem leb_part {l : List Int} (hb : Bytes l) {q : Nat} (hq : q + 4 ≤ l.length) : leb 4 (u32 l q) = part l q 4 := by
  have := leb_le (part_bytes hb q 4)
  rw [part_len hq] at this
  exact this

/-- The document's way to say that a sector is a superblock. -/
def SuperRef (l : List Int) : Prop := Geo (u32 l 8) (u32 l 12) (u32 l 16) ∧ sealed (supBody (u32 l 8) (u32 l 12) (u32 l 16)) = l

theorem super_iff {l : List Int} (hb : Bytes l) (hl : l.length = 512) : (SumOk l ∧ SupOk (part l 0 508)) ↔ SuperRef l := by
  have u1 : u32 (part l 0 508) 8 = u32 l 8 := by unfold u32; rw [part_take (by omega)]
  have u2 : u32 (part l 0 508) 12 = u32 l 12 := by unfold u32; rw [part_take (by omega)]
  have u3 : u32 (part l 0 508) 16 = u32 l 16 := by unfold u32; rw [part_take (by omega)]
  have hbody : part l 0 508 = part l 0 8 ++ part l 8 4 ++ part l 12 4 ++ part l 16 4 ++ part l 20 488 := by
    rw [show (508 : Nat) = 8 + 4 + 4 + 4 + 488 from rfl, part_split, part_split, part_split, part_split]
  have hwhole : l = part l 0 508 ++ part l 508 4 := by
    have := part_split l 0 508 4
    rw [show 508 + 4 = l.length by omega, part_all] at this
    exact this
  constructor
  · rintro ⟨hs, hh, hz, hg⟩
    rw [u1, u2, u3] at hg
    rw [part_take (by omega)] at hh hz
    refine ⟨hg, ?_⟩
    have e : supBody (u32 l 8) (u32 l 12) (u32 l 16) = part l 0 508 := by
      rw [hbody, hh, ← leb_part hb (q := 8) (by omega), ← leb_part hb (q := 12) (by omega), ← leb_part hb (q := 16) (by omega)]
      have := zeros_rep hz
      rw [part_len (by omega)] at this
      rw [this]
      rfl
    unfold sealed
    rw [e]
    unfold SumOk at hs
    rw [hl] at hs
    have h5 : u32 l 508 = sumOf (part l 0 508) := hs
    rw [← h5, (leb_part hb (q := 508) (by omega))]
    exact hwhole.symm
  · rintro ⟨hg, he⟩
    have hlen := supBody_len (u32 l 8) (u32 l 12) (u32 l 16)
    have hb508 : part l 0 508 = supBody (u32 l 8) (u32 l 12) (u32 l 16) := by
      conv => lhs; rw [← he]
      unfold sealed
      rw [part_appl _ _ _ _ (by omega)]
      have := part_all (supBody (u32 l 8) (u32 l 12) (u32 l 16))
      rw [hlen] at this
      exact this
    have hsum : part l 508 4 = leb 4 (sumOf (supBody (u32 l 8) (u32 l 12) (u32 l 16))) := by
      conv => lhs; rw [← he]
      unfold sealed
      rw [part_app _ _ _ _ hlen.symm, List.take_of_length_le (by rw [leb_len]; omega)]
    refine ⟨?_, ?_, ?_, ?_⟩
    · unfold SumOk
      rw [hl]
      show le (part l 508 4) = sumOf (part l 0 508)
      rw [hsum, hb508, le_leb _ _ (by have := sumOf_lt (supBody_bytes (u32 l 8) (u32 l 12) (u32 l 16)); omega)]
    · rw [hb508]
      unfold supBody
      rw [List.append_assoc, List.append_assoc, List.append_assoc, part_appl _ _ _ _ (by decide)]
      rfl
    · rw [hb508]
      unfold supBody
      have h20 : (headL ++ leb 4 (u32 l 8) ++ leb 4 (u32 l 12) ++ leb 4 (u32 l 16)).length = 20 := by rw [List.length_append, List.length_append, List.length_append, leb_len, leb_len, leb_len]; rfl
      rw [part_app _ _ _ _ h20.symm]
      intro x hx
      exact List.eq_of_mem_replicate (List.mem_of_mem_take hx)
    · rw [u1, u2, u3]
      exact hg
end Go.Proofs.YtokcgifpljeoiaaGreat
end

section
namespace Go.Proofs.YtokcgifpljeoiaaGreat
open Go.RowKit

theorem scatch_panic (g1 g2 : Nat) (a0 a1 a2 : Value) (x : Value) (w : World) (h1 : w.heap[g1]? = some (.cells #[a0, a1, a2] 67 (0, 0))) (h2 : w.heap[g2]? = some (.cells #[x] 25 (0, 0))) (hne : g1 ≠ g2) :
    CallsD Tryz.prog 113 #[.pointer (some ⟨g1, 0, none⟩), .pointer (some ⟨g2, 0, none⟩)] (.panicking gaveUp) w fun e u' w' =>
      e = .returned (.tuple #[]) ∧ u' = .panicking [{ v := .iface 25 (.int .i64 6), recovered := true }] ∧ w' = (((w.setCell ⟨g1, 0, none⟩ (.int .i64 0)).setCell ⟨g1, 1, none⟩ (.int .i64 0)).setCell ⟨g1, 2, none⟩ (.int .i64 0)).setCell ⟨g2, 0, none⟩ (.int .i64 6) := by
  have hne' : ¬ g2 = g1 := fun e => hne e.symm
  refine callsD_of_wpS Tryz.func113 rfl fun c₀ cs hu => ?_
  apply wpS_seq
  apply wpS_region
  simp [wpOpsS, go_sem, recoverD, hu, Tryz.ntmps113, Exit.thenS]
  refine wpS_cond (t := true) (by simp [Act.eval, Array.replicate]) ?_
  simp only [if_true]
  apply wpS_region
  simp [wpOpsS, go_sem, (cell_of_block h1 (j := 0) rfl), (cell_of_block h1 (j := 1) rfl), (cell_of_block h1 (j := 2) rfl), (frozen_of_block h1 0), (frozen_of_block h1 1), (frozen_of_block h1 2), (cell_of_block h2 (j := 0) rfl), (frozen_of_block h2 0), bodyPostS, results, Tryz.results113]

theorem scatch_idle (g1 g2 : Nat) (w : World) :
    CallsD Tryz.prog 113 #[.pointer (some ⟨g1, 0, none⟩), .pointer (some ⟨g2, 0, none⟩)] .returning w fun e u' w' => e = .returned (.tuple #[]) ∧ u' = .returning ∧ w' = w := by
  refine callsD_of_wpS Tryz.func113 rfl fun c₀ cs hu => ?_
  apply wpS_seq
  apply wpS_region
  simp [wpOpsS, go_sem, recoverD, hu, Tryz.ntmps113, Exit.thenS]
  refine wpS_cond (t := false) (by simp [Act.eval, Array.replicate]) ?_
  simp only [Bool.false_eq_true, if_false]
  refine wpS_of_wp (wp_skip ?_)
  cases c₀
  simp_all [bodyPostS, results, Tryz.results113]

theorem below_put {B : Nat} {w wx : World} (h : Below B w wx) {g i : Nat} (hg : B ≤ g) (hB : B ≤ wx.heap.size) (v : Value) : Below B w (wx.setCell ⟨g, i, none⟩ v) :=
  h.trans ((Keeps.setCell (F := fun j => j = g) (p := ⟨g, i, none⟩) wx rfl v).below (fun j hj => by omega) hB)
theorem size_setCell (w : World) (a : Addr) (v : Value) : (w.setCell a v).heap.size = w.heap.size := by simp [World.setCell]
theorem below4 {B : Nat} {w wx : World} (h : Below B w wx) {g1 g2 : Nat} (h1 : B ≤ g1) (h2 : B ≤ g2) (hB : B ≤ wx.heap.size) (x y z u : Value) :
    Below B w ((((wx.setCell ⟨g1, 0, none⟩ x).setCell ⟨g1, 1, none⟩ y).setCell ⟨g1, 2, none⟩ z).setCell ⟨g2, 0, none⟩ u) :=
  below_put (below_put (below_put (below_put h h1 hB x) h1 (by rw [size_setCell]; exact hB) y) h1 (by rw [size_setCell, size_setCell]; exact hB) z) h2 (by rw [size_setCell, size_setCell, size_setCell]; exact hB) u

/-- A superblock's bytes are right. -/
def SuperOk (l : List Int) : Prop := SumOk l ∧ SupOk (part l 0 508)

set_option maxRecDepth 20000 in
set_option maxHeartbeats 4000000 in
theorem decsuper_ok (b o c : Nat) (l : List Int) (w : World) (hl : l.length = 512) (hc : 512 ≤ c) (hcc : c ≤ 9223372036854775807) (hb : Bytes l) (hs : ∀ i, i < 512 → w.cell? ⟨b, o + i, none⟩ = some (.int .u8 (l.getD i 0))) (hok : SuperOk l) :
    Calls Tryz.prog 81 #[.slice (some ⟨b, o, none⟩) 512 c] w fun e w' => e = .returned (.tuple #[.agg #[.int .i64 ((u32 l 8 : Nat) : Int), .int .i64 ((u32 l 12 : Nat) : Int), .int .i64 ((u32 l 16 : Nat) : Int)], .int .i64 0]) ∧ Below w.heap.size w w' := by
  obtain ⟨w1, hw1⟩ : ∃ w1, w1 = (w.alloc (.cells #[.int .i64 0, .int .i64 0, .int .i64 0] 67)).alloc (.cells #[.int .i64 0] 25) := ⟨_, rfl⟩
  have hB1 : Below w.heap.size w w1 := by rw [hw1]; exact cbelow_two w _ _
  have hsz1 : w1.heap.size = w.heap.size + 2 := by rw [hw1]; simp
  have hg1 : w1.heap[w.heap.size]? = some (.cells #[.int .i64 0, .int .i64 0, .int .i64 0] 67 (0, 0)) := by rw [hw1]; exact heap_alloc2_old _ _ _
  have hg2 : w1.heap[w.heap.size + 1]? = some (.cells #[.int .i64 0] 25 (0, 0)) := by rw [hw1]; exact heap_alloc2_new _ _ _
  go_enter_defers Tryz.func81, Tryz.ntmps81
  go_wp2_with fail
  rw [← hw1]
  refine (summed_ok b o 512 c l w1 hl (by omega) (by omega) hc hcc hb (fun i hi => cell_later hB1 (hs i hi)) hok.1).mono ?_
  rintro e w2 ⟨p, rfl, hp, hrd, hb2⟩
  have hrs := readsuper_ok p b o c (part l 0 508) w2 hrd (part_len (by omega)) hok.2
  have HB2 := hB1.trans (hb2.mono hB1.size)
  have HG1 := ((hb2.block w.heap.size (by omega)).trans hg1)
  have HG2 := ((hb2.block (w.heap.size + 1) (by omega)).trans hg2)
  have u8' : u32 (part l 0 508) 8 = u32 l 8 := by unfold u32; congr 1; simp [part, List.drop_take, List.take_take]
  have u12' : u32 (part l 0 508) 12 = u32 l 12 := by unfold u32; congr 1; simp [part, List.drop_take, List.take_take]
  have u16' : u32 (part l 0 508) 16 = u32 l 16 := by unfold u32; congr 1; simp [part, List.drop_take, List.take_take]
  rw [u8', u12', u16'] at hrs
  go_wp2_with fail
  refine hrs.mono ?_
  rintro e w3 ⟨rfl, hk3⟩
  have hg1 := (hk3.block w.heap.size (Array.getElem?_eq_some_iff.1 HG1).1 (by omega)).trans HG1
  have hg2 := (hk3.block (w.heap.size + 1) (Array.getElem?_eq_some_iff.1 HG2).1 (by omega)).trans HG2
  have HB3 := HB2.trans (hk3.below (fun j hj => by omega) HB2.size)
  have c0 := cell_of_block hg1 (j := 0) rfl
  have c1 := cell_of_block hg1 (j := 1) rfl
  have c2 := cell_of_block hg1 (j := 2) rfl
  have f0 := frozen_of_block hg1 0
  have f1 := frozen_of_block hg1 1
  have f2 := frozen_of_block hg1 2
  have d0 := cell_of_block hg2 (j := 0) rfl
  have e0 := frozen_of_block hg2 0
  go_wp2
  refine leaves_cons (f := 113) (args := #[.pointer (some ⟨w.heap.size, 0, none⟩), .pointer (some ⟨w.heap.size + 1, 0, none⟩)]) (by simp) (by simp [go_sem]) ?_
  refine (scatch_idle _ _ _).mono ?_
  rintro e u' w'' ⟨rfl, rfl, rfl⟩
  simp [Leaves, settle, results, Tryz.results81, go_sem, c0, c1, c2, d0]
  exact (below4 HB3 (Nat.le_refl w.heap.size) (show w.heap.size ≤ w.heap.size + 1 by omega) HB3.size (.int .i64 ((u32 l 8 : Nat) : Int)) (.int .i64 ((u32 l 12 : Nat) : Int)) (.int .i64 ((u32 l 16 : Nat) : Int)) (.int .i64 0))

set_option maxRecDepth 20000 in
set_option maxHeartbeats 4000000 in
theorem decsuper_no1 (b o c : Nat) (l : List Int) (w : World) (hl : l.length = 512) (hc : 512 ≤ c) (hcc : c ≤ 9223372036854775807) (hb : Bytes l) (hs : ∀ i, i < 512 → w.cell? ⟨b, o + i, none⟩ = some (.int .u8 (l.getD i 0))) (h1 : ¬ SumOk l) :
    Calls Tryz.prog 81 #[.slice (some ⟨b, o, none⟩) 512 c] w fun e w' => e = .returned (.tuple #[.agg #[.int .i64 0, .int .i64 0, .int .i64 0], .int .i64 6]) ∧ Below w.heap.size w w' := by
  obtain ⟨w1, hw1⟩ : ∃ w1, w1 = (w.alloc (.cells #[.int .i64 0, .int .i64 0, .int .i64 0] 67)).alloc (.cells #[.int .i64 0] 25) := ⟨_, rfl⟩
  have hB1 : Below w.heap.size w w1 := by rw [hw1]; exact cbelow_two w _ _
  have hsz1 : w1.heap.size = w.heap.size + 2 := by rw [hw1]; simp
  have hg1 : w1.heap[w.heap.size]? = some (.cells #[.int .i64 0, .int .i64 0, .int .i64 0] 67 (0, 0)) := by rw [hw1]; exact heap_alloc2_old _ _ _
  have hg2 : w1.heap[w.heap.size + 1]? = some (.cells #[.int .i64 0] 25 (0, 0)) := by rw [hw1]; exact heap_alloc2_new _ _ _
  go_enter_defers Tryz.func81, Tryz.ntmps81
  go_wp2_with fail
  rw [← hw1]
  refine (summed_no b o 512 c l w1 hl (by omega) (by omega) hc hcc hb (fun i hi => cell_later hB1 (hs i hi)) h1).mono ?_
  rintro e w2 ⟨rfl, hb2⟩
  have HB2 := hB1.trans (hb2.mono hB1.size)
  have HG := (And.intro ((hb2.block w.heap.size (by omega)).trans hg1) ((hb2.block (w.heap.size + 1) (by omega)).trans hg2))
  go_wp2
  refine leaves_cons (f := 113) (args := #[.pointer (some ⟨w.heap.size, 0, none⟩), .pointer (some ⟨w.heap.size + 1, 0, none⟩)]) (by simp) (by simp [go_sem]) ?_
  refine (scatch_panic w.heap.size (w.heap.size + 1) _ _ _ _ _ HG.1 HG.2 (by omega)).mono ?_
  rintro e u' w'' ⟨rfl, rfl, rfl⟩
  simp [Leaves, settle, results, Tryz.results81, go_sem, (cell_of_block HG.1 (j := 0) rfl), (cell_of_block HG.1 (j := 1) rfl), (cell_of_block HG.1 (j := 2) rfl), (cell_of_block HG.2 (j := 0) rfl)]
  exact (below4 HB2 (Nat.le_refl w.heap.size) (show w.heap.size ≤ w.heap.size + 1 by omega) HB2.size (.int .i64 0) (.int .i64 0) (.int .i64 0) (.int .i64 6))

set_option maxRecDepth 20000 in
set_option maxHeartbeats 4000000 in
theorem decsuper_no2 (b o c : Nat) (l : List Int) (w : World) (hl : l.length = 512) (hc : 512 ≤ c) (hcc : c ≤ 9223372036854775807) (hb : Bytes l) (hs : ∀ i, i < 512 → w.cell? ⟨b, o + i, none⟩ = some (.int .u8 (l.getD i 0))) (h1 : SumOk l) (h2 : ¬ SupOk (part l 0 508)) :
    Calls Tryz.prog 81 #[.slice (some ⟨b, o, none⟩) 512 c] w fun e w' => e = .returned (.tuple #[.agg #[.int .i64 0, .int .i64 0, .int .i64 0], .int .i64 6]) ∧ Below w.heap.size w w' := by
  obtain ⟨w1, hw1⟩ : ∃ w1, w1 = (w.alloc (.cells #[.int .i64 0, .int .i64 0, .int .i64 0] 67)).alloc (.cells #[.int .i64 0] 25) := ⟨_, rfl⟩
  have hB1 : Below w.heap.size w w1 := by rw [hw1]; exact cbelow_two w _ _
  have hsz1 : w1.heap.size = w.heap.size + 2 := by rw [hw1]; simp
  have hg1 : w1.heap[w.heap.size]? = some (.cells #[.int .i64 0, .int .i64 0, .int .i64 0] 67 (0, 0)) := by rw [hw1]; exact heap_alloc2_old _ _ _
  have hg2 : w1.heap[w.heap.size + 1]? = some (.cells #[.int .i64 0] 25 (0, 0)) := by rw [hw1]; exact heap_alloc2_new _ _ _
  go_enter_defers Tryz.func81, Tryz.ntmps81
  go_wp2_with fail
  rw [← hw1]
  refine (summed_ok b o 512 c l w1 hl (by omega) (by omega) hc hcc hb (fun i hi => cell_later hB1 (hs i hi)) h1).mono ?_
  rintro e w2 ⟨p, rfl, hp, hrd, hb2⟩
  have HB2 := hB1.trans (hb2.mono hB1.size)
  have HG1 := ((hb2.block w.heap.size (by omega)).trans hg1)
  have HG2 := ((hb2.block (w.heap.size + 1) (by omega)).trans hg2)
  go_wp2_with fail
  refine (readsuper_no p b o c (part l 0 508) w2 hrd (part_len (by omega)) h2).mono ?_
  rintro e w3 ⟨rfl, hk3⟩
  have hg1 := (hk3.block w.heap.size (Array.getElem?_eq_some_iff.1 HG1).1 (by omega)).trans HG1
  have hg2 := (hk3.block (w.heap.size + 1) (Array.getElem?_eq_some_iff.1 HG2).1 (by omega)).trans HG2
  have HB3 := HB2.trans (hk3.below (fun j hj => by omega) HB2.size)
  have HG := (And.intro hg1 hg2)
  go_wp2
  refine leaves_cons (f := 113) (args := #[.pointer (some ⟨w.heap.size, 0, none⟩), .pointer (some ⟨w.heap.size + 1, 0, none⟩)]) (by simp) (by simp [go_sem]) ?_
  refine (scatch_panic w.heap.size (w.heap.size + 1) _ _ _ _ _ HG.1 HG.2 (by omega)).mono ?_
  rintro e u' w'' ⟨rfl, rfl, rfl⟩
  simp [Leaves, settle, results, Tryz.results81, go_sem, (cell_of_block HG.1 (j := 0) rfl), (cell_of_block HG.1 (j := 1) rfl), (cell_of_block HG.1 (j := 2) rfl), (cell_of_block HG.2 (j := 0) rfl)]
  exact (below4 HB3 (Nat.le_refl w.heap.size) (show w.heap.size ≤ w.heap.size + 1 by omega) HB3.size (.int .i64 0) (.int .i64 0) (.int .i64 0) (.int .i64 6))

theorem decsuper_no (b o c : Nat) (l : List Int) (w : World) (hl : l.length = 512) (hc : 512 ≤ c) (hcc : c ≤ 9223372036854775807) (hb : Bytes l) (hs : ∀ i, i < 512 → w.cell? ⟨b, o + i, none⟩ = some (.int .u8 (l.getD i 0))) (hok : ¬ SuperOk l) :
    Calls Tryz.prog 81 #[.slice (some ⟨b, o, none⟩) 512 c] w fun e w' => e = .returned (.tuple #[.agg #[.int .i64 0, .int .i64 0, .int .i64 0], .int .i64 6]) ∧ Below w.heap.size w w' := by
  by_cases h1 : SumOk l
  · exact decsuper_no2 b o c l w hl hc hcc hb hs h1 (fun h2 => hok ⟨h1, h2⟩)
  · exact decsuper_no1 b o c l w hl hc hcc hb hs h1
end Go.Proofs.YtokcgifpljeoiaaGreat
end

section
namespace Go.Proofs.YtokcgifpljeoiaaGreat
open Go.RowKit Go.Maps

section
variable {w : World} {F : Nat → Prop} {p s c : Nat} {S : DS}
/-- A read, with the room behind the answer. -/
theorem dread_row (h : B.DiskR w F p s S c) (k : Nat) (hk : k < s) (hbig : S.puts.length + 1 ≤ 4000000000000) (hf : S.fuse ≠ 0) :
    Calls Tryz.prog 80 #[.pointer (some ⟨p, 0, none⟩), .int .i64 (k : Int)] w fun e w' => ∃ g cp, e = .returned (.tuple #[.slice (some ⟨g, 0, none⟩) 512 cp, .int .i64 0]) ∧ w.heap.size ≤ g ∧ RowAt w' 5 g cp (bs (S.now k)) ∧ B.DiskR w' F p s S (c + 1) ∧ Keeps F w w' := by
  obtain ⟨r, h, hr⟩ := h
  refine (read_ok h k hf hk (by show S.puts.length ≤ _; omega)).mono ?_
  rintro e w' ⟨g, cp, rfl, hg, hrow, h3, h4⟩
  exact ⟨g, cp, rfl, hg, hrow, ⟨_, h3, hr.read⟩, h4⟩
end

/-- A sector that holds the superblock of a disk of s sectors. -/
def SupAt (l : List Int) (s : Nat) : Prop := SuperOk l ∧ u32 l 8 = s
/-- Where things lie, by a superblock. -/
def lyOf (l : List Int) : LY := ⟨u32 l 12, 3 + u32 l 12, u32 l 8 - (3 + u32 l 12), u32 l 16, 2 + u32 l 16 / 4⟩
abbrev ly0 : LY := ⟨0, 0, 0, 0, 0⟩
/-- What layoutOf answers. -/
def LayOut (S : DS) (s : Nat) (y : LY) (x : Int) : Prop :=
  (S.fuse = 0 ∧ y = ly0 ∧ x = 3) ∨ (S.fuse ≠ 0 ∧ SupAt (S.now 0) s ∧ y = lyOf (S.now 0) ∧ x = 0) ∨ (S.fuse ≠ 0 ∧ ¬ SupAt (S.now 0) s ∧ y = ly0 ∧ x = 6)
theorem SuperOk.geo {l : List Int} (h : SuperOk l) : Geo (u32 l 8) (u32 l 12) (u32 l 16) := by
  simpa only [u32, part_take (show 8 + 4 ≤ 508 by omega), part_take (show 12 + 4 ≤ 508 by omega), part_take (show 16 + 4 ≤ 508 by omega)] using h.2.geo

theorem lyOf_v (l : List Int) {s : Nat} (hs : u32 l 8 = s) (h3 : ((u32 l 12 : Nat) : Int) + ((u32 l 16 : Nat) : Int) / 4 + 6 ≤ (s : Int)) :
    Ending.returned (.tuple #[.agg #[.int .i64 ((u32 l 12 : Nat) : Int), .int .i64 (3 + ((u32 l 12 : Nat) : Int)), .int .i64 ((s : Int) - (3 + ((u32 l 12 : Nat) : Int))), .int .i64 ((u32 l 16 : Nat) : Int), .int .i64 (2 + ((u32 l 16 : Nat) : Int) / 4)], .int .i64 0]) = Ending.returned (.tuple #[lyV (lyOf l), .int .i64 0]) := by
  unfold lyOf lyV
  generalize u32 l 12 = y at *
  generalize u32 l 16 = z at *
  rw [hs]
  have e1 : ((3 + y : Nat) : Int) = 3 + (y : Int) := by omega
  have e2 : ((s - (3 + y) : Nat) : Int) = (s : Int) - (3 + (y : Int)) := by omega
  have e3 : ((2 + z / 4 : Nat) : Int) = 2 + (z : Int) / 4 := by omega
  simp only [e1, e2, e3]
theorem set5l {W : World} {g : Nat} {a0 a1 a2 a3 a4 : Value} {t : TypeId} (h : W.heap[g]? = some (.cells #[a0, a1, a2, a3, a4] t (0, 0))) (v0 v1 v2 v3 v4 : Value) :
    (((((W.setCell ⟨g, 0, none⟩ v0).setCell ⟨g, 1, none⟩ v1).setCell ⟨g, 2, none⟩ v2).setCell ⟨g, 3, none⟩ v3).setCell ⟨g, 4, none⟩ v4).heap[g]? = some (.cells #[v0, v1, v2, v3, v4] t (0, 0)) ∧ Keeps (fun k => k = g) W (((((W.setCell ⟨g, 0, none⟩ v0).setCell ⟨g, 1, none⟩ v1).setCell ⟨g, 2, none⟩ v2).setCell ⟨g, 3, none⟩ v3).setCell ⟨g, 4, none⟩ v4) := by
  refine ⟨set5 v0 v1 v2 v3 v4 h, ?_⟩
  have k1 := fun (w : World) (i : Nat) (v : Value) => Keeps.setCell (F := fun k => k = g) w (p := ⟨g, i, none⟩) rfl v
  exact ((((k1 _ 0 v0).trans (k1 _ 1 v1) (fun _ h => .inl h)).trans (k1 _ 2 v2) (fun _ h => .inl h)).trans (k1 _ 3 v3) (fun _ h => .inl h)).trans (k1 _ 4 v4) (fun _ h => .inl h)

set_option maxRecDepth 20000 in
set_option maxHeartbeats 8000000 in
theorem layoutOf_any {w : World} {F : Nat → Prop} {p s c : Nat} {S : DS} (h : B.DiskR w F p s S c) (hby : S.Byt) (hbig : S.puts.length + 1 ≤ 4000000000000) :
    Calls Tryz.prog 47 #[.pointer (some ⟨p, 0, none⟩)] w fun e w' => ∃ y x, e = .returned (.tuple #[lyV y, .int .i64 x]) ∧ LayOut S s y x ∧ B.DiskR w' F p s S (c + 1) ∧ Keeps F w w' := by
  obtain ⟨w0, hw0⟩ : ∃ w0, w0 = w.alloc (.cells #[.int .i64 0, .int .i64 0, .int .i64 0, .int .i64 0, .int .i64 0] 37) := ⟨_, rfl⟩
  have hb0 : Below w.heap.size w w0 := by rw [hw0]; exact below_box _ _
  have hbox : w0.heap[w.heap.size]? = some (.cells #[.int .i64 0, .int .i64 0, .int .i64 0, .int .i64 0, .int .i64 0] 37 (0, 0)) := by rw [hw0]; exact heap_alloc_new _ _
  have hd0 := h.later hb0
  have hlt := h.lt
  go_enter Tryz.func47, Tryz.ntmps47
  go_wp2_with fail
  by_cases hf : S.fuse = 0
  · have h1 := B.dread_dead hd0 0 hf
    have HD := (And.intro hd0 (And.intro hb0 hbox))
    subst hw0
    clear h hd0 hb0 hbox
    refine h1.mono ?_
    rintro e w1 ⟨rfl, hw1⟩
    subst hw1
    clear h1
    go_wp2
    exact bodyPost_ret (v := .tuple #[lyV ly0, .int .i64 3]) (by simp [results, Tryz.results47, go_sem]) rfl ⟨ly0, 3, rfl, .inl ⟨hf, rfl, rfl⟩, HD.1.le (by omega), Keeps.of_below F HD.2.1⟩
  · have hok := h.ok
    have h1 := dread_row hd0 0 (by have := hok.lo; omega) hbig hf
    have hl := now_len hok 0 (by have := hok.lo; omega)
    have hbyt := hby.now 0
    have HD := (And.intro hb0 hbox)
    have hz0 : w0.heap.size = w.heap.size + 1 := by rw [hw0, World.size_alloc]
    have HZ := hz0
    rw [hw0] at HD HZ h1
    clear h hd0 hb0 hbox hw0 hz0 w0
    refine h1.mono ?_
    rintro e w1 ⟨g, cp, rfl, hg, hrow, hd1, hk1⟩
    clear h1
    have hbx1 := (hk1.block w.heap.size (by rw [HZ]; omega) (fun hF => by have := hlt _ hF; omega)).trans HD.2
    have hcp := hrow.le
    have hcm := hrow.max
    have hsr : ∀ i, i < 512 → w1.cell? ⟨g, 0 + i, none⟩ = some (.int .u8 ((S.now 0).getD i 0)) := fun i hi => by
      have := hrow.byte (i := i) (by omega)
      rwa [addr_add] at this
    have hcp2 : 512 ≤ cp := by rw [← hl]; simpa [bs] using hcp
    have hcm2 : cp ≤ 9223372036854775807 := by unfold maxLen at hcm; omega
    have hks := (Keeps.of_below F HD.1).trans hk1 (fun _ h => .inl h)
    have hw1 := hk1.size
    rw [HZ] at hw1
    by_cases ho : SuperOk (S.now 0)
    · have h2 := decsuper_ok g 0 cp (S.now 0) w1 hl hcp2 hcm2 hbyt hsr ho
      have HG := ho.geo
      have HK := (And.intro hd1 (And.intro hks (And.intro hbx1 ho)))
      clear hrow hd1 hk1 hsr hbx1 hks hcp hcm ho
      go_wp2_with fail
      refine h2.mono ?_
      rintro e w2 ⟨rfl, hb2⟩
      clear h2
      have hz2 := hb2.size
      obtain ⟨w3, hw3⟩ : ∃ w3, w3 = w2.alloc (.cells #[.int .i64 ((u32 (S.now 0) 8 : Nat) : Int), .int .i64 ((u32 (S.now 0) 12 : Nat) : Int), .int .i64 ((u32 (S.now 0) 16 : Nat) : Int)] 67) := ⟨_, rfl⟩
      have hbx3 : w3.heap[w2.heap.size]? = some (.cells #[.int .i64 ((u32 (S.now 0) 8 : Nat) : Int), .int .i64 ((u32 (S.now 0) 12 : Nat) : Int), .int .i64 ((u32 (S.now 0) 16 : Nat) : Int)] 67 (0, 0)) := by rw [hw3]; exact heap_alloc_new _ _
      have hb3 : Below w1.heap.size w1 w3 := by rw [hw3]; exact hb2.alloc hz2 _
      have hz3 : w3.heap.size = w2.heap.size + 1 := by rw [hw3, World.size_alloc]
      go_wp2_with fail
      rw [← hw3]
      clear hw3 hb2
      have hd3 := HK.1.later hb3
      have hbr3 := (hb3.block w.heap.size (by omega)).trans HK.2.2.1
      have hks3 := HK.2.1.trans (Keeps.of_below (fun _ => False) hb3) (fun _ h => h.elim)
      have c0 := cell_of_block hbx3 (j := 0) rfl
      have hsec := fun k => B.dsectors (hd3.later (below_drewN (Below.refl _ _) k))
      have HW := (And.intro hd3 (And.intro hks3 (And.intro hbr3 hbx3)))
      clear hd3 hks3 hbr3 hbx3 hb3
      by_cases hxs : u32 (S.now 0) 8 = s
      · have hxs' : (((u32 (S.now 0) 8 : Nat) : Int) == ((s : Nat) : Int)) = true := by rw [hxs]; simp
        go_quiet (first | (go_at_call 20; refine Calls.quiet_of_same (hsec _)))
        have hq : ∀ k, Below w3.heap.size w3 (w3.drewN k) := fun k => below_drewN (Below.refl _ _) k
        have HW2 := (fun k => And.intro (HW.1.later (hq k)) (And.intro (HW.2.1.trans (Keeps.of_below (fun _ => False) (hq k)) (fun _ h => h.elim)) (And.intro (((hq k).block w.heap.size (by omega)).trans HW.2.2.1) (((hq k).block w2.heap.size (by omega)).trans HW.2.2.2))))
        clear HW c0 hsec hq
        rename_i nq _
        have HW := (HW2 nq)
        have hzW : (w3.drewN nq).heap.size = w3.heap.size := rfl
        clear HW2
        generalize w3.drewN nq = W at *
        have r0 := cell_of_block HW.2.2.1 (j := 0) rfl
        have r1 := cell_of_block HW.2.2.1 (j := 1) rfl
        have r2 := cell_of_block HW.2.2.1 (j := 2) rfl
        have r3 := cell_of_block HW.2.2.1 (j := 3) rfl
        have r4 := cell_of_block HW.2.2.1 (j := 4) rfl
        have g0 := frozen_of_block HW.2.2.1 0
        have g1 := frozen_of_block HW.2.2.1 1
        have g2 := frozen_of_block HW.2.2.1 2
        have g3 := frozen_of_block HW.2.2.1 3
        have g4 := frozen_of_block HW.2.2.1 4
        have s0 := cell_of_block HW.2.2.2 (j := 0) rfl
        have s1 := cell_of_block HW.2.2.2 (j := 1) rfl
        have s2 := cell_of_block HW.2.2.2 (j := 2) rfl
        have hpl := plan_good (s : Int) ((u32 (S.now 0) 12 : Nat) : Int) ((u32 (S.now 0) 16 : Nat) : Int) W (by have := HG; rw [hxs] at this; exact this.1.1) (by have := HG; rw [hxs] at this; exact this.1.2) (by have := HG; rw [hxs] at this; exact this.2.1.1) (by have := HG; rw [hxs] at this; exact this.2.1.2) (by have := HG; rw [hxs] at this; exact this.2.2.1) (by have := HG; rw [hxs] at this; exact this.2.2.2.1) (by have := HG; rw [hxs] at this; exact this.2.2.2.2)
        go_wp2_with fail
        refine hpl.mono ?_
        rintro e W3 ⟨rfl, hbX⟩
        clear hpl r0 r1 r2 r3 r4 g0 g1 g2 g3 g4 s0 s1 s2
        have hbrX := (hbX.block w.heap.size (by omega)).trans HW.2.2.1
        have HX := (And.intro (HW.1.later hbX) (HW.2.1.trans (Keeps.of_below (fun _ => False) hbX) (fun _ h => h.elim)))
        have r0 := cell_of_block hbrX (j := 0) rfl
        have r1 := cell_of_block hbrX (j := 1) rfl
        have r2 := cell_of_block hbrX (j := 2) rfl
        have r3 := cell_of_block hbrX (j := 3) rfl
        have r4 := cell_of_block hbrX (j := 4) rfl
        have g0 := frozen_of_block hbrX 0
        have g1 := frozen_of_block hbrX 1
        have g2 := frozen_of_block hbrX 2
        have g3 := frozen_of_block hbrX 3
        have g4 := frozen_of_block hbrX 4
        have hly : Ending.returned (.tuple #[.agg #[(.int .i64 ((u32 (S.now 0) 12 : Nat) : Int)), (.int .i64 (3 + ((u32 (S.now 0) 12 : Nat) : Int))), (.int .i64 ((s : Int) - (3 + ((u32 (S.now 0) 12 : Nat) : Int)))), (.int .i64 ((u32 (S.now 0) 16 : Nat) : Int)), (.int .i64 (2 + ((u32 (S.now 0) 16 : Nat) : Int) / 4))], .int .i64 0]) = Ending.returned (.tuple #[lyV (lyOf (S.now 0)), .int .i64 0]) := by
          have h3 := HG.2.2.2.1
          rw [hxs] at h3
          exact lyOf_v (S.now 0) hxs h3
        go_wp2
        obtain ⟨hbf, hkf⟩ := set5l hbrX (.int .i64 ((u32 (S.now 0) 12 : Nat) : Int)) (.int .i64 (3 + ((u32 (S.now 0) 12 : Nat) : Int))) (.int .i64 ((s : Int) - (3 + ((u32 (S.now 0) 12 : Nat) : Int)))) (.int .i64 ((u32 (S.now 0) 16 : Nat) : Int)) (.int .i64 (2 + ((u32 (S.now 0) 16 : Nat) : Int) / 4))
        generalize ((((W3.setCell ⟨w.heap.size, 0, none⟩ (.int .i64 ((u32 (S.now 0) 12 : Nat) : Int))).setCell ⟨w.heap.size, 1, none⟩ (.int .i64 (3 + ((u32 (S.now 0) 12 : Nat) : Int)))).setCell ⟨w.heap.size, 2, none⟩ (.int .i64 ((s : Int) - (3 + ((u32 (S.now 0) 12 : Nat) : Int))))).setCell ⟨w.heap.size, 3, none⟩ (.int .i64 ((u32 (S.now 0) 16 : Nat) : Int))).setCell ⟨w.heap.size, 4, none⟩ (.int .i64 (2 + ((u32 (S.now 0) 16 : Nat) : Int) / 4)) = WW at *
        have q0 := cell_of_block hbf (j := 0) (u := (.int .i64 ((u32 (S.now 0) 12 : Nat) : Int))) rfl
        have q1 := cell_of_block hbf (j := 1) (u := (.int .i64 (3 + ((u32 (S.now 0) 12 : Nat) : Int)))) rfl
        have q2 := cell_of_block hbf (j := 2) (u := (.int .i64 ((s : Int) - (3 + ((u32 (S.now 0) 12 : Nat) : Int))))) rfl
        have q3 := cell_of_block hbf (j := 3) (u := (.int .i64 ((u32 (S.now 0) 16 : Nat) : Int))) rfl
        have q4 := cell_of_block hbf (j := 4) (u := (.int .i64 (2 + ((u32 (S.now 0) 16 : Nat) : Int) / 4))) rfl
        exact bodyPost_ret (v := .tuple #[.agg #[(.int .i64 ((u32 (S.now 0) 12 : Nat) : Int)), (.int .i64 (3 + ((u32 (S.now 0) 12 : Nat) : Int))), (.int .i64 ((s : Int) - (3 + ((u32 (S.now 0) 12 : Nat) : Int)))), (.int .i64 ((u32 (S.now 0) 16 : Nat) : Int)), (.int .i64 (2 + ((u32 (S.now 0) 16 : Nat) : Int) / 4))], .int .i64 0]) (by simp [results, Tryz.results47, go_sem, q0, q1, q2, q3, q4]) rfl ⟨(lyOf (S.now 0)), 0, hly, .inr (.inl ⟨hf, ⟨HK.2.2.2, hxs⟩, rfl, rfl⟩), HX.1.keep hkf (fun k hF e => by subst e; have := hlt _ hF; omega), HX.2.trans hkf (fun k e => .inr (by omega))⟩
      · have hxs' : (((u32 (S.now 0) 8 : Nat) : Int) == ((s : Nat) : Int)) = false := by rw [beq_eq_false_iff_ne]; omega
        go_quiet (first | (go_at_call 20; refine Calls.quiet_of_same (hsec _)))
        have hq : ∀ k, Below w3.heap.size w3 (w3.drewN k) := fun k => below_drewN (Below.refl _ _) k
        have HW2 := (fun k => And.intro (HW.1.later (hq k)) (And.intro (HW.2.1.trans (Keeps.of_below (fun _ => False) (hq k)) (fun _ h => h.elim)) (And.intro (((hq k).block w.heap.size (by omega)).trans HW.2.2.1) (((hq k).block w2.heap.size (by omega)).trans HW.2.2.2))))
        clear HW c0 hsec hq
        rename_i nq _
        have HW := (HW2 nq)
        have hzW : (w3.drewN nq).heap.size = w3.heap.size := rfl
        clear HW2
        generalize w3.drewN nq = W at *
        have r0 := cell_of_block HW.2.2.1 (j := 0) rfl
        have r1 := cell_of_block HW.2.2.1 (j := 1) rfl
        have r2 := cell_of_block HW.2.2.1 (j := 2) rfl
        have r3 := cell_of_block HW.2.2.1 (j := 3) rfl
        have r4 := cell_of_block HW.2.2.1 (j := 4) rfl
        have g0 := frozen_of_block HW.2.2.1 0
        have g1 := frozen_of_block HW.2.2.1 1
        have g2 := frozen_of_block HW.2.2.1 2
        have g3 := frozen_of_block HW.2.2.1 3
        have g4 := frozen_of_block HW.2.2.1 4
        have hxs2 : (((u32 (S.now 0) 8 : Nat) : Int) != ((s : Nat) : Int)) = true := by simp [bne, hxs']
        go_wp2
        obtain ⟨hbf, hkf⟩ := set5l HW.2.2.1 (.int .i64 0) (.int .i64 0) (.int .i64 0) (.int .i64 0) (.int .i64 0)
        generalize ((((W.setCell ⟨w.heap.size, 0, none⟩ (.int .i64 0)).setCell ⟨w.heap.size, 1, none⟩ (.int .i64 0)).setCell ⟨w.heap.size, 2, none⟩ (.int .i64 0)).setCell ⟨w.heap.size, 3, none⟩ (.int .i64 0)).setCell ⟨w.heap.size, 4, none⟩ (.int .i64 0) = WW at *
        have q0 := cell_of_block hbf (j := 0) (u := (.int .i64 0)) rfl
        have q1 := cell_of_block hbf (j := 1) (u := (.int .i64 0)) rfl
        have q2 := cell_of_block hbf (j := 2) (u := (.int .i64 0)) rfl
        have q3 := cell_of_block hbf (j := 3) (u := (.int .i64 0)) rfl
        have q4 := cell_of_block hbf (j := 4) (u := (.int .i64 0)) rfl
        exact bodyPost_ret (v := .tuple #[.agg #[(.int .i64 0), (.int .i64 0), (.int .i64 0), (.int .i64 0), (.int .i64 0)], .int .i64 6]) (by simp [results, Tryz.results47, go_sem, q0, q1, q2, q3, q4]) rfl ⟨ly0, 6, rfl, .inr (.inr ⟨hf, fun h => hxs h.2, rfl, rfl⟩), HW.1.keep hkf (fun k hF e => by subst e; have := hlt _ hF; omega), HW.2.1.trans hkf (fun k e => .inr (by omega))⟩
    · have h2 := decsuper_no g 0 cp (S.now 0) w1 hl hcp2 hcm2 hbyt hsr ho
      have HK := (And.intro hd1 (And.intro hks (And.intro hbx1 ho)))
      clear hrow hd1 hk1 hsr hbx1 hks hcp hcm ho
      go_wp2_with fail
      refine h2.mono ?_
      rintro e w2 ⟨rfl, hb2⟩
      clear h2
      have hz2 := hb2.size
      obtain ⟨w3, hw3⟩ : ∃ w3, w3 = w2.alloc (.cells #[.int .i64 0, .int .i64 0, .int .i64 0] 67) := ⟨_, rfl⟩
      have hbx3 : w3.heap[w2.heap.size]? = some (.cells #[.int .i64 0, .int .i64 0, .int .i64 0] 67 (0, 0)) := by rw [hw3]; exact heap_alloc_new _ _
      have hb3 : Below w1.heap.size w1 w3 := by rw [hw3]; exact hb2.alloc hz2 _
      have hz3 : w3.heap.size = w2.heap.size + 1 := by rw [hw3, World.size_alloc]
      go_wp2_with fail
      rw [← hw3]
      clear hw3 hb2
      have hd3 := HK.1.later hb3
      have hbr3 := (hb3.block w.heap.size (by omega)).trans HK.2.2.1
      have hks3 := HK.2.1.trans (Keeps.of_below (fun _ => False) hb3) (fun _ h => h.elim)
      have HW := (And.intro hd3 (And.intro hks3 (And.intro hbr3 hbx3)))
      clear hd3 hks3 hbr3 hbx3 hb3
      go_quiet (fail)
      have hq : ∀ k, Below w3.heap.size w3 (w3.drewN k) := fun k => below_drewN (Below.refl _ _) k
      have HW2 := (fun k => And.intro (HW.1.later (hq k)) (And.intro (HW.2.1.trans (Keeps.of_below (fun _ => False) (hq k)) (fun _ h => h.elim)) (And.intro (((hq k).block w.heap.size (by omega)).trans HW.2.2.1) (((hq k).block w2.heap.size (by omega)).trans HW.2.2.2))))
      clear HW hq
      rename_i nq _
      have HW := (HW2 nq)
      have hzW : (w3.drewN nq).heap.size = w3.heap.size := rfl
      clear HW2
      generalize w3.drewN nq = W at *
      have r0 := cell_of_block HW.2.2.1 (j := 0) rfl
      have r1 := cell_of_block HW.2.2.1 (j := 1) rfl
      have r2 := cell_of_block HW.2.2.1 (j := 2) rfl
      have r3 := cell_of_block HW.2.2.1 (j := 3) rfl
      have r4 := cell_of_block HW.2.2.1 (j := 4) rfl
      have g0 := frozen_of_block HW.2.2.1 0
      have g1 := frozen_of_block HW.2.2.1 1
      have g2 := frozen_of_block HW.2.2.1 2
      have g3 := frozen_of_block HW.2.2.1 3
      have g4 := frozen_of_block HW.2.2.1 4
      go_wp2
      obtain ⟨hbf, hkf⟩ := set5l HW.2.2.1 (.int .i64 0) (.int .i64 0) (.int .i64 0) (.int .i64 0) (.int .i64 0)
      generalize ((((W.setCell ⟨w.heap.size, 0, none⟩ (.int .i64 0)).setCell ⟨w.heap.size, 1, none⟩ (.int .i64 0)).setCell ⟨w.heap.size, 2, none⟩ (.int .i64 0)).setCell ⟨w.heap.size, 3, none⟩ (.int .i64 0)).setCell ⟨w.heap.size, 4, none⟩ (.int .i64 0) = WW at *
      have q0 := cell_of_block hbf (j := 0) (u := (.int .i64 0)) rfl
      have q1 := cell_of_block hbf (j := 1) (u := (.int .i64 0)) rfl
      have q2 := cell_of_block hbf (j := 2) (u := (.int .i64 0)) rfl
      have q3 := cell_of_block hbf (j := 3) (u := (.int .i64 0)) rfl
      have q4 := cell_of_block hbf (j := 4) (u := (.int .i64 0)) rfl
      exact bodyPost_ret (v := .tuple #[.agg #[(.int .i64 0), (.int .i64 0), (.int .i64 0), (.int .i64 0), (.int .i64 0)], .int .i64 6]) (by simp [results, Tryz.results47, go_sem, q0, q1, q2, q3, q4]) rfl ⟨ly0, 6, rfl, .inr (.inr ⟨hf, fun h => HK.2.2.2 h.1, rfl, rfl⟩), HW.1.keep hkf (fun k hF e => by subst e; have := hlt _ hF; omega), HW.2.1.trans hkf (fun k e => .inr (by omega))⟩
end Go.Proofs.YtokcgifpljeoiaaGreat
end

section
namespace Go.Proofs.YtokcgifpljeoiaaGreat
open Go.RowKit Go.Maps

/-- The blocks that a record names: rising, from lo on, below blocks. -/
def rdNums (blocks : Nat) : Nat → Nat → List Int → Option (List Nat × List Int)
  | 0, _, l => some ([], l)
  | n + 1, lo, l => if l.length < 4 then none else if lo ≤ le (l.take 4) ∧ le (l.take 4) < blocks then (rdNums blocks n (le (l.take 4) + 1) (l.drop 4)).map (fun x => (le (l.take 4) :: x.1, x.2)) else none
/-- Their contents. -/
def rdCons : List Nat → List Int → Option (CM × List Int)
  | [], l => some ([], l)
  | k :: ks, l => if l.length < 512 then none else (rdCons ks (l.drop 512)).map (fun x => ((k, l.take 512) :: x.1, x.2))
/-- Nothing may be left. -/
def rdTail : Option (CM × List Int) → Option CM
  | some (cs, []) => some cs
  | _ => none
/-- What a record holds. -/
def rdRec (blocks : Nat) (d : List Int) : Option CM :=
  if d.length < 2 then none else if 1 ≤ le (d.take 2) ∧ le (d.take 2) ≤ 16 then
    match rdNums blocks (le (d.take 2)) 0 (d.drop 2) with
    | none => none
    | some (ks, r) => rdTail (rdCons ks r)
  else none
theorem rdNums_len {blocks : Nat} : ∀ {n lo : Nat} {l r : List Int} {ks : List Nat}, rdNums blocks n lo l = some (ks, r) → ks.length = n ∧ ∀ k ∈ ks, k < blocks
  | 0, lo, l, r, ks, h => by
    simp only [rdNums, Option.some.injEq, Prod.mk.injEq] at h
    obtain ⟨rfl, _⟩ := h
    simp
  | n + 1, lo, l, r, ks, h => by
    unfold rdNums at h
    split at h
    · cases h
    · split at h
      · rename_i hb
        cases hr : rdNums blocks n (le (l.take 4) + 1) (l.drop 4) with
        | none => rw [hr] at h; cases h
        | some x =>
          rw [hr] at h
          simp only [Option.map_some, Option.some.injEq, Prod.mk.injEq] at h
          obtain ⟨rfl, rfl⟩ := h
          obtain ⟨h1, h2⟩ := rdNums_len (ks := x.1) (r := x.2) hr
          refine ⟨by simp [h1], fun k hk => ?_⟩
          rcases List.mem_cons.1 hk with rfl | hk
          · exact hb.2
          · exact h2 k hk
      · cases h

theorem smeas {S i k : Nat} (h : i < S) (hk : i < k) : S - k < S - i := by omega
theorem rdNums_succ (blocks n lo : Nat) (l : List Int) : rdNums blocks (n + 1) lo l = if l.length < 4 then none else if lo ≤ le (l.take 4) ∧ le (l.take 4) < blocks then (rdNums blocks n (le (l.take 4) + 1) (l.drop 4)).map (fun x => (le (l.take 4) :: x.1, x.2)) else none := rfl
theorem rdCons_cons (k : Nat) (ks : List Nat) (l : List Int) : rdCons (k :: ks) l = if l.length < 512 then none else (rdCons ks (l.drop 512)).map (fun x => ((k, l.take 512) :: x.1, x.2)) := rfl
theorem over_snoc (ms cs : CM) (k : Nat) (c : List Int) : CM.over ms (cs ++ [(k, c)]) = CM.put (CM.over ms cs) k c := by
  unfold CM.over
  rw [List.foldl_append]
  rfl

/-- The contents behind a record's numbers. -/
def zipc : List Nat → List Int → CM
  | [], _ => []
  | k :: ks, r => (k, r.take 512) :: zipc ks (r.drop 512)
theorem zipc_len : ∀ (ks : List Nat) (r : List Int), (zipc ks r).length = ks.length
  | [], _ => rfl
  | k :: ks, r => by simp [zipc, zipc_len ks]
theorem rdCons_zip : ∀ (ks : List Nat) (r : List Int), 512 * ks.length ≤ r.length → rdCons ks r = some (zipc ks r, r.drop (512 * ks.length))
  | [], r, _ => rfl
  | k :: ks, r, h => by
    rw [List.length_cons] at h
    rw [rdCons_cons, if_neg (by omega), rdCons_zip ks (r.drop 512) (by rw [List.length_drop]; omega), List.drop_drop, List.length_cons, show 512 + 512 * ks.length = 512 * (ks.length + 1) by omega]
    rfl
theorem rdCons_short : ∀ (ks : List Nat) (r : List Int), r.length < 512 * ks.length → rdCons ks r = none
  | [], r, h => by simp at h
  | k :: ks, r, h => by
    rw [List.length_cons] at h
    rw [rdCons_cons]
    split
    · rfl
    · rw [rdCons_short ks (r.drop 512) (by rw [List.length_drop]; omega)]; rfl
theorem rdTail_zip {ks : List Nat} {r : List Int} (h : r.length = 512 * ks.length) : rdTail (rdCons ks r) = some (zipc ks r) := by
  rw [rdCons_zip ks r (by omega), List.drop_eq_nil_of_le (by omega)]
  rfl
theorem rdTail_no {ks : List Nat} {r : List Int} (h : r.length ≠ 512 * ks.length) : rdTail (rdCons ks r) = none := by
  by_cases h1 : r.length < 512 * ks.length
  · rw [rdCons_short ks r h1]; rfl
  · rw [rdCons_zip ks r (by omega)]
    have : 0 < (r.drop (512 * ks.length)).length := by rw [List.length_drop]; omega
    cases hd : r.drop (512 * ks.length) with
    | nil => rw [hd] at this; simp at this
    | cons x xs => rfl
theorem rdNums_rest {blocks : Nat} : ∀ {n lo : Nat} {l r : List Int} {ks : List Nat}, rdNums blocks n lo l = some (ks, r) → 4 * n ≤ l.length ∧ r = l.drop (4 * n)
  | 0, lo, l, r, ks, h => by
    simp only [rdNums, Option.some.injEq, Prod.mk.injEq] at h
    exact ⟨by omega, by rw [← h.2]; rfl⟩
  | n + 1, lo, l, r, ks, h => by
    rw [rdNums_succ] at h
    split at h
    · cases h
    · split at h
      · cases hr : rdNums blocks n (le (l.take 4) + 1) (l.drop 4) with
        | none => rw [hr] at h; cases h
        | some x =>
          rw [hr] at h
          simp only [Option.map_some, Option.some.injEq, Prod.mk.injEq] at h
          obtain ⟨rfl, rfl⟩ := h
          obtain ⟨h1, h2⟩ := rdNums_rest (ks := x.1) (r := x.2) hr
          rw [List.length_drop] at h1
          refine ⟨by omega, ?_⟩
          rw [h2, List.drop_drop]
          congr 1
          omega
      · cases h
/-- What is left of a record when i numbers were read. -/
def rdFrom (blocks : Nat) (d : List Int) (c : Nat) (ks : List Nat) (lo i : Nat) : Option CM :=
  match rdNums blocks (c - i) lo (d.drop (2 + 4 * i)) with
  | none => none
  | some (js, r) => rdTail (rdCons (ks ++ js) r)
theorem rdRec_no {blocks : Nat} {d : List Int} (h : d.length < 2 ∨ ¬ (1 ≤ le (d.take 2) ∧ le (d.take 2) ≤ 16) ∨ d.length ≠ 2 + 516 * le (d.take 2)) : rdRec blocks d = none := by
  unfold rdRec
  by_cases h1 : d.length < 2
  · rw [if_pos h1]
  · rw [if_neg h1]
    by_cases h2 : 1 ≤ le (d.take 2) ∧ le (d.take 2) ≤ 16
    · rw [if_pos h2]
      cases hr : rdNums blocks (le (d.take 2)) 0 (d.drop 2) with
      | none => rfl
      | some x =>
        obtain ⟨ks, r⟩ := x
        obtain ⟨e1, e2⟩ := rdNums_rest hr
        have e3 := (rdNums_len hr).1
        rw [List.length_drop] at e1
        show rdTail (rdCons ks r) = none
        refine rdTail_no ?_
        rw [e2, e3, List.length_drop, List.length_drop]
        omega
    · rw [if_neg h2]
theorem rdRec_from {blocks : Nat} {d : List Int} (h0 : ¬ d.length < 2) (h1 : 1 ≤ le (d.take 2) ∧ le (d.take 2) ≤ 16) : rdRec blocks d = rdFrom blocks d (le (d.take 2)) [] 0 0 := by
  unfold rdRec rdFrom
  rw [if_neg h0, if_pos h1]
  rfl
theorem rdFrom_end {blocks : Nat} {d : List Int} {c lo : Nat} {ks : List Nat} (hk : ks.length = c) (hd : d.length = 2 + 516 * c) : rdFrom blocks d c ks lo c = some (zipc ks (d.drop (2 + 4 * c))) := by
  unfold rdFrom
  rw [Nat.sub_self]
  show rdTail (rdCons (ks ++ []) (d.drop (2 + 4 * c))) = _
  rw [List.append_nil]
  exact rdTail_zip (by rw [List.length_drop]; omega)
theorem rdFrom_step {blocks : Nat} {d : List Int} {c lo i : Nat} {ks : List Nat} (hi : i < c) (hd : d.length = 2 + 516 * c) :
    rdFrom blocks d c ks lo i = if lo ≤ le ((d.drop (2 + 4 * i)).take 4) ∧ le ((d.drop (2 + 4 * i)).take 4) < blocks then rdFrom blocks d c (ks ++ [le ((d.drop (2 + 4 * i)).take 4)]) (le ((d.drop (2 + 4 * i)).take 4) + 1) (i + 1) else none := by
  unfold rdFrom
  rw [show c - i = (c - (i + 1)) + 1 by omega, rdNums_succ, if_neg (by rw [List.length_drop]; omega), List.drop_drop, show 2 + 4 * i + 4 = 2 + 4 * (i + 1) by omega]
  generalize le ((d.drop (2 + 4 * i)).take 4) = K
  by_cases h : lo ≤ K ∧ K < blocks
  · rw [if_pos h, if_pos h]
    cases rdNums blocks (c - (i + 1)) (K + 1) (d.drop (2 + 4 * (i + 1))) with
    | none => rfl
    | some x =>
      show rdTail (rdCons (ks ++ K :: x.1) x.2) = rdTail (rdCons ((ks ++ [K]) ++ x.1) x.2)
      rw [List.append_assoc]
      rfl
  · rw [if_neg h, if_neg h]
theorem rdCons_keys : ∀ {ks : List Nat} {l r : List Int} {cs : CM}, rdCons ks l = some (cs, r) → ∀ x ∈ cs, x.1 ∈ ks
  | [], l, r, cs, h => by
    simp only [rdCons, Option.some.injEq, Prod.mk.injEq] at h
    obtain ⟨rfl, _⟩ := h
    simp
  | k :: ks, l, r, cs, h => by
    rw [rdCons_cons] at h
    split at h
    · cases h
    · cases hr : rdCons ks (l.drop 512) with
      | none => rw [hr] at h; cases h
      | some x =>
        rw [hr] at h
        simp only [Option.map_some, Option.some.injEq, Prod.mk.injEq] at h
        obtain ⟨rfl, rfl⟩ := h
        intro z hz
        rcases List.mem_cons.1 hz with rfl | hz
        · simp
        · exact List.mem_cons_of_mem _ (rdCons_keys (cs := x.1) (r := x.2) hr z hz)
theorem rdRec_keys {blocks : Nat} {d : List Int} {cs : CM} (h : rdRec blocks d = some cs) : ∀ x ∈ cs, x.1 < blocks := by
  unfold rdRec at h
  split at h
  · cases h
  · split at h
    · split at h
      · cases h
      · rename_i ks r hn
        cases hc : rdCons ks r with
        | none => rw [hc] at h; cases h
        | some x =>
          obtain ⟨x1, x2⟩ := x
          rw [hc] at h
          cases x2 with
          | nil =>
            simp only [rdTail, Option.some.injEq] at h
            subst h
            intro z hz
            exact (rdNums_len hn).2 _ (rdCons_keys hc z hz)
          | cons a t => cases h
    · cases h
end Go.Proofs.YtokcgifpljeoiaaGreat
end
