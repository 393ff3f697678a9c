import Derived.Test.YtimfidcpljimpaaKForm
import Derived.Test.YtimfidcpljimpaaKRefT
namespace Go.Proofs.Ytimfidcpljimpaa
open Go.RowKit

theorem rtake4 (b o N c : Nat) (l : List Int) (k : Nat) (w : World) (hl : l.length = N) (hb : Bytes l) (hN : N ≤ 1000000) (hn : k + 4 ≤ N) (hs : ∀ i, i < N → w.cell? ⟨b, o + i, none⟩ = some (.int .u8 (l.getD i 0))) :
    Calls Try.prog 40 #[.slice (some ⟨b, o, none⟩) N c, .int .i64 (k : Int), .int .i64 4] w fun e w' => e = .returned (.int .i64 ((u32 l k : Nat) : Int)) ∧ w' = w := by
  refine (rtake_low b o N c l k 4 w hl hb hN hn (by omega) hs).mono ?_
  rintro e w' ⟨⟨r, rfl, hr⟩, rfl⟩
  exact ⟨by rw [take32 hb (by omega) hr]; rfl, rfl⟩

theorem sealed_sup (s l n : Nat) : (sealed (supBody s l n)).length = 512 := (sealed_len _).trans (congrArg (· + 4) (supBody_len s l n))
theorem Made.out {w w' : World} {v : Value} {l : List Int} (h : Made w w' v l) {n : Nat} (hn : l.length = n) : ∃ g c, v = .slice (some ⟨g, 0, none⟩) n c ∧ w.heap.size ≤ g ∧ RowAt w' 5 g c (bs l) ∧ Below w.heap.size w w' := by
  subst hn
  exact h

set_option maxHeartbeats 2000000 in
theorem rdecsuper_len (a : Option Addr) (n c : Nat) (w : World) (hn : n ≠ 512) (_hb : n ≤ 140737488355328) :
    Calls Try.prog 23 #[.slice a n c] w fun e w' => e = .returned (.tuple #[.agg #[.int .i64 0, .int .i64 0, .int .i64 0], .int .i64 2]) ∧ Below w.heap.size w w' := by
  have hne : ((n : Int) != 512) = true := by rw [bne_iff_ne]; omega
  have HB := Hid.mk (fun o => (Below.refl _ w).alloc (Nat.le_refl _) o)
  go_enter Try.func23, Try.ntmps23
  go_wp2
  exact bodyPost_ret (v := .tuple #[.agg #[.int .i64 0, .int .i64 0, .int .i64 0], .int .i64 2]) (by simp [results, Try.results23, go_sem]) rfl ⟨rfl, HB.out _⟩

/-- What a decoder of superblocks answers. -/
def SuperOut (l : List Int) (v : Value) (x : Int) : Prop := (SuperRef l ∧ v = .agg #[.int .i64 ((u32 l 8 : Nat) : Int), .int .i64 ((u32 l 12 : Nat) : Int), .int .i64 ((u32 l 16 : Nat) : Int)] ∧ x = 0) ∨ (¬ SuperRef l ∧ v = .agg #[.int .i64 0, .int .i64 0, .int .i64 0] ∧ x = 6)

set_option maxHeartbeats 4000000 in
theorem rdecsuper_geo (b o c : Nat) (l : List Int) (w : World) (hl : l.length = 512) (hb : Bytes l) (hs : ∀ i, i < 512 → w.cell? ⟨b, o + i, none⟩ = some (.int .u8 (l.getD i 0))) (hg : Geo (u32 l 8) (u32 l 12) (u32 l 16)) (x : Bool) (hx : decide (sealed (supBody (u32 l 8) (u32 l 12) (u32 l 16)) = l) = x) :
    Calls Try.prog 23 #[.slice (some ⟨b, o, none⟩) 512 c] w fun e w' => e = .returned (.tuple #[if x then .agg #[.int .i64 ((u32 l 8 : Nat) : Int), .int .i64 ((u32 l 12 : Nat) : Int), .int .i64 ((u32 l 16 : Nat) : Int)] else .agg #[.int .i64 0, .int .i64 0, .int .i64 0], .int .i64 (if x then 0 else 6)]) ∧ Below w.heap.size w w' := by
  obtain ⟨w1, hw1⟩ : ∃ w1, w1 = w.alloc (.cells #[.int .i64 0, .int .i64 0, .int .i64 0] 29) := ⟨_, rfl⟩
  have hB1 : Below w.heap.size w w1 := by rw [hw1]; exact (Below.refl _ w).alloc (Nat.le_refl _) _
  have hq1 : w1.heap[w.heap.size]? = some (.cells #[.int .i64 0, .int .i64 0, .int .i64 0] 29 (0, 0)) := by rw [hw1]; exact heap_alloc_new _ _
  have hsz1 : w1.heap.size = w.heap.size + 1 := by rw [hw1]; simp
  have t1 : Calls Try.prog 40 #[.slice (some ⟨b, o, none⟩) 512 c, .int .i64 8, .int .i64 4] w1 fun e w' => e = .returned (.int .i64 ((u32 l 8 : Nat) : Int)) ∧ w' = w1 := rtake4 b o 512 c l 8 w1 hl hb (by omega) (by omega) (fun i hi => cell_later hB1 (hs i hi))
  have t2 : Calls Try.prog 40 #[.slice (some ⟨b, o, none⟩) 512 c, .int .i64 12, .int .i64 4] w1 fun e w' => e = .returned (.int .i64 ((u32 l 12 : Nat) : Int)) ∧ w' = w1 := rtake4 b o 512 c l 12 w1 hl hb (by omega) (by omega) (fun i hi => cell_later hB1 (hs i hi))
  have t3 : Calls Try.prog 40 #[.slice (some ⟨b, o, none⟩) 512 c, .int .i64 16, .int .i64 4] w1 fun e w' => e = .returned (.int .i64 ((u32 l 16 : Nat) : Int)) ∧ w' = w1 := rtake4 b o 512 c l 16 w1 hl hb (by omega) (by omega) (fun i hi => cell_later hB1 (hs i hi))
  have T2 := Hid.mk t2
  have T3 := Hid.mk t3
  have Hs := Hid.mk hs
  have Hx := Hid.mk hx
  have henc := Hid.mk (fun wx => rencsuper_ok (u32 l 8) (u32 l 12) (u32 l 16) wx hg)
  generalize u32 l 8 = X at *
  generalize u32 l 12 = Y at *
  generalize u32 l 16 = Z at *
  clear hs t2 t3 hg hx
  go_enter Try.func23, Try.ntmps23
  go_wp2_with fail
  rw [← hw1]
  clear hw1
  refine t1.mono ?_
  rintro e wa ⟨rfl, hw⟩
  have hw' := hw.symm
  subst hw'
  clear hw t1
  go_wp2_with fail
  refine T2.out.mono ?_
  rintro e wa ⟨rfl, hw⟩
  have hw' := hw.symm
  subst hw'
  clear hw T2
  go_wp2_with fail
  refine T3.out.mono ?_
  rintro e wa ⟨rfl, hw⟩
  have hw' := hw.symm
  subst hw'
  clear hw T3
  have hq2 : (w1.alloc (.cells #[.int .i64 (X : Int), .int .i64 (Y : Int), .int .i64 (Z : Int)] 29)).heap[w1.heap.size]? = some (.cells #[.int .i64 (X : Int), .int .i64 (Y : Int), .int .i64 (Z : Int)] 29 (0, 0)) := heap_alloc_new _ _
  have hB2 : Below w.heap.size w (w1.alloc (.cells #[.int .i64 (X : Int), .int .i64 (Y : Int), .int .i64 (Z : Int)] 29)) := hB1.alloc hB1.size _
  have hq1' : (w1.alloc (.cells #[.int .i64 (X : Int), .int .i64 (Y : Int), .int .i64 (Z : Int)] 29)).heap[w.heap.size]? = some (.cells #[.int .i64 0, .int .i64 0, .int .i64 0] 29 (0, 0)) := (Below.heap_alloc _ _ _ (by omega)).trans hq1
  have hsz2 : (w1.alloc (.cells #[.int .i64 (X : Int), .int .i64 (Y : Int), .int .i64 (Z : Int)] 29)).heap.size = w.heap.size + 2 := by simp; omega
  have HQ := Hid.mk (And.intro hq2 (And.intro hB2 (And.intro hq1' hsz2)))
  clear hq2 hB2 hq1' hsz2 hB1 hq1
  go_wp2_with fail
  refine (henc.out _).mono ?_
  rintro e w3 ⟨v, rfl, hmade⟩
  have hl3 := sealed_sup X Y Z
  obtain ⟨g, cg, rfl, hg3, hr3, hb3⟩ := hmade.out hl3
  clear hmade
  have hB3 : Below w.heap.size w w3 := HQ.out.2.1.trans (hb3.mono (by have := HQ.out.2.2.2; omega))
  have hsa := rsame_low g 0 b o 512 cg c (sealed (supBody X Y Z)) l w3 hl3 hl (by omega) (fun i hi => by have := hr3.byte (i := i) (by omega); rwa [addr_add] at this) (fun i hi => cell_later hB3 (Hs.out i hi))
  rw [Hx.out] at hsa
  have q3 := (hb3.block w1.heap.size (by have := HQ.out.2.2.2; omega)).trans HQ.out.1
  have p3 := (hb3.block w.heap.size (by have := HQ.out.2.2.2; omega)).trans HQ.out.2.2.1
  have HP := Hid.mk (And.intro q3 (And.intro p3 hB3))
  clear henc hr3 hb3 q3 p3 hB3 HQ hg3
  go_wp2_with fail
  refine hsa.mono ?_
  rintro e w4 ⟨rfl, hb4⟩
  have q4 := (hb4.block _ (Array.getElem?_eq_some_iff.1 HP.out.1).1).trans HP.out.1
  have p4 := (hb4.block _ (Array.getElem?_eq_some_iff.1 HP.out.2.1).1).trans HP.out.2.1
  have hB4 : Below w.heap.size w w4 := HP.out.2.2.trans (hb4.mono HP.out.2.2.size)
  rw [hsz1] at q4
  have a0 := cell_of_block q4 (j := 0) rfl
  have a1 := cell_of_block q4 (j := 1) rfl
  have a2 := cell_of_block q4 (j := 2) rfl
  have d0 := cell_of_block p4 (j := 0) rfl
  have d1 := cell_of_block p4 (j := 1) rfl
  have d2 := cell_of_block p4 (j := 2) rfl
  have f0 := frozen_of_block p4 0
  have f1 := frozen_of_block p4 1
  have f2 := frozen_of_block p4 2
  have HB4 := Hid.mk hB4
  clear hsa hb4 q4 p4 hB4 HP Hx Hs
  have HE := Hid.mk (fun (u0 u1 u2 : Value) => Keeps.below (B := w.heap.size) (((Keeps.setCell (F := fun j => j = w.heap.size) (p := ⟨w.heap.size, 0, none⟩) w4 rfl u0).trans (Keeps.setCell (F := fun j => j = w.heap.size) (p := ⟨w.heap.size, 1, none⟩) _ rfl u1) (fun _ h => .inl h)).trans (Keeps.setCell (F := fun j => j = w.heap.size) (p := ⟨w.heap.size, 2, none⟩) _ rfl u2) (fun _ h => .inl h)) (fun j hj => by omega) HB4.out.size)
  cases x
  · go_wp2
    exact bodyPost_ret (v := .tuple #[.agg #[.int .i64 0, .int .i64 0, .int .i64 0], .int .i64 6]) (by simp [results, Try.results23, go_sem, d0, d1, d2]) rfl ⟨rfl, HB4.out.trans (HE.out _ _ _)⟩
  · go_wp2
    exact bodyPost_ret (v := .tuple #[.agg #[.int .i64 (X : Int), .int .i64 (Y : Int), .int .i64 (Z : Int)], .int .i64 0]) (by simp [results, Try.results23, go_sem, d0, d1, d2]) rfl ⟨rfl, HB4.out.trans (HE.out _ _ _)⟩
set_option maxHeartbeats 4000000 in
theorem rdecsuper_nogeo (b o c : Nat) (l : List Int) (w : World) (hl : l.length = 512) (hb : Bytes l) (hs : ∀ i, i < 512 → w.cell? ⟨b, o + i, none⟩ = some (.int .u8 (l.getD i 0))) (hg : ¬ Geo (u32 l 8) (u32 l 12) (u32 l 16)) :
    Calls Try.prog 23 #[.slice (some ⟨b, o, none⟩) 512 c] w fun e w' => e = .returned (.tuple #[.agg #[.int .i64 0, .int .i64 0, .int .i64 0], .int .i64 6]) ∧ Below w.heap.size w w' := by
  obtain ⟨w1, hw1⟩ : ∃ w1, w1 = w.alloc (.cells #[.int .i64 0, .int .i64 0, .int .i64 0] 29) := ⟨_, rfl⟩
  have hB1 : Below w.heap.size w w1 := by rw [hw1]; exact (Below.refl _ w).alloc (Nat.le_refl _) _
  have hq1 : w1.heap[w.heap.size]? = some (.cells #[.int .i64 0, .int .i64 0, .int .i64 0] 29 (0, 0)) := by rw [hw1]; exact heap_alloc_new _ _
  have hsz1 : w1.heap.size = w.heap.size + 1 := by rw [hw1]; simp
  have t1 : Calls Try.prog 40 #[.slice (some ⟨b, o, none⟩) 512 c, .int .i64 8, .int .i64 4] w1 fun e w' => e = .returned (.int .i64 ((u32 l 8 : Nat) : Int)) ∧ w' = w1 := rtake4 b o 512 c l 8 w1 hl hb (by omega) (by omega) (fun i hi => cell_later hB1 (hs i hi))
  have t2 : Calls Try.prog 40 #[.slice (some ⟨b, o, none⟩) 512 c, .int .i64 12, .int .i64 4] w1 fun e w' => e = .returned (.int .i64 ((u32 l 12 : Nat) : Int)) ∧ w' = w1 := rtake4 b o 512 c l 12 w1 hl hb (by omega) (by omega) (fun i hi => cell_later hB1 (hs i hi))
  have t3 : Calls Try.prog 40 #[.slice (some ⟨b, o, none⟩) 512 c, .int .i64 16, .int .i64 4] w1 fun e w' => e = .returned (.int .i64 ((u32 l 16 : Nat) : Int)) ∧ w' = w1 := rtake4 b o 512 c l 16 w1 hl hb (by omega) (by omega) (fun i hi => cell_later hB1 (hs i hi))
  have T2 := Hid.mk t2
  have T3 := Hid.mk t3
  have Hs := Hid.mk hs
  have henc := Hid.mk (fun wx => rencsuper_bad (u32 l 8) (u32 l 12) (u32 l 16) wx hg)
  generalize u32 l 8 = X at *
  generalize u32 l 12 = Y at *
  generalize u32 l 16 = Z at *
  clear hs t2 t3 hg
  go_enter Try.func23, Try.ntmps23
  go_wp2_with fail
  rw [← hw1]
  clear hw1
  refine t1.mono ?_
  rintro e wa ⟨rfl, hw⟩
  have hw' := hw.symm
  subst hw'
  clear hw t1
  go_wp2_with fail
  refine T2.out.mono ?_
  rintro e wa ⟨rfl, hw⟩
  have hw' := hw.symm
  subst hw'
  clear hw T2
  go_wp2_with fail
  refine T3.out.mono ?_
  rintro e wa ⟨rfl, hw⟩
  have hw' := hw.symm
  subst hw'
  clear hw T3
  have hq2 : (w1.alloc (.cells #[.int .i64 (X : Int), .int .i64 (Y : Int), .int .i64 (Z : Int)] 29)).heap[w1.heap.size]? = some (.cells #[.int .i64 (X : Int), .int .i64 (Y : Int), .int .i64 (Z : Int)] 29 (0, 0)) := heap_alloc_new _ _
  have hB2 : Below w.heap.size w (w1.alloc (.cells #[.int .i64 (X : Int), .int .i64 (Y : Int), .int .i64 (Z : Int)] 29)) := hB1.alloc hB1.size _
  have hq1' : (w1.alloc (.cells #[.int .i64 (X : Int), .int .i64 (Y : Int), .int .i64 (Z : Int)] 29)).heap[w.heap.size]? = some (.cells #[.int .i64 0, .int .i64 0, .int .i64 0] 29 (0, 0)) := (Below.heap_alloc _ _ _ (by omega)).trans hq1
  have hsz2 : (w1.alloc (.cells #[.int .i64 (X : Int), .int .i64 (Y : Int), .int .i64 (Z : Int)] 29)).heap.size = w.heap.size + 2 := by simp; omega
  have HQ := Hid.mk (And.intro hq2 (And.intro hB2 (And.intro hq1' hsz2)))
  clear hq2 hB2 hq1' hsz2 hB1 hq1
  go_wp2_with fail
  refine (henc.out _).mono ?_
  rintro e w3 ⟨rfl, hb3⟩
  have hB4 : Below w.heap.size w w3 := HQ.out.2.1.trans (hb3.mono (by have := HQ.out.2.2.2; omega))
  have p4 := (hb3.block w.heap.size (by have := HQ.out.2.2.2; omega)).trans HQ.out.2.2.1
  have d0 := cell_of_block p4 (j := 0) rfl
  have d1 := cell_of_block p4 (j := 1) rfl
  have d2 := cell_of_block p4 (j := 2) rfl
  have f0 := frozen_of_block p4 0
  have f1 := frozen_of_block p4 1
  have f2 := frozen_of_block p4 2
  have HB4 := Hid.mk hB4
  have HE := Hid.mk (fun (u0 u1 u2 : Value) => Keeps.below (B := w.heap.size) (((Keeps.setCell (F := fun j => j = w.heap.size) (p := ⟨w.heap.size, 0, none⟩) w3 rfl u0).trans (Keeps.setCell (F := fun j => j = w.heap.size) (p := ⟨w.heap.size, 1, none⟩) _ rfl u1) (fun _ h => .inl h)).trans (Keeps.setCell (F := fun j => j = w.heap.size) (p := ⟨w.heap.size, 2, none⟩) _ rfl u2) (fun _ h => .inl h)) (fun j hj => by omega) HB4.out.size)
  clear henc hb3 p4 hB4 HQ Hs
  go_wp2
  exact bodyPost_ret (v := .tuple #[.agg #[.int .i64 0, .int .i64 0, .int .i64 0], .int .i64 6]) (by simp [results, Try.results23, go_sem, d0, d1, d2]) rfl ⟨rfl, HB4.out.trans (HE.out _ _ _)⟩

theorem rdecsuper_any (b o c : Nat) (l : List Int) (w : World) (hl : l.length = 512) (hb : Bytes l) (hs : ∀ i, i < 512 → w.cell? ⟨b, o + i, none⟩ = some (.int .u8 (l.getD i 0))) :
    Calls Try.prog 23 #[.slice (some ⟨b, o, none⟩) 512 c] w fun e w' => ∃ v x, e = .returned (.tuple #[v, .int .i64 x]) ∧ SuperOut l v x ∧ Below w.heap.size w w' := by
  by_cases hg : Geo (u32 l 8) (u32 l 12) (u32 l 16)
  · by_cases he : sealed (supBody (u32 l 8) (u32 l 12) (u32 l 16)) = l
    · refine (rdecsuper_geo b o c l w hl hb hs hg true (by simp [he])).mono ?_
      rintro e w' ⟨rfl, h⟩
      exact ⟨_, _, rfl, .inl ⟨⟨hg, he⟩, rfl, rfl⟩, h⟩
    · refine (rdecsuper_geo b o c l w hl hb hs hg false (by simp [he])).mono ?_
      rintro e w' ⟨rfl, h⟩
      exact ⟨_, _, rfl, .inr ⟨fun h => he h.2, rfl, rfl⟩, h⟩
  · refine (rdecsuper_nogeo b o c l w hl hb hs hg).mono ?_
    rintro e w' ⟨rfl, h⟩
    exact ⟨_, _, rfl, .inr ⟨fun h => hg h.1, rfl, rfl⟩, h⟩
end Go.Proofs.Ytimfidcpljimpaa
