import Derived.Test.YtodleeipefnadacKQ7
namespace Go.Proofs.Ytodleeipefnadac
open Go.RowKit

theorem infoNewest4 : (Try.prog.info? 42).map (·.size) = some 4 := by kernel_rfl
theorem set4 {w : World} {g : Nat} {T : TypeId} {a b c d x y z u : Value} (h : w.heap[g]? = some (.cells #[a, b, c, d] T (0, 0))) :
    ((((w.setCell ⟨g, 0, none⟩ x).setCell ⟨g, 1, none⟩ y).setCell ⟨g, 2, none⟩ z).setCell ⟨g, 3, none⟩ u).heap[g]? = some (.cells #[x, y, z, u] T (0, 0)) := by
  rw [heap_setCell_same _ _ _ _ _ _ (heap_setCell_same _ _ _ _ _ _ (heap_setCell_same _ _ _ _ _ _ (heap_setCell_same _ _ _ _ _ _ h)))]
  rfl
theorem keeps4 (w : World) (g : Nat) (x y z u : Value) : Keeps (fun j => j = g) w ((((w.setCell ⟨g, 0, none⟩ x).setCell ⟨g, 1, none⟩ y).setCell ⟨g, 2, none⟩ z).setCell ⟨g, 3, none⟩ u) :=
  (keeps3 w g x y z).trans (Keeps.setCell (F := fun j => j = g) (p := ⟨g, 3, none⟩) _ rfl u) (fun _ h => .inl h)
theorem range4 {w : World} {g : Nat} {T : TypeId} {x y z u : Value} (h : w.heap[g]? = some (.cells #[x, y, z, u] T (0, 0))) : w.rangeAt g 0 [x, y, z, u] := by
  intro j v hv
  rw [Nat.zero_add]
  exact cell_of_block h (by simpa using hv)

theorem Src.ne {w w' : World} {a : Option Addr} {n g : Nat} {l : List Int} (h : Src w a n l) (hk : Keeps (fun j => j = g) w w') (ha : ∀ x, a = some x → x.block ≠ g) : Src w' a n l :=
  ⟨h.1, h.2.1, fun x hx i hi => by
    have h0 := h.2.2 x hx i hi
    rw [World.cell?_of_block (w := w) (hk.block _ (World.block_lt_of_cell? _ _ h0) (by rw [blockOf_add]; exact ha x hx))]
    exact h0⟩

set_option maxRecDepth 20000 in
set_option maxHeartbeats 4000000 in
theorem ask_any (a : Option Addr) (n c : Nat) (l : List Int) (a2 : Option Addr) (m d : Nat) (r : List Int) (w : World) (hs : Src w a n l) (hs2 : Src w a2 m r) (hl : Bytes l) (hr : Bytes r) (hn : n ≤ 140737488355328) (hm : m ≤ 140737488355328) :
    Calls Try.prog 18 #[.slice a n c, .slice a2 m d] w fun e w' => ∃ p pc, e = .returned (.agg #[.int .i64 (((snewest l r).1 : Nat) : Int), .int .i64 (((snewest l r).2.1 : Nat) : Int), .slice p (snewest l r).2.2.1.length pc, .int .i64 (((snewest l r).2.2.2 : Nat) : Int)]) ∧ Src w' p (snewest l r).2.2.1.length (snewest l r).2.2.1 ∧ Below w.heap.size w w' ∧ (∀ x, p = some x → w.heap.size ≤ x.block) := by
  have hB0 : Below w.heap.size w (w.alloc (.cells #[.int .i64 0, .int .i64 0, .slice none 0 0, .int .i64 0] 42)) := (Below.refl _ w).alloc (Nat.le_refl _) _
  have hq0 : (w.alloc (.cells #[.int .i64 0, .int .i64 0, .slice none 0 0, .int .i64 0] 42)).heap[w.heap.size]? = some (.cells #[.int .i64 0, .int .i64 0, .slice none 0 0, .int .i64 0] 42 (0, 0)) := heap_alloc_new _ _
  have hl1 := hs.1
  have hl2 := hs2.1
  have h1 := ltwin_any a n c l _ hn (hs.later hB0)
  have H2 := Hid.mk (hs2.later hB0)
  have HB0 := Hid.mk hB0
  have HQ0 := Hid.mk hq0
  have hlen := snewest_len l r
  clear hs hs2 hB0 hq0
  go_enter Try.func18, Try.ntmps18
  go_wp2_with fail
  refine h1.mono ?_
  rintro e w1 ⟨v1, rfl, ho1, hb1⟩
  obtain ⟨p1, c1, rfl, hs1, _, _⟩ := ho1.src
  rw [hl1] at hs1 ⊢
  have h2 := ltwin_any a2 m d r w1 hm (H2.out.later hb1)
  have HB1 := Hid.mk hb1
  have HS1 := Hid.mk hs1
  clear h1 ho1 hb1 hs1
  go_wp2_with fail
  refine h2.mono ?_
  rintro e w2 ⟨v2, rfl, ho2, hb2⟩
  obtain ⟨p2, d2, rfl, hs2, _, _⟩ := ho2.src
  rw [hl2] at hs2 ⊢
  have HB2 := Hid.mk (HB1.out.trans (hb2.mono HB1.out.size))
  have h3 := pnewest_any p1 n c1 l p2 m d2 r w2 (HS1.out.later hb2) hs2 hl hr
  clear h2 ho2 hb2 hs2 HB1 HS1 H2
  obtain ⟨A, hA⟩ : ∃ A, A = (snewest l r).1 := ⟨_, rfl⟩
  obtain ⟨B, hB⟩ : ∃ B, B = (snewest l r).2.1 := ⟨_, rfl⟩
  obtain ⟨D, hD⟩ : ∃ D, D = (snewest l r).2.2.1 := ⟨_, rfl⟩
  obtain ⟨E, hE⟩ : ∃ E, E = (snewest l r).2.2.2 := ⟨_, rfl⟩
  rw [← hA, ← hB, ← hD, ← hE] at h3
  have HE := Hid.mk (And.intro hA (And.intro hB (And.intro hD hE)))
  clear hA hB hD hE hlen
  go_wp2_with fail
  refine h3.mono ?_
  rintro e w3 ⟨v3, rfl, hl3, hb3⟩
  obtain ⟨p3, c3, rfl, hs3, _, hx3⟩ := hl3
  have hB3 := HB2.out.trans (hb3.mono HB2.out.size)
  have hq3 := (hB3.block _ (Array.getElem?_eq_some_iff.1 HQ0.out).1).trans HQ0.out
  have hB3' := HB0.out.trans (hB3.mono HB0.out.size)
  have e0 : w3.cell? ⟨w.heap.size, 0, none⟩ = some (.int .i64 0) := cell_of_block hq3 (j := 0) rfl
  have e1 : w3.cell? ⟨w.heap.size, 1, none⟩ = some (.int .i64 0) := cell_of_block hq3 (j := 1) rfl
  have e2 : w3.cell? ⟨w.heap.size, 2, none⟩ = some (.slice none 0 0) := cell_of_block hq3 (j := 2) rfl
  have e3 : w3.cell? ⟨w.heap.size, 3, none⟩ = some (.int .i64 0) := cell_of_block hq3 (j := 3) rfl
  have f0 := frozen_of_block hq3 0
  have f1 := frozen_of_block hq3 1
  have f2 := frozen_of_block hq3 2
  have f3 := frozen_of_block hq3 3
  have hset := set4 (x := .int .i64 (A : Int)) (y := .int .i64 (B : Int)) (z := .slice p3 D.length c3) (u := .int .i64 (E : Int)) hq3
  have hkp := keeps4 w3 w.heap.size (.int .i64 (A : Int)) (.int .i64 (B : Int)) (.slice p3 D.length c3) (.int .i64 (E : Int))
  have hr4 := Hid.mk (range4 hset)
  have hz2 : w.heap.size < w2.heap.size := Nat.lt_of_lt_of_le (by simp) HB2.out.size
  have hs4 := hs3.ne hkp (fun x hx => by have := hx3 x hx; omega)
  have hB4 := hB3'.trans (hkp.below (fun j hj => by omega) hB3'.size)
  have HH := Hid.mk (And.intro hs4 (And.intro hB4 (fun x hx => show w.heap.size ≤ Addr.block x by have := hx3 x hx; omega)))
  clear h3 hb3 hs3 hx3 hB3 hq3 hB3' hset hkp hs4 hB4 HB2 HB0 HQ0
  generalize hDL : D.length = DL at *
  have HDL := Hid.mk hDL
  clear hDL
  go_wp2_with fail
  refine (lnum_any _ _).mono ?_
  rintro e w' ⟨rfl, hw⟩
  have hw' := hw.symm
  subst hw'
  clear hw
  go_wp2
  exact bodyPost_ret (results_cell_mid (P := Try.prog) rfl _ _ w.heap.size _ _ rfl hr4.out Try.underlying42 rfl infoNewest4) rfl ⟨p3, c3, by rw [← HE.out.1, ← HE.out.2.1, ← HE.out.2.2.1, ← HE.out.2.2.2, HDL.out], by rw [← HE.out.2.2.1, HDL.out]; exact HH.out.1, HH.out.2⟩

set_option maxRecDepth 20000 in
set_option maxHeartbeats 4000000 in
theorem alike_any (A B E A' B' E' : Nat) (D D' : List Int) (p : Option Addr) (pc : Nat) (p' : Option Addr) (pc' : Nat) (w : World) (hs : Src w p D.length D) (hs' : Src w p' D'.length D') (hD : D.length ≤ 140737488355328) :
    Calls Try.prog 35 #[.agg #[.int .i64 (A : Int), .int .i64 (B : Int), .slice p D.length pc, .int .i64 (E : Int)], .agg #[.int .i64 (A' : Int), .int .i64 (B' : Int), .slice p' D'.length pc', .int .i64 (E' : Int)]] w
      fun e w' => e = .returned (.bool (decide ((A, B, D, E) = (A', B', D', E')))) ∧ Below w.heap.size w w' := by
  have hB2 : Below w.heap.size w ((w.alloc (.cells #[.int .i64 (A : Int), .int .i64 (B : Int), .slice p D.length pc, .int .i64 (E : Int)] 42)).alloc (.cells #[.int .i64 (A' : Int), .int .i64 (B' : Int), .slice p' D'.length pc', .int .i64 (E' : Int)] 42)) := ((Below.refl _ w).alloc (Nat.le_refl _) _).alloc (by simp) _
  have h1 := lsame_any p p' D.length D'.length pc pc' D D' _ hD (hs.later hB2) (hs'.later hB2)
  have HB := Hid.mk hB2
  clear hs hs' hB2 hD
  obtain ⟨dl, hdl⟩ : ∃ dl, dl = D.length := ⟨_, rfl⟩
  obtain ⟨dl', hdl'⟩ : ∃ dl', dl' = D'.length := ⟨_, rfl⟩
  rw [← hdl, ← hdl'] at h1 HB ⊢
  clear hdl hdl'
  by_cases ha : A = A'
  · subst ha
    have sA : ((A : Int) == (A : Int)) = true := by simp
    by_cases hb : B = B'
    · subst hb
      have sB : ((B : Int) == (B : Int)) = true := by simp
      by_cases he : E = E'
      · subst he
        have sE : ((E : Int) == (E : Int)) = true := by simp
        have hd : decide ((A, B, D, E) = (A, B, D', E)) = decide (D = D') := by simp
        rw [hd]
        generalize decide (D = D') = X at *
        go_enter Try.func35, Try.ntmps35
        go_wp2_with fail
        refine h1.mono ?_
        rintro e w1 ⟨rfl, hb1⟩
        have HB1 := Hid.mk (HB.out.trans (hb1.mono HB.out.size))
        clear h1 hb1
        go_wp2
        go_ret
        exact ⟨rfl, HB1.out⟩
      · have sE : ((E : Int) == (E' : Int)) = false := by rw [beq_eq_false_iff_ne]; omega
        have hd : decide ((A, B, D, E) = (A, B, D', E')) = false := by simp [he]
        rw [hd]
        clear he hd h1
        go_enter Try.func35, Try.ntmps35
        go_wp2_with fail
        go_ret
        exact ⟨rfl, HB.out⟩
    · have sB : ((B : Int) == (B' : Int)) = false := by rw [beq_eq_false_iff_ne]; omega
      have hd : decide ((A, B, D, E) = (A, B', D', E')) = false := by simp [hb]
      rw [hd]
      clear hb hd h1
      go_enter Try.func35, Try.ntmps35
      go_wp2_with fail
      go_ret
      exact ⟨rfl, HB.out⟩
  · have sA : ((A : Int) == (A' : Int)) = false := by rw [beq_eq_false_iff_ne]; omega
    have hd : decide ((A, B, D, E) = (A', B', D', E')) = false := by simp [ha]
    rw [hd]
    clear ha hd h1
    go_enter Try.func35, Try.ntmps35
    go_wp2_with fail
    go_ret
    exact ⟨rfl, HB.out⟩

set_option maxHeartbeats 1000000 in
theorem lpair0 (v1 v2 v3 : Value) (w : World) : Calls Try.prog 17 #[v1, v2, .int .i64 0, v3] w fun e w' => e = .returned (.tuple #[v3, v2]) ∧ w' = w := by
  go_enter Try.func17, Try.ntmps17
  go_wp2
  go_ret2
  exact ⟨rfl, rfl⟩
set_option maxHeartbeats 1000000 in
theorem lpair1 (v1 v2 v3 : Value) (w : World) : Calls Try.prog 17 #[v1, v2, .int .i64 1, v3] w fun e w' => e = .returned (.tuple #[v1, v3]) ∧ w' = w := by
  go_enter Try.func17, Try.ntmps17
  go_wp2
  go_ret2
  exact ⟨rfl, rfl⟩
end Go.Proofs.Ytodleeipefnadac
