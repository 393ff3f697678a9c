import Derived.Test.YthdgndbmecnimaaW12
section
namespace Go.Proofs.Ythdgndbmecnimaa
open Go.RowKit

/-- What Open does to a disk, and its error. -/
def lopen (S : DS) (s : Nat) (f n : Int) : Int × DS :=
  if lrefuse S s f n ≠ 0 then (lrefuse S s f n, S) else if (oNew S f.toNat).2.2 ≠ 0 then (((oNew S f.toNat).2.2 : Int), S.take)
  else if oTop S f.toNat n.toNat = 1073741824 then (41, S.take) else S.take.fl s
/-- The log that is opened. -/
def LG.new (S : DS) (f n : Nat) : LG := ⟨f, n, wrap64 (S.life + 1), false, 0, 0, 0, 0⟩
def Opened (w w' : World) (p s : Nat) (S : DS) (f n : Int) (e : Ending) : Prop :=
  if (lopen S s f n).1 ≠ 0 then e = .returned (.tuple #[.pointer none, .slice none 0 0, .int .i64 (lopen S s f n).1])
  else ∃ l v rs hd, e = .returned (.tuple #[.pointer (some ⟨l, 0, none⟩), v, .int .i64 0]) ∧ w.heap.size ≤ l ∧ Told w' w.heap.size l p (LG.new S f.toNat n.toNat) S v rs hd
theorem Told.low {w : World} {B B' l p : Nat} {L : LG} {S : DS} {v : Value} {rs : List (List Int)} {hd : Nat} (h : Told w B l p L S v rs hd) (hB : B' ≤ B) : Told w B' l p L S v rs hd := ⟨h.r.low hB (fun _ h => h), h.t, h.x, h.p⟩
theorem Told.keep {w w' : World} {B l p : Nat} {L : LG} {S : DS} {v : Value} {rs : List (List Int)} {hd : Nat} {F : Nat → Prop} (h : Told w B l p L S v rs hd) (hk : Keeps F w w') (hF : ∀ k, F k → k < B) (hl : ¬ F l) : Told w' B l p L S v rs hd := by
  refine ⟨?_, h.t, h.x, h.p.keep hk hl⟩
  obtain ⟨vs, h1, hj, h2⟩ := h.r
  refine ⟨vs, owns_agree h1 (fun g hg => ?_), hj, fun i hi => ?_⟩
  · obtain ⟨cur, hc⟩ := owns_block h1 hg
    exact hk.block g (lt_there hc) (fun hf => by have := own_lo h1 hg; have := hF _ hf; omega)
  · obtain ⟨g, c, e, hr, hb, hx⟩ := h2 i hi
    exact ⟨g, c, e, hr.agree (hk.block g hr.lt (fun hf => by have := hF _ hf; omega)), hb, hx⟩

section
variable {w : World} {F : Nat → Prop} {p s : Nat} {S : DS}

theorem Told.took {w : World} {B l p : Nat} {L : LG} {v : Value} {rs : List (List Int)} {hd : Nat} (h : Told w B l p L S.take v rs hd) : Told w B l p L S v rs hd := ⟨h.r, h.t, h.x, h.p⟩
theorem Recalled.took {w' : World} {B l a b : Nat} {e : Ending} (h : Recalled w' B l p (LG.new S a b) S.take e) : if (oNew S a).2.2 ≠ 0 then e = .returned (.tuple #[.slice none 0 0, .int .i64 ((oNew S a).2.2 : Int)])
  else if oTop S a b = 1073741824 then e = .returned (.tuple #[.slice none 0 0, .int .i64 41])
  else ∃ v rs hd, e = .returned (.tuple #[v, .int .i64 0]) ∧ Told w' B l p (LG.new S a b) S v rs hd := by
  unfold Recalled at h
  change if (oNew S a).2.2 ≠ 0 then e = .returned (.tuple #[.slice none 0 0, .int .i64 ((oNew S a).2.2 : Int)])
    else if oTop S a b = 1073741824 then e = .returned (.tuple #[.slice none 0 0, .int .i64 41])
    else ∃ v rs hd, e = .returned (.tuple #[v, .int .i64 0]) ∧ Told w' B l p (LG.new S a b) S.take v rs hd at h
  split at h
  · rename_i h1; rw [if_pos h1]; exact h
  · rename_i h1
    rw [if_neg h1]
    split at h
    · rename_i h2; rw [if_pos h2]; exact h
    · rename_i h2
      rw [if_neg h2]
      obtain ⟨v, rs, hd, e, ht⟩ := h
      exact ⟨v, rs, hd, e, ht.took⟩

set_option maxRecDepth 20000 in
set_option maxHeartbeats 8000000 in
theorem Open_any (h : DiskR w F p s S) (hby : S.Byt) (f n : Int) (hbig : S.puts.length + 500 ≤ 4000000000000) :
    Calls Try.prog 13 #[.pointer (some ⟨p, 0, none⟩), .int .i64 f, .int .i64 n] w fun e w' => Opened w w' p s S f n e ∧ DiskR w' F p s (lopen S s f n).2 ∧ Keeps F w w' := by
  have HL := Hid.mk h.lt
  have hFb : ¬ F w.heap.size := fun h1 => by have := h.lt _ h1; omega
  have HB := Hid.mk (below_box w (.cells #[.pointer (some ⟨p, 0, none⟩), .int .i64 f, .int .i64 n] 64))
  have hx0 : (w.alloc (.cells #[.pointer (some ⟨p, 0, none⟩), .int .i64 f, .int .i64 n] 64)).heap[w.heap.size]? = some (.cells #[.pointer (some ⟨p, 0, none⟩), .int .i64 f, .int .i64 n] 64 (0, 0)) := heap_alloc_new _ _
  have hd0 := h.boxed (.cells #[.pointer (some ⟨p, 0, none⟩), .int .i64 f, .int .i64 n] 64)
  have h1 := drefusal hd0 f n
  have HX := Hid.mk hx0
  have HD := Hid.mk hd0
  have HFb := Hid.mk hFb
  clear hx0 hd0 hFb
  unfold Opened lopen
  by_cases q : lrefuse S s f n = 0
  · simp only [if_neg (fun h : ¬ lrefuse S s f n = 0 => h q)]
    obtain ⟨hf0, a, b, rfl, rfl, hab, hb1, hb2⟩ := lrefuse_zero q
    rw [q] at h1
    simp only [Int.toNat_natCast]
    have H3 := Hid.mk (fun (w2 : World) (l : Nat) (hd2 : DiskR w2 F p s S.take) (hl : LogP w2 l p (LG.new S a b)) (hFl : ¬ F l) => (recall_any hd2 hl hFl hby.take hab (by show 1 ≤ b; omega) hb2 hf0 (by show S.puts.length + 1 ≤ _; omega)).mono (fun e w' h => And.intro h.1.took h.2))
    clear q h
    by_cases k0 : (oNew S a).2.2 = 0
    · have HK0 := Hid.mk k0
      simp only [if_neg (fun h : ¬ (oNew S a).2.2 = 0 => h k0)]
      clear k0
      by_cases k1 : oTop S a b = 1073741824
      · have HK1 := Hid.mk k1
        simp only [if_pos k1]
        simp only [if_pos (show (41 : Int) ≠ 0 by decide)]
        clear k1
        go_enter Try.func13, Try.ntmps13
        go_wp2_with fail
        refine h1.mono ?_
        rintro e w1 ⟨rfl, hb⟩
        have hx1 : w1.heap[w.heap.size]? = _ := (hb.block _ (by simp)).trans HX.out
        have c0 := cell_of_block hx1 (j := 0) rfl
        have c1 := cell_of_block hx1 (j := 1) rfl
        have c2 := cell_of_block hx1 (j := 2) rfl
        have h2 := dtake (HD.out.later (hb.trans (below_drew (Below.refl w1.heap.size w1) |>.mono hb.size)))
        have HB1 := Hid.mk (HB.out.trans (hb.mono (by simp)))
        have HX1 := Hid.mk hx1
        clear h1 hb hx1
        go_wp2_with fail
        go_region_held3 (fun w' => w'.cell? ⟨w.heap.size, 0, none⟩ = some (.pointer (some ⟨p, 0, none⟩)) ∧ w'.cell? ⟨w.heap.size, 1, none⟩ = some (.int .i64 (a : Int)) ∧ w'.cell? ⟨w.heap.size, 2, none⟩ = some (.int .i64 (b : Int)))
          (first | exact ⟨c0, c1, c2⟩ | exact ⟨cell_of_block hx2 (j := 0) rfl, cell_of_block hx2 (j := 1) rfl, cell_of_block hx2 (j := 2) rfl⟩ | exact ⟨cell_of_block (hx3 _) (j := 0) rfl, cell_of_block (hx3 _) (j := 1) rfl, cell_of_block (hx3 _) (j := 2) rfl⟩)
          ((go_at_call 41; refine h2.mono ?_; rintro e w2 ⟨rfl, hd2, hk2⟩; have hx2 := box_after (w := w1.drew) HX1.out hk2 HFb.out; have hx3 := fun o => (below_box w2 o).block _ (lt_there hx2) |>.trans hx2))
        have hz1 : w.heap.size < w1.heap.size := by have := HB1.out.size; have := lt_there HX1.out; omega
        have hz2 : w1.heap.size ≤ w2.heap.size := hk2.size
        have hl2 : LogP (w2.alloc (.cells (lgC p (LG.new S a b)) 66)) w2.heap.size p (LG.new S a b) := heap_alloc_new _ _
        have HFl := Hid.mk (fun h : F w2.heap.size => by have := HL.out _ h; omega : ¬ F w2.heap.size)
        have hkw : Keeps F w (w2.alloc (.cells (lgC p (LG.new S a b)) 66)) := ((Keeps.of_below F (below_drew HB1.out)).trans hk2 (fun _ h => .inl h)).trans (Keeps.boxed F _) (fun _ h => .inl h)
        have h3 := H3.out _ w2.heap.size (hd2.boxed (.cells (lgC p (LG.new S a b)) 66)) hl2 HFl.out
        have HKw := Hid.mk hkw
        clear h2 hd2 hk2 hx2 hx3 hl2 hkw
        go_wp2_with fail
        refine h3.mono ?_
        rintro e w3 ⟨h4, hd3, hk3⟩
        rw [if_neg (fun h => h HK0.out), if_pos HK1.out] at h4
        subst h4
        have HZ := Hid.mk (And.intro hd3 (HKw.out.trans hk3 (fun k h => h.elim .inl (fun e => .inr (by omega)))))
        clear h3 hd3 hk3
        go_wp2_with fail
        go_ret3
        exact ⟨rfl, HZ.out⟩
      · have HK1 := Hid.mk k1
        simp only [if_neg k1]
        clear k1
        have H5 := Hid.mk (fun (w3 : World) (hd3 : DiskR w3 F p s S.take) => dflush hd3 (by show S.puts.length + 1 ≤ _; omega))
        generalize S.take.fl s = Y at *
        by_cases k : Y.1 = 0
        · simp only [if_neg (fun h : ¬ Y.1 = 0 => h k)]
          have d : (Y.1 == 0) = true := by rw [beq_iff_eq]; exact k
          clear k
          go_enter Try.func13, Try.ntmps13
          go_wp2_with fail
          refine h1.mono ?_
          rintro e w1 ⟨rfl, hb⟩
          have hx1 : w1.heap[w.heap.size]? = _ := (hb.block _ (by simp)).trans HX.out
          have c0 := cell_of_block hx1 (j := 0) rfl
          have c1 := cell_of_block hx1 (j := 1) rfl
          have c2 := cell_of_block hx1 (j := 2) rfl
          have h2 := dtake (HD.out.later (hb.trans (below_drew (Below.refl w1.heap.size w1) |>.mono hb.size)))
          have HB1 := Hid.mk (HB.out.trans (hb.mono (by simp)))
          have HX1 := Hid.mk hx1
          clear h1 hb hx1
          go_wp2_with fail
          go_region_held3 (fun w' => w'.cell? ⟨w.heap.size, 0, none⟩ = some (.pointer (some ⟨p, 0, none⟩)) ∧ w'.cell? ⟨w.heap.size, 1, none⟩ = some (.int .i64 (a : Int)) ∧ w'.cell? ⟨w.heap.size, 2, none⟩ = some (.int .i64 (b : Int)))
            (first | exact ⟨c0, c1, c2⟩ | exact ⟨cell_of_block hx2 (j := 0) rfl, cell_of_block hx2 (j := 1) rfl, cell_of_block hx2 (j := 2) rfl⟩ | exact ⟨cell_of_block (hx3 _) (j := 0) rfl, cell_of_block (hx3 _) (j := 1) rfl, cell_of_block (hx3 _) (j := 2) rfl⟩)
            ((go_at_call 41; refine h2.mono ?_; rintro e w2 ⟨rfl, hd2, hk2⟩; have hx2 := box_after (w := w1.drew) HX1.out hk2 HFb.out; have hx3 := fun o => (below_box w2 o).block _ (lt_there hx2) |>.trans hx2))
          have hz1 : w.heap.size < w1.heap.size := by have := HB1.out.size; have := lt_there HX1.out; omega
          have hz2 : w1.heap.size ≤ w2.heap.size := hk2.size
          have hl2 : LogP (w2.alloc (.cells (lgC p (LG.new S a b)) 66)) w2.heap.size p (LG.new S a b) := heap_alloc_new _ _
          have HFl := Hid.mk (fun h : F w2.heap.size => by have := HL.out _ h; omega : ¬ F w2.heap.size)
          have hkw : Keeps F w (w2.alloc (.cells (lgC p (LG.new S a b)) 66)) := ((Keeps.of_below F (below_drew HB1.out)).trans hk2 (fun _ h => .inl h)).trans (Keeps.boxed F _) (fun _ h => .inl h)
          have h3 := H3.out _ w2.heap.size (hd2.boxed (.cells (lgC p (LG.new S a b)) 66)) hl2 HFl.out
          have HKw := Hid.mk hkw
          clear h2 hd2 hk2 hx2 hx3 hl2 hkw
          go_wp2_with fail
          refine h3.mono ?_
          rintro e w3 ⟨h4, hd3, hk3⟩
          rw [if_neg (fun h => h HK0.out), if_neg HK1.out] at h4
          obtain ⟨v, rs, hd, rfl, ht⟩ := h4
          have h5 := H5.out w3 hd3
          have HT := Hid.mk ht
          have HK3 := Hid.mk (HKw.out.trans hk3 (fun k h => h.elim .inl (fun e => .inr (by omega))))
          have hzA : w.heap.size ≤ (w2.alloc (.cells (lgC p (LG.new S a b)) 66)).heap.size := by simp; omega
          clear h3 hd3 hk3 ht
          go_wp2_with fail
          refine h5.mono ?_
          rintro e w4 ⟨rfl, hd4, hk4⟩
          have HZ := Hid.mk (And.intro ((HT.out.low (B' := w.heap.size) hzA).keep hk4 (fun k hk => HL.out k hk) HFl.out) (And.intro hd4 (HK3.out.trans hk4 (fun _ h => .inl h))))
          clear h5 hd4 hk4
          go_wp2_with fail
          go_ret3
          exact ⟨⟨_, _, _, _, rfl, by omega, HZ.out.1⟩, HZ.out.2⟩
        · simp only [if_pos (fun h => k h : ¬ Y.1 = 0)]
          have d : (Y.1 == 0) = false := by rw [beq_eq_false_iff_ne]; exact k
          clear k
          go_enter Try.func13, Try.ntmps13
          go_wp2_with fail
          refine h1.mono ?_
          rintro e w1 ⟨rfl, hb⟩
          have hx1 : w1.heap[w.heap.size]? = _ := (hb.block _ (by simp)).trans HX.out
          have c0 := cell_of_block hx1 (j := 0) rfl
          have c1 := cell_of_block hx1 (j := 1) rfl
          have c2 := cell_of_block hx1 (j := 2) rfl
          have h2 := dtake (HD.out.later (hb.trans (below_drew (Below.refl w1.heap.size w1) |>.mono hb.size)))
          have HB1 := Hid.mk (HB.out.trans (hb.mono (by simp)))
          have HX1 := Hid.mk hx1
          clear h1 hb hx1
          go_wp2_with fail
          go_region_held3 (fun w' => w'.cell? ⟨w.heap.size, 0, none⟩ = some (.pointer (some ⟨p, 0, none⟩)) ∧ w'.cell? ⟨w.heap.size, 1, none⟩ = some (.int .i64 (a : Int)) ∧ w'.cell? ⟨w.heap.size, 2, none⟩ = some (.int .i64 (b : Int)))
            (first | exact ⟨c0, c1, c2⟩ | exact ⟨cell_of_block hx2 (j := 0) rfl, cell_of_block hx2 (j := 1) rfl, cell_of_block hx2 (j := 2) rfl⟩ | exact ⟨cell_of_block (hx3 _) (j := 0) rfl, cell_of_block (hx3 _) (j := 1) rfl, cell_of_block (hx3 _) (j := 2) rfl⟩)
            ((go_at_call 41; refine h2.mono ?_; rintro e w2 ⟨rfl, hd2, hk2⟩; have hx2 := box_after (w := w1.drew) HX1.out hk2 HFb.out; have hx3 := fun o => (below_box w2 o).block _ (lt_there hx2) |>.trans hx2))
          have hz1 : w.heap.size < w1.heap.size := by have := HB1.out.size; have := lt_there HX1.out; omega
          have hz2 : w1.heap.size ≤ w2.heap.size := hk2.size
          have hl2 : LogP (w2.alloc (.cells (lgC p (LG.new S a b)) 66)) w2.heap.size p (LG.new S a b) := heap_alloc_new _ _
          have HFl := Hid.mk (fun h : F w2.heap.size => by have := HL.out _ h; omega : ¬ F w2.heap.size)
          have hkw : Keeps F w (w2.alloc (.cells (lgC p (LG.new S a b)) 66)) := ((Keeps.of_below F (below_drew HB1.out)).trans hk2 (fun _ h => .inl h)).trans (Keeps.boxed F _) (fun _ h => .inl h)
          have h3 := H3.out _ w2.heap.size (hd2.boxed (.cells (lgC p (LG.new S a b)) 66)) hl2 HFl.out
          have HKw := Hid.mk hkw
          clear h2 hd2 hk2 hx2 hx3 hl2 hkw
          go_wp2_with fail
          refine h3.mono ?_
          rintro e w3 ⟨h4, hd3, hk3⟩
          rw [if_neg (fun h => h HK0.out), if_neg HK1.out] at h4
          obtain ⟨v, rs, hd, rfl, ht⟩ := h4
          have h5 := H5.out w3 hd3
          have HK3 := Hid.mk (HKw.out.trans hk3 (fun k h => h.elim .inl (fun e => .inr (by omega))))
          clear h3 hd3 hk3 ht
          go_wp2_with fail
          refine h5.mono ?_
          rintro e w4 ⟨rfl, hd4, hk4⟩
          have HZ := Hid.mk (And.intro hd4 (HK3.out.trans hk4 (fun _ h => .inl h)))
          clear h5 hd4 hk4
          go_wp2_with fail
          go_ret3
          exact ⟨rfl, HZ.out⟩
    · have HK0 := Hid.mk k0
      have d0 : (((oNew S a).2.2 : Int) == 0) = false := by rw [beq_eq_false_iff_ne]; omega
      simp only [if_pos (fun h => k0 h : ¬ (oNew S a).2.2 = 0)]
      simp only [if_pos (show (((oNew S a).2.2 : Nat) : Int) ≠ 0 by omega)]
      clear k0
      go_enter Try.func13, Try.ntmps13
      go_wp2_with fail
      refine h1.mono ?_
      rintro e w1 ⟨rfl, hb⟩
      have hx1 : w1.heap[w.heap.size]? = _ := (hb.block _ (by simp)).trans HX.out
      have c0 := cell_of_block hx1 (j := 0) rfl
      have c1 := cell_of_block hx1 (j := 1) rfl
      have c2 := cell_of_block hx1 (j := 2) rfl
      have h2 := dtake (HD.out.later (hb.trans (below_drew (Below.refl w1.heap.size w1) |>.mono hb.size)))
      have HB1 := Hid.mk (HB.out.trans (hb.mono (by simp)))
      have HX1 := Hid.mk hx1
      clear h1 hb hx1
      go_wp2_with fail
      go_region_held3 (fun w' => w'.cell? ⟨w.heap.size, 0, none⟩ = some (.pointer (some ⟨p, 0, none⟩)) ∧ w'.cell? ⟨w.heap.size, 1, none⟩ = some (.int .i64 (a : Int)) ∧ w'.cell? ⟨w.heap.size, 2, none⟩ = some (.int .i64 (b : Int)))
        (first | exact ⟨c0, c1, c2⟩ | exact ⟨cell_of_block hx2 (j := 0) rfl, cell_of_block hx2 (j := 1) rfl, cell_of_block hx2 (j := 2) rfl⟩ | exact ⟨cell_of_block (hx3 _) (j := 0) rfl, cell_of_block (hx3 _) (j := 1) rfl, cell_of_block (hx3 _) (j := 2) rfl⟩)
        ((go_at_call 41; refine h2.mono ?_; rintro e w2 ⟨rfl, hd2, hk2⟩; have hx2 := box_after (w := w1.drew) HX1.out hk2 HFb.out; have hx3 := fun o => (below_box w2 o).block _ (lt_there hx2) |>.trans hx2))
      have hz1 : w.heap.size < w1.heap.size := by have := HB1.out.size; have := lt_there HX1.out; omega
      have hz2 : w1.heap.size ≤ w2.heap.size := hk2.size
      have hl2 : LogP (w2.alloc (.cells (lgC p (LG.new S a b)) 66)) w2.heap.size p (LG.new S a b) := heap_alloc_new _ _
      have HFl := Hid.mk (fun h : F w2.heap.size => by have := HL.out _ h; omega : ¬ F w2.heap.size)
      have hkw : Keeps F w (w2.alloc (.cells (lgC p (LG.new S a b)) 66)) := ((Keeps.of_below F (below_drew HB1.out)).trans hk2 (fun _ h => .inl h)).trans (Keeps.boxed F _) (fun _ h => .inl h)
      have h3 := H3.out _ w2.heap.size (hd2.boxed (.cells (lgC p (LG.new S a b)) 66)) hl2 HFl.out
      have HKw := Hid.mk hkw
      clear h2 hd2 hk2 hx2 hx3 hl2 hkw
      go_wp2_with fail
      refine h3.mono ?_
      rintro e w3 ⟨h4, hd3, hk3⟩
      rw [if_pos (fun h => HK0.out h)] at h4
      subst h4
      have HZ := Hid.mk (And.intro hd3 (HKw.out.trans hk3 (fun k h => h.elim .inl (fun e => .inr (by omega)))))
      clear h3 hd3 hk3
      go_wp2_with fail
      go_ret3
      exact ⟨rfl, HZ.out⟩
  · simp only [if_pos (fun h => q h : ¬ lrefuse S s f n = 0)]
    have d0 : (lrefuse S s f n == 0) = false := by rw [beq_eq_false_iff_ne]; exact q
    clear q hby
    go_enter Try.func13, Try.ntmps13
    go_wp2_with fail
    refine h1.mono ?_
    rintro e w1 ⟨rfl, hb⟩
    have HZ := Hid.mk (And.intro (HD.out.later hb) (Keeps.of_below F (HB.out.trans (hb.mono (by simp)))))
    clear h1 hb
    go_wp2_with fail
    go_ret3
    exact ⟨rfl, HZ.out⟩
end
end Go.Proofs.Ythdgndbmecnimaa
end

section
namespace Go.Proofs.Ythdgndbmecnimaa
open Go.RowKit Go.Shelf

attribute [local go_sem] Oper.semAt_some

/-- What a round keeps: the iterator's own boxes. -/
def KpC (b c : Nat) (W W' : World) : Prop := W'.heap[b]? = W.heap[b]? ∧ W'.heap[c]? = W.heap[c]?
theorem KpC.t {b c : Nat} {A B C : World} (h : KpC b c A B) (k : KpC b c B C) : KpC b c A C := ⟨k.1.trans h.1, k.2.trans h.2⟩
theorem KpC.b {b c : Nat} {w : World} (hb : b < w.heap.size) (hc : c < w.heap.size) (W : World) (l : Nat) (o o' : Obj) (hl : w.heap.size ≤ l) (_h : W.heap[l]? = some o) (_h1 : o.isCells = false) (_h2 : o.isWalk = false) : KpC b c W (W.putObj l o') :=
  ⟨World.putObj_heap_other (by omega), World.putObj_heap_other (by omega)⟩
theorem KpC.refl (b c : Nat) (W : World) : KpC b c W W := ⟨rfl, rfl⟩

set_option maxRecDepth 20000 in
set_option maxHeartbeats 4000000 in
theorem chunk_any (a : Option Addr) (n c : Nat) (w : World) :
    Calls Try.prog 36 #[.slice a n c, .int .i64 492] w fun e w' => e = .returned (.func (.func 52) #[] #[.pointer (some ⟨w.heap.size, 0, none⟩), .pointer (some ⟨w.heap.size + 1, 0, none⟩)]) ∧ w' = (w.alloc (.cells #[.slice a n c] 27)).alloc (.cells #[.int .i64 492] 3) := by
  go_enter Try.func36, Try.ntmps36
  go_wp2
  go_ret
  exact ⟨rfl, rfl⟩

/-- How long the k-th piece of n bytes is. -/
def chLen (n k : Nat) : Nat := min 492 (n - 492 * k)
/-- What is handed to the loop's body. -/
def encC (b o n q : Nat) (x : Fin q) : Array Value := #[.slice (some ⟨b, o + 492 * x.1, none⟩) (chLen n x.1) (chLen n x.1)]

set_option maxRecDepth 100000 in
set_option maxHeartbeats 4000000 in
theorem chunk1_in (m : Nat) (hm : 1 ≤ m) (l Bs Bn b o n c q : Nat) (hn0 : 1 ≤ n) (hn : n ≤ 8364) (hc : n ≤ c) (hq : q = (n + 491) / 492) (J Jx : List (Fin q) → World → Prop)
    (hY : ∀ pre (x : Fin q) W, J pre W → pre.length < q → YieldAt Fence.wide (m - 1) Try.prog l (encC b o n q x) W fun e W' =>
      (e = .returned (.bool true) ∧ J (pre ++ [x]) W' ∧ KpC Bs Bn W W') ∨ (e = .returned (.bool false) ∧ Jx (pre ++ [x]) W'))
    (W : World) (hBs : W.heap[Bs]? = some (.cells #[.slice (some ⟨b, o, none⟩) n c] 27 (0, 0))) (hBn : W.heap[Bn]? = some (.cells #[.int .i64 492] 3 (0, 0))) (hJ : AbidesFrom W.heap.size J) (h0 : J [] W) :
    CallsIn Fence.wide m Try.prog 52 #[.func (.yield l) #[] #[], .pointer (some ⟨Bs, 0, none⟩), .pointer (some ⟨Bn, 0, none⟩)] W fun e W' => (∃ v, e = .returned v) ∧
      ((∃ ys, InO ys q ∧ J ys W') ∨ (∃ pre, (∃ k, k < q ∧ InO pre (k + 1)) ∧ Jx pre W')) := by
  have HQ := Hid.mk hq
  have hqn : n ≤ 492 * q ∧ 492 * q < n + 492 := by omega
  clear hq
  refine callsIn_of_wp Try.func52 rfl trivial ?_ rfl
  simp only [Try.ntmps52, List.size_toArray, List.length_cons, List.length_nil, Nat.reduceAdd, Nat.reduceSub, Array.replicate_succ, Array.replicate_zero, List.push_toArray, List.append_toArray, List.nil_append, List.cons_append]
  gi_wp2
  gi_loopw [4] (fun i wr => ∃ (k : Nat) (pre : List (Fin q)), k ≤ q ∧ i = .int .i64 ((492 * k : Nat) : Int) ∧ InO pre k ∧ J pre wr ∧ KpC Bs Bn W wr)
    (fun i _ => 492 * q - (intOf i).toNat)
  case atStart => exact ⟨0, [], Nat.zero_le _, rfl, InO.nil, h0, KpC.refl _ _ _⟩
  case round =>
    obtain ⟨k, pre, hk, rfl, hpre, hJs, hkp⟩ := hrel
    have hlen : pre.length = k := hpre.length
    have hs1 := cell_of_block (hkp.1.trans hBs) (j := 0) rfl
    have hp1 := cell_of_block (hkp.2.trans hBn) (j := 0) rfl
    by_cases hlt : k < q
    · have hJd : J pre wr.drew := hJ pre wr wr.drew none hJs ⟨rfl, rfl, rfl, Nat.le_refl _, fun _ _ _ => rfl⟩ (fun r e => by cases e)
      obtain ⟨fn, tmps, assign, body, hy, hRo⟩ := hY pre ⟨k, hlt⟩ wr.drew hJd (by omega)
      have hmx : Try.prog.follows .mixedOrders = true := by kernel_rfl
      dsimp only [encC] at hy
      have hcl : chLen n k = min 492 (n - 492 * k) := rfl
      obtain ⟨I, hI⟩ : ∃ I, I = 492 * k := ⟨_, rfl⟩
      rw [← hI] at hy hcl ⊢
      have hIn : I < n := by omega
      obtain ⟨z, hz⟩ : ∃ z, z = chLen n k := ⟨_, rfl⟩
      rw [← hz] at hy hcl
      have hmin : min (492 : Int) ((n - I : Nat) : Int) = (z : Int) := by omega
      have hto : ((I : Int) + (z : Int)).toNat - I = z := by omega
      have hlt' : (I : Int) < (n : Int) := by omega
      have hIc : (I : Int) < (c : Int) := by omega
      have hnc : (n : Int) ≤ (c : Int) := by omega
      have hzn : (I : Int) + (z : Int) ≤ (n : Int) := by omega
      have hz1 : (1 : Int) ≤ (z : Int) := by omega
      have HI := Hid.mk hI
      have HZ := Hid.mk hz
      clear hI hz hcl
      have hRo' := round_bool hRo
      have HK := Hid.mk hkp
      have HJ := Hid.mk hJ
      have HPre := Hid.mk hpre
      clear hRo hY hJs hJd hkp hJ hpre
      gi_wp2
      gi_region_with_o (fail)
      all_goals
        gi_wp2_with fail
        refine hRo'.mono ?_
        rintro e W3 ⟨r, rfl, hr1, hr2⟩
        have HR1 := Hid.mk hr1
        have HR2 := Hid.mk hr2
        clear hr1 hr2
        cases r
        · gi_wp2
          refine bodyPost_ret (results_none rfl _ _ _) rfl ?_
          exact ⟨⟨_, rfl⟩, .inr ⟨_, ⟨k, hlt, HPre.out.snoc hlt⟩, HR2.out (by simp)⟩⟩
        · have hk3 : KpC Bs Bn W W3 := HK.out.t (KpC.t (B := wr.drew) ⟨rfl, rfl⟩ (HR1.out rfl).2)
          have hp3 := cell_of_block (hk3.2.trans hBn) (j := 0) rfl
          have HK3 := Hid.mk hk3
          clear hk3
          gi_wp2
          go_roundw
          case rel => exact ⟨k + 1, _, by omega, by rw [HI.out]; go_num, HPre.out.snoc hlt, (HR1.out (by simp)).1, HK3.out⟩
          case measure => have := HI.out; simp [intOf]; omega
    · have hkq := Hid.mk (show k = q by omega)
      have hge : ¬ ((492 * k : Nat) : Int) < (n : Int) := by omega
      gi_wp2
      go_end0
      exact ⟨⟨_, rfl⟩, .inl ⟨pre, (by rw [hkq.out] at hpre; exact hpre), hJs⟩⟩

theorem chunk_stops (m : Nat) (hm : 1 ≤ m) (Bs Bn b o n c q : Nat) (hn0 : 1 ≤ n) (hn : n ≤ 8364) (hc : n ≤ c) (hq : q = (n + 491) / 492) (w : World)
    (hBs : w.heap[Bs]? = some (.cells #[.slice (some ⟨b, o, none⟩) n c] 27 (0, 0))) (hBn : w.heap[Bn]? = some (.cells #[.int .i64 492] 3 (0, 0))) :
    SeqStopsK Fence.wide m Try.prog 52 #[.pointer (some ⟨Bs, 0, none⟩), .pointer (some ⟨Bn, 0, none⟩)] (encC b o n q) (KpC Bs Bn) (fun ys => InO ys q) (fun pre => ∃ k, k < q ∧ InO pre (k + 1)) q w :=
  fun l J Jx W hW hJ _ hY h0 => chunk1_in m hm l Bs Bn b o n c q hn0 hn hc hq J Jx hY W ((hW.block _ (lt_there hBs)).trans hBs) ((hW.block _ (lt_there hBn)).trans hBn) hJ h0

/-- Blocks of cells. -/
def IsC (w : World) (k : Nat) : Prop := ∃ cur t fz, w.heap[k]? = some (Obj.cells cur t fz)
theorem IsC.lt {w : World} {k : Nat} (h : IsC w k) : k < w.heap.size := by obtain ⟨_, _, _, h⟩ := h; exact lt_there h
theorem Rows'.narrow {w : World} {F G : Nat → Prop} {gi : Nat} (hG : ∀ k, F k → IsC w k → G k) : ∀ {xs : List Value} {ls : List (List Int)}, Rows' w F gi xs ls → Rows' w G gi xs ls
  | [], [], _ => trivial
  | _ :: _, _ :: _, ⟨⟨g, c, h1, h2, h3, h4⟩, h5⟩ => ⟨⟨g, c, h1, hG g h2 (by obtain ⟨cur, hb, _⟩ := h4; exact ⟨cur, _, _, hb⟩), h3, h4⟩, Rows'.narrow hG h5⟩
  | [], _ :: _, h => h.elim
  | _ :: _, [], h => h.elim
theorem DiskM.narrow {w : World} {F G : Nat → Prop} {p s : Nat} {S : DS} {m : Nat} (h : DiskM w F p s S m) (hG : ∀ k, F k → (IsC w k ∨ k = m) → G k) (hl : ∀ k, G k → k < w.heap.size) : DiskM w G p s S m := by
  obtain ⟨gi, ci, D, gr, cr, h1, h2, h3, h4, h5, h6, h7, h8, h9⟩ := h
  refine ⟨gi, ci, D, gr, cr, hG _ h1 (.inl ⟨_, _, _, h5⟩), hG _ h2 (.inl (by obtain ⟨cur, hb, _⟩ := h6; exact ⟨cur, _, _, hb⟩)), hG _ h3 (.inr rfl), hl, h5, h6, h7, ⟨h8.keys, h8.nope, h8.look, fun k hk => ?_, h8.inj⟩, h9⟩
  obtain ⟨h1, xs, h2, h3⟩ := h8.row k hk
  exact ⟨hG _ h1 (.inl (by obtain ⟨cur, hb, _⟩ := h2; exact ⟨cur, _, _, hb⟩)), xs, h2, h3.narrow (fun k hk hc => hG k hk (.inl hc))⟩
theorem DiskRM.narrow {w : World} {F G : Nat → Prop} {p s : Nat} {S : DS} {m : Nat} (h : DiskRM w F p s S m) (hG : ∀ k, F k → (IsC w k ∨ k = m) → G k) (hl : ∀ k, G k → k < w.heap.size) : DiskRM w G p s S m := by
  obtain ⟨r, h⟩ := h
  exact ⟨r, h.narrow hG hl⟩
theorem DiskRM.fm {w : World} {F : Nat → Prop} {p s : Nat} {S : DS} {m : Nat} (h : DiskRM w F p s S m) : F m := by
  obtain ⟨r, gi, ci, D, gr, cr, h⟩ := h
  exact h.fm
/-- The blocks of a disk while a loop goes on that began at B: those of before, and cells since. -/
def FC (F : Nat → Prop) (B m : Nat) (w : World) (k : Nat) : Prop := (F k ∨ B ≤ k) ∧ (IsC w k ∨ k = m) ∧ k < w.heap.size
theorem DiskRM.fc {w0 w w' : World} {F : Nat → Prop} {B p s : Nat} {S : DS} {m : Nat} (h : DiskRM w' (more (FC F B m w) w w') p s S m) (hB : B ≤ w.heap.size) (_h0 : w0 = w0) : DiskRM w' (FC F B m w') p s S m :=
  h.narrow (fun k hk hc => ⟨by
    rcases hk with hk | hk
    · exact hk.1
    · exact .inr (by omega), hc, h.r.lt k hk⟩) (fun _ hk => hk.2.2)
end Go.Proofs.Ythdgndbmecnimaa
end

section
namespace Go.Proofs.Ythdgndbmecnimaa
open Go.RowKit

theorem results_cell1 {fn : Func} {p : Tmp} (h : fn.results = #[.cell p 29]) (tmps : Array Value) (w : World) (g : Nat) (v : Int)
    (hp : tmps.getD p undef = .pointer (some ⟨g, 0, none⟩)) (hv : w.cell? ⟨g, 0, none⟩ = some (.int .i64 v)) : (results fn tmps).run Try.prog w = .ok (.int .i64 v) w := by
  have hp' : tmps[p]?.getD undef = .pointer (some ⟨g, 0, none⟩) := by simpa using hp
  have h2 : (loadVar 29 ⟨g, 0, none⟩).run Try.prog w = .ok (.int .i64 v) w := by simp [go_sem, hv]
  simp [results, h, hp', asAddr, h2]

/-- The k-th piece of a record. -/
def partOf (d : List Int) (k : Nat) : List Int := (d.drop (492 * k)).take 492
theorem partOf_len (d : List Int) (k : Nat) : (partOf d k).length = chLen d.length k := by
  unfold partOf chLen
  simp
def cntOf (x : Nat) : Nat := (x + 491) / 492
/-- The laying of the first k pieces. -/
def appTo (L : LG) (S : DS) (s : Nat) (d : List Int) (k : Nat) : Int × DS := stepsTo S (fun j T => aput T s L.f L.n L.ep (L.head + j) j (cntOf d.length) (partOf d j)) k
/-- What stands against an append. -/
def LG.refuses (L : LG) (S : DS) (x : Nat) : Int :=
  if L.unready S ≠ 0 then L.unready S else if x = 0 then 2 else if 8364 < x then 7 else if 1073741824 < L.head + cntOf x then 41 else if L.tail + L.n < L.head + cntOf x then 40 else 0
def LG.append (L : LG) (S : DS) (s : Nat) (d : List Int) : Int × DS × LG :=
  if L.refuses S d.length ≠ 0 then (L.refuses S d.length, S, L)
  else if (appTo L S s d (cntOf d.length)).1 ≠ 0 then ((appTo L S s d (cntOf d.length)).1, (appTo L S s d (cntOf d.length)).2, L)
  else (0, (appTo L S s d (cntOf d.length)).2, { L with head := L.head + cntOf d.length })

section
variable {w : World} {F : Nat → Prop} {p s l : Nat} {S : DS} {L : LG}

/-- The two boxes of Append. -/
def AppBox (W : World) (b l : Nat) : Prop := W.heap[b]? = some (.cells #[.pointer (some ⟨l, 0, none⟩)] 24 (0, 0)) ∧ W.heap[b + 1]? = some (.cells #[.int .i64 0] 29 (0, 0))
theorem AppBox.err {W : World} {b l : Nat} (h : AppBox W b l) (v : Int) : (W.setCell ⟨b + 1, 0, none⟩ (.int .i64 v)).cell? ⟨b + 1, 0, none⟩ = some (.int .i64 v) :=
  cell_of_block (cur := #[.int .i64 v]) (e := 29) ((heap_setCell_same _ _ 0 _ _ _ h.2).trans (by simp)) (j := 0) rfl
theorem AppBox.later {W W' : World} {b l : Nat} (h : AppBox W b l) (hb : Below W.heap.size W W') : AppBox W' b l := ⟨(hb.block _ (lt_there h.1)).trans h.1, (hb.block _ (lt_there h.2)).trans h.2⟩

set_option maxRecDepth 20000 in
set_option maxHeartbeats 8000000 in
theorem Append_no (h : DiskR w F p s S) (hl : LogP w l p L) (hk : L.Ok s) (a : Option Addr) (x k : Nat) (hx : x ≤ 140737488355328) (hr : L.refuses S x ≠ 0) :
    Calls Try.prog 7 #[.pointer (some ⟨l, 0, none⟩), .slice a x k] w fun e w' => e = .returned (.int .i64 (L.refuses S x)) ∧ Below w.heap.size w w' := by
  obtain ⟨W0, hW0⟩ : ∃ W0, (w.alloc (.cells #[.pointer (some ⟨l, 0, none⟩)] 24)).alloc (.cells #[.int .i64 0] 29) = W0 := ⟨_, rfl⟩
  have hb0 : Below w.heap.size w W0 := by rw [← hW0]; exact below_two _ _ _
  have hq0 : AppBox W0 w.heap.size l := by
    rw [← hW0]
    refine ⟨(Below.heap_alloc _ _ _ (by simp)).trans (heap_alloc_new _ _), ?_⟩
    have := heap_alloc_new (w.alloc (.cells #[.pointer (some ⟨l, 0, none⟩)] 24)) (.cells #[.int .i64 0] 29)
    rwa [World.size_alloc] at this
  have h1 := unready_any (h.later hb0) (hl.later hb0)
  have hsz := hl.lt
  have HW := Hid.mk hW0
  have HQ := Hid.mk hq0
  have HB := Hid.mk hb0
  have HL := Hid.mk (hl.later hb0)
  have hhi := hk.hi
  have HO := Hid.mk hk
  unfold LG.refuses at hr ⊢
  clear h hl hb0 hq0 hW0 hk
  by_cases k0 : L.unready S = 0
  · simp only [if_neg (fun h : ¬ L.unready S = 0 => h k0)] at hr ⊢
    rw [k0] at h1
    clear k0
    by_cases k1 : x = 0
    · simp only [if_pos k1]
      have d1 : ((x : Int) == 0) = true := by rw [beq_iff_eq]; omega
      clear hr k1
      go_enter Try.func7, Try.ntmps7
      go_wp2_with fail
      rw [HW.out]
      refine h1.mono ?_
      rintro e w1 ⟨rfl, hb1⟩
      have hq1 := AppBox.later HQ.out hb1
      have b0 : w1.cell? ⟨w.heap.size, 0, none⟩ = some (.pointer (some ⟨l, 0, none⟩)) := cell_of_block hq1.1 (j := 0) rfl
      have b1 : w1.cell? ⟨w.heap.size + 1, 0, none⟩ = some (.int .i64 0) := cell_of_block hq1.2 (j := 0) rfl
      have f1 : w1.frozen? ⟨w.heap.size + 1, 0, none⟩ = false := frozen_of_block hq1.2 0
      have hl1 := HL.out.later hb1
      have hB1 := HB.out.trans (hb1.mono HB.out.size)
      have h2 := fun wx => sectorsOf_any x wx hx
      clear h1 hb1
      go_wp2_with fail
      refine (h2 _).mono ?_
      rintro e w2 ⟨rfl, hw2⟩
      have hw3 := hw2.symm
      subst hw3
      clear h2 hw2
      have HZ := Hid.mk (hB1.setCell (p := ⟨w.heap.size + 1, 0, none⟩) (by show _ ≤ w.heap.size + 1; omega) (.int .i64 2))
      have HV := Hid.mk (show (w1.setCell ⟨w.heap.size + 1, 0, none⟩ (.int .i64 2)).cell? ⟨w.heap.size + 1, 0, none⟩ = some (.int .i64 2) from hq1.err _)
      clear hB1 hq1 hl1
      go_wp2_with fail
      exact bodyPost_ret (results_cell1 rfl _ _ (w.heap.size + 1) _ rfl HV.out) rfl ⟨rfl, HZ.out⟩
    · simp only [if_neg k1] at hr ⊢
      have d1 : ((x : Int) == 0) = false := by rw [beq_eq_false_iff_ne]; omega
      clear k1
      by_cases k2 : 8364 < x
      · simp only [if_pos k2]
        have d2 : (8364 : Int) < (x : Int) := by omega
        clear hr k2
        go_enter Try.func7, Try.ntmps7
        go_wp2_with fail
        rw [HW.out]
        refine h1.mono ?_
        rintro e w1 ⟨rfl, hb1⟩
        have hq1 := AppBox.later HQ.out hb1
        have b0 : w1.cell? ⟨w.heap.size, 0, none⟩ = some (.pointer (some ⟨l, 0, none⟩)) := cell_of_block hq1.1 (j := 0) rfl
        have b1 : w1.cell? ⟨w.heap.size + 1, 0, none⟩ = some (.int .i64 0) := cell_of_block hq1.2 (j := 0) rfl
        have f1 : w1.frozen? ⟨w.heap.size + 1, 0, none⟩ = false := frozen_of_block hq1.2 0
        have hl1 := HL.out.later hb1
        have hB1 := HB.out.trans (hb1.mono HB.out.size)
        have h2 := fun wx => sectorsOf_any x wx hx
        clear h1 hb1
        go_wp2_with fail
        refine (h2 _).mono ?_
        rintro e w2 ⟨rfl, hw2⟩
        have hw3 := hw2.symm
        subst hw3
        clear h2 hw2
        have HZ := Hid.mk (hB1.setCell (p := ⟨w.heap.size + 1, 0, none⟩) (by show _ ≤ w.heap.size + 1; omega) (.int .i64 7))
        have HV := Hid.mk (show (w1.setCell ⟨w.heap.size + 1, 0, none⟩ (.int .i64 7)).cell? ⟨w.heap.size + 1, 0, none⟩ = some (.int .i64 7) from hq1.err _)
        clear hB1 hq1 hl1
        go_wp2_with fail
        exact bodyPost_ret (results_cell1 rfl _ _ (w.heap.size + 1) _ rfl HV.out) rfl ⟨rfl, HZ.out⟩
      · simp only [if_neg k2] at hr ⊢
        have d2 : ¬ (8364 : Int) < (x : Int) := by omega
        clear k2
        have hcc : cntOf x = (x + 491) / 492 := rfl
        by_cases k3 : 1073741824 < L.head + cntOf x
        · simp only [if_pos k3]
          clear hr
          obtain ⟨C, hC⟩ : ∃ C, C = (x + 491) / 492 := ⟨_, rfl⟩
          have hC2 : C ≤ 17 := by omega
          have d3 : (1073741824 : Int) < (L.head : Int) + (C : Int) := by omega
          have HC := Hid.mk hC
          clear k3 hcc hC
          go_enter Try.func7, Try.ntmps7
          go_wp2_with fail
          rw [HW.out]
          refine h1.mono ?_
          rintro e w1 ⟨rfl, hb1⟩
          have hq1 := AppBox.later HQ.out hb1
          have b0 : w1.cell? ⟨w.heap.size, 0, none⟩ = some (.pointer (some ⟨l, 0, none⟩)) := cell_of_block hq1.1 (j := 0) rfl
          have b1 : w1.cell? ⟨w.heap.size + 1, 0, none⟩ = some (.int .i64 0) := cell_of_block hq1.2 (j := 0) rfl
          have f1 : w1.frozen? ⟨w.heap.size + 1, 0, none⟩ = false := frozen_of_block hq1.2 0
          have hl1 := HL.out.later hb1
          have hB1 := HB.out.trans (hb1.mono HB.out.size)
          have c7 := hl1.c7
          have h2 := fun wx => sectorsOf_any x wx hx
          clear h1 hb1
          go_wp2_with fail
          refine (h2 _).mono ?_
          rintro e w2 ⟨rfl, hw2⟩
          have hw3 := hw2.symm
          subst hw3
          clear h2 hw2
          rw [← HC.out]
          have HZ := Hid.mk (hB1.setCell (p := ⟨w.heap.size + 1, 0, none⟩) (by show _ ≤ w.heap.size + 1; omega) (.int .i64 41))
          have HV := Hid.mk (show (w1.setCell ⟨w.heap.size + 1, 0, none⟩ (.int .i64 41)).cell? ⟨w.heap.size + 1, 0, none⟩ = some (.int .i64 41) from hq1.err _)
          clear hB1 hq1 hl1
          go_wp2_with fail
          exact bodyPost_ret (results_cell1 rfl _ _ (w.heap.size + 1) _ rfl HV.out) rfl ⟨rfl, HZ.out⟩
        · simp only [if_neg k3] at hr ⊢
          by_cases k4 : L.tail + L.n < L.head + cntOf x
          · simp only [if_pos k4]
            clear hr
            obtain ⟨C, hC⟩ : ∃ C, C = (x + 491) / 492 := ⟨_, rfl⟩
            have hC2 : C ≤ 17 := by omega
            have d3 : ¬ (1073741824 : Int) < (L.head : Int) + (C : Int) := by omega
            have d4 : (L.n : Int) - ((L.head : Int) - (L.tail : Int)) < (C : Int) := by omega
            have HC := Hid.mk hC
            clear k3 k4 hcc hC
            go_enter Try.func7, Try.ntmps7
            go_wp2_with fail
            rw [HW.out]
            refine h1.mono ?_
            rintro e w1 ⟨rfl, hb1⟩
            have hq1 := AppBox.later HQ.out hb1
            have b0 : w1.cell? ⟨w.heap.size, 0, none⟩ = some (.pointer (some ⟨l, 0, none⟩)) := cell_of_block hq1.1 (j := 0) rfl
            have b1 : w1.cell? ⟨w.heap.size + 1, 0, none⟩ = some (.int .i64 0) := cell_of_block hq1.2 (j := 0) rfl
            have f1 : w1.frozen? ⟨w.heap.size + 1, 0, none⟩ = false := frozen_of_block hq1.2 0
            have hl1 := HL.out.later hb1
            have hB1 := HB.out.trans (hb1.mono HB.out.size)
            have c7 := hl1.c7
            have h3 := room_any hl1 HO.out
            have h2 := fun wx => sectorsOf_any x wx hx
            clear h1 hb1
            go_wp2_with fail
            refine (h2 _).mono ?_
            rintro e w2 ⟨rfl, hw2⟩
            have hw3 := hw2.symm
            subst hw3
            clear h2 hw2
            rw [← HC.out]
            have HB1 := Hid.mk hB1
            have HQ1 := Hid.mk hq1
            clear hB1 hq1
            go_wp2_with fail
            refine h3.mono ?_
            rintro e w2 ⟨rfl, hb2⟩
            have hq2 := AppBox.later HQ1.out hb2
            have hB2 := HB1.out.trans (hb2.mono HB1.out.size)
            have b2 : w2.cell? ⟨w.heap.size + 1, 0, none⟩ = some (.int .i64 0) := cell_of_block hq2.2 (j := 0) rfl
            have f2 : w2.frozen? ⟨w.heap.size + 1, 0, none⟩ = false := frozen_of_block hq2.2 0
            clear h3 hb2
            have HZ := Hid.mk (hB2.setCell (p := ⟨w.heap.size + 1, 0, none⟩) (by show _ ≤ w.heap.size + 1; omega) (.int .i64 40))
            have HV := Hid.mk (show (w2.setCell ⟨w.heap.size + 1, 0, none⟩ (.int .i64 40)).cell? ⟨w.heap.size + 1, 0, none⟩ = some (.int .i64 40) from hq2.err _)
            clear hB2 hq2 hl1
            go_wp2_with fail
            exact bodyPost_ret (results_cell1 rfl _ _ (w.heap.size + 1) _ rfl HV.out) rfl ⟨rfl, HZ.out⟩
          · exact absurd (if_neg k4) hr
  · simp only [if_pos (fun h => k0 h : ¬ L.unready S = 0)]
    have d0 : (L.unready S == 0) = false := by rw [beq_eq_false_iff_ne]; exact k0
    clear hr k0
    go_enter Try.func7, Try.ntmps7
    go_wp2_with fail
    rw [HW.out]
    refine h1.mono ?_
    rintro e w1 ⟨rfl, hb1⟩
    have hq1 := AppBox.later HQ.out hb1
    have b0 : w1.cell? ⟨w.heap.size, 0, none⟩ = some (.pointer (some ⟨l, 0, none⟩)) := cell_of_block hq1.1 (j := 0) rfl
    have b1 : w1.cell? ⟨w.heap.size + 1, 0, none⟩ = some (.int .i64 0) := cell_of_block hq1.2 (j := 0) rfl
    have f1 : w1.frozen? ⟨w.heap.size + 1, 0, none⟩ = false := frozen_of_block hq1.2 0
    have hl1 := HL.out.later hb1
    have hB1 := HB.out.trans (hb1.mono HB.out.size)
    have HZ := Hid.mk (hB1.setCell (p := ⟨w.heap.size + 1, 0, none⟩) (by show _ ≤ w.heap.size + 1; omega) (.int .i64 (L.unready S)))
    have HV := Hid.mk (show (w1.setCell ⟨w.heap.size + 1, 0, none⟩ (.int .i64 (L.unready S))).cell? ⟨w.heap.size + 1, 0, none⟩ = some (.int .i64 (L.unready S)) from hq1.err _)
    clear hB1 hq1 hl1
    go_wp2_with fail
    exact bodyPost_ret (results_cell1 rfl _ _ (w.heap.size + 1) _ rfl HV.out) rfl ⟨rfl, HZ.out⟩
end
end Go.Proofs.Ythdgndbmecnimaa
end

section
namespace Go.Proofs.Ythdgndbmecnimaa
open Go.RowKit

theorem stepsTo_congr {S : DS} {g g' : Nat → DS → Int × DS} : ∀ k, (∀ j T, j < k → g j T = g' j T) → stepsTo S g k = stepsTo S g' k
  | 0, _ => rfl
  | k + 1, h => by
    have ih := stepsTo_congr (S := S) k (fun j T hj => h j T (by omega))
    rw [stepsTo, stepsTo, ih, h k _ (by omega)]
/-- The laying of pieces as they come. -/
def appL (L : LG) (S : DS) (s : Nat) (d : List Int) (xs : List Nat) : Int × DS := stepsTo S (fun j T => aput T s L.f L.n L.ep (L.head + j) j (cntOf d.length) (partOf d (xs.getD j 0))) xs.length
theorem appL_snoc {L : LG} {S : DS} {s : Nat} {d : List Int} {xs : List Nat} (x : Nat) (h : (appL L S s d xs).1 = 0) :
    appL L S s d (xs ++ [x]) = aput (appL L S s d xs).2 s L.f L.n L.ep (L.head + xs.length) xs.length (cntOf d.length) (partOf d x) := by
  have e : stepsTo S (fun j T => aput T s L.f L.n L.ep (L.head + j) j (cntOf d.length) (partOf d ((xs ++ [x]).getD j 0))) xs.length = appL L S s d xs := by
    unfold appL
    refine stepsTo_congr _ (fun j T hj => ?_)
    rw [show (xs ++ [x]).getD j 0 = xs.getD j 0 by simp [List.getElem?_append_left hj]]
  unfold appL at *
  rw [List.length_append, List.length_singleton, stepsTo_ok (by rw [e]; exact h), e]
  simp
theorem appL_range {L : LG} {S : DS} {s : Nat} {d : List Int} (k : Nat) : appL L S s d (List.range k) = appTo L S s d k := by
  unfold appL appTo
  rw [List.length_range]
  refine stepsTo_congr _ (fun j T hj => ?_)
  rw [show (List.range k).getD j 0 = j by simp [hj]]
theorem aput_puts (S : DS) (s f n E P i c : Nat) (l : List Int) : (aput S s f n E P i c l).2.puts.length ≤ S.puts.length + 1 := by
  unfold aput
  split
  · simp
  · exact wr_puts _ _ _ _ _
theorem appL_puts (L : LG) (S : DS) (s : Nat) (d : List Int) (xs : List Nat) : (appL L S s d xs).2.puts.length ≤ S.puts.length + xs.length := stepsTo_puts (fun _ _ => aput_puts _ _ _ _ _ _ _ _ _) _

/-- What holds between the rounds of Append. -/
structure AppI (w W : World) (F : Nat → Prop) (l p s m M n0 : Nat) (L : LG) (S : DS) (d : List Int) (xs : List Nat) : Prop where
  ok : (appL L S s d xs).1 = 0
  dk : DiskRM W (FC F n0 m W) p s (appL L S s d xs).2 m
  mrk : W.heap[M]? = some (.cells #[.int .i64 (L.ep : Int), .int .i64 ((L.head + xs.length : Nat) : Int), .int .i64 ((xs.length : Nat) : Int), .int .i64 ((cntOf d.length : Nat) : Int)] 68 (0, 0))
  bx : AppBox W w.heap.size l
  kp : Keeps F w W
  sz : n0 ≤ W.heap.size
/-- What holds behind a round that is refused. -/
structure AppX (w W : World) (F : Nat → Prop) (p s m n0 : Nat) (L : LG) (S : DS) (d : List Int) (xs : List Nat) : Prop where
  no : (appL L S s d xs).1 ≠ 0
  dk : DiskRM W (FC F n0 m W) p s (appL L S s d xs).2 m
  er : W.heap[w.heap.size + 1]? = some (.cells #[.int .i64 (appL L S s d xs).1] 29 (0, 0))
  kp : Keeps F w W
  sz : n0 ≤ W.heap.size

theorem DiskRM.carry {W W' : World} {F : Nat → Prop} {p s m n0 : Nat} {S : DS} (h : DiskRM W (FC F n0 m W) p s S m) (hc : CellsIn W W') (hm : W'.heap[m]? = W.heap[m]?) (hz : W.heap.size ≤ W'.heap.size) : DiskRM W' (FC F n0 m W') p s S m := by
  obtain ⟨r, h⟩ := h
  refine ⟨r, (h.agree hz (fun k hk => ?_)).mono (fun k hk => ⟨hk.1, ?_, by have := hk.2.2; omega⟩) (fun _ hk => hk.2.2)⟩
  · rcases hk.2.1 with ⟨cur, t, fz, hb⟩ | rfl
    · rw [hc _ _ _ _ hb, hb]
    · exact hm
  · rcases hk.2.1 with ⟨cur, t, fz, hb⟩ | h
    · exact .inl ⟨cur, t, fz, hc _ _ _ _ hb⟩
    · exact .inr h
theorem Keeps.grown {w W W' : World} {F : Nat → Prop} {row : Option Nat} (h : Keeps F w W) (hg : W.grownBy W' row) (hr : ∀ r, row = some r → w.heap.size ≤ r) : Keeps F w W' :=
  h.trans (G := fun k => some k = row) ⟨hg.os, hg.tape, hg.output, hg.size, fun k hk hn => hg.block k hk hn⟩ (fun k hk => .inr (hr k hk.symm))
section
variable {w W W' : World} {F : Nat → Prop} {l p s m M n0 : Nat} {L : LG} {S : DS} {d : List Int} {xs : List Nat}
theorem AppI.step (h : AppI w W F l p s m M n0 L S d xs) (hc : CellsIn W W') (hm : W'.heap[m]? = W.heap[m]?) (hz : W.heap.size ≤ W'.heap.size) (hk : Keeps F w W') : AppI w W' F l p s m M n0 L S d xs :=
  ⟨h.ok, h.dk.carry hc hm hz, hc _ _ _ _ h.mrk, ⟨hc _ _ _ _ h.bx.1, hc _ _ _ _ h.bx.2⟩, hk, Nat.le_trans h.sz hz⟩
theorem AppX.step (h : AppX w W F p s m n0 L S d xs) (hc : CellsIn W W') (hm : W'.heap[m]? = W.heap[m]?) (hz : W.heap.size ≤ W'.heap.size) (hk : Keeps F w W') : AppX w W' F p s m n0 L S d xs :=
  ⟨h.no, h.dk.carry hc hm hz, hc _ _ _ _ h.er, hk, Nat.le_trans h.sz hz⟩
theorem fc_lt_m (h : DiskRM W (FC F n0 m W) p s S m) : m < W.heap.size := h.fm.2.2
theorem AppI.grown {row : Option Nat} (h : AppI w W F l p s m M n0 L S d xs) (hm : m < n0) (hw : w.heap.size ≤ n0) (hg : W.grownBy W' row) (hr : ∀ r, row = some r → n0 ≤ r ∧ ∃ o : Obj, W.heap[r]? = some o ∧ o.isCells = false) : AppI w W' F l p s m M n0 L S d xs :=
  h.step (cellsIn_grown hg (fun r e => (hr r e).2)) (hg.block m (fc_lt_m h.dk) (fun e => by have := (hr m e.symm).1; omega)) hg.size (h.kp.grown hg (fun r e => by have := (hr r e).1; omega))
theorem AppX.grown {row : Option Nat} (h : AppX w W F p s m n0 L S d xs) (hm : m < n0) (hw : w.heap.size ≤ n0) (hg : W.grownBy W' row) (hr : ∀ r, row = some r → n0 ≤ r ∧ ∃ o : Obj, W.heap[r]? = some o ∧ o.isCells = false) : AppX w W' F p s m n0 L S d xs :=
  h.step (cellsIn_grown hg (fun r e => (hr r e).2)) (hg.block m (fc_lt_m h.dk) (fun e => by have := (hr m e.symm).1; omega)) hg.size (h.kp.grown hg (fun r e => by have := (hr r e).1; omega))
end
end Go.Proofs.Ythdgndbmecnimaa
end
