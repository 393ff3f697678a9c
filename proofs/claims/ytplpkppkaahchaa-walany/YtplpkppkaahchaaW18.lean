import Derived.Test.YtplpkppkaahchaaW17
section
namespace Go.Proofs.Ytplpkppkaahchaa.B
open Go.RowKit

/-- How often Open may read. -/
def oRd (S : DS) (s : Nat) (f n : Int) : Nat := if lrefuse S s f n ≠ 0 then 0 else n.toNat + 2

section
variable {w : World} {F : Nat → Prop} {p s cR : Nat} {S : DS}

set_option maxRecDepth 20000 in
set_option maxHeartbeats 8000000 in
theorem Open_any (h : DiskR w F p s S cR) (hby : S.Byt) (f n : Int) (hbig : S.puts.length + 500 ≤ 4000000000000) :
    Calls Try.prog 13 #[.pointer (some ⟨p, 0, none⟩), .int .i64 f, .int .i64 n] w fun e w' => Opened w w' p s S f n e ∧ DiskR w' F p s (lopen S s f n).2 (cR + oRd S s f n) ∧ Keeps F w w' := by
  have HL := Hid.mk h.lt
  have hFb : ¬ F w.heap.size := fun h1 => by have := h.lt _ h1; omega
  have HB := Hid.mk (below_box w (.cells #[.pointer (some ⟨p, 0, none⟩), .int .i64 f, .int .i64 n] 64))
  have hx0 : (w.alloc (.cells #[.pointer (some ⟨p, 0, none⟩), .int .i64 f, .int .i64 n] 64)).heap[w.heap.size]? = some (.cells #[.pointer (some ⟨p, 0, none⟩), .int .i64 f, .int .i64 n] 64 (0, 0)) := heap_alloc_new _ _
  have hd0 := h.boxed (.cells #[.pointer (some ⟨p, 0, none⟩), .int .i64 f, .int .i64 n] 64)
  have h1 := drefusal hd0 f n
  have HX := Hid.mk hx0
  have HD := Hid.mk hd0
  have HFb := Hid.mk hFb
  clear hx0 hd0 hFb
  unfold Opened lopen oRd
  by_cases q : lrefuse S s f n = 0
  · simp only [if_neg (fun h : ¬ lrefuse S s f n = 0 => h q)]
    obtain ⟨hf0, a, b, rfl, rfl, hab, hb1, hb2⟩ := lrefuse_zero q
    rw [q] at h1
    simp only [Int.toNat_natCast]
    have H3 := Hid.mk (fun (w2 : World) (l : Nat) (hd2 : DiskR w2 F p s S.take cR) (hl : LogP w2 l p (LG.new S a b)) (hFl : ¬ F l) => (recall_any hd2 hl hFl hby.take hab (by show 1 ≤ b; omega) hb2 hf0 (by show S.puts.length + 1 ≤ _; omega)).mono (fun e w' h => And.intro h.1.took (And.intro (show DiskR w' F p s S.take (cR + 2 + b) from h.2.1) h.2.2)))
    clear q h
    by_cases k0 : (oNew S a).2.2 = 0
    · have HK0 := Hid.mk k0
      simp only [if_neg (fun h : ¬ (oNew S a).2.2 = 0 => h k0)]
      clear k0
      by_cases k1 : oTop S a b = 1073741824
      · have HK1 := Hid.mk k1
        simp only [if_pos k1]
        simp only [if_pos (show (41 : Int) ≠ 0 by decide)]
        clear k1
        go_enter Try.func13, Try.ntmps13
        go_wp2_with fail
        refine h1.mono ?_
        rintro e w1 ⟨rfl, hb⟩
        have hx1 : w1.heap[w.heap.size]? = _ := (hb.block _ (by simp)).trans HX.out
        have c0 := cell_of_block hx1 (j := 0) rfl
        have c1 := cell_of_block hx1 (j := 1) rfl
        have c2 := cell_of_block hx1 (j := 2) rfl
        have h2 := dtake (HD.out.later (hb.trans (below_drew (Below.refl w1.heap.size w1) |>.mono hb.size)))
        have HB1 := Hid.mk (HB.out.trans (hb.mono (by simp)))
        have HX1 := Hid.mk hx1
        clear h1 hb hx1
        go_wp2_with fail
        go_region_held3 (fun w' => w'.cell? ⟨w.heap.size, 0, none⟩ = some (.pointer (some ⟨p, 0, none⟩)) ∧ w'.cell? ⟨w.heap.size, 1, none⟩ = some (.int .i64 (a : Int)) ∧ w'.cell? ⟨w.heap.size, 2, none⟩ = some (.int .i64 (b : Int)))
          (first | exact ⟨c0, c1, c2⟩ | exact ⟨cell_of_block hx2 (j := 0) rfl, cell_of_block hx2 (j := 1) rfl, cell_of_block hx2 (j := 2) rfl⟩ | exact ⟨cell_of_block (hx3 _) (j := 0) rfl, cell_of_block (hx3 _) (j := 1) rfl, cell_of_block (hx3 _) (j := 2) rfl⟩)
          ((go_at_call 41; refine h2.mono ?_; rintro e w2 ⟨rfl, hd2, hk2⟩; have hx2 := box_after (w := w1.drew) HX1.out hk2 HFb.out; have hx3 := fun o => (below_box w2 o).block _ (lt_there hx2) |>.trans hx2))
        have hz1 : w.heap.size < w1.heap.size := by have := HB1.out.size; have := lt_there HX1.out; omega
        have hz2 : w1.heap.size ≤ w2.heap.size := hk2.size
        have hl2 : LogP (w2.alloc (.cells (lgC p (LG.new S a b)) 66)) w2.heap.size p (LG.new S a b) := heap_alloc_new _ _
        have HFl := Hid.mk (fun h : F w2.heap.size => by have := HL.out _ h; omega : ¬ F w2.heap.size)
        have hkw : Keeps F w (w2.alloc (.cells (lgC p (LG.new S a b)) 66)) := ((Keeps.of_below F (below_drew HB1.out)).trans hk2 (fun _ h => .inl h)).trans (Keeps.boxed F _) (fun _ h => .inl h)
        have h3 := H3.out _ w2.heap.size (hd2.boxed (.cells (lgC p (LG.new S a b)) 66)) hl2 HFl.out
        have HKw := Hid.mk hkw
        clear h2 hd2 hk2 hx2 hx3 hl2 hkw
        go_wp2_with fail
        refine h3.mono ?_
        rintro e w3 ⟨h4, hd3, hk3⟩
        rw [if_neg (fun h => h HK0.out), if_pos HK1.out] at h4
        subst h4
        have HZ := Hid.mk (And.intro (hd3.le (by omega : cR + 2 + b ≤ cR + (b + 2))) (HKw.out.trans hk3 (fun k h => h.elim .inl (fun e => .inr (by omega)))))
        clear h3 hd3 hk3
        go_wp2_with fail
        go_ret3
        exact ⟨rfl, HZ.out⟩
      · have HK1 := Hid.mk k1
        simp only [if_neg k1]
        clear k1
        have H5 := Hid.mk (fun (w3 : World) (hd3 : DiskR w3 F p s S.take (cR + 2 + b)) => dflush hd3 (by show S.puts.length + 1 ≤ _; omega))
        generalize S.take.fl s = Y at *
        by_cases k : Y.1 = 0
        · simp only [if_neg (fun h : ¬ Y.1 = 0 => h k)]
          have d : (Y.1 == 0) = true := by rw [beq_iff_eq]; exact k
          clear k
          go_enter Try.func13, Try.ntmps13
          go_wp2_with fail
          refine h1.mono ?_
          rintro e w1 ⟨rfl, hb⟩
          have hx1 : w1.heap[w.heap.size]? = _ := (hb.block _ (by simp)).trans HX.out
          have c0 := cell_of_block hx1 (j := 0) rfl
          have c1 := cell_of_block hx1 (j := 1) rfl
          have c2 := cell_of_block hx1 (j := 2) rfl
          have h2 := dtake (HD.out.later (hb.trans (below_drew (Below.refl w1.heap.size w1) |>.mono hb.size)))
          have HB1 := Hid.mk (HB.out.trans (hb.mono (by simp)))
          have HX1 := Hid.mk hx1
          clear h1 hb hx1
          go_wp2_with fail
          go_region_held3 (fun w' => w'.cell? ⟨w.heap.size, 0, none⟩ = some (.pointer (some ⟨p, 0, none⟩)) ∧ w'.cell? ⟨w.heap.size, 1, none⟩ = some (.int .i64 (a : Int)) ∧ w'.cell? ⟨w.heap.size, 2, none⟩ = some (.int .i64 (b : Int)))
            (first | exact ⟨c0, c1, c2⟩ | exact ⟨cell_of_block hx2 (j := 0) rfl, cell_of_block hx2 (j := 1) rfl, cell_of_block hx2 (j := 2) rfl⟩ | exact ⟨cell_of_block (hx3 _) (j := 0) rfl, cell_of_block (hx3 _) (j := 1) rfl, cell_of_block (hx3 _) (j := 2) rfl⟩)
            ((go_at_call 41; refine h2.mono ?_; rintro e w2 ⟨rfl, hd2, hk2⟩; have hx2 := box_after (w := w1.drew) HX1.out hk2 HFb.out; have hx3 := fun o => (below_box w2 o).block _ (lt_there hx2) |>.trans hx2))
          have hz1 : w.heap.size < w1.heap.size := by have := HB1.out.size; have := lt_there HX1.out; omega
          have hz2 : w1.heap.size ≤ w2.heap.size := hk2.size
          have hl2 : LogP (w2.alloc (.cells (lgC p (LG.new S a b)) 66)) w2.heap.size p (LG.new S a b) := heap_alloc_new _ _
          have HFl := Hid.mk (fun h : F w2.heap.size => by have := HL.out _ h; omega : ¬ F w2.heap.size)
          have hkw : Keeps F w (w2.alloc (.cells (lgC p (LG.new S a b)) 66)) := ((Keeps.of_below F (below_drew HB1.out)).trans hk2 (fun _ h => .inl h)).trans (Keeps.boxed F _) (fun _ h => .inl h)
          have h3 := H3.out _ w2.heap.size (hd2.boxed (.cells (lgC p (LG.new S a b)) 66)) hl2 HFl.out
          have HKw := Hid.mk hkw
          clear h2 hd2 hk2 hx2 hx3 hl2 hkw
          go_wp2_with fail
          refine h3.mono ?_
          rintro e w3 ⟨h4, hd3, hk3⟩
          rw [if_neg (fun h => h HK0.out), if_neg HK1.out] at h4
          obtain ⟨v, rs, hd, rfl, ht⟩ := h4
          have h5 := H5.out w3 hd3
          have HT := Hid.mk ht
          have HK3 := Hid.mk (HKw.out.trans hk3 (fun k h => h.elim .inl (fun e => .inr (by omega))))
          have hzA : w.heap.size ≤ (w2.alloc (.cells (lgC p (LG.new S a b)) 66)).heap.size := by simp; omega
          clear h3 hd3 hk3 ht
          go_wp2_with fail
          refine h5.mono ?_
          rintro e w4 ⟨rfl, hd4, hk4⟩
          have HZ := Hid.mk (And.intro ((HT.out.low (B' := w.heap.size) hzA).keep hk4 (fun k hk => HL.out k hk) HFl.out) (And.intro (hd4.le (by omega : cR + 2 + b ≤ cR + (b + 2))) (HK3.out.trans hk4 (fun _ h => .inl h))))
          clear h5 hd4 hk4
          go_wp2_with fail
          go_ret3
          exact ⟨⟨_, _, _, _, rfl, by omega, HZ.out.1⟩, HZ.out.2⟩
        · simp only [if_pos (fun h => k h : ¬ Y.1 = 0)]
          have d : (Y.1 == 0) = false := by rw [beq_eq_false_iff_ne]; exact k
          clear k
          go_enter Try.func13, Try.ntmps13
          go_wp2_with fail
          refine h1.mono ?_
          rintro e w1 ⟨rfl, hb⟩
          have hx1 : w1.heap[w.heap.size]? = _ := (hb.block _ (by simp)).trans HX.out
          have c0 := cell_of_block hx1 (j := 0) rfl
          have c1 := cell_of_block hx1 (j := 1) rfl
          have c2 := cell_of_block hx1 (j := 2) rfl
          have h2 := dtake (HD.out.later (hb.trans (below_drew (Below.refl w1.heap.size w1) |>.mono hb.size)))
          have HB1 := Hid.mk (HB.out.trans (hb.mono (by simp)))
          have HX1 := Hid.mk hx1
          clear h1 hb hx1
          go_wp2_with fail
          go_region_held3 (fun w' => w'.cell? ⟨w.heap.size, 0, none⟩ = some (.pointer (some ⟨p, 0, none⟩)) ∧ w'.cell? ⟨w.heap.size, 1, none⟩ = some (.int .i64 (a : Int)) ∧ w'.cell? ⟨w.heap.size, 2, none⟩ = some (.int .i64 (b : Int)))
            (first | exact ⟨c0, c1, c2⟩ | exact ⟨cell_of_block hx2 (j := 0) rfl, cell_of_block hx2 (j := 1) rfl, cell_of_block hx2 (j := 2) rfl⟩ | exact ⟨cell_of_block (hx3 _) (j := 0) rfl, cell_of_block (hx3 _) (j := 1) rfl, cell_of_block (hx3 _) (j := 2) rfl⟩)
            ((go_at_call 41; refine h2.mono ?_; rintro e w2 ⟨rfl, hd2, hk2⟩; have hx2 := box_after (w := w1.drew) HX1.out hk2 HFb.out; have hx3 := fun o => (below_box w2 o).block _ (lt_there hx2) |>.trans hx2))
          have hz1 : w.heap.size < w1.heap.size := by have := HB1.out.size; have := lt_there HX1.out; omega
          have hz2 : w1.heap.size ≤ w2.heap.size := hk2.size
          have hl2 : LogP (w2.alloc (.cells (lgC p (LG.new S a b)) 66)) w2.heap.size p (LG.new S a b) := heap_alloc_new _ _
          have HFl := Hid.mk (fun h : F w2.heap.size => by have := HL.out _ h; omega : ¬ F w2.heap.size)
          have hkw : Keeps F w (w2.alloc (.cells (lgC p (LG.new S a b)) 66)) := ((Keeps.of_below F (below_drew HB1.out)).trans hk2 (fun _ h => .inl h)).trans (Keeps.boxed F _) (fun _ h => .inl h)
          have h3 := H3.out _ w2.heap.size (hd2.boxed (.cells (lgC p (LG.new S a b)) 66)) hl2 HFl.out
          have HKw := Hid.mk hkw
          clear h2 hd2 hk2 hx2 hx3 hl2 hkw
          go_wp2_with fail
          refine h3.mono ?_
          rintro e w3 ⟨h4, hd3, hk3⟩
          rw [if_neg (fun h => h HK0.out), if_neg HK1.out] at h4
          obtain ⟨v, rs, hd, rfl, ht⟩ := h4
          have h5 := H5.out w3 hd3
          have HK3 := Hid.mk (HKw.out.trans hk3 (fun k h => h.elim .inl (fun e => .inr (by omega))))
          clear h3 hd3 hk3 ht
          go_wp2_with fail
          refine h5.mono ?_
          rintro e w4 ⟨rfl, hd4, hk4⟩
          have HZ := Hid.mk (And.intro (hd4.le (by omega : cR + 2 + b ≤ cR + (b + 2))) (HK3.out.trans hk4 (fun _ h => .inl h)))
          clear h5 hd4 hk4
          go_wp2_with fail
          go_ret3
          exact ⟨rfl, HZ.out⟩
    · have HK0 := Hid.mk k0
      have d0 : (((oNew S a).2.2 : Int) == 0) = false := by rw [beq_eq_false_iff_ne]; omega
      simp only [if_pos (fun h => k0 h : ¬ (oNew S a).2.2 = 0)]
      simp only [if_pos (show (((oNew S a).2.2 : Nat) : Int) ≠ 0 by omega)]
      clear k0
      go_enter Try.func13, Try.ntmps13
      go_wp2_with fail
      refine h1.mono ?_
      rintro e w1 ⟨rfl, hb⟩
      have hx1 : w1.heap[w.heap.size]? = _ := (hb.block _ (by simp)).trans HX.out
      have c0 := cell_of_block hx1 (j := 0) rfl
      have c1 := cell_of_block hx1 (j := 1) rfl
      have c2 := cell_of_block hx1 (j := 2) rfl
      have h2 := dtake (HD.out.later (hb.trans (below_drew (Below.refl w1.heap.size w1) |>.mono hb.size)))
      have HB1 := Hid.mk (HB.out.trans (hb.mono (by simp)))
      have HX1 := Hid.mk hx1
      clear h1 hb hx1
      go_wp2_with fail
      go_region_held3 (fun w' => w'.cell? ⟨w.heap.size, 0, none⟩ = some (.pointer (some ⟨p, 0, none⟩)) ∧ w'.cell? ⟨w.heap.size, 1, none⟩ = some (.int .i64 (a : Int)) ∧ w'.cell? ⟨w.heap.size, 2, none⟩ = some (.int .i64 (b : Int)))
        (first | exact ⟨c0, c1, c2⟩ | exact ⟨cell_of_block hx2 (j := 0) rfl, cell_of_block hx2 (j := 1) rfl, cell_of_block hx2 (j := 2) rfl⟩ | exact ⟨cell_of_block (hx3 _) (j := 0) rfl, cell_of_block (hx3 _) (j := 1) rfl, cell_of_block (hx3 _) (j := 2) rfl⟩)
        ((go_at_call 41; refine h2.mono ?_; rintro e w2 ⟨rfl, hd2, hk2⟩; have hx2 := box_after (w := w1.drew) HX1.out hk2 HFb.out; have hx3 := fun o => (below_box w2 o).block _ (lt_there hx2) |>.trans hx2))
      have hz1 : w.heap.size < w1.heap.size := by have := HB1.out.size; have := lt_there HX1.out; omega
      have hz2 : w1.heap.size ≤ w2.heap.size := hk2.size
      have hl2 : LogP (w2.alloc (.cells (lgC p (LG.new S a b)) 66)) w2.heap.size p (LG.new S a b) := heap_alloc_new _ _
      have HFl := Hid.mk (fun h : F w2.heap.size => by have := HL.out _ h; omega : ¬ F w2.heap.size)
      have hkw : Keeps F w (w2.alloc (.cells (lgC p (LG.new S a b)) 66)) := ((Keeps.of_below F (below_drew HB1.out)).trans hk2 (fun _ h => .inl h)).trans (Keeps.boxed F _) (fun _ h => .inl h)
      have h3 := H3.out _ w2.heap.size (hd2.boxed (.cells (lgC p (LG.new S a b)) 66)) hl2 HFl.out
      have HKw := Hid.mk hkw
      clear h2 hd2 hk2 hx2 hx3 hl2 hkw
      go_wp2_with fail
      refine h3.mono ?_
      rintro e w3 ⟨h4, hd3, hk3⟩
      rw [if_pos (fun h => HK0.out h)] at h4
      subst h4
      have HZ := Hid.mk (And.intro (hd3.le (by omega : cR + 2 + b ≤ cR + (b + 2))) (HKw.out.trans hk3 (fun k h => h.elim .inl (fun e => .inr (by omega)))))
      clear h3 hd3 hk3
      go_wp2_with fail
      go_ret3
      exact ⟨rfl, HZ.out⟩
  · simp only [if_pos (fun h => q h : ¬ lrefuse S s f n = 0)]
    have d0 : (lrefuse S s f n == 0) = false := by rw [beq_eq_false_iff_ne]; exact q
    clear q hby
    go_enter Try.func13, Try.ntmps13
    go_wp2_with fail
    refine h1.mono ?_
    rintro e w1 ⟨rfl, hb⟩
    have HZ := Hid.mk (And.intro (HD.out.later hb) (Keeps.of_below F (HB.out.trans (hb.mono (by simp)))))
    clear h1 hb
    go_wp2_with fail
    go_ret3
    exact ⟨rfl, HZ.out⟩
end
end Go.Proofs.Ytplpkppkaahchaa.B
end

section
namespace Go.Proofs.Ytplpkppkaahchaa.B
open Go.RowKit

section
variable {w : World} {F : Nat → Prop} {p s l cR : Nat} {S : DS} {L : LG}

set_option maxRecDepth 20000 in
set_option maxHeartbeats 8000000 in
theorem Trim_any (h : DiskR w F p s S cR) (hl : LogP w l p L) (hk : L.Ok s) (hF : ¬ F l) (hby : S.Byt) (hbig : S.puts.length + 3 ≤ 4000000000000) :
    Calls Try.prog 48 #[.pointer (some ⟨l, 0, none⟩)] w fun e w' => e = .returned (.int .i64 (L.trim S s).1) ∧ DiskR w' (more F w w') p s (L.trim S s).2.1 (cR + 2) ∧ LogP w' l p (L.trim S s).2.2 ∧ Keeps (fun k => F k ∨ k = l) w w' := by
  have h1 := Sync_any h hl hF (by omega)
  have HLt := Hid.mk h.lt
  have hlt := hl.lt
  have hs := hk.s
  have hn1 := hk.n1
  have hhb := fun (hb : (L.sync S s).1 = 0) => hk.hb (sync_begun hb)
  have hep := hk.ep
  have hp := sync_puts L S s
  have hby2 := sync_byt hby L s
  unfold LG.trim
  generalize L.sync S s = Z at *
  have H3 := Hid.mk (fun (hz : Z.1 = 0) w2 (hd2 : DiskR w2 F p s Z.2 cR) => drenew hd2 L.f L.n L.ep L.head hep (hhb hz) (by omega) (by omega) (hby2.now _) (hby2.now _))
  clear h hl hk hby hby2
  by_cases k0 : Z.1 = 0
  · rw [if_neg (fun h => h k0)]
    have d0 : (Z.1 == 0) = true := by rw [beq_iff_eq]; exact k0
    have H4 := Hid.mk (H3.out k0)
    clear k0 H3 hhb
    by_cases k1 : L.tail = L.head
    · rw [if_pos k1]
      have d1 : ((L.tail : Int) == (L.head : Int)) = true := by rw [beq_iff_eq]; omega
      clear k1
      go_enter Try.func48, Try.ntmps48
      go_wp2_with fail
      refine h1.mono ?_
      rintro e w1 ⟨rfl, hd1, hl1, hk1⟩
      have c6 := hl1.c6
      have c7 := hl1.c7
      have HZ := Hid.mk (fun j => And.intro (((hd1.later (below_drewN (Below.refl _ _) j)).more (w := w)).le (by omega : cR ≤ cR + 2)) (And.intro (hl1.later (below_drewN (Below.refl _ _) j)) ((hk1.mono (fun _ h => .inl h)).trans (Keeps.of_below (fun _ => False) (below_drewN (Below.refl w1.heap.size w1) j)) (fun _ h => h.elim) : Keeps (fun k => F k ∨ k = l) w (w1.drewN j))))
      clear h1 hd1 hl1 hk1
      go_wp2_with fail
      go_quiet (fail)
      go_wp2
      go_ret
      exact ⟨rfl, HZ.out _⟩
    · rw [if_neg k1]
      have d1 : ((L.tail : Int) == (L.head : Int)) = false := by rw [beq_eq_false_iff_ne]; omega
      clear k1
      generalize hY : anew Z.2 s L.f ((L.ep : Int) * 4294967296 + (L.head : Int)) = Y at *
      clear hY
      by_cases k : Y.1 = 0
      · rw [if_neg (fun h => h k)]
        have d : (Y.1 == 0) = true := by rw [beq_iff_eq]; exact k
        clear k
        go_enter Try.func48, Try.ntmps48
        go_wp2_with fail
        refine h1.mono ?_
        rintro e w1 ⟨rfl, hd1, hl1, hk1⟩
        have c6 := hl1.c6
        have c7 := hl1.c7
        have c0 := hl1.c0
        have c1 := hl1.c1
        have c2 := hl1.c2
        have c5 := hl1.c5
        have HD1 := Hid.mk hd1
        have HL1 := Hid.mk hl1
        have HK1 := Hid.mk hk1
        clear h1 hd1 hl1 hk1
        go_wp2_with fail
        go_quiet (fail)
        go_wp2_with fail
        go_region_held3 (fun w' => w'.cell? ⟨l, 0, none⟩ = some (.pointer (some ⟨p, 0, none⟩)) ∧ w'.cell? ⟨l, 1, none⟩ = some (.int .i64 (L.f : Int)) ∧ w'.cell? ⟨l, 2, none⟩ = some (.int .i64 (L.n : Int)) ∧ w'.cell? ⟨l, 5, none⟩ = some (.int .i64 (L.ep : Int)) ∧ w'.cell? ⟨l, 7, none⟩ = some (.int .i64 (L.head : Int)))
          (first | exact ⟨c0, c1, c2, c5, c7⟩ | exact ⟨hl4.c0, hl4.c1, hl4.c2, hl4.c5, hl4.c7⟩)
          ((go_at_call 50; refine (H4.out _ (HD1.out.later (below_drewN (Below.refl _ _) (nq + 1)))).mono ?_; rintro e w2 ⟨rfl, hd2, hk2⟩; have hk3 := HK1.out.trans (Keeps.of_below (fun _ => False) (below_drewN (Below.refl w1.heap.size w1) (nq + 1))) (fun _ h => h.elim); have hl3 := HL1.out.later (below_drewN (Below.refl w1.heap.size w1) (nq + 1)); have hl4 := hl3.keep hk2 hF))
        generalize w1.drewN (nq + 1) = w3 at *
        have hz3 := hk3.size
        have hz2 := hk2.size
        have f6 := hl4.fz 6
        have c6' := hl4.c6
        have c7' := hl4.c7
        have hne : ∀ k, more F w3 w2 k → ¬ k = l := fun k hk e => by
          subst e
          rcases hk with hk | hk
          · exact hF hk
          · omega
        have hsz : (w2.setCell ⟨l, 6, none⟩ (.int .i64 (L.head : Int))).heap.size = w2.heap.size := by simp [World.setCell]
        have HZ := Hid.mk (And.intro (((hd2.keep (keeps_set (F := fun k => k = l) w2 rfl 6 (.int .i64 (L.head : Int))) hne).mono (G := more F w (w2.setCell ⟨l, 6, none⟩ (.int .i64 (L.head : Int)))) (fun k hk => by
            rcases hk with hk | hk
            · exact .inl hk
            · exact .inr ⟨by omega, by rw [hsz]; exact hk.2⟩) (more_lt (F := F) (w := w) HLt.out (by rw [hsz]; omega)))) (And.intro hl4.trimmed (((hk3.mono (fun _ h => .inl h) : Keeps (fun k => F k ∨ k = l) w w3).trans hk2 (fun _ h => .inl (.inl h))).trans (keeps_set (F := fun k => k = l) w2 rfl 6 (.int .i64 (L.head : Int))) (fun _ h => .inl (.inr h)))))
        clear hd2 hk2 hl4 hk3 hl3 hsz hne
        go_wp2
        go_ret
        exact ⟨rfl, HZ.out⟩
      · rw [if_pos k]
        have d : (Y.1 == 0) = false := by rw [beq_eq_false_iff_ne]; exact k
        clear k
        go_enter Try.func48, Try.ntmps48
        go_wp2_with fail
        refine h1.mono ?_
        rintro e w1 ⟨rfl, hd1, hl1, hk1⟩
        have c6 := hl1.c6
        have c7 := hl1.c7
        have c0 := hl1.c0
        have c1 := hl1.c1
        have c2 := hl1.c2
        have c5 := hl1.c5
        have HD1 := Hid.mk hd1
        have HL1 := Hid.mk hl1
        have HK1 := Hid.mk hk1
        clear h1 hd1 hl1 hk1
        go_wp2_with fail
        go_quiet (fail)
        go_wp2_with fail
        go_region_held3 (fun w' => w'.cell? ⟨l, 0, none⟩ = some (.pointer (some ⟨p, 0, none⟩)) ∧ w'.cell? ⟨l, 1, none⟩ = some (.int .i64 (L.f : Int)) ∧ w'.cell? ⟨l, 2, none⟩ = some (.int .i64 (L.n : Int)) ∧ w'.cell? ⟨l, 5, none⟩ = some (.int .i64 (L.ep : Int)) ∧ w'.cell? ⟨l, 7, none⟩ = some (.int .i64 (L.head : Int)))
          (first | exact ⟨c0, c1, c2, c5, c7⟩ | exact ⟨hl4.c0, hl4.c1, hl4.c2, hl4.c5, hl4.c7⟩)
          ((go_at_call 50; refine (H4.out _ (HD1.out.later (below_drewN (Below.refl _ _) (nq + 1)))).mono ?_; rintro e w2 ⟨rfl, hd2, hk2⟩; have hk3 := HK1.out.trans (Keeps.of_below (fun _ => False) (below_drewN (Below.refl w1.heap.size w1) (nq + 1))) (fun _ h => h.elim); have hl3 := HL1.out.later (below_drewN (Below.refl w1.heap.size w1) (nq + 1)); have hl4 := hl3.keep hk2 hF))
        generalize w1.drewN (nq + 1) = w3 at *
        have hz3 := hk3.size
        have hz2 := hk2.size
        have HZ := Hid.mk (And.intro (hd2.from HLt.out hz3 hz2) (And.intro hl4 ((hk3.mono (fun _ h => .inl h) : Keeps (fun k => F k ∨ k = l) w w3).trans hk2 (fun _ h => .inl (.inl h)))))
        clear hd2 hk2 hl4 hk3 hl3
        go_wp2
        go_ret
        exact ⟨rfl, HZ.out⟩
  · rw [if_pos k0]
    have d0 : (Z.1 == 0) = false := by rw [beq_eq_false_iff_ne]; exact k0
    clear k0
    go_enter Try.func48, Try.ntmps48
    go_wp2_with fail
    refine h1.mono ?_
    rintro e w1 ⟨rfl, hd1, hl1, hk1⟩
    have HZ := Hid.mk (And.intro ((hd1.more (w := w)).le (by omega : cR ≤ cR + 2)) (And.intro hl1 (hk1.mono (fun _ h => .inl h) : Keeps (fun k => F k ∨ k = l) w w1)))
    clear h1 hd1 hl1 hk1
    go_wp2
    go_ret
    exact ⟨rfl, HZ.out⟩
end
end Go.Proofs.Ytplpkppkaahchaa.B
end

section
namespace Go.Proofs.Ytplpkppkaahchaa.B
open Go.RowKit

section
variable {w : World} {F : Nat → Prop} {p s l cR : Nat} {S : DS} {L : LG}

set_option maxRecDepth 20000 in
set_option maxHeartbeats 8000000 in
theorem Start_any (h : DiskR w F p s S cR) (hl : LogP w l p L) (hk : L.Ok s) (hF : ¬ F l) (hby : S.Byt) (hbig : S.puts.length + 2 ≤ 4000000000000) :
    Calls Try.prog 32 #[.pointer (some ⟨l, 0, none⟩)] w fun e w' => e = .returned (.int .i64 (L.start S s).1) ∧ DiskR w' (more F w w') p s (L.start S s).2.1 (cR + 2) ∧ LogP w' l p (L.start S s).2.2 ∧ Keeps (fun k => F k ∨ k = l) w w' := by
  have h1 := dead_any h hl
  have HL := Hid.mk hl
  have HD := Hid.mk h
  have hlt := hl.lt
  have hs := hk.s
  have htop := hk.top
  unfold LG.start
  have H3 := Hid.mk (fun w2 (hd2 : DiskR w2 F p s S cR) => drenew hd2 L.f L.n (L.top + 1) 0 (by omega) (by omega) hbig (by have := hk.n1; omega) (hby.now _) (hby.now _))
  clear h hl hk hby
  cases hd : L.dead S
  · rw [hd] at h1
    rw [if_neg (by decide)]
    clear hd
    cases hb : L.begun
    · rw [if_neg (by decide)]
      generalize hY : anew S s L.f (((L.top + 1 : Nat) : Int) * 4294967296 + ((0 : Nat) : Int)) = Y at *
      clear hY
      by_cases k : Y.1 = 0
      · rw [if_neg (fun h => h k)]
        have d : (Y.1 == 0) = true := by rw [beq_iff_eq]; exact k
        clear k
        go_enter Try.func32, Try.ntmps32
        go_wp2_with fail
        refine h1.mono ?_
        rintro e w1 ⟨rfl, hb1⟩
        have hl1 := HL.out.later hb1
        have c0 := hl1.c0
        have c1 := hl1.c1
        have c2 := hl1.c2
        have c4 := hl1.c4
        have c8 := hl1.c8
        rw [hb] at c4
        have h3 := H3.out w1 (HD.out.later hb1)
        rw [show ((L.top + 1 : Nat) : Int) = (L.top : Int) + 1 by omega, show (((0 : Nat) : Int)) = 0 from rfl] at h3
        have HB1 := Hid.mk hb1
        have HL1 := Hid.mk hl1
        clear h1 hb1 hl1
        go_wp2_with fail
        refine h3.mono ?_
        rintro e w2 ⟨rfl, hd2, hk2⟩
        have hl2 := HL1.out.keep hk2 hF
        have f4 := hl2.fz 4
        have f5 := hl2.fz 5
        have f6 := hl2.fz 6
        have f7 := hl2.fz 7
        have c4 := hl2.c4
        have c5 := hl2.c5
        have c6 := hl2.c6
        have c7 := hl2.c7
        have hz1 := HB1.out.size
        have hz2 := hk2.size
        have hK : Keeps (fun k => F k ∨ k = l) w ((((w2.setCell ⟨l, 4, none⟩ (.bool true)).setCell ⟨l, 5, none⟩ (.int .i64 ((L.top : Int) + 1))).setCell ⟨l, 6, none⟩ (.int .i64 0)).setCell ⟨l, 7, none⟩ (.int .i64 0)) :=
          (((((Keeps.of_below (fun k => F k ∨ k = l) HB1.out).trans hk2 (fun _ h => .inl (.inl h))).trans (keeps_set (F := fun k => k = l) w2 rfl 4 _) (fun _ h => .inl (.inr h))).trans (keeps_set (F := fun k => k = l) _ rfl 5 _) (fun _ h => .inl (.inr h))).trans (keeps_set (F := fun k => k = l) _ rfl 6 _) (fun _ h => .inl (.inr h))).trans (keeps_set (F := fun k => k = l) _ rfl 7 _) (fun _ h => .inl (.inr h))
        have hD4 : DiskR ((((w2.setCell ⟨l, 4, none⟩ (.bool true)).setCell ⟨l, 5, none⟩ (.int .i64 ((L.top : Int) + 1))).setCell ⟨l, 6, none⟩ (.int .i64 0)).setCell ⟨l, 7, none⟩ (.int .i64 0)) (more F w1 w2) p s Y.2 (cR + 2) := by
          have hne : ∀ k, more F w1 w2 k → ¬ k = l := fun k hk e => by
            subst e
            rcases hk with hk | hk
            · exact hF hk
            · omega
          exact (((hd2.keep (keeps_set (F := fun k => k = l) w2 rfl 4 _) hne).keep (keeps_set (F := fun k => k = l) _ rfl 5 _) hne).keep (keeps_set (F := fun k => k = l) _ rfl 6 _) hne).keep (keeps_set (F := fun k => k = l) _ rfl 7 _) hne
        have hsz : ((((w2.setCell ⟨l, 4, none⟩ (.bool true)).setCell ⟨l, 5, none⟩ (.int .i64 ((L.top : Int) + 1))).setCell ⟨l, 6, none⟩ (.int .i64 0)).setCell ⟨l, 7, none⟩ (.int .i64 0)).heap.size = w2.heap.size := by simp [World.setCell]
        have HZ := Hid.mk (And.intro ((hD4.mono (G := more F w ((((w2.setCell ⟨l, 4, none⟩ (.bool true)).setCell ⟨l, 5, none⟩ (.int .i64 ((L.top : Int) + 1))).setCell ⟨l, 6, none⟩ (.int .i64 0)).setCell ⟨l, 7, none⟩ (.int .i64 0))) (fun k hk => by
            rcases hk with hk | hk
            · exact .inl hk
            · exact .inr ⟨by omega, by rw [hsz]; exact hk.2⟩) (more_lt (F := F) (w := w) HD.out.lt (by rw [hsz]; omega)))) (And.intro (hl2.started ((L.top : Int) + 1) (L.top + 1) (by omega)) hK))
        clear h3 hd2 hk2 hl2 hK hD4 hsz
        go_wp2
        go_ret
        exact ⟨rfl, HZ.out⟩
      · rw [if_pos k]
        have d : (Y.1 == 0) = false := by rw [beq_eq_false_iff_ne]; exact k
        clear k
        go_enter Try.func32, Try.ntmps32
        go_wp2_with fail
        refine h1.mono ?_
        rintro e w1 ⟨rfl, hb1⟩
        have hl1 := HL.out.later hb1
        have c0 := hl1.c0
        have c1 := hl1.c1
        have c2 := hl1.c2
        have c4 := hl1.c4
        have c8 := hl1.c8
        rw [hb] at c4
        have h3 := H3.out w1 (HD.out.later hb1)
        rw [show ((L.top + 1 : Nat) : Int) = (L.top : Int) + 1 by omega, show (((0 : Nat) : Int)) = 0 from rfl] at h3
        have HB1 := Hid.mk hb1
        have HL1 := Hid.mk hl1
        clear h1 hb1 hl1
        go_wp2_with fail
        refine h3.mono ?_
        rintro e w2 ⟨rfl, hd2, hk2⟩
        have HZ := Hid.mk (And.intro (hd2.from HD.out.lt HB1.out.size hk2.size) (And.intro (HL1.out.keep hk2 hF) ((Keeps.of_below (fun k => F k ∨ k = l) HB1.out).trans hk2 (fun _ h => .inl (.inl h)))))
        clear h3 hd2 hk2
        go_wp2
        go_ret
        exact ⟨rfl, HZ.out⟩
    · rw [if_pos rfl]
      go_enter Try.func32, Try.ntmps32
      go_wp2_with fail
      refine h1.mono ?_
      rintro e w1 ⟨rfl, hb1⟩
      have c4 := (HL.out.later hb1).c4
      rw [hb] at c4
      have HZ := Hid.mk (And.intro (((HD.out.later hb1).more (w := w)).le (by omega : cR ≤ cR + 2)) (And.intro (HL.out.later hb1) (Keeps.of_below (fun k => F k ∨ k = l) hb1)))
      clear h1 hb1
      go_wp2
      go_ret
      exact ⟨rfl, HZ.out⟩
  · rw [hd] at h1
    rw [if_pos rfl]
    go_enter Try.func32, Try.ntmps32
    go_wp2_with fail
    refine h1.mono ?_
    rintro e w1 ⟨rfl, hb1⟩
    have HZ := Hid.mk (And.intro (((HD.out.later hb1).more (w := w)).le (by omega : cR ≤ cR + 2)) (And.intro (HL.out.later hb1) (Keeps.of_below (fun k => F k ∨ k = l) hb1)))
    clear h1 hb1
    go_wp2
    go_ret
    exact ⟨rfl, HZ.out⟩
end
end Go.Proofs.Ytplpkppkaahchaa.B
end

section
namespace Go.Proofs.Ytplpkppkaahchaa
open Go.RowKit

/-- What holds between the steps of sparing. -/
structure SpI (w wr : World) (F0 F : Nat → Prop) (p l s wb r0 c : Nat) (S : DS) (L : LG) (R : Int) : Prop where
  d : B.DiskR wr F p s S c
  lp : LogP wr l p L
  nf : ¬ F l
  i : Inv S s [L] 100
  rf : S.refused = R
  bx : ∃ x y z, wr.heap[wb]? = some (.cells (cnCells (r0 : Int) x y R z) 53 (0, 0))
  nw : ¬ F wb
  ne : wb ≠ l
  kp : Keeps F0 w wr
  fF : ∀ k, F k → F0 k ∨ w.heap.size ≤ k
  ll : w.heap.size ≤ l
  lw : w.heap.size ≤ wb
section
variable {w wr w' : World} {F0 F : Nat → Prop} {p l s wb r0 c c' : Nat} {S S' : DS} {L L' : LG} {R : Int}
theorem SpI.next (h : SpI w wr F0 F p l s wb r0 c S L R) (hd : B.DiskR w' (more F wr w') p s S' c') (hl : LogP w' l p L') (hk : Keeps (fun k => F k ∨ k = l) wr w') (hi : Inv S' s [L'] 100) (hr : S'.refused = S.refused) : SpI w w' F0 (more F wr w') p l s wb r0 c' S' L' R := by
  obtain ⟨x, y, z, hb⟩ := h.bx
  have hz := h.kp.size
  have hwb := lt_there hb
  have hll := h.lp.lt
  refine ⟨hd, hl, fun hm => ?_, hi, hr.trans h.rf, ⟨x, y, z, (hk.block wb hwb (fun e => e.elim h.nw h.ne)).trans hb⟩, fun hm => ?_, h.ne, h.kp.trans hk (fun k hk => ?_), fun k hk => ?_, h.ll, h.lw⟩
  · rcases hm with hm | hm
    · exact h.nf hm
    · omega
  · rcases hm with hm | hm
    · exact h.nw hm
    · omega
  · rcases hk with hk | hk
    · exact h.fF k hk
    · exact .inr (by have := h.ll; omega)
  · rcases hk with hk | hk
    · exact h.fF k hk
    · exact .inr (by omega)
theorem SpI.later (h : SpI w wr F0 F p l s wb r0 c S L R) (hb : Below wr.heap.size wr w') (hd : B.DiskR w' F p s S c') : SpI w w' F0 F p l s wb r0 c' S L R := by
  obtain ⟨x, y, z, hx⟩ := h.bx
  exact ⟨hd, h.lp.later hb, h.nf, h.i, h.rf, ⟨x, y, z, (hb.block wb (lt_there hx)).trans hx⟩, h.nw, h.ne, h.kp.trans (Keeps.of_below (fun _ => False) hb) (fun _ h => h.elim), h.fF, h.ll, h.lw⟩
theorem cset5 {w : World} {b : Nat} {v0 v1 v2 v3 v4 u0 u1 u2 u3 u4 : Value} {t : TypeId} (h : w.heap[b]? = some (.cells #[v0, v1, v2, v3, v4] t (0, 0))) : (((((w.setCell ⟨b, 0, none⟩ u0).setCell ⟨b, 1, none⟩ u1).setCell ⟨b, 2, none⟩ u2).setCell ⟨b, 3, none⟩ u3).setCell ⟨b, 4, none⟩ u4).heap[b]? = some (.cells #[u0, u1, u2, u3, u4] t (0, 0)) :=
  (heap_setCell_same _ _ 4 _ _ _ (heap_setCell_same _ _ 3 _ _ _ (heap_setCell_same _ _ 2 _ _ _ (heap_setCell_same _ _ 1 _ _ _ (heap_setCell_same _ _ 0 _ _ _ h))))).trans (by simp)
theorem ckeeps5 (w : World) (b : Nat) (u0 u1 u2 u3 u4 : Value) : Keeps (fun k => k = b) w (((((w.setCell ⟨b, 0, none⟩ u0).setCell ⟨b, 1, none⟩ u1).setCell ⟨b, 2, none⟩ u2).setCell ⟨b, 3, none⟩ u3).setCell ⟨b, 4, none⟩ u4) :=
  ((((keeps_set (F := fun k => k = b) w rfl 0 u0).trans (keeps_set (F := fun k => k = b) _ rfl 1 u1) (fun _ h => .inl h)).trans (keeps_set (F := fun k => k = b) _ rfl 2 u2) (fun _ h => .inl h)).trans (keeps_set (F := fun k => k = b) _ rfl 3 u3) (fun _ h => .inl h)).trans (keeps_set (F := fun k => k = b) _ rfl 4 u4) (fun _ h => .inl h)
/-- The counts are laid anew. -/
theorem SpI.set (h : SpI w wr F0 F p l s wb r0 c S L R) (r : Nat) (x y z : Int) : SpI w (((((wr.setCell ⟨wb, 0, none⟩ (.int .i64 (r : Int))).setCell ⟨wb, 1, none⟩ (.int .i64 x)).setCell ⟨wb, 2, none⟩ (.int .i64 y)).setCell ⟨wb, 3, none⟩ (.int .i64 R)).setCell ⟨wb, 4, none⟩ (.int .i64 z)) F0 F p l s wb r c S L R := by
  obtain ⟨x0, y0, z0, hx⟩ := h.bx
  have hk := ckeeps5 wr wb (.int .i64 (r : Int)) (.int .i64 x) (.int .i64 y) (.int .i64 R) (.int .i64 z)
  exact ⟨h.d.keep hk (fun k hf e => h.nw (e ▸ hf)), h.lp.keep hk (fun e => h.ne e.symm), h.nf, h.i, h.rf, ⟨x, y, z, cset5 hx⟩, h.nw, h.ne, h.kp.trans hk (fun k e => .inr (by have := h.lw; omega)), h.fF, h.ll, h.lw⟩
end

/-- So many zeros, newly made. -/
theorem zeros_src {w1 : World} {g n base : Nat} (hown : w1.ownsRow base 5 1 (.slice (some ⟨g, 0, none⟩) n n) n (madeCells #[Value.int .u8 0] n).toList) : Src w1 (some ⟨g, 0, none⟩) n (zs n) ∧ Bytes (zs n) ∧ (zs n).length = n := by
  have h := (made_row hown).src
  rw [List.length_replicate] at h
  exact ⟨h, Bytes.zeros n, zs_len n⟩

set_option maxRecDepth 20000 in
set_option maxHeartbeats 16000000 in
theorem sparing_any {w : World} {F : Nat → Prop} {p s c t : Nat} {S : DS} (h : B.DiskR w F p s S c) (hi : Inv S s [] t) (ht : t ≤ 99) (hp : S.puts = []) (hf : S.fuse = -1) (a b : Nat) (hab : a + 2 + b ≤ s) (h18 : 18 ≤ b) (h256 : b ≤ 256) (hc : c ≤ 100000) :
    Calls Try.prog 29 #[.pointer (some ⟨p, 0, none⟩), .int .i64 (a : Int), .int .i64 (b : Int)] w fun e w' => e = .returned (.bool true) ∧ Keeps F w w' := by
  have hp6 := hi.p6
  have h1 := B.dcounts h (by omega) (by omega)
  obtain ⟨hq, hcode, hlife, hfl, hr0⟩ := open_quiet hi.ok hp hf hab h18 h256
  have HQ := Hid.mk hq
  have HI := Hid.mk hi
  have HLt := Hid.mk h.lt
  have HPu := Hid.mk hp
  have HFu := Hid.mk hf
  have HR0 := Hid.mk hr0
  clear h hp hf hcode hlife hfl hr0 hq
  go_enter Try.func29, Try.ntmps29
  go_wp2_with fail
  refine h1.mono ?_
  rintro e w1 ⟨r0, rfl, hrc, hd1, hb1⟩
  obtain ⟨wa, hwa⟩ : ∃ wa, wa = w1.alloc (.cells (cnCells (r0 : Int) S.writes S.flushes S.refused S.puts.length) 53) := ⟨_, rfl⟩
  have hba : Below w1.heap.size w1 wa := by rw [hwa]; exact below_box _ _
  have kc : wa.heap[w1.heap.size]? = some (.cells (cnCells (r0 : Int) S.writes S.flushes S.refused S.puts.length) 53 (0, 0)) := by rw [hwa]; exact heap_alloc_new _ _
  obtain ⟨wb, hwb⟩ : ∃ wb, wb = w1.heap.size := ⟨_, rfl⟩
  have hda := hd1.later hba
  have hop := B.Open_any hda hi.byt (a : Int) (b : Int) (by omega)
  have HBa := Hid.mk (hb1.trans (hba.mono hb1.size))
  have HWb := Hid.mk (And.intro (show w.heap.size ≤ wb by rw [hwb]; exact hb1.size) (show wa.heap[wb]? = _ from hwb ▸ kc))
  clear h1 hd1 hb1 hba kc hda hi
  go_upto_region 2 with fail
  rw [← hwa]
  clear hwa
  rw [← hwb]
  clear hwb
  go_wp2_with fail
  refine hop.mono ?_
  rintro e w2 ⟨ho, hd2, hk2⟩
  have hwlt := lt_there HWb.out.2
  have hnF : ¬ F wb := fun hf => by have := HLt.out _ hf; have := HWb.out.1; omega
  have hx2 : w2.heap[wb]? = some (.cells (cnCells (r0 : Int) S.writes S.flushes S.refused S.puts.length) 53 (0, 0)) := (hk2.block wb hwlt hnF).trans HWb.out.2
  have hk2' : Keeps F w w2 := (Keeps.of_below F HBa.out).trans hk2 (fun _ h => .inl h)
  have hz2 := hk2'.size
  by_cases k0 : (lopen S s (a : Int) (b : Int)).1 = 0
  · unfold Opened at ho
    rw [if_neg (fun h => h k0)] at ho
    obtain ⟨l, v, rs, hd, rfl, hl, htold⟩ := ho
    have htt := htold.t
    have hnew : (LG.new S (a : Int).toNat (b : Int).toNat) = LG.new S a b := by rw [Int.toNat_natCast, Int.toNat_natCast]
    obtain ⟨hs1, hs2, hs3, hs4⟩ := told_small (a := a) (b := b) HI.out.byt (by omega) h256 (by rw [hnew] at htt; exact htt)
    have hlp : LogP w2 l p (LG.opened S a b hd) := by have := htold.p; rw [hnew] at this; exact this
    have hI1 := HI.out.opened (by omega) (a : Int) (b : Int) hd2.ok k0 (hd := hd) (by rw [Int.toNat_natCast]; exact hs3) (by rw [Int.toNat_natCast, Int.toNat_natCast]; exact hs4)
    rw [Int.toNat_natCast, Int.toNat_natCast, List.nil_append] at hI1
    have hI2 : Inv (lopen S s (a : Int) (b : Int)).2 s [LG.opened S a b hd] 100 := ⟨hI1.ok, hI1.byt, hI1.p6, hI1.p2, hI1.l0, by have := hI1.lt; omega, hI1.ol, hI1.li, hI1.al⟩
    have hlw : w.heap.size ≤ l := by have := HBa.out.size; omega
    have hoR : B.oRd S s (a : Int) (b : Int) = b + 2 := by unfold B.oRd; rw [if_neg (fun h => h HR0.out), Int.toNat_natCast]
    rw [hoR] at hd2
    have hlwa : wa.heap.size ≤ l := hl
    have hSp : SpI w w2 F F p l s wb r0 (r0 + (b + 2)) (lopen S s (a : Int) (b : Int)).2 (LG.opened S a b hd) S.refused := ⟨hd2, hlp, fun hf => by have := HLt.out _ hf; omega, hI2, HQ.out.rf, ⟨_, _, _, hx2⟩, hnF, by omega, hk2', fun k hk => .inl hk, hlw, HWb.out.1⟩
    have HSp : Hid (∃ F' S' L' c' r', SpI w w2 F F' p l s wb r' c' S' L' S.refused ∧ c' ≤ r' + 2 * (b + 2) ∧ r' ≤ 100000 + 1000 * 0) := ⟨_, _, _, _, _, hSp, by omega, by omega⟩
    obtain ⟨R, hR⟩ : ∃ R, R = S.refused := ⟨_, rfl⟩
    rw [← hR] at HSp
    clear hop htold htt hnew hs1 hs2 hs3 hs4 hlp hI1 hI2 hoR hSp hd2 hk2 hx2 hwlt hnF HBa HWb HQ HI HPu HFu HR0 hR k0 hlwa hl hlw
    go_wp2
    go_loopw [11] (fun i wx => ∃ k : Nat, k ≤ 7 ∧ i = .int .i64 (k : Int) ∧ ∃ F' S' L' c' r', SpI w wx F F' p l s wb r' c' S' L' R ∧ c' ≤ r' + 2 * (b + 2) ∧ r' ≤ 100000 + 1000 * k) (fun i _ => 7 - (intOf i).toNat)
    case atStart => exact ⟨0, Nat.zero_le _, rfl, HSp.out⟩
    case round =>
      clear HSp HLt hk2' hz2
      obtain ⟨k, hk, rfl, F', S', L', c', r', hI, hc', hr'⟩ := hrel
      by_cases q : k < 7
      · have q' : (k : Int) < 7 := by omega
        have hcn := B.dcounts hI.d (by have := hI.i.p6; omega) (by omega)
        have HI := Hid.mk hI
        clear hI
        go_wp2_with fail
        refine hcn.mono ?_
        rintro e w3 ⟨r, rfl, hrc3, hd3, hb3⟩
        have hI3 := HI.out.later hb3 hd3
        rw [hI3.rf]
        obtain ⟨we, hwe⟩ : ∃ we, we = w3.alloc (.cells (cnCells (r : Int) S'.writes S'.flushes R S'.puts.length) 53) := ⟨_, rfl⟩
        have hbe : Below w3.heap.size w3 we := by rw [hwe]; exact below_box _ _
        have kc : we.heap[w3.heap.size]? = some (.cells (cnCells (r : Int) S'.writes S'.flushes R S'.puts.length) 53 (0, 0)) := by rw [hwe]; exact heap_alloc_new _ _
        have hI4 := hI3.later hbe (hI3.d.later hbe)
        obtain ⟨x0, y0, z0, hbx⟩ := hI4.bx
        obtain ⟨qb, hqb⟩ : ∃ qb, qb = w3.heap.size := ⟨_, rfl⟩
        have kc' : we.heap[qb]? = some (.cells (cnCells (r : Int) S'.writes S'.flushes R S'.puts.length) 53 (0, 0)) := by rw [hqb]; exact kc
        have n0 : we.cell? ⟨qb, 0, none⟩ = some (.int .i64 (r : Int)) := cell_of_block kc' (j := 0) rfl
        have n1 : we.cell? ⟨qb, 1, none⟩ = some (.int .i64 S'.writes) := cell_of_block kc' (j := 1) rfl
        have n2 : we.cell? ⟨qb, 2, none⟩ = some (.int .i64 S'.flushes) := cell_of_block kc' (j := 2) rfl
        have n3 : we.cell? ⟨qb, 3, none⟩ = some (.int .i64 R) := cell_of_block kc' (j := 3) rfl
        have n4 : we.cell? ⟨qb, 4, none⟩ = some (.int .i64 (S'.puts.length : Int)) := cell_of_block kc' (j := 4) rfl
        have b0 : we.cell? ⟨wb, 0, none⟩ = some (.int .i64 (r' : Int)) := cell_of_block hbx (j := 0) rfl
        have b1 : we.cell? ⟨wb, 1, none⟩ = some (.int .i64 x0) := cell_of_block hbx (j := 1) rfl
        have b2 : we.cell? ⟨wb, 2, none⟩ = some (.int .i64 y0) := cell_of_block hbx (j := 2) rfl
        have b3 : we.cell? ⟨wb, 3, none⟩ = some (.int .i64 R) := cell_of_block hbx (j := 3) rfl
        have b4 : we.cell? ⟨wb, 4, none⟩ = some (.int .i64 z0) := cell_of_block hbx (j := 4) rfl
        have bf : ∀ i, we.frozen? ⟨wb, i, none⟩ = false := fun i => frozen_of_block hbx i
        have hsm : ¬ 2 * ((b : Int) + 2) < (r : Int) - (r' : Int) := by omega
        have HX := Hid.mk (hI4.set r S'.writes S'.flushes (S'.puts.length : Int))
        obtain ⟨W5, F5, U5, hW5, hF5, hU5⟩ : ∃ W5 F5 U5 : Int, W5 = S'.writes ∧ F5 = S'.flushes ∧ U5 = (S'.puts.length : Int) := ⟨_, _, _, rfl, rfl, rfl⟩
        rw [← hW5, ← hF5, ← hU5] at HX hwe
        rw [← hW5] at n1
        rw [← hF5] at n2
        rw [← hU5] at n4
        rw [← hW5, ← hF5, ← hU5]
        clear hcn hd3 hb3 hI3 hbe kc hI4 hbx HI kc' hW5 hF5 hU5
        go_upto_region 9 with fail
        rw [← hwe]
        clear hwe
        rw [← hqb]
        clear hqb
        go_upto_region 12 with fail
        clear n0 n1 n2 n3 n4 b0 b1 b2 b3 b4 bf
        obtain ⟨wX, hwX⟩ : ∃ wX, wX = (((((we.setCell ⟨wb, 0, none⟩ (.int .i64 (r : Int))).setCell ⟨wb, 1, none⟩ (.int .i64 W5)).setCell ⟨wb, 2, none⟩ (.int .i64 F5)).setCell ⟨wb, 3, none⟩ (.int .i64 R)).setCell ⟨wb, 4, none⟩ (.int .i64 U5)) := ⟨_, rfl⟩
        rw [← hwX] at HX ⊢
        clear hwX hsm
        have hp6 := HX.out.i.p6
        have hok := (HX.out.i.at (i := 0) rfl).1
        have HOk := Hid.mk hok
        clear hok
        rcases (show k = 0 ∨ k = 1 ∨ k = 2 ∨ k = 3 ∨ k = 4 ∨ k = 5 ∨ k = 6 by omega) with e | e | e | e | e | e | e
        · have d0 : ((k : Int) == 0) = true := by rw [beq_iff_eq]; omega
          have hst := B.Start_any HX.out.d HX.out.lp HOk.out HX.out.nf HX.out.i.byt (by omega)
          have HXm := HX
          go_wp2_with fail
          refine hst.mono ?_
          rintro e w4 ⟨rfl, hd4, hl4, hk4⟩
          have HN : Hid (∃ F' S' L' c' r', SpI w w4 F F' p l s wb r' c' S' L' R ∧ c' ≤ r' + 2 * (b + 2) ∧ r' ≤ 100000 + 1000 * (k + 1)) := ⟨_, _, _, _, _, HXm.out.next hd4 hl4 hk4 (HXm.out.i.start (i := 0) rfl hd4.ok) (start_ref HOk.out), by omega, by omega⟩
          clear hst hd4 hl4 hk4 HXm HX HOk
          go_wp2
          go_roundw
          case rel => exact ⟨k + 1, by omega, by go_num, HN.out⟩
          case measure => simp [intOf]; omega
        · have d0 : ((k : Int) == 0) = false := by rw [beq_eq_false_iff_ne]; omega
          have d1 : ((k : Int) == 1) = true := by rw [beq_iff_eq]; omega
          have hb1 := below_box wX (.cells #[.int .u8 1] 5)
          have HXm := Hid.mk (HX.out.later hb1 (HX.out.d.later hb1))
          have hsr : Src (wX.alloc (.cells #[.int .u8 1] 5)) (some ⟨wX.heap.size, 0, none⟩) 1 [1] := ⟨rfl, fun h => (by cases h), fun x hx i hi => by
            cases hx
            obtain rfl : i = 0 := by omega
            rw [addr_add]
            exact cell_of_block (heap_alloc_new wX (.cells #[.int .u8 1] 5)) rfl⟩
          have hst := B.Append_any HXm.out.d HXm.out.lp HOk.out HXm.out.nf (some ⟨wX.heap.size, 0, none⟩) 1 1 [1] hsr (fun y hy _ hf => by
            cases hy
            have : wX.heap.size < wX.heap.size := HX.out.d.lt _ hf
            omega) (.cons (by omega) .nil) (Nat.le_refl _) (by omega) (by omega)
          clear hb1 hsr
          go_wp2_with fail
          refine hst.mono ?_
          rintro e w4 ⟨rfl, hd4, hl4, hk4⟩
          have HN : Hid (∃ F' S' L' c' r', SpI w w4 F F' p l s wb r' c' S' L' R ∧ c' ≤ r' + 2 * (b + 2) ∧ r' ≤ 100000 + 1000 * (k + 1)) := ⟨_, _, _, _, _, HXm.out.next hd4 hl4 hk4 (HXm.out.i.append (i := 0) rfl (d := [1]) (.cons (by omega) .nil) hd4.ok) (append_ref HOk.out _), by omega, by omega⟩
          clear hst hd4 hl4 hk4 HXm HX HOk
          go_wp2
          go_roundw
          case rel => exact ⟨k + 1, by omega, by go_num, HN.out⟩
          case measure => simp [intOf]; omega
        · have d0 : ((k : Int) == 0) = false := by rw [beq_eq_false_iff_ne]; omega
          have d1 : ((k : Int) == 1) = false := by rw [beq_eq_false_iff_ne]; omega
          have d2 : ((k : Int) == 2) = true := by rw [beq_iff_eq]; omega
          obtain ⟨i0, hi0, hz0, hz1, hz2'⟩ := info_parts infoU8
          go_wp2_with (at_make; refine wpList_make_full _ rfl _ _ 27 rfl wX.heap.size 5 i0 (.int .u8 0) 1 Try.underlying27 hi0 hz0 hz1 _ _ _ _ 700 rfl rfl ?c1 ?c2 ?c3 ?c4 ?c5 ?_)
          case c1 => rfl
          case c2 => rfl
          case c3 => rw [hz2']; omega
          case c4 => unfold maxLen; omega
          case c5 => exact Nat.le_refl _
          intro w6 hown hgrow
          have hz6 := zeros_src hown
          have hb1 : Below wX.heap.size wX w6 := (Below.refl _ wX).grown hgrow (Nat.le_refl _) (by intro k hk; cases hk)
          have HXm := Hid.mk (HX.out.later hb1 (HX.out.d.later hb1))
          obtain ⟨Z, hZ⟩ : ∃ Z, Z = zs 700 := ⟨_, rfl⟩
          rw [← hZ] at hz6
          have HZ := Hid.mk hz6
          have hst := B.Append_any HXm.out.d HXm.out.lp HOk.out HXm.out.nf (some ⟨wX.heap.size, 0, none⟩) 700 700 Z hz6.1 (fun y hy _ hf => by
            cases hy
            have : wX.heap.size < wX.heap.size := HX.out.d.lt _ hf
            omega) hz6.2.1 (Nat.le_refl _) (by omega) (by omega)
          clear hb1 hown hgrow hz6 hZ hi0 hz0 hz1 hz2'
          go_wp2_with fail
          refine hst.mono ?_
          rintro e w4 ⟨rfl, hd4, hl4, hk4⟩
          have HN : Hid (∃ F' S' L' c' r', SpI w w4 F F' p l s wb r' c' S' L' R ∧ c' ≤ r' + 2 * (b + 2) ∧ r' ≤ 100000 + 1000 * (k + 1)) := ⟨_, _, _, _, _, HXm.out.next hd4 hl4 hk4 (HXm.out.i.append (i := 0) rfl (d := Z) HZ.out.2.1 hd4.ok) (append_ref HOk.out _), by omega, by omega⟩
          clear hst hd4 hl4 hk4 HXm HX HOk
          go_wp2
          go_roundw
          case rel => exact ⟨k + 1, by omega, by go_num, HN.out⟩
          case measure => simp [intOf]; omega
        · have d0 : ((k : Int) == 0) = false := by rw [beq_eq_false_iff_ne]; omega
          have d1 : ((k : Int) == 1) = false := by rw [beq_eq_false_iff_ne]; omega
          have d2 : ((k : Int) == 2) = false := by rw [beq_eq_false_iff_ne]; omega
          have d3 : ((k : Int) == 3) = true := by rw [beq_iff_eq]; omega
          obtain ⟨i0, hi0, hz0, hz1, hz2'⟩ := info_parts infoU8
          go_wp2_with (at_make; refine wpList_make_full _ rfl _ _ 27 rfl wX.heap.size 5 i0 (.int .u8 0) 1 Try.underlying27 hi0 hz0 hz1 _ _ _ _ 8364 rfl rfl ?c1 ?c2 ?c3 ?c4 ?c5 ?_)
          case c1 => rfl
          case c2 => rfl
          case c3 => rw [hz2']; omega
          case c4 => unfold maxLen; omega
          case c5 => exact Nat.le_refl _
          intro w6 hown hgrow
          have hz6 := zeros_src hown
          have hb1 : Below wX.heap.size wX w6 := (Below.refl _ wX).grown hgrow (Nat.le_refl _) (by intro k hk; cases hk)
          have HXm := Hid.mk (HX.out.later hb1 (HX.out.d.later hb1))
          obtain ⟨Z, hZ⟩ : ∃ Z, Z = zs 8364 := ⟨_, rfl⟩
          rw [← hZ] at hz6
          have HZ := Hid.mk hz6
          have hst := B.Append_any HXm.out.d HXm.out.lp HOk.out HXm.out.nf (some ⟨wX.heap.size, 0, none⟩) 8364 8364 Z hz6.1 (fun y hy _ hf => by
            cases hy
            have : wX.heap.size < wX.heap.size := HX.out.d.lt _ hf
            omega) hz6.2.1 (Nat.le_refl _) (by omega) (by omega)
          clear hb1 hown hgrow hz6 hZ hi0 hz0 hz1 hz2'
          go_wp2_with fail
          refine hst.mono ?_
          rintro e w4 ⟨rfl, hd4, hl4, hk4⟩
          have HN : Hid (∃ F' S' L' c' r', SpI w w4 F F' p l s wb r' c' S' L' R ∧ c' ≤ r' + 2 * (b + 2) ∧ r' ≤ 100000 + 1000 * (k + 1)) := ⟨_, _, _, _, _, HXm.out.next hd4 hl4 hk4 (HXm.out.i.append (i := 0) rfl (d := Z) HZ.out.2.1 hd4.ok) (append_ref HOk.out _), by omega, by omega⟩
          clear hst hd4 hl4 hk4 HXm HX HOk
          go_wp2
          go_roundw
          case rel => exact ⟨k + 1, by omega, by go_num, HN.out⟩
          case measure => simp [intOf]; omega
        · have d0 : ((k : Int) == 0) = false := by rw [beq_eq_false_iff_ne]; omega
          have d1 : ((k : Int) == 1) = false := by rw [beq_eq_false_iff_ne]; omega
          have d2 : ((k : Int) == 2) = false := by rw [beq_eq_false_iff_ne]; omega
          have d3 : ((k : Int) == 3) = false := by rw [beq_eq_false_iff_ne]; omega
          have d5 : ((k : Int) == 5) = false := by rw [beq_eq_false_iff_ne]; omega
          have d4 : ((k : Int) == 4) = true := by rw [beq_iff_eq]; omega
          have hst := B.Trim_any HX.out.d HX.out.lp HOk.out HX.out.nf HX.out.i.byt (by omega)
          have HXm := HX
          go_wp2_with fail
          refine hst.mono ?_
          rintro e w4 ⟨rfl, hd4, hl4, hk4⟩
          have HN : Hid (∃ F' S' L' c' r', SpI w w4 F F' p l s wb r' c' S' L' R ∧ c' ≤ r' + 2 * (b + 2) ∧ r' ≤ 100000 + 1000 * (k + 1)) := ⟨_, _, _, _, _, HXm.out.next hd4 hl4 hk4 (HXm.out.i.trim (i := 0) rfl hd4.ok) (trim_ref HOk.out), by omega, by omega⟩
          clear hst hd4 hl4 hk4 HXm HX HOk
          go_wp2
          go_roundw
          case rel => exact ⟨k + 1, by omega, by go_num, HN.out⟩
          case measure => simp [intOf]; omega
        · have d0 : ((k : Int) == 0) = false := by rw [beq_eq_false_iff_ne]; omega
          have d1 : ((k : Int) == 1) = false := by rw [beq_eq_false_iff_ne]; omega
          have d2 : ((k : Int) == 2) = false := by rw [beq_eq_false_iff_ne]; omega
          have d3 : ((k : Int) == 3) = false := by rw [beq_eq_false_iff_ne]; omega
          have d5 : ((k : Int) == 5) = true := by rw [beq_iff_eq]; omega
          obtain ⟨i0, hi0, hz0, hz1, hz2'⟩ := info_parts infoU8
          go_wp2_with (at_make; refine wpList_make_full _ rfl _ _ 27 rfl wX.heap.size 5 i0 (.int .u8 0) 1 Try.underlying27 hi0 hz0 hz1 _ _ _ _ 8364 rfl rfl ?c1 ?c2 ?c3 ?c4 ?c5 ?_)
          case c1 => rfl
          case c2 => rfl
          case c3 => rw [hz2']; omega
          case c4 => unfold maxLen; omega
          case c5 => exact Nat.le_refl _
          intro w6 hown hgrow
          have hz6 := zeros_src hown
          have hb1 : Below wX.heap.size wX w6 := (Below.refl _ wX).grown hgrow (Nat.le_refl _) (by intro k hk; cases hk)
          have HXm := Hid.mk (HX.out.later hb1 (HX.out.d.later hb1))
          obtain ⟨Z, hZ⟩ : ∃ Z, Z = zs 8364 := ⟨_, rfl⟩
          rw [← hZ] at hz6
          have HZ := Hid.mk hz6
          have hst := B.Append_any HXm.out.d HXm.out.lp HOk.out HXm.out.nf (some ⟨wX.heap.size, 0, none⟩) 8364 8364 Z hz6.1 (fun y hy _ hf => by
            cases hy
            have : wX.heap.size < wX.heap.size := HX.out.d.lt _ hf
            omega) hz6.2.1 (Nat.le_refl _) (by omega) (by omega)
          clear hb1 hown hgrow hz6 hZ hi0 hz0 hz1 hz2'
          go_wp2_with fail
          refine hst.mono ?_
          rintro e w4 ⟨rfl, hd4, hl4, hk4⟩
          have HN : Hid (∃ F' S' L' c' r', SpI w w4 F F' p l s wb r' c' S' L' R ∧ c' ≤ r' + 2 * (b + 2) ∧ r' ≤ 100000 + 1000 * (k + 1)) := ⟨_, _, _, _, _, HXm.out.next hd4 hl4 hk4 (HXm.out.i.append (i := 0) rfl (d := Z) HZ.out.2.1 hd4.ok) (append_ref HOk.out _), by omega, by omega⟩
          clear hst hd4 hl4 hk4 HXm HX HOk
          go_wp2
          go_roundw
          case rel => exact ⟨k + 1, by omega, by go_num, HN.out⟩
          case measure => simp [intOf]; omega
        · have d0 : ((k : Int) == 0) = false := by rw [beq_eq_false_iff_ne]; omega
          have d1 : ((k : Int) == 1) = false := by rw [beq_eq_false_iff_ne]; omega
          have d2 : ((k : Int) == 2) = false := by rw [beq_eq_false_iff_ne]; omega
          have d3 : ((k : Int) == 3) = false := by rw [beq_eq_false_iff_ne]; omega
          have d5 : ((k : Int) == 5) = false := by rw [beq_eq_false_iff_ne]; omega
          have d4 : ((k : Int) == 4) = false := by rw [beq_eq_false_iff_ne]; omega
          have HN : Hid (∃ F' S' L' c' r', SpI w wX F F' p l s wb r' c' S' L' R ∧ c' ≤ r' + 2 * (b + 2) ∧ r' ≤ 100000 + 1000 * (k + 1)) := ⟨_, _, _, _, _, HX.out, by omega, by omega⟩
          clear HX HOk
          go_wp2
          go_roundw
          case rel => exact ⟨k + 1, by omega, by go_num, HN.out⟩
          case measure => simp [intOf]; omega
      · have q' : ¬ (k : Int) < 7 := by omega
        have HK := Hid.mk hI.kp
        clear hI
        go_wp2
        go_ret
        exact ⟨rfl, HK.out⟩
  · unfold Opened at ho
    rw [if_pos k0] at ho
    subst ho
    have hp6' : (lopen S s (a : Int) (b : Int)).2.puts.length ≤ 600 := by rw [HQ.out.pu]; exact Nat.zero_le _
    have hcn := fun (wx : World) (hb : Below w2.heap.size w2 wx) => B.dcounts (hd2.later hb) (by omega) (by unfold B.oRd; split <;> omega)
    have c3 : w2.cell? ⟨wb, 3, none⟩ = some (.int .i64 S.refused) := cell_of_block hx2 (j := 3) rfl
    have d0 : ((lopen S s (a : Int) (b : Int)).1 != 0) = true := by rw [bne_iff_ne]; exact k0
    have HX2 := Hid.mk hx2
    have HK2 := Hid.mk hk2'
    have HRf := Hid.mk HQ.out.rf
    clear hop hd2 hk2 hk2' hx2 hwlt hnF HBa HWb HQ HI HPu HFu HR0 HLt k0
    generalize (lopen S s (a : Int) (b : Int)).1 = E at *
    have hfd : ∀ (x0 x1 x2 x3 x4 : Int) (wx : World), (Instr.field 53 (.agg #[.int .i64 x0, .int .i64 x1, .int .i64 x2, .int .i64 x3, .int .i64 x4]) 3).run Try.prog wx = .ok (.int .i64 x3) wx := fun _ _ _ _ _ _ => by kernel_rfl
    go_wp2_with fail
    go_region_held3 (fun w' => w'.cell? ⟨wb, 3, none⟩ = some (.int .i64 S.refused))
      (first | exact c3 | exact cell_of_block hx4 (j := 3) rfl)
      ((go_at_call 24; refine (hcn _ (below_drew (Below.refl _ _))).mono ?_; rintro e w4 ⟨r4, rfl, _, hd4, hb4⟩; have hb5 := (below_drew (Below.refl w2.heap.size w2)).trans hb4; have hx4 := (hb5.block _ (lt_there HX2.out)).trans HX2.out; rw [HRf.out]))
    have HZ := Hid.mk (HK2.out.trans (Keeps.of_below (fun _ => False) hb5) (fun _ h => h.elim) : Keeps F w w4)
    clear hb4 hb5 hd4 hx4 hcn
    go_wp2
    go_ret
    exact ⟨by simp, HZ.out⟩
end Go.Proofs.Ytplpkppkaahchaa
end

section
namespace Go.Proofs.Ytplpkppkaahchaa
open Go.RowKit

theorem RecsAt.form {W : World} {B : Nat} {v : Value} {rs : List (List Int)} {X : Nat → Prop} (h : RecsAt W B v rs X) : ∃ a c, v = .slice a rs.length c ∧ ∀ i (hi : i < rs.length), ∃ b g x y, a = some ⟨b, 0, none⟩ ∧ W.cell? ⟨b, i, none⟩ = some (.slice (some ⟨g, 0, none⟩) (rs[i]).length y) ∧ Src W (some ⟨g, 0, none⟩) (rs[i]).length rs[i] ∧ x = g ∧ b < W.heap.size := by
  obtain ⟨vs, h1, h2⟩ := h
  by_cases h0 : rs.length = 0
  · obtain ⟨hl, ⟨rfl, h3⟩ | ⟨g, cap, cur, rfl, hg, hb, h4⟩⟩ := h1
    · exact ⟨none, 0, by rw [h0], fun i hi => by omega⟩
    · exact ⟨_, _, rfl, fun i hi => by omega⟩
  · obtain ⟨g, c, rfl, hg, hr, _⟩ := RowAt.of_owns h1 (by
      intro e
      obtain ⟨hl, ⟨rfl, h3⟩ | ⟨g, cap, cur, rfl, hg, hb, h4⟩⟩ := h1
      · exact h0 h3
      · cases e)
    refine ⟨_, _, rfl, fun i hi => ?_⟩
    obtain ⟨g2, c2, e1, e2, e3, _⟩ := h2 i hi
    exact ⟨g, g2, g2, c2, rfl, hr.cell e1, by have := e2.src; simpa using this, rfl, hr.lt⟩

set_option maxRecDepth 20000 in
set_option maxHeartbeats 2000000 in
theorem alike_any {w : World} {B B' : Nat} {v u : Value} {rs : List (List Int)} {X X' : Nat → Prop} (h1 : RecsAt w B v rs X) (h2 : RecsAt w B' u rs X') (hn : rs.length ≤ 1000000) (hl : ∀ i (hi : i < rs.length), (rs[i]).length ≤ 1000000) :
    Calls Try.prog 14 #[v, u] w fun e w' => e = .returned (.bool true) ∧ Below w.heap.size w w' := by
  obtain ⟨a, c, rfl, k1⟩ := h1.form
  obtain ⟨a', c', rfl, k2⟩ := h2.form
  have H1 := Hid.mk k1
  have H2 := Hid.mk k2
  clear h1 h2 k1 k2
  go_enter Try.func14, Try.ntmps14
  go_wp2
  go_loopw [5] (fun i wr => ∃ j : Nat, j ≤ rs.length ∧ i = .int .i64 (j : Int) ∧ Below w.heap.size w wr) (fun i _ => rs.length - (intOf i).toNat)
  case atStart => exact ⟨0, Nat.zero_le _, rfl, Below.refl _ _⟩
  case round =>
    obtain ⟨j, hj, rfl, hbr⟩ := hrel
    have HB := Hid.mk hbr
    have hz := hbr.size
    by_cases hlt : j < rs.length
    · have hlt' : (j : Int) < (rs.length : Int) := by omega
      obtain ⟨b, g, x, y, rfl, c1, s1, _, hb1⟩ := H1.out j hlt
      obtain ⟨b', g', x', y', rfl, c2, s2, _, hb2⟩ := H2.out j hlt
      have c1 := cell_later hbr c1
      have c2 := cell_later hbr c2
      have h3 := same_any (some ⟨g, 0, none⟩) (some ⟨g', 0, none⟩) (rs[j]).length y y' rs[j] wr.drew (by have := hl j hlt; omega) ((s1.later hbr).later (below_drew (Below.refl wr.heap.size wr))) ((s2.later hbr).later (below_drew (Below.refl wr.heap.size wr)))
      clear hbr s1 s2
      go_wp2_with fail
      go_region_held3 (fun w' => w'.cell? ⟨b, j, none⟩ = some (.slice (some ⟨g, 0, none⟩) (rs[j]).length y) ∧ w'.cell? ⟨b', j, none⟩ = some (.slice (some ⟨g', 0, none⟩) (rs[j]).length y'))
        (first | exact ⟨c1, c2⟩ | exact ⟨cell_later hw1 c1, cell_later hw1 c2⟩)
        ((go_at_call 10; refine h3.mono ?_; rintro e w1 ⟨rfl, hw1⟩))
      have HB1 : Hid (Below w.heap.size w w1) := HB.out.trans ((below_drew (Below.refl wr.heap.size wr)).trans hw1 |>.mono hz)
      clear h3 hw1
      go_wp2
      go_roundw
      case rel => exact ⟨j + 1, by omega, by go_num, HB1.out⟩
      case measure => simp [intOf]; omega
    · obtain rfl : j = rs.length := by omega
      have hge : ¬ (rs.length : Int) < (rs.length : Int) := by omega
      go_wp2
      go_ret
      exact ⟨rfl, HB.out⟩
end Go.Proofs.Ytplpkppkaahchaa
end
