import Derived.Test.YtkgnkdnipcacgaaSD6
namespace Go.Proofs.Ytkgnkdnipcacgaa
open Go.RowKit

/-- A list of beats: they lie below B, and so do their lists. -/
def Beats (w : World) (B : Nat) (sa : Option Addr) (n : Nat) : Prop :=
  (sa = none → n = 0) ∧ ∀ y, sa = some y → ∀ i, i < n → ∃ b o, y = ⟨b, o, none⟩ ∧ b < B ∧ ∃ kind x a m c pa pn pc l pl,
    w.cell? ⟨b, o + i * 4, none⟩ = some (.int .i64 kind) ∧ w.cell? ⟨b, o + i * 4 + 1, none⟩ = some (.int .i64 x) ∧ w.cell? ⟨b, o + i * 4 + 2, none⟩ = some (.slice a m c) ∧ w.cell? ⟨b, o + i * 4 + 3, none⟩ = some (.slice pa pn pc) ∧ OpOk w B x a m pa pn l pl ∧ Bytes l
theorem Beats.far {w w' : World} {B : Nat} {sa : Option Addr} {n : Nat} (h : Beats w B sa n) (hb : Below B w w') : Beats w' B sa n := by
  refine ⟨h.1, fun y hy i hi => ?_⟩
  obtain ⟨b, o, rfl, hbB, kind, x, a, m, c, pa, pn, pc, l, pl, c0, c1, c2, c3, ho, hl⟩ := h.2 y hy i hi
  have e := hb.block b hbB
  exact ⟨b, o, rfl, hbB, kind, x, a, m, c, pa, pn, pc, l, pl, (World.cell?_of_block (w := w) (a := ⟨b, _, none⟩) e).trans c0, (World.cell?_of_block (w := w) (a := ⟨b, _, none⟩) e).trans c1, (World.cell?_of_block (w := w) (a := ⟨b, _, none⟩) e).trans c2, (World.cell?_of_block (w := w) (a := ⟨b, _, none⟩) e).trans c3, ho.far hb, hl⟩

section
variable {w0 w w' w1 w2 : World} {F F' : Nat → Prop} {kb p n m : Nat} {S S' : DS} {su ma su' ma' : NwT} {op op' : Bool} {sp mp sp' mp' : Option Addr} {sc mc sc' mc' : Nat}

theorem beat_any (h : BenchAt w0 w F kb p S su ma op n sp mp sc mc) (kn : Knows S su ma op) (hn : n + 6 ≤ 4000000000000) (kind x : Int) (a : Option Addr) (m c : Nat) (pa : Option Addr) (pn pc : Nat) (l : List Int) (pl : List P3) (ho : OpOk w w0.heap.size x a m pa pn l pl) (hl : Bytes l) :
    Calls Try.prog 44 #[.pointer (some ⟨kb, 0, none⟩), opV kind x a m c pa pn pc] w (BeatOut w0 w F kb p (n + 1)) := by
  by_cases k1 : kind = 1
  · subst k1; exact beat_one h kn hn x a m c pa pn pc l pl ho hl
  by_cases k2 : kind = 2
  · subst k2; exact beat_two h kn hn x a m c pa pn pc l pl ho hl
  by_cases k3 : kind = 3
  · subst k3
    obtain ⟨q, hq, e, hk⟩ := kn.crash h.dk.ok pl
    by_cases z : q = su
    · subst z; exact beat_three1 h kn hn pl e hk x a m c pa pn pc l ho hl
    · have z2 : q = ma := hq.resolve_left z
      subst z2; exact beat_three2 h kn hn pl e hk z x a m c pa pn pc l ho hl
  by_cases k4 : kind = 4
  · subst k4
    by_cases x2 : x = 2
    · exact beat_four2 h kn hn x x2 a m c pa pn pc l pl ho hl
    by_cases x4 : x = 4
    · exact beat_four4 h kn hn x x4 a m c pa pn pc l pl ho hl
    exact beat_four0 h kn hn x x2 x4 a m c pa pn pc l pl ho hl
  exact beat_else h kn hn kind k1 k2 k3 k4 x a m c pa pn pc l pl ho hl

set_option maxRecDepth 20000 in
set_option maxHeartbeats 8000000 in
theorem sealDisk_any (sa : Option Addr) (sn sc : Nat) (w : World) (hsc : Beats w w.heap.size sa sn) (hsn : 64 * sn ≤ 140737488355328) :
    Calls Try.prog 6 #[.slice sa sn sc] w fun e w' => e = .returned (.bool true) ∧ Below w.heap.size w w' := by
  have h1 := new_ok 5 w (by omega) (by omega)
  have HSc := Hid.mk hsc
  clear hsc
  go_enter Try.func6, Try.ntmps6
  go_wp2_with fail
  refine h1.mono ?_
  rintro e w1 ⟨p, rfl, hd1, hb1⟩
  have hz1 := hb1.size
  have HD := Hid.mk hd1
  have HB1 := Hid.mk hb1
  clear h1 hd1 hb1
  go_wp2_with fail
  refine (lnum_any _ _).mono ?_
  rintro e w' ⟨rfl, hw⟩
  have hw' := hw.symm
  subst hw'
  clear hw
  go_wp2_with fail
  refine (first_any _).mono ?_
  rintro e w2 ⟨rfl, hb2⟩
  have hz2 := hb2.size
  have hb12 := HB1.out.trans (hb2.mono hz1)
  have hbA := (hb12.alloc hb12.size (.cells #[.int .i64 0, .int .i64 0, .slice none 0 0, .int .i64 30] 75))
  have hbB := hbA.alloc hbA.size (.cells (bnC p (0, 0, [], 30) (0, 0, [], 30) none none 0 0 false) 78)
  have hq := heap_alloc_new (w2.alloc (.cells #[.int .i64 0, .int .i64 0, .slice none 0 0, .int .i64 30] 75)) (.cells (bnC p (0, 0, [], 30) (0, 0, [], 30) none none 0 0 false) 78)
  have hsz : (w2.alloc (.cells #[.int .i64 0, .int .i64 0, .slice none 0 0, .int .i64 30] 75)).heap.size = w2.heap.size + 1 := by simp
  rw [hsz] at hq
  have hbC := hb2.alloc hz2 (.cells #[.int .i64 0, .int .i64 0, .slice none 0 0, .int .i64 30] 75)
  have hbD := hbC.alloc hbC.size (.cells (bnC p (0, 0, [], 30) (0, 0, [], 30) none none 0 0 false) 78)
  have hd2 := HD.out.keep (Keeps.of_below (fun _ => False) hbD) (fun _ _ h => h)
  have hsr : ∀ W : World, Src W none 0 [] := fun W => ⟨rfl, fun _ => rfl, fun x hx => by cases hx⟩
  have HN : Hid (∃ F S su ma op sp mp sc mc, BenchAt w ((w2.alloc (.cells #[.int .i64 0, .int .i64 0, .slice none 0 0, .int .i64 30] 75)).alloc (.cells (bnC p (0, 0, [], 30) (0, 0, [], 30) none none 0 0 false) 78)) F (w2.heap.size + 1) p S su ma op 0 sp mp sc mc ∧ Knows S su ma op) :=
    ⟨_, _, (0, 0, [], 30), (0, 0, [], 30), false, none, none, 0, 0, ⟨hd2, fun k hk => hk.1, hbB, by omega, fun hk => by have := hk.2; omega, ⟨Knows.first.fu, Knows.first.byt⟩, Nat.le_refl 0, hq, hsr _, hsr _, (fun x hx => by cases hx), (fun x hx => by cases hx)⟩, Knows.first⟩
  clear hb2 hb12 hbA hbB hbC hbD hq hsz hd2 hsr HD HB1
  go_wp2
  go_loopw [7] (fun i wr => ∃ j : Nat, j ≤ sn ∧ i = .int .i64 (j : Int) ∧ ∃ F S su ma op sp mp sc mc, BenchAt w wr F (w2.heap.size + 1) p S su ma op j sp mp sc mc ∧ Knows S su ma op) (fun i _ => sn - (intOf i).toNat)
  case atStart => exact ⟨0, Nat.zero_le _, rfl, HN.out⟩
  case round =>
    clear HN
    obtain ⟨j, hj, rfl, F, S, su, ma, op, sp, mp, sc', mc, hB, kn⟩ := hrel
    generalize w2.heap.size + 1 = kb at *
    by_cases hlt : j < sn
    · have hlt' : (j : Int) < (sn : Int) := by omega
      have hj0 : (0 : Int) ≤ (j : Int) := by omega
      obtain ⟨y, rfl⟩ : ∃ y, sa = some y := by
        cases sa with
        | none => have := HSc.out.1 rfl; omega
        | some y => exact ⟨y, rfl⟩
      obtain ⟨b, o, rfl, hbB, kind, x, a, m, c, pa, pn, pc, l, pl, c0, c1, c2, c3, ho, hl⟩ := (HSc.out.far hB.bel).2 y rfl j hlt
      have hbt := beat_any hB kn (by omega) kind x a m c pa pn pc l pl ho hl
      have hz0 := hB.bel.size
      clear hB kn ho hl
      go_wp2_with fail
      refine hbt.mono ?_
      rintro e w4 ⟨rfl, hk4, F4, S4, su4, ma4, op4, sp4, mp4, sc4, mc4, hB4, kn4⟩
      have hlk := look_any hB4 kn4.isMa (by omega)
      obtain ⟨A, B, D, E⟩ := ma4
      have HKn := Hid.mk kn4
      have hDs := kn4.small.2
      clear hbt hk4 hB4 kn4 c0 c1 c2 c3
      go_wp2_with fail
      refine hlk.mono ?_
      rintro e w7 ⟨pp, pc7, gl, cl, gr, cr, S7, rfl, hpa, hpx, hgl, hgr, hsi, hB7, hk7⟩
      have hbx := below_box w7 (.cells #[.int .i64 (A : Int), .int .i64 (B : Int), .slice pp D.length pc7, .int .i64 (E : Int)] 75)
      have hq : (w7.alloc (.cells #[.int .i64 (A : Int), .int .i64 (B : Int), .slice pp D.length pc7, .int .i64 (E : Int)] 75)).heap[w7.heap.size]? = some (.cells #[.int .i64 (A : Int), .int .i64 (B : Int), .slice pp D.length pc7, .int .i64 (E : Int)] 75 (0, 0)) := heap_alloc_new _ _
      have HB8 := Hid.mk (hB7.later hbx)
      have HPa := Hid.mk (hpa.later hbx)
      have HQ8 := Hid.mk hq
      have HK7 := Hid.mk (HKn.out.same hsi.1 hsi.2.1 hsi.2.2)
      have hz8 : w7.heap.size < (w7.alloc (.cells #[.int .i64 (A : Int), .int .i64 (B : Int), .slice pp D.length pc7, .int .i64 (E : Int)] 75)).heap.size := (Array.getElem?_eq_some_iff.1 hq).1
      clear hlk hpa hpx hgl hgr hsi hB7 hk7 hbx hq HKn
      dsimp only at *
      go_wp2_with fail
      generalize w7.alloc (.cells #[.int .i64 (A : Int), .int .i64 (B : Int), .slice pp D.length pc7, .int .i64 (E : Int)] 75) = w8 at *
      have hdr := below_drew (Below.refl w8.heap.size w8)
      have hal := alike_any A B E A B E D D pp pc7 mp4 mc4 w8.drew (HPa.out.later hdr) (HB8.out.ms.later hdr) (by omega)
      rw [decide_eq_true rfl] at hal
      have HDr8 := Hid.mk hdr
      have HC : Hid (∀ wx, Below w8.heap.size w8 wx → (wx.cell? ⟨w7.heap.size, 0, none⟩ = some (.int .i64 (A : Int)) ∧ wx.cell? ⟨w7.heap.size, 1, none⟩ = some (.int .i64 (B : Int)) ∧ wx.cell? ⟨w7.heap.size, 2, none⟩ = some (.slice pp D.length pc7) ∧ wx.cell? ⟨w7.heap.size, 3, none⟩ = some (.int .i64 (E : Int))) ∧ (wx.cell? ⟨kb, 5, none⟩ = some (.int .i64 (A : Int)) ∧ wx.cell? ⟨kb, 6, none⟩ = some (.int .i64 (B : Int)) ∧ wx.cell? ⟨kb, 7, none⟩ = some (.slice mp4 D.length mc4) ∧ wx.cell? ⟨kb, 8, none⟩ = some (.int .i64 (E : Int)))) := Hid.mk (fun wx hb => by
        have e1 := (hb.block w7.heap.size hz8).trans HQ8.out
        have e2 := (HB8.out.later hb).bl
        exact ⟨⟨cell_of_block e1 (j := 0) rfl, cell_of_block e1 (j := 1) rfl, cell_of_block e1 (j := 2) rfl, cell_of_block e1 (j := 3) rfl⟩, cell_of_block e2 (j := 5) rfl, cell_of_block e2 (j := 6) rfl, cell_of_block e2 (j := 7) rfl, cell_of_block e2 (j := 8) rfl⟩)
      clear hdr
      go_region_held3 (fun w' => (w'.cell? ⟨w7.heap.size, 0, none⟩ = some (.int .i64 (A : Int)) ∧ w'.cell? ⟨w7.heap.size, 1, none⟩ = some (.int .i64 (B : Int)) ∧ w'.cell? ⟨w7.heap.size, 2, none⟩ = some (.slice pp D.length pc7) ∧ w'.cell? ⟨w7.heap.size, 3, none⟩ = some (.int .i64 (E : Int))) ∧ (w'.cell? ⟨kb, 5, none⟩ = some (.int .i64 (A : Int)) ∧ w'.cell? ⟨kb, 6, none⟩ = some (.int .i64 (B : Int)) ∧ w'.cell? ⟨kb, 7, none⟩ = some (.slice mp4 D.length mc4) ∧ w'.cell? ⟨kb, 8, none⟩ = some (.int .i64 (E : Int))))
        (first | exact HC.out _ HDr8.out | exact HC.out _ hb89)
        ((go_at_call 46; refine hal.mono ?_; rintro e w9 ⟨rfl, hb9⟩; have hb89 : Below w8.heap.size w8 w9 := HDr8.out.trans (hb9.mono (Nat.le_refl _))))
      have HB9 := Hid.mk (HB8.out.later hb89)
      clear hal hb9 hb89 HC HB8 HPa HQ8 HDr8
      go_wp2
      go_roundw
      case rel => exact ⟨j + 1, by omega, by go_num, _, _, _, _, _, _, _, _, _, HB9.out, HK7.out⟩
      case measure => simp [intOf]; omega
    · have hlt' : ¬ (j : Int) < (sn : Int) := by omega
      have HB := Hid.mk hB.bel
      clear hB kn
      go_wp2
      go_ret
      exact ⟨rfl, HB.out⟩
end
end Go.Proofs.Ytkgnkdnipcacgaa
