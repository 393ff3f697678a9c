import Derived.Test.YtimfidcpljimpabKEntQ
import Derived.Test.YtimfidcpljimpabKOpenL
import Derived.Test.YtimfidcpljimpabKOpenE
import Derived.Test.YtimfidcpljimpabKHelp
import Derived.Laws.StructEq
namespace Go.Proofs.Ytimfidcpljimpab
open Go.RowKit

/-- An entry's box. -/
def Box4 (w : World) (g : Nat) : Prop := ∃ a0 a1 a2 a3 : Value, w.heap[g]? = some (.cells #[a0, a1, a2, a3] 38 (0, 0))
theorem Box4.far {w w' : World} {g : Nat} (h : Box4 w g) (hb : Below w.heap.size w w') : Box4 w' g := by
  obtain ⟨a0, a1, a2, a3, h⟩ := h
  exact ⟨a0, a1, a2, a3, (hb.block g (Array.getElem?_eq_some_iff.1 h).1).trans h⟩
theorem Box4.keep {w w' : World} {F : Nat → Prop} {g : Nat} (h : Box4 w g) (hk : Keeps F w w') (hg : ¬ F g) : Box4 w' g := by
  obtain ⟨a0, a1, a2, a3, h⟩ := h
  exact ⟨a0, a1, a2, a3, (hk.block g (Array.getElem?_eq_some_iff.1 h).1 hg).trans h⟩
theorem Box4.lt {w : World} {g : Nat} (h : Box4 w g) : g < w.heap.size := by
  obtain ⟨a0, a1, a2, a3, h⟩ := h
  exact (Array.getElem?_eq_some_iff.1 h).1
theorem set4 {w : World} {b : Nat} {t : TypeId} {a0 a1 a2 a3 v0 v1 v2 v3 : Value} (h : w.heap[b]? = some (.cells #[a0, a1, a2, a3] t (0, 0))) :
    ((((w.setCell ⟨b, 0, none⟩ v0).setCell ⟨b, 1, none⟩ v1).setCell ⟨b, 2, none⟩ v2).setCell ⟨b, 3, none⟩ v3).heap[b]? = some (.cells #[v0, v1, v2, v3] t (0, 0)) :=
  heap_setCell_same _ _ _ _ _ _ (heap_setCell_same _ _ _ _ _ _ (heap_setCell_same _ _ _ _ _ _ (heap_setCell_same _ _ _ _ _ _ h)))
theorem keep4 (w : World) (b : Nat) (v0 v1 v2 v3 : Value) : Keeps (fun k => k = b) w ((((w.setCell ⟨b, 0, none⟩ v0).setCell ⟨b, 1, none⟩ v1).setCell ⟨b, 2, none⟩ v2).setCell ⟨b, 3, none⟩ v3) := by
  have e : ∀ (w : World) (i : Nat) (v : Value), Keeps (fun k => k = b) w (w.setCell ⟨b, i, none⟩ v) := fun w i v => Keeps.setCell (F := fun k => k = b) w (p := ⟨b, i, none⟩) rfl v
  exact (((e w 0 v0).trans (e _ 1 v1) (fun _ h => .inl h)).trans (e _ 2 v2) (fun _ h => .inl h)).trans (e _ 3 v3) (fun _ h => .inl h)
theorem RowAt.ne4 {w : World} {g c q : Nat} {xs : List Value} (h : RowAt w 5 g c xs) (hq : Box4 w q) : g ≠ q := by
  obtain ⟨a0, a1, a2, a3, hq⟩ := hq
  exact h.ne hq (by decide)

set_option maxRecDepth 20000 in
set_option maxHeartbeats 8000000 in
theorem codecEntries_any (a : Option Addr) (n c : Nat) (a2 : Option Addr) (n2 c2 : Nat) (w : World) (hs : Entries w w.heap.size a n) (hn : 40 * n ≤ 140737488355328) (hs2 : Lists w w.heap.size a2 n2) (hn2 : 24 * n2 ≤ 140737488355328) :
    Calls Try.prog 7 #[.slice a n c, .slice a2 n2 c2] w fun e w' => e = .returned (.bool true) ∧ Below w.heap.size w w' := by
  have h0 := decent_len none 0 0 w (by decide) (by omega)
  have Hs := Hid.mk hs
  have Hs2 := Hid.mk hs2
  clear hs hs2
  go_enter Try.func7, Try.ntmps7
  go_wp2_with fail
  refine h0.mono ?_
  rintro e w1 ⟨rfl, hb1⟩
  have HB1 := Hid.mk (fun o => hb1.alloc hb1.size o)
  clear h0 hb1
  go_wp2
  go_loopw [7] (fun i wr => ∃ k : Nat, k ≤ n ∧ i = .int .i64 k ∧ Below w.heap.size w wr) (fun i _ => n - (intOf i).toNat)
  case atStart => exact ⟨0, Nat.zero_le _, rfl, HB1.out _⟩
  case round =>
    clear HB1
    obtain ⟨k, hk, rfl, hbr⟩ := hrel
    by_cases hlt : k < n
    · have hlt' : (k : Int) < (n : Int) := by omega
      obtain ⟨x, rfl⟩ : ∃ x, a = some x := by
        cases a with
        | none => have := Hs.out.1 rfl; omega
        | some x => exact ⟨x, rfl⟩
      obtain ⟨b, o, rfl, hbB, s, l, y, m, q0, q1, q2, q3, _⟩ := (Hs.out.far hbr).2 x rfl k hlt
      have he := encent_any s l y m wr
      have hr := Hid.mk (fun wx => rencent_any s l y m wx)
      have hle := entEnc_len s l y
      have HB := Hid.mk hbr
      have Q := Hid.mk (And.intro q0 (And.intro q1 (And.intro q2 q3)))
      have hself : ((entEnc s l y).2 != (entEnc s l y).2) = false := by simp
      generalize entEnc s l y = E at *
      obtain ⟨E1, E2⟩ := E
      clear hbr
      go_wp2_with fail
      refine he.mono ?_
      rintro e w2 ⟨v, rfl, a1, c1, rfl, hsrc1, hb2⟩
      have q0 := cell_later hb2 Q.out.1
      have q1 := cell_later hb2 Q.out.2.1
      have q2 := cell_later hb2 Q.out.2.2.1
      have q3 := cell_later hb2 Q.out.2.2.2
      have HB2 : Hid (Below w.heap.size w w2) := HB.out.trans (hb2.mono HB.out.size)
      have Hsrc1 := Hid.mk hsrc1
      clear he hsrc1 hb2 HB Q
      go_wp2_with fail
      refine (hr.out _).mono ?_
      rintro e w3 ⟨v3, rfl, a3, c3, rfl, hsrc3, hb3⟩
      have hsa := same_any a1 a3 E1.length c1 c3 E1 w3 (by omega) (Hsrc1.out.later hb3) hsrc3
      have HB3 : Hid (Below w.heap.size w w3) := HB2.out.trans (hb3.mono HB2.out.size)
      clear hr hsrc3 hb3 HB2 Hsrc1 q0 q1 q2 q3
      go_wp2_with fail
      refine hsa.mono ?_
      rintro e w4 ⟨rfl, hb4⟩
      have HB4 : Hid (Below w.heap.size w w4) := HB3.out.trans (hb4.mono HB3.out.size)
      clear hsa hb4 HB3
      go_wp2
      go_roundw
      case rel => exact ⟨k + 1, by omega, by go_num, HB4.out⟩
      case measure => simp [intOf]; omega
    · have hlt' : ¬ (k : Int) < (n : Int) := by omega
      have HB := Hid.mk hbr
      clear hbr
      go_wp2
      go_loopw [12] (fun i wx => ∃ k : Nat, k ≤ n2 ∧ i = .int .i64 k ∧ Below w.heap.size w wx) (fun i _ => n2 - (intOf i).toNat)
      case atStart => exact ⟨0, Nat.zero_le _, rfl, HB.out⟩
      case round =>
        clear HB
        obtain ⟨j, hj, rfl, hbr⟩ := hrel
        by_cases hltj : j < n2
        · have hltj' : (j : Int) < (n2 : Int) := by omega
          obtain ⟨x, rfl⟩ : ∃ x, a2 = some x := by
            cases a2 with
            | none => have := Hs2.out.1 rfl; omega
            | some x => exact ⟨x, rfl⟩
          obtain ⟨b, o, rfl, hbB, a', n', c', l, q0, hsrc, hby, hold, hn', hcap⟩ := (Hs2.out.far hbr).2 x rfl j hltj
          have ht := twin_any a' n' c' l wr hn' hsrc
          have HB := Hid.mk hbr
          have Hsrc := Hid.mk hsrc
          have hll := hsrc.1
          clear hbr hsrc
          go_wp2_with fail
          refine ht.mono ?_
          rintro e w3 ⟨g, rfl, hg, hrow, hb3⟩
          have q3 := cell_later hb3 q0
          have hd := decent_any (some ⟨g, 0, none⟩) n' (n' + 5) l w3 (pad_src hrow hll) hby hn' (by omega) (by omega)
          have HB3 : Hid (Below w.heap.size w w3) := HB.out.trans (hb3.mono HB.out.size)
          have Hrow := Hid.mk hrow
          have Hs3 := Hid.mk (Hsrc.out.later hb3)
          have hself3 : ∀ z : Int, (z != z) = false := fun z => by simp
          have HR := Hid.mk (fun (wx : World) (hx : Src wx a' n' l) => rdecent_all a' n' c' l wx hx hby hn' hcap)
          generalize entDec l = D at *
          obtain ⟨X, Y, Z, E⟩ := D
          clear ht hb3 hrow q0 HB Hsrc
          go_wp2_with fail
          refine hd.mono ?_
          rintro e w4 ⟨rfl, hb4⟩
          have HB4 : Below w.heap.size w w4 := HB3.out.trans (hb4.mono HB3.out.size)
          obtain ⟨w5, hw5⟩ : ∃ w5, w5 = w4.alloc (.cells #[.int .i64 X, .int .i64 Y, .string Z, .int .i64 0] 38) := ⟨_, rfl⟩
          have hb5 : Below w4.heap.size w4 w5 := by rw [hw5]; exact (Below.refl _ w4).alloc (Nat.le_refl _) _
          have k5 : w5.heap[w4.heap.size]? = some (.cells #[.int .i64 X, .int .i64 Y, .string Z, .int .i64 0] 38 (0, 0)) := by rw [hw5]; exact heap_alloc_new _ _
          have q5 := cell_later hb5 (cell_later hb4 q3)
          have Hs5 := Hid.mk ((Hs3.out.later hb4).later hb5)
          have HB5 : Hid (Below w.heap.size w w5) := HB4.trans (hb5.mono HB4.size)
          have Hrow5 := Hid.mk ((Hrow.out.agree (hb4.block g Hrow.out.lt)).agree (hb5.block g (Nat.lt_of_lt_of_le Hrow.out.lt hb4.size)))
          have hgw := Hid.mk (show w.heap.size ≤ w4.heap.size from HB4.size)
          have HR5 := HR.out w5 Hs5.out
          have K5 := Hid.mk k5
          have Q5 := Hid.mk q5
          rw [hw5] at q5
          clear hd hb4 q3 Hs3 Hrow HB3 HB4 hb5 k5 HR
          go_wp2_with fail
          rw [← hw5]
          clear hw5
          refine HR5.mono ?_
          rintro e w6 ⟨rfl, hb6⟩
          have hz6 : w4.heap.size < w6.heap.size := Nat.lt_of_lt_of_le (Array.getElem?_eq_some_iff.1 K5.out).1 hb6.size
          have k6 := (hb6.block _ (Array.getElem?_eq_some_iff.1 K5.out).1).trans K5.out
          obtain ⟨w7, hw7⟩ : ∃ w7, w7 = w6.alloc (.cells #[.int .i64 X, .int .i64 Y, .string Z, .int .i64 0] 38) := ⟨_, rfl⟩
          have hb7 : Below w6.heap.size w6 w7 := by rw [hw7]; exact (Below.refl _ w6).alloc (Nat.le_refl _) _
          have hz7 : w7.heap.size = w6.heap.size + 1 := by rw [hw7]; simp
          have k7 : w7.heap[w4.heap.size]? = some (.cells #[.int .i64 X, .int .i64 Y, .string Z, .int .i64 0] 38 (0, 0)) := (hb7.block _ hz6).trans k6
          have m7 : w7.heap[w6.heap.size]? = some (.cells #[.int .i64 X, .int .i64 Y, .string Z, .int .i64 0] 38 (0, 0)) := by rw [hw7]; exact heap_alloc_new _ _
          have q7 := cell_later hb7 (cell_later hb6 Q5.out)
          have HB7 : Hid (Below w.heap.size w w7) := (HB5.out.trans (hb6.mono HB5.out.size)).trans (hb7.mono (Nat.le_trans HB5.out.size hb6.size))
          have hs7 := (Hs5.out.later hb6).later hb7
          have hrow7 := (Hrow5.out.agree (hb6.block g Hrow5.out.lt)).agree (hb7.block g (Nat.lt_of_lt_of_le Hrow5.out.lt hb6.size))
          have c0 := cell_of_block k7 (j := 0) rfl
          have c1 := cell_of_block k7 (j := 1) rfl
          have c2 := cell_of_block k7 (j := 2) rfl
          have c3 := cell_of_block k7 (j := 3) rfl
          have d0 := cell_of_block m7 (j := 0) rfl
          have d1 := cell_of_block m7 (j := 1) rfl
          have d2 := cell_of_block m7 (j := 2) rfl
          have d3 := cell_of_block m7 (j := 3) rfl
          have hwh := whole_any g n' a' c' l w7 hn' hrow7 hs7
          have B7 : Hid (Box4 w7 w4.heap.size ∧ Box4 w7 w6.heap.size) := ⟨⟨_, _, _, _, k7⟩, ⟨_, _, _, _, m7⟩⟩
          have Hs7 := Hid.mk hs7
          have Q7 := Hid.mk q7
          rw [hw7] at c0 c1 c2 c3 d0 d1 d2 d3 q7
          clear HR5 hb6 q5 Q5 Hs5 HB5 Hrow5 K5 k6 hb7 k7 m7 hs7 hrow7
          go_wp2_with fail
          rw [← hw7]
          clear c0 c1 c2 c3 d0 d1 d2 d3 q7 hw7
          refine hwh.mono ?_
          rintro e w8 ⟨rfl, hb8⟩
          have q8 := cell_later hb8 Q7.out
          have hti := tight_any a' n' c' l w8 hn' (Hs7.out.later hb8)
          have HB8 : Hid (Below w.heap.size w w8) := HB7.out.trans (hb8.mono HB7.out.size)
          have B8 := Hid.mk (And.intro (B7.out.1.far hb8) (B7.out.2.far hb8))
          clear hwh hb8 HB7 B7 Hs7 Q7
          go_wp2_with fail
          refine hti.mono ?_
          rintro e w9 ⟨g9, rfl, hg9, hrow9, hb9⟩
          have hL : Hid (Below w.heap.size w w9 ∧ Box4 w9 w4.heap.size ∧ Box4 w9 w6.heap.size ∧ ∃ l', RowAt w9 5 g9 n' (bs l') ∧ l'.length = n' ∧ Bytes l') := ⟨HB8.out.trans (hb9.mono HB8.out.size), B8.out.1.far hb9, B8.out.2.far hb9, l, hrow9, hll, hby⟩
          have hg9' : w.heap.size ≤ g9 := Nat.le_trans HB8.out.size hg9
          have hgw' := hgw.out
          clear hti hb9 hrow9 HB8 B8 hg9 q8 hgw
          go_wp2
          go_loopw [19] (fun i wx => ∃ m : Nat, m ≤ 3 ∧ i = .int .i64 m ∧ Below w.heap.size w wx ∧ Box4 wx w4.heap.size ∧ Box4 wx w6.heap.size ∧ ∃ l', RowAt wx 5 g9 n' (bs l') ∧ l'.length = n' ∧ Bytes l') (fun i _ => 3 - (intOf i).toNat)
          case atStart => exact ⟨0, Nat.zero_le _, rfl, hL.out⟩
          case round =>
            clear hL
            obtain ⟨m, hm, rfl, hbx, hx1, hx2, l', hrow, hll', hby'⟩ := hrel
            by_cases hlm : m < 3
            · have hlm' : (m : Int) < 3 := by omega
              have hsr : ∀ wz : World, RowAt wz 5 g9 n' (bs l') → Src wz (some ⟨g9, 0, none⟩) n' l' := fun wz h => by have := h.src; rw [hll'] at this; exact this
              have hd := decent_any (some ⟨g9, 0, none⟩) n' n' l' wr (hsr _ hrow) hby' hn' (Nat.le_refl _) (by omega)
              have HRd := Hid.mk (fun (gg : Nat) (wx : World) (hx : Src wx (some ⟨gg, 0, none⟩) n' l') => rdecent_all (some ⟨gg, 0, none⟩) n' n' l' wx hx hby' hn' (Nat.le_refl _))
              have Hrow := Hid.mk hrow
              have HB0 := Hid.mk hbx
              have HX := Hid.mk (And.intro hx1 hx2)
              have Hsr := Hid.mk hsr
              generalize entDec l' = D' at *
              obtain ⟨X', Y', Z', E'⟩ := D'
              clear hrow hbx hsr hx1 hx2
              go_wp2_with fail
              refine hd.mono ?_
              rintro e wa ⟨rfl, hba⟩
              obtain ⟨a0, a1, a2', a3', hka⟩ := HX.out.1.far hba
              have x2a := HX.out.2.far hba
              have rowa := Hrow.out.agree (hba.block g9 Hrow.out.lt)
              have HBa : Below w.heap.size w wa := HB0.out.trans (hba.mono HB0.out.size)
              have c0 := cell_of_block hka (j := 0) rfl
              have c1 := cell_of_block hka (j := 1) rfl
              have c2 := cell_of_block hka (j := 2) rfl
              have c3 := cell_of_block hka (j := 3) rfl
              have f0 := frozen_of_block hka 0
              have f1 := frozen_of_block hka 1
              have f2 := frozen_of_block hka 2
              have f3 := frozen_of_block hka 3
              obtain ⟨wb, hwb⟩ : ∃ wb, wb = (((wa.setCell ⟨w4.heap.size, 0, none⟩ (.int .i64 X')).setCell ⟨w4.heap.size, 1, none⟩ (.int .i64 Y')).setCell ⟨w4.heap.size, 2, none⟩ (.string Z')).setCell ⟨w4.heap.size, 3, none⟩ (.int .i64 0) := ⟨_, rfl⟩
              have kb : wb.heap[w4.heap.size]? = some (.cells #[.int .i64 X', .int .i64 Y', .string Z', .int .i64 0] 38 (0, 0)) := by rw [hwb]; exact set4 hka
              have Kb : Keeps (fun q => q = w4.heap.size) wa wb := by rw [hwb]; exact keep4 _ _ _ _ _ _
              have x2b := x2a.keep Kb (by omega)
              have rowb := rowa.agree (Kb.block g9 rowa.lt (rowa.ne4 ⟨a0, a1, a2', a3', hka⟩))
              have HBb : Below w.heap.size w wb := HBa.trans (Kb.below (fun q hq => by omega) HBa.size)
              have hti := tight_any (some ⟨g9, 0, none⟩) n' n' l' wb hn' (Hsr.out _ rowb)
              have S1 := Hid.mk (And.intro kb (And.intro x2b (And.intro rowb HBb)))
              clear hd hba hka x2a rowa HBa HX Hrow HB0 kb Kb x2b rowb HBb
              go_wp2_with fail
              rw [← hwb]
              clear hwb c0 c1 c2 c3 f0 f1 f2 f3
              refine hti.mono ?_
              rintro e wc ⟨gc, rfl, hgc, rowc, hbc⟩
              have kc := (hbc.block _ (Array.getElem?_eq_some_iff.1 S1.out.1).1).trans S1.out.1
              have x2c := S1.out.2.1.far hbc
              have rowc2 := S1.out.2.2.1.agree (hbc.block g9 S1.out.2.2.1.lt)
              have HBc : Below w.heap.size w wc := S1.out.2.2.2.trans (hbc.mono S1.out.2.2.2.size)
              have hrd := HRd.out gc wc (by have := rowc.src; rw [hll'] at this; exact this)
              have S2 := Hid.mk (And.intro kc (And.intro x2c (And.intro rowc2 HBc)))
              clear hti hbc kc x2c rowc2 HBc rowc HRd S1
              go_wp2_with fail
              refine hrd.mono ?_
              rintro e wd ⟨rfl, hbd⟩
              have kd := (hbd.block _ (Array.getElem?_eq_some_iff.1 S2.out.1).1).trans S2.out.1
              obtain ⟨b0, b1, b2, b3, x2d⟩ := S2.out.2.1.far hbd
              have rowd := S2.out.2.2.1.agree (hbd.block g9 S2.out.2.2.1.lt)
              have HBd : Below w.heap.size w wd := S2.out.2.2.2.trans (hbd.mono S2.out.2.2.2.size)
              have c0 := cell_of_block kd (j := 0) rfl
              have c1 := cell_of_block kd (j := 1) rfl
              have c2 := cell_of_block kd (j := 2) rfl
              have c3 := cell_of_block kd (j := 3) rfl
              have d0 := cell_of_block x2d (j := 0) rfl
              have d1 := cell_of_block x2d (j := 1) rfl
              have d2 := cell_of_block x2d (j := 2) rfl
              have d3 := cell_of_block x2d (j := 3) rfl
              have f0 := frozen_of_block x2d 0
              have f1 := frozen_of_block x2d 1
              have f2 := frozen_of_block x2d 2
              have f3 := frozen_of_block x2d 3
              obtain ⟨we, hwe⟩ : ∃ we, we = (((wd.setCell ⟨w6.heap.size, 0, none⟩ (.int .i64 X')).setCell ⟨w6.heap.size, 1, none⟩ (.int .i64 Y')).setCell ⟨w6.heap.size, 2, none⟩ (.string Z')).setCell ⟨w6.heap.size, 3, none⟩ (.int .i64 0) := ⟨_, rfl⟩
              have Ke : Keeps (fun q => q = w6.heap.size) wd we := by rw [hwe]; exact keep4 _ _ _ _ _ _
              have ke : Box4 we w6.heap.size := ⟨_, _, _, _, by rw [hwe]; exact set4 x2d⟩
              have k1e : Box4 we w4.heap.size := Box4.keep ⟨_, _, _, _, kd⟩ Ke (by omega)
              have rowe := rowd.agree (Ke.block g9 rowd.lt (rowd.ne4 ⟨b0, b1, b2, b3, x2d⟩))
              have HBe : Below w.heap.size w we := HBd.trans (Ke.below (fun q hq => by omega) HBd.size)
              have hbent := bent_any g9 n' (11 * (j : Int)) (11 * j) l' we (fun _ => by omega) hn' (by omega) hby' hll' rowe
              have S3 := Hid.mk (And.intro k1e (And.intro ke (And.intro rowe HBe)))
              have hnq46 : ¬ w4.heap.size = w6.heap.size := by omega
              clear hrd hbd kd x2d rowd HBd S2 Ke ke k1e rowe HBe
              go_wp2_with fail
              rw [← hwe]
              clear hwe c0 c1 c2 c3 d0 d1 d2 d3 f0 f1 f2 f3
              refine hbent.mono ?_
              rintro e wf ⟨z, l'', rfl, rowf, hllf, hbyf, hkf⟩
              have HL : Hid (Below w.heap.size w wf ∧ Box4 wf w4.heap.size ∧ Box4 wf w6.heap.size ∧ ∃ l', RowAt wf 5 g9 n' (bs l') ∧ l'.length = n' ∧ Bytes l') :=
                ⟨S3.out.2.2.2.trans (hkf.below (fun q hq => by omega) S3.out.2.2.2.size), S3.out.1.keep hkf (fun e => S3.out.2.2.1.ne4 S3.out.1 e.symm), S3.out.2.1.keep hkf (fun e => S3.out.2.2.1.ne4 S3.out.2.1 e.symm), l'', rowf, hllf, hbyf⟩
              clear hbent rowf hkf S3
              go_wp2
              go_roundw
              case rel => exact ⟨m + 1, by omega, by go_num, HL.out⟩
              case measure => simp [intOf]; omega
            · have hlm' : ¬ (m : Int) < 3 := by omega
              have HB5 := Hid.mk hbx
              clear hbx hx1 hx2 hrow
              go_wp2
              go_roundw
              case rel => exact ⟨j + 1, by omega, by go_num, HB5.out⟩
              case measure => simp [intOf]; omega
        · have hltj' : ¬ (j : Int) < (n2 : Int) := by omega
          go_wp2
          go_ret
          exact ⟨rfl, hbr⟩
end Go.Proofs.Ytimfidcpljimpab
