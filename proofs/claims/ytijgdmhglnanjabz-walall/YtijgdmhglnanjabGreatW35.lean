import Derived.Test.YtijgdmhglnanjabGreatW34
section
namespace Go.Proofs.YtijgdmhglnanjabGreat
open Go.RowKit

/-- A fresh log of 18 sectors. -/
structure FreshLog (w w' : World) (F : Nat → Prop) (p l : Nat) (S : DS) (L : LG) : Prop where
  d : DiskR w' F p 20 S
  lp : LogP w' l p L
  nf : ¬ F l
  fF : ∀ k, F k → w.heap.size ≤ k
  lo : w.heap.size ≤ l
  b : Below w.heap.size w w'
  i : Inv S 20 [L] 3
  f : S.fuse = -1
  a : L.life = S.life
  g : L.begun = true
  e : L.ep = 2
  t : L.tail = 0
  h : L.head = 0
  n : L.n = 18

theorem inv_fresh {w : World} {F : Nat → Prop} {p : Nat} (h : DiskR w F p 20 (DS.fresh (List.replicate (20 * 512) 0))) : Inv (DS.fresh (List.replicate (20 * 512) 0)) 20 [] 1 :=
  Inv.zero h.ok ⟨Bytes.zeros _, fun q hq => by cases hq⟩ rfl (by decide) (by decide)
theorem format18 {S : DS} {t : Nat} (h : Inv S 20 [] t) (ht : t ≤ 1000000000000000000) (hf : S.fuse = -1) :
    (lformat S 20 0 18).1 = 0 ∧ (lformat S 20 0 18).2.fuse = -1 ∧ oNew (lformat S 20 0 18).2 0 = (1, 0, 0) ∧ ∀ j, j < 18 → (lformat S 20 0 18).2.now (0 + 2 + j) = zs 512 :=
  format_calm (a := 0) (b := 18) h ht hf (by omega) (by omega) (by omega)
theorem open18 {S : DS} (hok : S.Ok 20) (hf : S.fuse = -1) (hn : oNew S 0 = (1, 0, 0)) (hz : ∀ j, j < 18 → S.now (0 + 2 + j) = zs 512) :
    (lopen S 20 0 18).1 = 0 ∧ (lopen S 20 0 18).2.fuse = -1 ∧ (lopen S 20 0 18).2.life = wrap64 (S.life + 1) ∧ (∀ rs hd, Tells (Rp (oRing S 0) 18) (oNew S 0).1 (oNew S 0).2.1 rs hd → rs = [] ∧ hd = 0) ∧ oTop S 0 18 = 1 :=
  open_calm (a := 0) (b := 18) hok hf (by omega) (by omega) (by omega) hn hz
/-- What the Open of a fresh log gives. -/
theorem open_fresh {w : World} {F : Nat → Prop} {p t : Nat} {S : DS} (h : DiskR w F p 20 S) (hi : Inv S 20 [] t) (ht : t ≤ 1000000000000000000) (hf : S.fuse = -1) (hn : oNew S 0 = (1, 0, 0)) (hz : ∀ j, j < 18 → S.now (0 + 2 + j) = zs 512) :
    Calls Tryz.prog 31 #[.pointer (some ⟨p, 0, none⟩), .int .i64 0, .int .i64 18] w fun e w' => ∃ l a c S' L, e = .returned (.tuple #[.pointer (some ⟨l, 0, none⟩), .slice a 0 c, .int .i64 0]) ∧ w.heap.size ≤ l ∧ LogP w' l p L ∧ DiskR w' F p 20 S' ∧ Keeps F w w' ∧ Inv S' 20 [L] (t + 1) ∧ S'.fuse = -1 ∧ L.life = S'.life ∧ L.begun = false ∧ L.top = 1 ∧ L.n = 18 := by
  obtain ⟨z1, z2, z3, z4, z5⟩ := open18 h.ok hf hn hz
  refine (open_yes_any h hi.byt 0 18 hi.p6 z1).mono ?_
  rintro e w' ⟨l, v, rs, hd, rfl, ⟨e2, e3⟩, h2, h3⟩
  obtain ⟨rfl, rfl⟩ := z4 rs hd e3.t
  obtain ⟨a, c, rfl, _⟩ := e3.r.form
  have hI := hi.opened ht 0 18 h2.ok z1 (hd := 0) (by show (oNew S 0).2.1 ≤ 0; rw [hn]; exact Nat.le_refl _) (Nat.zero_le _)
  exact ⟨l, a, c, _, LG.opened S 0 18 0, rfl, e2, e3.p, h2, h3, hI, z2, z3.symm, rfl, z5, rfl⟩
theorem start_fresh {w : World} {F : Nat → Prop} {p l t : Nat} {S : DS} {L : LG} (h : DiskR w F p 20 S) (hl : LogP w l p L) (hF : ¬ F l) (hi : Inv S 20 [L] t) (hf : S.fuse = -1) (ha : L.life = S.life) (hb : L.begun = false) :
    Calls Tryz.prog 32 #[.pointer (some ⟨l, 0, none⟩)] w fun e w' => ∃ S', e = .returned (.int .i64 0) ∧ DiskR w' (more F w w') p 20 S' ∧ LogP w' l p { L with begun := true, ep := L.top + 1, tail := 0, head := 0 } ∧ Keeps (fun k => F k ∨ k = l) w w' ∧ Inv S' 20 [{ L with begun := true, ep := L.top + 1, tail := 0, head := 0 }] t ∧ S'.fuse = -1 ∧ S'.life = S.life := by
  obtain ⟨z1, z2, z3, z4⟩ := start_calm (i := 0) hi rfl hf ha hb
  refine (Start_any h hl (hi.at (i := 0) rfl).1 hF hi.byt (by have := hi.p6; omega)).mono ?_
  rintro e w' ⟨rfl, h2, h3, h4⟩
  have hI := hi.start (i := 0) rfl h2.ok
  rw [z4] at h3 hI
  exact ⟨_, by rw [z1], h2, h3, h4, hI, z2, z3⟩

set_option maxRecDepth 20000 in
set_option maxHeartbeats 4000000 in
theorem fresh_any (w : World) : Calls Tryz.prog 10 #[.int .i64 18] w fun e w' => ∃ F p l S L, e = .returned (.tuple #[ptrL p, ptrL l]) ∧ FreshLog w w' F p l S L := by
  have h1 := new_ok 20 w (by omega) (by omega)
  rw [show ((20 : Nat) : Int) = 20 from rfl] at h1
  go_enter Tryz.func10, Tryz.ntmps10
  go_wp2_with fail
  refine h1.mono ?_
  rintro e w1 ⟨p, rfl, hd1, hb1⟩
  have hd1 := hd1.r
  have i1 := inv_fresh hd1
  have hf1 : (DS.fresh (List.replicate (20 * 512) 0)).fuse = -1 := rfl
  generalize DS.fresh (List.replicate (20 * 512) 0) = S1 at *
  obtain ⟨F1, hF1⟩ : ∃ F1, F1 = (fun k => w.heap.size ≤ k ∧ k < w1.heap.size) := ⟨_, rfl⟩
  rw [← hF1] at hd1
  have hlo1 : ∀ k, F1 k → w.heap.size ≤ k := fun k hk => by rw [hF1] at hk; exact hk.1
  obtain ⟨z1, z2, z3, z4⟩ := format18 i1 (by omega) hf1
  have h2 := Format_any hd1 i1.byt 0 18 (by have := i1.p6; omega)
  rw [z1] at h2
  have HI1 := Hid.mk i1
  have HLo1 := Hid.mk hlo1
  have HB1 := Hid.mk hb1
  have hz1 := hb1.size
  have HZ := Hid.mk (And.intro z2 (And.intro z3 z4))
  clear h1 hF1 z1 z2 z3 z4 hf1 i1 hd1 hb1 hlo1
  go_wp2_with fail
  refine h2.mono ?_
  rintro e w2 ⟨rfl, hd2, hk2⟩
  have i2 := HI1.out.format (by omega) 0 18 hd2.ok
  have hz2 := hk2.size
  have HB2 : Hid (Below w.heap.size w w2) := HB1.out.trans (hk2.below HLo1.out hz1)
  have hlo2 : ∀ k, more F1 w1 w2 k → w.heap.size ≤ k := fun k hk => by
    rcases hk with hk | hk
    · exact HLo1.out k hk
    · omega
  have h3 := open_fresh hd2 i2 (by omega) HZ.out.1 HZ.out.2.1 HZ.out.2.2
  have HLt := Hid.mk hd2.lt
  have HLo2 := Hid.mk hlo2
  clear h2 hd2 hk2 i2 hlo2
  generalize more F1 w1 w2 = F2 at *
  go_wp2_with fail
  refine h3.mono ?_
  rintro e w3 ⟨l, a, c, S3, L3, rfl, hll, hlp, hd3, hk3, i3, hf3, hl3, hb3, ht3, hn3⟩
  have hz3 := hk3.size
  have hFl : ¬ F2 l := fun hf => by have := HLt.out _ hf; omega
  have h4 := start_fresh hd3 hlp hFl i3 hf3 hl3 hb3
  have HB3 : Hid (Below w.heap.size w w3) := HB2.out.trans (hk3.below HLo2.out (by omega))
  have HLl := Hid.mk hlp.lt
  have HA := Hid.mk (And.intro hl3 (And.intro ht3 hn3))
  have HFl := Hid.mk hFl
  clear h3 hd3 hk3 i3 hf3 hl3 hb3 ht3 hn3 hlp hFl
  go_wp2_with fail
  refine h4.mono ?_
  rintro e w4 ⟨S4, rfl, hd4, hlp4, hk4, i4, hf4, hl4⟩
  have HF : Hid (FreshLog w w4 (more F2 w3 w4) p l S4 { L3 with begun := true, ep := L3.top + 1, tail := 0, head := 0 }) := by
    refine ⟨hd4, hlp4, fun hm => ?_, fun k hk => ?_, by omega, HB3.out.trans (hk4.below (fun k hk => ?_) (by omega)), i4, hf4, HA.out.1.trans hl4.symm, rfl, by show L3.top + 1 = 2; rw [HA.out.2.1], rfl, rfl, HA.out.2.2⟩
    · rcases hm with hm | hm
      · exact HFl.out hm
      · have := HLl.out; omega
    · rcases hk with hk | hk
      · exact HLo2.out k hk
      · omega
    · rcases hk with hk | hk
      · exact HLo2.out k hk
      · omega
  clear h4 hd4 hlp4 hk4 i4 hf4 hl4
  go_wp2
  go_ret2
  exact ⟨_, _, _, _, _, rfl, HF.out⟩

theorem room_fresh {S : DS} {L : LG} (h : L.unready S = 0) : L.room S = ((L.n : Int) - ((L.head : Int) - (L.tail : Int)), 0) := by
  unfold LG.room
  rw [if_neg (by omega)]

set_option maxRecDepth 20000 in
set_option maxHeartbeats 4000000 in
theorem head_any (w : World) : Calls Tryz.prog 7 #[] w fun e w' => e = .returned (.bool true) ∧ Below w.heap.size w w' := by
  have h1 := fresh_any w
  go_enter Tryz.func7, Tryz.ntmps7
  go_wp2_with fail
  refine h1.mono ?_
  rintro e w1 ⟨F, p, l, S, L, rfl, hfr⟩
  have hb2 := below_box w1 (.cells #[.int .u8 1] 5)
  have hs2 : Src (w1.alloc (.cells #[.int .u8 1] 5)) (some ⟨w1.heap.size, 0, none⟩) 1 [1] := by
    have hn : (w1.alloc (.cells #[.int .u8 1] 5)).heap[w1.heap.size]? = some (.cells #[.int .u8 1] 5 (0, 0)) := heap_alloc_new _ _
    refine ⟨rfl, fun e => (by cases e), fun x hx i hi => ?_⟩
    cases hx
    obtain rfl : i = 0 := by omega
    exact cell_of_block hn (j := 0) rfl
  have hFs : ¬ F w1.heap.size := fun hf => by have := hfr.d.lt _ hf; omega
  obtain ⟨z1, z2, z3, z4⟩ := append_calm (i := 0) (d := [1]) hfr.i rfl hfr.f hfr.a hfr.g rfl (by rw [hfr.h, hfr.t, hfr.n]; omega) (by rw [hfr.h]; omega)
  have h2 := Append_any (hfr.d.later hb2) (hfr.lp.later hb2) (hfr.i.at (i := 0) rfl).1 hfr.nf (some ⟨w1.heap.size, 0, none⟩) 1 1 [1] hs2 (fun y e _ => by cases e; exact hFs) (fun x hx => by simp at hx; omega) (Nat.le_refl _) (by omega) (by have := hfr.i.p6; omega)
  rw [z1] at h2
  have HFr := Hid.mk hfr
  have HB2 := Hid.mk hb2
  have HZ := Hid.mk (And.intro z2 (And.intro z3 z4))
  have hz1 := hfr.b.size
  have hz2 := hb2.size
  clear h1 z1 z2 z3 z4 hs2 hfr hb2
  go_wp2_with fail
  refine h2.mono ?_
  rintro e w3 ⟨rfl, hd3, hlp3, hk3⟩
  have hL3 := HZ.out.2.2
  rw [hL3] at hlp3
  have hok : ({ L with head := L.head + 1 } : LG).Ok 20 := by
    have := (HFr.out.i.append (i := 0) (d := [1]) rfl (fun x hx => by simp at hx; omega) hd3.ok).at (i := 0) (L := (L.append S 20 [1]).2.2) (by simp)
    rw [hL3] at this
    exact this.1
  have hdd : ({ L with head := L.head + 1 } : LG).dead (L.append S 20 [1]).2.1 = false := by
    unfold LG.dead
    rw [Bool.or_eq_false_iff]
    exact ⟨by rw [beq_eq_false_iff_ne, HZ.out.1]; omega, by rw [HZ.out.2.1]; show (S.life != L.life) = false; rw [HFr.out.a]; simp⟩
  have hu : ({ L with head := L.head + 1 } : LG).unready (L.append S 20 [1]).2.1 = 0 := by
    unfold LG.unready
    rw [if_neg (by rw [hdd]; decide), if_pos HFr.out.g]
  have h4 := Room_any hd3 hlp3 hok
  rw [room_fresh hu] at h4
  have e17 : (({ L with head := L.head + 1 } : LG).n : Int) - ((({ L with head := L.head + 1 } : LG).head : Int) - (({ L with head := L.head + 1 } : LG).tail : Int)) = 17 := by
    show (L.n : Int) - (((L.head + 1 : Nat) : Int) - (L.tail : Int)) = 17
    rw [HFr.out.n, HFr.out.h, HFr.out.t]
    rfl
  rw [e17] at h4
  have HB3 : Hid (Below w.heap.size w w3) := HFr.out.b.trans ((HB2.out.mono hz1).trans (hk3.below (fun k hk => by
    rcases hk with hk | hk
    · exact HFr.out.fF k hk
    · rw [hk]; exact HFr.out.lo) (by omega)))
  have HD3 := Hid.mk hd3
  have HL3 := Hid.mk hlp3
  have HDd := Hid.mk hdd
  have hz3 := hk3.size
  clear h2 hd3 hlp3 hk3 hL3 hok hdd hu e17
  go_wp2_with fail
  refine h4.mono ?_
  rintro e w4 ⟨rfl, hb4⟩
  have h5 := Marks_any (HD3.out.later hb4) (HL3.out.later hb4)
  rw [if_neg (by rw [HDd.out]; decide)] at h5
  have em : (Ending.returned (.tuple #[.int .i64 (({ L with head := L.head + 1 } : LG).ep : Int), .int .i64 (({ L with head := L.head + 1 } : LG).tail : Int), .int .i64 (({ L with head := L.head + 1 } : LG).head : Int), .int .i64 0])) = .returned (.tuple #[.int .i64 2, .int .i64 0, .int .i64 1, .int .i64 0]) := by
    show (Ending.returned (.tuple #[.int .i64 (L.ep : Int), .int .i64 (L.tail : Int), .int .i64 ((L.head + 1 : Nat) : Int), .int .i64 0])) = _
    rw [HFr.out.e, HFr.out.t, HFr.out.h]
    rfl
  have h5 : Calls Tryz.prog 13 #[.pointer (some ⟨l, 0, none⟩)] w4 fun e w' => e = .returned (.tuple #[.int .i64 2, .int .i64 0, .int .i64 1, .int .i64 0]) ∧ Below w4.heap.size w4 w' := h5.mono (fun e w' h => ⟨h.1.trans em, h.2⟩)
  have hz4 := hb4.size
  have HB4 : Hid (Below w.heap.size w w4) := HB3.out.trans (hb4.mono (by omega))
  clear h4 hb4 em
  go_wp2_with fail
  refine h5.mono ?_
  rintro e w5 ⟨rfl, hb5⟩
  have HB5 : Hid (Below w.heap.size w w5) := HB4.out.trans (hb5.mono (by omega))
  clear h5 hb5
  go_wp2
  go_ret
  exact ⟨rfl, HB5.out⟩
end Go.Proofs.YtijgdmhglnanjabGreat
end

section
namespace Go.Proofs.YtijgdmhglnanjabGreat
open Go.RowKit

theorem inv_begin {w : World} {q p r s : Nat} {lab : Nat → Nat} {im l : List Int} (h : Wd w q lab p r s (DS.fresh im) (DS.fresh im) (.slice none 0 0) (.slice none 0 0) [] [] [] []) (hi : im = l ∨ ∃ m, im = List.replicate m 0) (hb : Bytes l) : Inv (DS.fresh im) s [] 1 := by
  refine Inv.zero h.d.ok ⟨?_, fun q hq => by cases hq⟩ rfl (show (0 : Int) ≤ 1 by decide) (show (1 : Int) ≤ 1 by decide)
  rcases hi with rfl | ⟨m, rfl⟩
  · exact hb
  · exact Bytes.zeros m

/-- What holds between the steps of a script. -/
structure Run (w wr : World) (B q p r s j : Nat) : Prop where
  b : Below B w wr
  x : ∃ lab S v u ps rs ls, Wd wr q lab p r s S S v u ps rs ls ls ∧ Inv S s ls (j + 1) ∧ ls.length ≤ j ∧ ∀ k, k < B → lab k = 0
  lo : B ≤ wr.heap.size
theorem Run.step {w wr w' : World} {B q p r s j : Nat} {lab : Nat → Nat} {m : Nat} (hb : Below B w wr) (hlo : B ≤ wr.heap.size) (hl : ∀ k, k < B → lab k = 0) (h : StepOut wr w' q lab p r s m (j + 1 + 1)) (hm : m ≤ j + 1) : Run w w' B q p r s (j + 1) := by
  obtain ⟨lab', S', v', u', ps', rs', ls', a1, a2, a3, a4⟩ := h
  refine ⟨hb.trans (a4.k.below (fun k hk => ?_) hlo), ⟨lab', S', v', u', ps', rs', ls', a1, a2, by omega, fun k hk => (a4.o k (by omega)).trans (hl k hk)⟩, Nat.le_trans hlo a4.k.size⟩
  apply Decidable.byContradiction
  intro e
  exact hk (hl k (by omega))

set_option maxRecDepth 20000 in
set_option maxHeartbeats 8000000 in
theorem wplayed_any (dsec k1 k2 : Int) (a : Option Addr) (n c : Nat) (l : List Int) (sa : Option Addr) (sn sc : Nat) (w : World) (hs : Src w a n l) (hl : Bytes l) (hn : n ≤ 140737488355328) (hcap : n ≤ c) (hsc : Script4 w w.heap.size sa sn) (hsn : 72 * sn ≤ 140737488355328) :
    Calls Tryz.prog 6 #[.int .i64 dsec, .slice a n c, .slice sa sn sc, .int .i64 k1, .int .i64 k2] w fun e w' => e = .returned (.bool true) ∧ Below w.heap.size w w' := by
  have h1 := head_any w
  have HS := Hid.mk hs
  have HSc := Hid.mk hsc
  have HLb := Hid.mk hl
  clear hs hsc hl
  go_enter Tryz.func6, Tryz.ntmps6
  go_wp2_with fail
  refine h1.mono ?_
  rintro e w1 ⟨rfl, hb1⟩
  have h2 := wbegin_any dsec a n c l w1 (HS.out.later hb1) hn hcap
  have HB1 := Hid.mk hb1
  have hz1 := hb1.size
  clear h1 hb1
  go_wp2_with fail
  refine h2.mono ?_
  rintro e w2 ⟨q, rfl, hb2, hq, hnil | ⟨lab, p, r, s, im, hW, him, hlab⟩⟩
  · have c0 := cell_of_block hnil (j := 0) rfl
    have HB2 : Hid (Below w.heap.size w w2) := HB1.out.trans (hb2.mono hz1)
    clear h2 hb2 hnil
    go_wp2
    go_ret
    exact ⟨rfl, HB2.out⟩
  · have HI := Hid.mk (inv_begin hW him HLb.out)
    have hz2 := hb2.size
    have HB2 : Hid (Below w.heap.size w w2) := HB1.out.trans (hb2.mono hz1)
    have HR : Hid (Run w w2 w.heap.size q p r s 0) := ⟨HB2.out, ⟨lab, _, _, _, _, _, _, hW, HI.out, Nat.le_refl _, fun k hk => hlab k (by omega)⟩, by omega⟩
    have c0 := hW.c0
    have c1 := hW.c1
    clear h2 hb2 hW him hlab HI
    go_wp2
    clear c0 c1
    go_loopw [13] (fun i wr => ∃ j : Nat, j ≤ sn ∧ i = .int .i64 (j : Int) ∧ Run w wr w.heap.size q p r s j) (fun i _ => sn - (intOf i).toNat)
    case atStart => exact ⟨0, Nat.zero_le _, rfl, HR.out⟩
    case round =>
      obtain ⟨j, hj, rfl, hrun⟩ := hrel
      by_cases hlt : j < sn
      · have hlt' : (j : Int) < (sn : Int) := by omega
        obtain ⟨y, rfl⟩ : ∃ y, sa = some y := by
          cases sa with
          | none => have := HSc.out.1 rfl; omega
          | some y => exact ⟨y, rfl⟩
        obtain ⟨b, o, rfl, hbB, kd, A, B', da, dn, dc, pa, pn, pc, d, pl, e0, e1, e2, e3, e4, ho⟩ := (HSc.out.far hrun.b).2 y rfl j hlt
        obtain ⟨hb, ⟨lab, S, v, u, ps, rs, ls, hW, hI, hll, hlab⟩, hlo⟩ := hrun
        have hb3 := below_box wr (.cells (opD kd A B' da dn dc pa pn pc) 38)
        have hW3 := hW.later hb3
        have h3 := step_any (B := B') (pc := pc) kd hW3 hI (by omega) ((ho.far (hb3.mono hlo)).ok hlab) (by omega)
        have hn3 : (wr.alloc (.cells (opD kd A B' da dn dc pa pn pc) 38)).heap[wr.heap.size]? = some (.cells (opD kd A B' da dn dc pa pn pc) 38 (0, 0)) := heap_alloc_new _ _
        have HN3 := Hid.mk hn3
        have HB := Hid.mk (hb.trans (hb3.mono hlo))
        have HLo : Hid (w.heap.size ≤ (wr.alloc (.cells (opD kd A B' da dn dc pa pn pc) 38)).heap.size) := Nat.le_trans hlo hb3.size
        have HLa := Hid.mk hlab
        clear hb hW hI hb3 hW3 ho hlab hn3
        go_wp2_with fail
        refine h3.mono ?_
        rintro e w4 ⟨rfl, hout⟩
        have HRn := Hid.mk (Run.step HB.out HLo.out HLa.out hout (by omega))
        clear h3 hout e0 e1 e2 e3 e4
        go_wp2_with fail
        go_quiet (fail)
        have HRq : Hid (Run w (w4.drewN nq) w.heap.size q p r s (j + 1)) := by
          obtain ⟨hb, ⟨lab, S, v, u, ps, rs, ls, hW, hI, hll, hlab⟩, hlo⟩ := HRn.out
          have hbq := below_drewN (Below.refl w4.heap.size w4) nq
          exact ⟨hb.trans (hbq.mono hlo), ⟨lab, S, v, u, ps, rs, ls, hW.later hbq, hI, hll, hlab⟩, Nat.le_trans hlo hbq.size⟩
        clear HRn
        generalize w4.drewN nq = w5 at *
        go_wp2
        go_roundw
        case rel => exact ⟨j + 1, by omega, by go_num, HRq.out⟩
        case measure => simp [intOf]; omega
      · obtain rfl : j = sn := by omega
        have hge : ¬ (j : Int) < (j : Int) := by omega
        have HB := Hid.mk hrun.b
        clear hrun
        go_wp2
        go_ret
        exact ⟨rfl, HB.out⟩
end Go.Proofs.YtijgdmhglnanjabGreat
end
