import Derived.Test.YtijgdmhglnanjaaGreatW35
namespace Go.Proofs.YtijgdmhglnanjaaGreat
open Go.RowKit

/-- A list of turns that is only read. -/
def TSrc (w : World) (B : Nat) (a : Option Addr) (n : Nat) : Prop := (a = none → n = 0) ∧ ∀ y, a = some y → ∀ i, i < n → ∃ b o, y = ⟨b, o, none⟩ ∧ b < B ∧ ∃ t : Int, w.cell? ⟨b, o + i, none⟩ = some (.int .i64 t)

theorem TSrc.far {w w' : World} {B : Nat} {a : Option Addr} {n : Nat} (h : TSrc w B a n) (hb : Below B w w') : TSrc w' B a n := by
  refine ⟨h.1, fun y hy i hi => ?_⟩
  obtain ⟨b, o, rfl, hbB, t, c0⟩ := h.2 y hy i hi
  exact ⟨b, o, rfl, hbB, t, (World.cell?_of_block (w := w) (a := ⟨b, _, none⟩) (hb.block b hbB)).trans c0⟩

/-- One of the two worlds. -/
def One (wr : World) (B q p r s j : Nat) (lab : Nat → Nat) : Prop := ∃ S v u ps rs ls, Wd wr q lab p r s S S v u ps rs ls ls ∧ Inv S s ls (j + 1) ∧ ls.length ≤ j ∧ ∀ k, k < B → lab k = 0
/-- Two worlds, apart. -/
def Both (w wr : World) (q p r s q' p' r' s' j : Nat) : Prop := Below w.heap.size w wr ∧ ∃ lab lab', One wr w.heap.size q p r s j lab ∧ One wr w.heap.size q' p' r' s' j lab' ∧ ∀ k, lab k = 0 ∨ lab' k = 0
theorem Both.swap {w wr : World} {q p r s q' p' r' s' j : Nat} (h : Both w wr q p r s q' p' r' s' j) : Both w wr q' p' r' s' q p r s j := by
  obtain ⟨h1, lab, lab', h2, h3, h4⟩ := h
  exact ⟨h1, lab', lab, h3, h2, fun k => (h4 k).symm⟩
theorem Both.first {w wr : World} {q p r s q' p' r' s' j : Nat} (h : Both w wr q p r s q' p' r' s' j) (hj : (j + 1) * 8 ≤ 140737488355328) (kd A B' : Int) (da : Option Addr) (dn dc : Nat) (pa : Option Addr) (pn pc : Nat) (d : List Int) (pl : List P3) (ho : OpIn wr w.heap.size A da dn dc pa pn d pl) :
    Calls Tryz.prog 10 #[ptrL q, .agg (opD kd A B' da dn dc pa pn pc)] wr fun e w' => e = .returned (.bool true) ∧ Both w w' q p r s q' p' r' s' (j + 1) := by
  obtain ⟨hb, lab, lab', ⟨S, v, u, ps, rs, ls, hW, hI, hll, hlab⟩, ⟨S2, v2, u2, ps2, rs2, ls2, hW2, hI2, hll2, hlab2⟩, hap⟩ := h
  refine (step_any (B := B') (pc := pc) kd hW hI (by omega) (ho.ok hlab) (by omega)).mono ?_
  rintro e w' ⟨rfl, lab1, S', v', u', ps', rs', ls', a1, a2, a3, a4⟩
  refine ⟨rfl, hb.trans (a4.k.below (fun k hk => ?_) hb.size), lab1, lab', ⟨S', v', u', ps', rs', ls', a1, a2, by omega, fun k hk => (a4.o k (by have := hb.size; omega)).trans (hlab k hk)⟩, ⟨S2, v2, u2, ps2, rs2, ls2, hW2.keep a4.k (fun k hk => (hap k).resolve_left hk), hI2.step, by omega, hlab2⟩, fun k => ?_⟩
  · apply Decidable.byContradiction
    intro e
    exact hk (hlab k (by omega))
  · by_cases hk : k < wr.heap.size
    · rw [a4.o k hk]; exact hap k
    · exact .inr (hW2.lz k (by omega))
theorem Both.second {w wr : World} {q p r s q' p' r' s' j : Nat} (h : Both w wr q p r s q' p' r' s' j) (hj : (j + 1) * 8 ≤ 140737488355328) (kd A B' : Int) (da : Option Addr) (dn dc : Nat) (pa : Option Addr) (pn pc : Nat) (d : List Int) (pl : List P3) (ho : OpIn wr w.heap.size A da dn dc pa pn d pl) :
    Calls Tryz.prog 10 #[ptrL q', .agg (opD kd A B' da dn dc pa pn pc)] wr fun e w' => e = .returned (.bool true) ∧ Both w w' q p r s q' p' r' s' (j + 1) :=
  (h.swap.first hj kd A B' da dn dc pa pn pc d pl ho).mono (fun _ _ h => ⟨h.1, h.2.swap⟩)
theorem Both.looks {w wr : World} {q p r s q' p' r' s' j : Nat} (h : Both w wr q p r s q' p' r' s' j) :
    Calls Tryz.prog 11 #[.pointer (some ⟨q, 0, none⟩)] wr fun e w' => e = .returned (.bool true) ∧ Both w w' q p r s q' p' r' s' j := by
  obtain ⟨hb, lab, lab', ⟨S, v, u, ps, rs, ls, hW, hI, hll, hlab⟩, ⟨S2, v2, u2, ps2, rs2, ls2, hW2, hI2, hll2, hlab2⟩, hap⟩ := h
  refine (looks_any hW.d hW.e (fun k h1 h2 => by have : lab k = 1 := h1; have : lab k = 2 := h2; omega) hW.box (by have := hW.bq; show ¬ lab q = 1; omega) (by have := hI.p6; omega)).mono ?_
  rintro e w' ⟨rfl, hd, hk⟩
  refine ⟨rfl, hb.trans (hk.below (fun k hk => ?_) hb.size), lab, lab', ⟨S, v, u, ps, rs, ls, hW.disk0 hd hk, hI, hll, hlab⟩, ⟨S2, v2, u2, ps2, rs2, ls2, hW2.keep hk (fun k hk => (hap k).resolve_left (labF (by omega) k hk)), hI2, hll2, hlab2⟩, hap⟩
  apply Decidable.byContradiction
  intro e
  exact labF (by omega) k hk (hlab k (by omega))

set_option maxRecDepth 20000 in
set_option maxHeartbeats 8000000 in
theorem walApart_any (left right : Int) (sa : Option Addr) (sn sc : Nat) (ta : Option Addr) (tn tc : Nat) (w : World) (hsc : Script4 w w.heap.size sa sn) (hsn : 72 * sn ≤ 140737488355328) (hts : TSrc w w.heap.size ta tn) (htn : tn ≤ 140737488355328) :
    Calls Tryz.prog 3 #[.int .i64 left, .int .i64 right, .slice sa sn sc, .slice ta tn tc] w fun e w' => e = .returned (.bool true) ∧ Below w.heap.size w w' := by
  have hnil : ∀ w', Src w' none 0 [] := fun w' => ⟨rfl, fun _ => rfl, fun x hx => by cases hx⟩
  have h1 := wbegin_any left none 0 0 [] w (hnil w) (by omega) (by omega)
  have HNil := Hid.mk hnil
  have HSc := Hid.mk hsc
  have HT := Hid.mk hts
  have HBn : Hid (Bytes ([] : List Int)) := fun x hx => by cases hx
  clear hnil hsc hts
  go_enter Tryz.func3, Tryz.ntmps3
  go_wp2_with fail
  refine h1.mono ?_
  rintro e w1 ⟨q, rfl, hb1, hq, hone⟩
  have h2 := wbegin_any right none 0 0 [] w1 (HNil.out w1) (by omega) (by omega)
  have HB1 := Hid.mk hb1
  have HO := Hid.mk hone
  have hz1 := hb1.size
  clear h1 hb1 hone
  go_wp2_with fail
  refine h2.mono ?_
  rintro e w2 ⟨q', rfl, hb2, hq', htwo⟩
  have hz2 := hb2.size
  have HB2 : Hid (Below w.heap.size w w2) := HB1.out.trans (hb2.mono hz1)
  rcases HO.out with hn1 | ⟨lab, p, r, s, im, hW, him, hlab⟩
  · have hn2 := (hb2.block q (lt_there hn1)).trans hn1
    have c0 := cell_of_block hn2 (j := 0) rfl
    clear h2 hb2 htwo hn1 hn2
    go_wp2
    go_ret
    exact ⟨rfl, HB2.out⟩
  · have hW2 := hW.later hb2
    have c0 := hW2.c0
    rcases htwo with hn1 | ⟨lab', p', r', s', im', hX, him', hlab'⟩
    · have c0' := cell_of_block hn1 (j := 0) rfl
      clear h2 hb2 hn1 hW hW2
      go_wp2
      go_ret
      exact ⟨rfl, HB2.out⟩
    · have c0' := hX.c0
      have HR : Hid (Both w w2 q p r s q' p' r' s' 0) := by
        refine ⟨HB2.out, lab, lab', ⟨_, _, _, _, _, _, hW2, inv_begin hW2 him HBn.out, Nat.le_refl _, hlab⟩, ⟨_, _, _, _, _, _, hX, inv_begin hX him' HBn.out, Nat.le_refl _, fun k hk => hlab' k (by omega)⟩, fun k => ?_⟩
        by_cases hk : k < w1.heap.size
        · exact .inr (hlab' k hk)
        · exact .inl (hW.lz k (by omega))
      clear h2 hb2 hW hW2 hX him him' hlab hlab' HO HB2
      go_wp2
      clear c0 c0'
      go_loopw [13, 14, 15] (fun i _ _ wr => ∃ j : Nat, j ≤ sn ∧ i = .int .i64 (j : Int) ∧ Both w wr q p r s q' p' r' s' j) (fun i _ _ _ => sn - (intOf i).toNat)
      case atStart => exact ⟨0, Nat.zero_le _, rfl, HR.out⟩
      case round =>
        clear HR
        obtain ⟨j, hj, rfl, hq0⟩ := hrel
        by_cases hlt : j < sn
        · have hlt' : (j : Int) < (sn : Int) := by omega
          obtain ⟨y, rfl⟩ : ∃ y, sa = some y := by
            cases sa with
            | none => have := HSc.out.1 rfl; omega
            | some y => exact ⟨y, rfl⟩
          obtain ⟨b, o, rfl, hbB, kd, A, B', da, dn, dc, pa, pn, pc, d, pl, c0, c1, c2, c3, c4, ho⟩ := (HSc.out.far hq0.1).2 y rfl j hlt
          have hst1 := hq0.first (by omega) kd A B' da dn dc pa pn pc d pl ho
          have hst2 := hq0.second (by omega) kd A B' da dn dc pa pn pc d pl ho
          by_cases ht0 : tn = 0
          · subst ht0
            clear hq0 ho HSc HT hst2
            go_wp2_with fail
            refine hst1.mono ?_
            rintro e w3 ⟨rfl, hq3⟩
            have Hz := Hid.mk hq3
            clear hst1 hq3 c0 c1 c2 c3 c4
            go_wp2
            go_roundw
            case rel => exact ⟨j + 1, by omega, by go_num, Hz.out⟩
            case measure => simp [intOf]; omega
          · obtain ⟨z, rfl⟩ : ∃ z, ta = some z := by
              cases ta with
              | none => exact absurd (HT.out.1 rfl) ht0
              | some z => exact ⟨z, rfl⟩
            obtain ⟨i, hi⟩ : ∃ i : Nat, i = j % tn := ⟨_, rfl⟩
            have hitn : i < tn := by rw [hi]; exact Nat.mod_lt _ (by omega)
            obtain ⟨b2, o2, rfl, hb2B, t, c5⟩ := (HT.out.far hq0.1).2 z rfl i hitn
            have ht1 : (0 : Int) < (tn : Int) := by omega
            have hmo : (j : Int) % (tn : Int) = (i : Int) := by rw [hi]; push_cast; rfl
            have hit' : (i : Int) < (tn : Int) := by omega
            clear hq0 ho HSc HT hi
            by_cases hodd : (t.tmod 2 != 0) = true
            · clear hst1
              go_wp2_with fail
              refine hst2.mono ?_
              rintro e w3 ⟨rfl, hq3⟩
              have Hz := Hid.mk hq3
              clear hst2 hq3 c0 c1 c2 c3 c4 c5 hmo ht1 hit' hitn
              go_wp2
              go_roundw
              case rel => exact ⟨j + 1, by omega, by go_num, Hz.out⟩
              case measure => simp [intOf]; omega
            · have hodd' : (t.tmod 2 != 0) = false := by simpa using hodd
              clear hodd
              clear hst2
              go_wp2_with fail
              refine hst1.mono ?_
              rintro e w3 ⟨rfl, hq3⟩
              have Hz := Hid.mk hq3
              clear hst1 hq3 c0 c1 c2 c3 c4 c5 hmo ht1 hit' hitn
              go_wp2
              go_roundw
              case rel => exact ⟨j + 1, by omega, by go_num, Hz.out⟩
              case measure => simp [intOf]; omega
        · have hge : ¬ (j : Int) < (sn : Int) := by omega
          have h3 := hq0.looks
          clear hq0
          go_wp2_with fail
          refine h3.mono ?_
          rintro e w3 ⟨rfl, hq3⟩
          have h4 := hq3.swap.looks
          clear h3 hq3
          go_wp2_with fail
          refine h4.mono ?_
          rintro e w4 ⟨rfl, hq4⟩
          have HF := Hid.mk hq4.1
          clear h4 hq4
          go_wp2
          go_ret
          exact ⟨rfl, HF.out⟩
end Go.Proofs.YtijgdmhglnanjaaGreat
