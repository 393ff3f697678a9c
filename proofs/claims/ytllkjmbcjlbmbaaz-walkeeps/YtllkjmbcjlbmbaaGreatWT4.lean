import Derived.Test.YtllkjmbcjlbmbaaGreatWT3
import Derived.Test.YtllkjmbcjlbmbaaGreatRV10
namespace Go.Proofs.YtllkjmbcjlbmbaaGreat
open Go.RowKit Go.Maps

/-- What is told of an operation of the script. -/
structure OpIn (w : World) (B : Nat) (A : Int) (da : Option Addr) (dn dc : Nat) (pa : Option Addr) (pn : Nat) (d : List Int) (pl : List P3) : Prop where
  A : A ≤ 9223372036854775807
  s : Src w da dn d
  b : Bytes d
  c : dn ≤ dc
  n : dn ≤ 140737488355328
  l : ∀ y, da = some y → 0 < dn → y.block < B
  p : PSrc w pa pn pl
  pq : ∀ y, pa = some y → 0 < pn → y.block < B
  pn : 24 * pn ≤ 140737488355328
theorem OpIn.far {w w' : World} {B : Nat} {A : Int} {da : Option Addr} {dn dc : Nat} {pa : Option Addr} {pn : Nat} {d : List Int} {pl : List P3} (h : OpIn w B A da dn dc pa pn d pl) (hb : Below B w w') : OpIn w' B A da dn dc pa pn d pl :=
  ⟨h.A, h.s.far hb h.l, h.b, h.c, h.n, h.l, h.p.far hb h.pq, h.pq, h.pn⟩
/-- A script: its operations lie below B, and so do their lists. -/
def Script4 (w : World) (B : Nat) (sa : Option Addr) (n : Nat) : Prop :=
  (sa = none → n = 0) ∧ ∀ y, sa = some y → ∀ i, i < n → ∃ b o, y = ⟨b, o, none⟩ ∧ b < B ∧ ∃ kd A B' da dn dc pa pn pc d pl,
    w.cell? ⟨b, o + i * 5, none⟩ = some (.int .i64 kd) ∧ w.cell? ⟨b, o + i * 5 + 1, none⟩ = some (.int .i64 A) ∧ w.cell? ⟨b, o + i * 5 + 2, none⟩ = some (.int .i64 B') ∧ w.cell? ⟨b, o + i * 5 + 3, none⟩ = some (.slice da dn dc) ∧ w.cell? ⟨b, o + i * 5 + 4, none⟩ = some (.slice pa pn pc) ∧ OpIn w B A da dn dc pa pn d pl
theorem Script4.far {w w' : World} {B : Nat} {sa : Option Addr} {n : Nat} (h : Script4 w B sa n) (hb : Below B w w') : Script4 w' B sa n := by
  refine ⟨h.1, fun y hy i hi => ?_⟩
  obtain ⟨b, o, rfl, hbB, kd, A, B', da, dn, dc, pa, pn, pc, d, pl, c0, c1, c2, c3, c4, ho⟩ := h.2 y hy i hi
  have e := hb.block b hbB
  exact ⟨b, o, rfl, hbB, kd, A, B', da, dn, dc, pa, pn, pc, d, pl, (World.cell?_of_block (w := w) (a := ⟨b, _, none⟩) e).trans c0, (World.cell?_of_block (w := w) (a := ⟨b, _, none⟩) e).trans c1, (World.cell?_of_block (w := w) (a := ⟨b, _, none⟩) e).trans c2, (World.cell?_of_block (w := w) (a := ⟨b, _, none⟩) e).trans c3, (World.cell?_of_block (w := w) (a := ⟨b, _, none⟩) e).trans c4, ho.far hb⟩

/-- A disk with one log, in memory, behind j steps. -/
structure TnAt (w wr : World) (F : Nat → Prop) (n p l j : Nat) (S : DS) (L : LG) : Prop where
  d : DiskR wr F p (n + 2) S
  lp : LogP wr l p L
  nf : ¬ F l
  fF : ∀ k, F k → w.heap.size ≤ k
  lo : w.heap.size ≤ l
  b : Below w.heap.size w wr
  t : Tn S L n j

section
variable {w wr w' : World} {F F' : Nat → Prop} {n p l j : Nat} {S S' : DS} {L L' : LG}
theorem TnAt.later (h : TnAt w wr F n p l j S L) (hb : Below wr.heap.size wr w') : TnAt w w' F n p l j S L :=
  ⟨h.d.later hb, h.lp.keep (Keeps.of_below (fun _ => False) hb) (fun h => h), h.nf, h.fF, h.lo, h.b.trans (hb.mono h.b.size), h.t⟩
theorem TnAt.next (h : TnAt w wr F n p l j S L) (hd : DiskR w' (more F wr w') p (n + 2) S') (hl : LogP w' l p L') (hk : Keeps (fun k => F k ∨ k = l) wr w') (ht : Tn S' L' n j) : TnAt w w' (more F wr w') n p l j S' L' := by
  have h0 := h.b.size
  refine ⟨hd, hl, fun hf => ?_, fun k hf => ?_, h.lo, h.b.trans (hk.below (fun k hf => hf.elim (h.fF k) (fun e => by rw [e]; exact h.lo)) h.b.size), ht⟩
  · rcases hf with hf | hf
    · exact h.nf hf
    · have := h.lp.lt; omega
  · rcases hf with hf | hf
    · exact h.fF k hf
    · omega
theorem TnAt.same (h : TnAt w wr F n p l j S L) (hd : DiskR w' F p (n + 2) S') (hk : Keeps F wr w') (ht : Tn S' L n j) : TnAt w w' F n p l j S' L :=
  ⟨hd, h.lp.keep hk h.nf, h.nf, h.fF, h.lo, h.b.trans (hk.below h.fF h.b.size), ht⟩
theorem DiskR.rm (h : DiskR wr F p n S) : ∃ m, DiskRM wr F p n S m := by
  obtain ⟨r, hd⟩ := h
  obtain ⟨m, hm⟩ := hd.m
  exact ⟨m, r, hm⟩
abbrev opC4 (kd A B : Int) (da : Option Addr) (dn dc : Nat) (pa : Option Addr) (pn pc : Nat) : Array Value := #[.int .i64 kd, .int .i64 A, .int .i64 B, .slice da dn dc, .slice pa pn pc]

set_option maxRecDepth 20000 in
set_option maxHeartbeats 16000000 in
theorem walTorn_any (n0 : Int) (sa : Option Addr) (sn sc : Nat) (w : World) (hsc : Script4 w w.heap.size sa sn) (hsn : 72 * sn ≤ 140737488355328) :
    Calls Tryz.prog 4 #[.int .i64 n0, .slice sa sn sc] w fun e w' => e = .returned (.bool true) ∧ Below w.heap.size w w' := by
  by_cases hbad : n0 < 18 ∨ 256 < n0 ∨ 65536 < sn
  · have HT : Hid (Below w.heap.size w w) := Below.refl _ _
    by_cases h1 : n0 < 18
    · go_enter Tryz.func4, Tryz.ntmps4
      go_wp2
      go_ret
      exact ⟨rfl, HT.out⟩
    · by_cases h2 : 256 < n0
      · go_enter Tryz.func4, Tryz.ntmps4
        go_wp2
        go_ret
        exact ⟨rfl, HT.out⟩
      · have h3 : (65536 : Int) < (sn : Int) := by omega
        go_enter Tryz.func4, Tryz.ntmps4
        go_wp2
        go_ret
        exact ⟨rfl, HT.out⟩
  · obtain ⟨n, rfl⟩ : ∃ n : Nat, n0 = (n : Int) := ⟨n0.toNat, by omega⟩
    have h18 : 18 ≤ n := by omega
    have h256 : n ≤ 256 := by omega
    have y1 : ¬ (n : Int) < 18 := by omega
    have y2 : ¬ (256 : Int) < (n : Int) := by omega
    have y3 : ¬ (65536 : Int) < (sn : Int) := by omega
    have hs6 : sn ≤ 65536 := by omega
    have hfr := freshN_any h18 h256 w
    have HSc := Hid.mk hsc
    clear hsc hbad
    go_enter Tryz.func4, Tryz.ntmps4
    go_wp2_with fail
    refine hfr.mono ?_
    rintro e w1 ⟨F0, p, l0, S0, L0, rfl, hlv, ht0, hh0, hsnd⟩
    have hp0 : S0.puts = [] := by
      have hfit := (hlv.i.al L0 (by simp) hlv.a (by rw [hlv.f]; decide)).1 hlv.g
      exact List.eq_nil_of_length_eq_zero (by omega)
    have HN : Hid (∃ l : Nat, (.pointer (some ⟨l0, 0, none⟩) : Value) = .pointer (some ⟨l, 0, none⟩) ∧ ∃ F S L, TnAt w w1 F n p l 0 S L) :=
      ⟨l0, rfl, F0, S0, L0, hlv.d, hlv.lp, hlv.nf, hlv.fF, hlv.lo, hlv.b, ⟨hlv.i, hlv.f0, hlv.n', hlv.g, by rw [hlv.e]; omega, by rw [hlv.e]; omega, ⟨_, Hold.still hp0 hsnd.1 ⟨by omega, by omega, by omega⟩ hsnd.2⟩, ⟨Once.nil hp0, fun _ => Slots.nil hp0 _ _⟩⟩⟩
    clear hfr hlv ht0 hh0 hsnd hp0
    go_wp2
    go_loopw [6, 7] (fun v i wr => ∃ j : Nat, j ≤ sn ∧ i = .int .i64 (j : Int) ∧ ∃ l : Nat, v = .pointer (some ⟨l, 0, none⟩) ∧ ∃ F S L, TnAt w wr F n p l j S L) (fun _ i _ => sn - (intOf i).toNat)
    case atStart => exact ⟨0, Nat.zero_le _, rfl, HN.out⟩
    case round =>
      clear HN
      obtain ⟨j, hj, rfl, l, rfl, F, S, L, h⟩ := hrel
      by_cases hlt : j < sn
      · have hlt' : (j : Int) < (sn : Int) := by omega
        have hj0 : (0 : Int) ≤ (j : Int) := by omega
        obtain ⟨y, rfl⟩ : ∃ y, sa = some y := by
          cases sa with
          | none => have := HSc.out.1 rfl; omega
          | some y => exact ⟨y, rfl⟩
        obtain ⟨b, o, rfl, hbB, kd, A, B', da, dn, dc, pa, pn, pc, d, pl, c0, c1, c2, c3, c4, ho⟩ := (HSc.out.far h.b).2 y rfl j hlt
        have hbx := below_box wr (.cells (opC4 kd A B' da dn dc pa pn pc) 38)
        have hq : (wr.alloc (.cells (opC4 kd A B' da dn dc pa pn pc) 38)).heap[wr.heap.size]? = some (.cells (opC4 kd A B' da dn dc pa pn pc) 38 (0, 0)) := heap_alloc_new _ _
        have k0 := cell_of_block hq (j := 0) rfl
        have k1 := cell_of_block hq (j := 1) rfl
        have k3 := cell_of_block hq (j := 3) rfl
        have k4 := cell_of_block hq (j := 4) rfl
        have h5 := h.later hbx
        have hob : ¬ F wr.heap.size := fun hf => by have := h.d.lt _ hf; omega
        have hobl : wr.heap.size ≠ l := by have := h.lp.lt; omega
        have hzr := h.b.size
        have ho5 := ho.far (hbx.mono hzr)
        have hsz5 : wr.heap.size < (wr.alloc (.cells (opC4 kd A B' da dn dc pa pn pc) 38)).heap.size := (Array.getElem?_eq_some_iff.1 hq).1
        have H5 := Hid.mk h5
        have HO := Hid.mk ho5
        have HQ := Hid.mk hq
        have hokL := (h.t.i.at (i := 0) rfl).1
        have hp6 := h.t.i.p6
        clear h h5 hbx ho hq ho5
        by_cases e4 : kd = 4
        · subst e4
          have htw := twin_any da dn dc d _ HO.out.n HO.out.s
          go_wp2_with fail
          generalize wr.alloc (.cells (opC4 4 A B' da dn dc pa pn pc) 38) = w5 at *
          refine htw.mono ?_
          rintro e w6 ⟨g6, rfl, hg6, hr6, hb6⟩
          have h6 := H5.out.later hb6
          have hs6 := hr6.src
          rw [HO.out.s.1] at hs6
          have hap := Append_any h6.d h6.lp hokL h6.nf (some ⟨g6, 0, none⟩) dn dn d hs6 (fun y e _ hf => by cases e; have h9 : g6 < w5.heap.size := H5.out.d.lt _ hf; omega) HO.out.b (Nat.le_refl _) HO.out.n (by omega)
          have hq6 := (hb6.block wr.heap.size hsz5).trans HQ.out
          have H6 := Hid.mk h6
          have HQ6 := Hid.mk hq6
          clear htw hr6 hb6 h6 hs6 hq6 c0 c1 c2 c3 c4 k0 k1 k3 k4
          go_wp2_with fail
          refine hap.mono ?_
          rintro e w7 ⟨rfl, hd7, hl7, hk7⟩
          have h7 := H6.out.next hd7 hl7 hk7 (H6.out.t.append (by omega) HO.out.b hd7.ok)
          have hq7 := (hk7.block wr.heap.size (Array.getElem?_eq_some_iff.1 HQ6.out).1 (fun hf => hf.elim hob hobl)).trans HQ6.out
          have hob7 : ¬ more F w6 w7 wr.heap.size := fun hf => hf.elim hob (fun h => by have := (Array.getElem?_eq_some_iff.1 HQ6.out).1; omega)
          generalize (L.append S (n + 2) d).1 = E7 at *
          generalize (L.append S (n + 2) d).2.1 = S7 at *
          generalize (L.append S (n + 2) d).2.2 = L7 at *
          generalize more F w6 w7 = F7 at *
          replace hob := hob7
          generalize wr.heap.size = ob at *
          clear hap hd7 hl7 hk7 hob7 H6 HQ6
          have hbu := dburnt h7.d
          have H7 := Hid.mk h7
          have HQ7 := Hid.mk hq7
          clear h7 hq7
          go_wp2_with fail
          refine hbu.mono ?_
          rintro e w8 ⟨rfl, hw⟩
          have hw' := hw.symm
          subst hw'
          have k0 := cell_of_block HQ7.out (j := 0) rfl
          clear hw hbu
          by_cases hfz : S7.fuse = 0
          · have hfz' : (S7.fuse == 0) = true := by rw [beq_iff_eq]; exact hfz
            rw [hfz']
            go_wp2
            go_roundw
            case rel => exact ⟨j + 1, by omega, by go_num, l, rfl, _, _, _, H7.out.d, H7.out.lp, H7.out.nf, H7.out.fF, H7.out.lo, H7.out.b, H7.out.t.up⟩
            case measure => simp [intOf]; omega
          · have hfz' : (S7.fuse == 0) = false := by rw [beq_eq_false_iff_ne]; exact hfz
            obtain ⟨m7, hm7⟩ := H7.out.d.rm
            have hsi := single_any hm7 hfz H7.out.t.i.p6 (by omega) (by omega)
            have hch : ((S7.puts.length : Int) == ((chg S7 (n + 2) : Nat) : Int)) = true := by rw [beq_iff_eq, chg_all H7.out.t.once H7.out.d.ok]
            rw [hfz']
            clear hm7
            go_wp2_with fail
            refine hsi.mono ?_
            rintro e w8 ⟨q8, cq8, u8, cu8, rfl, _, _, hd8, hk8⟩
            have H8 := Hid.mk (H7.out.same hd8.r hk8 H7.out.t)
            have k0 := cell_of_block ((hk8.block ob (Array.getElem?_eq_some_iff.1 HQ7.out).1 hob).trans HQ7.out) (j := 0) rfl
            rw [hch]
            clear hsi hd8 hk8 hch
            go_wp2
            go_roundw
            case rel => exact ⟨j + 1, by omega, by go_num, l, rfl, _, _, _, H8.out.d, H8.out.lp, H8.out.nf, H8.out.fF, H8.out.lo, H8.out.b, H8.out.t.up⟩
            case measure => simp [intOf]; omega
        · by_cases e5 : kd = 5
          · subst e5
            have hsy := Sync_any H5.out.d H5.out.lp H5.out.nf (by omega)
            go_wp2_with fail
            generalize wr.alloc (.cells (opC4 5 A B' da dn dc pa pn pc) 38) = w5 at *
            refine hsy.mono ?_
            rintro e w7 ⟨rfl, hd7, hl7, hk7⟩
            have h7 := H5.out.same hd7 hk7 H5.out.t.sync
            have hq7 := (hk7.block wr.heap.size hsz5 hob).trans HQ.out
            generalize (L.sync S (n + 2)).1 = E7 at *
            generalize (L.sync S (n + 2)).2 = S7 at *
            generalize wr.heap.size = ob at *
            clear hsy hd7 hl7 hk7 c0 c1 c2 c3 c4 k0 k1 k3 k4
            have hbu := dburnt h7.d
            have H7 := Hid.mk h7
            have HQ7 := Hid.mk hq7
            clear h7 hq7
            go_wp2_with fail
            refine hbu.mono ?_
            rintro e w8 ⟨rfl, hw⟩
            have hw' := hw.symm
            subst hw'
            have k0 := cell_of_block HQ7.out (j := 0) rfl
            clear hw hbu
            by_cases hfz : S7.fuse = 0
            · have hfz' : (S7.fuse == 0) = true := by rw [beq_iff_eq]; exact hfz
              rw [hfz']
              go_wp2
              go_roundw
              case rel => exact ⟨j + 1, by omega, by go_num, l, rfl, _, _, _, H7.out.d, H7.out.lp, H7.out.nf, H7.out.fF, H7.out.lo, H7.out.b, H7.out.t.up⟩
              case measure => simp [intOf]; omega
            · have hfz' : (S7.fuse == 0) = false := by rw [beq_eq_false_iff_ne]; exact hfz
              obtain ⟨m7, hm7⟩ := H7.out.d.rm
              have hsi := single_any hm7 hfz H7.out.t.i.p6 (by omega) (by omega)
              have hch : ((S7.puts.length : Int) == ((chg S7 (n + 2) : Nat) : Int)) = true := by rw [beq_iff_eq, chg_all H7.out.t.once H7.out.d.ok]
              rw [hfz']
              clear hm7
              go_wp2_with fail
              refine hsi.mono ?_
              rintro e w8 ⟨q8, cq8, u8, cu8, rfl, _, _, hd8, hk8⟩
              have H8 := Hid.mk (H7.out.same hd8.r hk8 H7.out.t)
              have k0 := cell_of_block ((hk8.block ob (Array.getElem?_eq_some_iff.1 HQ7.out).1 hob).trans HQ7.out) (j := 0) rfl
              rw [hch]
              clear hsi hd8 hk8 hch
              go_wp2
              go_roundw
              case rel => exact ⟨j + 1, by omega, by go_num, l, rfl, _, _, _, H8.out.d, H8.out.lp, H8.out.nf, H8.out.fF, H8.out.lo, H8.out.b, H8.out.t.up⟩
              case measure => simp [intOf]; omega
          · by_cases e6 : kd = 6
            · subst e6
              have htr := Trim_any H5.out.d H5.out.lp hokL H5.out.nf H5.out.t.i.byt (by omega)
              go_wp2_with fail
              generalize wr.alloc (.cells (opC4 6 A B' da dn dc pa pn pc) 38) = w5 at *
              refine htr.mono ?_
              rintro e w7 ⟨rfl, hd7, hl7, hk7⟩
              have h7 := H5.out.next hd7 hl7 hk7 (H5.out.t.trim (by omega) hd7.ok)
              have hq7 := (hk7.block wr.heap.size hsz5 (fun hf => hf.elim hob hobl)).trans HQ.out
              have hob7 : ¬ more F w5 w7 wr.heap.size := fun hf => hf.elim hob (fun h => by omega)
              generalize (L.trim S (n + 2)).1 = E7 at *
              generalize (L.trim S (n + 2)).2.1 = S7 at *
              generalize (L.trim S (n + 2)).2.2 = L7 at *
              generalize more F w5 w7 = F7 at *
              replace hob := hob7
              generalize wr.heap.size = ob at *
              clear htr hd7 hl7 hk7 hob7 c0 c1 c2 c3 c4 k0 k1 k3 k4
              have hbu := dburnt h7.d
              have H7 := Hid.mk h7
              have HQ7 := Hid.mk hq7
              clear h7 hq7
              go_wp2_with fail
              refine hbu.mono ?_
              rintro e w8 ⟨rfl, hw⟩
              have hw' := hw.symm
              subst hw'
              have k0 := cell_of_block HQ7.out (j := 0) rfl
              clear hw hbu
              by_cases hfz : S7.fuse = 0
              · have hfz' : (S7.fuse == 0) = true := by rw [beq_iff_eq]; exact hfz
                rw [hfz']
                go_wp2
                go_roundw
                case rel => exact ⟨j + 1, by omega, by go_num, l, rfl, _, _, _, H7.out.d, H7.out.lp, H7.out.nf, H7.out.fF, H7.out.lo, H7.out.b, H7.out.t.up⟩
                case measure => simp [intOf]; omega
              · have hfz' : (S7.fuse == 0) = false := by rw [beq_eq_false_iff_ne]; exact hfz
                obtain ⟨m7, hm7⟩ := H7.out.d.rm
                have hsi := single_any hm7 hfz H7.out.t.i.p6 (by omega) (by omega)
                have hch : ((S7.puts.length : Int) == ((chg S7 (n + 2) : Nat) : Int)) = true := by rw [beq_iff_eq, chg_all H7.out.t.once H7.out.d.ok]
                rw [hfz']
                clear hm7
                go_wp2_with fail
                refine hsi.mono ?_
                rintro e w8 ⟨q8, cq8, u8, cu8, rfl, _, _, hd8, hk8⟩
                have H8 := Hid.mk (H7.out.same hd8.r hk8 H7.out.t)
                have k0 := cell_of_block ((hk8.block ob (Array.getElem?_eq_some_iff.1 HQ7.out).1 hob).trans HQ7.out) (j := 0) rfl
                rw [hch]
                clear hsi hd8 hk8 hch
                go_wp2
                go_roundw
                case rel => exact ⟨j + 1, by omega, by go_num, l, rfl, _, _, _, H8.out.d, H8.out.lp, H8.out.nf, H8.out.fF, H8.out.lo, H8.out.b, H8.out.t.up⟩
                case measure => simp [intOf]; omega
            · by_cases e9 : kd = 9
              · subst e9
                have hfu := dfuse H5.out.d A HO.out.A
                go_wp2_with fail
                generalize wr.alloc (.cells (opC4 9 A B' da dn dc pa pn pc) 38) = w5 at *
                refine hfu.mono ?_
                rintro e w7 ⟨rfl, hd7, hk7⟩
                have h7 := H5.out.same hd7 hk7 (H5.out.t.lay A hd7.ok)
                have hq7 := (hk7.block wr.heap.size hsz5 hob).trans HQ.out
                generalize S.lay A = S7 at *
                generalize wr.heap.size = ob at *
                clear hfu hd7 hk7 c0 c1 c2 c3 c4 k0 k1 k3 k4
                have hbu := dburnt h7.d
                have H7 := Hid.mk h7
                have HQ7 := Hid.mk hq7
                clear h7 hq7
                go_wp2_with fail
                refine hbu.mono ?_
                rintro e w8 ⟨rfl, hw⟩
                have hw' := hw.symm
                subst hw'
                have k0 := cell_of_block HQ7.out (j := 0) rfl
                clear hw hbu
                by_cases hfz : S7.fuse = 0
                · have hfz' : (S7.fuse == 0) = true := by rw [beq_iff_eq]; exact hfz
                  rw [hfz']
                  go_wp2
                  go_roundw
                  case rel => exact ⟨j + 1, by omega, by go_num, l, rfl, _, _, _, H7.out.d, H7.out.lp, H7.out.nf, H7.out.fF, H7.out.lo, H7.out.b, H7.out.t.up⟩
                  case measure => simp [intOf]; omega
                · have hfz' : (S7.fuse == 0) = false := by rw [beq_eq_false_iff_ne]; exact hfz
                  obtain ⟨m7, hm7⟩ := H7.out.d.rm
                  have hsi := single_any hm7 hfz H7.out.t.i.p6 (by omega) (by omega)
                  have hch : ((S7.puts.length : Int) == ((chg S7 (n + 2) : Nat) : Int)) = true := by rw [beq_iff_eq, chg_all H7.out.t.once H7.out.d.ok]
                  rw [hfz']
                  clear hm7
                  go_wp2_with fail
                  refine hsi.mono ?_
                  rintro e w8 ⟨q8, cq8, u8, cu8, rfl, _, _, hd8, hk8⟩
                  have H8 := Hid.mk (H7.out.same hd8.r hk8 H7.out.t)
                  have k0 := cell_of_block ((hk8.block ob (Array.getElem?_eq_some_iff.1 HQ7.out).1 hob).trans HQ7.out) (j := 0) rfl
                  rw [hch]
                  clear hsi hd8 hk8 hch
                  go_wp2
                  go_roundw
                  case rel => exact ⟨j + 1, by omega, by go_num, l, rfl, _, _, _, H8.out.d, H8.out.lp, H8.out.nf, H8.out.fF, H8.out.lo, H8.out.b, H8.out.t.up⟩
                  case measure => simp [intOf]; omega
              · by_cases e10 : kd = 10
                · subst e10
                  have hbu := dburnt H5.out.d
                  have hpn := HO.out.pn
                  go_wp2_with fail
                  generalize wr.alloc (.cells (opC4 10 A B' da dn dc pa pn pc) 38) = w5 at *
                  refine hbu.mono ?_
                  rintro e w8 ⟨rfl, hw⟩
                  have hw' := hw.symm
                  subst hw'
                  clear hw
                  by_cases hfz : S.fuse = 0
                  · have hfz' : (S.fuse == 0) = true := by rw [beq_iff_eq]; exact hfz
                    rw [hfz'] at hbu ⊢
                    go_wp2_with fail
                    refine hbu.mono ?_
                    rintro e w8 ⟨rfl, hw⟩
                    have hw' := hw.symm
                    subst hw'
                    clear hw hbu
                    have htp := twinp_any pa pn pc pl w5 hpn HO.out.p
                    go_wp2_with fail
                    refine htp.mono ?_
                    rintro e w6 ⟨g6, rfl, hg6, hps6, hb6⟩
                    have h6 := H5.out.later hb6
                    have hcr := dcrash h6.d (by omega) (some ⟨g6, 0, none⟩) pn pn pl hps6 (by omega) (fun y e hf => by cases e; have h9 : g6 < w5.heap.size := H5.out.d.lt _ hf; omega)
                    have hq6 := (hb6.block wr.heap.size hsz5).trans HQ.out
                    have H6 := Hid.mk h6
                    have HQ6 := Hid.mk hq6
                    clear htp hps6 hb6 h6 hq6 c0 c1 c2 c3 c4 k0 k1 k3 k4
                    go_wp2_with fail
                    refine hcr.mono ?_
                    rintro e w7 ⟨rfl, hdC, hk7⟩
                    have hqC := (hk7.block wr.heap.size (Array.getElem?_eq_some_iff.1 HQ6.out).1 hob).trans HQ6.out
                    have hbC : Below w.heap.size w w7 := H6.out.b.trans (hk7.below H6.out.fF H6.out.b.size)
                    clear hcr hk7 H6 HQ6
                    obtain ⟨a1, a2⟩ := H5.out.t.again (by omega) pl hdC.ok
                    have hop := open_yesF hdC (H5.out.t.i.byt.crash (n + 2) pl) ((0 : Nat) : Int) (n : Int) (Nat.zero_le _) a1
                    have k0 := cell_of_block hqC (j := 0) rfl
                    have HBC := Hid.mk hbC
                    have HFl := Hid.mk hdC.lt
                    clear hdC hqC
                    go_wp2_with fail
                    refine hop.mono ?_
                    rintro e wo ⟨lo, vo, rs, hd, rfl, ⟨hlo, hto⟩, hdo, hko⟩
                    obtain ⟨b1, b2, b3⟩ := a2 hd hdo.ok (hto.t.le) (Tells.round (by omega) (Rp_round _ n) hto.t)
                    obtain ⟨av, cv, hv⟩ : ∃ a c, vo = .slice a rs.length c := by
                      obtain ⟨vs, ⟨_, ⟨e, hn⟩ | ⟨g, cap, cur, e, _⟩⟩, _⟩ := hto.r
                      · exact ⟨none, 0, by rw [e, hn]⟩
                      · exact ⟨_, _, e⟩
                    subst hv
                    have hFo : ¬ F lo := fun hf => by have := HFl.out _ hf; omega
                    have hlp : LogP wo lo p (LG.opened (S.crash (n + 2) pl) 0 n hd) := hto.p
                    have hst := Start_any hdo hlp (b1.at (i := 0) rfl).1 hFo b1.byt (by have := b1.p6; omega)
                    have HBo := Hid.mk (HBC.out.trans (hko.below H5.out.fF HBC.out.size))
                    have hlw := hto.p.lt
                    rw [b2] at hst
                    clear hop hdo hko hto hlp k0
                    go_wp2_with fail
                    refine hst.mono ?_
                    rintro e ws ⟨rfl, hds, hls, hks⟩
                    have b4 := b3 hds.ok
                    have hlo0 : w.heap.size ≤ lo := by have := HBC.out.size; omega
                    have hFs : ∀ k, more F wo ws k → w.heap.size ≤ k := fun k hf => by
                      rcases hf with hf | hf
                      · exact H5.out.fF k hf
                      · have := HBo.out.size; omega
                    have hnf : ¬ more F wo ws lo := fun hf => by
                      rcases hf with hf | hf
                      · exact hFo hf
                      · omega
                    have HBs := Hid.mk (HBo.out.trans (hks.below (fun k hf => hf.elim (H5.out.fF k) (fun e => by rw [e]; exact hlo0)) HBo.out.size))
                    have HZ := Hid.mk (And.intro hds (And.intro hls b4))
                    clear hst hds hls hks b1 b2 b3 b4 a1 a2
                    go_wp2
                    go_roundw
                    case rel => exact ⟨j + 1, by omega, by go_num, lo, rfl, _, _, _, HZ.out.1, HZ.out.2.1, hnf, hFs, hlo0, HBs.out, HZ.out.2.2⟩
                    case measure => simp [intOf]; omega
                  · have hfz' : (S.fuse == 0) = false := by rw [beq_eq_false_iff_ne]; exact hfz
                    obtain ⟨m5, hm5⟩ := H5.out.d.rm
                    have hsi := single_any hm5 hfz hp6 (by omega) (by omega)
                    have hch : ((S.puts.length : Int) == ((chg S (n + 2) : Nat) : Int)) = true := by rw [beq_iff_eq, chg_all H5.out.t.once H5.out.d.ok]
                    rw [hfz']
                    clear hbu hm5
                    go_wp2_with fail
                    refine hsi.mono ?_
                    rintro e w8 ⟨q8, cq8, u8, cu8, rfl, _, _, hd8, hk8⟩
                    rw [hch]
                    have h8 := H5.out.same hd8.r hk8 H5.out.t
                    have hq8 := (hk8.block wr.heap.size hsz5 hob).trans HQ.out
                    have hbu := dburnt h8.d
                    rw [hfz'] at hbu
                    have hsi8 := single_any hd8 hfz hp6 (by omega) (by omega)
                    have H8 := Hid.mk h8
                    have HQ8 := Hid.mk hq8
                    have k08 := cell_of_block hq8 (j := 0) rfl
                    have k48 := cell_of_block hq8 (j := 4) rfl
                    have hz8 : wr.heap.size < w8.heap.size := (Array.getElem?_eq_some_iff.1 hq8).1
                    have hos8 := HO.out.p.far (hk8.below H5.out.fF H5.out.b.size) HO.out.pq
                    clear hsi hd8 hk8 h8 hq8 c0 c1 c2 c3 c4 k0 k1 k3 k4
                    go_wp2_with fail
                    refine hbu.mono ?_
                    rintro e w9 ⟨rfl, hw⟩
                    have hw' := hw.symm
                    subst hw'
                    clear hw hbu
                    go_wp2_with fail
                    refine hsi8.mono ?_
                    rintro e w9 ⟨q9, cq9, u9, cu9, rfl, hL9, hU9, hd9, hk9⟩
                    rw [hch]
                    have h9 := H8.out.same hd9.r hk9 H8.out.t
                    have hq9 := (hk9.block wr.heap.size hz8 hob).trans HQ8.out
                    have hps9 := hos8.far (hk9.below H8.out.fF H8.out.b.size) HO.out.pq
                    have htp := twinp_any pa pn pc pl w9 hpn hps9
                    have k49 := cell_of_block hq9 (j := 4) rfl
                    have H9 := Hid.mk h9
                    have HQ9 := Hid.mk hq9
                    have HL9 := Hid.mk hL9
                    have HU9 := Hid.mk hU9
                    have hz9 : wr.heap.size < w9.heap.size := (Array.getElem?_eq_some_iff.1 hq9).1
                    have hF8 : ∀ k, F k → k < w8.heap.size := fun k hf => H8.out.d.lt k hf
                    clear hsi8 hL9 hU9 hd9 hk9 h9 hq9 hps9 hos8 k08 k48
                    go_wp2_with fail
                    refine htp.mono ?_
                    rintro e w10 ⟨g10, rfl, hg10, hps10, hb10⟩
                    have h10 := H9.out.later hb10
                    have hcr := dcrash h10.d (by omega) (some ⟨g10, 0, none⟩) pn pn pl hps10 (by omega) (fun y e hf => by cases e; have h9 : g10 < w9.heap.size := H9.out.d.lt _ hf; omega)
                    have hq10 := (hb10.block wr.heap.size hz9).trans HQ9.out
                    have H10 := Hid.mk h10
                    have HQ10 := Hid.mk hq10
                    have HL10 := Hid.mk (HL9.out.later hb10)
                    have HU10 := Hid.mk (HU9.out.later hb10)
                    clear htp hps10 hb10 h10 hq10 HL9 HU9 k49
                    go_wp2_with fail
                    refine hcr.mono ?_
                    rintro e w11 ⟨rfl, hdC, hk11⟩
                    have hwh := whole_any (cq := cq9) (cu := cu9) hdC (H5.out.t.i.byt.crash (n + 2) pl) (by omega) (by omega) (HL10.out.keep hk11 hF8) (HU10.out.keep hk11 hF8) (fun k hk => by
                      have := H5.out.t.once.crash H5.out.d.ok hk pl
                      rw [now_none _ _ rfl] at this
                      exact this)
                    have hq11 := (hk11.block wr.heap.size (Array.getElem?_eq_some_iff.1 HQ10.out).1 hob).trans HQ10.out
                    have hb11 : Below w.heap.size w w11 := H10.out.b.trans (hk11.below H10.out.fF H10.out.b.size)
                    have HDC := Hid.mk hdC
                    have HQ11 := Hid.mk hq11
                    have HB11 := Hid.mk hb11
                    clear hcr hk11 hdC hq11 hb11 HL10 HU10 H10 HQ10
                    go_wp2_with fail
                    refine hwh.mono ?_
                    rintro e w12 ⟨rfl, hb12⟩
                    have hdC := HDC.out.later hb12
                    have hqC := (hb12.block wr.heap.size (Array.getElem?_eq_some_iff.1 HQ11.out).1).trans HQ11.out
                    have hbC := HB11.out.trans (hb12.mono HB11.out.size)
                    clear hwh hb12 HDC HQ11 HB11 H8 HQ8 H9 HQ9
                    obtain ⟨a1, a2⟩ := H5.out.t.again (by omega) pl hdC.ok
                    have hop := open_yesF hdC (H5.out.t.i.byt.crash (n + 2) pl) ((0 : Nat) : Int) (n : Int) (Nat.zero_le _) a1
                    have k0 := cell_of_block hqC (j := 0) rfl
                    have HBC := Hid.mk hbC
                    have HFl := Hid.mk hdC.lt
                    clear hdC hqC
                    go_wp2_with fail
                    refine hop.mono ?_
                    rintro e wo ⟨lo, vo, rs, hd, rfl, ⟨hlo, hto⟩, hdo, hko⟩
                    obtain ⟨b1, b2, b3⟩ := a2 hd hdo.ok (hto.t.le) (Tells.round (by omega) (Rp_round _ n) hto.t)
                    obtain ⟨av, cv, hv⟩ : ∃ a c, vo = .slice a rs.length c := by
                      obtain ⟨vs, ⟨_, ⟨e, hn⟩ | ⟨g, cap, cur, e, _⟩⟩, _⟩ := hto.r
                      · exact ⟨none, 0, by rw [e, hn]⟩
                      · exact ⟨_, _, e⟩
                    subst hv
                    have hFo : ¬ F lo := fun hf => by have := HFl.out _ hf; omega
                    have hlp : LogP wo lo p (LG.opened (S.crash (n + 2) pl) 0 n hd) := hto.p
                    have hst := Start_any hdo hlp (b1.at (i := 0) rfl).1 hFo b1.byt (by have := b1.p6; omega)
                    have HBo := Hid.mk (HBC.out.trans (hko.below H5.out.fF HBC.out.size))
                    have hlw := hto.p.lt
                    rw [b2] at hst
                    clear hop hdo hko hto hlp k0
                    go_wp2_with fail
                    refine hst.mono ?_
                    rintro e ws ⟨rfl, hds, hls, hks⟩
                    have b4 := b3 hds.ok
                    have hlo0 : w.heap.size ≤ lo := by have := HBC.out.size; omega
                    have hFs : ∀ k, more F wo ws k → w.heap.size ≤ k := fun k hf => by
                      rcases hf with hf | hf
                      · exact H5.out.fF k hf
                      · have := HBo.out.size; omega
                    have hnf : ¬ more F wo ws lo := fun hf => by
                      rcases hf with hf | hf
                      · exact hFo hf
                      · omega
                    have HBs := Hid.mk (HBo.out.trans (hks.below (fun k hf => hf.elim (H5.out.fF k) (fun e => by rw [e]; exact hlo0)) HBo.out.size))
                    have HZ := Hid.mk (And.intro hds (And.intro hls b4))
                    clear hst hds hls hks b1 b2 b3 b4 a1 a2
                    go_wp2
                    go_roundw
                    case rel => exact ⟨j + 1, by omega, by go_num, lo, rfl, _, _, _, HZ.out.1, HZ.out.2.1, hnf, hFs, hlo0, HBs.out, HZ.out.2.2⟩
                    case measure => simp [intOf]; omega
                · have f4 : (kd == 4) = false := by rw [beq_eq_false_iff_ne]; exact e4
                  have f5 : (kd == 5) = false := by rw [beq_eq_false_iff_ne]; exact e5
                  have f6 : (kd == 6) = false := by rw [beq_eq_false_iff_ne]; exact e6
                  have f9 : (kd == 9) = false := by rw [beq_eq_false_iff_ne]; exact e9
                  have f10 : (kd == 10) = false := by rw [beq_eq_false_iff_ne]; exact e10
                  go_wp2_with fail
                  generalize wr.alloc (.cells (opC4 kd A B' da dn dc pa pn pc) 38) = w7 at *
                  have h7 := H5.out
                  have hq7 := HQ.out
                  generalize wr.heap.size = ob at *
                  clear c0 c1 c2 c3 c4 k0 k1 k3 k4
                  have hbu := dburnt h7.d
                  have H7 := Hid.mk h7
                  have HQ7 := Hid.mk hq7
                  clear h7 hq7
                  go_wp2_with fail
                  refine hbu.mono ?_
                  rintro e w8 ⟨rfl, hw⟩
                  have hw' := hw.symm
                  subst hw'
                  have k0 := cell_of_block HQ7.out (j := 0) rfl
                  clear hw hbu
                  by_cases hfz : S.fuse = 0
                  · have hfz' : (S.fuse == 0) = true := by rw [beq_iff_eq]; exact hfz
                    rw [hfz']
                    go_wp2
                    go_roundw
                    case rel => exact ⟨j + 1, by omega, by go_num, l, rfl, _, _, _, H7.out.d, H7.out.lp, H7.out.nf, H7.out.fF, H7.out.lo, H7.out.b, H7.out.t.up⟩
                    case measure => simp [intOf]; omega
                  · have hfz' : (S.fuse == 0) = false := by rw [beq_eq_false_iff_ne]; exact hfz
                    obtain ⟨m7, hm7⟩ := H7.out.d.rm
                    have hsi := single_any hm7 hfz H7.out.t.i.p6 (by omega) (by omega)
                    have hch : ((S.puts.length : Int) == ((chg S (n + 2) : Nat) : Int)) = true := by rw [beq_iff_eq, chg_all H7.out.t.once H7.out.d.ok]
                    rw [hfz']
                    clear hm7
                    go_wp2_with fail
                    refine hsi.mono ?_
                    rintro e w8 ⟨q8, cq8, u8, cu8, rfl, _, _, hd8, hk8⟩
                    have H8 := Hid.mk (H7.out.same hd8.r hk8 H7.out.t)
                    have k0 := cell_of_block ((hk8.block ob (Array.getElem?_eq_some_iff.1 HQ7.out).1 hob).trans HQ7.out) (j := 0) rfl
                    rw [hch]
                    clear hsi hd8 hk8 hch
                    go_wp2
                    go_roundw
                    case rel => exact ⟨j + 1, by omega, by go_num, l, rfl, _, _, _, H8.out.d, H8.out.lp, H8.out.nf, H8.out.fF, H8.out.lo, H8.out.b, H8.out.t.up⟩
                    case measure => simp [intOf]; omega
      · have hlt' : ¬ (j : Int) < (sn : Int) := by omega
        have HB := Hid.mk h.b
        clear h
        go_wp2
        go_ret
        exact ⟨rfl, HB.out⟩
end
end Go.Proofs.YtllkjmbcjlbmbaaGreat
