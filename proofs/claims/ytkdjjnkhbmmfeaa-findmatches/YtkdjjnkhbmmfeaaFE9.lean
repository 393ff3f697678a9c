import Derived.Test.YtkdjjnkhbmmfeaaFE8
import Derived.Deep.CutBlock
import Derived.Deep.DeepCutAuto
import Derived.Deep.RegionHeld
namespace Go.Proofs.Ytkdjjnkhbmmfeaa
open Go.RowKit Go.Maps

/-- What holds at a round of the document's of. -/
structure OfI (w wr : World) (rb : Nat) (A : Nat → Bool) (n : Nat) : Prop where
  row : BL wr rb (rowT A n)
  bel : Below w.heap.size w wr
  own : w.heap.size ≤ rb
/-- What holds at a round of its inner loop. -/
structure OfJ (w wr : World) (rb nb : Nat) (A : Nat → Bool) (n : Nat) (R : List Bool) : Prop where
  row : BL wr rb (rowT A n)
  nxt : BL wr nb R
  bel : Below w.heap.size w wr
  ne : rb ≠ nb
  own : w.heap.size ≤ nb
theorem OfJ.set {w wr : World} {rb nb n : Nat} {A : Nat → Bool} {R : List Bool} (h : OfJ w wr rb nb A n R) (i : Nat) (x : Bool) : OfJ w (wr.setCell ⟨nb, i, none⟩ (.bool x)) rb nb A n (R.set i x) := by
  have hk := Keeps.setCell (F := fun k => k = nb) wr (p := ⟨nb, i, none⟩) rfl (.bool x)
  exact ⟨h.row.keep hk h.ne, h.nxt.set i x, h.bel.trans (hk.low h.bel.size (fun k e => by have := h.own; omega)), h.ne, h.own⟩
theorem OfJ.later {w wr w2 : World} {rb nb n : Nat} {A : Nat → Bool} {R : List Bool} (h : OfJ w wr rb nb A n R) (hb : Below wr.heap.size wr w2) : OfJ w w2 rb nb A n R :=
  ⟨h.row.keep (Keeps.of_below (fun _ => False) hb) (fun h => h), h.nxt.keep (Keeps.of_below (fun _ => False) hb) (fun h => h), h.bel.trans (hb.mono h.bel.size), h.ne, h.own⟩
set_option maxRecDepth 20000 in
set_option maxHeartbeats 64000000 in
theorem of_any {B : Nat} {a : Option Addr} {m c : Nat} {ps : List Pc} (t : ByteArray) (w : World) (hD : DSv w B (.slice a m c) ps) (ht : t.size ≤ 1023) (hps : ps.length ≤ 1000) :
    Calls Try.prog 18 #[.slice a m c, .string t] w fun e w' => e = .returned (.bool (fitsP ps (ub t.data.toList))) ∧ Below w.heap.size w w' := by
  obtain ⟨hm, hat⟩ := hD.at
  subst hm
  obtain ⟨u, hu⟩ : ∃ u, u = ub t.data.toList := ⟨_, rfl⟩
  have hul : u.length = t.size := by rw [hu, ub_len, len_size]
  have hub : ∀ x ∈ u, 0 ≤ x ∧ x < 256 := by rw [hu]; exact ub_bytes _
  have HGet := Hid.mk (getS t)
  rw [← hu] at HGet ⊢
  obtain ⟨n, hn⟩ : ∃ n, n = t.size := ⟨_, rfl⟩
  rw [← hn] at hul ht
  have hnn : (t.size : Int) = (n : Int) := by omega
  obtain ⟨w1, hmk, hbl, hb1⟩ := make_bools w n (by omega)
  have hset := hbl.set 0 true
  rw [tab_start u n] at hset
  have c0 := hbl.cell (i := 0) (by simp)
  have f0 : w1.frozen? ⟨w.heap.size, 0, none⟩ = false := frozen_of_block hbl 0
  have hks := Keeps.setCell (F := fun k => k = w.heap.size) w1 (p := ⟨w.heap.size, 0, none⟩) rfl (.bool true)
  have HI0 : Hid (OfI w (w1.setCell ⟨w.heap.size, 0, none⟩ (.bool true)) w.heap.size (tabR u (ps.take 0).reverse) n) := Hid.mk ⟨by rw [List.take_zero, List.reverse_nil]; exact hset, hb1.trans (hks.low hb1.size (fun k e => by omega)), Nat.le_refl _⟩
  have HAT := Hid.mk hat
  have HU := Hid.mk (And.intro hul hub)
  have l0 : (0 : Int) < (n : Int) + 1 := by omega
  clear hbl hset hks hb1 hat hD hu hul hub hn
  go_enter Try.func18, Try.ntmps18
  go_wp2_with fail
  go_loopw [5, 6] (fun v5 v6 wr => ∃ i rb : Nat, v5 = .slice (some ⟨rb, 0, none⟩) (n + 1) (n + 1) ∧ v6 = .int .i64 (i : Int) ∧ i ≤ ps.length ∧ Hid (OfI w wr rb (tabR u (ps.take i).reverse) n)) (fun _ v6 _ => ps.length - (intOf v6).toNat)
  case atStart => exact ⟨0, w.heap.size, rfl, rfl, Nat.zero_le _, HI0⟩
  case round =>
    obtain ⟨i, rb, rfl, rfl, hi, HI⟩ := hrel
    clear HI0 c0 f0 hmk
    by_cases hlt : i < ps.length
    · have hlt' : (i : Int) < (ps.length : Int) := by omega
      obtain ⟨g, k, b, f, hag, hgl, hpr, hrg, hck⟩ := HAT.out i hlt
      subst hag
      obtain ⟨p, hp⟩ : ∃ p, p = ps[i] := ⟨_, rfl⟩
      have hnx := tab_next u ps hlt
      rw [← hp] at hpr hnx
      have Hpp := Hid.mk hp
      clear hp
      generalize tabR u (ps.take i).reverse = A at *
      obtain ⟨w2, hmk, hbl, hb2⟩ := make_bools wr n (by omega)
      have hck2 := cell_later hb2 (cell_later HI.out.bel hck)
      have hil : (i : Int) < 1000 := by omega
      have HJ0 : Hid (OfJ w w2 rb wr.heap.size A n (rowD p A u n 0)) := Hid.mk ⟨HI.out.row.keep (Keeps.of_below (fun _ => False) hb2) (fun h => h), by rw [rowD_zero]; exact hbl, HI.out.bel.trans (hb2.mono HI.out.bel.size), by have := lt_there HI.out.row; omega, HI.out.bel.size⟩
      have HM := Hid.mk hpr.many
      have HP := Hid.mk (And.intro hpr (And.intro hrg hnx))
      clear hbl hb2 hpr hrg hnx hck HAT
      go_upto_region 7 with fail
      go_cut [8] (fun v wx => v = .bool p.many ∧ wx = w2)
      case first =>
        by_cases e3 : k = 3
        · have q3 : (k == 3) = true := by simp [e3]
          have HE : Hid (p.many = true) := Hid.mk (by rw [← HM.out]; simp [e3])
          clear e3
          go_wp2
          go_meet
          exact ⟨by rw [HE.out], rfl⟩
        · have q3 : (k == 3) = false := by simp [e3]
          by_cases e4 : k = 4
          · have q4 : (k == 4) = true := by simp [e4]
            have HE : Hid (p.many = true) := Hid.mk (by rw [← HM.out]; simp [e4])
            clear e3 e4
            go_wp2
            go_meet
            exact ⟨by rw [HE.out], rfl⟩
          · have q4 : (k == 4) = false := by simp [e4]
            have HE : Hid (p.many = false) := Hid.mk (by rw [← HM.out]; simp [e3, e4])
            clear e3 e4
            go_wp2
            go_meet
            exact ⟨by rw [HE.out], rfl⟩
      case rest =>
        obtain ⟨rfl, hww⟩ := hcut
        have hww' := hww.symm
        subst hww'
        clear hww hmk hck2
        obtain ⟨nb, hnb⟩ : ∃ nb, nb = wr.heap.size := ⟨_, rfl⟩
        rw [← hnb] at HJ0 ⊢
        clear hnb HI
        rename World => wo
        go_wp2_with fail
        go_loopw [9] (fun v9 wr => ∃ j : Nat, v9 = .int .i64 (j : Int) ∧ j ≤ n + 1 ∧ Hid (OfJ w wr rb nb A n (rowD p A u n j))) (fun v9 _ => n + 1 - (intOf v9).toNat)
        case atStart => exact ⟨0, rfl, Nat.zero_le _, HJ0⟩
        case round =>
          obtain ⟨j, rfl, hj, HJ⟩ := hrel
          clear HJ0
          by_cases hjl : j ≤ n
          · have hjl' : (j : Int) ≤ (n : Int) := by omega
            have cA := HJ.out.row.cell (i := j) (by rw [rowT_len]; omega)
            rw [rowT_at A n hjl] at cA
            go_upto_region 11 with fail
            go_cut [52] (fun v wx => v = .bool (A j && p.many) ∧ wx = wr)
            case first =>
              clear HJ HP HM HU HGet
              cases hA : A j with
              | true =>
                rw [hA] at cA
                have HA := Hid.mk hA
                clear hA
                go_wp2
                go_meet
                exact ⟨by rw [HA.out]; simp, rfl⟩
              | false =>
                rw [hA] at cA
                have HA := Hid.mk hA
                clear hA
                go_wp2
                go_meet
                exact ⟨by rw [HA.out]; simp, rfl⟩
            case rest =>
              obtain ⟨rfl, hww⟩ := hcut
              have hww' := hww.symm
              subst hww'
              clear hww
              go_upto_if 52 with fail
              go_cut [] (fun wx => Hid (OfJ w wx rb nb A n (rowE p A u n j)))
              case first =>
                have cN := HJ.out.nxt.cell (i := j) (by rw [rowD_len]; omega)
                have fN : wr.frozen? ⟨nb, j, none⟩ = false := frozen_of_block HJ.out.nxt j
                cases hq : (A j && p.many) with
                | true =>
                  have HN : Hid (OfJ w (wr.setCell ⟨nb, j, none⟩ (.bool true)) rb nb A n (rowE p A u n j)) := Hid.mk (by rw [← rowE_yes p A u hq]; exact HJ.out.set j true)
                  clear HJ hq cA HP HM HU HGet
                  go_wp2
                  go_meet
                  exact HN
                | false =>
                  have HN : Hid (OfJ w wr rb nb A n (rowE p A u n j)) := Hid.mk (by rw [← rowE_no p A u hq]; exact HJ.out)
                  clear HJ hq cA cN fN HP HM HU HGet
                  go_wp2
                  go_meet
                  exact HN
              case rest =>
                have HE := hcut
                clear hcut HJ cA
                go_upto_region 13 with fail
                rename World => W
                go_cut [84] (fun v wx => v = .bool (decide (j < n) && Qd p A u (j + 1)) ∧ Hid (OfJ w wx rb nb A n (rowE p A u n j)))
                case first =>
                  have HcA : Hid (∀ w', Below W.heap.size W w' → w'.cell? ⟨rb, j, none⟩ = some (.bool (A j))) := Hid.mk (fun w' hb => by
                    have := (HE.out.later hb).row.cell (i := j) (by rw [rowT_len]; omega)
                    rwa [rowT_at A n hjl] at this)
                  have HcN : Hid (∀ w', Below W.heap.size W w' → w'.cell? ⟨nb, j, none⟩ = some (.bool (stepD p A u j))) := Hid.mk (fun w' hb => by
                    have := (HE.out.later hb).nxt.cell (i := j) (by rw [rowE_len]; omega)
                    rwa [rowE_at p A u hjl] at this)
                  have hbd : Below W.heap.size W W.drew := ⟨rfl, rfl, rfl, Nat.le_refl _, fun _ _ => rfl⟩
                  have HB := Hid.mk hbd
                  clear hbd
                  by_cases hjn : j < n
                  · have hjn' : (j : Int) < (n : Int) := by omega
                    obtain ⟨xn, hxn⟩ : ∃ x : Nat, u.getD j 0 = (x : Int) ∧ x < 256 := by
                      have hjl2 : j < u.length := by have := HU.out.1; omega
                      have := HU.out.2 u[j] (List.getElem_mem hjl2)
                      refine ⟨u[j].toNat, ?_, by omega⟩
                      simp only [List.getD, List.getElem?_eq_getElem hjl2, Option.getD_some]
                      omega
                    have hgx := HGet.out j (by omega)
                    rw [hxn.1] at hgx
                    obtain ⟨F, hF⟩ : ∃ F, F = pd k b f := ⟨_, rfl⟩
                    have hFi : (Try.prog.info? 74).map (·.size) = some F.length := by rw [hF]; exact sizePdL k b f
                    have Hrg : Hid (∀ w', Below W.heap.size W w' → w'.rangeAt g (i * 258) F) := Hid.mk (fun w' hb j v hv => cell_later hb (cell_later HE.out.bel (HP.out.2.1 j v (by rw [← hF]; exact hv))))
                    obtain ⟨T, hT⟩ : ∃ T, T = takesP p (u.getD j 0) := ⟨_, rfl⟩
                    have kt : ∀ w', Calls Try.prog 25 #[.agg F.toArray, .int .u8 (xn : Int)] w' fun e w'' => e = .returned (.bool T) ∧ Below w'.heap.size w' w'' := fun w' => by
                      have h1 := ptakes_any k b f xn w' hxn.2
                      rw [HP.out.1.take xn (by omega) (by omega)] at h1
                      rw [hT, hxn.1, hF]
                      exact h1
                    have HQ : Hid ((decide (j < n) && Qd p A u (j + 1)) = ((A j || (p.many && stepD p A u j)) && T)) := Hid.mk (by rw [decide_eq_true hjn, Bool.true_and, hT]; rfl)
                    have hjt : j < t.size := by omega
                    have Hil := Hid.mk hlt
                    clear hxn hF hT HP HM HU HGet hjn
                    generalize stepD p A u j = bS at *
                    obtain ⟨bA, hbA⟩ : ∃ x, x = A j := ⟨_, rfl⟩
                    rw [← hbA] at HcA HQ
                    clear hbA
                    refine wp_region_held_drew (S := (fun w' => Below W.heap.size W w')) (by kernel_rfl) (HB.out) (fun hHeld => ?_)
                    refine wpAnyH_take (i := 0) (oi := { dst := some 56, op := Op.move (Operand.tmp 9), type := 3, pos := "match.go:162", after := #[], guard := none }) (v := .int .i64 (j : Int)) rfl (by kernel_rfl) (by kernel_rfl) (by kernel_rfl) (fun _ _ _ h => h) (Or.inl ⟨by rfl, ?_⟩) (by assumption) ?_
                    · intro w hSw
                      (try dsimp only at hSw)
                      go_simp
                    try simp only [Act.put, List.setIfInBounds_toArray, List.set_cons_zero, List.set_cons_succ]
                    refine wpAnyH_take (i := 1) (oi := { dst := some 57, op := Op.move (Operand.tmp 1), type := 9, pos := "match.go:162", after := #[], guard := none }) (v := .string t) rfl (by kernel_rfl) (by kernel_rfl) (by kernel_rfl) (fun _ _ _ h => h) (Or.inl ⟨by rfl, ?_⟩) (by assumption) ?_
                    · intro w hSw
                      (try dsimp only at hSw)
                      go_simp
                    try simp only [Act.put, List.setIfInBounds_toArray, List.set_cons_zero, List.set_cons_succ]
                    refine wpAnyH_take (i := 2) (oi := { dst := some 58, op := Op.call { callee := Callee.builtin Builtin.len, args := #[Operand.tmp 57], argTypes := #[9] }, type := 3, pos := "match.go:162", after := #[{ on := 1, ground := Ground.data }], guard := none }) (v := .int .i64 (n : Int)) rfl (by kernel_rfl) (by kernel_rfl) (by kernel_rfl) (fun _ _ _ h => h) (Or.inl ⟨by rfl, ?_⟩) (by assumption) ?_
                    · intro w hSw
                      (try dsimp only at hSw)
                      go_simp
                    try simp only [Act.put, List.setIfInBounds_toArray, List.set_cons_zero, List.set_cons_succ]
                    refine wpAnyH_take (i := 3) (oi := { dst := some 59, op := Op.binOp BinOp.lss 3 (Operand.tmp 56) (Operand.tmp 58) 3, type := 4, pos := "match.go:162", after := #[{ on := 0, ground := Ground.data }, { on := 2, ground := Ground.data }], guard := none }) (v := .bool true) rfl (by kernel_rfl) (by kernel_rfl) (by kernel_rfl) (fun _ _ _ h => h) (Or.inl ⟨by rfl, ?_⟩) (by assumption) ?_
                    · intro w hSw
                      (try dsimp only at hSw)
                      go_simp
                    try simp only [Act.put, List.setIfInBounds_toArray, List.set_cons_zero, List.set_cons_succ]
                    refine wpAnyH_take (i := 4) (oi := { dst := some 60, op := Op.move (Operand.tmp 59), type := 4, pos := "match.go:162", after := #[{ on := 3, ground := Ground.data }], guard := none }) (v := .bool true) rfl (by kernel_rfl) (by kernel_rfl) (by kernel_rfl) (fun _ _ _ h => h) (Or.inl ⟨by rfl, ?_⟩) (by assumption) ?_
                    · intro w hSw
                      (try dsimp only at hSw)
                      go_simp
                    try simp only [Act.put, List.setIfInBounds_toArray, List.set_cons_zero, List.set_cons_succ]
                    refine wpAnyH_take (i := 5) (oi := { dst := some 61, op := Op.move (Operand.tmp 5), type := 54, pos := "match.go:162", after := #[{ on := 4, ground := Ground.guard }], guard := some (4, true) }) (v := .slice (some ⟨rb, 0, none⟩) (n + 1) (n + 1)) rfl (by kernel_rfl) (by kernel_rfl) (by kernel_rfl) (fun _ _ _ h => h) (Or.inl ⟨by rfl, ?_⟩) (by assumption) ?_
                    · intro w hSw
                      (try dsimp only at hSw)
                      go_simp
                    try simp only [Act.put, List.setIfInBounds_toArray, List.set_cons_zero, List.set_cons_succ]
                    refine wpAnyH_take (i := 6) (oi := { dst := some 62, op := Op.move (Operand.tmp 9), type := 3, pos := "match.go:162", after := #[{ on := 4, ground := Ground.guard }], guard := some (4, true) }) (v := .int .i64 (j : Int)) rfl (by kernel_rfl) (by kernel_rfl) (by kernel_rfl) (fun _ _ _ h => h) (Or.inl ⟨by rfl, ?_⟩) (by assumption) ?_
                    · intro w hSw
                      (try dsimp only at hSw)
                      go_simp
                    try simp only [Act.put, List.setIfInBounds_toArray, List.set_cons_zero, List.set_cons_succ]
                    refine wpAnyH_take (i := 7) (oi := { dst := some 63, op := Op.indexAddr 54 (Operand.tmp 61) (Operand.tmp 62), type := 0, pos := "match.go:162", after := #[{ on := 5, ground := Ground.data }, { on := 6, ground := Ground.data }, { on := 4, ground := Ground.guard }], guard := some (4, true) }) (v := .pointer (some ⟨rb, j, none⟩)) rfl (by kernel_rfl) (by kernel_rfl) (by kernel_rfl) (fun _ _ _ h => h) (Or.inl ⟨by rfl, ?_⟩) (by assumption) ?_
                    · intro w hSw
                      (try dsimp only at hSw)
                      go_simp
                      try (intro h9; exact absurd h9 (by omega))
                    try simp only [Act.put, List.setIfInBounds_toArray, List.set_cons_zero, List.set_cons_succ]
                    refine wpAnyH_take (i := 8) (oi := { dst := some 64, op := Op.load 4 (Operand.tmp 63), type := 4, pos := "match.go:162", after := #[{ on := 7, ground := Ground.data }, { on := 4, ground := Ground.guard }], guard := some (4, true) }) (v := .bool bA) rfl (by kernel_rfl) (by kernel_rfl) (by kernel_rfl) (fun _ _ _ h => h) (Or.inl ⟨by rfl, ?_⟩) (by assumption) ?_
                    · intro w hSw
                      (try dsimp only at hSw)
                      have hc := HcA.out w hSw
                      go_simp
                      try (intro h9; exact absurd h9 (by omega))
                    try simp only [Act.put, List.setIfInBounds_toArray, List.set_cons_zero, List.set_cons_succ]
                    refine wpAnyH_take (i := 9) (oi := { dst := some 65, op := Op.move (Operand.tmp 64), type := 4, pos := "match.go:162", after := #[{ on := 8, ground := Ground.data }, { on := 4, ground := Ground.chain }, { on := 4, ground := Ground.guard }], guard := some (4, true) }) (v := .bool bA) rfl (by kernel_rfl) (by kernel_rfl) (by kernel_rfl) (fun _ _ _ h => h) (Or.inl ⟨by rfl, ?_⟩) (by assumption) ?_
                    · intro w hSw
                      (try dsimp only at hSw)
                      go_simp
                    try simp only [Act.put, List.setIfInBounds_toArray, List.set_cons_zero, List.set_cons_succ]
                    cases bA with
                    | true =>
                      refine wpAnyH_take (i := 10) (oi := { dst := some 66, op := Op.move (Operand.tmp 8), type := 4, pos := "match.go:162", after := #[{ on := 9, ground := Ground.guard }], guard := some (9, false) }) (v := undef) rfl (by kernel_rfl) (by kernel_rfl) (by kernel_rfl) (fun _ _ _ h => h) (Or.inr ⟨by rfl, rfl⟩) (by assumption) ?_
                      try simp only [Act.put, List.setIfInBounds_toArray, List.set_cons_zero, List.set_cons_succ]
                      refine wpAnyH_take (i := 11) (oi := { dst := some 67, op := Op.move (Operand.tmp 66), type := 4, pos := "match.go:162", after := #[{ on := 10, ground := Ground.data }, { on := 9, ground := Ground.chain }, { on := 9, ground := Ground.guard }], guard := some (9, false) }) (v := undef) rfl (by kernel_rfl) (by kernel_rfl) (by kernel_rfl) (fun _ _ _ h => h) (Or.inr ⟨by rfl, rfl⟩) (by assumption) ?_
                      try simp only [Act.put, List.setIfInBounds_toArray, List.set_cons_zero, List.set_cons_succ]
                      refine wpAnyH_take (i := 12) (oi := { dst := some 68, op := Op.move (Operand.tmp 7), type := 54, pos := "match.go:162", after := #[{ on := 11, ground := Ground.guard }], guard := some (11, true) }) (v := undef) rfl (by kernel_rfl) (by kernel_rfl) (by kernel_rfl) (fun _ _ _ h => h) (Or.inr ⟨by rfl, rfl⟩) (by assumption) ?_
                      try simp only [Act.put, List.setIfInBounds_toArray, List.set_cons_zero, List.set_cons_succ]
                      refine wpAnyH_take (i := 13) (oi := { dst := some 69, op := Op.move (Operand.tmp 9), type := 3, pos := "match.go:162", after := #[{ on := 11, ground := Ground.guard }], guard := some (11, true) }) (v := undef) rfl (by kernel_rfl) (by kernel_rfl) (by kernel_rfl) (fun _ _ _ h => h) (Or.inr ⟨by rfl, rfl⟩) (by assumption) ?_
                      try simp only [Act.put, List.setIfInBounds_toArray, List.set_cons_zero, List.set_cons_succ]
                      refine wpAnyH_take (i := 14) (oi := { dst := some 70, op := Op.indexAddr 54 (Operand.tmp 68) (Operand.tmp 69), type := 0, pos := "match.go:162", after := #[{ on := 12, ground := Ground.data }, { on := 13, ground := Ground.data }, { on := 11, ground := Ground.guard }], guard := some (11, true) }) (v := undef) rfl (by kernel_rfl) (by kernel_rfl) (by kernel_rfl) (fun _ _ _ h => h) (Or.inr ⟨by rfl, rfl⟩) (by assumption) ?_
                      try simp only [Act.put, List.setIfInBounds_toArray, List.set_cons_zero, List.set_cons_succ]
                      refine wpAnyH_take (i := 15) (oi := { dst := some 71, op := Op.load 4 (Operand.tmp 70), type := 4, pos := "match.go:162", after := #[{ on := 14, ground := Ground.data }, { on := 11, ground := Ground.guard }], guard := some (11, true) }) (v := undef) rfl (by kernel_rfl) (by kernel_rfl) (by kernel_rfl) (fun _ _ _ h => h) (Or.inr ⟨by rfl, rfl⟩) (by assumption) ?_
                      try simp only [Act.put, List.setIfInBounds_toArray, List.set_cons_zero, List.set_cons_succ]
                      refine wpAnyH_take (i := 16) (oi := { dst := some 72, op := Op.pick (Operand.tmp 67) (Operand.tmp 71) (Operand.const (Value.bool false)), type := 4, pos := "match.go:162", after := #[{ on := 11, ground := Ground.data }, { on := 15, ground := Ground.data }, { on := 9, ground := Ground.guard }], guard := some (9, false) }) (v := undef) rfl (by kernel_rfl) (by kernel_rfl) (by kernel_rfl) (fun _ _ _ h => h) (Or.inr ⟨by rfl, rfl⟩) (by assumption) ?_
                      try simp only [Act.put, List.setIfInBounds_toArray, List.set_cons_zero, List.set_cons_succ]
                      refine wpAnyH_take (i := 17) (oi := { dst := some 73, op := Op.pick (Operand.tmp 65) (Operand.const (Value.bool true)) (Operand.tmp 72), type := 4, pos := "match.go:162", after := #[{ on := 9, ground := Ground.data }, { on := 16, ground := Ground.data }, { on := 4, ground := Ground.guard }], guard := some (4, true) }) (v := .bool true) rfl (by kernel_rfl) (by kernel_rfl) (by kernel_rfl) (fun _ _ _ h => h) (Or.inl ⟨by rfl, ?_⟩) (by assumption) ?_
                      · intro w hSw
                        (try dsimp only at hSw)
                        go_simp
                      try simp only [Act.put, List.setIfInBounds_toArray, List.set_cons_zero, List.set_cons_succ]
                      refine wpAnyH_take (i := 18) (oi := { dst := some 74, op := Op.pick (Operand.tmp 60) (Operand.tmp 73) (Operand.const (Value.bool false)), type := 4, pos := "match.go:162", after := #[{ on := 4, ground := Ground.data }, { on := 17, ground := Ground.data }], guard := none }) (v := .bool true) rfl (by kernel_rfl) (by kernel_rfl) (by kernel_rfl) (fun _ _ _ h => h) (Or.inl ⟨by rfl, ?_⟩) (by assumption) ?_
                      · intro w hSw
                        (try dsimp only at hSw)
                        go_simp
                      try simp only [Act.put, List.setIfInBounds_toArray, List.set_cons_zero, List.set_cons_succ]
                      refine wpAnyH_take (i := 19) (oi := { dst := some 75, op := Op.move (Operand.tmp 74), type := 4, pos := "match.go:162", after := #[{ on := 18, ground := Ground.data }, { on := 11, ground := Ground.chain }], guard := none }) (v := .bool true) rfl (by kernel_rfl) (by kernel_rfl) (by kernel_rfl) (fun _ _ _ h => h) (Or.inl ⟨by rfl, ?_⟩) (by assumption) ?_
                      · intro w hSw
                        (try dsimp only at hSw)
                        go_simp
                      try simp only [Act.put, List.setIfInBounds_toArray, List.set_cons_zero, List.set_cons_succ]
                      refine wpAnyH_take (i := 20) (oi := { dst := some 76, op := Op.move (Operand.tmp 0), type := 47, pos := "match.go:162", after := #[{ on := 19, ground := Ground.guard }], guard := some (19, true) }) (v := .slice (some ⟨g, 0, none⟩) ps.length c) rfl (by kernel_rfl) (by kernel_rfl) (by kernel_rfl) (fun _ _ _ h => h) (Or.inl ⟨by rfl, ?_⟩) (by assumption) ?_
                      · intro w hSw
                        (try dsimp only at hSw)
                        go_simp
                      try simp only [Act.put, List.setIfInBounds_toArray, List.set_cons_zero, List.set_cons_succ]
                      refine wpAnyH_take (i := 21) (oi := { dst := some 77, op := Op.move (Operand.tmp 6), type := 3, pos := "match.go:162", after := #[{ on := 19, ground := Ground.guard }], guard := some (19, true) }) (v := .int .i64 (i : Int)) rfl (by kernel_rfl) (by kernel_rfl) (by kernel_rfl) (fun _ _ _ h => h) (Or.inl ⟨by rfl, ?_⟩) (by assumption) ?_
                      · intro w hSw
                        (try dsimp only at hSw)
                        go_simp
                      try simp only [Act.put, List.setIfInBounds_toArray, List.set_cons_zero, List.set_cons_succ]
                      refine wpAnyH_take (i := 22) (oi := { dst := some 78, op := Op.indexAddr 47 (Operand.tmp 76) (Operand.tmp 77), type := 0, pos := "match.go:162", after := #[{ on := 20, ground := Ground.data }, { on := 21, ground := Ground.data }, { on := 19, ground := Ground.guard }], guard := some (19, true) }) (v := .pointer (some ⟨g, i * 258, none⟩)) rfl (by kernel_rfl) (by kernel_rfl) (by kernel_rfl) (fun _ _ _ h => h) (Or.inl ⟨by rfl, ?_⟩) (by assumption) ?_
                      · intro w hSw
                        (try dsimp only at hSw)
                        go_simp
                      try simp only [Act.put, List.setIfInBounds_toArray, List.set_cons_zero, List.set_cons_succ]
                      refine wpAnyH_take (i := 23) (oi := { dst := some 79, op := Op.load 74 (Operand.tmp 78), type := 74, pos := "match.go:162", after := #[{ on := 22, ground := Ground.data }, { on := 19, ground := Ground.guard }], guard := some (19, true) }) (v := .agg F.toArray) rfl (by kernel_rfl) (by kernel_rfl) (by kernel_rfl) (fun _ _ _ h => h) (yieldsIf_load_mid (by rfl) _ _ rfl g (i * 258) rfl F _ (fun w hw => Hrg.out w hw) Try.underlying74 rfl hFi) (by assumption) ?_
                      try simp only [Act.put, List.setIfInBounds_toArray, List.set_cons_zero, List.set_cons_succ]
                      refine wpAnyH_take (i := 24) (oi := { dst := some 80, op := Op.move (Operand.tmp 1), type := 9, pos := "match.go:162", after := #[{ on := 19, ground := Ground.guard }], guard := some (19, true) }) (v := .string t) rfl (by kernel_rfl) (by kernel_rfl) (by kernel_rfl) (fun _ _ _ h => h) (Or.inl ⟨by rfl, ?_⟩) (by assumption) ?_
                      · intro w hSw
                        (try dsimp only at hSw)
                        go_simp
                      try simp only [Act.put, List.setIfInBounds_toArray, List.set_cons_zero, List.set_cons_succ]
                      refine wpAnyH_take (i := 25) (oi := { dst := some 81, op := Op.move (Operand.tmp 9), type := 3, pos := "match.go:162", after := #[{ on := 19, ground := Ground.guard }], guard := some (19, true) }) (v := .int .i64 (j : Int)) rfl (by kernel_rfl) (by kernel_rfl) (by kernel_rfl) (fun _ _ _ h => h) (Or.inl ⟨by rfl, ?_⟩) (by assumption) ?_
                      · intro w hSw
                        (try dsimp only at hSw)
                        go_simp
                      try simp only [Act.put, List.setIfInBounds_toArray, List.set_cons_zero, List.set_cons_succ]
                      refine wpAnyH_take (i := 26) (oi := { dst := some 82, op := Op.index 9 (Operand.tmp 80) (Operand.tmp 81), type := 5, pos := "match.go:162", after := #[{ on := 24, ground := Ground.data }, { on := 25, ground := Ground.data }, { on := 19, ground := Ground.guard }], guard := some (19, true) }) (v := .int .u8 (xn : Int)) rfl (by kernel_rfl) (by kernel_rfl) (by kernel_rfl) (fun _ _ _ h => h) (Or.inl ⟨by rfl, ?_⟩) (by assumption) ?_
                      · intro w hSw
                        (try dsimp only at hSw)
                        go_simp
                      try simp only [Act.put, List.setIfInBounds_toArray, List.set_cons_zero, List.set_cons_succ]
                      refine wpAnyH_ready (rs := [27]) (by kernel_rfl) (by simp) ?_
                      refine AllReadyH.cons (o := { dst := some 83, op := Op.call { callee := Callee.value (Operand.func 25), args := #[Operand.tmp 79, Operand.tmp 82], argTypes := #[74, 5] }, type := 4, pos := "match.go:162", after := #[{ on := 23, ground := Ground.data }, { on := 26, ground := Ground.data }, { on := 19, ground := Ground.chain }, { on := 19, ground := Ground.guard }], guard := some (19, true) }) rfl (fun K hK => ?_) AllReadyH.nil
                      go_simp
                      refine (kt _).mono ?_
                      rintro e w9 ⟨rfl, hb9⟩
                      have q9 := HB.out.trans (hb9.mono HB.out.size)
                      refine hK.out _ _ ?_ (fun hHeld => ?_)
                      · exact q9
                      clear hK K
                      try simp only [Act.put, List.setIfInBounds_toArray, List.set_cons_zero, List.set_cons_succ]
                      refine wpAnyH_take (i := 28) (oi := { dst := some 84, op := Op.pick (Operand.tmp 75) (Operand.tmp 83) (Operand.const (Value.bool false)), type := 4, pos := "match.go:162", after := #[{ on := 19, ground := Ground.data }, { on := 27, ground := Ground.data }], guard := none }) (v := .bool T) rfl (by kernel_rfl) (by kernel_rfl) (by kernel_rfl) (fun _ _ _ h => h) (Or.inl ⟨by rfl, ?_⟩) (by assumption) ?_
                      · intro w hSw
                        (try dsimp only at hSw)
                        go_simp
                      try simp only [Act.put, List.setIfInBounds_toArray, List.set_cons_zero, List.set_cons_succ]
                      refine wpAnyH_done (by kernel_rfl) ?_ _
                      go_wp2
                      go_meet
                      exact ⟨by rw [HQ.out]; simp, Hid.mk (HE.out.later q9)⟩
                    | false =>
                      refine wpAnyH_take (i := 10) (oi := { dst := some 66, op := Op.move (Operand.tmp 8), type := 4, pos := "match.go:162", after := #[{ on := 9, ground := Ground.guard }], guard := some (9, false) }) (v := .bool p.many) rfl (by kernel_rfl) (by kernel_rfl) (by kernel_rfl) (fun _ _ _ h => h) (Or.inl ⟨by rfl, ?_⟩) (by assumption) ?_
                      · intro w hSw
                        (try dsimp only at hSw)
                        go_simp
                      try simp only [Act.put, List.setIfInBounds_toArray, List.set_cons_zero, List.set_cons_succ]
                      rcases Bool.eq_false_or_eq_true p.many with hM | hM
                      rotate_left
                      · skip
                        refine wpAnyH_take (i := 11) (oi := { dst := some 67, op := Op.move (Operand.tmp 66), type := 4, pos := "match.go:162", after := #[{ on := 10, ground := Ground.data }, { on := 9, ground := Ground.chain }, { on := 9, ground := Ground.guard }], guard := some (9, false) }) (v := .bool false) rfl (by kernel_rfl) (by kernel_rfl) (by kernel_rfl) (fun _ _ _ h => h) (Or.inl ⟨by rfl, ?_⟩) (by assumption) ?_
                        · intro w hSw
                          (try dsimp only at hSw)
                          go_simp
                        try simp only [Act.put, List.setIfInBounds_toArray, List.set_cons_zero, List.set_cons_succ]
                        have HMM := Hid.mk hM
                        clear hM
                        refine wpAnyH_take (i := 12) (oi := { dst := some 68, op := Op.move (Operand.tmp 7), type := 54, pos := "match.go:162", after := #[{ on := 11, ground := Ground.guard }], guard := some (11, true) }) (v := undef) rfl (by kernel_rfl) (by kernel_rfl) (by kernel_rfl) (fun _ _ _ h => h) (Or.inr ⟨by rfl, rfl⟩) (by assumption) ?_
                        try simp only [Act.put, List.setIfInBounds_toArray, List.set_cons_zero, List.set_cons_succ]
                        refine wpAnyH_take (i := 13) (oi := { dst := some 69, op := Op.move (Operand.tmp 9), type := 3, pos := "match.go:162", after := #[{ on := 11, ground := Ground.guard }], guard := some (11, true) }) (v := undef) rfl (by kernel_rfl) (by kernel_rfl) (by kernel_rfl) (fun _ _ _ h => h) (Or.inr ⟨by rfl, rfl⟩) (by assumption) ?_
                        try simp only [Act.put, List.setIfInBounds_toArray, List.set_cons_zero, List.set_cons_succ]
                        refine wpAnyH_take (i := 14) (oi := { dst := some 70, op := Op.indexAddr 54 (Operand.tmp 68) (Operand.tmp 69), type := 0, pos := "match.go:162", after := #[{ on := 12, ground := Ground.data }, { on := 13, ground := Ground.data }, { on := 11, ground := Ground.guard }], guard := some (11, true) }) (v := undef) rfl (by kernel_rfl) (by kernel_rfl) (by kernel_rfl) (fun _ _ _ h => h) (Or.inr ⟨by rfl, rfl⟩) (by assumption) ?_
                        try simp only [Act.put, List.setIfInBounds_toArray, List.set_cons_zero, List.set_cons_succ]
                        refine wpAnyH_take (i := 15) (oi := { dst := some 71, op := Op.load 4 (Operand.tmp 70), type := 4, pos := "match.go:162", after := #[{ on := 14, ground := Ground.data }, { on := 11, ground := Ground.guard }], guard := some (11, true) }) (v := undef) rfl (by kernel_rfl) (by kernel_rfl) (by kernel_rfl) (fun _ _ _ h => h) (Or.inr ⟨by rfl, rfl⟩) (by assumption) ?_
                        try simp only [Act.put, List.setIfInBounds_toArray, List.set_cons_zero, List.set_cons_succ]
                        refine wpAnyH_take (i := 16) (oi := { dst := some 72, op := Op.pick (Operand.tmp 67) (Operand.tmp 71) (Operand.const (Value.bool false)), type := 4, pos := "match.go:162", after := #[{ on := 11, ground := Ground.data }, { on := 15, ground := Ground.data }, { on := 9, ground := Ground.guard }], guard := some (9, false) }) (v := .bool false) rfl (by kernel_rfl) (by kernel_rfl) (by kernel_rfl) (fun _ _ _ h => h) (Or.inl ⟨by rfl, ?_⟩) (by assumption) ?_
                        · intro w hSw
                          (try dsimp only at hSw)
                          go_simp
                        try simp only [Act.put, List.setIfInBounds_toArray, List.set_cons_zero, List.set_cons_succ]
                        refine wpAnyH_take (i := 17) (oi := { dst := some 73, op := Op.pick (Operand.tmp 65) (Operand.const (Value.bool true)) (Operand.tmp 72), type := 4, pos := "match.go:162", after := #[{ on := 9, ground := Ground.data }, { on := 16, ground := Ground.data }, { on := 4, ground := Ground.guard }], guard := some (4, true) }) (v := .bool false) rfl (by kernel_rfl) (by kernel_rfl) (by kernel_rfl) (fun _ _ _ h => h) (Or.inl ⟨by rfl, ?_⟩) (by assumption) ?_
                        · intro w hSw
                          (try dsimp only at hSw)
                          go_simp
                        try simp only [Act.put, List.setIfInBounds_toArray, List.set_cons_zero, List.set_cons_succ]
                        refine wpAnyH_take (i := 18) (oi := { dst := some 74, op := Op.pick (Operand.tmp 60) (Operand.tmp 73) (Operand.const (Value.bool false)), type := 4, pos := "match.go:162", after := #[{ on := 4, ground := Ground.data }, { on := 17, ground := Ground.data }], guard := none }) (v := .bool false) rfl (by kernel_rfl) (by kernel_rfl) (by kernel_rfl) (fun _ _ _ h => h) (Or.inl ⟨by rfl, ?_⟩) (by assumption) ?_
                        · intro w hSw
                          (try dsimp only at hSw)
                          go_simp
                        try simp only [Act.put, List.setIfInBounds_toArray, List.set_cons_zero, List.set_cons_succ]
                        refine wpAnyH_take (i := 19) (oi := { dst := some 75, op := Op.move (Operand.tmp 74), type := 4, pos := "match.go:162", after := #[{ on := 18, ground := Ground.data }, { on := 11, ground := Ground.chain }], guard := none }) (v := .bool false) rfl (by kernel_rfl) (by kernel_rfl) (by kernel_rfl) (fun _ _ _ h => h) (Or.inl ⟨by rfl, ?_⟩) (by assumption) ?_
                        · intro w hSw
                          (try dsimp only at hSw)
                          go_simp
                        try simp only [Act.put, List.setIfInBounds_toArray, List.set_cons_zero, List.set_cons_succ]
                        refine wpAnyH_take (i := 20) (oi := { dst := some 76, op := Op.move (Operand.tmp 0), type := 47, pos := "match.go:162", after := #[{ on := 19, ground := Ground.guard }], guard := some (19, true) }) (v := undef) rfl (by kernel_rfl) (by kernel_rfl) (by kernel_rfl) (fun _ _ _ h => h) (Or.inr ⟨by rfl, rfl⟩) (by assumption) ?_
                        try simp only [Act.put, List.setIfInBounds_toArray, List.set_cons_zero, List.set_cons_succ]
                        refine wpAnyH_take (i := 21) (oi := { dst := some 77, op := Op.move (Operand.tmp 6), type := 3, pos := "match.go:162", after := #[{ on := 19, ground := Ground.guard }], guard := some (19, true) }) (v := undef) rfl (by kernel_rfl) (by kernel_rfl) (by kernel_rfl) (fun _ _ _ h => h) (Or.inr ⟨by rfl, rfl⟩) (by assumption) ?_
                        try simp only [Act.put, List.setIfInBounds_toArray, List.set_cons_zero, List.set_cons_succ]
                        refine wpAnyH_take (i := 22) (oi := { dst := some 78, op := Op.indexAddr 47 (Operand.tmp 76) (Operand.tmp 77), type := 0, pos := "match.go:162", after := #[{ on := 20, ground := Ground.data }, { on := 21, ground := Ground.data }, { on := 19, ground := Ground.guard }], guard := some (19, true) }) (v := undef) rfl (by kernel_rfl) (by kernel_rfl) (by kernel_rfl) (fun _ _ _ h => h) (Or.inr ⟨by rfl, rfl⟩) (by assumption) ?_
                        try simp only [Act.put, List.setIfInBounds_toArray, List.set_cons_zero, List.set_cons_succ]
                        refine wpAnyH_take (i := 23) (oi := { dst := some 79, op := Op.load 74 (Operand.tmp 78), type := 74, pos := "match.go:162", after := #[{ on := 22, ground := Ground.data }, { on := 19, ground := Ground.guard }], guard := some (19, true) }) (v := undef) rfl (by kernel_rfl) (by kernel_rfl) (by kernel_rfl) (fun _ _ _ h => h) (Or.inr ⟨by rfl, rfl⟩) (by assumption) ?_
                        try simp only [Act.put, List.setIfInBounds_toArray, List.set_cons_zero, List.set_cons_succ]
                        refine wpAnyH_take (i := 24) (oi := { dst := some 80, op := Op.move (Operand.tmp 1), type := 9, pos := "match.go:162", after := #[{ on := 19, ground := Ground.guard }], guard := some (19, true) }) (v := undef) rfl (by kernel_rfl) (by kernel_rfl) (by kernel_rfl) (fun _ _ _ h => h) (Or.inr ⟨by rfl, rfl⟩) (by assumption) ?_
                        try simp only [Act.put, List.setIfInBounds_toArray, List.set_cons_zero, List.set_cons_succ]
                        refine wpAnyH_take (i := 25) (oi := { dst := some 81, op := Op.move (Operand.tmp 9), type := 3, pos := "match.go:162", after := #[{ on := 19, ground := Ground.guard }], guard := some (19, true) }) (v := undef) rfl (by kernel_rfl) (by kernel_rfl) (by kernel_rfl) (fun _ _ _ h => h) (Or.inr ⟨by rfl, rfl⟩) (by assumption) ?_
                        try simp only [Act.put, List.setIfInBounds_toArray, List.set_cons_zero, List.set_cons_succ]
                        refine wpAnyH_take (i := 26) (oi := { dst := some 82, op := Op.index 9 (Operand.tmp 80) (Operand.tmp 81), type := 5, pos := "match.go:162", after := #[{ on := 24, ground := Ground.data }, { on := 25, ground := Ground.data }, { on := 19, ground := Ground.guard }], guard := some (19, true) }) (v := undef) rfl (by kernel_rfl) (by kernel_rfl) (by kernel_rfl) (fun _ _ _ h => h) (Or.inr ⟨by rfl, rfl⟩) (by assumption) ?_
                        try simp only [Act.put, List.setIfInBounds_toArray, List.set_cons_zero, List.set_cons_succ]
                        refine wpAnyH_take (i := 27) (oi := { dst := some 83, op := Op.call { callee := Callee.value (Operand.func 25), args := #[Operand.tmp 79, Operand.tmp 82], argTypes := #[74, 5] }, type := 4, pos := "match.go:162", after := #[{ on := 23, ground := Ground.data }, { on := 26, ground := Ground.data }, { on := 19, ground := Ground.chain }, { on := 19, ground := Ground.guard }], guard := some (19, true) }) (v := undef) rfl (by kernel_rfl) (by kernel_rfl) (by kernel_rfl) (fun _ _ _ h => h) (Or.inr ⟨by rfl, rfl⟩) (by assumption) ?_
                        try simp only [Act.put, List.setIfInBounds_toArray, List.set_cons_zero, List.set_cons_succ]
                        refine wpAnyH_take (i := 28) (oi := { dst := some 84, op := Op.pick (Operand.tmp 75) (Operand.tmp 83) (Operand.const (Value.bool false)), type := 4, pos := "match.go:162", after := #[{ on := 19, ground := Ground.data }, { on := 27, ground := Ground.data }], guard := none }) (v := .bool false) rfl (by kernel_rfl) (by kernel_rfl) (by kernel_rfl) (fun _ _ _ h => h) (Or.inl ⟨by rfl, ?_⟩) (by assumption) ?_
                        · intro w hSw
                          (try dsimp only at hSw)
                          go_simp
                        try simp only [Act.put, List.setIfInBounds_toArray, List.set_cons_zero, List.set_cons_succ]
                        refine wpAnyH_done (by kernel_rfl) ?_ _
                        go_wp2
                        go_meet
                        exact ⟨by rw [HQ.out, HMM.out]; simp, Hid.mk (HE.out.later HB.out)⟩
                      · skip
                        refine wpAnyH_take (i := 11) (oi := { dst := some 67, op := Op.move (Operand.tmp 66), type := 4, pos := "match.go:162", after := #[{ on := 10, ground := Ground.data }, { on := 9, ground := Ground.chain }, { on := 9, ground := Ground.guard }], guard := some (9, false) }) (v := .bool true) rfl (by kernel_rfl) (by kernel_rfl) (by kernel_rfl) (fun _ _ _ h => h) (Or.inl ⟨by rfl, ?_⟩) (by assumption) ?_
                        · intro w hSw
                          (try dsimp only at hSw)
                          go_simp
                        try simp only [Act.put, List.setIfInBounds_toArray, List.set_cons_zero, List.set_cons_succ]
                        have HMM := Hid.mk hM
                        clear hM
                        refine wpAnyH_take (i := 12) (oi := { dst := some 68, op := Op.move (Operand.tmp 7), type := 54, pos := "match.go:162", after := #[{ on := 11, ground := Ground.guard }], guard := some (11, true) }) (v := .slice (some ⟨nb, 0, none⟩) (n + 1) (n + 1)) rfl (by kernel_rfl) (by kernel_rfl) (by kernel_rfl) (fun _ _ _ h => h) (Or.inl ⟨by rfl, ?_⟩) (by assumption) ?_
                        · intro w hSw
                          (try dsimp only at hSw)
                          go_simp
                        try simp only [Act.put, List.setIfInBounds_toArray, List.set_cons_zero, List.set_cons_succ]
                        refine wpAnyH_take (i := 13) (oi := { dst := some 69, op := Op.move (Operand.tmp 9), type := 3, pos := "match.go:162", after := #[{ on := 11, ground := Ground.guard }], guard := some (11, true) }) (v := .int .i64 (j : Int)) rfl (by kernel_rfl) (by kernel_rfl) (by kernel_rfl) (fun _ _ _ h => h) (Or.inl ⟨by rfl, ?_⟩) (by assumption) ?_
                        · intro w hSw
                          (try dsimp only at hSw)
                          go_simp
                        try simp only [Act.put, List.setIfInBounds_toArray, List.set_cons_zero, List.set_cons_succ]
                        refine wpAnyH_take (i := 14) (oi := { dst := some 70, op := Op.indexAddr 54 (Operand.tmp 68) (Operand.tmp 69), type := 0, pos := "match.go:162", after := #[{ on := 12, ground := Ground.data }, { on := 13, ground := Ground.data }, { on := 11, ground := Ground.guard }], guard := some (11, true) }) (v := .pointer (some ⟨nb, j, none⟩)) rfl (by kernel_rfl) (by kernel_rfl) (by kernel_rfl) (fun _ _ _ h => h) (Or.inl ⟨by rfl, ?_⟩) (by assumption) ?_
                        · intro w hSw
                          (try dsimp only at hSw)
                          go_simp
                          try (intro h9; exact absurd h9 (by omega))
                        try simp only [Act.put, List.setIfInBounds_toArray, List.set_cons_zero, List.set_cons_succ]
                        refine wpAnyH_take (i := 15) (oi := { dst := some 71, op := Op.load 4 (Operand.tmp 70), type := 4, pos := "match.go:162", after := #[{ on := 14, ground := Ground.data }, { on := 11, ground := Ground.guard }], guard := some (11, true) }) (v := .bool bS) rfl (by kernel_rfl) (by kernel_rfl) (by kernel_rfl) (fun _ _ _ h => h) (Or.inl ⟨by rfl, ?_⟩) (by assumption) ?_
                        · intro w hSw
                          (try dsimp only at hSw)
                          have hc := HcN.out w hSw
                          go_simp
                          try (intro h9; exact absurd h9 (by omega))
                        try simp only [Act.put, List.setIfInBounds_toArray, List.set_cons_zero, List.set_cons_succ]
                        refine wpAnyH_take (i := 16) (oi := { dst := some 72, op := Op.pick (Operand.tmp 67) (Operand.tmp 71) (Operand.const (Value.bool false)), type := 4, pos := "match.go:162", after := #[{ on := 11, ground := Ground.data }, { on := 15, ground := Ground.data }, { on := 9, ground := Ground.guard }], guard := some (9, false) }) (v := .bool bS) rfl (by kernel_rfl) (by kernel_rfl) (by kernel_rfl) (fun _ _ _ h => h) (Or.inl ⟨by rfl, ?_⟩) (by assumption) ?_
                        · intro w hSw
                          (try dsimp only at hSw)
                          go_simp
                        try simp only [Act.put, List.setIfInBounds_toArray, List.set_cons_zero, List.set_cons_succ]
                        refine wpAnyH_take (i := 17) (oi := { dst := some 73, op := Op.pick (Operand.tmp 65) (Operand.const (Value.bool true)) (Operand.tmp 72), type := 4, pos := "match.go:162", after := #[{ on := 9, ground := Ground.data }, { on := 16, ground := Ground.data }, { on := 4, ground := Ground.guard }], guard := some (4, true) }) (v := .bool bS) rfl (by kernel_rfl) (by kernel_rfl) (by kernel_rfl) (fun _ _ _ h => h) (Or.inl ⟨by rfl, ?_⟩) (by assumption) ?_
                        · intro w hSw
                          (try dsimp only at hSw)
                          go_simp
                        try simp only [Act.put, List.setIfInBounds_toArray, List.set_cons_zero, List.set_cons_succ]
                        refine wpAnyH_take (i := 18) (oi := { dst := some 74, op := Op.pick (Operand.tmp 60) (Operand.tmp 73) (Operand.const (Value.bool false)), type := 4, pos := "match.go:162", after := #[{ on := 4, ground := Ground.data }, { on := 17, ground := Ground.data }], guard := none }) (v := .bool bS) rfl (by kernel_rfl) (by kernel_rfl) (by kernel_rfl) (fun _ _ _ h => h) (Or.inl ⟨by rfl, ?_⟩) (by assumption) ?_
                        · intro w hSw
                          (try dsimp only at hSw)
                          go_simp
                        try simp only [Act.put, List.setIfInBounds_toArray, List.set_cons_zero, List.set_cons_succ]
                        refine wpAnyH_take (i := 19) (oi := { dst := some 75, op := Op.move (Operand.tmp 74), type := 4, pos := "match.go:162", after := #[{ on := 18, ground := Ground.data }, { on := 11, ground := Ground.chain }], guard := none }) (v := .bool bS) rfl (by kernel_rfl) (by kernel_rfl) (by kernel_rfl) (fun _ _ _ h => h) (Or.inl ⟨by rfl, ?_⟩) (by assumption) ?_
                        · intro w hSw
                          (try dsimp only at hSw)
                          go_simp
                        try simp only [Act.put, List.setIfInBounds_toArray, List.set_cons_zero, List.set_cons_succ]
                        cases bS with
                        | false =>
                          refine wpAnyH_take (i := 20) (oi := { dst := some 76, op := Op.move (Operand.tmp 0), type := 47, pos := "match.go:162", after := #[{ on := 19, ground := Ground.guard }], guard := some (19, true) }) (v := undef) rfl (by kernel_rfl) (by kernel_rfl) (by kernel_rfl) (fun _ _ _ h => h) (Or.inr ⟨by rfl, rfl⟩) (by assumption) ?_
                          try simp only [Act.put, List.setIfInBounds_toArray, List.set_cons_zero, List.set_cons_succ]
                          refine wpAnyH_take (i := 21) (oi := { dst := some 77, op := Op.move (Operand.tmp 6), type := 3, pos := "match.go:162", after := #[{ on := 19, ground := Ground.guard }], guard := some (19, true) }) (v := undef) rfl (by kernel_rfl) (by kernel_rfl) (by kernel_rfl) (fun _ _ _ h => h) (Or.inr ⟨by rfl, rfl⟩) (by assumption) ?_
                          try simp only [Act.put, List.setIfInBounds_toArray, List.set_cons_zero, List.set_cons_succ]
                          refine wpAnyH_take (i := 22) (oi := { dst := some 78, op := Op.indexAddr 47 (Operand.tmp 76) (Operand.tmp 77), type := 0, pos := "match.go:162", after := #[{ on := 20, ground := Ground.data }, { on := 21, ground := Ground.data }, { on := 19, ground := Ground.guard }], guard := some (19, true) }) (v := undef) rfl (by kernel_rfl) (by kernel_rfl) (by kernel_rfl) (fun _ _ _ h => h) (Or.inr ⟨by rfl, rfl⟩) (by assumption) ?_
                          try simp only [Act.put, List.setIfInBounds_toArray, List.set_cons_zero, List.set_cons_succ]
                          refine wpAnyH_take (i := 23) (oi := { dst := some 79, op := Op.load 74 (Operand.tmp 78), type := 74, pos := "match.go:162", after := #[{ on := 22, ground := Ground.data }, { on := 19, ground := Ground.guard }], guard := some (19, true) }) (v := undef) rfl (by kernel_rfl) (by kernel_rfl) (by kernel_rfl) (fun _ _ _ h => h) (Or.inr ⟨by rfl, rfl⟩) (by assumption) ?_
                          try simp only [Act.put, List.setIfInBounds_toArray, List.set_cons_zero, List.set_cons_succ]
                          refine wpAnyH_take (i := 24) (oi := { dst := some 80, op := Op.move (Operand.tmp 1), type := 9, pos := "match.go:162", after := #[{ on := 19, ground := Ground.guard }], guard := some (19, true) }) (v := undef) rfl (by kernel_rfl) (by kernel_rfl) (by kernel_rfl) (fun _ _ _ h => h) (Or.inr ⟨by rfl, rfl⟩) (by assumption) ?_
                          try simp only [Act.put, List.setIfInBounds_toArray, List.set_cons_zero, List.set_cons_succ]
                          refine wpAnyH_take (i := 25) (oi := { dst := some 81, op := Op.move (Operand.tmp 9), type := 3, pos := "match.go:162", after := #[{ on := 19, ground := Ground.guard }], guard := some (19, true) }) (v := undef) rfl (by kernel_rfl) (by kernel_rfl) (by kernel_rfl) (fun _ _ _ h => h) (Or.inr ⟨by rfl, rfl⟩) (by assumption) ?_
                          try simp only [Act.put, List.setIfInBounds_toArray, List.set_cons_zero, List.set_cons_succ]
                          refine wpAnyH_take (i := 26) (oi := { dst := some 82, op := Op.index 9 (Operand.tmp 80) (Operand.tmp 81), type := 5, pos := "match.go:162", after := #[{ on := 24, ground := Ground.data }, { on := 25, ground := Ground.data }, { on := 19, ground := Ground.guard }], guard := some (19, true) }) (v := undef) rfl (by kernel_rfl) (by kernel_rfl) (by kernel_rfl) (fun _ _ _ h => h) (Or.inr ⟨by rfl, rfl⟩) (by assumption) ?_
                          try simp only [Act.put, List.setIfInBounds_toArray, List.set_cons_zero, List.set_cons_succ]
                          refine wpAnyH_take (i := 27) (oi := { dst := some 83, op := Op.call { callee := Callee.value (Operand.func 25), args := #[Operand.tmp 79, Operand.tmp 82], argTypes := #[74, 5] }, type := 4, pos := "match.go:162", after := #[{ on := 23, ground := Ground.data }, { on := 26, ground := Ground.data }, { on := 19, ground := Ground.chain }, { on := 19, ground := Ground.guard }], guard := some (19, true) }) (v := undef) rfl (by kernel_rfl) (by kernel_rfl) (by kernel_rfl) (fun _ _ _ h => h) (Or.inr ⟨by rfl, rfl⟩) (by assumption) ?_
                          try simp only [Act.put, List.setIfInBounds_toArray, List.set_cons_zero, List.set_cons_succ]
                          refine wpAnyH_take (i := 28) (oi := { dst := some 84, op := Op.pick (Operand.tmp 75) (Operand.tmp 83) (Operand.const (Value.bool false)), type := 4, pos := "match.go:162", after := #[{ on := 19, ground := Ground.data }, { on := 27, ground := Ground.data }], guard := none }) (v := .bool false) rfl (by kernel_rfl) (by kernel_rfl) (by kernel_rfl) (fun _ _ _ h => h) (Or.inl ⟨by rfl, ?_⟩) (by assumption) ?_
                          · intro w hSw
                            (try dsimp only at hSw)
                            go_simp
                          try simp only [Act.put, List.setIfInBounds_toArray, List.set_cons_zero, List.set_cons_succ]
                          refine wpAnyH_done (by kernel_rfl) ?_ _
                          go_wp2
                          go_meet
                          exact ⟨by rw [HQ.out, HMM.out]; simp, Hid.mk (HE.out.later HB.out)⟩
                        | true =>
                          refine wpAnyH_take (i := 20) (oi := { dst := some 76, op := Op.move (Operand.tmp 0), type := 47, pos := "match.go:162", after := #[{ on := 19, ground := Ground.guard }], guard := some (19, true) }) (v := .slice (some ⟨g, 0, none⟩) ps.length c) rfl (by kernel_rfl) (by kernel_rfl) (by kernel_rfl) (fun _ _ _ h => h) (Or.inl ⟨by rfl, ?_⟩) (by assumption) ?_
                          · intro w hSw
                            (try dsimp only at hSw)
                            go_simp
                          try simp only [Act.put, List.setIfInBounds_toArray, List.set_cons_zero, List.set_cons_succ]
                          refine wpAnyH_take (i := 21) (oi := { dst := some 77, op := Op.move (Operand.tmp 6), type := 3, pos := "match.go:162", after := #[{ on := 19, ground := Ground.guard }], guard := some (19, true) }) (v := .int .i64 (i : Int)) rfl (by kernel_rfl) (by kernel_rfl) (by kernel_rfl) (fun _ _ _ h => h) (Or.inl ⟨by rfl, ?_⟩) (by assumption) ?_
                          · intro w hSw
                            (try dsimp only at hSw)
                            go_simp
                          try simp only [Act.put, List.setIfInBounds_toArray, List.set_cons_zero, List.set_cons_succ]
                          refine wpAnyH_take (i := 22) (oi := { dst := some 78, op := Op.indexAddr 47 (Operand.tmp 76) (Operand.tmp 77), type := 0, pos := "match.go:162", after := #[{ on := 20, ground := Ground.data }, { on := 21, ground := Ground.data }, { on := 19, ground := Ground.guard }], guard := some (19, true) }) (v := .pointer (some ⟨g, i * 258, none⟩)) rfl (by kernel_rfl) (by kernel_rfl) (by kernel_rfl) (fun _ _ _ h => h) (Or.inl ⟨by rfl, ?_⟩) (by assumption) ?_
                          · intro w hSw
                            (try dsimp only at hSw)
                            go_simp
                          try simp only [Act.put, List.setIfInBounds_toArray, List.set_cons_zero, List.set_cons_succ]
                          refine wpAnyH_take (i := 23) (oi := { dst := some 79, op := Op.load 74 (Operand.tmp 78), type := 74, pos := "match.go:162", after := #[{ on := 22, ground := Ground.data }, { on := 19, ground := Ground.guard }], guard := some (19, true) }) (v := .agg F.toArray) rfl (by kernel_rfl) (by kernel_rfl) (by kernel_rfl) (fun _ _ _ h => h) (yieldsIf_load_mid (by rfl) _ _ rfl g (i * 258) rfl F _ (fun w hw => Hrg.out w hw) Try.underlying74 rfl hFi) (by assumption) ?_
                          try simp only [Act.put, List.setIfInBounds_toArray, List.set_cons_zero, List.set_cons_succ]
                          refine wpAnyH_take (i := 24) (oi := { dst := some 80, op := Op.move (Operand.tmp 1), type := 9, pos := "match.go:162", after := #[{ on := 19, ground := Ground.guard }], guard := some (19, true) }) (v := .string t) rfl (by kernel_rfl) (by kernel_rfl) (by kernel_rfl) (fun _ _ _ h => h) (Or.inl ⟨by rfl, ?_⟩) (by assumption) ?_
                          · intro w hSw
                            (try dsimp only at hSw)
                            go_simp
                          try simp only [Act.put, List.setIfInBounds_toArray, List.set_cons_zero, List.set_cons_succ]
                          refine wpAnyH_take (i := 25) (oi := { dst := some 81, op := Op.move (Operand.tmp 9), type := 3, pos := "match.go:162", after := #[{ on := 19, ground := Ground.guard }], guard := some (19, true) }) (v := .int .i64 (j : Int)) rfl (by kernel_rfl) (by kernel_rfl) (by kernel_rfl) (fun _ _ _ h => h) (Or.inl ⟨by rfl, ?_⟩) (by assumption) ?_
                          · intro w hSw
                            (try dsimp only at hSw)
                            go_simp
                          try simp only [Act.put, List.setIfInBounds_toArray, List.set_cons_zero, List.set_cons_succ]
                          refine wpAnyH_take (i := 26) (oi := { dst := some 82, op := Op.index 9 (Operand.tmp 80) (Operand.tmp 81), type := 5, pos := "match.go:162", after := #[{ on := 24, ground := Ground.data }, { on := 25, ground := Ground.data }, { on := 19, ground := Ground.guard }], guard := some (19, true) }) (v := .int .u8 (xn : Int)) rfl (by kernel_rfl) (by kernel_rfl) (by kernel_rfl) (fun _ _ _ h => h) (Or.inl ⟨by rfl, ?_⟩) (by assumption) ?_
                          · intro w hSw
                            (try dsimp only at hSw)
                            go_simp
                          try simp only [Act.put, List.setIfInBounds_toArray, List.set_cons_zero, List.set_cons_succ]
                          refine wpAnyH_ready (rs := [27]) (by kernel_rfl) (by simp) ?_
                          refine AllReadyH.cons (o := { dst := some 83, op := Op.call { callee := Callee.value (Operand.func 25), args := #[Operand.tmp 79, Operand.tmp 82], argTypes := #[74, 5] }, type := 4, pos := "match.go:162", after := #[{ on := 23, ground := Ground.data }, { on := 26, ground := Ground.data }, { on := 19, ground := Ground.chain }, { on := 19, ground := Ground.guard }], guard := some (19, true) }) rfl (fun K hK => ?_) AllReadyH.nil
                          go_simp
                          refine (kt _).mono ?_
                          rintro e w9 ⟨rfl, hb9⟩
                          have q9 := HB.out.trans (hb9.mono HB.out.size)
                          refine hK.out _ _ ?_ (fun hHeld => ?_)
                          · exact q9
                          clear hK K
                          try simp only [Act.put, List.setIfInBounds_toArray, List.set_cons_zero, List.set_cons_succ]
                          refine wpAnyH_take (i := 28) (oi := { dst := some 84, op := Op.pick (Operand.tmp 75) (Operand.tmp 83) (Operand.const (Value.bool false)), type := 4, pos := "match.go:162", after := #[{ on := 19, ground := Ground.data }, { on := 27, ground := Ground.data }], guard := none }) (v := .bool T) rfl (by kernel_rfl) (by kernel_rfl) (by kernel_rfl) (fun _ _ _ h => h) (Or.inl ⟨by rfl, ?_⟩) (by assumption) ?_
                          · intro w hSw
                            (try dsimp only at hSw)
                            go_simp
                          try simp only [Act.put, List.setIfInBounds_toArray, List.set_cons_zero, List.set_cons_succ]
                          refine wpAnyH_done (by kernel_rfl) ?_ _
                          go_wp2
                          go_meet
                          exact ⟨by rw [HQ.out, HMM.out]; simp, Hid.mk (HE.out.later q9)⟩
                  · have hjn' : ¬ (j : Int) < (n : Int) := by omega
                    have HQ : Hid ((decide (j < n) && Qd p A u (j + 1)) = false) := Hid.mk (by rw [decide_eq_false hjn, Bool.false_and])
                    clear HP HM HU HGet hjn HcA HcN
                    refine wp_region_held_drew (S := (fun w' => Below W.heap.size W w')) (by kernel_rfl) (HB.out) (fun hHeld => ?_)
                    refine wpAnyH_take (i := 0) (oi := { dst := some 56, op := Op.move (Operand.tmp 9), type := 3, pos := "match.go:162", after := #[], guard := none }) (v := .int .i64 (j : Int)) rfl (by kernel_rfl) (by kernel_rfl) (by kernel_rfl) (fun _ _ _ h => h) (Or.inl ⟨by rfl, ?_⟩) (by assumption) ?_
                    · intro w hSw
                      (try dsimp only at hSw)
                      go_simp
                    try simp only [Act.put, List.setIfInBounds_toArray, List.set_cons_zero, List.set_cons_succ]
                    refine wpAnyH_take (i := 1) (oi := { dst := some 57, op := Op.move (Operand.tmp 1), type := 9, pos := "match.go:162", after := #[], guard := none }) (v := .string t) rfl (by kernel_rfl) (by kernel_rfl) (by kernel_rfl) (fun _ _ _ h => h) (Or.inl ⟨by rfl, ?_⟩) (by assumption) ?_
                    · intro w hSw
                      (try dsimp only at hSw)
                      go_simp
                    try simp only [Act.put, List.setIfInBounds_toArray, List.set_cons_zero, List.set_cons_succ]
                    refine wpAnyH_take (i := 2) (oi := { dst := some 58, op := Op.call { callee := Callee.builtin Builtin.len, args := #[Operand.tmp 57], argTypes := #[9] }, type := 3, pos := "match.go:162", after := #[{ on := 1, ground := Ground.data }], guard := none }) (v := .int .i64 (n : Int)) rfl (by kernel_rfl) (by kernel_rfl) (by kernel_rfl) (fun _ _ _ h => h) (Or.inl ⟨by rfl, ?_⟩) (by assumption) ?_
                    · intro w hSw
                      (try dsimp only at hSw)
                      go_simp
                    try simp only [Act.put, List.setIfInBounds_toArray, List.set_cons_zero, List.set_cons_succ]
                    refine wpAnyH_take (i := 3) (oi := { dst := some 59, op := Op.binOp BinOp.lss 3 (Operand.tmp 56) (Operand.tmp 58) 3, type := 4, pos := "match.go:162", after := #[{ on := 0, ground := Ground.data }, { on := 2, ground := Ground.data }], guard := none }) (v := .bool false) rfl (by kernel_rfl) (by kernel_rfl) (by kernel_rfl) (fun _ _ _ h => h) (Or.inl ⟨by rfl, ?_⟩) (by assumption) ?_
                    · intro w hSw
                      (try dsimp only at hSw)
                      go_simp
                    try simp only [Act.put, List.setIfInBounds_toArray, List.set_cons_zero, List.set_cons_succ]
                    refine wpAnyH_take (i := 4) (oi := { dst := some 60, op := Op.move (Operand.tmp 59), type := 4, pos := "match.go:162", after := #[{ on := 3, ground := Ground.data }], guard := none }) (v := .bool false) rfl (by kernel_rfl) (by kernel_rfl) (by kernel_rfl) (fun _ _ _ h => h) (Or.inl ⟨by rfl, ?_⟩) (by assumption) ?_
                    · intro w hSw
                      (try dsimp only at hSw)
                      go_simp
                    try simp only [Act.put, List.setIfInBounds_toArray, List.set_cons_zero, List.set_cons_succ]
                    refine wpAnyH_take (i := 5) (oi := { dst := some 61, op := Op.move (Operand.tmp 5), type := 54, pos := "match.go:162", after := #[{ on := 4, ground := Ground.guard }], guard := some (4, true) }) (v := undef) rfl (by kernel_rfl) (by kernel_rfl) (by kernel_rfl) (fun _ _ _ h => h) (Or.inr ⟨by rfl, rfl⟩) (by assumption) ?_
                    try simp only [Act.put, List.setIfInBounds_toArray, List.set_cons_zero, List.set_cons_succ]
                    refine wpAnyH_take (i := 6) (oi := { dst := some 62, op := Op.move (Operand.tmp 9), type := 3, pos := "match.go:162", after := #[{ on := 4, ground := Ground.guard }], guard := some (4, true) }) (v := undef) rfl (by kernel_rfl) (by kernel_rfl) (by kernel_rfl) (fun _ _ _ h => h) (Or.inr ⟨by rfl, rfl⟩) (by assumption) ?_
                    try simp only [Act.put, List.setIfInBounds_toArray, List.set_cons_zero, List.set_cons_succ]
                    refine wpAnyH_take (i := 7) (oi := { dst := some 63, op := Op.indexAddr 54 (Operand.tmp 61) (Operand.tmp 62), type := 0, pos := "match.go:162", after := #[{ on := 5, ground := Ground.data }, { on := 6, ground := Ground.data }, { on := 4, ground := Ground.guard }], guard := some (4, true) }) (v := undef) rfl (by kernel_rfl) (by kernel_rfl) (by kernel_rfl) (fun _ _ _ h => h) (Or.inr ⟨by rfl, rfl⟩) (by assumption) ?_
                    try simp only [Act.put, List.setIfInBounds_toArray, List.set_cons_zero, List.set_cons_succ]
                    refine wpAnyH_take (i := 8) (oi := { dst := some 64, op := Op.load 4 (Operand.tmp 63), type := 4, pos := "match.go:162", after := #[{ on := 7, ground := Ground.data }, { on := 4, ground := Ground.guard }], guard := some (4, true) }) (v := undef) rfl (by kernel_rfl) (by kernel_rfl) (by kernel_rfl) (fun _ _ _ h => h) (Or.inr ⟨by rfl, rfl⟩) (by assumption) ?_
                    try simp only [Act.put, List.setIfInBounds_toArray, List.set_cons_zero, List.set_cons_succ]
                    refine wpAnyH_take (i := 9) (oi := { dst := some 65, op := Op.move (Operand.tmp 64), type := 4, pos := "match.go:162", after := #[{ on := 8, ground := Ground.data }, { on := 4, ground := Ground.chain }, { on := 4, ground := Ground.guard }], guard := some (4, true) }) (v := undef) rfl (by kernel_rfl) (by kernel_rfl) (by kernel_rfl) (fun _ _ _ h => h) (Or.inr ⟨by rfl, rfl⟩) (by assumption) ?_
                    try simp only [Act.put, List.setIfInBounds_toArray, List.set_cons_zero, List.set_cons_succ]
                    refine wpAnyH_take (i := 10) (oi := { dst := some 66, op := Op.move (Operand.tmp 8), type := 4, pos := "match.go:162", after := #[{ on := 9, ground := Ground.guard }], guard := some (9, false) }) (v := undef) rfl (by kernel_rfl) (by kernel_rfl) (by kernel_rfl) (fun _ _ _ h => h) (Or.inr ⟨by rfl, rfl⟩) (by assumption) ?_
                    try simp only [Act.put, List.setIfInBounds_toArray, List.set_cons_zero, List.set_cons_succ]
                    refine wpAnyH_take (i := 11) (oi := { dst := some 67, op := Op.move (Operand.tmp 66), type := 4, pos := "match.go:162", after := #[{ on := 10, ground := Ground.data }, { on := 9, ground := Ground.chain }, { on := 9, ground := Ground.guard }], guard := some (9, false) }) (v := undef) rfl (by kernel_rfl) (by kernel_rfl) (by kernel_rfl) (fun _ _ _ h => h) (Or.inr ⟨by rfl, rfl⟩) (by assumption) ?_
                    try simp only [Act.put, List.setIfInBounds_toArray, List.set_cons_zero, List.set_cons_succ]
                    refine wpAnyH_take (i := 12) (oi := { dst := some 68, op := Op.move (Operand.tmp 7), type := 54, pos := "match.go:162", after := #[{ on := 11, ground := Ground.guard }], guard := some (11, true) }) (v := undef) rfl (by kernel_rfl) (by kernel_rfl) (by kernel_rfl) (fun _ _ _ h => h) (Or.inr ⟨by rfl, rfl⟩) (by assumption) ?_
                    try simp only [Act.put, List.setIfInBounds_toArray, List.set_cons_zero, List.set_cons_succ]
                    refine wpAnyH_take (i := 13) (oi := { dst := some 69, op := Op.move (Operand.tmp 9), type := 3, pos := "match.go:162", after := #[{ on := 11, ground := Ground.guard }], guard := some (11, true) }) (v := undef) rfl (by kernel_rfl) (by kernel_rfl) (by kernel_rfl) (fun _ _ _ h => h) (Or.inr ⟨by rfl, rfl⟩) (by assumption) ?_
                    try simp only [Act.put, List.setIfInBounds_toArray, List.set_cons_zero, List.set_cons_succ]
                    refine wpAnyH_take (i := 14) (oi := { dst := some 70, op := Op.indexAddr 54 (Operand.tmp 68) (Operand.tmp 69), type := 0, pos := "match.go:162", after := #[{ on := 12, ground := Ground.data }, { on := 13, ground := Ground.data }, { on := 11, ground := Ground.guard }], guard := some (11, true) }) (v := undef) rfl (by kernel_rfl) (by kernel_rfl) (by kernel_rfl) (fun _ _ _ h => h) (Or.inr ⟨by rfl, rfl⟩) (by assumption) ?_
                    try simp only [Act.put, List.setIfInBounds_toArray, List.set_cons_zero, List.set_cons_succ]
                    refine wpAnyH_take (i := 15) (oi := { dst := some 71, op := Op.load 4 (Operand.tmp 70), type := 4, pos := "match.go:162", after := #[{ on := 14, ground := Ground.data }, { on := 11, ground := Ground.guard }], guard := some (11, true) }) (v := undef) rfl (by kernel_rfl) (by kernel_rfl) (by kernel_rfl) (fun _ _ _ h => h) (Or.inr ⟨by rfl, rfl⟩) (by assumption) ?_
                    try simp only [Act.put, List.setIfInBounds_toArray, List.set_cons_zero, List.set_cons_succ]
                    refine wpAnyH_take (i := 16) (oi := { dst := some 72, op := Op.pick (Operand.tmp 67) (Operand.tmp 71) (Operand.const (Value.bool false)), type := 4, pos := "match.go:162", after := #[{ on := 11, ground := Ground.data }, { on := 15, ground := Ground.data }, { on := 9, ground := Ground.guard }], guard := some (9, false) }) (v := undef) rfl (by kernel_rfl) (by kernel_rfl) (by kernel_rfl) (fun _ _ _ h => h) (Or.inr ⟨by rfl, rfl⟩) (by assumption) ?_
                    try simp only [Act.put, List.setIfInBounds_toArray, List.set_cons_zero, List.set_cons_succ]
                    refine wpAnyH_take (i := 17) (oi := { dst := some 73, op := Op.pick (Operand.tmp 65) (Operand.const (Value.bool true)) (Operand.tmp 72), type := 4, pos := "match.go:162", after := #[{ on := 9, ground := Ground.data }, { on := 16, ground := Ground.data }, { on := 4, ground := Ground.guard }], guard := some (4, true) }) (v := undef) rfl (by kernel_rfl) (by kernel_rfl) (by kernel_rfl) (fun _ _ _ h => h) (Or.inr ⟨by rfl, rfl⟩) (by assumption) ?_
                    try simp only [Act.put, List.setIfInBounds_toArray, List.set_cons_zero, List.set_cons_succ]
                    refine wpAnyH_take (i := 18) (oi := { dst := some 74, op := Op.pick (Operand.tmp 60) (Operand.tmp 73) (Operand.const (Value.bool false)), type := 4, pos := "match.go:162", after := #[{ on := 4, ground := Ground.data }, { on := 17, ground := Ground.data }], guard := none }) (v := .bool false) rfl (by kernel_rfl) (by kernel_rfl) (by kernel_rfl) (fun _ _ _ h => h) (Or.inl ⟨by rfl, ?_⟩) (by assumption) ?_
                    · intro w hSw
                      (try dsimp only at hSw)
                      go_simp
                    try simp only [Act.put, List.setIfInBounds_toArray, List.set_cons_zero, List.set_cons_succ]
                    refine wpAnyH_take (i := 19) (oi := { dst := some 75, op := Op.move (Operand.tmp 74), type := 4, pos := "match.go:162", after := #[{ on := 18, ground := Ground.data }, { on := 11, ground := Ground.chain }], guard := none }) (v := .bool false) rfl (by kernel_rfl) (by kernel_rfl) (by kernel_rfl) (fun _ _ _ h => h) (Or.inl ⟨by rfl, ?_⟩) (by assumption) ?_
                    · intro w hSw
                      (try dsimp only at hSw)
                      go_simp
                    try simp only [Act.put, List.setIfInBounds_toArray, List.set_cons_zero, List.set_cons_succ]
                    refine wpAnyH_take (i := 20) (oi := { dst := some 76, op := Op.move (Operand.tmp 0), type := 47, pos := "match.go:162", after := #[{ on := 19, ground := Ground.guard }], guard := some (19, true) }) (v := undef) rfl (by kernel_rfl) (by kernel_rfl) (by kernel_rfl) (fun _ _ _ h => h) (Or.inr ⟨by rfl, rfl⟩) (by assumption) ?_
                    try simp only [Act.put, List.setIfInBounds_toArray, List.set_cons_zero, List.set_cons_succ]
                    refine wpAnyH_take (i := 21) (oi := { dst := some 77, op := Op.move (Operand.tmp 6), type := 3, pos := "match.go:162", after := #[{ on := 19, ground := Ground.guard }], guard := some (19, true) }) (v := undef) rfl (by kernel_rfl) (by kernel_rfl) (by kernel_rfl) (fun _ _ _ h => h) (Or.inr ⟨by rfl, rfl⟩) (by assumption) ?_
                    try simp only [Act.put, List.setIfInBounds_toArray, List.set_cons_zero, List.set_cons_succ]
                    refine wpAnyH_take (i := 22) (oi := { dst := some 78, op := Op.indexAddr 47 (Operand.tmp 76) (Operand.tmp 77), type := 0, pos := "match.go:162", after := #[{ on := 20, ground := Ground.data }, { on := 21, ground := Ground.data }, { on := 19, ground := Ground.guard }], guard := some (19, true) }) (v := undef) rfl (by kernel_rfl) (by kernel_rfl) (by kernel_rfl) (fun _ _ _ h => h) (Or.inr ⟨by rfl, rfl⟩) (by assumption) ?_
                    try simp only [Act.put, List.setIfInBounds_toArray, List.set_cons_zero, List.set_cons_succ]
                    refine wpAnyH_take (i := 23) (oi := { dst := some 79, op := Op.load 74 (Operand.tmp 78), type := 74, pos := "match.go:162", after := #[{ on := 22, ground := Ground.data }, { on := 19, ground := Ground.guard }], guard := some (19, true) }) (v := undef) rfl (by kernel_rfl) (by kernel_rfl) (by kernel_rfl) (fun _ _ _ h => h) (Or.inr ⟨by rfl, rfl⟩) (by assumption) ?_
                    try simp only [Act.put, List.setIfInBounds_toArray, List.set_cons_zero, List.set_cons_succ]
                    refine wpAnyH_take (i := 24) (oi := { dst := some 80, op := Op.move (Operand.tmp 1), type := 9, pos := "match.go:162", after := #[{ on := 19, ground := Ground.guard }], guard := some (19, true) }) (v := undef) rfl (by kernel_rfl) (by kernel_rfl) (by kernel_rfl) (fun _ _ _ h => h) (Or.inr ⟨by rfl, rfl⟩) (by assumption) ?_
                    try simp only [Act.put, List.setIfInBounds_toArray, List.set_cons_zero, List.set_cons_succ]
                    refine wpAnyH_take (i := 25) (oi := { dst := some 81, op := Op.move (Operand.tmp 9), type := 3, pos := "match.go:162", after := #[{ on := 19, ground := Ground.guard }], guard := some (19, true) }) (v := undef) rfl (by kernel_rfl) (by kernel_rfl) (by kernel_rfl) (fun _ _ _ h => h) (Or.inr ⟨by rfl, rfl⟩) (by assumption) ?_
                    try simp only [Act.put, List.setIfInBounds_toArray, List.set_cons_zero, List.set_cons_succ]
                    refine wpAnyH_take (i := 26) (oi := { dst := some 82, op := Op.index 9 (Operand.tmp 80) (Operand.tmp 81), type := 5, pos := "match.go:162", after := #[{ on := 24, ground := Ground.data }, { on := 25, ground := Ground.data }, { on := 19, ground := Ground.guard }], guard := some (19, true) }) (v := undef) rfl (by kernel_rfl) (by kernel_rfl) (by kernel_rfl) (fun _ _ _ h => h) (Or.inr ⟨by rfl, rfl⟩) (by assumption) ?_
                    try simp only [Act.put, List.setIfInBounds_toArray, List.set_cons_zero, List.set_cons_succ]
                    refine wpAnyH_take (i := 27) (oi := { dst := some 83, op := Op.call { callee := Callee.value (Operand.func 25), args := #[Operand.tmp 79, Operand.tmp 82], argTypes := #[74, 5] }, type := 4, pos := "match.go:162", after := #[{ on := 23, ground := Ground.data }, { on := 26, ground := Ground.data }, { on := 19, ground := Ground.chain }, { on := 19, ground := Ground.guard }], guard := some (19, true) }) (v := undef) rfl (by kernel_rfl) (by kernel_rfl) (by kernel_rfl) (fun _ _ _ h => h) (Or.inr ⟨by rfl, rfl⟩) (by assumption) ?_
                    try simp only [Act.put, List.setIfInBounds_toArray, List.set_cons_zero, List.set_cons_succ]
                    refine wpAnyH_take (i := 28) (oi := { dst := some 84, op := Op.pick (Operand.tmp 75) (Operand.tmp 83) (Operand.const (Value.bool false)), type := 4, pos := "match.go:162", after := #[{ on := 19, ground := Ground.data }, { on := 27, ground := Ground.data }], guard := none }) (v := .bool false) rfl (by kernel_rfl) (by kernel_rfl) (by kernel_rfl) (fun _ _ _ h => h) (Or.inl ⟨by rfl, ?_⟩) (by assumption) ?_
                    · intro w hSw
                      (try dsimp only at hSw)
                      go_simp
                    try simp only [Act.put, List.setIfInBounds_toArray, List.set_cons_zero, List.set_cons_succ]
                    refine wpAnyH_done (by kernel_rfl) ?_ _
                    go_wp2
                    go_meet
                    exact ⟨by rw [HQ.out], Hid.mk (HE.out.later HB.out)⟩
                case rest =>
                  obtain ⟨rfl, HE2⟩ := hcut
                  clear HE
                  rename World => V
                  have cN := HE2.out.nxt
                  have hjs : (j : Int) ≤ 1023 := by omega
                  cases hq : (decide (j < n) && Qd p A u (j + 1)) with
                  | true =>
                    have hq2 : j < n ∧ Qd p A u (j + 1) = true := by simpa using hq
                    have hjn' : (j : Int) + 1 < (n : Int) + 1 := by omega
                    have hjn2 : ¬ (n : Int) + 1 ≤ (j : Int) + 1 := by omega
                    have c1 := cN.cell (i := j + 1) (by rw [rowE_len]; omega)
                    have f1 : V.frozen? ⟨nb, j + 1, none⟩ = false := frozen_of_block cN (j + 1)
                    have HN : Hid (OfJ w (V.setCell ⟨nb, j + 1, none⟩ (.bool true)) rb nb A n (rowD p A u n (j + 1))) := Hid.mk (by rw [← rowD_yes p A u hq2.2]; exact HE2.out.set (j + 1) true)
                    clear hq hq2 cN HE2 HP HM HU HGet
                    go_wp2
                    go_roundw
                    case rel => exact ⟨j + 1, by go_num, by omega, HN⟩
                    case measure => simp [intOf]; omega
                  | false =>
                    have HN : Hid (OfJ w V rb nb A n (rowD p A u n (j + 1))) := Hid.mk (by
                      rw [← rowD_no p A u]
                      · exact HE2.out
                      · rw [Bool.and_eq_false_iff, decide_eq_false_iff_not] at hq
                        rcases hq with h | h
                        · exact .inr (by omega)
                        · exact .inl h)
                    clear hq cN HE2 HP HM HU HGet
                    go_wp2
                    go_roundw
                    case rel => exact ⟨j + 1, by go_num, by omega, HN⟩
                    case measure => simp [intOf]; omega
          · obtain rfl : j = n + 1 := by omega
            have hge : ¬ ((n + 1 : Nat) : Int) ≤ (n : Int) := by omega
            have hil2 : (i : Int) ≤ 1000 := by omega
            have HN : Hid (OfI w wr nb (tabR u (ps.take (i + 1)).reverse) n) := Hid.mk ⟨by
              have := HJ.out.nxt
              rw [rowD_end, HP.out.2.2] at this
              exact this, HJ.out.bel, HJ.out.own⟩
            clear HJ HP HM
            go_wp2
            go_roundw
            case rel => exact ⟨i + 1, nb, rfl, by go_num, by omega, HN⟩
            case measure => simp [intOf]; omega
    · obtain rfl : i = ps.length := by omega
      have hge : ¬ (ps.length : Int) < (ps.length : Int) := by omega
      have cA := HI.out.row.cell (i := n) (by rw [rowT_len]; omega)
      rw [rowT_at _ n (Nat.le_refl _), List.take_length] at cA
      have hfit := tab_fits ps u
      rw [HU.out.1] at hfit
      rw [hfit] at cA
      have hnl : (n : Int) < (n : Int) + 1 := by omega
      have HB := Hid.mk HI.out.bel
      clear HI hfit HAT
      obtain ⟨X, hX⟩ : ∃ X, X = fitsP ps u := ⟨_, rfl⟩
      rw [← hX] at cA
      have HX := Hid.mk hX
      clear hX
      go_wp2
      go_ret
      exact ⟨by rw [← HX.out]; rfl, HB.out⟩
end Go.Proofs.Ytkdjjnkhbmmfeaa
