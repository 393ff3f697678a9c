import Derived.Test.YtkdjjnkhbmmfeaaFDI
import Derived.Deep.DeepCutAuto
namespace Go.Proofs.Ytkdjjnkhbmmfeaa
open Go.RowKit Go.Maps

set_option maxRecDepth 20000 in
set_option maxHeartbeats 64000000 in
theorem findGlobs_any (a m b o : ByteArray) (lo hi c : Int) (w : World) (ha : a.size ≤ 1000000000) (hm : m.size ≤ 1000000000) (hb : b.size ≤ 1000000000) (hlo : 0 ≤ lo ∧ lo < 256) (hhi : 0 ≤ hi ∧ hi < 256) (hc : 0 ≤ c ∧ c < 256) :
    Calls Try.prog 3 #[.string a, .string m, .string b, .string o, .int .u8 lo, .int .u8 hi, .int .u8 c] w fun e w' => e = .returned (.bool true) ∧ Below w.heap.size w w' := by
  have m1 : mres ⟨#[120, 42, 122]⟩ ⟨#[120, 121, 122]⟩ true = true := by decide
  have m2 : mres ⟨#[120, 63, 122]⟩ ⟨#[120, 47, 122]⟩ false = true := by decide
  have k1 := matches_any ⟨#[120, 42, 122]⟩ ⟨#[120, 121, 122]⟩ true
  have k2 := matches_any ⟨#[120, 63, 122]⟩ ⟨#[120, 47, 122]⟩ false
  rw [m1] at k1
  rw [m2] at k2
  have ke0 : ∀ w, Calls Try.prog 7 #[.string a] w fun e w' => e = .returned (.string (escA a)) ∧ Below w.heap.size w w' := fun w => escaped_any a w (by omega)
  have kb0 : ∀ w, Calls Try.prog 7 #[.string b] w fun e w' => e = .returned (.string (escA b)) ∧ Below w.heap.size w w' := fun w => escaped_any b w (by omega)
  have kc := fun w => clear1_any m w (by omega)
  have k3 := matches_ok (mres_ok (p := escA a) (t := a) (want := true) (by rw [escA_ub, pat_esc0]) (by rw [fits_just]; simp))
  have k4 := matches_ok (mres_ok (p := escA a) (t := o) (want := a.toList == o.toList) (by rw [escA_ub, pat_esc0]) (by rw [fits_just]; exact same_bytes a o))
  have k5 := matches_ok (star_ok a b m)
  have k6 := matches_ok (all_ok a b m)
  have k7 := matches_ok (one_ok a b hc)
  rw [show decide (c ≠ 47) = !decide (c = 47) from by simp] at k7
  have HU := Hid.mk (str1_ub hc)
  have sA := escA_size a
  have sB := escA_size b
  obtain ⟨A, hA⟩ : ∃ A, A = escA a := ⟨_, rfl⟩
  obtain ⟨B, hB⟩ : ∃ B, B = escA b := ⟨_, rfl⟩
  rw [← hA] at k3 k4 k5 k6 k7 sA
  rw [← hB] at k5 k6 k7 sB
  have ke : ∀ w, Calls Try.prog 7 #[.string a] w fun e w' => e = .returned (.string A) ∧ Below w.heap.size w w' := by rw [hA]; exact ke0
  have kb : ∀ w, Calls Try.prog 7 #[.string b] w fun e w' => e = .returned (.string B) ∧ Below w.heap.size w w' := by rw [hB]; exact kb0
  have sC : (strOfNums [c]).size = 1 := by simp [strOfNums, ByteArray.size]
  have p1 : (9223372036854775807 < A.size + 1) = False := eq_false (by omega)
  have p2 : (9223372036854775807 < A.size + 1 + B.size) = False := eq_false (by omega)
  have p3 : (9223372036854775807 < a.size + m.size) = False := eq_false (by omega)
  have p4 : (9223372036854775807 < a.size + m.size + b.size) = False := eq_false (by omega)
  have p5 : (9223372036854775807 < A.size + 2) = False := eq_false (by omega)
  have p6 : (9223372036854775807 < A.size + 2 + B.size) = False := eq_false (by omega)
  have p7 : (9223372036854775807 < a.size + 1) = False := eq_false (by omega)
  have p8 : (9223372036854775807 < a.size + 1 + b.size) = False := eq_false (by omega)
  have HAB := Hid.mk (And.intro hA hB)
  have HSZ := Hid.mk (And.intro (And.intro ha hb) (And.intro sA sB))
  clear ke0 kb0 hA hB ha hb hm sA sB
  go_enter Try.func3, Try.ntmps3
  go_wp2_with fail
  refine (k1 _).mono ?_
  rintro e w1 ⟨rfl, hb1⟩
  go_wp2_with fail
  refine (k2 _).mono ?_
  rintro e w2 ⟨rfl, hb2⟩
  go_wp2_with fail
  refine (ke _).mono ?_
  rintro e w3 ⟨rfl, hb3⟩
  go_wp2_with fail
  refine (k3 _).mono ?_
  rintro e w4 ⟨rfl, hb4⟩
  go_wp2_with fail
  refine (ke _).mono ?_
  rintro e w5 ⟨rfl, hb5⟩
  go_wp2_with fail
  refine (k4 _).mono ?_
  rintro e w6 ⟨rfl, hb6⟩
  have HB : Hid (Below w.heap.size w w6) := Hid.mk (by
    have h1 := hb1.trans (hb2.mono hb1.size)
    have h2 := h1.trans (hb3.mono h1.size)
    have h3 := h2.trans (hb4.mono h2.size)
    have h4 := h3.trans (hb5.mono h3.size)
    exact h4.trans (hb6.mono h4.size))
  clear hb1 hb2 hb3 hb4 hb5 hb6 k1 k2 k3 k4 m1 m2
  have HBd := Hid.mk (dr_below HB.out)
  clear HB
  go_upto_region 5 with fail
  go_cut [91] (fun c wx => c = .bool false ∧ Below w.heap.size w wx)
  case first =>
    as_aux_lemma =>
      refine wp_region_held_drew (S := (fun w' => Below w.heap.size w w')) (by kernel_rfl) (HBd.out) (fun hHeld => ?_)
      refine wpAnyH_take (i := 0) (oi := { dst := some 43, op := Op.move (Operand.tmp 0), type := 9, pos := "outright.go:47", after := #[], guard := none }) (v := .string a) rfl (by kernel_rfl) (by kernel_rfl) (by kernel_rfl) (fun _ _ _ h => h) (Or.inl ⟨by rfl, ?_⟩) (by assumption) ?_
      · intro w hSw
        (try dsimp only at hSw)
        go_simp
      try simp only [Act.put, List.setIfInBounds_toArray, List.set_cons_zero, List.set_cons_succ]
      refine wpAnyH_take (i := 3) (oi := { dst := some 46, op := Op.move (Operand.tmp 2), type := 9, pos := "outright.go:47", after := #[], guard := none }) (v := .string b) rfl (by kernel_rfl) (by kernel_rfl) (by kernel_rfl) (fun _ _ _ h => h) (Or.inl ⟨by rfl, ?_⟩) (by assumption) ?_
      · intro w hSw
        (try dsimp only at hSw)
        go_simp
      try simp only [Act.put, List.setIfInBounds_toArray, List.set_cons_zero, List.set_cons_succ]
      refine wpAnyH_take (i := 6) (oi := { dst := some 49, op := Op.move (Operand.tmp 0), type := 9, pos := "outright.go:47", after := #[], guard := none }) (v := .string a) rfl (by kernel_rfl) (by kernel_rfl) (by kernel_rfl) (fun _ _ _ h => h) (Or.inl ⟨by rfl, ?_⟩) (by assumption) ?_
      · intro w hSw
        (try dsimp only at hSw)
        go_simp
      try simp only [Act.put, List.setIfInBounds_toArray, List.set_cons_zero, List.set_cons_succ]
      refine wpAnyH_take (i := 7) (oi := { dst := some 50, op := Op.move (Operand.tmp 1), type := 9, pos := "outright.go:47", after := #[], guard := none }) (v := .string m) rfl (by kernel_rfl) (by kernel_rfl) (by kernel_rfl) (fun _ _ _ h => h) (Or.inl ⟨by rfl, ?_⟩) (by assumption) ?_
      · intro w hSw
        (try dsimp only at hSw)
        go_simp
      try simp only [Act.put, List.setIfInBounds_toArray, List.set_cons_zero, List.set_cons_succ]
      refine wpAnyH_take (i := 8) (oi := { dst := some 51, op := Op.binOp BinOp.add 9 (Operand.tmp 49) (Operand.tmp 50) 9, type := 9, pos := "outright.go:47", after := #[{ on := 6, ground := Ground.data }, { on := 7, ground := Ground.data }], guard := none }) (v := .string (a ++ m)) rfl (by kernel_rfl) (by kernel_rfl) (by kernel_rfl) (fun _ _ _ h => h) (Or.inl ⟨by rfl, ?_⟩) (by assumption) ?_
      · intro w hSw
        (try dsimp only at hSw)
        go_simp
      try simp only [Act.put, List.setIfInBounds_toArray, List.set_cons_zero, List.set_cons_succ]
      refine wpAnyH_take (i := 9) (oi := { dst := some 52, op := Op.move (Operand.tmp 2), type := 9, pos := "outright.go:47", after := #[], guard := none }) (v := .string b) rfl (by kernel_rfl) (by kernel_rfl) (by kernel_rfl) (fun _ _ _ h => h) (Or.inl ⟨by rfl, ?_⟩) (by assumption) ?_
      · intro w hSw
        (try dsimp only at hSw)
        go_simp
      try simp only [Act.put, List.setIfInBounds_toArray, List.set_cons_zero, List.set_cons_succ]
      refine wpAnyH_take (i := 10) (oi := { dst := some 53, op := Op.binOp BinOp.add 9 (Operand.tmp 51) (Operand.tmp 52) 9, type := 9, pos := "outright.go:47", after := #[{ on := 8, ground := Ground.data }, { on := 9, ground := Ground.data }], guard := none }) (v := .string (a ++ m ++ b)) rfl (by kernel_rfl) (by kernel_rfl) (by kernel_rfl) (fun _ _ _ h => h) (Or.inl ⟨by rfl, ?_⟩) (by assumption) ?_
      · intro w hSw
        (try dsimp only at hSw)
        go_simp
      try simp only [Act.put, List.setIfInBounds_toArray, List.set_cons_zero, List.set_cons_succ]
      refine wpAnyH_take (i := 11) (oi := { dst := some 54, op := Op.move (Operand.tmp 1), type := 9, pos := "outright.go:47", after := #[], guard := none }) (v := .string m) rfl (by kernel_rfl) (by kernel_rfl) (by kernel_rfl) (fun _ _ _ h => h) (Or.inl ⟨by rfl, ?_⟩) (by assumption) ?_
      · intro w hSw
        (try dsimp only at hSw)
        go_simp
      try simp only [Act.put, List.setIfInBounds_toArray, List.set_cons_zero, List.set_cons_succ]
      refine wpAnyH_ready (rs := [1]) (by kernel_rfl) (by simp) ?_
      refine AllReadyH.cons (o := { dst := some 44, op := Op.call { callee := Callee.value (Operand.func 7), args := #[Operand.tmp 43], argTypes := #[9] }, type := 9, pos := "outright.go:47", after := #[{ on := 0, ground := Ground.data }], guard := none }) rfl (fun K hK => ?_) AllReadyH.nil
      go_simp
      refine (ke w6.drew).mono ?_
      rintro e w7 ⟨rfl, hb7⟩
      have q7 := HBd.out.trans (hb7.mono HBd.out.size)
      refine hK.out _ _ ?_ (fun hHeld => ?_)
      · exact q7
      clear hK K
      try simp only [Act.put, List.setIfInBounds_toArray, List.set_cons_zero, List.set_cons_succ]
      refine wpAnyH_take (i := 2) (oi := { dst := some 45, op := Op.binOp BinOp.add 9 (Operand.tmp 44) (Operand.const (Value.string { data := #[42] })) 9, type := 9, pos := "outright.go:47", after := #[{ on := 1, ground := Ground.data }], guard := none }) (v := .string (A ++ ⟨#[42]⟩)) rfl (by kernel_rfl) (by kernel_rfl) (by kernel_rfl) (fun _ _ _ h => h) (Or.inl ⟨by rfl, ?_⟩) (by assumption) ?_
      · intro w hSw
        (try dsimp only at hSw)
        go_simp
      try simp only [Act.put, List.setIfInBounds_toArray, List.set_cons_zero, List.set_cons_succ]
      refine wpAnyH_ready (rs := [4]) (by kernel_rfl) (by simp) ?_
      refine AllReadyH.cons (o := { dst := some 47, op := Op.call { callee := Callee.value (Operand.func 7), args := #[Operand.tmp 46], argTypes := #[9] }, type := 9, pos := "outright.go:47", after := #[{ on := 3, ground := Ground.data }, { on := 1, ground := Ground.chain }], guard := none }) rfl (fun K hK => ?_) AllReadyH.nil
      go_simp
      refine (kb w7).mono ?_
      rintro e w8 ⟨rfl, hb8⟩
      have q8 := q7.trans (hb8.mono q7.size)
      refine hK.out _ _ ?_ (fun hHeld => ?_)
      · exact q8
      clear hK K
      try simp only [Act.put, List.setIfInBounds_toArray, List.set_cons_zero, List.set_cons_succ]
      refine wpAnyH_take (i := 5) (oi := { dst := some 48, op := Op.binOp BinOp.add 9 (Operand.tmp 45) (Operand.tmp 47) 9, type := 9, pos := "outright.go:47", after := #[{ on := 2, ground := Ground.data }, { on := 4, ground := Ground.data }], guard := none }) (v := .string (A ++ ⟨#[42]⟩ ++ B)) rfl (by kernel_rfl) (by kernel_rfl) (by kernel_rfl) (fun _ _ _ h => h) (Or.inl ⟨by rfl, ?_⟩) (by assumption) ?_
      · intro w hSw
        (try dsimp only at hSw)
        go_simp
      try simp only [Act.put, List.setIfInBounds_toArray, List.set_cons_zero, List.set_cons_succ]
      refine wpAnyH_ready (rs := [12]) (by kernel_rfl) (by simp) ?_
      refine AllReadyH.cons (o := { dst := some 55, op := Op.call { callee := Callee.value (Operand.func 8), args := #[Operand.tmp 54], argTypes := #[9] }, type := 4, pos := "outright.go:47", after := #[{ on := 11, ground := Ground.data }, { on := 4, ground := Ground.chain }], guard := none }) rfl (fun K hK => ?_) AllReadyH.nil
      go_simp
      refine (kc w8).mono ?_
      rintro e w9 ⟨rfl, rfl⟩
      refine hK.out _ _ ?_ (fun hHeld => ?_)
      · exact q8
      clear hK K
      try simp only [Act.put, List.setIfInBounds_toArray, List.set_cons_zero, List.set_cons_succ]
      refine wpAnyH_ready (rs := [13]) (by kernel_rfl) (by simp) ?_
      refine AllReadyH.cons (o := { dst := some 56, op := Op.call { callee := Callee.value (Operand.func 6), args := #[Operand.tmp 48, Operand.tmp 53, Operand.tmp 55], argTypes := #[9, 9, 4] }, type := 4, pos := "outright.go:47", after := #[{ on := 5, ground := Ground.data }, { on := 10, ground := Ground.data }, { on := 12, ground := Ground.data }, { on := 12, ground := Ground.chain }], guard := none }) rfl (fun K hK => ?_) AllReadyH.nil
      go_simp
      refine (k5 _).mono ?_
      rintro e w10 ⟨rfl, hb10⟩
      have q10 := q8.trans (hb10.mono q8.size)
      refine hK.out _ _ ?_ (fun hHeld => ?_)
      · exact q10
      clear hK K
      try simp only [Act.put, List.setIfInBounds_toArray, List.set_cons_zero, List.set_cons_succ]
      refine wpAnyH_take (i := 14) (oi := { dst := some 57, op := Op.unOp UnOp.not 4 (Operand.tmp 56), type := 4, pos := "outright.go:47", after := #[{ on := 13, ground := Ground.data }], guard := none }) (v := .bool false) rfl (by kernel_rfl) (by kernel_rfl) (by kernel_rfl) (fun _ _ _ h => h) (Or.inl ⟨by rfl, ?_⟩) (by assumption) ?_
      · intro w hSw
        (try dsimp only at hSw)
        go_simp
      try simp only [Act.put, List.setIfInBounds_toArray, List.set_cons_zero, List.set_cons_succ]
      refine wpAnyH_take (i := 15) (oi := { dst := some 58, op := Op.move (Operand.tmp 57), type := 4, pos := "outright.go:47", after := #[{ on := 14, ground := Ground.data }, { on := 13, ground := Ground.chain }], guard := none }) (v := .bool false) rfl (by kernel_rfl) (by kernel_rfl) (by kernel_rfl) (fun _ _ _ h => h) (Or.inl ⟨by rfl, ?_⟩) (by assumption) ?_
      · intro w hSw
        (try dsimp only at hSw)
        go_simp
      try simp only [Act.put, List.setIfInBounds_toArray, List.set_cons_zero, List.set_cons_succ]
      refine wpAnyH_take (i := 16) (oi := { dst := some 59, op := Op.move (Operand.tmp 0), type := 9, pos := "outright.go:47", after := #[{ on := 15, ground := Ground.guard }], guard := some (15, false) }) (v := .string a) rfl (by kernel_rfl) (by kernel_rfl) (by kernel_rfl) (fun _ _ _ h => h) (Or.inl ⟨by rfl, ?_⟩) (by assumption) ?_
      · intro w hSw
        (try dsimp only at hSw)
        go_simp
      try simp only [Act.put, List.setIfInBounds_toArray, List.set_cons_zero, List.set_cons_succ]
      refine wpAnyH_take (i := 19) (oi := { dst := some 62, op := Op.move (Operand.tmp 2), type := 9, pos := "outright.go:47", after := #[{ on := 15, ground := Ground.guard }], guard := some (15, false) }) (v := .string b) rfl (by kernel_rfl) (by kernel_rfl) (by kernel_rfl) (fun _ _ _ h => h) (Or.inl ⟨by rfl, ?_⟩) (by assumption) ?_
      · intro w hSw
        (try dsimp only at hSw)
        go_simp
      try simp only [Act.put, List.setIfInBounds_toArray, List.set_cons_zero, List.set_cons_succ]
      refine wpAnyH_take (i := 22) (oi := { dst := some 65, op := Op.move (Operand.tmp 0), type := 9, pos := "outright.go:47", after := #[{ on := 15, ground := Ground.guard }], guard := some (15, false) }) (v := .string a) rfl (by kernel_rfl) (by kernel_rfl) (by kernel_rfl) (fun _ _ _ h => h) (Or.inl ⟨by rfl, ?_⟩) (by assumption) ?_
      · intro w hSw
        (try dsimp only at hSw)
        go_simp
      try simp only [Act.put, List.setIfInBounds_toArray, List.set_cons_zero, List.set_cons_succ]
      refine wpAnyH_take (i := 23) (oi := { dst := some 66, op := Op.move (Operand.tmp 1), type := 9, pos := "outright.go:47", after := #[{ on := 15, ground := Ground.guard }], guard := some (15, false) }) (v := .string m) rfl (by kernel_rfl) (by kernel_rfl) (by kernel_rfl) (fun _ _ _ h => h) (Or.inl ⟨by rfl, ?_⟩) (by assumption) ?_
      · intro w hSw
        (try dsimp only at hSw)
        go_simp
      try simp only [Act.put, List.setIfInBounds_toArray, List.set_cons_zero, List.set_cons_succ]
      refine wpAnyH_take (i := 24) (oi := { dst := some 67, op := Op.binOp BinOp.add 9 (Operand.tmp 65) (Operand.tmp 66) 9, type := 9, pos := "outright.go:47", after := #[{ on := 22, ground := Ground.data }, { on := 23, ground := Ground.data }, { on := 15, ground := Ground.guard }], guard := some (15, false) }) (v := .string (a ++ m)) rfl (by kernel_rfl) (by kernel_rfl) (by kernel_rfl) (fun _ _ _ h => h) (Or.inl ⟨by rfl, ?_⟩) (by assumption) ?_
      · intro w hSw
        (try dsimp only at hSw)
        go_simp
      try simp only [Act.put, List.setIfInBounds_toArray, List.set_cons_zero, List.set_cons_succ]
      refine wpAnyH_take (i := 25) (oi := { dst := some 68, op := Op.move (Operand.tmp 2), type := 9, pos := "outright.go:47", after := #[{ on := 15, ground := Ground.guard }], guard := some (15, false) }) (v := .string b) rfl (by kernel_rfl) (by kernel_rfl) (by kernel_rfl) (fun _ _ _ h => h) (Or.inl ⟨by rfl, ?_⟩) (by assumption) ?_
      · intro w hSw
        (try dsimp only at hSw)
        go_simp
      try simp only [Act.put, List.setIfInBounds_toArray, List.set_cons_zero, List.set_cons_succ]
      refine wpAnyH_take (i := 26) (oi := { dst := some 69, op := Op.binOp BinOp.add 9 (Operand.tmp 67) (Operand.tmp 68) 9, type := 9, pos := "outright.go:47", after := #[{ on := 24, ground := Ground.data }, { on := 25, ground := Ground.data }, { on := 15, ground := Ground.guard }], guard := some (15, false) }) (v := .string (a ++ m ++ b)) rfl (by kernel_rfl) (by kernel_rfl) (by kernel_rfl) (fun _ _ _ h => h) (Or.inl ⟨by rfl, ?_⟩) (by assumption) ?_
      · intro w hSw
        (try dsimp only at hSw)
        go_simp
      try simp only [Act.put, List.setIfInBounds_toArray, List.set_cons_zero, List.set_cons_succ]
      refine wpAnyH_ready (rs := [17]) (by kernel_rfl) (by simp) ?_
      refine AllReadyH.cons (o := { dst := some 60, op := Op.call { callee := Callee.value (Operand.func 7), args := #[Operand.tmp 59], argTypes := #[9] }, type := 9, pos := "outright.go:47", after := #[{ on := 16, ground := Ground.data }, { on := 15, ground := Ground.chain }, { on := 15, ground := Ground.guard }], guard := some (15, false) }) rfl (fun K hK => ?_) AllReadyH.nil
      go_simp
      refine (ke w10).mono ?_
      rintro e w11 ⟨rfl, hb11⟩
      have q11 := q10.trans (hb11.mono q10.size)
      refine hK.out _ _ ?_ (fun hHeld => ?_)
      · exact q11
      clear hK K
      try simp only [Act.put, List.setIfInBounds_toArray, List.set_cons_zero, List.set_cons_succ]
      refine wpAnyH_take (i := 18) (oi := { dst := some 61, op := Op.binOp BinOp.add 9 (Operand.tmp 60) (Operand.const (Value.string { data := #[42, 42] })) 9, type := 9, pos := "outright.go:47", after := #[{ on := 17, ground := Ground.data }, { on := 15, ground := Ground.guard }], guard := some (15, false) }) (v := .string (A ++ ⟨#[42, 42]⟩)) rfl (by kernel_rfl) (by kernel_rfl) (by kernel_rfl) (fun _ _ _ h => h) (Or.inl ⟨by rfl, ?_⟩) (by assumption) ?_
      · intro w hSw
        (try dsimp only at hSw)
        go_simp
      try simp only [Act.put, List.setIfInBounds_toArray, List.set_cons_zero, List.set_cons_succ]
      refine wpAnyH_ready (rs := [20]) (by kernel_rfl) (by simp) ?_
      refine AllReadyH.cons (o := { dst := some 63, op := Op.call { callee := Callee.value (Operand.func 7), args := #[Operand.tmp 62], argTypes := #[9] }, type := 9, pos := "outright.go:47", after := #[{ on := 19, ground := Ground.data }, { on := 17, ground := Ground.chain }, { on := 15, ground := Ground.guard }], guard := some (15, false) }) rfl (fun K hK => ?_) AllReadyH.nil
      go_simp
      refine (kb w11).mono ?_
      rintro e w12 ⟨rfl, hb12⟩
      have q12 := q11.trans (hb12.mono q11.size)
      refine hK.out _ _ ?_ (fun hHeld => ?_)
      · exact q12
      clear hK K
      try simp only [Act.put, List.setIfInBounds_toArray, List.set_cons_zero, List.set_cons_succ]
      refine wpAnyH_take (i := 21) (oi := { dst := some 64, op := Op.binOp BinOp.add 9 (Operand.tmp 61) (Operand.tmp 63) 9, type := 9, pos := "outright.go:47", after := #[{ on := 18, ground := Ground.data }, { on := 20, ground := Ground.data }, { on := 15, ground := Ground.guard }], guard := some (15, false) }) (v := .string (A ++ ⟨#[42, 42]⟩ ++ B)) rfl (by kernel_rfl) (by kernel_rfl) (by kernel_rfl) (fun _ _ _ h => h) (Or.inl ⟨by rfl, ?_⟩) (by assumption) ?_
      · intro w hSw
        (try dsimp only at hSw)
        go_simp
      try simp only [Act.put, List.setIfInBounds_toArray, List.set_cons_zero, List.set_cons_succ]
      refine wpAnyH_ready (rs := [27]) (by kernel_rfl) (by simp) ?_
      refine AllReadyH.cons (o := { dst := some 70, op := Op.call { callee := Callee.value (Operand.func 6), args := #[Operand.tmp 64, Operand.tmp 69, Operand.const (Value.bool true)], argTypes := #[9, 9, 4] }, type := 4, pos := "outright.go:47", after := #[{ on := 21, ground := Ground.data }, { on := 26, ground := Ground.data }, { on := 20, ground := Ground.chain }, { on := 15, ground := Ground.guard }], guard := some (15, false) }) rfl (fun K hK => ?_) AllReadyH.nil
      go_simp
      refine (k6 w12).mono ?_
      rintro e w13 ⟨rfl, hb13⟩
      have q13 := q12.trans (hb13.mono q12.size)
      refine hK.out _ _ ?_ (fun hHeld => ?_)
      · exact q13
      clear hK K
      try simp only [Act.put, List.setIfInBounds_toArray, List.set_cons_zero, List.set_cons_succ]
      refine wpAnyH_take (i := 28) (oi := { dst := some 71, op := Op.unOp UnOp.not 4 (Operand.tmp 70), type := 4, pos := "outright.go:47", after := #[{ on := 27, ground := Ground.data }, { on := 15, ground := Ground.guard }], guard := some (15, false) }) (v := .bool false) rfl (by kernel_rfl) (by kernel_rfl) (by kernel_rfl) (fun _ _ _ h => h) (Or.inl ⟨by rfl, ?_⟩) (by assumption) ?_
      · intro w hSw
        (try dsimp only at hSw)
        go_simp
      try simp only [Act.put, List.setIfInBounds_toArray, List.set_cons_zero, List.set_cons_succ]
      refine wpAnyH_take (i := 29) (oi := { dst := some 72, op := Op.pick (Operand.tmp 58) (Operand.const (Value.bool true)) (Operand.tmp 71), type := 4, pos := "outright.go:47", after := #[{ on := 15, ground := Ground.data }, { on := 28, ground := Ground.data }], guard := none }) (v := .bool false) rfl (by kernel_rfl) (by kernel_rfl) (by kernel_rfl) (fun _ _ _ h => h) (Or.inl ⟨by rfl, ?_⟩) (by assumption) ?_
      · intro w hSw
        (try dsimp only at hSw)
        go_simp
      try simp only [Act.put, List.setIfInBounds_toArray, List.set_cons_zero, List.set_cons_succ]
      refine wpAnyH_take (i := 30) (oi := { dst := some 73, op := Op.move (Operand.tmp 72), type := 4, pos := "outright.go:47", after := #[{ on := 29, ground := Ground.data }, { on := 27, ground := Ground.chain }], guard := none }) (v := .bool false) rfl (by kernel_rfl) (by kernel_rfl) (by kernel_rfl) (fun _ _ _ h => h) (Or.inl ⟨by rfl, ?_⟩) (by assumption) ?_
      · intro w hSw
        (try dsimp only at hSw)
        go_simp
      try simp only [Act.put, List.setIfInBounds_toArray, List.set_cons_zero, List.set_cons_succ]
      refine wpAnyH_take (i := 31) (oi := { dst := some 74, op := Op.move (Operand.tmp 0), type := 9, pos := "outright.go:47", after := #[{ on := 30, ground := Ground.guard }], guard := some (30, false) }) (v := .string a) rfl (by kernel_rfl) (by kernel_rfl) (by kernel_rfl) (fun _ _ _ h => h) (Or.inl ⟨by rfl, ?_⟩) (by assumption) ?_
      · intro w hSw
        (try dsimp only at hSw)
        go_simp
      try simp only [Act.put, List.setIfInBounds_toArray, List.set_cons_zero, List.set_cons_succ]
      refine wpAnyH_take (i := 34) (oi := { dst := some 77, op := Op.move (Operand.tmp 2), type := 9, pos := "outright.go:47", after := #[{ on := 30, ground := Ground.guard }], guard := some (30, false) }) (v := .string b) rfl (by kernel_rfl) (by kernel_rfl) (by kernel_rfl) (fun _ _ _ h => h) (Or.inl ⟨by rfl, ?_⟩) (by assumption) ?_
      · intro w hSw
        (try dsimp only at hSw)
        go_simp
      try simp only [Act.put, List.setIfInBounds_toArray, List.set_cons_zero, List.set_cons_succ]
      refine wpAnyH_take (i := 37) (oi := { dst := some 80, op := Op.move (Operand.tmp 0), type := 9, pos := "outright.go:47", after := #[{ on := 30, ground := Ground.guard }], guard := some (30, false) }) (v := .string a) rfl (by kernel_rfl) (by kernel_rfl) (by kernel_rfl) (fun _ _ _ h => h) (Or.inl ⟨by rfl, ?_⟩) (by assumption) ?_
      · intro w hSw
        (try dsimp only at hSw)
        go_simp
      try simp only [Act.put, List.setIfInBounds_toArray, List.set_cons_zero, List.set_cons_succ]
      refine wpAnyH_take (i := 38) (oi := { dst := some 81, op := Op.move (Operand.tmp 6), type := 5, pos := "outright.go:47", after := #[{ on := 30, ground := Ground.guard }], guard := some (30, false) }) (v := .int .u8 c) rfl (by kernel_rfl) (by kernel_rfl) (by kernel_rfl) (fun _ _ _ h => h) (Or.inl ⟨by rfl, ?_⟩) (by assumption) ?_
      · intro w hSw
        (try dsimp only at hSw)
        go_simp
      try simp only [Act.put, List.setIfInBounds_toArray, List.set_cons_zero, List.set_cons_succ]
      refine wpAnyH_take (i := 42) (oi := { dst := some 85, op := Op.move (Operand.tmp 2), type := 9, pos := "outright.go:47", after := #[{ on := 30, ground := Ground.guard }], guard := some (30, false) }) (v := .string b) rfl (by kernel_rfl) (by kernel_rfl) (by kernel_rfl) (fun _ _ _ h => h) (Or.inl ⟨by rfl, ?_⟩) (by assumption) ?_
      · intro w hSw
        (try dsimp only at hSw)
        go_simp
      try simp only [Act.put, List.setIfInBounds_toArray, List.set_cons_zero, List.set_cons_succ]
      refine wpAnyH_take (i := 44) (oi := { dst := some 87, op := Op.move (Operand.tmp 6), type := 5, pos := "outright.go:47", after := #[{ on := 30, ground := Ground.guard }], guard := some (30, false) }) (v := .int .u8 c) rfl (by kernel_rfl) (by kernel_rfl) (by kernel_rfl) (fun _ _ _ h => h) (Or.inl ⟨by rfl, ?_⟩) (by assumption) ?_
      · intro w hSw
        (try dsimp only at hSw)
        go_simp
      try simp only [Act.put, List.setIfInBounds_toArray, List.set_cons_zero, List.set_cons_succ]
      refine wpAnyH_take (i := 45) (oi := { dst := some 88, op := Op.binOp BinOp.neq 5 (Operand.tmp 87) (Operand.const (Value.int IntKind.u8 47)) 5, type := 4, pos := "outright.go:47", after := #[{ on := 44, ground := Ground.data }, { on := 30, ground := Ground.guard }], guard := some (30, false) }) (v := .bool (!decide (c = 47))) rfl (by kernel_rfl) (by kernel_rfl) (by kernel_rfl) (fun _ _ _ h => h) (Or.inl ⟨by rfl, ?_⟩) (by assumption) ?_
      · intro w hSw
        (try dsimp only at hSw)
        go_simp
        rfl
      try simp only [Act.put, List.setIfInBounds_toArray, List.set_cons_zero, List.set_cons_succ]
      clear hHeld
      refine wpAnyH_ready (rs := [32, 39]) (by kernel_rfl) (by simp) ?_
      refine AllReadyH.cons (o := { dst := some 75, op := Op.call { callee := Callee.value (Operand.func 7), args := #[Operand.tmp 74], argTypes := #[9] }, type := 9, pos := "outright.go:47", after := #[{ on := 31, ground := Ground.data }, { on := 30, ground := Ground.chain }, { on := 30, ground := Ground.guard }], guard := some (30, false) }) rfl ?_ (AllReadyH.cons (o := { dst := some 82, op := Op.buildSlice 25 1 #[(0, Operand.tmp 81)], type := 25, pos := "outright.go:47", after := #[{ on := 38, ground := Ground.data }, { on := 30, ground := Ground.guard }], guard := some (30, false) }) rfl ?_ AllReadyH.nil)
      · intro K hK
        go_simp
        refine (ke w13).mono ?_
        rintro e v1 ⟨rfl, hx⟩
        have zv1 := q13.trans (hx.mono q13.size)
        clear hx
        refine hK.out _ _ ?_ (fun hHeld => ?_)
        · exact zv1
        clear hK K
        try simp only [Act.put, List.setIfInBounds_toArray, List.set_cons_zero, List.set_cons_succ]
        refine wpAnyH_take (i := 33) (oi := { dst := some 76, op := Op.binOp BinOp.add 9 (Operand.tmp 75) (Operand.const (Value.string { data := #[63] })) 9, type := 9, pos := "outright.go:47", after := #[{ on := 32, ground := Ground.data }, { on := 30, ground := Ground.guard }], guard := some (30, false) }) (v := .string (A ++ ⟨#[63]⟩)) rfl (by kernel_rfl) (by kernel_rfl) (by kernel_rfl) (fun _ _ _ h => h) (Or.inl ⟨by rfl, ?_⟩) (by assumption) ?_
        · intro w hSw
          (try dsimp only at hSw)
          go_simp
        try simp only [Act.put, List.setIfInBounds_toArray, List.set_cons_zero, List.set_cons_succ]
        refine wpAnyH_ready (rs := [35, 39]) (by kernel_rfl) (by simp) ?_
        refine AllReadyH.cons (o := { dst := some 78, op := Op.call { callee := Callee.value (Operand.func 7), args := #[Operand.tmp 77], argTypes := #[9] }, type := 9, pos := "outright.go:47", after := #[{ on := 34, ground := Ground.data }, { on := 32, ground := Ground.chain }, { on := 30, ground := Ground.guard }], guard := some (30, false) }) rfl ?_ (AllReadyH.cons (o := { dst := some 82, op := Op.buildSlice 25 1 #[(0, Operand.tmp 81)], type := 25, pos := "outright.go:47", after := #[{ on := 38, ground := Ground.data }, { on := 30, ground := Ground.guard }], guard := some (30, false) }) rfl ?_ AllReadyH.nil)
        · intro K hK
          go_simp
          refine (kb v1).mono ?_
          rintro e v2 ⟨rfl, hx⟩
          have zv2 := zv1.trans (hx.mono zv1.size)
          clear hx
          refine hK.out _ _ ?_ (fun hHeld => ?_)
          · exact zv2
          clear hK K
          try simp only [Act.put, List.setIfInBounds_toArray, List.set_cons_zero, List.set_cons_succ]
          refine wpAnyH_take (i := 36) (oi := { dst := some 79, op := Op.binOp BinOp.add 9 (Operand.tmp 76) (Operand.tmp 78) 9, type := 9, pos := "outright.go:47", after := #[{ on := 33, ground := Ground.data }, { on := 35, ground := Ground.data }, { on := 30, ground := Ground.guard }], guard := some (30, false) }) (v := .string (A ++ ⟨#[63]⟩ ++ B)) rfl (by kernel_rfl) (by kernel_rfl) (by kernel_rfl) (fun _ _ _ h => h) (Or.inl ⟨by rfl, ?_⟩) (by assumption) ?_
          · intro w hSw
            (try dsimp only at hSw)
            go_simp
          try simp only [Act.put, List.setIfInBounds_toArray, List.set_cons_zero, List.set_cons_succ]
          refine wpAnyH_ready (rs := [39]) (by kernel_rfl) (by simp) ?_
          refine AllReadyH.cons (o := { dst := some 82, op := Op.buildSlice 25 1 #[(0, Operand.tmp 81)], type := 25, pos := "outright.go:47", after := #[{ on := 38, ground := Ground.data }, { on := 30, ground := Ground.guard }], guard := some (30, false) }) rfl ?_ AllReadyH.nil
          intro K hK
          go_simp
          have zv3 : Below w.heap.size w (v2.alloc (.cells #[.int .u8 c] 5)) := zv2.trans ((Below.refl _ _).alloc zv2.size _)
          have yv3 := heap_alloc_new v2 (.cells #[.int .u8 c] 5)
          refine hK.out _ _ ?_ (fun hHeld => ?_)
          · exact zv3
          clear hK K
          try simp only [Act.put, List.setIfInBounds_toArray, List.set_cons_zero, List.set_cons_succ]
          refine wpAnyH_ready (rs := [40]) (by kernel_rfl) (by simp) ?_
          refine AllReadyH.cons (o := { dst := some 83, op := Op.convert 25 9 (Operand.tmp 82), type := 9, pos := "outright.go:47", after := #[{ on := 39, ground := Ground.data }, { on := 30, ground := Ground.guard }], guard := some (30, false) }) rfl ?_ AllReadyH.nil
          intro K hK
          go_simp
          have hcv := conv_at [c] 1 rfl yv3
          rw [hcv]
          try dsimp only
          refine hK.out _ _ ?_ (fun hHeld => ?_)
          · exact zv3
          clear hK K
          try simp only [Act.put, List.setIfInBounds_toArray, List.set_cons_zero, List.set_cons_succ]
          refine wpAnyH_take (i := 41) (oi := { dst := some 84, op := Op.binOp BinOp.add 9 (Operand.tmp 80) (Operand.tmp 83) 9, type := 9, pos := "outright.go:47", after := #[{ on := 37, ground := Ground.data }, { on := 40, ground := Ground.data }, { on := 30, ground := Ground.guard }], guard := some (30, false) }) (v := .string (a ++ (strOfNums [c]))) rfl (by kernel_rfl) (by kernel_rfl) (by kernel_rfl) (fun _ _ _ h => h) (Or.inl ⟨by rfl, ?_⟩) (by assumption) ?_
          · intro w hSw
            (try dsimp only at hSw)
            go_simp
          try simp only [Act.put, List.setIfInBounds_toArray, List.set_cons_zero, List.set_cons_succ]
          refine wpAnyH_take (i := 43) (oi := { dst := some 86, op := Op.binOp BinOp.add 9 (Operand.tmp 84) (Operand.tmp 85) 9, type := 9, pos := "outright.go:47", after := #[{ on := 41, ground := Ground.data }, { on := 42, ground := Ground.data }, { on := 30, ground := Ground.guard }], guard := some (30, false) }) (v := .string (a ++ (strOfNums [c]) ++ b)) rfl (by kernel_rfl) (by kernel_rfl) (by kernel_rfl) (fun _ _ _ h => h) (Or.inl ⟨by rfl, ?_⟩) (by assumption) ?_
          · intro w hSw
            (try dsimp only at hSw)
            go_simp
          try simp only [Act.put, List.setIfInBounds_toArray, List.set_cons_zero, List.set_cons_succ]
          refine wpAnyH_ready (rs := [46]) (by kernel_rfl) (by simp) ?_
          refine AllReadyH.cons (o := { dst := some 89, op := Op.call { callee := Callee.value (Operand.func 6), args := #[Operand.tmp 79, Operand.tmp 86, Operand.tmp 88], argTypes := #[9, 9, 4] }, type := 4, pos := "outright.go:47", after := #[{ on := 36, ground := Ground.data }, { on := 43, ground := Ground.data }, { on := 45, ground := Ground.data }, { on := 35, ground := Ground.chain }, { on := 30, ground := Ground.guard }], guard := some (30, false) }) rfl (fun K hK => ?_) AllReadyH.nil
          go_simp
          refine (k7 (v2.alloc (.cells #[.int .u8 c] 5))).mono ?_
          rintro e u9 ⟨rfl, hu9⟩
          have q9 := zv3.trans (hu9.mono zv3.size)
          refine hK.out _ _ ?_ (fun hHeld => ?_)
          · exact q9
          clear hK K
          try simp only [Act.put, List.setIfInBounds_toArray, List.set_cons_zero, List.set_cons_succ]
          refine wpAnyH_take (i := 47) (oi := { dst := some 90, op := Op.unOp UnOp.not 4 (Operand.tmp 89), type := 4, pos := "outright.go:47", after := #[{ on := 46, ground := Ground.data }, { on := 30, ground := Ground.guard }], guard := some (30, false) }) (v := .bool false) rfl (by kernel_rfl) (by kernel_rfl) (by kernel_rfl) (fun _ _ _ h => h) (Or.inl ⟨by rfl, ?_⟩) (by assumption) ?_
          · intro w hSw
            (try dsimp only at hSw)
            go_simp
          try simp only [Act.put, List.setIfInBounds_toArray, List.set_cons_zero, List.set_cons_succ]
          refine wpAnyH_take (i := 48) (oi := { dst := some 91, op := Op.pick (Operand.tmp 73) (Operand.const (Value.bool true)) (Operand.tmp 90), type := 4, pos := "outright.go:47", after := #[{ on := 30, ground := Ground.data }, { on := 47, ground := Ground.data }], guard := none }) (v := .bool false) rfl (by kernel_rfl) (by kernel_rfl) (by kernel_rfl) (fun _ _ _ h => h) (Or.inl ⟨by rfl, ?_⟩) (by assumption) ?_
          · intro w hSw
            (try dsimp only at hSw)
            go_simp
          try simp only [Act.put, List.setIfInBounds_toArray, List.set_cons_zero, List.set_cons_succ]
          refine wpAnyH_done (by kernel_rfl) ?_ _
          go_wp2
          go_meet
          exact ⟨rfl, q9⟩
        · intro K hK
          go_simp
          have zv2 : Below w.heap.size w (v1.alloc (.cells #[.int .u8 c] 5)) := zv1.trans ((Below.refl _ _).alloc zv1.size _)
          have yv2 := heap_alloc_new v1 (.cells #[.int .u8 c] 5)
          refine hK.out _ _ ?_ (fun hHeld => ?_)
          · exact zv2
          clear hK K
          try simp only [Act.put, List.setIfInBounds_toArray, List.set_cons_zero, List.set_cons_succ]
          refine wpAnyH_ready (rs := [35, 40]) (by kernel_rfl) (by simp) ?_
          refine AllReadyH.cons (o := { dst := some 78, op := Op.call { callee := Callee.value (Operand.func 7), args := #[Operand.tmp 77], argTypes := #[9] }, type := 9, pos := "outright.go:47", after := #[{ on := 34, ground := Ground.data }, { on := 32, ground := Ground.chain }, { on := 30, ground := Ground.guard }], guard := some (30, false) }) rfl ?_ (AllReadyH.cons (o := { dst := some 83, op := Op.convert 25 9 (Operand.tmp 82), type := 9, pos := "outright.go:47", after := #[{ on := 39, ground := Ground.data }, { on := 30, ground := Ground.guard }], guard := some (30, false) }) rfl ?_ AllReadyH.nil)
          · intro K hK
            go_simp
            refine (kb (v1.alloc (.cells #[.int .u8 c] 5))).mono ?_
            rintro e v3 ⟨rfl, hx⟩
            have zv3 := zv2.trans (hx.mono zv2.size)
            have yv3 := (hx.block _ (lt_there yv2)).trans yv2
            clear hx
            refine hK.out _ _ ?_ (fun hHeld => ?_)
            · exact zv3
            clear hK K
            try simp only [Act.put, List.setIfInBounds_toArray, List.set_cons_zero, List.set_cons_succ]
            refine wpAnyH_take (i := 36) (oi := { dst := some 79, op := Op.binOp BinOp.add 9 (Operand.tmp 76) (Operand.tmp 78) 9, type := 9, pos := "outright.go:47", after := #[{ on := 33, ground := Ground.data }, { on := 35, ground := Ground.data }, { on := 30, ground := Ground.guard }], guard := some (30, false) }) (v := .string (A ++ ⟨#[63]⟩ ++ B)) rfl (by kernel_rfl) (by kernel_rfl) (by kernel_rfl) (fun _ _ _ h => h) (Or.inl ⟨by rfl, ?_⟩) (by assumption) ?_
            · intro w hSw
              (try dsimp only at hSw)
              go_simp
            try simp only [Act.put, List.setIfInBounds_toArray, List.set_cons_zero, List.set_cons_succ]
            refine wpAnyH_ready (rs := [40]) (by kernel_rfl) (by simp) ?_
            refine AllReadyH.cons (o := { dst := some 83, op := Op.convert 25 9 (Operand.tmp 82), type := 9, pos := "outright.go:47", after := #[{ on := 39, ground := Ground.data }, { on := 30, ground := Ground.guard }], guard := some (30, false) }) rfl ?_ AllReadyH.nil
            intro K hK
            go_simp
            have hcv := conv_at [c] 1 rfl yv3
            rw [hcv]
            try dsimp only
            refine hK.out _ _ ?_ (fun hHeld => ?_)
            · exact zv3
            clear hK K
            try simp only [Act.put, List.setIfInBounds_toArray, List.set_cons_zero, List.set_cons_succ]
            refine wpAnyH_take (i := 41) (oi := { dst := some 84, op := Op.binOp BinOp.add 9 (Operand.tmp 80) (Operand.tmp 83) 9, type := 9, pos := "outright.go:47", after := #[{ on := 37, ground := Ground.data }, { on := 40, ground := Ground.data }, { on := 30, ground := Ground.guard }], guard := some (30, false) }) (v := .string (a ++ (strOfNums [c]))) rfl (by kernel_rfl) (by kernel_rfl) (by kernel_rfl) (fun _ _ _ h => h) (Or.inl ⟨by rfl, ?_⟩) (by assumption) ?_
            · intro w hSw
              (try dsimp only at hSw)
              go_simp
            try simp only [Act.put, List.setIfInBounds_toArray, List.set_cons_zero, List.set_cons_succ]
            refine wpAnyH_take (i := 43) (oi := { dst := some 86, op := Op.binOp BinOp.add 9 (Operand.tmp 84) (Operand.tmp 85) 9, type := 9, pos := "outright.go:47", after := #[{ on := 41, ground := Ground.data }, { on := 42, ground := Ground.data }, { on := 30, ground := Ground.guard }], guard := some (30, false) }) (v := .string (a ++ (strOfNums [c]) ++ b)) rfl (by kernel_rfl) (by kernel_rfl) (by kernel_rfl) (fun _ _ _ h => h) (Or.inl ⟨by rfl, ?_⟩) (by assumption) ?_
            · intro w hSw
              (try dsimp only at hSw)
              go_simp
            try simp only [Act.put, List.setIfInBounds_toArray, List.set_cons_zero, List.set_cons_succ]
            refine wpAnyH_ready (rs := [46]) (by kernel_rfl) (by simp) ?_
            refine AllReadyH.cons (o := { dst := some 89, op := Op.call { callee := Callee.value (Operand.func 6), args := #[Operand.tmp 79, Operand.tmp 86, Operand.tmp 88], argTypes := #[9, 9, 4] }, type := 4, pos := "outright.go:47", after := #[{ on := 36, ground := Ground.data }, { on := 43, ground := Ground.data }, { on := 45, ground := Ground.data }, { on := 35, ground := Ground.chain }, { on := 30, ground := Ground.guard }], guard := some (30, false) }) rfl (fun K hK => ?_) AllReadyH.nil
            go_simp
            refine (k7 v3).mono ?_
            rintro e u9 ⟨rfl, hu9⟩
            have q9 := zv3.trans (hu9.mono zv3.size)
            refine hK.out _ _ ?_ (fun hHeld => ?_)
            · exact q9
            clear hK K
            try simp only [Act.put, List.setIfInBounds_toArray, List.set_cons_zero, List.set_cons_succ]
            refine wpAnyH_take (i := 47) (oi := { dst := some 90, op := Op.unOp UnOp.not 4 (Operand.tmp 89), type := 4, pos := "outright.go:47", after := #[{ on := 46, ground := Ground.data }, { on := 30, ground := Ground.guard }], guard := some (30, false) }) (v := .bool false) rfl (by kernel_rfl) (by kernel_rfl) (by kernel_rfl) (fun _ _ _ h => h) (Or.inl ⟨by rfl, ?_⟩) (by assumption) ?_
            · intro w hSw
              (try dsimp only at hSw)
              go_simp
            try simp only [Act.put, List.setIfInBounds_toArray, List.set_cons_zero, List.set_cons_succ]
            refine wpAnyH_take (i := 48) (oi := { dst := some 91, op := Op.pick (Operand.tmp 73) (Operand.const (Value.bool true)) (Operand.tmp 90), type := 4, pos := "outright.go:47", after := #[{ on := 30, ground := Ground.data }, { on := 47, ground := Ground.data }], guard := none }) (v := .bool false) rfl (by kernel_rfl) (by kernel_rfl) (by kernel_rfl) (fun _ _ _ h => h) (Or.inl ⟨by rfl, ?_⟩) (by assumption) ?_
            · intro w hSw
              (try dsimp only at hSw)
              go_simp
            try simp only [Act.put, List.setIfInBounds_toArray, List.set_cons_zero, List.set_cons_succ]
            refine wpAnyH_done (by kernel_rfl) ?_ _
            go_wp2
            go_meet
            exact ⟨rfl, q9⟩
          · intro K hK
            go_simp
            have hcv := conv_at [c] 1 rfl yv2
            rw [hcv]
            try dsimp only
            refine hK.out _ _ ?_ (fun hHeld => ?_)
            · exact zv2
            clear hK K
            try simp only [Act.put, List.setIfInBounds_toArray, List.set_cons_zero, List.set_cons_succ]
            refine wpAnyH_take (i := 41) (oi := { dst := some 84, op := Op.binOp BinOp.add 9 (Operand.tmp 80) (Operand.tmp 83) 9, type := 9, pos := "outright.go:47", after := #[{ on := 37, ground := Ground.data }, { on := 40, ground := Ground.data }, { on := 30, ground := Ground.guard }], guard := some (30, false) }) (v := .string (a ++ (strOfNums [c]))) rfl (by kernel_rfl) (by kernel_rfl) (by kernel_rfl) (fun _ _ _ h => h) (Or.inl ⟨by rfl, ?_⟩) (by assumption) ?_
            · intro w hSw
              (try dsimp only at hSw)
              go_simp
            try simp only [Act.put, List.setIfInBounds_toArray, List.set_cons_zero, List.set_cons_succ]
            refine wpAnyH_take (i := 43) (oi := { dst := some 86, op := Op.binOp BinOp.add 9 (Operand.tmp 84) (Operand.tmp 85) 9, type := 9, pos := "outright.go:47", after := #[{ on := 41, ground := Ground.data }, { on := 42, ground := Ground.data }, { on := 30, ground := Ground.guard }], guard := some (30, false) }) (v := .string (a ++ (strOfNums [c]) ++ b)) rfl (by kernel_rfl) (by kernel_rfl) (by kernel_rfl) (fun _ _ _ h => h) (Or.inl ⟨by rfl, ?_⟩) (by assumption) ?_
            · intro w hSw
              (try dsimp only at hSw)
              go_simp
            try simp only [Act.put, List.setIfInBounds_toArray, List.set_cons_zero, List.set_cons_succ]
            refine wpAnyH_ready (rs := [35]) (by kernel_rfl) (by simp) ?_
            refine AllReadyH.cons (o := { dst := some 78, op := Op.call { callee := Callee.value (Operand.func 7), args := #[Operand.tmp 77], argTypes := #[9] }, type := 9, pos := "outright.go:47", after := #[{ on := 34, ground := Ground.data }, { on := 32, ground := Ground.chain }, { on := 30, ground := Ground.guard }], guard := some (30, false) }) rfl ?_ AllReadyH.nil
            intro K hK
            go_simp
            refine (kb (v1.alloc (.cells #[.int .u8 c] 5))).mono ?_
            rintro e v4 ⟨rfl, hx⟩
            have zv4 := zv2.trans (hx.mono zv2.size)
            have yv4 := (hx.block _ (lt_there yv2)).trans yv2
            clear hx
            refine hK.out _ _ ?_ (fun hHeld => ?_)
            · exact zv4
            clear hK K
            try simp only [Act.put, List.setIfInBounds_toArray, List.set_cons_zero, List.set_cons_succ]
            refine wpAnyH_take (i := 36) (oi := { dst := some 79, op := Op.binOp BinOp.add 9 (Operand.tmp 76) (Operand.tmp 78) 9, type := 9, pos := "outright.go:47", after := #[{ on := 33, ground := Ground.data }, { on := 35, ground := Ground.data }, { on := 30, ground := Ground.guard }], guard := some (30, false) }) (v := .string (A ++ ⟨#[63]⟩ ++ B)) rfl (by kernel_rfl) (by kernel_rfl) (by kernel_rfl) (fun _ _ _ h => h) (Or.inl ⟨by rfl, ?_⟩) (by assumption) ?_
            · intro w hSw
              (try dsimp only at hSw)
              go_simp
            try simp only [Act.put, List.setIfInBounds_toArray, List.set_cons_zero, List.set_cons_succ]
            refine wpAnyH_ready (rs := [46]) (by kernel_rfl) (by simp) ?_
            refine AllReadyH.cons (o := { dst := some 89, op := Op.call { callee := Callee.value (Operand.func 6), args := #[Operand.tmp 79, Operand.tmp 86, Operand.tmp 88], argTypes := #[9, 9, 4] }, type := 4, pos := "outright.go:47", after := #[{ on := 36, ground := Ground.data }, { on := 43, ground := Ground.data }, { on := 45, ground := Ground.data }, { on := 35, ground := Ground.chain }, { on := 30, ground := Ground.guard }], guard := some (30, false) }) rfl (fun K hK => ?_) AllReadyH.nil
            go_simp
            refine (k7 v4).mono ?_
            rintro e u9 ⟨rfl, hu9⟩
            have q9 := zv4.trans (hu9.mono zv4.size)
            refine hK.out _ _ ?_ (fun hHeld => ?_)
            · exact q9
            clear hK K
            try simp only [Act.put, List.setIfInBounds_toArray, List.set_cons_zero, List.set_cons_succ]
            refine wpAnyH_take (i := 47) (oi := { dst := some 90, op := Op.unOp UnOp.not 4 (Operand.tmp 89), type := 4, pos := "outright.go:47", after := #[{ on := 46, ground := Ground.data }, { on := 30, ground := Ground.guard }], guard := some (30, false) }) (v := .bool false) rfl (by kernel_rfl) (by kernel_rfl) (by kernel_rfl) (fun _ _ _ h => h) (Or.inl ⟨by rfl, ?_⟩) (by assumption) ?_
            · intro w hSw
              (try dsimp only at hSw)
              go_simp
            try simp only [Act.put, List.setIfInBounds_toArray, List.set_cons_zero, List.set_cons_succ]
            refine wpAnyH_take (i := 48) (oi := { dst := some 91, op := Op.pick (Operand.tmp 73) (Operand.const (Value.bool true)) (Operand.tmp 90), type := 4, pos := "outright.go:47", after := #[{ on := 30, ground := Ground.data }, { on := 47, ground := Ground.data }], guard := none }) (v := .bool false) rfl (by kernel_rfl) (by kernel_rfl) (by kernel_rfl) (fun _ _ _ h => h) (Or.inl ⟨by rfl, ?_⟩) (by assumption) ?_
            · intro w hSw
              (try dsimp only at hSw)
              go_simp
            try simp only [Act.put, List.setIfInBounds_toArray, List.set_cons_zero, List.set_cons_succ]
            refine wpAnyH_done (by kernel_rfl) ?_ _
            go_wp2
            go_meet
            exact ⟨rfl, q9⟩
      · intro K hK
        go_simp
        have zv1 : Below w.heap.size w (w13.alloc (.cells #[.int .u8 c] 5)) := q13.trans ((Below.refl _ _).alloc q13.size _)
        have yv1 := heap_alloc_new w13 (.cells #[.int .u8 c] 5)
        refine hK.out _ _ ?_ (fun hHeld => ?_)
        · exact zv1
        clear hK K
        try simp only [Act.put, List.setIfInBounds_toArray, List.set_cons_zero, List.set_cons_succ]
        refine wpAnyH_ready (rs := [32, 40]) (by kernel_rfl) (by simp) ?_
        refine AllReadyH.cons (o := { dst := some 75, op := Op.call { callee := Callee.value (Operand.func 7), args := #[Operand.tmp 74], argTypes := #[9] }, type := 9, pos := "outright.go:47", after := #[{ on := 31, ground := Ground.data }, { on := 30, ground := Ground.chain }, { on := 30, ground := Ground.guard }], guard := some (30, false) }) rfl ?_ (AllReadyH.cons (o := { dst := some 83, op := Op.convert 25 9 (Operand.tmp 82), type := 9, pos := "outright.go:47", after := #[{ on := 39, ground := Ground.data }, { on := 30, ground := Ground.guard }], guard := some (30, false) }) rfl ?_ AllReadyH.nil)
        · intro K hK
          go_simp
          refine (ke (w13.alloc (.cells #[.int .u8 c] 5))).mono ?_
          rintro e v2 ⟨rfl, hx⟩
          have zv2 := zv1.trans (hx.mono zv1.size)
          have yv2 := (hx.block _ (lt_there yv1)).trans yv1
          clear hx
          refine hK.out _ _ ?_ (fun hHeld => ?_)
          · exact zv2
          clear hK K
          try simp only [Act.put, List.setIfInBounds_toArray, List.set_cons_zero, List.set_cons_succ]
          refine wpAnyH_take (i := 33) (oi := { dst := some 76, op := Op.binOp BinOp.add 9 (Operand.tmp 75) (Operand.const (Value.string { data := #[63] })) 9, type := 9, pos := "outright.go:47", after := #[{ on := 32, ground := Ground.data }, { on := 30, ground := Ground.guard }], guard := some (30, false) }) (v := .string (A ++ ⟨#[63]⟩)) rfl (by kernel_rfl) (by kernel_rfl) (by kernel_rfl) (fun _ _ _ h => h) (Or.inl ⟨by rfl, ?_⟩) (by assumption) ?_
          · intro w hSw
            (try dsimp only at hSw)
            go_simp
          try simp only [Act.put, List.setIfInBounds_toArray, List.set_cons_zero, List.set_cons_succ]
          refine wpAnyH_ready (rs := [35, 40]) (by kernel_rfl) (by simp) ?_
          refine AllReadyH.cons (o := { dst := some 78, op := Op.call { callee := Callee.value (Operand.func 7), args := #[Operand.tmp 77], argTypes := #[9] }, type := 9, pos := "outright.go:47", after := #[{ on := 34, ground := Ground.data }, { on := 32, ground := Ground.chain }, { on := 30, ground := Ground.guard }], guard := some (30, false) }) rfl ?_ (AllReadyH.cons (o := { dst := some 83, op := Op.convert 25 9 (Operand.tmp 82), type := 9, pos := "outright.go:47", after := #[{ on := 39, ground := Ground.data }, { on := 30, ground := Ground.guard }], guard := some (30, false) }) rfl ?_ AllReadyH.nil)
          · intro K hK
            go_simp
            refine (kb v2).mono ?_
            rintro e v3 ⟨rfl, hx⟩
            have zv3 := zv2.trans (hx.mono zv2.size)
            have yv3 := (hx.block _ (lt_there yv2)).trans yv2
            clear hx
            refine hK.out _ _ ?_ (fun hHeld => ?_)
            · exact zv3
            clear hK K
            try simp only [Act.put, List.setIfInBounds_toArray, List.set_cons_zero, List.set_cons_succ]
            refine wpAnyH_take (i := 36) (oi := { dst := some 79, op := Op.binOp BinOp.add 9 (Operand.tmp 76) (Operand.tmp 78) 9, type := 9, pos := "outright.go:47", after := #[{ on := 33, ground := Ground.data }, { on := 35, ground := Ground.data }, { on := 30, ground := Ground.guard }], guard := some (30, false) }) (v := .string (A ++ ⟨#[63]⟩ ++ B)) rfl (by kernel_rfl) (by kernel_rfl) (by kernel_rfl) (fun _ _ _ h => h) (Or.inl ⟨by rfl, ?_⟩) (by assumption) ?_
            · intro w hSw
              (try dsimp only at hSw)
              go_simp
            try simp only [Act.put, List.setIfInBounds_toArray, List.set_cons_zero, List.set_cons_succ]
            refine wpAnyH_ready (rs := [40]) (by kernel_rfl) (by simp) ?_
            refine AllReadyH.cons (o := { dst := some 83, op := Op.convert 25 9 (Operand.tmp 82), type := 9, pos := "outright.go:47", after := #[{ on := 39, ground := Ground.data }, { on := 30, ground := Ground.guard }], guard := some (30, false) }) rfl ?_ AllReadyH.nil
            intro K hK
            go_simp
            have hcv := conv_at [c] 1 rfl yv3
            rw [hcv]
            try dsimp only
            refine hK.out _ _ ?_ (fun hHeld => ?_)
            · exact zv3
            clear hK K
            try simp only [Act.put, List.setIfInBounds_toArray, List.set_cons_zero, List.set_cons_succ]
            refine wpAnyH_take (i := 41) (oi := { dst := some 84, op := Op.binOp BinOp.add 9 (Operand.tmp 80) (Operand.tmp 83) 9, type := 9, pos := "outright.go:47", after := #[{ on := 37, ground := Ground.data }, { on := 40, ground := Ground.data }, { on := 30, ground := Ground.guard }], guard := some (30, false) }) (v := .string (a ++ (strOfNums [c]))) rfl (by kernel_rfl) (by kernel_rfl) (by kernel_rfl) (fun _ _ _ h => h) (Or.inl ⟨by rfl, ?_⟩) (by assumption) ?_
            · intro w hSw
              (try dsimp only at hSw)
              go_simp
            try simp only [Act.put, List.setIfInBounds_toArray, List.set_cons_zero, List.set_cons_succ]
            refine wpAnyH_take (i := 43) (oi := { dst := some 86, op := Op.binOp BinOp.add 9 (Operand.tmp 84) (Operand.tmp 85) 9, type := 9, pos := "outright.go:47", after := #[{ on := 41, ground := Ground.data }, { on := 42, ground := Ground.data }, { on := 30, ground := Ground.guard }], guard := some (30, false) }) (v := .string (a ++ (strOfNums [c]) ++ b)) rfl (by kernel_rfl) (by kernel_rfl) (by kernel_rfl) (fun _ _ _ h => h) (Or.inl ⟨by rfl, ?_⟩) (by assumption) ?_
            · intro w hSw
              (try dsimp only at hSw)
              go_simp
            try simp only [Act.put, List.setIfInBounds_toArray, List.set_cons_zero, List.set_cons_succ]
            refine wpAnyH_ready (rs := [46]) (by kernel_rfl) (by simp) ?_
            refine AllReadyH.cons (o := { dst := some 89, op := Op.call { callee := Callee.value (Operand.func 6), args := #[Operand.tmp 79, Operand.tmp 86, Operand.tmp 88], argTypes := #[9, 9, 4] }, type := 4, pos := "outright.go:47", after := #[{ on := 36, ground := Ground.data }, { on := 43, ground := Ground.data }, { on := 45, ground := Ground.data }, { on := 35, ground := Ground.chain }, { on := 30, ground := Ground.guard }], guard := some (30, false) }) rfl (fun K hK => ?_) AllReadyH.nil
            go_simp
            refine (k7 v3).mono ?_
            rintro e u9 ⟨rfl, hu9⟩
            have q9 := zv3.trans (hu9.mono zv3.size)
            refine hK.out _ _ ?_ (fun hHeld => ?_)
            · exact q9
            clear hK K
            try simp only [Act.put, List.setIfInBounds_toArray, List.set_cons_zero, List.set_cons_succ]
            refine wpAnyH_take (i := 47) (oi := { dst := some 90, op := Op.unOp UnOp.not 4 (Operand.tmp 89), type := 4, pos := "outright.go:47", after := #[{ on := 46, ground := Ground.data }, { on := 30, ground := Ground.guard }], guard := some (30, false) }) (v := .bool false) rfl (by kernel_rfl) (by kernel_rfl) (by kernel_rfl) (fun _ _ _ h => h) (Or.inl ⟨by rfl, ?_⟩) (by assumption) ?_
            · intro w hSw
              (try dsimp only at hSw)
              go_simp
            try simp only [Act.put, List.setIfInBounds_toArray, List.set_cons_zero, List.set_cons_succ]
            refine wpAnyH_take (i := 48) (oi := { dst := some 91, op := Op.pick (Operand.tmp 73) (Operand.const (Value.bool true)) (Operand.tmp 90), type := 4, pos := "outright.go:47", after := #[{ on := 30, ground := Ground.data }, { on := 47, ground := Ground.data }], guard := none }) (v := .bool false) rfl (by kernel_rfl) (by kernel_rfl) (by kernel_rfl) (fun _ _ _ h => h) (Or.inl ⟨by rfl, ?_⟩) (by assumption) ?_
            · intro w hSw
              (try dsimp only at hSw)
              go_simp
            try simp only [Act.put, List.setIfInBounds_toArray, List.set_cons_zero, List.set_cons_succ]
            refine wpAnyH_done (by kernel_rfl) ?_ _
            go_wp2
            go_meet
            exact ⟨rfl, q9⟩
          · intro K hK
            go_simp
            have hcv := conv_at [c] 1 rfl yv2
            rw [hcv]
            try dsimp only
            refine hK.out _ _ ?_ (fun hHeld => ?_)
            · exact zv2
            clear hK K
            try simp only [Act.put, List.setIfInBounds_toArray, List.set_cons_zero, List.set_cons_succ]
            refine wpAnyH_take (i := 41) (oi := { dst := some 84, op := Op.binOp BinOp.add 9 (Operand.tmp 80) (Operand.tmp 83) 9, type := 9, pos := "outright.go:47", after := #[{ on := 37, ground := Ground.data }, { on := 40, ground := Ground.data }, { on := 30, ground := Ground.guard }], guard := some (30, false) }) (v := .string (a ++ (strOfNums [c]))) rfl (by kernel_rfl) (by kernel_rfl) (by kernel_rfl) (fun _ _ _ h => h) (Or.inl ⟨by rfl, ?_⟩) (by assumption) ?_
            · intro w hSw
              (try dsimp only at hSw)
              go_simp
            try simp only [Act.put, List.setIfInBounds_toArray, List.set_cons_zero, List.set_cons_succ]
            refine wpAnyH_take (i := 43) (oi := { dst := some 86, op := Op.binOp BinOp.add 9 (Operand.tmp 84) (Operand.tmp 85) 9, type := 9, pos := "outright.go:47", after := #[{ on := 41, ground := Ground.data }, { on := 42, ground := Ground.data }, { on := 30, ground := Ground.guard }], guard := some (30, false) }) (v := .string (a ++ (strOfNums [c]) ++ b)) rfl (by kernel_rfl) (by kernel_rfl) (by kernel_rfl) (fun _ _ _ h => h) (Or.inl ⟨by rfl, ?_⟩) (by assumption) ?_
            · intro w hSw
              (try dsimp only at hSw)
              go_simp
            try simp only [Act.put, List.setIfInBounds_toArray, List.set_cons_zero, List.set_cons_succ]
            refine wpAnyH_ready (rs := [35]) (by kernel_rfl) (by simp) ?_
            refine AllReadyH.cons (o := { dst := some 78, op := Op.call { callee := Callee.value (Operand.func 7), args := #[Operand.tmp 77], argTypes := #[9] }, type := 9, pos := "outright.go:47", after := #[{ on := 34, ground := Ground.data }, { on := 32, ground := Ground.chain }, { on := 30, ground := Ground.guard }], guard := some (30, false) }) rfl ?_ AllReadyH.nil
            intro K hK
            go_simp
            refine (kb v2).mono ?_
            rintro e v4 ⟨rfl, hx⟩
            have zv4 := zv2.trans (hx.mono zv2.size)
            have yv4 := (hx.block _ (lt_there yv2)).trans yv2
            clear hx
            refine hK.out _ _ ?_ (fun hHeld => ?_)
            · exact zv4
            clear hK K
            try simp only [Act.put, List.setIfInBounds_toArray, List.set_cons_zero, List.set_cons_succ]
            refine wpAnyH_take (i := 36) (oi := { dst := some 79, op := Op.binOp BinOp.add 9 (Operand.tmp 76) (Operand.tmp 78) 9, type := 9, pos := "outright.go:47", after := #[{ on := 33, ground := Ground.data }, { on := 35, ground := Ground.data }, { on := 30, ground := Ground.guard }], guard := some (30, false) }) (v := .string (A ++ ⟨#[63]⟩ ++ B)) rfl (by kernel_rfl) (by kernel_rfl) (by kernel_rfl) (fun _ _ _ h => h) (Or.inl ⟨by rfl, ?_⟩) (by assumption) ?_
            · intro w hSw
              (try dsimp only at hSw)
              go_simp
            try simp only [Act.put, List.setIfInBounds_toArray, List.set_cons_zero, List.set_cons_succ]
            refine wpAnyH_ready (rs := [46]) (by kernel_rfl) (by simp) ?_
            refine AllReadyH.cons (o := { dst := some 89, op := Op.call { callee := Callee.value (Operand.func 6), args := #[Operand.tmp 79, Operand.tmp 86, Operand.tmp 88], argTypes := #[9, 9, 4] }, type := 4, pos := "outright.go:47", after := #[{ on := 36, ground := Ground.data }, { on := 43, ground := Ground.data }, { on := 45, ground := Ground.data }, { on := 35, ground := Ground.chain }, { on := 30, ground := Ground.guard }], guard := some (30, false) }) rfl (fun K hK => ?_) AllReadyH.nil
            go_simp
            refine (k7 v4).mono ?_
            rintro e u9 ⟨rfl, hu9⟩
            have q9 := zv4.trans (hu9.mono zv4.size)
            refine hK.out _ _ ?_ (fun hHeld => ?_)
            · exact q9
            clear hK K
            try simp only [Act.put, List.setIfInBounds_toArray, List.set_cons_zero, List.set_cons_succ]
            refine wpAnyH_take (i := 47) (oi := { dst := some 90, op := Op.unOp UnOp.not 4 (Operand.tmp 89), type := 4, pos := "outright.go:47", after := #[{ on := 46, ground := Ground.data }, { on := 30, ground := Ground.guard }], guard := some (30, false) }) (v := .bool false) rfl (by kernel_rfl) (by kernel_rfl) (by kernel_rfl) (fun _ _ _ h => h) (Or.inl ⟨by rfl, ?_⟩) (by assumption) ?_
            · intro w hSw
              (try dsimp only at hSw)
              go_simp
            try simp only [Act.put, List.setIfInBounds_toArray, List.set_cons_zero, List.set_cons_succ]
            refine wpAnyH_take (i := 48) (oi := { dst := some 91, op := Op.pick (Operand.tmp 73) (Operand.const (Value.bool true)) (Operand.tmp 90), type := 4, pos := "outright.go:47", after := #[{ on := 30, ground := Ground.data }, { on := 47, ground := Ground.data }], guard := none }) (v := .bool false) rfl (by kernel_rfl) (by kernel_rfl) (by kernel_rfl) (fun _ _ _ h => h) (Or.inl ⟨by rfl, ?_⟩) (by assumption) ?_
            · intro w hSw
              (try dsimp only at hSw)
              go_simp
            try simp only [Act.put, List.setIfInBounds_toArray, List.set_cons_zero, List.set_cons_succ]
            refine wpAnyH_done (by kernel_rfl) ?_ _
            go_wp2
            go_meet
            exact ⟨rfl, q9⟩
        · intro K hK
          go_simp
          have hcv := conv_at [c] 1 rfl yv1
          rw [hcv]
          try dsimp only
          refine hK.out _ _ ?_ (fun hHeld => ?_)
          · exact zv1
          clear hK K
          try simp only [Act.put, List.setIfInBounds_toArray, List.set_cons_zero, List.set_cons_succ]
          refine wpAnyH_take (i := 41) (oi := { dst := some 84, op := Op.binOp BinOp.add 9 (Operand.tmp 80) (Operand.tmp 83) 9, type := 9, pos := "outright.go:47", after := #[{ on := 37, ground := Ground.data }, { on := 40, ground := Ground.data }, { on := 30, ground := Ground.guard }], guard := some (30, false) }) (v := .string (a ++ (strOfNums [c]))) rfl (by kernel_rfl) (by kernel_rfl) (by kernel_rfl) (fun _ _ _ h => h) (Or.inl ⟨by rfl, ?_⟩) (by assumption) ?_
          · intro w hSw
            (try dsimp only at hSw)
            go_simp
          try simp only [Act.put, List.setIfInBounds_toArray, List.set_cons_zero, List.set_cons_succ]
          refine wpAnyH_take (i := 43) (oi := { dst := some 86, op := Op.binOp BinOp.add 9 (Operand.tmp 84) (Operand.tmp 85) 9, type := 9, pos := "outright.go:47", after := #[{ on := 41, ground := Ground.data }, { on := 42, ground := Ground.data }, { on := 30, ground := Ground.guard }], guard := some (30, false) }) (v := .string (a ++ (strOfNums [c]) ++ b)) rfl (by kernel_rfl) (by kernel_rfl) (by kernel_rfl) (fun _ _ _ h => h) (Or.inl ⟨by rfl, ?_⟩) (by assumption) ?_
          · intro w hSw
            (try dsimp only at hSw)
            go_simp
          try simp only [Act.put, List.setIfInBounds_toArray, List.set_cons_zero, List.set_cons_succ]
          refine wpAnyH_ready (rs := [32]) (by kernel_rfl) (by simp) ?_
          refine AllReadyH.cons (o := { dst := some 75, op := Op.call { callee := Callee.value (Operand.func 7), args := #[Operand.tmp 74], argTypes := #[9] }, type := 9, pos := "outright.go:47", after := #[{ on := 31, ground := Ground.data }, { on := 30, ground := Ground.chain }, { on := 30, ground := Ground.guard }], guard := some (30, false) }) rfl ?_ AllReadyH.nil
          intro K hK
          go_simp
          refine (ke (w13.alloc (.cells #[.int .u8 c] 5))).mono ?_
          rintro e v3 ⟨rfl, hx⟩
          have zv3 := zv1.trans (hx.mono zv1.size)
          have yv3 := (hx.block _ (lt_there yv1)).trans yv1
          clear hx
          refine hK.out _ _ ?_ (fun hHeld => ?_)
          · exact zv3
          clear hK K
          try simp only [Act.put, List.setIfInBounds_toArray, List.set_cons_zero, List.set_cons_succ]
          refine wpAnyH_take (i := 33) (oi := { dst := some 76, op := Op.binOp BinOp.add 9 (Operand.tmp 75) (Operand.const (Value.string { data := #[63] })) 9, type := 9, pos := "outright.go:47", after := #[{ on := 32, ground := Ground.data }, { on := 30, ground := Ground.guard }], guard := some (30, false) }) (v := .string (A ++ ⟨#[63]⟩)) rfl (by kernel_rfl) (by kernel_rfl) (by kernel_rfl) (fun _ _ _ h => h) (Or.inl ⟨by rfl, ?_⟩) (by assumption) ?_
          · intro w hSw
            (try dsimp only at hSw)
            go_simp
          try simp only [Act.put, List.setIfInBounds_toArray, List.set_cons_zero, List.set_cons_succ]
          refine wpAnyH_ready (rs := [35]) (by kernel_rfl) (by simp) ?_
          refine AllReadyH.cons (o := { dst := some 78, op := Op.call { callee := Callee.value (Operand.func 7), args := #[Operand.tmp 77], argTypes := #[9] }, type := 9, pos := "outright.go:47", after := #[{ on := 34, ground := Ground.data }, { on := 32, ground := Ground.chain }, { on := 30, ground := Ground.guard }], guard := some (30, false) }) rfl ?_ AllReadyH.nil
          intro K hK
          go_simp
          refine (kb v3).mono ?_
          rintro e v4 ⟨rfl, hx⟩
          have zv4 := zv3.trans (hx.mono zv3.size)
          have yv4 := (hx.block _ (lt_there yv3)).trans yv3
          clear hx
          refine hK.out _ _ ?_ (fun hHeld => ?_)
          · exact zv4
          clear hK K
          try simp only [Act.put, List.setIfInBounds_toArray, List.set_cons_zero, List.set_cons_succ]
          refine wpAnyH_take (i := 36) (oi := { dst := some 79, op := Op.binOp BinOp.add 9 (Operand.tmp 76) (Operand.tmp 78) 9, type := 9, pos := "outright.go:47", after := #[{ on := 33, ground := Ground.data }, { on := 35, ground := Ground.data }, { on := 30, ground := Ground.guard }], guard := some (30, false) }) (v := .string (A ++ ⟨#[63]⟩ ++ B)) rfl (by kernel_rfl) (by kernel_rfl) (by kernel_rfl) (fun _ _ _ h => h) (Or.inl ⟨by rfl, ?_⟩) (by assumption) ?_
          · intro w hSw
            (try dsimp only at hSw)
            go_simp
          try simp only [Act.put, List.setIfInBounds_toArray, List.set_cons_zero, List.set_cons_succ]
          refine wpAnyH_ready (rs := [46]) (by kernel_rfl) (by simp) ?_
          refine AllReadyH.cons (o := { dst := some 89, op := Op.call { callee := Callee.value (Operand.func 6), args := #[Operand.tmp 79, Operand.tmp 86, Operand.tmp 88], argTypes := #[9, 9, 4] }, type := 4, pos := "outright.go:47", after := #[{ on := 36, ground := Ground.data }, { on := 43, ground := Ground.data }, { on := 45, ground := Ground.data }, { on := 35, ground := Ground.chain }, { on := 30, ground := Ground.guard }], guard := some (30, false) }) rfl (fun K hK => ?_) AllReadyH.nil
          go_simp
          refine (k7 v4).mono ?_
          rintro e u9 ⟨rfl, hu9⟩
          have q9 := zv4.trans (hu9.mono zv4.size)
          refine hK.out _ _ ?_ (fun hHeld => ?_)
          · exact q9
          clear hK K
          try simp only [Act.put, List.setIfInBounds_toArray, List.set_cons_zero, List.set_cons_succ]
          refine wpAnyH_take (i := 47) (oi := { dst := some 90, op := Op.unOp UnOp.not 4 (Operand.tmp 89), type := 4, pos := "outright.go:47", after := #[{ on := 46, ground := Ground.data }, { on := 30, ground := Ground.guard }], guard := some (30, false) }) (v := .bool false) rfl (by kernel_rfl) (by kernel_rfl) (by kernel_rfl) (fun _ _ _ h => h) (Or.inl ⟨by rfl, ?_⟩) (by assumption) ?_
          · intro w hSw
            (try dsimp only at hSw)
            go_simp
          try simp only [Act.put, List.setIfInBounds_toArray, List.set_cons_zero, List.set_cons_succ]
          refine wpAnyH_take (i := 48) (oi := { dst := some 91, op := Op.pick (Operand.tmp 73) (Operand.const (Value.bool true)) (Operand.tmp 90), type := 4, pos := "outright.go:47", after := #[{ on := 30, ground := Ground.data }, { on := 47, ground := Ground.data }], guard := none }) (v := .bool false) rfl (by kernel_rfl) (by kernel_rfl) (by kernel_rfl) (fun _ _ _ h => h) (Or.inl ⟨by rfl, ?_⟩) (by assumption) ?_
          · intro w hSw
            (try dsimp only at hSw)
            go_simp
          try simp only [Act.put, List.setIfInBounds_toArray, List.set_cons_zero, List.set_cons_succ]
          refine wpAnyH_done (by kernel_rfl) ?_ _
          go_wp2
          go_meet
          exact ⟨rfl, q9⟩
  case rest =>
    obtain ⟨rfl, HB⟩ := hcut
    clear HBd ke kb k5 k6 k7 p1 p2 p3 p4 p5 p6 p7 p8
    have hcv1 := conv_at (W := wc.alloc (.cells #[.int .u8 lo] 5)) [lo] 1 rfl (heap_alloc_new wc _)
    have hcv2 := conv_at (W := (wc.alloc (.cells #[.int .u8 lo] 5)).alloc (.cells #[.int .u8 hi] 5)) [hi] 1 rfl (heap_alloc_new _ _)
    have hcv3 := conv_at (W := ((wc.alloc (.cells #[.int .u8 lo] 5)).alloc (.cells #[.int .u8 hi] 5)).alloc (.cells #[.int .u8 c] 5)) [c] 1 rfl (heap_alloc_new _ _)
    have HB1 := Hid.mk (((HB.alloc HB.size (.cells #[.int .u8 lo] 5)).alloc (Nat.le_trans HB.size (by rw [World.size_alloc]; omega)) (.cells #[.int .u8 hi] 5)).alloc (Nat.le_trans HB.size (by rw [World.size_alloc, World.size_alloc]; omega)) (.cells #[.int .u8 c] 5))
    simp only [World.size_alloc] at hcv2 hcv3
    go_upto_region 10 with fail
    generalize hW : ((wc.alloc (.cells #[.int .u8 lo] 5)).alloc (.cells #[.int .u8 hi] 5)).alloc (.cells #[.int .u8 c] 5) = W at HB1 hcv3 ⊢
    clear hcv1 hcv2 hcv3 HB
    obtain ⟨X, hX⟩ : ∃ X, X = strOfNums [lo] := ⟨_, rfl⟩
    obtain ⟨Y, hY⟩ : ∃ Y, Y = strOfNums [hi] := ⟨_, rfl⟩
    obtain ⟨Z, hZ⟩ : ∃ Z, Z = strOfNums [c] := ⟨_, rfl⟩
    obtain ⟨EX, hEX⟩ : ∃ E, E = escA X := ⟨_, rfl⟩
    obtain ⟨EY, hEY⟩ : ∃ E, E = escA Y := ⟨_, rfl⟩
    have kx : ∀ w, Calls Try.prog 7 #[.string X] w fun e w' => e = .returned (.string EX) ∧ Below w.heap.size w w' := fun w => by
      rw [hEX]; exact escaped_any X w (by rw [hX, one_size]; omega)
    have ky : ∀ w, Calls Try.prog 7 #[.string Y] w fun e w' => e = .returned (.string EY) ∧ Below w.heap.size w w' := fun w => by
      rw [hEY]; exact escaped_any Y w (by rw [hY, one_size]; omega)
    have sX : EX.size = 2 := by rw [hEX, escA_size, hX, one_size]
    have sY : EY.size = 2 := by rw [hEY, escA_size, hY, one_size]
    have sZ : Z.size = 1 := by rw [hZ, one_size]
    rw [← hX, ← hY, ← hZ]
    by_cases hlt : hi < lo
    · have km : ∀ w, Calls Try.prog 9 #[.string (⟨#[91]⟩ ++ EX ++ ⟨#[45]⟩ ++ EY ++ ⟨#[93]⟩), .string Z] w fun e w' => e = .returned (.tuple #[.bool false, .int .i64 190]) ∧ Below w.heap.size w w' := fun w => by
        have h := match_any (⟨#[91]⟩ ++ EX ++ ⟨#[45]⟩ ++ EY ++ ⟨#[93]⟩) Z w
        rw [hEX, hEY, hX, hY, hZ, bad_ok hlo hhi hlt] at h
        rw [hEX, hEY, hX, hY, hZ]
        exact h
      clear hX hY hZ hEX hEY HU HAB HSZ kc sC
      go_wp2_with fail
      refine (kx _).mono ?_
      rintro e w1 ⟨rfl, hb1⟩
      go_wp2_with fail
      refine (ky _).mono ?_
      rintro e w2 ⟨rfl, hb2⟩
      go_wp2_with fail
      refine (km _).mono ?_
      rintro e w3 ⟨rfl, hb3⟩
      have HE := Hid.mk (HB1.out.trans ((hb1.trans ((hb2.mono hb1.size).trans (hb3.mono (Nat.le_trans hb1.size hb2.size)))).mono HB1.out.size))
      clear hb1 hb2 hb3 HB1 kx ky km
      go_wp2
      go_ret
      exact ⟨rfl, HE.out⟩
    · have hle : lo ≤ hi := by omega
      have k1 := matches_ok (in_ok hlo hhi hc hle)
      have k2 := matches_ok (out_ok hlo hhi hc hle)
      have k3 := matches_ok (two_ok a b hlo hhi hc)
      have k4 := matches_ok (star1_ok m)
      have k5 := matches_ok (all1_ok m)
      obtain ⟨hA, hB⟩ := HAB.out
      rw [← hX, ← hY, ← hZ, ← hEX, ← hEY] at k1
      rw [← hX, ← hY, ← hZ, ← hEX, ← hEY] at k2
      rw [← hA, ← hB, ← hX, ← hY, ← hZ, ← hEX, ← hEY] at k3
      have ke : ∀ w, Calls Try.prog 7 #[.string a] w fun e w' => e = .returned (.string A) ∧ Below w.heap.size w w' := fun w => by
        rw [hA]; exact escaped_any a w (by have := HSZ.out.1.1; omega)
      have kb : ∀ w, Calls Try.prog 7 #[.string b] w fun e w' => e = .returned (.string B) ∧ Below w.heap.size w w' := fun w => by
        rw [hB]; exact escaped_any b w (by have := HSZ.out.1.2; omega)
      clear hlt hA hB hX hY hZ hEX hEY HU HAB
      go_upto_region 13 with fail
      go_cut [20] (fun v wx => v = .bool (decide (c ≠ 47 ∧ lo ≤ c ∧ c ≤ hi)) ∧ wx = W)
      case first =>
        clear kx ky k1 k2 k3 k4 k5 ke kb HSZ kc sC HB1 hW
        have HD : ∀ (b : Bool), ((c ≠ 47 ∧ lo ≤ c ∧ c ≤ hi) ↔ b = true) → Hid (decide (c ≠ 47 ∧ lo ≤ c ∧ c ≤ hi) = b) := fun b h => Hid.mk (by rw [Bool.eq_iff_iff, decide_eq_true_iff]; exact h)
        by_cases h1 : c = 47
        · have HF := HD false (by simp [h1])
          have q1 := eq_true h1
          have q2 : (c != 47) = false := by simp [h1]
          clear h1 HD
          go_wp2
          go_meet
          exact ⟨by rw [HF.out], rfl⟩
        · by_cases h2 : lo ≤ c
          · by_cases h3 : c ≤ hi
            · have HF := HD true (by simp [h1, h2, h3])
              have q1 := eq_false h1
              have q2 : (c != 47) = true := by simp [h1]
              clear h1 HD
              go_wp2
              go_meet
              exact ⟨by rw [HF.out], rfl⟩
            · have HF := HD false (by simp [h3])
              have q1 := eq_false h1
              have q2 : (c != 47) = true := by simp [h1]
              clear h1 HD
              go_wp2
              go_meet
              exact ⟨by rw [HF.out], rfl⟩
          · have HF := HD false (by simp [h2])
            have q1 := eq_false h1
            have q2 : (c != 47) = true := by simp [h1]
            clear h1 HD
            go_wp2
            go_meet
            exact ⟨by rw [HF.out], rfl⟩
      case rest =>
        obtain ⟨rfl, rfl⟩ := hcut
        generalize decide (c ≠ 47 ∧ lo ≤ c ∧ c ≤ hi) = v1 at k1 ⊢
        go_upto_region 14 with fail
        go_cut [21] (fun v wx => v = .bool (decide (c ≠ 47 ∧ (c < lo ∨ hi < c))) ∧ wx = wc)
        case first =>
          clear kx ky k1 k2 k3 k4 k5 ke kb HSZ kc sC HB1 hW
          have HD : ∀ (b : Bool), ((c ≠ 47 ∧ (c < lo ∨ hi < c)) ↔ b = true) → Hid (decide (c ≠ 47 ∧ (c < lo ∨ hi < c)) = b) := fun b h => Hid.mk (by rw [Bool.eq_iff_iff, decide_eq_true_iff]; exact h)
          by_cases h1 : c = 47
          · have HF := HD false (by simp [h1])
            have q1 := eq_true h1
            have q2 : (c != 47) = false := by simp [h1]
            clear h1 HD
            go_wp2
            go_meet
            exact ⟨by rw [HF.out], rfl⟩
          · by_cases h2 : c < lo
            · have HF := HD true (by simp [h1, h2])
              have q1 := eq_false h1
              have q2 : (c != 47) = true := by simp [h1]
              clear h1 HD
              go_wp2
              go_meet
              exact ⟨by rw [HF.out], rfl⟩
            · by_cases h3 : hi < c
              · have HF := HD true (by simp [h1, h3])
                have q1 := eq_false h1
                have q2 : (c != 47) = true := by simp [h1]
                clear h1 HD
                go_wp2
                go_meet
                exact ⟨by rw [HF.out], rfl⟩
              · have HF := HD false (by simp [h2, h3])
                have q1 := eq_false h1
                have q2 : (c != 47) = true := by simp [h1]
                clear h1 HD
                go_wp2
                go_meet
                exact ⟨by rw [HF.out], rfl⟩
        case rest =>
          obtain ⟨rfl, rfl⟩ := hcut
          generalize decide (c ≠ 47 ∧ (c < lo ∨ hi < c)) = v2 at k2 ⊢
          go_upto_region 15 with fail
          have HD : ∀ (b : Bool), ((c ≠ 47 ∧ (c = lo ∨ c = hi)) ↔ b = true) → Hid (decide (c ≠ 47 ∧ (c = lo ∨ c = hi)) = b) := fun b h => Hid.mk (by rw [Bool.eq_iff_iff, decide_eq_true_iff]; exact h)
          have p1 : (9223372036854775807 < A.size + 1) = False := eq_false (by have := HSZ.out; omega)
          have p2 : (9223372036854775807 < A.size + 1 + 2) = False := eq_false (by have := HSZ.out; omega)
          have p3 : (9223372036854775807 < A.size + 1 + 2 + 2) = False := eq_false (by have := HSZ.out; omega)
          have p4 : (9223372036854775807 < A.size + 1 + 2 + 2 + 1) = False := eq_false (by have := HSZ.out; omega)
          have p5 : (9223372036854775807 < A.size + 1 + 2 + 2 + 1 + B.size) = False := eq_false (by have := HSZ.out; omega)
          have p6 : (9223372036854775807 < a.size + 1) = False := eq_false (by have := HSZ.out; omega)
          have p7 : (9223372036854775807 < a.size + 1 + b.size) = False := eq_false (by have := HSZ.out; omega)
          go_wp2_with fail
          refine (kx _).mono ?_
          rintro e x1 ⟨rfl, hb⟩
          replace HB1 := Hid.mk (HB1.out.trans (hb.mono HB1.out.size))
          clear hb
          go_wp2_with fail
          refine (ky _).mono ?_
          rintro e x2 ⟨rfl, hb⟩
          replace HB1 := Hid.mk (HB1.out.trans (hb.mono HB1.out.size))
          clear hb
          go_wp2_with fail
          refine (k1 _).mono ?_
          rintro e x3 ⟨rfl, hb⟩
          replace HB1 := Hid.mk (HB1.out.trans (hb.mono HB1.out.size))
          clear hb
          clear k1
          go_wp2_with fail
          refine (kx _).mono ?_
          rintro e x4 ⟨rfl, hb⟩
          replace HB1 := Hid.mk (HB1.out.trans (hb.mono HB1.out.size))
          clear hb
          go_wp2_with fail
          refine (ky _).mono ?_
          rintro e x5 ⟨rfl, hb⟩
          replace HB1 := Hid.mk (HB1.out.trans (hb.mono HB1.out.size))
          clear hb
          go_wp2_with fail
          refine (k2 _).mono ?_
          rintro e x6 ⟨rfl, hb⟩
          replace HB1 := Hid.mk (HB1.out.trans (hb.mono HB1.out.size))
          clear hb
          clear k2
          go_wp2_with fail
          refine (ke _).mono ?_
          rintro e x7 ⟨rfl, hb⟩
          replace HB1 := Hid.mk (HB1.out.trans (hb.mono HB1.out.size))
          clear hb
          go_wp2_with fail
          refine (kx _).mono ?_
          rintro e x8 ⟨rfl, hb⟩
          replace HB1 := Hid.mk (HB1.out.trans (hb.mono HB1.out.size))
          clear hb
          go_wp2_with fail
          refine (ky _).mono ?_
          rintro e x9 ⟨rfl, hb⟩
          replace HB1 := Hid.mk (HB1.out.trans (hb.mono HB1.out.size))
          clear hb
          go_wp2_with fail
          refine (kb _).mono ?_
          rintro e x10 ⟨rfl, hb⟩
          replace HB1 := Hid.mk (HB1.out.trans (hb.mono HB1.out.size))
          clear hb
          clear kx ky ke kb
          by_cases h1 : c = 47
          · as_aux_lemma =>
              have HF := HD false (iff_of_false (fun h => h.1 h1) Bool.false_ne_true)
              have q1 := eq_true h1
              have q2 : (c != 47) = false := by simp [h1]
              rw [HF.out] at k3
              clear HD HF h1
              go_wp2_with fail
              iterate 2
                · exact absurd (show ∃ b, some undef = some (Value.bool b) from ⟨_, ‹some undef = some (Value.bool _)›⟩) (by rintro ⟨b, h⟩; cases h)
              refine (k3 _).mono ?_
              rintro e x11 ⟨rfl, hb⟩
              replace HB1 := Hid.mk (HB1.out.trans (hb.mono HB1.out.size))
              clear hb
              clear k3
              go_wp2_with fail
              refine (kc _).mono ?_
              rintro e x12 ⟨rfl, rfl⟩
              go_wp2_with fail
              refine (k4 _).mono ?_
              rintro e x13 ⟨rfl, hb⟩
              replace HB1 := Hid.mk (HB1.out.trans (hb.mono HB1.out.size))
              clear hb
              clear k4
              go_wp2_with fail
              refine (k5 _).mono ?_
              rintro e x14 ⟨rfl, hb⟩
              replace HB1 := Hid.mk (HB1.out.trans (hb.mono HB1.out.size))
              clear hb
              go_wp2
              go_ret
              exact ⟨rfl, HB1.out⟩
          · by_cases h2 : c = lo
            · as_aux_lemma =>
                have HF := HD true (iff_of_true ⟨h1, .inl h2⟩ rfl)
                have q1 := eq_false h1
                have q2 := eq_true h2
                have r2 : (c == lo) = true := by simp [h2]
                have q3 : (c != 47) = true := by simp [h1]
                rw [HF.out] at k3
                clear HD HF h1 h2
                go_wp2_with fail
                refine (k3 _).mono ?_
                rintro e x11 ⟨rfl, hb⟩
                replace HB1 := Hid.mk (HB1.out.trans (hb.mono HB1.out.size))
                clear hb
                clear k3
                go_wp2_with fail
                refine (kc _).mono ?_
                rintro e x12 ⟨rfl, rfl⟩
                go_wp2_with fail
                refine (k4 _).mono ?_
                rintro e x13 ⟨rfl, hb⟩
                replace HB1 := Hid.mk (HB1.out.trans (hb.mono HB1.out.size))
                clear hb
                clear k4
                go_wp2_with fail
                refine (k5 _).mono ?_
                rintro e x14 ⟨rfl, hb⟩
                replace HB1 := Hid.mk (HB1.out.trans (hb.mono HB1.out.size))
                clear hb
                go_wp2
                go_ret
                exact ⟨rfl, HB1.out⟩
            · by_cases h3 : c = hi
              · as_aux_lemma =>
                  have HF := HD true (iff_of_true ⟨h1, .inr h3⟩ rfl)
                  have q1 := eq_false h1
                  have q2 := eq_false h2
                  have r2 : (c == lo) = false := by simp [h2]
                  have q3 := eq_true h3
                  have r3 : (c == hi) = true := by simp [h3]
                  have q4 : (c != 47) = true := by simp [h1]
                  rw [HF.out] at k3
                  clear HD HF h1 h2 h3
                  go_wp2_with fail
                  refine (k3 _).mono ?_
                  rintro e x11 ⟨rfl, hb⟩
                  replace HB1 := Hid.mk (HB1.out.trans (hb.mono HB1.out.size))
                  clear hb
                  clear k3
                  go_wp2_with fail
                  refine (kc _).mono ?_
                  rintro e x12 ⟨rfl, rfl⟩
                  go_wp2_with fail
                  refine (k4 _).mono ?_
                  rintro e x13 ⟨rfl, hb⟩
                  replace HB1 := Hid.mk (HB1.out.trans (hb.mono HB1.out.size))
                  clear hb
                  clear k4
                  go_wp2_with fail
                  refine (k5 _).mono ?_
                  rintro e x14 ⟨rfl, hb⟩
                  replace HB1 := Hid.mk (HB1.out.trans (hb.mono HB1.out.size))
                  clear hb
                  go_wp2
                  go_ret
                  exact ⟨rfl, HB1.out⟩
              · as_aux_lemma =>
                  have HF := HD false (iff_of_false (fun h => h.2.elim h2 h3) Bool.false_ne_true)
                  have q1 := eq_false h1
                  have q2 := eq_false h2
                  have r2 : (c == lo) = false := by simp [h2]
                  have q3 := eq_false h3
                  have r3 : (c == hi) = false := by simp [h3]
                  have q4 : (c != 47) = true := by simp [h1]
                  rw [HF.out] at k3
                  clear HD HF h1 h2 h3
                  go_wp2_with fail
                  refine (k3 _).mono ?_
                  rintro e x11 ⟨rfl, hb⟩
                  replace HB1 := Hid.mk (HB1.out.trans (hb.mono HB1.out.size))
                  clear hb
                  clear k3
                  go_wp2_with fail
                  refine (kc _).mono ?_
                  rintro e x12 ⟨rfl, rfl⟩
                  go_wp2_with fail
                  refine (k4 _).mono ?_
                  rintro e x13 ⟨rfl, hb⟩
                  replace HB1 := Hid.mk (HB1.out.trans (hb.mono HB1.out.size))
                  clear hb
                  clear k4
                  go_wp2_with fail
                  refine (k5 _).mono ?_
                  rintro e x14 ⟨rfl, hb⟩
                  replace HB1 := Hid.mk (HB1.out.trans (hb.mono HB1.out.size))
                  clear hb
                  go_wp2
                  go_ret
                  exact ⟨rfl, HB1.out⟩
end Go.Proofs.Ytkdjjnkhbmmfeaa
