import Derived.Test.YtalokopnagpgcaaDoorSK1
import Derived.Lib.ItoaLen
namespace Go.Proofs.YtalokopnagpgcaaDoor
open Go.RowKit Go.Maps

theorem dig_num (k : Nat) (h : k < 10) : ((UInt8.ofNat (48 + k)).toNat : Int) = ((48 + k : Nat) : Int) := by
  simp
  omega
theorem dig_one (c : UInt8) : strOfNums [(c.toNat : Int)] = ⟨#[c]⟩ := by
  simp [strOfNums]
/-- The text of a number. -/
def mkd (n : Nat) : List UInt8 := Lib.decDigits n
theorem mkd_low {n : Nat} (h : n < 10) : mkd n = [UInt8.ofNat (48 + n)] := by
  unfold mkd
  rw [Lib.decDigits, dif_pos h]
theorem mkd_step {n : Nat} (h : ¬ n < 10) : mkd n = mkd (n / 10) ++ [UInt8.ofNat (48 + n % 10)] := by
  unfold mkd
  rw [Lib.decDigits, dif_neg h]
theorem mkd_len {n : Nat} (h : n < 10000) : (mkd n).length ≤ 20 := by
  unfold mkd
  rw [Lib.decDigits_length]
  exact Lib.nDigits_le20 n (by omega)
theorem conv_blk (X : Int) (c : UInt8) (hX : X = (c.toNat : Int)) (w : World) (g : Nat) (h : w.heap[g]? = some (.cells #[.int .u8 X] 5)) :
    (convert 23 9 (.slice (some ⟨g, 0, none⟩) 1 1)).run Tryd.prog w = .ok (.string ⟨#[c]⟩) w := by
  have := conv_at (W := w) [X] 1 rfl h
  rw [hX, dig_one] at this
  exact this

set_option maxRecDepth 20000 in
set_option maxHeartbeats 4000000 in
theorem marked_any (n : Nat) (hn : n < 10000) (w : World) :
    Calls Tryd.prog 12 #[.int .i64 (n : Int)] w fun e w' => e = .returned (.string ⟨(mkd n).toArray⟩) ∧ Below w.heap.size w w' := by
  induction n using Nat.strongRecOn generalizing w with
  | ind n ih0 =>
  by_cases hlow : n < 10
  · rw [mkd_low hlow]
    clear ih0
    have hlt : (n : Int) < 10 := by omega
    obtain ⟨X, hX⟩ : ∃ X : Int, X = ((UInt8.ofNat (48 + n)).toNat : Int) := ⟨_, rfl⟩
    have u1 : IntKind.u8.wrap ((48 : Int) + (n : Int)) = X := by
      rw [hX, dig_num _ hlow, IntKind.wrap_u8]
      omega
    have hcv := conv_blk X (UInt8.ofNat (48 + n)) hX (w.alloc (.cells #[.int .u8 X] 5)) w.heap.size (heap_alloc_new w _)
    have hB0 := below_box w (.cells #[.int .u8 X] 5)
    have HB := Hid.mk hB0
    clear hB0 hX hlow
    generalize UInt8.ofNat (48 + n) = c at *
    go_enter Tryd.func12, Tryd.ntmps12
    go_wp2
    go_ret
    exact ⟨rfl, HB.out⟩
  · have hlt : ¬ (n : Int) < 10 := by omega
    obtain ⟨X, hX⟩ : ∃ X : Int, X = ((UInt8.ofNat (48 + n % 10)).toNat : Int) := ⟨_, rfl⟩
    have hd : n % 10 < 10 := Nat.mod_lt _ (by decide)
    obtain ⟨Q, hQ⟩ : ∃ Q : Nat, Q = n / 10 := ⟨_, rfl⟩
    obtain ⟨D, hD⟩ : ∃ D : Nat, D = n % 10 := ⟨_, rfl⟩
    have u1 : IntKind.u8.wrap ((48 : Int) + (D : Int)) = X := by
      rw [hX, hD, dig_num _ hd, IntKind.wrap_u8]
      omega
    have u2 : IntKind.i64.wrap (Q : Int) = (Q : Int) := by rw [IntKind.wrap_i64]; omega
    have u3 : IntKind.i64.wrap ((48 : Int) + (D : Int)) = (48 : Int) + (D : Int) := by rw [IntKind.wrap_i64]; omega
    have t1 : (n : Int).tmod 10 = (D : Int) := by rw [hD]; rfl
    have t2 : (n : Int).tdiv 10 = (Q : Int) := by rw [hQ]; rfl
    have ih := fun w => ih0 Q (by omega) (by omega) w
    have hl : (mkd Q).length ≤ 20 := mkd_len (by omega)
    obtain ⟨A, hA⟩ : ∃ A : ByteArray, A = ⟨(mkd Q).toArray⟩ := ⟨_, rfl⟩
    obtain ⟨B, hB⟩ : ∃ B : ByteArray, B = ⟨#[UInt8.ofNat (48 + n % 10)]⟩ := ⟨_, rfl⟩
    have hconv := conv_blk X (UInt8.ofNat (48 + n % 10)) hX
    rw [← hB] at hconv
    rw [← hA] at ih
    have HA : Hid (Ending.returned (.string (A ++ B)) = .returned (.string ⟨(mkd n).toArray⟩)) := by
      have hcat : A ++ B = ⟨(mkd n).toArray⟩ := by
        apply ByteArray.ext
        apply Array.ext'
        rw [mkd_step hlow, hA, hB, hQ]
        simp
      show Ending.returned (.string (A ++ B)) = .returned (.string ⟨(mkd n).toArray⟩)
      rw [hcat]
    have hAs : A.size ≤ 20 := by rw [← len_size, hA]; exact hl
    have hBs : B.size = 1 := by rw [hB]; rfl
    have k1 : (9223372036854775807 < A.size + B.size) = False := eq_false (by omega)
    have hdrew : Below w.heap.size w w.drew := (Keeps.drew (fun _ => False) w).below (fun _ h => h.elim) (Nat.le_refl _)
    clear hA hB ih0 hlow hl hX hAs hBs hQ hD hd
    generalize UInt8.ofNat (48 + n % 10) = c at *
    go_enter Tryd.func12, Tryd.ntmps12
    go_wp2_with fail
    refine wp_region_held_drew (S := (fun _ => True)) (by kernel_rfl) (trivial) (fun hHeld => ?_)
    refine wpAnyH_take (i := 0) (oi := { dst := some 10, op := Op.move (Operand.tmp 0), type := 3, pos := "law.go:130", after := #[], guard := none }) (v := .int .i64 (n : Int)) rfl (by kernel_rfl) (by kernel_rfl) (by kernel_rfl) (fun _ _ _ h => h) (Or.inl ⟨by rfl, ?_⟩) (by assumption) ?_
    · intro w hSw
      (try dsimp only at hSw)
      go_simp
    try simp only [Act.put, List.setIfInBounds_toArray, List.set_cons_zero, List.set_cons_succ]
    refine wpAnyH_take (i := 1) (oi := { dst := some 11, op := Op.binOp BinOp.quo 3 (Operand.tmp 10) (Operand.const (Value.int IntKind.i64 10)) 3, type := 3, pos := "law.go:130", after := #[{ on := 0, ground := Ground.data }], guard := none }) (v := .int .i64 (Q : Int)) rfl (by kernel_rfl) (by kernel_rfl) (by kernel_rfl) (fun _ _ _ h => h) (Or.inl ⟨by rfl, ?_⟩) (by assumption) ?_
    · intro w hSw
      (try dsimp only at hSw)
      go_simp
    try simp only [Act.put, List.setIfInBounds_toArray, List.set_cons_zero, List.set_cons_succ]
    refine wpAnyH_take (i := 3) (oi := { dst := some 13, op := Op.move (Operand.tmp 0), type := 3, pos := "law.go:130", after := #[], guard := none }) (v := .int .i64 (n : Int)) rfl (by kernel_rfl) (by kernel_rfl) (by kernel_rfl) (fun _ _ _ h => h) (Or.inl ⟨by rfl, ?_⟩) (by assumption) ?_
    · intro w hSw
      (try dsimp only at hSw)
      go_simp
    try simp only [Act.put, List.setIfInBounds_toArray, List.set_cons_zero, List.set_cons_succ]
    refine wpAnyH_take (i := 4) (oi := { dst := some 14, op := Op.binOp BinOp.rem 3 (Operand.tmp 13) (Operand.const (Value.int IntKind.i64 10)) 3, type := 3, pos := "law.go:130", after := #[{ on := 3, ground := Ground.data }], guard := none }) (v := .int .i64 (D : Int)) rfl (by kernel_rfl) (by kernel_rfl) (by kernel_rfl) (fun _ _ _ h => h) (Or.inl ⟨by rfl, ?_⟩) (by assumption) ?_
    · intro w hSw
      (try dsimp only at hSw)
      go_simp
    try simp only [Act.put, List.setIfInBounds_toArray, List.set_cons_zero, List.set_cons_succ]
    refine wpAnyH_take (i := 5) (oi := { dst := some 15, op := Op.binOp BinOp.add 3 (Operand.const (Value.int IntKind.i64 48)) (Operand.tmp 14) 3, type := 3, pos := "law.go:130", after := #[{ on := 4, ground := Ground.data }], guard := none }) (v := .int .i64 (48 + (D : Int))) rfl (by kernel_rfl) (by kernel_rfl) (by kernel_rfl) (fun _ _ _ h => h) (Or.inl ⟨by rfl, ?_⟩) (by assumption) ?_
    · intro w hSw
      (try dsimp only at hSw)
      go_simp
    try simp only [Act.put, List.setIfInBounds_toArray, List.set_cons_zero, List.set_cons_succ]
    refine wpAnyH_take (i := 6) (oi := { dst := some 16, op := Op.convert 3 5 (Operand.tmp 15), type := 5, pos := "law.go:130", after := #[{ on := 5, ground := Ground.data }], guard := none }) (v := .int .u8 X) rfl (by kernel_rfl) (by kernel_rfl) (by kernel_rfl) (fun _ _ _ h => h) (Or.inl ⟨by rfl, ?_⟩) (by assumption) ?_
    · intro w hSw
      (try dsimp only at hSw)
      go_simp
    try simp only [Act.put, List.setIfInBounds_toArray, List.set_cons_zero, List.set_cons_succ]
    refine wpAnyH_ready (rs := [2, 7]) (by kernel_rfl) (by simp) ?_
    refine AllReadyH.cons (o := { dst := some 12, op := Op.call { callee := Callee.value (Operand.func 12), args := #[Operand.tmp 11], argTypes := #[3] }, type := 9, pos := "law.go:130", after := #[{ on := 1, ground := Ground.data }], guard := none }) rfl (fun K hK => ?_) (AllReadyH.cons (o := { dst := some 17, op := Op.buildSlice 23 1 #[(0, Operand.tmp 16)], type := 23, pos := "law.go:130", after := #[{ on := 6, ground := Ground.data }], guard := none }) rfl (fun K hK => ?_) AllReadyH.nil)
    · go_simp
      refine (ih w.drew).mono ?_
      rintro e w1 ⟨rfl, hb1⟩
      refine hK.out _ _ ?_ (fun hHeld => ?_)
      · exact trivial
      clear hK K
      try simp only [Act.put, List.setIfInBounds_toArray, List.set_cons_zero, List.set_cons_succ]
      refine wpAnyH_ready (rs := [7]) (by kernel_rfl) (by simp) ?_
      refine AllReadyH.cons (o := { dst := some 17, op := Op.buildSlice 23 1 #[(0, Operand.tmp 16)], type := 23, pos := "law.go:130", after := #[{ on := 6, ground := Ground.data }], guard := none }) rfl (fun K hK => ?_) AllReadyH.nil
      go_simp
      have hbx := below_box w1 (.cells #[.int .u8 X] 5)
      refine hK.out _ _ ?_ (fun hHeld => ?_)
      · exact trivial
      clear hK K
      try simp only [Act.put, List.setIfInBounds_toArray, List.set_cons_zero, List.set_cons_succ]
      refine wpAnyH_ready (rs := [8]) (by kernel_rfl) (by simp) ?_
      refine AllReadyH.cons (o := { dst := some 18, op := Op.convert 23 9 (Operand.tmp 17), type := 9, pos := "law.go:130", after := #[{ on := 7, ground := Ground.data }], guard := none }) rfl (fun K hK => ?_) AllReadyH.nil
      go_simp
      have hcv := hconv (w1.alloc (.cells #[.int .u8 X] 5)) w1.heap.size (heap_alloc_new w1 _)
      go_simp
      refine hK.out _ _ ?_ (fun hHeld => ?_)
      · exact trivial
      clear hK K
      try simp only [Act.put, List.setIfInBounds_toArray, List.set_cons_zero, List.set_cons_succ]
      refine wpAnyH_take (i := 9) (oi := { dst := some 19, op := Op.binOp BinOp.add 9 (Operand.tmp 12) (Operand.tmp 18) 9, type := 9, pos := "law.go:130", after := #[{ on := 2, ground := Ground.data }, { on := 8, ground := Ground.data }], guard := none }) (v := .string (A ++ B)) rfl (by kernel_rfl) (by kernel_rfl) (by kernel_rfl) (fun _ _ _ h => h) (Or.inl ⟨by rfl, ?_⟩) (by assumption) ?_
      · intro w hSw
        (try dsimp only at hSw)
        go_simp
      try simp only [Act.put, List.setIfInBounds_toArray, List.set_cons_zero, List.set_cons_succ]
      refine wpAnyH_ready (rs := [10]) (by kernel_rfl) (by simp) ?_
      refine AllReadyH.cons (o := { dst := some 2, op := Op.assign (Operand.tmp 19), type := 9, pos := "law.go:130", after := #[{ on := 9, ground := Ground.data }, { on := 2, ground := Ground.chain }, { on := 0, ground := Ground.phase }, { on := 1, ground := Ground.phase }, { on := 2, ground := Ground.phase }, { on := 3, ground := Ground.phase }, { on := 4, ground := Ground.phase }, { on := 5, ground := Ground.phase }, { on := 6, ground := Ground.phase }, { on := 7, ground := Ground.phase }, { on := 8, ground := Ground.phase }, { on := 9, ground := Ground.phase }], guard := none }) rfl (fun K hK => ?_) AllReadyH.nil
      go_simp
      refine hK.out _ _ ?_ (fun hHeld => ?_)
      · exact trivial
      clear hK K
      try simp only [Act.put, List.setIfInBounds_toArray, List.set_cons_zero, List.set_cons_succ]
      refine wpAnyH_done (by kernel_rfl) ?_ _
      have hfin := hdrew.trans ((hb1.mono hdrew.size).trans (hbx.mono (Nat.le_trans hdrew.size hb1.size)))
      clear ih
      go_wp2
      go_ret
      exact ⟨HA.out, hfin⟩
    · go_simp
      have hbx := below_box w.drew (.cells #[.int .u8 X] 5)
      have hblk := heap_alloc_new w.drew (.cells #[.int .u8 X] 5)
      have hlt := Array.getElem?_eq_some_iff.1 hblk |>.1
      refine hK.out _ _ ?_ (fun hHeld => ?_)
      · exact trivial
      clear hK K
      try simp only [Act.put, List.setIfInBounds_toArray, List.set_cons_zero, List.set_cons_succ]
      refine wpAnyH_ready (rs := [2, 8]) (by kernel_rfl) (by simp) ?_
      refine AllReadyH.cons (o := { dst := some 12, op := Op.call { callee := Callee.value (Operand.func 12), args := #[Operand.tmp 11], argTypes := #[3] }, type := 9, pos := "law.go:130", after := #[{ on := 1, ground := Ground.data }], guard := none }) rfl (fun K hK => ?_) (AllReadyH.cons (o := { dst := some 18, op := Op.convert 23 9 (Operand.tmp 17), type := 9, pos := "law.go:130", after := #[{ on := 7, ground := Ground.data }], guard := none }) rfl (fun K hK => ?_) AllReadyH.nil)
      · go_simp
        refine (ih (w.drew.alloc (.cells #[.int .u8 X] 5))).mono ?_
        rintro e w1 ⟨rfl, hb1⟩
        refine hK.out _ _ ?_ (fun hHeld => ?_)
        · exact trivial
        clear hK K
        try simp only [Act.put, List.setIfInBounds_toArray, List.set_cons_zero, List.set_cons_succ]
        refine wpAnyH_ready (rs := [8]) (by kernel_rfl) (by simp) ?_
        refine AllReadyH.cons (o := { dst := some 18, op := Op.convert 23 9 (Operand.tmp 17), type := 9, pos := "law.go:130", after := #[{ on := 7, ground := Ground.data }], guard := none }) rfl (fun K hK => ?_) AllReadyH.nil
        go_simp
        have hcv := hconv w1 w.heap.size ((hb1.block _ hlt).trans hblk)
        go_simp
        refine hK.out _ _ ?_ (fun hHeld => ?_)
        · exact trivial
        clear hK K
        try simp only [Act.put, List.setIfInBounds_toArray, List.set_cons_zero, List.set_cons_succ]
        refine wpAnyH_take (i := 9) (oi := { dst := some 19, op := Op.binOp BinOp.add 9 (Operand.tmp 12) (Operand.tmp 18) 9, type := 9, pos := "law.go:130", after := #[{ on := 2, ground := Ground.data }, { on := 8, ground := Ground.data }], guard := none }) (v := .string (A ++ B)) rfl (by kernel_rfl) (by kernel_rfl) (by kernel_rfl) (fun _ _ _ h => h) (Or.inl ⟨by rfl, ?_⟩) (by assumption) ?_
        · intro w hSw
          (try dsimp only at hSw)
          go_simp
        try simp only [Act.put, List.setIfInBounds_toArray, List.set_cons_zero, List.set_cons_succ]
        refine wpAnyH_ready (rs := [10]) (by kernel_rfl) (by simp) ?_
        refine AllReadyH.cons (o := { dst := some 2, op := Op.assign (Operand.tmp 19), type := 9, pos := "law.go:130", after := #[{ on := 9, ground := Ground.data }, { on := 2, ground := Ground.chain }, { on := 0, ground := Ground.phase }, { on := 1, ground := Ground.phase }, { on := 2, ground := Ground.phase }, { on := 3, ground := Ground.phase }, { on := 4, ground := Ground.phase }, { on := 5, ground := Ground.phase }, { on := 6, ground := Ground.phase }, { on := 7, ground := Ground.phase }, { on := 8, ground := Ground.phase }, { on := 9, ground := Ground.phase }], guard := none }) rfl (fun K hK => ?_) AllReadyH.nil
        go_simp
        refine hK.out _ _ ?_ (fun hHeld => ?_)
        · exact trivial
        clear hK K
        try simp only [Act.put, List.setIfInBounds_toArray, List.set_cons_zero, List.set_cons_succ]
        refine wpAnyH_done (by kernel_rfl) ?_ _
        have hfin := hdrew.trans ((hbx.mono hdrew.size).trans (hb1.mono (Nat.le_trans hdrew.size hbx.size)))
        clear ih
        go_wp2
        go_ret
        exact ⟨HA.out, hfin⟩
      · go_simp
        have hcv := hconv (w.alloc (.cells #[.int .u8 X] 5)).drew w.heap.size (heap_alloc_new w _)
        go_simp
        refine hK.out _ _ ?_ (fun hHeld => ?_)
        · exact trivial
        clear hK K
        try simp only [Act.put, List.setIfInBounds_toArray, List.set_cons_zero, List.set_cons_succ]
        refine wpAnyH_ready (rs := [2]) (by kernel_rfl) (by simp) ?_
        refine AllReadyH.cons (o := { dst := some 12, op := Op.call { callee := Callee.value (Operand.func 12), args := #[Operand.tmp 11], argTypes := #[3] }, type := 9, pos := "law.go:130", after := #[{ on := 1, ground := Ground.data }], guard := none }) rfl (fun K hK => ?_) AllReadyH.nil
        go_simp
        refine (ih (w.drew.alloc (.cells #[.int .u8 X] 5))).mono ?_
        rintro e w1 ⟨rfl, hb1⟩
        refine hK.out _ _ ?_ (fun hHeld => ?_)
        · exact trivial
        clear hK K
        try simp only [Act.put, List.setIfInBounds_toArray, List.set_cons_zero, List.set_cons_succ]
        refine wpAnyH_take (i := 9) (oi := { dst := some 19, op := Op.binOp BinOp.add 9 (Operand.tmp 12) (Operand.tmp 18) 9, type := 9, pos := "law.go:130", after := #[{ on := 2, ground := Ground.data }, { on := 8, ground := Ground.data }], guard := none }) (v := .string (A ++ B)) rfl (by kernel_rfl) (by kernel_rfl) (by kernel_rfl) (fun _ _ _ h => h) (Or.inl ⟨by rfl, ?_⟩) (by assumption) ?_
        · intro w hSw
          (try dsimp only at hSw)
          go_simp
        try simp only [Act.put, List.setIfInBounds_toArray, List.set_cons_zero, List.set_cons_succ]
        refine wpAnyH_ready (rs := [10]) (by kernel_rfl) (by simp) ?_
        refine AllReadyH.cons (o := { dst := some 2, op := Op.assign (Operand.tmp 19), type := 9, pos := "law.go:130", after := #[{ on := 9, ground := Ground.data }, { on := 2, ground := Ground.chain }, { on := 0, ground := Ground.phase }, { on := 1, ground := Ground.phase }, { on := 2, ground := Ground.phase }, { on := 3, ground := Ground.phase }, { on := 4, ground := Ground.phase }, { on := 5, ground := Ground.phase }, { on := 6, ground := Ground.phase }, { on := 7, ground := Ground.phase }, { on := 8, ground := Ground.phase }, { on := 9, ground := Ground.phase }], guard := none }) rfl (fun K hK => ?_) AllReadyH.nil
        go_simp
        refine hK.out _ _ ?_ (fun hHeld => ?_)
        · exact trivial
        clear hK K
        try simp only [Act.put, List.setIfInBounds_toArray, List.set_cons_zero, List.set_cons_succ]
        refine wpAnyH_done (by kernel_rfl) ?_ _
        have hfin := hdrew.trans ((hbx.mono hdrew.size).trans (hb1.mono (Nat.le_trans hdrew.size hbx.size)))
        clear ih
        go_wp2
        go_ret
        exact ⟨HA.out, hfin⟩
end Go.Proofs.YtalokopnagpgcaaDoor
