import Derived.Test.YtpihehpmejicaaaQA4
import Derived.Deep.CutBlock
import Derived.Deep.DeepCutAuto
import Derived.Deep.RegionHeld
namespace Go.Proofs.Ytpihehpmejicaaa
open Go.RowKit Go.Maps

theorem isK_0 : ¬ isK 0 := fun h => by
  rcases h with h | h
  · omega
  · omega
theorem y21 (i : Nat) : (21 : Nat) ≠ yK i := fun e => by have := yK_ge i; omega
theorem y24 (i : Nat) : (24 : Nat) ≠ yK i := fun e => by have := yK_ge i; omega
theorem belowK {w w' : World} {L : Nat → Nat} (h : Gro (fun _ => 0) L w w' isK) : Below w.heap.size w w' := h.belowB (Nat.le_refl _) (fun _k hk => absurd rfl hk) isK_0
set_option maxRecDepth 20000 in
set_option maxHeartbeats 16000000 in
theorem walkOwn_any (a : Option Addr) (n c : Nat) (w : World) (hs : Texts w w.heap.size a n) (hn : n ≤ 1100000) :
    Calls Try.prog 5 #[.slice a n c] w fun e w' => e = .returned (.bool true) ∧ Below w.heap.size w w' := by
  have h1 := split_any ⟨#[47, 97, 47, 98]⟩ w
  rw [show splitErr (⟨#[47, 97, 47, 98]⟩ : ByteArray).data.toList = 0 by decide, show splitAns (⟨#[47, 97, 47, 98]⟩ : ByteArray).data.toList = [[97], [98]] by decide] at h1
  have HS := Hid.mk hs
  clear hs
  go_enter Try.func5, Try.ntmps5
  go_wp2_with fail
  refine h1.mono ?_
  rintro e w0 ⟨v0, rfl, ht0, hb0⟩
  obtain ⟨g0, c0, e0⟩ : ∃ g0 c0, v0 = .slice (some ⟨g0, 0, none⟩) 2 c0 := by
    rcases ht0.shape with ⟨_, h9⟩ | ⟨g9, c9, e9, _⟩
    · cases h9
    · exact ⟨g9, c9, e9⟩
  subst e0
  have HB0 := Hid.mk hb0
  clear h1 ht0 hb0
  go_upto_block 0 with fail
  go_cut [5] (fun kv wx => ∃ (ds : List (List (List UInt8))) (L : Nat → Nat), ds.length = 2 * n ∧ (∀ d ∈ ds, d.length = 3) ∧ LO wx L 21 yK kv ds ∧ Gro (fun _ => 0) L w wx isK)
  case first =>
    go_wp2_with fail
    go_loopw [5, 6] (fun kv iv wr => ∃ (j : Nat) (ds : List (List (List UInt8))) (L : Nat → Nat), j ≤ 2 * n ∧ iv = .int .i64 (j : Int) ∧ ds.length = j ∧ (∀ d ∈ ds, d.length = 3) ∧ LO wr L 21 yK kv ds ∧ Gro (fun _ => 0) L w wr isK) (fun _ iv _ => 2 * n - (intOf iv).toNat)
    case atStart => exact ⟨0, [], fun _ => 0, Nat.zero_le _, rfl, rfl, (fun d hd => by cases hd), LO.nil _ _ _ _, Gro.below (fun _ _ => rfl) HB0.out _⟩
    case round =>
      clear HB0
      obtain ⟨j, ds, L, hj, rfl, hdl, hd3, hK, hG⟩ := hrel
      obtain ⟨ka, kc, hkv⟩ := hK.form
      rw [hdl] at hkv
      subst hkv
      by_cases hlt : j < 2 * n
      · have hlt' : (j : Int) < 2 * (n : Int) := by omega
        obtain ⟨i, hi⟩ : ∃ i, i = j % n := ⟨_, rfl⟩
        have hin : i < n := by rw [hi]; exact Nat.mod_lt _ (by omega)
        have hmod : Int.tmod (j : Int) (n : Int) = (i : Int) := by rw [hi]; rfl
        have hn0 : ¬ (n : Int) = 0 := by omega
        cases a with
        | none => have := HS.out.1 rfl; omega
        | some x =>
        obtain ⟨b, o, rfl, hbb, s, hcell, hsz⟩ := (HS.out.far (belowK hG)).2 x rfl i hin
        have hc0 : wr.drew.cell? ⟨b, o + i, none⟩ = some (.string s) := hcell
        have hok := tameL_ok s.data.toList
        have HOk : Hid (∀ p ∈ [tameL s.data.toList, [121], tameL s.data.toList], OkP p) := fun p hp => by
          simp at hp
          rcases hp with rfl | rfl | rfl
          · exact hok
          · exact ⟨by decide, by decide, by decide, by decide⟩
          · exact hok
        have HD0 : Hid (Below wr.heap.size wr wr.drew) := (Keeps.drew (fun _ => False) wr).below (fun _ h => h.elim) (Nat.le_refl _)
        have hi0 : (0 : Int) ≤ (i : Int) := by omega
        have hin' : (i : Int) < (n : Int) := by omega
        have H1 := Hid.mk (And.intro hK (And.intro hG (And.intro hd3 hdl)))
        clear hK hG hd3 hdl hok hi hsz hbb
        go_wp2_with fail
        refine wp_region_held_drew (S := (fun w' => w'.cell? ⟨b, o + i, none⟩ = some (.string s))) (by kernel_rfl) (hc0) (fun hHeld => ?_)
        refine wpAnyH_take (i := 0) (oi := { dst := some 39, op := Op.move (Operand.tmp 0), type := 22, pos := "outright.go:465", after := #[], guard := none }) (v := .slice (some ⟨b, o, none⟩) n c) rfl (by kernel_rfl) (by kernel_rfl) (by kernel_rfl) (fun _ _ _ h => h) (Or.inl ⟨by rfl, ?_⟩) (by assumption) ?_
        · intro w hSw
          (try dsimp only at hSw)
          go_simp
        try simp only [Act.put, List.setIfInBounds_toArray, List.set_cons_zero, List.set_cons_succ]
        refine wpAnyH_take (i := 1) (oi := { dst := some 40, op := Op.move (Operand.tmp 7), type := 3, pos := "outright.go:465", after := #[], guard := none }) (v := .int .i64 (i : Int)) rfl (by kernel_rfl) (by kernel_rfl) (by kernel_rfl) (fun _ _ _ h => h) (Or.inl ⟨by rfl, ?_⟩) (by assumption) ?_
        · intro w hSw
          (try dsimp only at hSw)
          go_simp
        try simp only [Act.put, List.setIfInBounds_toArray, List.set_cons_zero, List.set_cons_succ]
        refine wpAnyH_take (i := 2) (oi := { dst := some 41, op := Op.indexAddr 22 (Operand.tmp 39) (Operand.tmp 40), type := 0, pos := "outright.go:465", after := #[{ on := 0, ground := Ground.data }, { on := 1, ground := Ground.data }], guard := none }) (v := .pointer (some ⟨b, o + i, none⟩)) rfl (by kernel_rfl) (by kernel_rfl) (by kernel_rfl) (fun _ _ _ h => h) (Or.inl ⟨by rfl, ?_⟩) (by assumption) ?_
        · intro w hSw
          (try dsimp only at hSw)
          go_simp
        try simp only [Act.put, List.setIfInBounds_toArray, List.set_cons_zero, List.set_cons_succ]
        refine wpAnyH_take (i := 3) (oi := { dst := some 42, op := Op.load 9 (Operand.tmp 41), type := 9, pos := "outright.go:465", after := #[{ on := 2, ground := Ground.data }], guard := none }) (v := .string s) rfl (by kernel_rfl) (by kernel_rfl) (by kernel_rfl) (fun _ _ _ h => h) (Or.inl ⟨by rfl, ?_⟩) (by assumption) ?_
        · intro w hSw
          (try dsimp only at hSw)
          go_simp
        try simp only [Act.put, List.setIfInBounds_toArray, List.set_cons_zero, List.set_cons_succ]
        refine wpAnyH_take (i := 5) (oi := { dst := some 44, op := Op.move (Operand.tmp 0), type := 22, pos := "outright.go:465", after := #[], guard := none }) (v := .slice (some ⟨b, o, none⟩) n c) rfl (by kernel_rfl) (by kernel_rfl) (by kernel_rfl) (fun _ _ _ h => h) (Or.inl ⟨by rfl, ?_⟩) (by assumption) ?_
        · intro w hSw
          (try dsimp only at hSw)
          go_simp
        try simp only [Act.put, List.setIfInBounds_toArray, List.set_cons_zero, List.set_cons_succ]
        refine wpAnyH_take (i := 6) (oi := { dst := some 45, op := Op.move (Operand.tmp 7), type := 3, pos := "outright.go:465", after := #[], guard := none }) (v := .int .i64 (i : Int)) rfl (by kernel_rfl) (by kernel_rfl) (by kernel_rfl) (fun _ _ _ h => h) (Or.inl ⟨by rfl, ?_⟩) (by assumption) ?_
        · intro w hSw
          (try dsimp only at hSw)
          go_simp
        try simp only [Act.put, List.setIfInBounds_toArray, List.set_cons_zero, List.set_cons_succ]
        refine wpAnyH_take (i := 7) (oi := { dst := some 46, op := Op.indexAddr 22 (Operand.tmp 44) (Operand.tmp 45), type := 0, pos := "outright.go:465", after := #[{ on := 5, ground := Ground.data }, { on := 6, ground := Ground.data }], guard := none }) (v := .pointer (some ⟨b, o + i, none⟩)) rfl (by kernel_rfl) (by kernel_rfl) (by kernel_rfl) (fun _ _ _ h => h) (Or.inl ⟨by rfl, ?_⟩) (by assumption) ?_
        · intro w hSw
          (try dsimp only at hSw)
          go_simp
        try simp only [Act.put, List.setIfInBounds_toArray, List.set_cons_zero, List.set_cons_succ]
        refine wpAnyH_take (i := 8) (oi := { dst := some 47, op := Op.load 9 (Operand.tmp 46), type := 9, pos := "outright.go:465", after := #[{ on := 7, ground := Ground.data }], guard := none }) (v := .string s) rfl (by kernel_rfl) (by kernel_rfl) (by kernel_rfl) (fun _ _ _ h => h) (Or.inl ⟨by rfl, ?_⟩) (by assumption) ?_
        · intro w hSw
          (try dsimp only at hSw)
          go_simp
        try simp only [Act.put, List.setIfInBounds_toArray, List.set_cons_zero, List.set_cons_succ]
        refine wpAnyH_ready (rs := [4]) (by kernel_rfl) (by simp) ?_
        refine AllReadyH.cons (o := { dst := some 43, op := Op.call { callee := Callee.value (Operand.func 9), args := #[Operand.tmp 42], argTypes := #[9] }, type := 9, pos := "outright.go:465", after := #[{ on := 3, ground := Ground.data }], guard := none }) rfl (fun K hK => ?_) AllReadyH.nil
        go_simp
        refine (tame_any s wr.drew).mono ?_
        rintro e w1 ⟨rfl, hb1⟩
        have hc1 := cell_later hb1 hc0
        refine hK.out _ _ ?_ (fun hHeld => ?_)
        · exact hc1
        clear hK K
        try simp only [Act.put, List.setIfInBounds_toArray, List.set_cons_zero, List.set_cons_succ]
        refine wpAnyH_ready (rs := [9]) (by kernel_rfl) (by simp) ?_
        refine AllReadyH.cons (o := { dst := some 48, op := Op.call { callee := Callee.value (Operand.func 9), args := #[Operand.tmp 47], argTypes := #[9] }, type := 9, pos := "outright.go:465", after := #[{ on := 8, ground := Ground.data }, { on := 4, ground := Ground.chain }], guard := none }) rfl (fun K hK => ?_) AllReadyH.nil
        go_simp
        refine (tame_any s w1).mono ?_
        rintro e w2 ⟨rfl, hb2⟩
        have hc2 := cell_later hb2 hc1
        have b3 := below_box w2 (.cells #[.string ⟨(tameL s.data.toList).toArray⟩, .string ⟨([121] : List UInt8).toArray⟩, .string ⟨(tameL s.data.toList).toArray⟩] 9)
        have hc3 := cell_later b3 hc2
        refine hK.out _ _ ?_ (fun hHeld => ?_)
        · exact hc2
        clear hK K
        try simp only [Act.put, List.setIfInBounds_toArray, List.set_cons_zero, List.set_cons_succ]
        refine wpAnyH_ready (rs := [10]) (by kernel_rfl) (by simp) ?_
        refine AllReadyH.cons (o := { dst := some 49, op := Op.buildSlice 22 3 #[(0, Operand.tmp 43), (1, Operand.const (Value.string { data := #[121] })), (2, Operand.tmp 48)], type := 22, pos := "outright.go:465", after := #[{ on := 4, ground := Ground.data }, { on := 9, ground := Ground.data }], guard := none }) rfl (fun K hK => ?_) AllReadyH.nil
        go_simp
        refine hK.out _ _ ?_ (fun hHeld => ?_)
        · exact hc3
        clear hK K
        try simp only [Act.put, List.setIfInBounds_toArray, List.set_cons_zero, List.set_cons_succ]
        refine wpAnyH_ready (rs := [11]) (by kernel_rfl) (by simp) ?_
        refine AllReadyH.cons (o := { dst := some 50, op := Op.call { callee := Callee.value (Operand.func 10), args := #[Operand.tmp 49, Operand.const (Value.slice none 0 0)], argTypes := #[22, 30] }, type := 9, pos := "outright.go:465", after := #[{ on := 10, ground := Ground.data }, { on := 9, ground := Ground.chain }], guard := none }) rfl (fun K hK => ?_) AllReadyH.nil
        go_simp
        have kp := path_any (w2.alloc (.cells #[.string ⟨(tameL s.data.toList).toArray⟩, .string ⟨([121] : List UInt8).toArray⟩, .string ⟨(tameL s.data.toList).toArray⟩] 9)) (told3 w2 (tameL s.data.toList) [121] (tameL s.data.toList)) HOk.out (by simp) 0 (sa := none) (sn := 0) ⟨fun _ => rfl, fun y hy => by cases hy⟩ (Nat.zero_le _)
        refine kp.mono ?_
        rintro e w4 ⟨P, rfl, hP, hb4⟩
        have hc4 := cell_later hb4 hc3
        refine hK.out _ _ ?_ (fun hHeld => ?_)
        · exact hc4
        clear hK K
        try simp only [Act.put, List.setIfInBounds_toArray, List.set_cons_zero, List.set_cons_succ]
        refine wpAnyH_ready (rs := [12]) (by kernel_rfl) (by simp) ?_
        refine AllReadyH.cons (o := { dst := some 8, op := Op.assign (Operand.tmp 50), type := 9, pos := "outright.go:465", after := #[{ on := 11, ground := Ground.data }, { on := 11, ground := Ground.chain }, { on := 0, ground := Ground.phase }, { on := 1, ground := Ground.phase }, { on := 2, ground := Ground.phase }, { on := 3, ground := Ground.phase }, { on := 4, ground := Ground.phase }, { on := 5, ground := Ground.phase }, { on := 6, ground := Ground.phase }, { on := 7, ground := Ground.phase }, { on := 8, ground := Ground.phase }, { on := 9, ground := Ground.phase }, { on := 10, ground := Ground.phase }, { on := 11, ground := Ground.phase }], guard := none }) rfl (fun K hK => ?_) AllReadyH.nil
        go_simp
        refine hK.out _ _ ?_ (fun hHeld => ?_)
        · exact hc4
        clear hK K
        try simp only [Act.put, List.setIfInBounds_toArray, List.set_cons_zero, List.set_cons_succ]
        refine wpAnyH_done (by kernel_rfl) ?_ _
        have hPs : ¬ 1023 < P.size := by have := hP.len; simp at this; omega
        obtain ⟨s1, s2⟩ := hP.split HOk.out hPs
        have hB4 : Below wr.heap.size wr w4 := (((HD0.out.trans (hb1.mono (Nat.le_refl _))).trans (hb2.mono hb1.size)).trans (b3.mono (Nat.le_trans hb1.size hb2.size))).trans (hb4.mono (Nat.le_trans hb1.size (Nat.le_trans hb2.size b3.size)))
        have ks := split_any P w4
        rw [s1, s2] at ks
        have HB4 := Hid.mk (And.intro hB4 hc4)
        clear hHeld hPs hP s1 s2 hB4 hb1 hb2 b3 hb4 hc1 hc2 hc3 hc4 hc0 kp HD0
        go_wp2_with fail
        refine ks.mono ?_
        rintro e w5 ⟨v5, rfl, ht5, hb5⟩
        obtain ⟨gl, cl, e5⟩ : ∃ gl cl, v5 = .slice (some ⟨gl, 0, none⟩) 3 cl := by
          rcases ht5.shape with ⟨_, h9⟩ | ⟨g9, c9, e9, _⟩
          · cases h9
          · exact ⟨g9, c9, e9⟩
        subst e5
        have hy00 : w5.cell? ⟨b, o + i, none⟩ = some (.string s) := cell_later hb5 HB4.out.2
        have hy0 : w5.drew.cell? ⟨b, o + i, none⟩ = some (.string s) := hy00
        clear hy00
        have HTo := Hid.mk ht5
        have HB5 := Hid.mk hb5
        have HDr : Hid (Below w5.heap.size w5 w5.drew) := (Keeps.drew (fun _ => False) w5).below (fun _ h => h.elim) (Nat.le_refl _)
        clear ks ht5 hb5 hcell
        go_wp2_with fail
        refine wp_region_held_drew (S := (fun w' => w'.cell? ⟨b, o + i, none⟩ = some (.string s))) (by kernel_rfl) (hy0) (fun hHeld => ?_)
        refine wpAnyH_take (i := 0) (oi := { dst := some 56, op := Op.move (Operand.tmp 4), type := 23, pos := "outright.go:467", after := #[], guard := none }) (v := .int .i64 0) rfl (by kernel_rfl) (by kernel_rfl) (by kernel_rfl) (fun _ _ _ h => h) (Or.inl ⟨by rfl, ?_⟩) (by assumption) ?_
        · intro w hSw
          (try dsimp only at hSw)
          go_simp
        try simp only [Act.put, List.setIfInBounds_toArray, List.set_cons_zero, List.set_cons_succ]
        refine wpAnyH_take (i := 1) (oi := { dst := some 57, op := Op.binOp BinOp.neq 3 (Operand.tmp 56) (Operand.const (Value.int IntKind.i64 0)) 3, type := 4, pos := "outright.go:467", after := #[{ on := 0, ground := Ground.data }], guard := none }) (v := .bool false) rfl (by kernel_rfl) (by kernel_rfl) (by kernel_rfl) (fun _ _ _ h => h) (Or.inl ⟨by rfl, ?_⟩) (by assumption) ?_
        · intro w hSw
          (try dsimp only at hSw)
          go_simp
        try simp only [Act.put, List.setIfInBounds_toArray, List.set_cons_zero, List.set_cons_succ]
        refine wpAnyH_take (i := 2) (oi := { dst := some 58, op := Op.move (Operand.tmp 57), type := 4, pos := "outright.go:467", after := #[{ on := 1, ground := Ground.data }], guard := none }) (v := .bool false) rfl (by kernel_rfl) (by kernel_rfl) (by kernel_rfl) (fun _ _ _ h => h) (Or.inl ⟨by rfl, ?_⟩) (by assumption) ?_
        · intro w hSw
          (try dsimp only at hSw)
          go_simp
        try simp only [Act.put, List.setIfInBounds_toArray, List.set_cons_zero, List.set_cons_succ]
        refine wpAnyH_take (i := 3) (oi := { dst := some 59, op := Op.move (Operand.tmp 3), type := 22, pos := "outright.go:467", after := #[{ on := 2, ground := Ground.guard }], guard := some (2, false) }) (v := .slice (some ⟨gl, 0, none⟩) 3 cl) rfl (by kernel_rfl) (by kernel_rfl) (by kernel_rfl) (fun _ _ _ h => h) (Or.inl ⟨by rfl, ?_⟩) (by assumption) ?_
        · intro w hSw
          (try dsimp only at hSw)
          go_simp
        try simp only [Act.put, List.setIfInBounds_toArray, List.set_cons_zero, List.set_cons_succ]
        refine wpAnyH_take (i := 4) (oi := { dst := some 60, op := Op.move (Operand.tmp 0), type := 22, pos := "outright.go:467", after := #[{ on := 2, ground := Ground.guard }], guard := some (2, false) }) (v := .slice (some ⟨b, o, none⟩) n c) rfl (by kernel_rfl) (by kernel_rfl) (by kernel_rfl) (fun _ _ _ h => h) (Or.inl ⟨by rfl, ?_⟩) (by assumption) ?_
        · intro w hSw
          (try dsimp only at hSw)
          go_simp
        try simp only [Act.put, List.setIfInBounds_toArray, List.set_cons_zero, List.set_cons_succ]
        refine wpAnyH_take (i := 5) (oi := { dst := some 61, op := Op.move (Operand.tmp 7), type := 3, pos := "outright.go:467", after := #[{ on := 2, ground := Ground.guard }], guard := some (2, false) }) (v := .int .i64 (i : Int)) rfl (by kernel_rfl) (by kernel_rfl) (by kernel_rfl) (fun _ _ _ h => h) (Or.inl ⟨by rfl, ?_⟩) (by assumption) ?_
        · intro w hSw
          (try dsimp only at hSw)
          go_simp
        try simp only [Act.put, List.setIfInBounds_toArray, List.set_cons_zero, List.set_cons_succ]
        refine wpAnyH_take (i := 6) (oi := { dst := some 62, op := Op.indexAddr 22 (Operand.tmp 60) (Operand.tmp 61), type := 0, pos := "outright.go:467", after := #[{ on := 4, ground := Ground.data }, { on := 5, ground := Ground.data }, { on := 2, ground := Ground.guard }], guard := some (2, false) }) (v := .pointer (some ⟨b, o + i, none⟩)) rfl (by kernel_rfl) (by kernel_rfl) (by kernel_rfl) (fun _ _ _ h => h) (Or.inl ⟨by rfl, ?_⟩) (by assumption) ?_
        · intro w hSw
          (try dsimp only at hSw)
          go_simp
        try simp only [Act.put, List.setIfInBounds_toArray, List.set_cons_zero, List.set_cons_succ]
        refine wpAnyH_take (i := 7) (oi := { dst := some 63, op := Op.load 9 (Operand.tmp 62), type := 9, pos := "outright.go:467", after := #[{ on := 6, ground := Ground.data }, { on := 2, ground := Ground.guard }], guard := some (2, false) }) (v := .string s) rfl (by kernel_rfl) (by kernel_rfl) (by kernel_rfl) (fun _ _ _ h => h) (Or.inl ⟨by rfl, ?_⟩) (by assumption) ?_
        · intro w hSw
          (try dsimp only at hSw)
          go_simp
        try simp only [Act.put, List.setIfInBounds_toArray, List.set_cons_zero, List.set_cons_succ]
        refine wpAnyH_take (i := 9) (oi := { dst := some 65, op := Op.move (Operand.tmp 0), type := 22, pos := "outright.go:467", after := #[{ on := 2, ground := Ground.guard }], guard := some (2, false) }) (v := .slice (some ⟨b, o, none⟩) n c) rfl (by kernel_rfl) (by kernel_rfl) (by kernel_rfl) (fun _ _ _ h => h) (Or.inl ⟨by rfl, ?_⟩) (by assumption) ?_
        · intro w hSw
          (try dsimp only at hSw)
          go_simp
        try simp only [Act.put, List.setIfInBounds_toArray, List.set_cons_zero, List.set_cons_succ]
        refine wpAnyH_take (i := 10) (oi := { dst := some 66, op := Op.move (Operand.tmp 7), type := 3, pos := "outright.go:467", after := #[{ on := 2, ground := Ground.guard }], guard := some (2, false) }) (v := .int .i64 (i : Int)) rfl (by kernel_rfl) (by kernel_rfl) (by kernel_rfl) (fun _ _ _ h => h) (Or.inl ⟨by rfl, ?_⟩) (by assumption) ?_
        · intro w hSw
          (try dsimp only at hSw)
          go_simp
        try simp only [Act.put, List.setIfInBounds_toArray, List.set_cons_zero, List.set_cons_succ]
        refine wpAnyH_take (i := 11) (oi := { dst := some 67, op := Op.indexAddr 22 (Operand.tmp 65) (Operand.tmp 66), type := 0, pos := "outright.go:467", after := #[{ on := 9, ground := Ground.data }, { on := 10, ground := Ground.data }, { on := 2, ground := Ground.guard }], guard := some (2, false) }) (v := .pointer (some ⟨b, o + i, none⟩)) rfl (by kernel_rfl) (by kernel_rfl) (by kernel_rfl) (fun _ _ _ h => h) (Or.inl ⟨by rfl, ?_⟩) (by assumption) ?_
        · intro w hSw
          (try dsimp only at hSw)
          go_simp
        try simp only [Act.put, List.setIfInBounds_toArray, List.set_cons_zero, List.set_cons_succ]
        refine wpAnyH_take (i := 12) (oi := { dst := some 68, op := Op.load 9 (Operand.tmp 67), type := 9, pos := "outright.go:467", after := #[{ on := 11, ground := Ground.data }, { on := 2, ground := Ground.guard }], guard := some (2, false) }) (v := .string s) rfl (by kernel_rfl) (by kernel_rfl) (by kernel_rfl) (fun _ _ _ h => h) (Or.inl ⟨by rfl, ?_⟩) (by assumption) ?_
        · intro w hSw
          (try dsimp only at hSw)
          go_simp
        try simp only [Act.put, List.setIfInBounds_toArray, List.set_cons_zero, List.set_cons_succ]
        refine wpAnyH_ready (rs := [8]) (by kernel_rfl) (by simp) ?_
        refine AllReadyH.cons (o := { dst := some 64, op := Op.call { callee := Callee.value (Operand.func 9), args := #[Operand.tmp 63], argTypes := #[9] }, type := 9, pos := "outright.go:467", after := #[{ on := 7, ground := Ground.data }, { on := 2, ground := Ground.chain }, { on := 2, ground := Ground.guard }], guard := some (2, false) }) rfl (fun K hK => ?_) AllReadyH.nil
        go_simp
        refine (tame_any s w5.drew).mono ?_
        rintro e w6 ⟨rfl, hb6⟩
        have hy1 := cell_later hb6 hy0
        refine hK.out _ _ ?_ (fun hHeld => ?_)
        · exact hy1
        clear hK K
        try simp only [Act.put, List.setIfInBounds_toArray, List.set_cons_zero, List.set_cons_succ]
        refine wpAnyH_ready (rs := [13]) (by kernel_rfl) (by simp) ?_
        refine AllReadyH.cons (o := { dst := some 69, op := Op.call { callee := Callee.value (Operand.func 9), args := #[Operand.tmp 68], argTypes := #[9] }, type := 9, pos := "outright.go:467", after := #[{ on := 12, ground := Ground.data }, { on := 8, ground := Ground.chain }, { on := 2, ground := Ground.guard }], guard := some (2, false) }) rfl (fun K hK => ?_) AllReadyH.nil
        go_simp
        refine (tame_any s w6).mono ?_
        rintro e w7 ⟨rfl, hb7⟩
        have hy2 := cell_later hb7 hy1
        have b8 := below_box w7 (.cells #[.string ⟨(tameL s.data.toList).toArray⟩, .string ⟨([121] : List UInt8).toArray⟩, .string ⟨(tameL s.data.toList).toArray⟩] 9)
        have hy3 := cell_later b8 hy2
        refine hK.out _ _ ?_ (fun hHeld => ?_)
        · exact hy2
        clear hK K
        try simp only [Act.put, List.setIfInBounds_toArray, List.set_cons_zero, List.set_cons_succ]
        refine wpAnyH_ready (rs := [14]) (by kernel_rfl) (by simp) ?_
        refine AllReadyH.cons (o := { dst := some 70, op := Op.buildSlice 22 3 #[(0, Operand.tmp 64), (1, Operand.const (Value.string { data := #[121] })), (2, Operand.tmp 69)], type := 22, pos := "outright.go:467", after := #[{ on := 8, ground := Ground.data }, { on := 13, ground := Ground.data }, { on := 2, ground := Ground.guard }], guard := some (2, false) }) rfl (fun K hK => ?_) AllReadyH.nil
        go_simp
        refine hK.out _ _ ?_ (fun hHeld => ?_)
        · exact hy3
        clear hK K
        try simp only [Act.put, List.setIfInBounds_toArray, List.set_cons_zero, List.set_cons_succ]
        refine wpAnyH_ready (rs := [15]) (by kernel_rfl) (by simp) ?_
        refine AllReadyH.cons (o := { dst := some 71, op := Op.call { callee := Callee.value (Operand.func 7), args := #[Operand.tmp 59, Operand.tmp 70], argTypes := #[22, 22] }, type := 4, pos := "outright.go:467", after := #[{ on := 3, ground := Ground.data }, { on := 14, ground := Ground.data }, { on := 13, ground := Ground.chain }, { on := 2, ground := Ground.guard }], guard := some (2, false) }) rfl (fun K hK => ?_) AllReadyH.nil
        go_simp
        have hB58 := ((HDr.out.trans (hb6.mono HDr.out.size)).trans (hb7.mono (Nat.le_trans HDr.out.size hb6.size))).trans (b8.mono (Nat.le_trans HDr.out.size (Nat.le_trans hb6.size hb7.size)))
        have ksm := same_any _ (HTo.out.later hB58) (told3 w7 (tameL s.data.toList) [121] (tameL s.data.toList)) (by simp)
        refine ksm.mono ?_
        rintro e w9 ⟨rfl, hb9⟩
        have hy4 := cell_later hb9 hy3
        refine hK.out _ _ ?_ (fun hHeld => ?_)
        · exact hy4
        clear hK K
        try simp only [Act.put, List.setIfInBounds_toArray, List.set_cons_zero, List.set_cons_succ]
        refine wpAnyH_take (i := 16) (oi := { dst := some 72, op := Op.unOp UnOp.not 4 (Operand.tmp 71), type := 4, pos := "outright.go:467", after := #[{ on := 15, ground := Ground.data }, { on := 2, ground := Ground.guard }], guard := some (2, false) }) (v := .bool false) rfl (by kernel_rfl) (by kernel_rfl) (by kernel_rfl) (fun _ _ _ h => h) (Or.inl ⟨by rfl, ?_⟩) (by assumption) ?_
        · intro w hSw
          (try dsimp only at hSw)
          go_simp
        try simp only [Act.put, List.setIfInBounds_toArray, List.set_cons_zero, List.set_cons_succ]
        refine wpAnyH_take (i := 17) (oi := { dst := some 73, op := Op.pick (Operand.tmp 58) (Operand.const (Value.bool true)) (Operand.tmp 72), type := 4, pos := "outright.go:467", after := #[{ on := 2, ground := Ground.data }, { on := 16, ground := Ground.data }], guard := none }) (v := .bool false) rfl (by kernel_rfl) (by kernel_rfl) (by kernel_rfl) (fun _ _ _ h => h) (Or.inl ⟨by rfl, ?_⟩) (by assumption) ?_
        · intro w hSw
          (try dsimp only at hSw)
          go_simp
        try simp only [Act.put, List.setIfInBounds_toArray, List.set_cons_zero, List.set_cons_succ]
        refine wpAnyH_done (by kernel_rfl) ?_ _
        have hB59 : Below w5.heap.size w5 w9 := hB58.trans (hb9.mono hB58.size)
        obtain ⟨hK, hG, hd3, hdl⟩ := H1.out
        have G4 := Gro.below hG.lz HB4.out.1 (fun _ => False)
        obtain ⟨L5, G5, o5⟩ := HTo.out.own HB5.out G4.lz (yK ds.length)
        have G9 := Gro.below G5.lz hB59 (fun _ => False)
        have hK9 := ((hK.gro G4 (fun h => h) (fun _ _ h => h)).gro G5 (fun e => y21 _ e) (fun i hi e => yK_ne (by omega) e)).gro G9 (fun h => h) (fun _ _ h => h)
        obtain ⟨g8, c8, w10, r8, L8, G8, K8⟩ := hK9.push G9.lz y21 (by omega) (u := .slice (some ⟨gl, 0, none⟩) 3 cl) (d := [tameL s.data.toList, [121], tameL s.data.toList]) (o5.gro G9 (fun h => h))
        rw [hdl] at r8 K8
        have hG8 := (((hG.join G4 (Z := isK) (fun _ h => h) (fun _ h => h.elim)).join G5 (Z := isK) (fun _ h => h) (fun y e => by subst e; exact isK_yK _)).join G9 (Z := isK) (fun _ h => h) (fun _ h => h.elim)).join G8 (Z := isK) (fun _ h => h) (fun y e => by subst e; exact isK_of (by omega) (by omega))
        have HR : Hid ((ds ++ [[tameL s.data.toList, [121], tameL s.data.toList]]).length = j + 1 ∧ (∀ d ∈ ds ++ [[tameL s.data.toList, [121], tameL s.data.toList]], d.length = 3) ∧ LO w10 L8 21 yK (.slice (some ⟨g8, 0, none⟩) (j + 1) c8) (ds ++ [[tameL s.data.toList, [121], tameL s.data.toList]]) ∧ Gro (fun _ => 0) L8 w w10 isK) := by
          refine ⟨by simp [hdl], fun d hd => ?_, K8, hG8⟩
          rw [List.mem_append] at hd
          rcases hd with hd | hd
          · exact hd3 d hd
          · simp at hd
            rw [hd]
            rfl
        have HR8 := Hid.mk r8
        clear hHeld hB58 hB59 hK hG hd3 hdl G4 G5 o5 G9 hK9 r8 G8 K8 hG8 hb6 hb7 hb9 hy1 hy2 hy3 hy4 hy0 b8 ksm H1 HB4 HB5 HTo HDr HOk
        go_wp2_with (at_builtin; refine Lib.wpList_append_run _ rfl _ _ _ _ rfl _ _ rfl rfl _ _ HR8.out ?_)
        go_roundw
        case rel => exact ⟨j + 1, _, L8, by omega, by go_num, HR.out⟩
        case measure => simp [intOf]; omega
      · have hlt' : ¬ (j : Int) < 2 * (n : Int) := by omega
        have HE : Hid (ds.length = 2 * n ∧ (∀ d ∈ ds, d.length = 3) ∧ LO wr L 21 yK (.slice ka j kc) ds ∧ Gro (fun _ => 0) L w wr isK) := ⟨by omega, hd3, hK, hG⟩
        clear hdl hd3 hK hG
        go_wp2
        go_meet
        case rel => exact ⟨ds, L, HE.out⟩
  case rest =>
  obtain ⟨ds, L, hdl, hd3, hK, hG⟩ := hcut
  obtain ⟨N, hN⟩ : ∃ N, N = 2 * n := ⟨_, rfl⟩
  rw [← hN] at hdl
  have hNb : N ≤ 2200000 := by omega
  obtain ⟨la, lc, hkv⟩ := hK.form
  rw [hdl] at hkv
  subst hkv
  have H0 := Hid.mk (And.intro hK hG)
  have HD : Hid (ds.length = N ∧ ∀ i (hi : i < ds.length), (ds[i]).length = 3) := ⟨hdl, fun i hi => hd3 _ (List.getElem_mem hi)⟩
  clear hdl hd3 hK hG hN HB0 HS
  go_upto_block 2 with fail
  go_cut [9] (fun _ wx => ∃ L : Nat → Nat, LO wx L 21 yK (.slice la N lc) (mw 3 N) ∧ Gro (fun _ => 0) L w wx isK)
  case first =>
    go_wp2_with fail
    go_loopw [9] (fun iv wr => ∃ (k : Nat) (L : Nat → Nat), k ≤ N ∧ iv = .int .i64 (k : Int) ∧ LO wr L 21 yK (.slice la N lc) (mw 3 k ++ ds.drop k) ∧ Gro (fun _ => 0) L w wr isK) (fun iv _ => N - (intOf iv).toNat)
    case atStart => exact ⟨0, L, Nat.zero_le _, rfl, by simpa [mw] using H0.out.1, H0.out.2⟩
    case round =>
      clear H0
      obtain ⟨k, L0, hk, rfl, hK, hG⟩ := hrel
      by_cases hlt : k < N
      · have hkd : k < ds.length := by have := HD.out.1; omega
        rw [List.drop_eq_getElem_cons hkd] at hK
        obtain ⟨d, hd⟩ : ∃ d, d = ds[k] := ⟨_, rfl⟩
        have hd3 : d.length = 3 := by rw [hd]; exact HD.out.2 k hkd
        rw [← hd] at hK
        have hlt' : (k : Int) < (N : Int) := by omega
        have H1 := Hid.mk (And.intro hK hG)
        clear hK hG hd hkd
        go_wp2
        rename World => wo
        go_loopw [10] (fun jv wr => ∃ (t : Nat) (L : Nat → Nat), t ≤ 3 ∧ jv = .int .i64 (t : Int) ∧ LO wr L 21 yK (.slice la N lc) (mw 3 k ++ (ww k t ++ d.drop t) :: ds.drop (k + 1)) ∧ Gro (fun _ => 0) L w wr isK) (fun jv _ => 3 - (intOf jv).toNat)
        case atStart => exact ⟨0, L0, Nat.zero_le _, rfl, by simpa [ww] using H1.out.1, H1.out.2⟩
        case round =>
          clear H1
          obtain ⟨t, L, ht, rfl, hK, hG⟩ := hrel
          have hld : (ww k t ++ d.drop t).length = 3 := by rw [List.length_append, ww_len, List.length_drop]; omega
          by_cases hlt2 : t < 3
          · obtain ⟨gL, cL, u, e1, e2, e3⟩ := hK.mid
            obtain ⟨g, cg, hu, hr, _, hcg⟩ := e3.row (by omega)
            rw [hld] at hu hcg
            subst hu
            rw [mw_len] at e2
            have eL : la = some ⟨gL, 0, none⟩ := by injection e1
            subst eL
            have hc0 : wr.drew.cell? ⟨gL, k, none⟩ = some (.slice (some ⟨g, 0, none⟩) 3 cg) := e2
            have HDr : Hid (Below wr.heap.size wr wr.drew) := (Keeps.drew (fun _ => False) wr).below (fun _ h => h.elim) (Nat.le_refl _)
            have HPut : Hid (∀ w5, Below wr.heap.size wr w5 → w5.cell? ⟨gL, k, none⟩ = some (.slice (some ⟨g, 0, none⟩) 3 cg) ∧ (∃ y0, w5.cell? ⟨g, t, none⟩ = some (.string y0)) ∧ w5.frozen? ⟨g, t, none⟩ = false ∧ (w5.setCell ⟨g, t, none⟩ (.string ⟨(wd k t).toArray⟩)).cell? ⟨gL, k, none⟩ = some (.slice (some ⟨g, 0, none⟩) 3 cg) ∧ LO (w5.setCell ⟨g, t, none⟩ (.string ⟨(wd k t).toArray⟩)) L 21 yK (.slice (some ⟨gL, 0, none⟩) N lc) (mw 3 k ++ (ww k (t + 1) ++ d.drop (t + 1)) :: ds.drop (k + 1)) ∧ Gro (fun _ => 0) L w (w5.setCell ⟨g, t, none⟩ (.string ⟨(wd k t).toArray⟩)) isK) := fun w5 hb => by
              have GB := Gro.below hG.lz hb (fun _ => False)
              have f2 := cell_later hb e2
              have hp := (hK.gro GB (fun h => h) (fun _ _ h => h)).putW GB.lz (y21 _) (fun i hi e => yK_ne hi e) (j := t) (by omega) (wd k t) (gL := gL) (g := g) (c := cg) rfl (by rw [mw_len, hld]; exact f2)
              rw [mw_len, hld, ww_fill (by omega)] at hp
              obtain ⟨p1, p2, p3, p4, p5⟩ := hp
              exact ⟨f2, p1, p2, p3, p5, (hG.join GB (Z := isK) (fun _ h => h) (fun _ h => h.elim)).join p4 (Z := isK) (fun _ h => h) (fun y e => by subst e; exact isK_yK _)⟩
            have hlt2' : (t : Int) < 3 := by omega
            have ht0 : (0 : Int) ≤ (t : Int) := by omega
            have hk0 : (0 : Int) ≤ (k : Int) := by omega
            have hcgm : cg ≤ 9223372036854775807 := OR.cap (by have := e3; rw [hld] at this; exact this)
            clear hK hG hld e1 e2 e3 hr ht
            go_wp2_with fail
            refine wp_region_held_drew (S := (fun w' => w'.cell? ⟨gL, k, none⟩ = some (.slice (some ⟨g, 0, none⟩) 3 cg))) (by kernel_rfl) (hc0) (fun hHeld => ?_)
            refine wpAnyH_take (i := 0) (oi := { dst := some 88, op := Op.move (Operand.tmp 5), type := 34, pos := "outright.go:474", after := #[], guard := none }) (v := .slice (some ⟨gL, 0, none⟩) N lc) rfl (by kernel_rfl) (by kernel_rfl) (by kernel_rfl) (fun _ _ _ h => h) (Or.inl ⟨by rfl, ?_⟩) (by assumption) ?_
            · intro w hSw
              (try dsimp only at hSw)
              go_simp
            try simp only [Act.put, List.setIfInBounds_toArray, List.set_cons_zero, List.set_cons_succ]
            refine wpAnyH_take (i := 1) (oi := { dst := some 89, op := Op.move (Operand.tmp 9), type := 3, pos := "outright.go:474", after := #[], guard := none }) (v := .int .i64 (k : Int)) rfl (by kernel_rfl) (by kernel_rfl) (by kernel_rfl) (fun _ _ _ h => h) (Or.inl ⟨by rfl, ?_⟩) (by assumption) ?_
            · intro w hSw
              (try dsimp only at hSw)
              go_simp
            try simp only [Act.put, List.setIfInBounds_toArray, List.set_cons_zero, List.set_cons_succ]
            refine wpAnyH_take (i := 2) (oi := { dst := some 90, op := Op.indexAddr 34 (Operand.tmp 88) (Operand.tmp 89), type := 0, pos := "outright.go:474", after := #[{ on := 0, ground := Ground.data }, { on := 1, ground := Ground.data }], guard := none }) (v := .pointer (some ⟨gL, k, none⟩)) rfl (by kernel_rfl) (by kernel_rfl) (by kernel_rfl) (fun _ _ _ h => h) (Or.inl ⟨by rfl, ?_⟩) (by assumption) ?_
            · intro w hSw
              (try dsimp only at hSw)
              go_simp
            try simp only [Act.put, List.setIfInBounds_toArray, List.set_cons_zero, List.set_cons_succ]
            refine wpAnyH_take (i := 3) (oi := { dst := some 91, op := Op.load 22 (Operand.tmp 90), type := 22, pos := "outright.go:474", after := #[{ on := 2, ground := Ground.data }], guard := none }) (v := .slice (some ⟨g, 0, none⟩) 3 cg) rfl (by kernel_rfl) (by kernel_rfl) (by kernel_rfl) (fun _ _ _ h => h) (Or.inl ⟨by rfl, ?_⟩) (by assumption) ?_
            · intro w hSw
              (try dsimp only at hSw)
              go_simp
            try simp only [Act.put, List.setIfInBounds_toArray, List.set_cons_zero, List.set_cons_succ]
            refine wpAnyH_take (i := 4) (oi := { dst := some 92, op := Op.move (Operand.tmp 10), type := 3, pos := "outright.go:474", after := #[], guard := none }) (v := .int .i64 (t : Int)) rfl (by kernel_rfl) (by kernel_rfl) (by kernel_rfl) (fun _ _ _ h => h) (Or.inl ⟨by rfl, ?_⟩) (by assumption) ?_
            · intro w hSw
              (try dsimp only at hSw)
              go_simp
            try simp only [Act.put, List.setIfInBounds_toArray, List.set_cons_zero, List.set_cons_succ]
            refine wpAnyH_take (i := 5) (oi := { dst := some 93, op := Op.move (Operand.tmp 9), type := 3, pos := "outright.go:474", after := #[], guard := none }) (v := .int .i64 (k : Int)) rfl (by kernel_rfl) (by kernel_rfl) (by kernel_rfl) (fun _ _ _ h => h) (Or.inl ⟨by rfl, ?_⟩) (by assumption) ?_
            · intro w hSw
              (try dsimp only at hSw)
              go_simp
            try simp only [Act.put, List.setIfInBounds_toArray, List.set_cons_zero, List.set_cons_succ]
            refine wpAnyH_take (i := 6) (oi := { dst := some 94, op := Op.move (Operand.tmp 10), type := 3, pos := "outright.go:474", after := #[], guard := none }) (v := .int .i64 (t : Int)) rfl (by kernel_rfl) (by kernel_rfl) (by kernel_rfl) (fun _ _ _ h => h) (Or.inl ⟨by rfl, ?_⟩) (by assumption) ?_
            · intro w hSw
              (try dsimp only at hSw)
              go_simp
            try simp only [Act.put, List.setIfInBounds_toArray, List.set_cons_zero, List.set_cons_succ]
            refine wpAnyH_ready (rs := [7]) (by kernel_rfl) (by simp) ?_
            refine AllReadyH.cons (o := { dst := some 95, op := Op.call { callee := Callee.value (Operand.func 11), args := #[Operand.tmp 93, Operand.tmp 94], argTypes := #[3, 3] }, type := 9, pos := "outright.go:474", after := #[{ on := 5, ground := Ground.data }, { on := 6, ground := Ground.data }], guard := none }) rfl (fun K hK => ?_) AllReadyH.nil
            go_simp
            refine (word_any k t (by omega) (by omega) wr.drew).mono ?_
            rintro e w5 ⟨rfl, hb5⟩
            obtain ⟨e2, ⟨y0, e3⟩, e4, hq, HR⟩ := HPut.out w5 (HDr.out.trans (hb5.mono (Nat.le_refl _)))
            have HRR := Hid.mk HR
            clear HR
            refine hK.out _ _ ?_ (fun hHeld => ?_)
            · exact e2
            clear hK K
            try simp only [Act.put, List.setIfInBounds_toArray, List.set_cons_zero, List.set_cons_succ]
            refine wpAnyH_take (i := 8) (oi := { dst := some 96, op := Op.indexAddr 22 (Operand.tmp 91) (Operand.tmp 92), type := 0, pos := "outright.go:474", after := #[{ on := 3, ground := Ground.data }, { on := 4, ground := Ground.data }, { on := 0, ground := Ground.phase }, { on := 1, ground := Ground.phase }, { on := 2, ground := Ground.phase }, { on := 3, ground := Ground.phase }, { on := 4, ground := Ground.phase }, { on := 5, ground := Ground.phase }, { on := 6, ground := Ground.phase }, { on := 7, ground := Ground.phase }], guard := none }) (v := .pointer (some ⟨g, t, none⟩)) rfl (by kernel_rfl) (by kernel_rfl) (by kernel_rfl) (fun _ _ _ h => h) (Or.inl ⟨by rfl, ?_⟩) (by assumption) ?_
            · intro w hSw
              (try dsimp only at hSw)
              go_simp
            try simp only [Act.put, List.setIfInBounds_toArray, List.set_cons_zero, List.set_cons_succ]
            refine wpAnyH_ready (rs := [9]) (by kernel_rfl) (by simp) ?_
            refine AllReadyH.cons (o := { dst := none, op := Op.store 9 (Operand.tmp 96) (Operand.tmp 95), type := 0, pos := "outright.go:474", after := #[{ on := 8, ground := Ground.data }, { on := 7, ground := Ground.data }, { on := 7, ground := Ground.chain }, { on := 0, ground := Ground.phase }, { on := 1, ground := Ground.phase }, { on := 2, ground := Ground.phase }, { on := 3, ground := Ground.phase }, { on := 4, ground := Ground.phase }, { on := 5, ground := Ground.phase }, { on := 6, ground := Ground.phase }, { on := 7, ground := Ground.phase }], guard := none }) rfl (fun K hK => ?_) AllReadyH.nil
            go_simp
            refine hK.out _ _ ?_ (fun hHeld => ?_)
            · exact hq
            clear hK K
            try simp only [Act.put, List.setIfInBounds_toArray, List.set_cons_zero, List.set_cons_succ]
            refine wpAnyH_done (by kernel_rfl) ?_ _
            clear hHeld hb5 e2 e3 e4 hq hc0 HDr HPut
            go_wp2
            go_roundw
            case rel => exact ⟨t + 1, L, by omega, by go_num, HRR.out⟩
            case measure => simp [intOf]; omega
          · obtain rfl : t = 3 := by omega
            have hlt2' : ¬ (3 : Int) < 3 := by omega
            have hfin : LO wr L 21 yK (.slice la N lc) (mw 3 (k + 1) ++ ds.drop (k + 1)) := by
              rw [List.drop_of_length_le (by omega), List.append_nil] at hK
              rw [mw_succ, List.append_assoc]
              exact hK
            have HR := Hid.mk (And.intro hfin hG)
            clear hK hG hld hfin hlt2 ht
            go_wp2
            go_roundw
            case rel => exact ⟨k + 1, L, by omega, by go_num, HR.out⟩
            case measure => simp [intOf]; omega
      · obtain rfl : k = N := by omega
        have hlt' : ¬ (k : Int) < (k : Int) := by omega
        rw [List.drop_of_length_le (by have := HD.out.1; omega), List.append_nil] at hK
        have HE := Hid.mk (And.intro hK hG)
        clear hK hG
        go_wp2
        go_meet
        case rel => exact ⟨L0, HE.out⟩
  case rest =>
  obtain ⟨L, hK, hG⟩ := hcut
  have H2 := Hid.mk (And.intro hK hG)
  clear hK hG H0 HD
  go_upto_block 6 with fail
  go_cut [11] (fun mv wx => ∃ L : Nat → Nat, LO wx L 24 yK mv (mw 70 N) ∧ LO wx L 21 yK (.slice la N lc) (mw 3 N) ∧ Gro (fun _ => 0) L w wx isK)
  case first =>
    go_wp2_with fail
    go_loopw [11, 12] (fun u iv wr => ∃ (q : Nat) (L : Nat → Nat), q ≤ N ∧ iv = .int .i64 (q : Int) ∧ LO wr L 24 yK u (mw 70 q) ∧ LO wr L 21 yK (.slice la N lc) (mw 3 N) ∧ Gro (fun _ => 0) L w wr isK) (fun _ iv _ => N - (intOf iv).toNat)
    case atStart => exact ⟨0, L, Nat.zero_le _, rfl, by simpa [mw] using LO.nil _ L 24 yK, H2.out⟩
    case round =>
      clear H2
      obtain ⟨q, L, hq, rfl, hX, hK, hG⟩ := hrel
      obtain ⟨xa, xc, hxv⟩ := hX.form
      rw [mw_len] at hxv
      subst hxv
      by_cases hlt : q < N
      · obtain ⟨Bb, hBb⟩ := mw_split (z := 3) hlt
        rw [hBb] at hK
        obtain ⟨gL, cL, ui, e1, e2, e3⟩ := hK.mid
        obtain ⟨ia, ic, hui⟩ := e3.form
        rw [ww_len] at hui
        subst hui
        rw [mw_len] at e2 e3
        rw [ww_len] at e3
        have eL : la = some ⟨gL, 0, none⟩ := by injection e1
        subst eL
        have hlt' : (q : Int) < (N : Int) := by omega
        have hq0 : (0 : Int) ≤ (q : Int) := by omega
        have H3 : Hid (OR wr L (yK q) 9 (.slice ia 3 ic) (3 + 0) (strs (ww q (3 + 0))) ∧ LO wr L 24 yK (.slice xa q xc) (mw 70 q) ∧ LO wr L 21 yK (.slice (some ⟨gL, 0, none⟩) N lc) (mw 3 q ++ ww q 3 :: Bb) ∧ Gro (fun _ => 0) L w wr isK) := ⟨e3, hX, hK, hG⟩
        have HBb := Hid.mk hBb
        clear hX hK hG e1 e3 hBb hq
        go_wp2
        rename World => wo
        go_loopw [13, 14] (fun gv kv wr => ∃ (t : Nat) (L : Nat → Nat), t ≤ 67 ∧ kv = .int .i64 ((3 + t : Nat) : Int) ∧ OR wr L (yK q) 9 gv (3 + t) (strs (ww q (3 + t))) ∧ LO wr L 24 yK (.slice xa q xc) (mw 70 q) ∧ LO wr L 21 yK (.slice (some ⟨gL, 0, none⟩) N lc) (mw 3 q ++ ww q 3 :: Bb) ∧ Gro (fun _ => 0) L w wr isK) (fun _ kv _ => 70 - (intOf kv).toNat)
        case atStart => exact ⟨0, L, by omega, rfl, H3.out⟩
        case round =>
          clear H3 e2
          obtain ⟨t, L, ht, rfl, ho, hX, hK, hG⟩ := hrel
          obtain ⟨kk, hkk⟩ : ∃ kk, kk = 3 + t := ⟨_, rfl⟩
          rw [← hkk] at ho ⊢
          obtain ⟨ga, gc, hgv⟩ := ho.form
          subst hgv
          by_cases hlt2 : kk < 70
          · have hlt2' : (kk : Int) < 70 := by omega
            have kw := word_any q kk (by omega) (by omega) wr
            have H4 := Hid.mk (And.intro ho (And.intro hX (And.intro hK hG)))
            have HKK := Hid.mk hkk
            clear ho hX hK hG hkk
            go_wp2_with fail
            refine kw.mono ?_
            rintro e w5 ⟨rfl, hb5⟩
            obtain ⟨ho, hX, hK, hG⟩ := H4.out
            have GB := Gro.below hG.lz hb5 (fun _ => False)
            have GE := Gro.boxed GB.lz (.cells #[.string ⟨(wd q kk).toArray⟩] 9) (fun _ => False)
            have GG := GB.join GE (Z := fun _ => False) (fun _ h => h) (fun _ h => h)
            obtain ⟨g7, c7, w7, r7, L7, G7, o7, K7⟩ := (hK.gro GG (fun h => h) (fun _ _ h => h)).app GG.lz (y21 _) (fun i hi e => yK_ne hi e) (n' := kk) (by rw [mw_len]; exact ho.gro GG (fun h => h)) (by rw [ww_len]; have := HKK.out; omega) ⟨w5.heap.size, 0, none⟩ 1 1 [wd q kk] rfl (World.news_of_block (cs := #[.string ⟨(wd q kk).toArray⟩]) (t := 9) (fr := (0, 0)) (heap_alloc_new w5 _)) (by omega) (by omega)
            rw [mw_len] at G7 o7
            rw [← ww_succ] at o7
            have G57 := GG.join G7 (Z := fun y => y = yK q) (fun _ h => h.elim) (fun _ h => h)
            have X7 := hX.gro G57 (fun e => y24 _ e) (fun i hi e => by
              rw [mw_len] at hi
              exact yK_ne (by omega) e)
            have Q7 := hG.join G57 (Z := isK) (fun _ h => h) (fun y e => by subst e; exact isK_yK _)
            have HR := Hid.mk (And.intro o7 (And.intro X7 (And.intro K7 Q7)))
            have HR7 := Hid.mk r7
            clear kw hb5 ho hX hK hG GB GE GG r7 G7 o7 K7 G57 X7 Q7 H4
            generalize wd q kk = x at *
            go_wp2_with (at_builtin; refine Lib.wpList_append_run _ rfl _ _ _ _ rfl _ _ rfl rfl _ _ HR7.out ?_)
            go_roundw
            case rel => exact ⟨t + 1, L7, by have := HKK.out; omega, by rw [show 3 + (t + 1) = kk + 1 by have := HKK.out; omega]; go_num, by rw [show 3 + (t + 1) = kk + 1 by have := HKK.out; omega]; exact HR.out⟩
            case measure => simp [intOf]; omega
          · obtain rfl : kk = 70 := by omega
            have hlt2' : ¬ (70 : Int) < 70 := by omega
            obtain ⟨g8, c8, w8, r8, L8, G8, X8⟩ := hX.push hG.lz y24 (by rw [mw_len]; omega) (u := .slice ga 70 gc) (d := ww q 70) (by rw [mw_len, ww_len]; exact ho)
            rw [mw_len] at r8 X8
            rw [← mw_succ] at X8
            have K9 : LO w8 L8 21 yK (.slice (some ⟨gL, 0, none⟩) N lc) (mw 3 N) := by
              rw [HBb.out]
              exact hK.gro G8 (fun e => by omega) (fun i _ e => y24 _ e.symm)
            have Q9 := hG.join G8 (Z := isK) (fun _ h => h) (fun y e => by subst e; exact isK_of (by omega) (by omega))
            have HR := Hid.mk (And.intro X8 (And.intro K9 Q9))
            have HR8 := Hid.mk r8
            clear ho hX hK hG r8 G8 X8 K9 Q9 hkk ht HBb
            go_wp2_with (at_builtin; refine Lib.wpList_append_run _ rfl _ _ _ _ rfl _ _ rfl rfl _ _ HR8.out ?_)
            go_roundw
            case rel => exact ⟨q + 1, L8, by omega, by go_num, HR.out⟩
            case measure => simp [intOf]; omega
      · obtain rfl : q = N := by omega
        have hlt' : ¬ (q : Int) < (q : Int) := by omega
        have HE := Hid.mk (And.intro hX (And.intro hK hG))
        clear hX hK hG
        go_wp2
        go_meet
        case rel => exact ⟨L, HE.out⟩
  case rest =>
  obtain ⟨L, hX0, hK0, hG0⟩ := hcut
  obtain ⟨xa, xc, hxv⟩ := hX0.form
  rw [mw_len] at hxv
  subst hxv
  obtain ⟨W6, hW6⟩ : ∃ W6, W6 = wc := ⟨_, rfl⟩
  rw [← hW6] at hX0 hK0 hG0 ⊢
  have H5 := Hid.mk (And.intro hX0 (And.intro hK0 hG0))
  clear hX0 hK0 hG0 H2 hW6
  go_wp2_with fail
  go_loopw [15] (fun iv wr => ∃ t : Nat, t ≤ N ∧ iv = .int .i64 (t : Int) ∧ Below W6.heap.size W6 wr) (fun iv _ => N - (intOf iv).toNat)
  case atStart => exact ⟨0, Nat.zero_le _, rfl, Below.refl _ _⟩
  case round =>
    obtain ⟨t, ht, rfl, hb⟩ := hrel
    by_cases hlt : t < N
    · have hlt' : (t : Int) < (N : Int) := by omega
      have ht0 : (0 : Int) ≤ (t : Int) := by omega
      have HB0 := Hid.mk hb
      clear hb
      go_wp2
      rename World => wo
      go_loopw [16] (fun kv wr => ∃ k : Nat, k ≤ 70 ∧ kv = .int .i64 (k : Int) ∧ Below W6.heap.size W6 wr) (fun kv _ => 70 - (intOf kv).toNat)
      case atStart => exact ⟨0, Nat.zero_le _, rfl, HB0.out⟩
      case round =>
        clear HB0
        obtain ⟨k, hk, rfl, hb⟩ := hrel
        have HB := Hid.mk hb
        by_cases hlt2 : k < 70
        · have hlt2' : (k : Int) < 70 := by omega
          have hk0 : (0 : Int) ≤ (k : Int) := by omega
          obtain ⟨hX0, hK0, hG0⟩ := H5.out
          have GB := Gro.below hG0.lz hb (fun _ => False)
          have hX := hX0.gro GB (fun h => h) (fun _ _ h => h)
          have hK := hK0.gro GB (fun h => h) (fun _ _ h => h)
          obtain ⟨gG, cG, ug, eG, fG, oG⟩ := hX.at (i := t) (by rw [mw_len]; exact hlt)
          rw [mw_get, ww_len] at oG
          obtain ⟨gb, cb, eb, hcb, tb⟩ := oG.text (k := k) (x := wd t k) (by rw [List.getElem?_eq_getElem (by rw [ww_len]; exact hlt2), ww_get])
          subst eb
          have hcbm := oG.cap
          have ed : xa = some ⟨gG, 0, none⟩ := by injection eG
          subst ed
          have HDr : Hid (Below wr.heap.size wr wr.drew) := (Keeps.drew (fun _ => False) wr).below (fun _ h => h.elim) (Nat.le_refl _)
          by_cases hk3 : k < 3
          · have hk3' : (k : Int) < 3 := by omega
            obtain ⟨gL, cL, ui, eL, fL, oL⟩ := hK.at (i := t) (by rw [mw_len]; exact hlt)
            rw [mw_get, ww_len] at oL
            obtain ⟨gk, ck, ek, hck, tk⟩ := oL.text (k := k) (x := wd t k) (by rw [List.getElem?_eq_getElem (by rw [ww_len]; exact hk3), ww_get])
            subst ek
            have hckm := oL.cap
            have ea : la = some ⟨gL, 0, none⟩ := by injection eL
            subst ea
            have HC : Hid (∀ w', Below wr.heap.size wr w' → w'.cell? ⟨gG, t, none⟩ = some (.slice (some ⟨gb, 0, none⟩) 70 cb) ∧ w'.cell? ⟨gb, k, none⟩ = some (.string ⟨(wd t k).toArray⟩) ∧ w'.cell? ⟨gL, t, none⟩ = some (.slice (some ⟨gk, 0, none⟩) 3 ck) ∧ w'.cell? ⟨gk, k, none⟩ = some (.string ⟨(wd t k).toArray⟩)) := fun w' hw => ⟨cell_later hw fG, cell_later hw tb, cell_later hw fL, cell_later hw tk⟩
            clear hb hX hK hX0 hK0 hG0 GB oL oG eL eG fL fG tb tk hk3
            go_wp2_with fail
            refine wp_region_held_drew (S := (fun w' => w'.cell? ⟨gG, t, none⟩ = some (.slice (some ⟨gb, 0, none⟩) 70 cb) ∧ w'.cell? ⟨gb, k, none⟩ = some (.string ⟨(wd t k).toArray⟩) ∧ w'.cell? ⟨gL, t, none⟩ = some (.slice (some ⟨gk, 0, none⟩) 3 ck) ∧ w'.cell? ⟨gk, k, none⟩ = some (.string ⟨(wd t k).toArray⟩))) (by kernel_rfl) (HC.out _ HDr.out) (fun hHeld => ?_)
            refine wpAnyH_take (i := 0) (oi := { dst := some 131, op := Op.move (Operand.tmp 11), type := 34, pos := "outright.go:487", after := #[], guard := none }) (v := .slice (some ⟨gG, 0, none⟩) N xc) rfl (by kernel_rfl) (by kernel_rfl) (by kernel_rfl) (fun _ _ _ h => h) (Or.inl ⟨by rfl, ?_⟩) (by assumption) ?_
            · intro w hSw
              (try dsimp only at hSw)
              go_simp
            try simp only [Act.put, List.setIfInBounds_toArray, List.set_cons_zero, List.set_cons_succ]
            refine wpAnyH_take (i := 1) (oi := { dst := some 132, op := Op.move (Operand.tmp 15), type := 3, pos := "outright.go:487", after := #[], guard := none }) (v := .int .i64 (t : Int)) rfl (by kernel_rfl) (by kernel_rfl) (by kernel_rfl) (fun _ _ _ h => h) (Or.inl ⟨by rfl, ?_⟩) (by assumption) ?_
            · intro w hSw
              (try dsimp only at hSw)
              go_simp
            try simp only [Act.put, List.setIfInBounds_toArray, List.set_cons_zero, List.set_cons_succ]
            refine wpAnyH_take (i := 2) (oi := { dst := some 133, op := Op.indexAddr 34 (Operand.tmp 131) (Operand.tmp 132), type := 0, pos := "outright.go:487", after := #[{ on := 0, ground := Ground.data }, { on := 1, ground := Ground.data }], guard := none }) (v := .pointer (some ⟨gG, t, none⟩)) rfl (by kernel_rfl) (by kernel_rfl) (by kernel_rfl) (fun _ _ _ h => h) (Or.inl ⟨by rfl, ?_⟩) (by assumption) ?_
            · intro w hSw
              (try dsimp only at hSw)
              go_simp
            try simp only [Act.put, List.setIfInBounds_toArray, List.set_cons_zero, List.set_cons_succ]
            refine wpAnyH_take (i := 3) (oi := { dst := some 134, op := Op.load 22 (Operand.tmp 133), type := 22, pos := "outright.go:487", after := #[{ on := 2, ground := Ground.data }], guard := none }) (v := .slice (some ⟨gb, 0, none⟩) 70 cb) rfl (by kernel_rfl) (by kernel_rfl) (by kernel_rfl) (fun _ _ _ h => h) (Or.inl ⟨by rfl, ?_⟩) (by assumption) ?_
            · intro w hSw
              (try dsimp only at hSw)
              go_simp
            try simp only [Act.put, List.setIfInBounds_toArray, List.set_cons_zero, List.set_cons_succ]
            refine wpAnyH_take (i := 4) (oi := { dst := some 135, op := Op.move (Operand.tmp 16), type := 3, pos := "outright.go:487", after := #[], guard := none }) (v := .int .i64 (k : Int)) rfl (by kernel_rfl) (by kernel_rfl) (by kernel_rfl) (fun _ _ _ h => h) (Or.inl ⟨by rfl, ?_⟩) (by assumption) ?_
            · intro w hSw
              (try dsimp only at hSw)
              go_simp
            try simp only [Act.put, List.setIfInBounds_toArray, List.set_cons_zero, List.set_cons_succ]
            refine wpAnyH_take (i := 5) (oi := { dst := some 136, op := Op.indexAddr 22 (Operand.tmp 134) (Operand.tmp 135), type := 0, pos := "outright.go:487", after := #[{ on := 3, ground := Ground.data }, { on := 4, ground := Ground.data }], guard := none }) (v := .pointer (some ⟨gb, k, none⟩)) rfl (by kernel_rfl) (by kernel_rfl) (by kernel_rfl) (fun _ _ _ h => h) (Or.inl ⟨by rfl, ?_⟩) (by assumption) ?_
            · intro w hSw
              (try dsimp only at hSw)
              go_simp
            try simp only [Act.put, List.setIfInBounds_toArray, List.set_cons_zero, List.set_cons_succ]
            refine wpAnyH_take (i := 6) (oi := { dst := some 137, op := Op.load 9 (Operand.tmp 136), type := 9, pos := "outright.go:487", after := #[{ on := 5, ground := Ground.data }], guard := none }) (v := .string ⟨(wd t k).toArray⟩) rfl (by kernel_rfl) (by kernel_rfl) (by kernel_rfl) (fun _ _ _ h => h) (Or.inl ⟨by rfl, ?_⟩) (by assumption) ?_
            · intro w hSw
              (try dsimp only at hSw)
              go_simp
            try simp only [Act.put, List.setIfInBounds_toArray, List.set_cons_zero, List.set_cons_succ]
            refine wpAnyH_take (i := 7) (oi := { dst := some 138, op := Op.move (Operand.tmp 15), type := 3, pos := "outright.go:487", after := #[], guard := none }) (v := .int .i64 (t : Int)) rfl (by kernel_rfl) (by kernel_rfl) (by kernel_rfl) (fun _ _ _ h => h) (Or.inl ⟨by rfl, ?_⟩) (by assumption) ?_
            · intro w hSw
              (try dsimp only at hSw)
              go_simp
            try simp only [Act.put, List.setIfInBounds_toArray, List.set_cons_zero, List.set_cons_succ]
            refine wpAnyH_take (i := 8) (oi := { dst := some 139, op := Op.move (Operand.tmp 16), type := 3, pos := "outright.go:487", after := #[], guard := none }) (v := .int .i64 (k : Int)) rfl (by kernel_rfl) (by kernel_rfl) (by kernel_rfl) (fun _ _ _ h => h) (Or.inl ⟨by rfl, ?_⟩) (by assumption) ?_
            · intro w hSw
              (try dsimp only at hSw)
              go_simp
            try simp only [Act.put, List.setIfInBounds_toArray, List.set_cons_zero, List.set_cons_succ]
            refine wpAnyH_ready (rs := [9]) (by kernel_rfl) (by simp) ?_
            refine AllReadyH.cons (o := { dst := some 140, op := Op.call { callee := Callee.value (Operand.func 11), args := #[Operand.tmp 138, Operand.tmp 139], argTypes := #[3, 3] }, type := 9, pos := "outright.go:487", after := #[{ on := 7, ground := Ground.data }, { on := 8, ground := Ground.data }], guard := none }) rfl (fun K hK => ?_) AllReadyH.nil
            go_simp
            refine (word_any t k (by omega) (by omega) wr.drew).mono ?_
            rintro e w5 ⟨rfl, hb5⟩
            have hB5 : Below wr.heap.size wr w5 := HDr.out.trans (hb5.mono (Nat.le_refl _))
            refine hK.out _ _ ?_ (fun hHeld => ?_)
            · exact HC.out _ hB5
            clear hK K
            try simp only [Act.put, List.setIfInBounds_toArray, List.set_cons_zero, List.set_cons_succ]
            refine wpAnyH_take (i := 10) (oi := { dst := some 141, op := Op.binOp BinOp.neq 9 (Operand.tmp 137) (Operand.tmp 140) 9, type := 4, pos := "outright.go:487", after := #[{ on := 6, ground := Ground.data }, { on := 9, ground := Ground.data }], guard := none }) (v := .bool false) rfl (by kernel_rfl) (by kernel_rfl) (by kernel_rfl) (fun _ _ _ h => h) (Or.inl ⟨by rfl, ?_⟩) (by assumption) ?_
            · intro w hSw
              (try dsimp only at hSw)
              go_simp
            try simp only [Act.put, List.setIfInBounds_toArray, List.set_cons_zero, List.set_cons_succ]
            refine wpAnyH_take (i := 11) (oi := { dst := some 142, op := Op.move (Operand.tmp 141), type := 4, pos := "outright.go:487", after := #[{ on := 10, ground := Ground.data }, { on := 9, ground := Ground.chain }], guard := none }) (v := .bool false) rfl (by kernel_rfl) (by kernel_rfl) (by kernel_rfl) (fun _ _ _ h => h) (Or.inl ⟨by rfl, ?_⟩) (by assumption) ?_
            · intro w hSw
              (try dsimp only at hSw)
              go_simp
            try simp only [Act.put, List.setIfInBounds_toArray, List.set_cons_zero, List.set_cons_succ]
            refine wpAnyH_take (i := 12) (oi := { dst := some 143, op := Op.move (Operand.tmp 16), type := 3, pos := "outright.go:487", after := #[{ on := 11, ground := Ground.guard }], guard := some (11, false) }) (v := .int .i64 (k : Int)) rfl (by kernel_rfl) (by kernel_rfl) (by kernel_rfl) (fun _ _ _ h => h) (Or.inl ⟨by rfl, ?_⟩) (by assumption) ?_
            · intro w hSw
              (try dsimp only at hSw)
              go_simp
            try simp only [Act.put, List.setIfInBounds_toArray, List.set_cons_zero, List.set_cons_succ]
            refine wpAnyH_take (i := 13) (oi := { dst := some 144, op := Op.binOp BinOp.lss 3 (Operand.tmp 143) (Operand.const (Value.int IntKind.i64 3)) 3, type := 4, pos := "outright.go:487", after := #[{ on := 12, ground := Ground.data }, { on := 11, ground := Ground.guard }], guard := some (11, false) }) (v := .bool true) rfl (by kernel_rfl) (by kernel_rfl) (by kernel_rfl) (fun _ _ _ h => h) (Or.inl ⟨by rfl, ?_⟩) (by assumption) ?_
            · intro w hSw
              (try dsimp only at hSw)
              go_simp
            try simp only [Act.put, List.setIfInBounds_toArray, List.set_cons_zero, List.set_cons_succ]
            refine wpAnyH_take (i := 14) (oi := { dst := some 145, op := Op.move (Operand.tmp 144), type := 4, pos := "outright.go:487", after := #[{ on := 13, ground := Ground.data }, { on := 11, ground := Ground.chain }, { on := 11, ground := Ground.guard }], guard := some (11, false) }) (v := .bool true) rfl (by kernel_rfl) (by kernel_rfl) (by kernel_rfl) (fun _ _ _ h => h) (Or.inl ⟨by rfl, ?_⟩) (by assumption) ?_
            · intro w hSw
              (try dsimp only at hSw)
              go_simp
            try simp only [Act.put, List.setIfInBounds_toArray, List.set_cons_zero, List.set_cons_succ]
            refine wpAnyH_take (i := 15) (oi := { dst := some 146, op := Op.move (Operand.tmp 5), type := 34, pos := "outright.go:487", after := #[{ on := 14, ground := Ground.guard }], guard := some (14, true) }) (v := .slice (some ⟨gL, 0, none⟩) N lc) rfl (by kernel_rfl) (by kernel_rfl) (by kernel_rfl) (fun _ _ _ h => h) (Or.inl ⟨by rfl, ?_⟩) (by assumption) ?_
            · intro w hSw
              (try dsimp only at hSw)
              go_simp
            try simp only [Act.put, List.setIfInBounds_toArray, List.set_cons_zero, List.set_cons_succ]
            refine wpAnyH_take (i := 16) (oi := { dst := some 147, op := Op.move (Operand.tmp 15), type := 3, pos := "outright.go:487", after := #[{ on := 14, ground := Ground.guard }], guard := some (14, true) }) (v := .int .i64 (t : Int)) rfl (by kernel_rfl) (by kernel_rfl) (by kernel_rfl) (fun _ _ _ h => h) (Or.inl ⟨by rfl, ?_⟩) (by assumption) ?_
            · intro w hSw
              (try dsimp only at hSw)
              go_simp
            try simp only [Act.put, List.setIfInBounds_toArray, List.set_cons_zero, List.set_cons_succ]
            refine wpAnyH_take (i := 17) (oi := { dst := some 148, op := Op.indexAddr 34 (Operand.tmp 146) (Operand.tmp 147), type := 0, pos := "outright.go:487", after := #[{ on := 15, ground := Ground.data }, { on := 16, ground := Ground.data }, { on := 14, ground := Ground.guard }], guard := some (14, true) }) (v := .pointer (some ⟨gL, t, none⟩)) rfl (by kernel_rfl) (by kernel_rfl) (by kernel_rfl) (fun _ _ _ h => h) (Or.inl ⟨by rfl, ?_⟩) (by assumption) ?_
            · intro w hSw
              (try dsimp only at hSw)
              go_simp
            try simp only [Act.put, List.setIfInBounds_toArray, List.set_cons_zero, List.set_cons_succ]
            refine wpAnyH_take (i := 18) (oi := { dst := some 149, op := Op.load 22 (Operand.tmp 148), type := 22, pos := "outright.go:487", after := #[{ on := 17, ground := Ground.data }, { on := 14, ground := Ground.guard }], guard := some (14, true) }) (v := .slice (some ⟨gk, 0, none⟩) 3 ck) rfl (by kernel_rfl) (by kernel_rfl) (by kernel_rfl) (fun _ _ _ h => h) (Or.inl ⟨by rfl, ?_⟩) (by assumption) ?_
            · intro w hSw
              (try dsimp only at hSw)
              go_simp
            try simp only [Act.put, List.setIfInBounds_toArray, List.set_cons_zero, List.set_cons_succ]
            refine wpAnyH_take (i := 19) (oi := { dst := some 150, op := Op.move (Operand.tmp 16), type := 3, pos := "outright.go:487", after := #[{ on := 14, ground := Ground.guard }], guard := some (14, true) }) (v := .int .i64 (k : Int)) rfl (by kernel_rfl) (by kernel_rfl) (by kernel_rfl) (fun _ _ _ h => h) (Or.inl ⟨by rfl, ?_⟩) (by assumption) ?_
            · intro w hSw
              (try dsimp only at hSw)
              go_simp
            try simp only [Act.put, List.setIfInBounds_toArray, List.set_cons_zero, List.set_cons_succ]
            refine wpAnyH_take (i := 20) (oi := { dst := some 151, op := Op.indexAddr 22 (Operand.tmp 149) (Operand.tmp 150), type := 0, pos := "outright.go:487", after := #[{ on := 18, ground := Ground.data }, { on := 19, ground := Ground.data }, { on := 14, ground := Ground.guard }], guard := some (14, true) }) (v := .pointer (some ⟨gk, k, none⟩)) rfl (by kernel_rfl) (by kernel_rfl) (by kernel_rfl) (fun _ _ _ h => h) (Or.inl ⟨by rfl, ?_⟩) (by assumption) ?_
            · intro w hSw
              (try dsimp only at hSw)
              go_simp
            try simp only [Act.put, List.setIfInBounds_toArray, List.set_cons_zero, List.set_cons_succ]
            refine wpAnyH_take (i := 21) (oi := { dst := some 152, op := Op.load 9 (Operand.tmp 151), type := 9, pos := "outright.go:487", after := #[{ on := 20, ground := Ground.data }, { on := 14, ground := Ground.guard }], guard := some (14, true) }) (v := .string ⟨(wd t k).toArray⟩) rfl (by kernel_rfl) (by kernel_rfl) (by kernel_rfl) (fun _ _ _ h => h) (Or.inl ⟨by rfl, ?_⟩) (by assumption) ?_
            · intro w hSw
              (try dsimp only at hSw)
              go_simp
            try simp only [Act.put, List.setIfInBounds_toArray, List.set_cons_zero, List.set_cons_succ]
            refine wpAnyH_take (i := 22) (oi := { dst := some 153, op := Op.move (Operand.tmp 15), type := 3, pos := "outright.go:487", after := #[{ on := 14, ground := Ground.guard }], guard := some (14, true) }) (v := .int .i64 (t : Int)) rfl (by kernel_rfl) (by kernel_rfl) (by kernel_rfl) (fun _ _ _ h => h) (Or.inl ⟨by rfl, ?_⟩) (by assumption) ?_
            · intro w hSw
              (try dsimp only at hSw)
              go_simp
            try simp only [Act.put, List.setIfInBounds_toArray, List.set_cons_zero, List.set_cons_succ]
            refine wpAnyH_take (i := 23) (oi := { dst := some 154, op := Op.move (Operand.tmp 16), type := 3, pos := "outright.go:487", after := #[{ on := 14, ground := Ground.guard }], guard := some (14, true) }) (v := .int .i64 (k : Int)) rfl (by kernel_rfl) (by kernel_rfl) (by kernel_rfl) (fun _ _ _ h => h) (Or.inl ⟨by rfl, ?_⟩) (by assumption) ?_
            · intro w hSw
              (try dsimp only at hSw)
              go_simp
            try simp only [Act.put, List.setIfInBounds_toArray, List.set_cons_zero, List.set_cons_succ]
            refine wpAnyH_ready (rs := [24]) (by kernel_rfl) (by simp) ?_
            refine AllReadyH.cons (o := { dst := some 155, op := Op.call { callee := Callee.value (Operand.func 11), args := #[Operand.tmp 153, Operand.tmp 154], argTypes := #[3, 3] }, type := 9, pos := "outright.go:487", after := #[{ on := 22, ground := Ground.data }, { on := 23, ground := Ground.data }, { on := 14, ground := Ground.chain }, { on := 14, ground := Ground.guard }], guard := some (14, true) }) rfl (fun K hK => ?_) AllReadyH.nil
            go_simp
            refine (word_any t k (by omega) (by omega) w5).mono ?_
            rintro e w6 ⟨rfl, hb6⟩
            have hB6 : Below wr.heap.size wr w6 := hB5.trans (hb6.mono hB5.size)
            refine hK.out _ _ ?_ (fun hHeld => ?_)
            · exact HC.out _ hB6
            clear hK K
            try simp only [Act.put, List.setIfInBounds_toArray, List.set_cons_zero, List.set_cons_succ]
            refine wpAnyH_take (i := 25) (oi := { dst := some 156, op := Op.binOp BinOp.neq 9 (Operand.tmp 152) (Operand.tmp 155) 9, type := 4, pos := "outright.go:487", after := #[{ on := 21, ground := Ground.data }, { on := 24, ground := Ground.data }, { on := 14, ground := Ground.guard }], guard := some (14, true) }) (v := .bool false) rfl (by kernel_rfl) (by kernel_rfl) (by kernel_rfl) (fun _ _ _ h => h) (Or.inl ⟨by rfl, ?_⟩) (by assumption) ?_
            · intro w hSw
              (try dsimp only at hSw)
              go_simp
            try simp only [Act.put, List.setIfInBounds_toArray, List.set_cons_zero, List.set_cons_succ]
            refine wpAnyH_take (i := 26) (oi := { dst := some 157, op := Op.pick (Operand.tmp 145) (Operand.tmp 156) (Operand.const (Value.bool false)), type := 4, pos := "outright.go:487", after := #[{ on := 14, ground := Ground.data }, { on := 25, ground := Ground.data }, { on := 11, ground := Ground.guard }], guard := some (11, false) }) (v := .bool false) rfl (by kernel_rfl) (by kernel_rfl) (by kernel_rfl) (fun _ _ _ h => h) (Or.inl ⟨by rfl, ?_⟩) (by assumption) ?_
            · intro w hSw
              (try dsimp only at hSw)
              go_simp
            try simp only [Act.put, List.setIfInBounds_toArray, List.set_cons_zero, List.set_cons_succ]
            refine wpAnyH_take (i := 27) (oi := { dst := some 158, op := Op.pick (Operand.tmp 142) (Operand.const (Value.bool true)) (Operand.tmp 157), type := 4, pos := "outright.go:487", after := #[{ on := 11, ground := Ground.data }, { on := 26, ground := Ground.data }], guard := none }) (v := .bool false) rfl (by kernel_rfl) (by kernel_rfl) (by kernel_rfl) (fun _ _ _ h => h) (Or.inl ⟨by rfl, ?_⟩) (by assumption) ?_
            · intro w hSw
              (try dsimp only at hSw)
              go_simp
            try simp only [Act.put, List.setIfInBounds_toArray, List.set_cons_zero, List.set_cons_succ]
            refine wpAnyH_done (by kernel_rfl) ?_ _
            have HB9 := Hid.mk (HB.out.trans (hB6.mono HB.out.size))
            clear hHeld hb5 hB5 hb6 hB6 HB HC HDr
            go_wp2
            go_roundw
            case rel => exact ⟨k + 1, by omega, by go_num, HB9.out⟩
            case measure => simp [intOf]; omega
          · have hk3' : ¬ (k : Int) < 3 := by omega
            have HC : Hid (∀ w', Below wr.heap.size wr w' → w'.cell? ⟨gG, t, none⟩ = some (.slice (some ⟨gb, 0, none⟩) 70 cb) ∧ w'.cell? ⟨gb, k, none⟩ = some (.string ⟨(wd t k).toArray⟩)) := fun w' hw => ⟨cell_later hw fG, cell_later hw tb⟩
            clear hb hX hK hX0 hK0 hG0 GB oG eG fG tb hk3
            go_wp2_with fail
            refine wp_region_held_drew (S := (fun w' => w'.cell? ⟨gG, t, none⟩ = some (.slice (some ⟨gb, 0, none⟩) 70 cb) ∧ w'.cell? ⟨gb, k, none⟩ = some (.string ⟨(wd t k).toArray⟩))) (by kernel_rfl) (HC.out _ HDr.out) (fun hHeld => ?_)
            refine wpAnyH_take (i := 0) (oi := { dst := some 131, op := Op.move (Operand.tmp 11), type := 34, pos := "outright.go:487", after := #[], guard := none }) (v := .slice (some ⟨gG, 0, none⟩) N xc) rfl (by kernel_rfl) (by kernel_rfl) (by kernel_rfl) (fun _ _ _ h => h) (Or.inl ⟨by rfl, ?_⟩) (by assumption) ?_
            · intro w hSw
              (try dsimp only at hSw)
              go_simp
            try simp only [Act.put, List.setIfInBounds_toArray, List.set_cons_zero, List.set_cons_succ]
            refine wpAnyH_take (i := 1) (oi := { dst := some 132, op := Op.move (Operand.tmp 15), type := 3, pos := "outright.go:487", after := #[], guard := none }) (v := .int .i64 (t : Int)) rfl (by kernel_rfl) (by kernel_rfl) (by kernel_rfl) (fun _ _ _ h => h) (Or.inl ⟨by rfl, ?_⟩) (by assumption) ?_
            · intro w hSw
              (try dsimp only at hSw)
              go_simp
            try simp only [Act.put, List.setIfInBounds_toArray, List.set_cons_zero, List.set_cons_succ]
            refine wpAnyH_take (i := 2) (oi := { dst := some 133, op := Op.indexAddr 34 (Operand.tmp 131) (Operand.tmp 132), type := 0, pos := "outright.go:487", after := #[{ on := 0, ground := Ground.data }, { on := 1, ground := Ground.data }], guard := none }) (v := .pointer (some ⟨gG, t, none⟩)) rfl (by kernel_rfl) (by kernel_rfl) (by kernel_rfl) (fun _ _ _ h => h) (Or.inl ⟨by rfl, ?_⟩) (by assumption) ?_
            · intro w hSw
              (try dsimp only at hSw)
              go_simp
            try simp only [Act.put, List.setIfInBounds_toArray, List.set_cons_zero, List.set_cons_succ]
            refine wpAnyH_take (i := 3) (oi := { dst := some 134, op := Op.load 22 (Operand.tmp 133), type := 22, pos := "outright.go:487", after := #[{ on := 2, ground := Ground.data }], guard := none }) (v := .slice (some ⟨gb, 0, none⟩) 70 cb) rfl (by kernel_rfl) (by kernel_rfl) (by kernel_rfl) (fun _ _ _ h => h) (Or.inl ⟨by rfl, ?_⟩) (by assumption) ?_
            · intro w hSw
              (try dsimp only at hSw)
              go_simp
            try simp only [Act.put, List.setIfInBounds_toArray, List.set_cons_zero, List.set_cons_succ]
            refine wpAnyH_take (i := 4) (oi := { dst := some 135, op := Op.move (Operand.tmp 16), type := 3, pos := "outright.go:487", after := #[], guard := none }) (v := .int .i64 (k : Int)) rfl (by kernel_rfl) (by kernel_rfl) (by kernel_rfl) (fun _ _ _ h => h) (Or.inl ⟨by rfl, ?_⟩) (by assumption) ?_
            · intro w hSw
              (try dsimp only at hSw)
              go_simp
            try simp only [Act.put, List.setIfInBounds_toArray, List.set_cons_zero, List.set_cons_succ]
            refine wpAnyH_take (i := 5) (oi := { dst := some 136, op := Op.indexAddr 22 (Operand.tmp 134) (Operand.tmp 135), type := 0, pos := "outright.go:487", after := #[{ on := 3, ground := Ground.data }, { on := 4, ground := Ground.data }], guard := none }) (v := .pointer (some ⟨gb, k, none⟩)) rfl (by kernel_rfl) (by kernel_rfl) (by kernel_rfl) (fun _ _ _ h => h) (Or.inl ⟨by rfl, ?_⟩) (by assumption) ?_
            · intro w hSw
              (try dsimp only at hSw)
              go_simp
            try simp only [Act.put, List.setIfInBounds_toArray, List.set_cons_zero, List.set_cons_succ]
            refine wpAnyH_take (i := 6) (oi := { dst := some 137, op := Op.load 9 (Operand.tmp 136), type := 9, pos := "outright.go:487", after := #[{ on := 5, ground := Ground.data }], guard := none }) (v := .string ⟨(wd t k).toArray⟩) rfl (by kernel_rfl) (by kernel_rfl) (by kernel_rfl) (fun _ _ _ h => h) (Or.inl ⟨by rfl, ?_⟩) (by assumption) ?_
            · intro w hSw
              (try dsimp only at hSw)
              go_simp
            try simp only [Act.put, List.setIfInBounds_toArray, List.set_cons_zero, List.set_cons_succ]
            refine wpAnyH_take (i := 7) (oi := { dst := some 138, op := Op.move (Operand.tmp 15), type := 3, pos := "outright.go:487", after := #[], guard := none }) (v := .int .i64 (t : Int)) rfl (by kernel_rfl) (by kernel_rfl) (by kernel_rfl) (fun _ _ _ h => h) (Or.inl ⟨by rfl, ?_⟩) (by assumption) ?_
            · intro w hSw
              (try dsimp only at hSw)
              go_simp
            try simp only [Act.put, List.setIfInBounds_toArray, List.set_cons_zero, List.set_cons_succ]
            refine wpAnyH_take (i := 8) (oi := { dst := some 139, op := Op.move (Operand.tmp 16), type := 3, pos := "outright.go:487", after := #[], guard := none }) (v := .int .i64 (k : Int)) rfl (by kernel_rfl) (by kernel_rfl) (by kernel_rfl) (fun _ _ _ h => h) (Or.inl ⟨by rfl, ?_⟩) (by assumption) ?_
            · intro w hSw
              (try dsimp only at hSw)
              go_simp
            try simp only [Act.put, List.setIfInBounds_toArray, List.set_cons_zero, List.set_cons_succ]
            refine wpAnyH_ready (rs := [9]) (by kernel_rfl) (by simp) ?_
            refine AllReadyH.cons (o := { dst := some 140, op := Op.call { callee := Callee.value (Operand.func 11), args := #[Operand.tmp 138, Operand.tmp 139], argTypes := #[3, 3] }, type := 9, pos := "outright.go:487", after := #[{ on := 7, ground := Ground.data }, { on := 8, ground := Ground.data }], guard := none }) rfl (fun K hK => ?_) AllReadyH.nil
            go_simp
            refine (word_any t k (by omega) (by omega) wr.drew).mono ?_
            rintro e w5 ⟨rfl, hb5⟩
            have hB5 : Below wr.heap.size wr w5 := HDr.out.trans (hb5.mono (Nat.le_refl _))
            refine hK.out _ _ ?_ (fun hHeld => ?_)
            · exact HC.out _ hB5
            clear hK K
            try simp only [Act.put, List.setIfInBounds_toArray, List.set_cons_zero, List.set_cons_succ]
            refine wpAnyH_take (i := 10) (oi := { dst := some 141, op := Op.binOp BinOp.neq 9 (Operand.tmp 137) (Operand.tmp 140) 9, type := 4, pos := "outright.go:487", after := #[{ on := 6, ground := Ground.data }, { on := 9, ground := Ground.data }], guard := none }) (v := .bool false) rfl (by kernel_rfl) (by kernel_rfl) (by kernel_rfl) (fun _ _ _ h => h) (Or.inl ⟨by rfl, ?_⟩) (by assumption) ?_
            · intro w hSw
              (try dsimp only at hSw)
              go_simp
            try simp only [Act.put, List.setIfInBounds_toArray, List.set_cons_zero, List.set_cons_succ]
            refine wpAnyH_take (i := 11) (oi := { dst := some 142, op := Op.move (Operand.tmp 141), type := 4, pos := "outright.go:487", after := #[{ on := 10, ground := Ground.data }, { on := 9, ground := Ground.chain }], guard := none }) (v := .bool false) rfl (by kernel_rfl) (by kernel_rfl) (by kernel_rfl) (fun _ _ _ h => h) (Or.inl ⟨by rfl, ?_⟩) (by assumption) ?_
            · intro w hSw
              (try dsimp only at hSw)
              go_simp
            try simp only [Act.put, List.setIfInBounds_toArray, List.set_cons_zero, List.set_cons_succ]
            refine wpAnyH_take (i := 12) (oi := { dst := some 143, op := Op.move (Operand.tmp 16), type := 3, pos := "outright.go:487", after := #[{ on := 11, ground := Ground.guard }], guard := some (11, false) }) (v := .int .i64 (k : Int)) rfl (by kernel_rfl) (by kernel_rfl) (by kernel_rfl) (fun _ _ _ h => h) (Or.inl ⟨by rfl, ?_⟩) (by assumption) ?_
            · intro w hSw
              (try dsimp only at hSw)
              go_simp
            try simp only [Act.put, List.setIfInBounds_toArray, List.set_cons_zero, List.set_cons_succ]
            refine wpAnyH_take (i := 13) (oi := { dst := some 144, op := Op.binOp BinOp.lss 3 (Operand.tmp 143) (Operand.const (Value.int IntKind.i64 3)) 3, type := 4, pos := "outright.go:487", after := #[{ on := 12, ground := Ground.data }, { on := 11, ground := Ground.guard }], guard := some (11, false) }) (v := .bool false) rfl (by kernel_rfl) (by kernel_rfl) (by kernel_rfl) (fun _ _ _ h => h) (Or.inl ⟨by rfl, ?_⟩) (by assumption) ?_
            · intro w hSw
              (try dsimp only at hSw)
              go_simp
            try simp only [Act.put, List.setIfInBounds_toArray, List.set_cons_zero, List.set_cons_succ]
            refine wpAnyH_take (i := 14) (oi := { dst := some 145, op := Op.move (Operand.tmp 144), type := 4, pos := "outright.go:487", after := #[{ on := 13, ground := Ground.data }, { on := 11, ground := Ground.chain }, { on := 11, ground := Ground.guard }], guard := some (11, false) }) (v := .bool false) rfl (by kernel_rfl) (by kernel_rfl) (by kernel_rfl) (fun _ _ _ h => h) (Or.inl ⟨by rfl, ?_⟩) (by assumption) ?_
            · intro w hSw
              (try dsimp only at hSw)
              go_simp
            try simp only [Act.put, List.setIfInBounds_toArray, List.set_cons_zero, List.set_cons_succ]
            refine wpAnyH_take (i := 15) (oi := { dst := some 146, op := Op.move (Operand.tmp 5), type := 34, pos := "outright.go:487", after := #[{ on := 14, ground := Ground.guard }], guard := some (14, true) }) (v := undef) rfl (by kernel_rfl) (by kernel_rfl) (by kernel_rfl) (fun _ _ _ h => h) (Or.inr ⟨by rfl, rfl⟩) (by assumption) ?_
            try simp only [Act.put, List.setIfInBounds_toArray, List.set_cons_zero, List.set_cons_succ]
            refine wpAnyH_take (i := 16) (oi := { dst := some 147, op := Op.move (Operand.tmp 15), type := 3, pos := "outright.go:487", after := #[{ on := 14, ground := Ground.guard }], guard := some (14, true) }) (v := undef) rfl (by kernel_rfl) (by kernel_rfl) (by kernel_rfl) (fun _ _ _ h => h) (Or.inr ⟨by rfl, rfl⟩) (by assumption) ?_
            try simp only [Act.put, List.setIfInBounds_toArray, List.set_cons_zero, List.set_cons_succ]
            refine wpAnyH_take (i := 17) (oi := { dst := some 148, op := Op.indexAddr 34 (Operand.tmp 146) (Operand.tmp 147), type := 0, pos := "outright.go:487", after := #[{ on := 15, ground := Ground.data }, { on := 16, ground := Ground.data }, { on := 14, ground := Ground.guard }], guard := some (14, true) }) (v := undef) rfl (by kernel_rfl) (by kernel_rfl) (by kernel_rfl) (fun _ _ _ h => h) (Or.inr ⟨by rfl, rfl⟩) (by assumption) ?_
            try simp only [Act.put, List.setIfInBounds_toArray, List.set_cons_zero, List.set_cons_succ]
            refine wpAnyH_take (i := 18) (oi := { dst := some 149, op := Op.load 22 (Operand.tmp 148), type := 22, pos := "outright.go:487", after := #[{ on := 17, ground := Ground.data }, { on := 14, ground := Ground.guard }], guard := some (14, true) }) (v := undef) rfl (by kernel_rfl) (by kernel_rfl) (by kernel_rfl) (fun _ _ _ h => h) (Or.inr ⟨by rfl, rfl⟩) (by assumption) ?_
            try simp only [Act.put, List.setIfInBounds_toArray, List.set_cons_zero, List.set_cons_succ]
            refine wpAnyH_take (i := 19) (oi := { dst := some 150, op := Op.move (Operand.tmp 16), type := 3, pos := "outright.go:487", after := #[{ on := 14, ground := Ground.guard }], guard := some (14, true) }) (v := undef) rfl (by kernel_rfl) (by kernel_rfl) (by kernel_rfl) (fun _ _ _ h => h) (Or.inr ⟨by rfl, rfl⟩) (by assumption) ?_
            try simp only [Act.put, List.setIfInBounds_toArray, List.set_cons_zero, List.set_cons_succ]
            refine wpAnyH_take (i := 20) (oi := { dst := some 151, op := Op.indexAddr 22 (Operand.tmp 149) (Operand.tmp 150), type := 0, pos := "outright.go:487", after := #[{ on := 18, ground := Ground.data }, { on := 19, ground := Ground.data }, { on := 14, ground := Ground.guard }], guard := some (14, true) }) (v := undef) rfl (by kernel_rfl) (by kernel_rfl) (by kernel_rfl) (fun _ _ _ h => h) (Or.inr ⟨by rfl, rfl⟩) (by assumption) ?_
            try simp only [Act.put, List.setIfInBounds_toArray, List.set_cons_zero, List.set_cons_succ]
            refine wpAnyH_take (i := 21) (oi := { dst := some 152, op := Op.load 9 (Operand.tmp 151), type := 9, pos := "outright.go:487", after := #[{ on := 20, ground := Ground.data }, { on := 14, ground := Ground.guard }], guard := some (14, true) }) (v := undef) rfl (by kernel_rfl) (by kernel_rfl) (by kernel_rfl) (fun _ _ _ h => h) (Or.inr ⟨by rfl, rfl⟩) (by assumption) ?_
            try simp only [Act.put, List.setIfInBounds_toArray, List.set_cons_zero, List.set_cons_succ]
            refine wpAnyH_take (i := 22) (oi := { dst := some 153, op := Op.move (Operand.tmp 15), type := 3, pos := "outright.go:487", after := #[{ on := 14, ground := Ground.guard }], guard := some (14, true) }) (v := undef) rfl (by kernel_rfl) (by kernel_rfl) (by kernel_rfl) (fun _ _ _ h => h) (Or.inr ⟨by rfl, rfl⟩) (by assumption) ?_
            try simp only [Act.put, List.setIfInBounds_toArray, List.set_cons_zero, List.set_cons_succ]
            refine wpAnyH_take (i := 23) (oi := { dst := some 154, op := Op.move (Operand.tmp 16), type := 3, pos := "outright.go:487", after := #[{ on := 14, ground := Ground.guard }], guard := some (14, true) }) (v := undef) rfl (by kernel_rfl) (by kernel_rfl) (by kernel_rfl) (fun _ _ _ h => h) (Or.inr ⟨by rfl, rfl⟩) (by assumption) ?_
            try simp only [Act.put, List.setIfInBounds_toArray, List.set_cons_zero, List.set_cons_succ]
            refine wpAnyH_take (i := 24) (oi := { dst := some 155, op := Op.call { callee := Callee.value (Operand.func 11), args := #[Operand.tmp 153, Operand.tmp 154], argTypes := #[3, 3] }, type := 9, pos := "outright.go:487", after := #[{ on := 22, ground := Ground.data }, { on := 23, ground := Ground.data }, { on := 14, ground := Ground.chain }, { on := 14, ground := Ground.guard }], guard := some (14, true) }) (v := undef) rfl (by kernel_rfl) (by kernel_rfl) (by kernel_rfl) (fun _ _ _ h => h) (Or.inr ⟨by rfl, rfl⟩) (by assumption) ?_
            try simp only [Act.put, List.setIfInBounds_toArray, List.set_cons_zero, List.set_cons_succ]
            refine wpAnyH_take (i := 25) (oi := { dst := some 156, op := Op.binOp BinOp.neq 9 (Operand.tmp 152) (Operand.tmp 155) 9, type := 4, pos := "outright.go:487", after := #[{ on := 21, ground := Ground.data }, { on := 24, ground := Ground.data }, { on := 14, ground := Ground.guard }], guard := some (14, true) }) (v := undef) rfl (by kernel_rfl) (by kernel_rfl) (by kernel_rfl) (fun _ _ _ h => h) (Or.inr ⟨by rfl, rfl⟩) (by assumption) ?_
            try simp only [Act.put, List.setIfInBounds_toArray, List.set_cons_zero, List.set_cons_succ]
            refine wpAnyH_take (i := 26) (oi := { dst := some 157, op := Op.pick (Operand.tmp 145) (Operand.tmp 156) (Operand.const (Value.bool false)), type := 4, pos := "outright.go:487", after := #[{ on := 14, ground := Ground.data }, { on := 25, ground := Ground.data }, { on := 11, ground := Ground.guard }], guard := some (11, false) }) (v := .bool false) rfl (by kernel_rfl) (by kernel_rfl) (by kernel_rfl) (fun _ _ _ h => h) (Or.inl ⟨by rfl, ?_⟩) (by assumption) ?_
            · intro w hSw
              (try dsimp only at hSw)
              go_simp
            try simp only [Act.put, List.setIfInBounds_toArray, List.set_cons_zero, List.set_cons_succ]
            refine wpAnyH_take (i := 27) (oi := { dst := some 158, op := Op.pick (Operand.tmp 142) (Operand.const (Value.bool true)) (Operand.tmp 157), type := 4, pos := "outright.go:487", after := #[{ on := 11, ground := Ground.data }, { on := 26, ground := Ground.data }], guard := none }) (v := .bool false) rfl (by kernel_rfl) (by kernel_rfl) (by kernel_rfl) (fun _ _ _ h => h) (Or.inl ⟨by rfl, ?_⟩) (by assumption) ?_
            · intro w hSw
              (try dsimp only at hSw)
              go_simp
            try simp only [Act.put, List.setIfInBounds_toArray, List.set_cons_zero, List.set_cons_succ]
            refine wpAnyH_done (by kernel_rfl) ?_ _
            have HB9 := Hid.mk (HB.out.trans (hB5.mono HB.out.size))
            clear hHeld hb5 hB5 HB HC HDr
            go_wp2
            go_roundw
            case rel => exact ⟨k + 1, by omega, by go_num, HB9.out⟩
            case measure => simp [intOf]; omega
        · obtain rfl : k = 70 := by omega
          have hlt2' : ¬ (70 : Int) < 70 := by omega
          clear hb
          go_wp2
          go_roundw
          case rel => exact ⟨t + 1, by omega, by go_num, HB.out⟩
          case measure => simp [intOf]; omega
    · obtain rfl : t = N := by omega
      have hlt' : ¬ (t : Int) < (t : Int) := by omega
      have HB := Hid.mk hb
      clear hb
      go_wp2
      go_ret
      exact ⟨rfl, (belowK H5.out.2.2).trans (HB.out.mono (belowK H5.out.2.2).size)⟩
end Go.Proofs.Ytpihehpmejicaaa
