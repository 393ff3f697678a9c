import Derived.Test.YthohoicgidjpfabGreatPD6
import Derived.Test.YthohoicgidjpfabGreatPDI
namespace Go.Proofs.YthohoicgidjpfabGreat
open Go.RowKit

section
variable {w w' : World} {F X : Nat → Prop} {kr p s cR q l m t n a1 k : Nat} {x2 x3 : Value} {S : DS} {G : SG} {T : TG} {M : MP}
theorem refusal_in {b : Nat} (h0 : T.state G S = 0) (hb : b < G.y.blocks) : T.refusal G S (b : Int) = 0 := by
  unfold TG.refusal
  rw [if_neg (fun e => e h0), if_neg (by omega)]
set_option maxRecDepth 20000 in
set_option maxHeartbeats 4000000 in
theorem others_any (h : TX w F p s cR q l m t n S G T) (hp : PoolAt w F a1 t n) (hrb : w.heap[kr]? = some (.cells (rigC p q x2 x3 k true) 38 (0, 0))) (hkr : ¬ OwT F t n kr) (hm : MX w X k M) (hXO : ∀ j, X j → ¬ OwT F t n j) (h0 : T.state G S = 0) (hbl : M.blocks = G.y.blocks) (hrl : M.raw.length = G.y.blocks) (hsee : ∀ b, 2 ≤ b → b < G.y.blocks → M.raw[b]? = some (T.sees G S b)) :
    Calls Tryz.prog 33 #[.pointer (some ⟨kr, 0, none⟩), .pointer (some ⟨a1, 0, none⟩)] w fun e w' => e = .returned (.bool true) ∧ (∃ c', TX w' F p s c' q l m t n S G T) ∧ Keeps (OwT F t n) w w' := by
  have hb2 := h.yk.b2
  have hb48 := h.yk.bl
  obtain ⟨nb, hnb⟩ : ∃ nb, nb = G.y.blocks := ⟨_, rfl⟩
  have H := Hid.mk (And.intro h (And.intro hp (And.intro hrb (And.intro hm hXO))))
  have HS := Hid.mk (And.intro hsee h0)
  have HN := Hid.mk (And.intro hnb (And.intro hbl hrl))
  rw [← hnb] at hb2 hb48
  have HCe : Hid (∀ wr, Keeps (OwT F t n) w wr → wr.cell? ⟨kr, 4, none⟩ = some (.pointer (some ⟨k, 0, none⟩)) ∧ wr.cell? ⟨k, 0, none⟩ = some (.int .i64 (nb : Int))) := fun wr hk => by
    obtain ⟨g1, c1, g2, c2, g3, c3, g4, c4, v5, v6, v7, hma⟩ := hm.apart hk (fun j hj hx => hXO j hx hj)
    exact ⟨cell_of_block ((hk.block kr (lt_there hrb) hkr).trans hrb) (j := 4) rfl, by rw [hnb, ← hbl]; exact cell_of_block hma.b (j := 0) rfl⟩
  clear h hp hrb hm hXO h0 hbl hsee hnb hrl
  go_enter Tryz.func33, Tryz.ntmps33
  go_wp2
  go_loopw [5] (fun iv wr => ∃ j c' : Nat, 2 ≤ j ∧ j ≤ nb ∧ iv = .int .i64 (j : Int) ∧ TX wr F p s c' q l m t n S G T ∧ Keeps (OwT F t n) w wr) (fun iv _ => nb - (intOf iv).toNat)
  case atStart => exact ⟨2, cR, Nat.le_refl _, hb2, rfl, H.out.1, Keeps.refl _ _⟩
  case round =>
    obtain ⟨j, c', hj2, hj, rfl, hx, hk⟩ := hrel
    obtain ⟨ce1, ce2⟩ := HCe.out wr hk
    by_cases hlt : j < nb
    · have hlt' : (j : Int) < (nb : Int) := by omega
      have hjb : j < G.y.blocks := by have := HN.out.1; omega
      have hp := H.out.2.1.keep hk
      have c0 := hp.c0
      have kg := get6_any hx j (refusal_in HS.out.2 hjb)
      have hxl := hx.len j hjb
      have hxt := hx.st.d.lt
      have HK := Hid.mk hk
      clear hx hk hp
      go_wp2_with fail
      refine kg.mono ?_
      rintro e w1 ⟨⟨g1, rfl, hg1, hblk⟩, hx1, hk1⟩
      have hK1 : Keeps (OwT F t n) w w1 := HK.out.trans (hk1.mono (fun _ h => .inl h)) (fun _ h => .inl h)
      obtain ⟨ce3, _⟩ := HCe.out w1 hK1
      obtain ⟨gq1, cq1, gq2, cq2, gq3, cq3, gq4, cq4, v5, v6, v7, hma⟩ := H.out.2.2.2.1.apart hK1 (fun j hj hx => H.out.2.2.2.2 j hx hj)
      have hjr : j < M.raw.length := by have := HN.out.2.2; omega
      obtain ⟨gv, cv, g2, c2, ev, cvj, _, hrw, _⟩ := hma.raw.at hjr
      have hrj : M.raw[j] = T.sees G S j := by
        have h9 := HS.out.1 j hj2 hjb
        rw [List.getElem?_eq_getElem hjr] at h9
        exact Option.some.inj h9
      rw [hrj] at hrw
      have c8 : w1.cell? ⟨k, 8, none⟩ = some (.slice (some ⟨gv, 0, none⟩) nb cv) := by
        have h9 : w1.cell? ⟨k, 8, none⟩ = some v6 := cell_of_block hma.b (j := 8) rfl
        rw [h9, ev, HN.out.2.2, ← HN.out.1]
      obtain ⟨sx, hs⟩ : ∃ sx, sx = strOfNums (T.sees G S j) := ⟨_, rfl⟩
      have HC : Hid (∀ w', Below w1.heap.size w1 w' → w'.cell? ⟨kr, 4, none⟩ = some (.pointer (some ⟨k, 0, none⟩)) ∧ w'.cell? ⟨k, 8, none⟩ = some (.slice (some ⟨gv, 0, none⟩) nb cv) ∧ w'.cell? ⟨gv, j, none⟩ = some (.slice (some ⟨g2, 0, none⟩) 512 c2) ∧ (convert 44 9 (.slice (some ⟨g1, 0, none⟩) 512 512)).run Tryz.prog w' = .ok (.string sx) w' ∧ (convert 44 9 (.slice (some ⟨g2, 0, none⟩) 512 c2)).run Tryz.prog w' = .ok (.string sx) w') := fun w' hb => by
        refine ⟨cell_later hb ce3, cell_later hb c8, cell_later hb cvj, ?_, ?_⟩
        · rw [hs]
          exact run_convert_bytes_arg (P := Tryz.prog) w' 44 5 Tryz.underlying44 Tryz.underlying5 g1 0 512 512 (T.sees G S j) hxl (fun i hi => by rw [Nat.zero_add]; exact cell_later hb (hblk.cell (by omega))) 9 Tryz.underlying9
        · rw [hs]
          exact run_convert_bytes_arg (P := Tryz.prog) w' 44 5 Tryz.underlying44 Tryz.underlying5 g2 0 512 c2 (T.sees G S j) hxl (fun i hi => by rw [Nat.zero_add]; exact cell_later hb (hrw.get (by omega))) 9 Tryz.underlying9
      have HDr : Hid (Below w1.heap.size w1 w1.drew) := (Keeps.drew (fun _ => False) w1).below (fun _ h => h.elim) (Nat.le_refl _)
      have HX1 : Hid (TX w1.drew F p s (c' + 1) q l m t n S G T ∧ Keeps (OwT F t n) w w1.drew) := ⟨hx1.later HDr.out, hK1.trans (Keeps.drew (fun _ => False) w1) (fun _ h => h.elim)⟩
      have hj0 : (0 : Int) ≤ (j : Int) := by omega
      clear kg hblk hx1 hk1 hK1 hma ev cvj hrw hrj c8 hs ce1 ce2 ce3 c0 hxl hxt
      go_wp2_with fail
      refine wp_region_held_drew (S := (fun w' => w'.cell? ⟨kr, 4, none⟩ = some (.pointer (some ⟨k, 0, none⟩)) ∧ w'.cell? ⟨k, 8, none⟩ = some (.slice (some ⟨gv, 0, none⟩) nb cv) ∧ w'.cell? ⟨gv, j, none⟩ = some (.slice (some ⟨g2, 0, none⟩) 512 c2) ∧ (convert 44 9 (.slice (some ⟨g1, 0, none⟩) 512 512)).run Tryz.prog w' = .ok (.string sx) w' ∧ (convert 44 9 (.slice (some ⟨g2, 0, none⟩) 512 c2)).run Tryz.prog w' = .ok (.string sx) w')) (by kernel_rfl) (HC.out _ HDr.out) (fun hHeld => ?_)
      refine wpAnyH_take (i := 0) (oi := { dst := some 28, op := Op.move (Operand.tmp 7), type := 39, pos := "exact.go:129", after := #[], guard := none }) (v := .int .i64 0) rfl (by kernel_rfl) (by kernel_rfl) (by kernel_rfl) (fun _ _ _ h => h) (Or.inl ⟨by rfl, ?_⟩) (by assumption) ?_
      · intro w hSw
        (try dsimp only at hSw)
        go_simp
      try simp only [Act.put, List.setIfInBounds_toArray, List.set_cons_zero, List.set_cons_succ]
      refine wpAnyH_ready (rs := [1]) (by kernel_rfl) (by simp) ?_
      refine AllReadyH.cons (o := { dst := some 29, op := Op.call { callee := Callee.value (Operand.func 11), args := #[Operand.tmp 28], argTypes := #[39] }, type := 3, pos := "exact.go:129", after := #[{ on := 0, ground := Ground.data }], guard := none }) rfl (fun K hK => ?_) AllReadyH.nil
      go_simp
      refine (num6_any 0 w1.drew).mono ?_
      rintro e wx ⟨rfl, hwx⟩
      have hwx' := hwx.symm
      subst hwx'
      clear hwx
      refine hK.out _ _ ?_ (fun hHeld => ?_)
      · exact HC.out _ HDr.out
      clear hK K
      try simp only [Act.put, List.setIfInBounds_toArray, List.set_cons_zero, List.set_cons_succ]
      refine wpAnyH_take (i := 2) (oi := { dst := some 30, op := Op.binOp BinOp.neq 3 (Operand.tmp 29) (Operand.const (Value.int IntKind.i64 0)) 3, type := 4, pos := "exact.go:129", after := #[{ on := 1, ground := Ground.data }], guard := none }) (v := .bool false) rfl (by kernel_rfl) (by kernel_rfl) (by kernel_rfl) (fun _ _ _ h => h) (Or.inl ⟨by rfl, ?_⟩) (by assumption) ?_
      · intro w hSw
        (try dsimp only at hSw)
        go_simp
      try simp only [Act.put, List.setIfInBounds_toArray, List.set_cons_zero, List.set_cons_succ]
      refine wpAnyH_take (i := 3) (oi := { dst := some 31, op := Op.move (Operand.tmp 30), type := 4, pos := "exact.go:129", after := #[{ on := 2, ground := Ground.data }, { on := 1, ground := Ground.chain }], guard := none }) (v := .bool false) rfl (by kernel_rfl) (by kernel_rfl) (by kernel_rfl) (fun _ _ _ h => h) (Or.inl ⟨by rfl, ?_⟩) (by assumption) ?_
      · intro w hSw
        (try dsimp only at hSw)
        go_simp
      try simp only [Act.put, List.setIfInBounds_toArray, List.set_cons_zero, List.set_cons_succ]
      refine wpAnyH_take (i := 4) (oi := { dst := some 32, op := Op.move (Operand.tmp 6), type := 44, pos := "exact.go:129", after := #[{ on := 3, ground := Ground.guard }], guard := some (3, false) }) (v := .slice (some ⟨g1, 0, none⟩) 512 512) rfl (by kernel_rfl) (by kernel_rfl) (by kernel_rfl) (fun _ _ _ h => h) (Or.inl ⟨by rfl, ?_⟩) (by assumption) ?_
      · intro w hSw
        (try dsimp only at hSw)
        go_simp
      try simp only [Act.put, List.setIfInBounds_toArray, List.set_cons_zero, List.set_cons_succ]
      refine wpAnyH_take (i := 5) (oi := { dst := some 33, op := Op.convert 44 9 (Operand.tmp 32), type := 9, pos := "exact.go:129", after := #[{ on := 4, ground := Ground.data }, { on := 3, ground := Ground.guard }], guard := some (3, false) }) (v := .string sx) rfl (by kernel_rfl) (by kernel_rfl) (by kernel_rfl) (fun _ _ _ h => h) (Or.inl ⟨by rfl, ?_⟩) (by assumption) ?_
      · intro w hSw
        (try dsimp only at hSw)
        go_simp
      try simp only [Act.put, List.setIfInBounds_toArray, List.set_cons_zero, List.set_cons_succ]
      refine wpAnyH_take (i := 6) (oi := { dst := some 34, op := Op.move (Operand.tmp 0), type := 28, pos := "exact.go:129", after := #[{ on := 3, ground := Ground.guard }], guard := some (3, false) }) (v := .pointer (some ⟨kr, 0, none⟩)) rfl (by kernel_rfl) (by kernel_rfl) (by kernel_rfl) (fun _ _ _ h => h) (Or.inl ⟨by rfl, ?_⟩) (by assumption) ?_
      · intro w hSw
        (try dsimp only at hSw)
        go_simp
      try simp only [Act.put, List.setIfInBounds_toArray, List.set_cons_zero, List.set_cons_succ]
      refine wpAnyH_take (i := 7) (oi := { dst := some 35, op := Op.nilCheck (Operand.tmp 34), type := 0, pos := "exact.go:129", after := #[{ on := 6, ground := Ground.data }, { on := 3, ground := Ground.guard }], guard := some (3, false) }) (v := .pointer (some ⟨kr, 0, none⟩)) rfl (by kernel_rfl) (by kernel_rfl) (by kernel_rfl) (fun _ _ _ h => h) (Or.inl ⟨by rfl, ?_⟩) (by assumption) ?_
      · intro w hSw
        (try dsimp only at hSw)
        go_simp
      try simp only [Act.put, List.setIfInBounds_toArray, List.set_cons_zero, List.set_cons_succ]
      refine wpAnyH_take (i := 8) (oi := { dst := some 36, op := Op.fieldAddr 38 (Operand.tmp 35) 4, type := 0, pos := "exact.go:129", after := #[{ on := 7, ground := Ground.data }, { on := 3, ground := Ground.guard }], guard := some (3, false) }) (v := .pointer (some ⟨kr, 4, none⟩)) rfl (by kernel_rfl) (by kernel_rfl) (by kernel_rfl) (fun _ _ _ h => h) (Or.inl ⟨by rfl, ?_⟩) (by assumption) ?_
      · intro w hSw
        (try dsimp only at hSw)
        go_simp
      try simp only [Act.put, List.setIfInBounds_toArray, List.set_cons_zero, List.set_cons_succ]
      refine wpAnyH_take (i := 9) (oi := { dst := some 37, op := Op.load 36 (Operand.tmp 36), type := 36, pos := "exact.go:129", after := #[{ on := 8, ground := Ground.data }, { on := 3, ground := Ground.guard }], guard := some (3, false) }) (v := .pointer (some ⟨k, 0, none⟩)) rfl (by kernel_rfl) (by kernel_rfl) (by kernel_rfl) (fun _ _ _ h => h) (Or.inl ⟨by rfl, ?_⟩) (by assumption) ?_
      · intro w hSw
        (try dsimp only at hSw)
        go_simp
      try simp only [Act.put, List.setIfInBounds_toArray, List.set_cons_zero, List.set_cons_succ]
      refine wpAnyH_take (i := 10) (oi := { dst := some 38, op := Op.nilCheck (Operand.tmp 37), type := 0, pos := "exact.go:129", after := #[{ on := 9, ground := Ground.data }, { on := 3, ground := Ground.guard }], guard := some (3, false) }) (v := .pointer (some ⟨k, 0, none⟩)) rfl (by kernel_rfl) (by kernel_rfl) (by kernel_rfl) (fun _ _ _ h => h) (Or.inl ⟨by rfl, ?_⟩) (by assumption) ?_
      · intro w hSw
        (try dsimp only at hSw)
        go_simp
      try simp only [Act.put, List.setIfInBounds_toArray, List.set_cons_zero, List.set_cons_succ]
      refine wpAnyH_take (i := 11) (oi := { dst := some 39, op := Op.fieldAddr 72 (Operand.tmp 38) 6, type := 0, pos := "exact.go:129", after := #[{ on := 10, ground := Ground.data }, { on := 3, ground := Ground.guard }], guard := some (3, false) }) (v := .pointer (some ⟨k, 8, none⟩)) rfl (by kernel_rfl) (by kernel_rfl) (by kernel_rfl) (fun _ _ _ h => h) (Or.inl ⟨by rfl, ?_⟩) (by assumption) ?_
      · intro w hSw
        (try dsimp only at hSw)
        go_simp
      try simp only [Act.put, List.setIfInBounds_toArray, List.set_cons_zero, List.set_cons_succ]
      refine wpAnyH_take (i := 12) (oi := { dst := some 40, op := Op.load 70 (Operand.tmp 39), type := 70, pos := "exact.go:129", after := #[{ on := 11, ground := Ground.data }, { on := 3, ground := Ground.guard }], guard := some (3, false) }) (v := .slice (some ⟨gv, 0, none⟩) nb cv) rfl (by kernel_rfl) (by kernel_rfl) (by kernel_rfl) (fun _ _ _ h => h) (Or.inl ⟨by rfl, ?_⟩) (by assumption) ?_
      · intro w hSw
        (try dsimp only at hSw)
        go_simp
      try simp only [Act.put, List.setIfInBounds_toArray, List.set_cons_zero, List.set_cons_succ]
      refine wpAnyH_take (i := 13) (oi := { dst := some 41, op := Op.move (Operand.tmp 5), type := 3, pos := "exact.go:129", after := #[{ on := 3, ground := Ground.guard }], guard := some (3, false) }) (v := .int .i64 (j : Int)) rfl (by kernel_rfl) (by kernel_rfl) (by kernel_rfl) (fun _ _ _ h => h) (Or.inl ⟨by rfl, ?_⟩) (by assumption) ?_
      · intro w hSw
        (try dsimp only at hSw)
        go_simp
      try simp only [Act.put, List.setIfInBounds_toArray, List.set_cons_zero, List.set_cons_succ]
      refine wpAnyH_take (i := 14) (oi := { dst := some 42, op := Op.indexAddr 70 (Operand.tmp 40) (Operand.tmp 41), type := 0, pos := "exact.go:129", after := #[{ on := 12, ground := Ground.data }, { on := 13, ground := Ground.data }, { on := 3, ground := Ground.guard }], guard := some (3, false) }) (v := .pointer (some ⟨gv, j, none⟩)) rfl (by kernel_rfl) (by kernel_rfl) (by kernel_rfl) (fun _ _ _ h => h) (Or.inl ⟨by rfl, ?_⟩) (by assumption) ?_
      · intro w hSw
        (try dsimp only at hSw)
        go_simp
      try simp only [Act.put, List.setIfInBounds_toArray, List.set_cons_zero, List.set_cons_succ]
      refine wpAnyH_take (i := 15) (oi := { dst := some 43, op := Op.load 44 (Operand.tmp 42), type := 44, pos := "exact.go:129", after := #[{ on := 14, ground := Ground.data }, { on := 3, ground := Ground.guard }], guard := some (3, false) }) (v := .slice (some ⟨g2, 0, none⟩) 512 c2) rfl (by kernel_rfl) (by kernel_rfl) (by kernel_rfl) (fun _ _ _ h => h) (Or.inl ⟨by rfl, ?_⟩) (by assumption) ?_
      · intro w hSw
        (try dsimp only at hSw)
        go_simp
      try simp only [Act.put, List.setIfInBounds_toArray, List.set_cons_zero, List.set_cons_succ]
      refine wpAnyH_take (i := 16) (oi := { dst := some 44, op := Op.convert 44 9 (Operand.tmp 43), type := 9, pos := "exact.go:129", after := #[{ on := 15, ground := Ground.data }, { on := 3, ground := Ground.guard }], guard := some (3, false) }) (v := .string sx) rfl (by kernel_rfl) (by kernel_rfl) (by kernel_rfl) (fun _ _ _ h => h) (Or.inl ⟨by rfl, ?_⟩) (by assumption) ?_
      · intro w hSw
        (try dsimp only at hSw)
        go_simp
      try simp only [Act.put, List.setIfInBounds_toArray, List.set_cons_zero, List.set_cons_succ]
      refine wpAnyH_take (i := 17) (oi := { dst := some 45, op := Op.binOp BinOp.neq 9 (Operand.tmp 33) (Operand.tmp 44) 9, type := 4, pos := "exact.go:129", after := #[{ on := 5, ground := Ground.data }, { on := 16, ground := Ground.data }, { on := 3, ground := Ground.guard }], guard := some (3, false) }) (v := .bool false) rfl (by kernel_rfl) (by kernel_rfl) (by kernel_rfl) (fun _ _ _ h => h) (Or.inl ⟨by rfl, ?_⟩) (by assumption) ?_
      · intro w hSw
        (try dsimp only at hSw)
        go_simp
      try simp only [Act.put, List.setIfInBounds_toArray, List.set_cons_zero, List.set_cons_succ]
      refine wpAnyH_take (i := 18) (oi := { dst := some 46, op := Op.pick (Operand.tmp 31) (Operand.const (Value.bool true)) (Operand.tmp 45), type := 4, pos := "exact.go:129", after := #[{ on := 3, ground := Ground.data }, { on := 17, ground := Ground.data }], guard := none }) (v := .bool false) rfl (by kernel_rfl) (by kernel_rfl) (by kernel_rfl) (fun _ _ _ h => h) (Or.inl ⟨by rfl, ?_⟩) (by assumption) ?_
      · intro w hSw
        (try dsimp only at hSw)
        go_simp
      try simp only [Act.put, List.setIfInBounds_toArray, List.set_cons_zero, List.set_cons_succ]
      refine wpAnyH_done (by kernel_rfl) ?_ _
      clear hHeld HC HDr
      go_wp2
      go_roundw
      case rel => exact ⟨j + 1, _, by omega, by omega, by go_num, HX1.out⟩
      case measure => simp [intOf]; omega
    · obtain rfl : j = nb := by omega
      have hlt' : ¬ (j : Int) < (j : Int) := by omega
      have HE := Hid.mk (And.intro hx hk)
      clear hx hk
      go_wp2
      go_ret
      exact ⟨rfl, ⟨_, HE.out.1⟩, HE.out.2⟩
end
end Go.Proofs.YthohoicgidjpfabGreat
