import Derived.Test.YthohoicgidjpfabGreatPDH
namespace Go.Proofs.YthohoicgidjpfabGreat
open Go.RowKit

/-- What a take of the document's pool leaves. -/
def MO3 (w w' : World) (X : Nat → Prop) (k : Nat) (R : Int × Int × MP) (e : Ending) : Prop :=
  e = .returned (.tuple #[.int .i64 R.1, .int .i64 R.2.1]) ∧ MX w' (more X w w') k R.2.2 ∧ Keeps X w w'
def MP.take0 (M : MP) : Int × Int × MP :=
  if M.state ≠ 0 then (0, M.state, M) else match lowBit (bmOf M.nb) (2 + M.nodes / 4) (M.blocks - (2 + M.nodes / 4)) with
  | none => (0, 60, { M with bad := 60 })
  | some i => if (M.puts 0).1 ≠ 0 then (0, M.puts 0) else ((i : Int), 0, { (M.puts 0).2 with nb := M.nb.set i true })
def MP.take1 (M : MP) : Int × Int × MP :=
  if M.state ≠ 0 then (0, M.state, M) else match lowBit (bmOf M.nn) 0 M.nodes with
  | none => (0, 61, { M with bad := 61 })
  | some i => if (M.puts 1).1 ≠ 0 then (0, M.puts 1) else ((i : Int) + 1, 0, { (M.puts 1).2 with nn := M.nn.set i true })
theorem puts_nb (M : MP) (b : Nat) : (M.puts b).2.nb = M.nb ∧ (M.puts b).2.nn = M.nn := by
  unfold MP.puts
  split
  · exact ⟨rfl, rfl⟩
  · split <;> exact ⟨rfl, rfl⟩
section
variable {w w' : World} {X Y Z : Nat → Prop} {k : Nat} {M : MP}
theorem MX.setBad (h : MX w X k M) (x : Int) : w.cell? ⟨k, 10, none⟩ = some (.int .i64 M.bad) ∧ w.frozen? ⟨k, 10, none⟩ = false ∧ MX (w.setCell ⟨k, 10, none⟩ (.int .i64 x)) X k { M with bad := x } ∧ Keeps X w (w.setCell ⟨k, 10, none⟩ (.int .i64 x)) := by
  obtain ⟨g1, c1, g2, c2, g3, c3, g4, c4, v5, v6, v7, h⟩ := h
  have hbl := h.b
  have hs : (w.setCell ⟨k, 10, none⟩ (.int .i64 x)).heap[k]? = some (.cells (mpC { M with bad := x } (slB g1 c1) (slB g2 c2) (slB g3 c3) (slB g4 c4) v5 v6 v7) 72 (0, 0)) := heap_setCell_same _ _ _ _ _ _ hbl
  have hk := Keeps.setCell (F := fun j => j = k) w (p := ⟨k, 10, none⟩) rfl (.int .i64 x)
  have hil : IL w X v7 M.put := ⟨h.put.1, h.put.2⟩
  have hil2 := hil.keep hk (fun g hg e => by
    obtain ⟨cur, hc⟩ := owns_block hil.own hg
    rw [e, hbl] at hc
    cases hc)
  exact ⟨cell_of_block hbl (j := 10) rfl, frozen_of_block hbl 10, ⟨_, _, _, _, _, _, _, _, _, _, _, h.turn (M' := { M with bad := x }) hk (fun g hg => by subst hg; exact ⟨_, _, _, hbl, by decide, by decide, by decide⟩) (fun _ h => h) hs ⟨hil2.own, hil2.x⟩ rfl rfl rfl rfl rfl rfl rfl⟩, hk.mono (fun j hj => by rw [hj]; exact h.xk)⟩
theorem MX.setBit0 (h : MX w X k M) {i : Nat} (hi : i < 4096) (x : Bool) : ∃ g c, w.cell? ⟨k, 5, none⟩ = some (slB g c) ∧ 4096 ≤ c ∧ w.cell? ⟨g, i, none⟩ = some (.bool (M.nb.getD i false)) ∧ w.frozen? ⟨g, i, none⟩ = false ∧ MX (w.setCell ⟨g, i, none⟩ (.bool x)) X k { M with nb := M.nb.set i x } ∧ Keeps X w (w.setCell ⟨g, i, none⟩ (.bool x)) := by
  obtain ⟨g1, c1, g2, c2, g3, c3, g4, c4, v5, v6, v7, h⟩ := h
  have hk := Keeps.setCell (F := fun j => j = g3) w (p := ⟨g3, i, none⟩) rfl (.bool x)
  obtain ⟨cur, hcur, _⟩ := id h.nb.2.1
  have hty : ∀ g, g = g3 → ∃ cur t fz, w.heap[g]? = some (.cells cur t fz) ∧ t ≠ 5 ∧ t ≠ 44 := fun g hg => by subst hg; exact ⟨_, _, _, hcur, by decide, by decide⟩
  have hil : IL w X v7 M.put := ⟨h.put.1, h.put.2⟩
  have hil2 := hil.keep hk (fun g hg e => by
    obtain ⟨cu, hc⟩ := owns_block hil.own hg
    rw [e, hcur] at hc
    cases hc)
  have hkb : (w.setCell ⟨g3, i, none⟩ (.bool x)).heap[k]? = _ := (hk.block k (lt_there h.b) (fun e => by
    have h9 := h.b
    rw [e, hcur] at h9
    cases h9)).trans h.b
  have row : ∀ g c l, g ≠ g3 → RowAt w 4 g c (bls l) → RowAt (w.setCell ⟨g3, i, none⟩ (.bool x)) 4 g c (bls l) := fun g c l hg hr => hr.agree (hk.block g hr.lt hg)
  refine ⟨g3, c3, cell_of_block h.b (j := 5) rfl, ?_, h.nb.2.1.truth (by rw [h.nb.2.2]; exact hi), h.nb.2.1.thaw i, ⟨_, _, _, _, _, _, _, _, _, _, _, ⟨hkb, h.xk, ⟨h.ob.1, row _ _ _ h.n13 h.ob.2.1, h.ob.2.2⟩, ⟨h.on.1, row _ _ _ h.n23 h.on.2.1, h.on.2.2⟩, ⟨h.nb.1, h.nb.2.1.setTruth i x, by rw [List.length_set]; exact h.nb.2.2⟩, ⟨h.nn.1, row _ _ _ (fun e => h.n34 e.symm) h.nn.2.1, h.nn.2.2⟩, h.n12, h.n13, h.n14, h.n23, h.n24, h.n34, h.oraw.keep hk hty, h.raw.keep hk hty, ⟨hil2.own, hil2.x⟩, h.own⟩⟩, hk.mono (fun j hj => by rw [hj]; exact h.nb.1)⟩
  have := h.nb.2.1.le
  have hl := h.nb.2.2
  simp [bls] at this
  omega
theorem MX.setBit1 (h : MX w X k M) {i : Nat} (hi : i < 4096) (x : Bool) : ∃ g c, w.cell? ⟨k, 6, none⟩ = some (slB g c) ∧ 4096 ≤ c ∧ w.cell? ⟨g, i, none⟩ = some (.bool (M.nn.getD i false)) ∧ w.frozen? ⟨g, i, none⟩ = false ∧ MX (w.setCell ⟨g, i, none⟩ (.bool x)) X k { M with nn := M.nn.set i x } ∧ Keeps X w (w.setCell ⟨g, i, none⟩ (.bool x)) := by
  obtain ⟨g1, c1, g2, c2, g3, c3, g4, c4, v5, v6, v7, h⟩ := h
  have hk := Keeps.setCell (F := fun j => j = g4) w (p := ⟨g4, i, none⟩) rfl (.bool x)
  obtain ⟨cur, hcur, _⟩ := id h.nn.2.1
  have hty : ∀ g, g = g4 → ∃ cur t fz, w.heap[g]? = some (.cells cur t fz) ∧ t ≠ 5 ∧ t ≠ 44 := fun g hg => by subst hg; exact ⟨_, _, _, hcur, by decide, by decide⟩
  have hil : IL w X v7 M.put := ⟨h.put.1, h.put.2⟩
  have hil2 := hil.keep hk (fun g hg e => by
    obtain ⟨cu, hc⟩ := owns_block hil.own hg
    rw [e, hcur] at hc
    cases hc)
  have hkb : (w.setCell ⟨g4, i, none⟩ (.bool x)).heap[k]? = _ := (hk.block k (lt_there h.b) (fun e => by
    have h9 := h.b
    rw [e, hcur] at h9
    cases h9)).trans h.b
  have row : ∀ g c l, g ≠ g4 → RowAt w 4 g c (bls l) → RowAt (w.setCell ⟨g4, i, none⟩ (.bool x)) 4 g c (bls l) := fun g c l hg hr => hr.agree (hk.block g hr.lt hg)
  refine ⟨g4, c4, cell_of_block h.b (j := 6) rfl, ?_, h.nn.2.1.truth (by rw [h.nn.2.2]; exact hi), h.nn.2.1.thaw i, ⟨_, _, _, _, _, _, _, _, _, _, _, ⟨hkb, h.xk, ⟨h.ob.1, row _ _ _ h.n14 h.ob.2.1, h.ob.2.2⟩, ⟨h.on.1, row _ _ _ h.n24 h.on.2.1, h.on.2.2⟩, ⟨h.nb.1, row _ _ _ h.n34 h.nb.2.1, h.nb.2.2⟩, ⟨h.nn.1, h.nn.2.1.setTruth i x, by rw [List.length_set]; exact h.nn.2.2⟩, h.n12, h.n13, h.n14, h.n23, h.n24, h.n34, h.oraw.keep hk hty, h.raw.keep hk hty, ⟨hil2.own, hil2.x⟩, h.own⟩⟩, hk.mono (fun j hj => by rw [hj]; exact h.nn.1)⟩
  have := h.nn.2.1.le
  have hl := h.nn.2.2
  simp [bls] at this
  omega
end
end Go.Proofs.YthohoicgidjpfabGreat
