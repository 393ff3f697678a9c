import Derived.Test.YthohoicgidjpfabGreatPDL
import Derived.Test.YthohoicgidjpfabGreatPDM
namespace Go.Proofs.YthohoicgidjpfabGreat
open Go.RowKit

/-- What the document's pool has left: of the blocks, of the nodes. -/
def MP.left0 (M : MP) : Nat := clrN M.nb (2 + M.nodes / 4) (M.blocks - (2 + M.nodes / 4))
def MP.left1 (M : MP) : Nat := clrN M.nn 0 M.nodes
section
variable {w w' : World} {X Y Z : Nat → Prop} {k : Nat} {M : MP}
set_option maxRecDepth 20000 in
set_option maxHeartbeats 8000000 in
theorem mleft_ok (h : MX w X k M) (h0 : M.state = 0) (hD : 2 + M.nodes / 4 ≤ M.blocks) (hB : M.blocks ≤ 4096) (hN : M.nodes ≤ 4096) :
    Calls Tryz.prog 75 #[.pointer (some ⟨k, 0, none⟩)] w fun e w' => e = .returned (.tuple #[.int .i64 (M.left0 : Int), .int .i64 (M.left1 : Int), .int .i64 0]) ∧ ∃ n, w' = w.drewN n := by
  have ks := mstate_any h
  rw [h0] at ks
  clear h0
  obtain ⟨D, hDD⟩ : ∃ D, D = 2 + M.nodes / 4 := ⟨_, rfl⟩
  have hdr : ∀ i, Below w.heap.size w (w.drewN i) := fun i => below_drewN (Below.refl _ _) i
  obtain ⟨g1, c1, g2, c2, g3, c3, g4, c4, v5, v6, v7, hm⟩ := id h
  have e0 : w.cell? ⟨k, 0, none⟩ = some (.int .i64 (M.blocks : Int)) := cell_of_block hm.b (j := 0) rfl
  have e1 : w.cell? ⟨k, 1, none⟩ = some (.int .i64 (M.nodes : Int)) := cell_of_block hm.b (j := 1) rfl
  have e2 : w.cell? ⟨k, 2, none⟩ = some (.int .i64 (D : Int)) := by rw [hDD]; exact cell_of_block hm.b (j := 2) rfl
  have e5 : w.cell? ⟨k, 5, none⟩ = some (slB g3 c3) := cell_of_block hm.b (j := 5) rfl
  have e6 : w.cell? ⟨k, 6, none⟩ = some (slB g4 c4) := cell_of_block hm.b (j := 6) rfl
  have k0 : ∀ i, Calls Tryz.prog 116 #[slB g3 c3, .int .i64 (D : Int), .int .i64 (M.blocks : Int)] (w.drewN i) fun e w' => e = .returned (.int .i64 (M.left0 : Int)) ∧ w' = w.drewN i := fun i => by
    have h9 := clearIn_any (w := w.drewN i) (hm.nb.2.1.agree ((hdr i).block _ hm.nb.2.1.lt)) hm.nb.2.2 (2 + M.nodes / 4) (M.blocks - (2 + M.nodes / 4)) (by omega)
    rw [show (2 + M.nodes / 4) + (M.blocks - (2 + M.nodes / 4)) = M.blocks by omega] at h9
    rw [hDD]
    exact h9
  have k1 : ∀ i, Calls Tryz.prog 116 #[slB g4 c4, .int .i64 0, .int .i64 (M.nodes : Int)] (w.drewN i) fun e w' => e = .returned (.int .i64 (M.left1 : Int)) ∧ w' = w.drewN i := fun i => by
    have h9 := clearIn_any (w := w.drewN i) (hm.nn.2.1.agree ((hdr i).block _ hm.nn.2.1.lt)) hm.nn.2.2 0 M.nodes (by omega)
    rw [Nat.zero_add] at h9
    exact h9
  clear h hm hdr hDD hD hB hN
  generalize M.left0 = l0 at *
  generalize M.left1 = l1 at *
  generalize M.blocks = B at *
  generalize M.nodes = N at *
  go_enter Tryz.func75, Tryz.ntmps75
  go_wp2_with fail
  refine ks.mono ?_
  rintro e w0 ⟨rfl, hw0⟩
  have hw0' := hw0.symm
  subst hw0'
  clear hw0 ks
  go_wp2_with fail
  go_quiet (first | (go_at_call_of 116 (slB g3 c3); exact Calls.quiet_of_same (k0 _)) | (go_at_call_of 116 (slB g4 c4); exact Calls.quiet_of_same (k1 _)))
  go_wp2
  go_ret3
  exact ⟨rfl, nq, rfl⟩
set_option maxRecDepth 20000 in
set_option maxHeartbeats 8000000 in
theorem mleft_no (h : MX w X k M) (h0 : M.state ≠ 0) :
    Calls Tryz.prog 75 #[.pointer (some ⟨k, 0, none⟩)] w fun e w' => e = .returned (.tuple #[.int .i64 0, .int .i64 0, .int .i64 M.state]) ∧ w' = w := by
  have ks := mstate_any h
  generalize M.state = s at *
  clear h
  go_enter Tryz.func75, Tryz.ntmps75
  go_wp2_with fail
  refine ks.mono ?_
  rintro e w0 ⟨rfl, hw0⟩
  have hw0' := hw0.symm
  subst hw0'
  clear hw0 ks
  go_wp2
  go_ret3
  exact ⟨rfl, rfl⟩
end
end Go.Proofs.YthohoicgidjpfabGreat
