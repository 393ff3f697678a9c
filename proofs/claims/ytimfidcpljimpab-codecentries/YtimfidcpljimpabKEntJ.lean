import Derived.Test.YtimfidcpljimpabKEntI
namespace Go.Proofs.Ytimfidcpljimpab
open Go.RowKit

set_option maxRecDepth 20000 in
set_option maxHeartbeats 8000000 in
theorem rdecent_ref (b o c : Nat) (l : List Int) (w : World) (hl : l.length = 64) (hc : 64 ≤ c) (hb : Bytes l) (hs : ∀ i, i < 64 → w.cell? ⟨b, o + i, none⟩ = some (.int .u8 (l.getD i 0))) (h54 : u8 l 5 ≤ 54)
    (henc : ∀ wx, Calls Try.prog 24 #[ent ((u32 l 0 : Nat) : Int) ((u8 l 4 : Nat) : Int) (nm l) 0] wx fun e w' => ∃ v, e = .returned (.tuple #[v, .int .i64 20]) ∧ Enc wx w' v []) :
    Calls Try.prog 26 #[.slice (some ⟨b, o, none⟩) 64 c] w fun e w' => e = .returned (.tuple #[ent0, .int .i64 6]) ∧ Below w.heap.size w w' := by
  have hbw : b < w.heap.size := World.block_lt_of_cell? _ _ (hs 5 (by omega))
  obtain ⟨w1, hw1⟩ : ∃ w1, w1 = w.alloc (.cells #[.int .i64 0, .int .i64 0, .string ⟨#[]⟩, .int .i64 0] 38) := ⟨_, rfl⟩
  have hB1 : Below w.heap.size w w1 := by rw [hw1]; exact (Below.refl _ w).alloc (Nat.le_refl _) _
  have hq1 : w1.heap[w.heap.size]? = some (.cells #[.int .i64 0, .int .i64 0, .string ⟨#[]⟩, .int .i64 0] 38 (0, 0)) := by rw [hw1]; exact heap_alloc_new _ _
  have hsz1 : w1.heap.size = w.heap.size + 1 := by rw [hw1]; simp
  have hs1 : ∀ wx, Below w1.heap.size w1 wx → ∀ i, i < 64 → wx.cell? ⟨b, o + i, none⟩ = some (.int .u8 (l.getD i 0)) := fun wx hx i hi => cell_later (hB1.trans (hx.mono hB1.size)) (hs i hi)
  have c5 := hs 5 (by omega)
  rw [u8_at hb (by omega)] at c5
  have c5' := fun ob => Lib.cell?_alloc_some ob c5
  have h54' : ¬ 54 < ((u8 l 5 : Nat) : Int) := by omega
  have HS : Hid (∀ wx, Below w1.heap.size w1 wx → wx.cell? ⟨b, o + 4, none⟩ = some (.int .u8 ((u8 l 4 : Nat) : Int)) ∧ (convert 29 9 (.slice (some ⟨b, o + 6, none⟩) (u8 l 5) (c - 6))).run Try.prog wx = .ok (.string (nm l)) wx) := fun wx hx =>
    ⟨by rw [hs1 wx hx 4 (by omega), u8_at hb (by omega)], run_convert_bytes_arg (P := Try.prog) wx 29 5 Try.underlying29 Try.underlying5 b (o + 6) (u8 l 5) (c - 6) (part l 6 (u8 l 5)) (part_len (by omega)) (fun i hi => by rw [part_at hi, Nat.add_assoc]; exact hs1 wx hx (6 + i) (by omega)) 9 Try.underlying9⟩
  have HT : Hid (∀ wx, Below w1.heap.size w1 wx → Calls Try.prog 59 #[.slice (some ⟨b, o, none⟩) 64 c, .int .i64 0, .int .i64 4] wx fun e w' => e = .returned (.int .i64 ((u32 l 0 : Nat) : Int)) ∧ w' = wx) := fun wx hx => rtake4 b o 64 c l 0 wx hl hb (by omega) (by omega) (hs1 wx hx)
  have Hs := Hid.mk hs1
  have Henc := Hid.mk henc
  have h256 := u8_lt hb (k := 4) (by omega)
  have k1 : (6 : Int) ≤ 6 + ((u8 l 5 : Nat) : Int) := by omega
  have k2 : 6 + ((u8 l 5 : Nat) : Int) ≤ (c : Int) := by omega
  have k3 : IntKind.i64.wrap (6 + ((u8 l 5 : Nat) : Int)) = 6 + ((u8 l 5 : Nat) : Int) := by rw [IntKind.wrap_i64]; omega
  have k4 : ¬ c = 6 := by omega
  have k5 : IntKind.i64.wrap ((u8 l 4 : Nat) : Int) = ((u8 l 4 : Nat) : Int) := by rw [IntKind.wrap_i64]; omega
  have k6 : (6 + ((u8 l 5 : Nat) : Int)).toNat - 6 = u8 l 5 := by omega
  clear hs hs1 c5 henc
  go_enter Try.func26, Try.ntmps26
  go_wp2_with fail
  rw [← hw1]
  clear hw1 c5'
  have P0 := Hid.mk (below_drew (Below.refl w1.heap.size w1))
  have P1 := Hid.mk (fun ob => below_drew ((Below.refl w1.heap.size w1).alloc (Nat.le_refl _) ob))
  obtain ⟨w2, hw2⟩ : ∃ w2, w2 = (w1.alloc (.cells #[.int .i64 ((u32 l 0 : Nat) : Int), .int .i64 ((u8 l 4 : Nat) : Int), .string (nm l), .int .i64 0] 38)).drew := ⟨_, rfl⟩
  have hb2 : Below w1.heap.size w1 w2 := by rw [hw2]; exact P1.out _
  have hB2 : Below w.heap.size w w2 := hB1.trans (hb2.mono hB1.size)
  have hq2 : w2.heap[w.heap.size + 1]? = some (.cells #[.int .i64 ((u32 l 0 : Nat) : Int), .int .i64 ((u8 l 4 : Nat) : Int), .string (nm l), .int .i64 0] 38 (0, 0)) := by
    rw [hw2, ← hsz1]
    exact heap_alloc_new _ _
  have hp2 := (hb2.block w.heap.size (by omega)).trans hq1
  have a0 := cell_of_block hq2 (j := 0) rfl
  have a1 := cell_of_block hq2 (j := 1) rfl
  have a2 := cell_of_block hq2 (j := 2) rfl
  have a3 := cell_of_block hq2 (j := 3) rfl
  rw [hw2] at a0 a1 a2 a3
  have HQ := Hid.mk (And.intro hq2 (And.intro hp2 (And.intro hB2 hb2)))
  clear hq2 hp2 hB2 hb2
  go_region_held3 (fun w' => w'.cell? ⟨b, o + 4, none⟩ = some (.int .u8 ((u8 l 4 : Nat) : Int)) ∧ (convert 29 9 (.slice (some ⟨b, o + 6, none⟩) (u8 l 5) (c - 6))).run Try.prog w' = .ok (.string (nm l)) w')
    (first | exact HS.out _ P0.out | exact HS.out _ (P1.out _))
    (first | (go_at_call 59; refine (HT.out _ ?_).mono ?_; (first | exact P0.out | exact P1.out _); rintro e wq ⟨rfl, hw⟩; have hw' := hw.symm; subst hw'; clear hw))
  all_goals
    go_wp2_with fail
    rw [← hw2]
    refine (Henc.out _).mono ?_
    rintro e w3 ⟨v, rfl, ag, cg, rfl, hsg, hb3⟩
    have hB3 : Below w.heap.size w w3 := HQ.out.2.2.1.trans (hb3.mono HQ.out.2.2.1.size)
    have p3 := (hb3.block w.heap.size (Array.getElem?_eq_some_iff.1 HQ.out.2.1).1).trans HQ.out.2.1
    have d0 := cell_of_block p3 (j := 0) rfl
    have d1 := cell_of_block p3 (j := 1) rfl
    have d2 := cell_of_block p3 (j := 2) rfl
    have d3 := cell_of_block p3 (j := 3) rfl
    have f0 := frozen_of_block p3 0
    have f1 := frozen_of_block p3 1
    have f2 := frozen_of_block p3 2
    have f3 := frozen_of_block p3 3
    have HE := Hid.mk (fun (u0 u1 u2 u3 : Value) => below_put (below_put (below_put (below_put hB3 (Nat.le_refl w.heap.size) hB3.size (i := 0) u0) (Nat.le_refl w.heap.size) (by rw [size_setCell]; exact hB3.size) (i := 1) u1) (Nat.le_refl w.heap.size) (by rw [size_setCell, size_setCell]; exact hB3.size) (i := 2) u2) (Nat.le_refl w.heap.size) (by rw [size_setCell, size_setCell, size_setCell]; exact hB3.size) (i := 3) u3)
    clear Henc hsg hb3 p3 hB3 HQ a0 a1 a2 a3 hw2
    go_wp2
    exact bodyPost_ret (v := .tuple #[ent0, .int .i64 6]) (by simp [results, Try.results26, go_sem, d0, d1, d2, d3]) rfl ⟨rfl, HE.out _ _ _ _⟩
end Go.Proofs.Ytimfidcpljimpab
