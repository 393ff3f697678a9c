import Derived.Test.YtomphdpjhgcnaaaDoorCS3
namespace Go.Proofs.YtomphdpjhgcnaaaDoor
open Go.RowKit Go.Maps

/-- A list of faults that is only read. -/
def Faults (w : World) (B : Nat) (sa : Option Addr) (n : Nat) : Prop :=
  (sa = none → n = 0) ∧ ∀ y, sa = some y → ∀ i, i < n → ∃ b o, y = ⟨b, o, none⟩ ∧ b < B ∧ ∃ (kd N I K O : Int), w.cell? ⟨b, o + i * 5, none⟩ = some (.int .i64 kd) ∧ w.cell? ⟨b, o + i * 5 + 1, none⟩ = some (.int .i64 N) ∧ w.cell? ⟨b, o + i * 5 + 2, none⟩ = some (.int .i64 I) ∧ w.cell? ⟨b, o + i * 5 + 3, none⟩ = some (.int .i64 K) ∧ w.cell? ⟨b, o + i * 5 + 4, none⟩ = some (.int .i64 O) ∧ I64 kd ∧ I64 N ∧ I64 I ∧ I64 K ∧ I64 O
theorem Faults.far {w w' : World} {B : Nat} {sa : Option Addr} {n : Nat} (h : Faults w B sa n) (hb : Below B w w') : Faults w' B sa n := by
  refine ⟨h.1, fun y hy i hi => ?_⟩
  obtain ⟨b, o, rfl, hbB, kd, N, I, K, O, c0, c1, c2, c3, c4, h5⟩ := h.2 y hy i hi
  have e := hb.block b hbB
  exact ⟨b, o, rfl, hbB, kd, N, I, K, O, (World.cell?_of_block (w := w) (a := ⟨b, _, none⟩) e).trans c0, (World.cell?_of_block (w := w) (a := ⟨b, _, none⟩) e).trans c1, (World.cell?_of_block (w := w) (a := ⟨b, _, none⟩) e).trans c2, (World.cell?_of_block (w := w) (a := ⟨b, _, none⟩) e).trans c3, (World.cell?_of_block (w := w) (a := ⟨b, _, none⟩) e).trans c4, h5⟩
theorem said2 : saidL 2 0 0 0 0 = [110, 111, 100, 101, 32, 49, 32, 105, 115, 32, 110, 111, 32, 114, 111, 111, 116] := by
  unfold saidL
  rw [if_pos (by decide)]
  rfl
theorem i64_0 : I64 0 := ⟨by decide, by decide⟩

set_option maxRecDepth 20000 in
set_option maxHeartbeats 4000000 in
theorem checkSays_any (sa : Option Addr) (n c : Nat) (w : World) (hF : Faults w w.heap.size sa n) (hW : WD w) (hP : PT w) :
    Calls Tryd.prog 3 #[.slice sa n c] w fun e w' => e = .returned (.bool true) ∧ Below w.heap.size w w' := by
  have hs2 := say_any 2 0 0 0 0 i64_0 i64_0 i64_0 i64_0 w hP
  rw [said2] at hs2
  have HC := Hid.mk (And.intro hF (And.intro hW hP))
  clear hF hW hP
  go_enter Tryd.func3, Tryd.ntmps3
  go_wp2_with fail
  refine hs2.mono ?_
  rintro e w1 ⟨rfl, hb1⟩
  have HB1 := Hid.mk hb1
  clear hb1 hs2
  go_wp2_with fail
  go_loopw [4] (fun iv wr => ∃ q : Nat, iv = .int .i64 q ∧ q ≤ n ∧ Below w.heap.size w wr) (fun iv _ => n - (intOf iv).toNat)
  case atStart => exact ⟨0, rfl, Nat.zero_le _, HB1.out⟩
  case round =>
    obtain ⟨q, rfl, hq, hb⟩ := hrel
    have HB := Hid.mk hb
    by_cases hlt : q < n
    · have hlt' : (q : Int) < (n : Int) := by omega
      by_cases h1000 : q < 1000
      · have h1000' : (q : Int) < 1000 := by omega
        have hw64 : wrap64 ((q : Int) + 1) = ((q + 1 : Nat) : Int) := by
          rw [IntWalk.wrap64_in _ (by omega)]
          rfl
        obtain ⟨ad, had⟩ : ∃ ad, sa = some ad := by
          cases sa with
          | none => exact absurd (HC.out.1.1 rfl) (by omega)
          | some ad => exact ⟨ad, rfl⟩
        subst had
        obtain ⟨b, o, rfl, hbB, kd, N, I, K, O, c0, c1, c2, c3, c4, i0, i1, i2, i3, i4⟩ := (HC.out.1.far hb).2 ad rfl q hlt
        have hsay := say_any kd N I K O i1 i2 i3 i4 wr (HC.out.2.2.later hb)
        have hsd := fun w' (h : WD w') => said_any kd N I K O i0 i1 i2 i3 i4 w' h
        have hz := hb.size
        have hwd := HC.out.2.1.later hb
        have hcs : ∀ w', Below wr.heap.size wr w' → w'.cell? ⟨b, o + q * 5, none⟩ = some (.int .i64 kd) ∧ w'.cell? ⟨b, o + q * 5 + 1, none⟩ = some (.int .i64 N) ∧ w'.cell? ⟨b, o + q * 5 + 2, none⟩ = some (.int .i64 I) ∧ w'.cell? ⟨b, o + q * 5 + 3, none⟩ = some (.int .i64 K) ∧ w'.cell? ⟨b, o + q * 5 + 4, none⟩ = some (.int .i64 O) := fun w' hb' =>
          ⟨cell_later hb' c0, cell_later hb' c1, cell_later hb' c2, cell_later hb' c3, cell_later hb' c4⟩
        have HCS := Hid.mk (And.intro hcs hwd)
        have HSD := Hid.mk hsd
        clear hwd hsd i0 i1 i2 i3 i4 hb hcs
        generalize (⟨(saidL kd N I K O).toArray⟩ : ByteArray) = X at *
        go_wp2_with fail
        refine hsay.mono ?_
        rintro e w2 ⟨rfl, hb2⟩
        obtain ⟨d0, d1, d2, d3, d4⟩ := HCS.out.1 _ hb2
        have hs2 := HSD.out _ (HCS.out.2.later hb2)
        have HB2 := Hid.mk (HB.out.trans (hb2.mono hz))
        have hz2 := HB2.out.size
        clear hsay c0 c1 c2 c3 c4 hb2 HSD HCS HB
        go_wp2_with fail
        refine hs2.mono ?_
        rintro e w3 ⟨rfl, hb3⟩
        have HB3 := Hid.mk (HB2.out.trans (hb3.mono hz2))
        clear hs2 hb3 HB2 d0 d1 d2 d3 d4
        go_wp2
        go_roundw
        case rel => exact ⟨q + 1, by first | rfl | go_num | rw [hw64], by omega, HB3.out⟩
        case measure => first | (simp [intOf]; omega) | (rw [hw64]; simp [intOf]; omega)
      · have h1000' : ¬ (q : Int) < 1000 := by omega
        clear hb
        go_wp2
        go_ret
        exact ⟨rfl, HB.out⟩
    · have hlt' : ¬ (q : Int) < (n : Int) := by omega
      clear hb
      go_wp2
      go_ret
      exact ⟨rfl, HB.out⟩
end Go.Proofs.YtomphdpjhgcnaaaDoor
