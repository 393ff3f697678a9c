import Derived.Test.YtkcakpcmpbjhlaaDoorSV2
import Derived.Test.YtkcakpcmpbjhlaaDoorSV3
namespace Go.Proofs.YtkcakpcmpbjhlaaDoor
open Go.RowKit Go.Maps

/-- A list of losses that is only read. -/
def Losses (w : World) (B : Nat) (sa : Option Addr) (n : Nat) : Prop :=
  (sa = none → n = 0) ∧ ∀ y, sa = some y → ∀ i, i < n → ∃ b o, y = ⟨b, o, none⟩ ∧ b < B ∧ ∃ (kd N I K O : Int), w.cell? ⟨b, o + i * 5, none⟩ = some (.int .i64 kd) ∧ w.cell? ⟨b, o + i * 5 + 1, none⟩ = some (.int .i64 N) ∧ w.cell? ⟨b, o + i * 5 + 2, none⟩ = some (.int .i64 I) ∧ w.cell? ⟨b, o + i * 5 + 3, none⟩ = some (.int .i64 K) ∧ w.cell? ⟨b, o + i * 5 + 4, none⟩ = some (.int .i64 O) ∧ I64 kd ∧ I64 N ∧ I64 I ∧ I64 K ∧ I64 O
theorem Losses.far {w w' : World} {B : Nat} {sa : Option Addr} {n : Nat} (h : Losses w B sa n) (hb : Below B w w') : Losses w' B sa n := by
  refine ⟨h.1, fun y hy i hi => ?_⟩
  obtain ⟨b, o, rfl, hbB, kd, N, I, K, O, c0, c1, c2, c3, c4, h5⟩ := h.2 y hy i hi
  have e := hb.block b hbB
  exact ⟨b, o, rfl, hbB, kd, N, I, K, O, (World.cell?_of_block (w := w) (a := ⟨b, _, none⟩) e).trans c0, (World.cell?_of_block (w := w) (a := ⟨b, _, none⟩) e).trans c1, (World.cell?_of_block (w := w) (a := ⟨b, _, none⟩) e).trans c2, (World.cell?_of_block (w := w) (a := ⟨b, _, none⟩) e).trans c3, (World.cell?_of_block (w := w) (a := ⟨b, _, none⟩) e).trans c4, h5⟩
theorem itoa12 : Lib.itoa 12 = [49, 50] := by
  rw [show (12 : Int) = ((12 : Nat) : Int) from rfl, Lib.itoa_nonneg, Lib.decDigits, dif_neg (by omega), Lib.decDigits, dif_pos (by omega)]
  rfl
theorem said17 : saidV 17 12 0 0 0 = [110, 111, 100, 101, 32, 49, 50, 58, 32, 108, 111, 111, 115, 101] := by
  unfold saidV
  rw [if_pos (by decide)]
  show [110, 111, 100, 101, 32] ++ (Lib.itoa 12 ++ [58, 32, 108, 111, 111, 115, 101]) = _
  rw [itoa12]
  rfl
theorem i64_0 : I64 0 := ⟨by decide, by decide⟩
theorem i64_12 : I64 12 := ⟨by decide, by decide⟩

set_option maxRecDepth 20000 in
set_option maxHeartbeats 4000000 in
theorem salvageSays_any (sa : Option Addr) (n c : Nat) (w : World) (hn : n ≤ 9223372036854775807) (hF : Losses w w.heap.size sa n) (hP : PT w) :
    Calls Tryd.prog 3 #[.slice sa n c] w fun e w' => e = .returned (.bool true) ∧ Below w.heap.size w w' := by
  have hs2 := say_any 17 12 0 0 0 i64_12 i64_0 i64_0 i64_0 w hP
  rw [said17] at hs2
  have HC := Hid.mk (And.intro hF hP)
  clear hF hP
  go_enter Tryd.func3, Tryd.ntmps3
  go_wp2_with fail
  refine hs2.mono ?_
  rintro e w1 ⟨rfl, hb1⟩
  have HB1 := Hid.mk hb1
  clear hb1 hs2
  go_wp2_with fail
  go_loopw [3] (fun iv wr => ∃ q : Nat, iv = .int .i64 q ∧ q ≤ n ∧ Below w.heap.size w wr) (fun iv _ => n - (intOf iv).toNat)
  case atStart => exact ⟨0, rfl, Nat.zero_le _, HB1.out⟩
  case round =>
    obtain ⟨q, rfl, hq, hb⟩ := hrel
    have HB := Hid.mk hb
    by_cases hlt : q < n
    · have hlt' : (q : Int) < (n : Int) := by omega
      have hw64 : wrap64 ((q : Int) + 1) = ((q + 1 : Nat) : Int) := by
        rw [IntWalk.wrap64_in _ (by omega)]
        rfl
      obtain ⟨ad, had⟩ : ∃ ad, sa = some ad := by
        cases sa with
        | none => exact absurd (HC.out.1.1 rfl) (by omega)
        | some ad => exact ⟨ad, rfl⟩
      subst had
      obtain ⟨b, o, rfl, hbB, kd, N, I, K, O, c0, c1, c2, c3, c4, i0, i1, i2, i3, i4⟩ := (HC.out.1.far hb).2 ad rfl q hlt
      have hz := hb.size
      have hpt := HC.out.2.later hb
      have hsayA : ∀ w', Below wr.heap.size wr w' → Calls Tryd.prog 4 #[.agg #[.int .i64 kd, .int .i64 N, .int .i64 I, .int .i64 K, .int .i64 O]] w' fun e w'' => e = .returned (.string ⟨(saidV kd N I K O).toArray⟩) ∧ Below wr.heap.size wr w'' := fun w' hb' => by
        refine (say_any kd N I K O i1 i2 i3 i4 w' (hpt.later hb')).mono ?_
        rintro e w'' ⟨rfl, hb2⟩
        exact ⟨rfl, hb'.trans (hb2.mono hb'.size)⟩
      have hrsayA : ∀ w', Below wr.heap.size wr w' → Calls Tryd.prog 5 #[.agg #[.int .i64 kd, .int .i64 N, .int .i64 I, .int .i64 K, .int .i64 O]] w' fun e w'' => e = .returned (.string ⟨(saidV kd N I K O).toArray⟩) ∧ Below wr.heap.size wr w'' := fun w' hb' => by
        refine (rsay_any kd N I K O i1 i2 i3 i4 w' (hpt.later hb')).mono ?_
        rintro e w'' ⟨rfl, hb2⟩
        exact ⟨rfl, hb'.trans (hb2.mono hb'.size)⟩
      have hcs : ∀ w', Below wr.heap.size wr w' → w'.cell? ⟨b, o + q * 5, none⟩ = some (.int .i64 kd) ∧ w'.cell? ⟨b, o + q * 5 + 1, none⟩ = some (.int .i64 N) ∧ w'.cell? ⟨b, o + q * 5 + 2, none⟩ = some (.int .i64 I) ∧ w'.cell? ⟨b, o + q * 5 + 3, none⟩ = some (.int .i64 K) ∧ w'.cell? ⟨b, o + q * 5 + 4, none⟩ = some (.int .i64 O) := fun w' hb' =>
        ⟨cell_later hb' c0, cell_later hb' c1, cell_later hb' c2, cell_later hb' c3, cell_later hb' c4⟩
      have HCS := Hid.mk hcs
      have hb9 : Below wr.heap.size wr wr := Below.refl _ _
      clear hpt i0 i1 i2 i3 i4 hb hcs c0 c1 c2 c3 c4
      generalize (⟨(saidV kd N I K O).toArray⟩ : ByteArray) = X at *
      go_wp2_with fail
      go_region_held3 (fun w' => w'.cell? ⟨b, o + q * 5, none⟩ = some (.int .i64 kd) ∧ w'.cell? ⟨b, o + q * 5 + 1, none⟩ = some (.int .i64 N) ∧ w'.cell? ⟨b, o + q * 5 + 2, none⟩ = some (.int .i64 I) ∧ w'.cell? ⟨b, o + q * 5 + 3, none⟩ = some (.int .i64 K) ∧ w'.cell? ⟨b, o + q * 5 + 4, none⟩ = some (.int .i64 O))
        (first | exact HCS.out _ hb9 | exact HCS.out _ (below_drew hb9))
        (first
          | (go_at_call 4; refine (hsayA _ (by first | exact hb9 | exact below_drew hb9)).mono ?_; rintro e w9 ⟨rfl, hb9⟩)
          | (go_at_call 5; refine (hrsayA _ (by first | exact hb9 | exact below_drew hb9)).mono ?_; rintro e w9 ⟨rfl, hb9⟩))
      have HB3 := Hid.mk (HB.out.trans (hb9.mono hz))
      clear hsayA hrsayA HCS HB
      go_wp2
      go_roundw
      case rel => exact ⟨q + 1, by first | rfl | go_num | rw [hw64], by omega, HB3.out⟩
      case measure => first | (simp [intOf]; omega) | (rw [hw64]; simp [intOf]; omega)
    · have hlt' : ¬ (q : Int) < (n : Int) := by omega
      clear hb
      go_wp2
      go_ret
      exact ⟨rfl, HB.out⟩
end Go.Proofs.YtkcakpcmpbjhlaaDoor
