import Derived.Test.YtkkmkogpbhcpmabKErr2
namespace Go.Proofs.Ytkkmkogpbhcpmab
open Go.RowKit

theorem errNo_inj : ∀ j k : Fin 52, errNo j.val = errNo k.val → j = k := by decide +kernel
theorem er_at (k : Nat) (h : k < 52) (w : World) : Calls Try.prog 79 #[.int .i64 (errNo k)] w fun r w' => r = .returned (.string (errWd k)) ∧ Below w.heap.size w w' := by
  refine (err_walk (errNo k) w).mono ?_
  rintro r w' ⟨⟨s, rfl, ⟨j, hj, he, rfl⟩ | ⟨hn, _⟩⟩, hb⟩
  · have := congrArg Fin.val (errNo_inj ⟨j, hj⟩ ⟨k, h⟩ he)
    simp only at this
    rw [this]
    exact ⟨rfl, hb⟩
  · exact absurd rfl (hn k h)
theorem er_none (e : Int) (h : ∀ k : Fin 52, errNo k.val ≠ e) (w : World) : Calls Try.prog 79 #[.int .i64 e] w fun r w' => r = .returned (.string ⟨#[101, 114, 114, 111, 114]⟩) ∧ Below w.heap.size w w' := by
  refine (err_walk e w).mono ?_
  rintro r w' ⟨⟨s, rfl, ⟨j, hj, he, rfl⟩ | ⟨_, rfl⟩⟩, hb⟩
  · exact absurd he (h ⟨j, hj⟩)
  · exact ⟨rfl, hb⟩
theorem er0 (w : World) : Calls Try.prog 79 #[.int .i64 0] w fun r w' => r = .returned (.string ⟨#[111, 107]⟩) ∧ Below w.heap.size w w' := er_at 0 (by decide) w
theorem er1 (w : World) : Calls Try.prog 79 #[.int .i64 1] w fun r w' => r = .returned (.string ⟨#[97, 114, 103]⟩) ∧ Below w.heap.size w w' := er_at 1 (by decide) w
theorem er2 (w : World) : Calls Try.prog 79 #[.int .i64 2] w fun r w' => r = .returned (.string ⟨#[108, 101, 110, 103, 116, 104]⟩) ∧ Below w.heap.size w w' := er_at 2 (by decide) w
theorem er3 (w : World) : Calls Try.prog 79 #[.int .i64 3] w fun r w' => r = .returned (.string ⟨#[100, 101, 97, 100]⟩) ∧ Below w.heap.size w w' := er_at 3 (by decide) w
theorem er4 (w : World) : Calls Try.prog 79 #[.int .i64 4] w fun r w' => r = .returned (.string ⟨#[101, 110, 100, 101, 100]⟩) ∧ Below w.heap.size w w' := er_at 4 (by decide) w
theorem er5 (w : World) : Calls Try.prog 79 #[.int .i64 5] w fun r w' => r = .returned (.string ⟨#[98, 117, 115, 121]⟩) ∧ Below w.heap.size w w' := er_at 5 (by decide) w
theorem er6 (w : World) : Calls Try.prog 79 #[.int .i64 6] w fun r w' => r = .returned (.string ⟨#[99, 111, 114, 114, 117, 112, 116]⟩) ∧ Below w.heap.size w w' := er_at 6 (by decide) w
theorem er7 (w : World) : Calls Try.prog 79 #[.int .i64 7] w fun r w' => r = .returned (.string ⟨#[108, 111, 110, 103]⟩) ∧ Below w.heap.size w w' := er_at 7 (by decide) w
theorem er8 (w : World) : Calls Try.prog 79 #[.int .i64 10] w fun r w' => r = .returned (.string ⟨#[115, 101, 99, 116, 111, 114, 115]⟩) ∧ Below w.heap.size w w' := er_at 8 (by decide) w
theorem er9 (w : World) : Calls Try.prog 79 #[.int .i64 11] w fun r w' => r = .returned (.string ⟨#[114, 97, 110, 103, 101]⟩) ∧ Below w.heap.size w w' := er_at 9 (by decide) w
theorem er10 (w : World) : Calls Try.prog 79 #[.int .i64 20] w fun r w' => r = .returned (.string ⟨#[102, 105, 101, 108, 100]⟩) ∧ Below w.heap.size w w' := er_at 10 (by decide) w
theorem er11 (w : World) : Calls Try.prog 79 #[.int .i64 21] w fun r w' => r = .returned (.string ⟨#[110, 97, 109, 101]⟩) ∧ Below w.heap.size w w' := er_at 11 (by decide) w
theorem er12 (w : World) : Calls Try.prog 79 #[.int .i64 22] w fun r w' => r = .returned (.string ⟨#[103, 101, 111, 109, 101, 116, 114, 121]⟩) ∧ Below w.heap.size w w' := er_at 12 (by decide) w
theorem er13 (w : World) : Calls Try.prog 79 #[.int .i64 30] w fun r w' => r = .returned (.string ⟨#[116, 111, 114, 110]⟩) ∧ Below w.heap.size w w' := er_at 13 (by decide) w
theorem er14 (w : World) : Calls Try.prog 79 #[.int .i64 31] w fun r w' => r = .returned (.string ⟨#[115, 116, 97, 108, 101]⟩) ∧ Below w.heap.size w w' := er_at 14 (by decide) w
theorem er15 (w : World) : Calls Try.prog 79 #[.int .i64 40] w fun r w' => r = .returned (.string ⟨#[102, 117, 108, 108]⟩) ∧ Below w.heap.size w w' := er_at 15 (by decide) w
theorem er16 (w : World) : Calls Try.prog 79 #[.int .i64 41] w fun r w' => r = .returned (.string ⟨#[119, 111, 114, 110]⟩) ∧ Below w.heap.size w w' := er_at 16 (by decide) w
theorem er17 (w : World) : Calls Try.prog 79 #[.int .i64 50] w fun r w' => r = .returned (.string ⟨#[98, 117, 100, 103, 101, 116]⟩) ∧ Below w.heap.size w w' := er_at 17 (by decide) w
theorem er18 (w : World) : Calls Try.prog 79 #[.int .i64 60] w fun r w' => r = .returned (.string ⟨#[110, 111, 115, 112, 97, 99, 101]⟩) ∧ Below w.heap.size w w' := er_at 18 (by decide) w
theorem er19 (w : World) : Calls Try.prog 79 #[.int .i64 61] w fun r w' => r = .returned (.string ⟨#[110, 111, 110, 111, 100, 101, 115]⟩) ∧ Below w.heap.size w w' := er_at 19 (by decide) w
theorem er20 (w : World) : Calls Try.prog 79 #[.int .i64 62] w fun r w' => r = .returned (.string ⟨#[102, 114, 101, 101]⟩) ∧ Below w.heap.size w w' := er_at 20 (by decide) w
theorem er21 (w : World) : Calls Try.prog 79 #[.int .i64 70] w fun r w' => r = .returned (.string ⟨#[110, 111, 100, 101]⟩) ∧ Below w.heap.size w w' := er_at 21 (by decide) w
theorem er22 (w : World) : Calls Try.prog 79 #[.int .i64 71] w fun r w' => r = .returned (.string ⟨#[111, 119, 110, 101, 100]⟩) ∧ Below w.heap.size w w' := er_at 22 (by decide) w
theorem er23 (w : World) : Calls Try.prog 79 #[.int .i64 80] w fun r w' => r = .returned (.string ⟨#[98, 105, 103]⟩) ∧ Below w.heap.size w w' := er_at 23 (by decide) w
theorem er24 (w : World) : Calls Try.prog 79 #[.int .i64 90] w fun r w' => r = .returned (.string ⟨#[115, 116, 101, 112]⟩) ∧ Below w.heap.size w w' := er_at 24 (by decide) w
theorem er25 (w : World) : Calls Try.prog 79 #[.int .i64 100] w fun r w' => r = .returned (.string ⟨#[110, 111, 116, 102, 111, 117, 110, 100]⟩) ∧ Below w.heap.size w w' := er_at 25 (by decide) w
theorem er26 (w : World) : Calls Try.prog 79 #[.int .i64 101] w fun r w' => r = .returned (.string ⟨#[101, 120, 105, 115, 116, 115]⟩) ∧ Below w.heap.size w w' := er_at 26 (by decide) w
theorem er27 (w : World) : Calls Try.prog 79 #[.int .i64 110] w fun r w' => r = .returned (.string ⟨#[112, 97, 116, 104]⟩) ∧ Below w.heap.size w w' := er_at 27 (by decide) w
theorem er28 (w : World) : Calls Try.prog 79 #[.int .i64 111] w fun r w' => r = .returned (.string ⟨#[110, 111, 116, 100, 105, 114]⟩) ∧ Below w.heap.size w w' := er_at 28 (by decide) w
theorem er29 (w : World) : Calls Try.prog 79 #[.int .i64 112] w fun r w' => r = .returned (.string ⟨#[108, 111, 111, 112]⟩) ∧ Below w.heap.size w w' := er_at 29 (by decide) w
theorem er30 (w : World) : Calls Try.prog 79 #[.int .i64 120] w fun r w' => r = .returned (.string ⟨#[119, 111, 114, 107, 101, 114, 115]⟩) ∧ Below w.heap.size w w' := er_at 30 (by decide) w
theorem er31 (w : World) : Calls Try.prog 79 #[.int .i64 130] w fun r w' => r = .returned (.string ⟨#[111, 112]⟩) ∧ Below w.heap.size w w' := er_at 31 (by decide) w
theorem er32 (w : World) : Calls Try.prog 79 #[.int .i64 131] w fun r w' => r = .returned (.string ⟨#[105, 115, 100, 105, 114]⟩) ∧ Below w.heap.size w w' := er_at 32 (by decide) w
theorem er33 (w : World) : Calls Try.prog 79 #[.int .i64 132] w fun r w' => r = .returned (.string ⟨#[110, 111, 116, 101, 109, 112, 116, 121]⟩) ∧ Below w.heap.size w w' := er_at 33 (by decide) w
theorem er34 (w : World) : Calls Try.prog 79 #[.int .i64 133] w fun r w' => r = .returned (.string ⟨#[108, 105, 110, 107, 115]⟩) ∧ Below w.heap.size w w' := er_at 34 (by decide) w
theorem er35 (w : World) : Calls Try.prog 79 #[.int .i64 134] w fun r w' => r = .returned (.string ⟨#[105, 110, 115, 105, 100, 101]⟩) ∧ Below w.heap.size w w' := er_at 35 (by decide) w
theorem er36 (w : World) : Calls Try.prog 79 #[.int .i64 136] w fun r w' => r = .returned (.string ⟨#[110, 111, 116, 108, 105, 110, 107]⟩) ∧ Below w.heap.size w w' := er_at 36 (by decide) w
theorem er37 (w : World) : Calls Try.prog 79 #[.int .i64 137] w fun r w' => r = .returned (.string ⟨#[110, 111, 116, 104, 101, 108, 100]⟩) ∧ Below w.heap.size w w' := er_at 37 (by decide) w
theorem er38 (w : World) : Calls Try.prog 79 #[.int .i64 140] w fun r w' => r = .returned (.string ⟨#[104, 97, 110, 100, 108, 101]⟩) ∧ Below w.heap.size w w' := er_at 38 (by decide) w
theorem er39 (w : World) : Calls Try.prog 79 #[.int .i64 141] w fun r w' => r = .returned (.string ⟨#[109, 111, 100, 101]⟩) ∧ Below w.heap.size w w' := er_at 39 (by decide) w
theorem er40 (w : World) : Calls Try.prog 79 #[.int .i64 142] w fun r w' => r = .returned (.string ⟨#[109, 97, 110, 121]⟩) ∧ Below w.heap.size w w' := er_at 40 (by decide) w
theorem er41 (w : World) : Calls Try.prog 79 #[.int .i64 150] w fun r w' => r = .returned (.string ⟨#[97, 114, 99, 104, 105, 118, 101]⟩) ∧ Below w.heap.size w w' := er_at 41 (by decide) w
theorem er42 (w : World) : Calls Try.prog 79 #[.int .i64 160] w fun r w' => r = .returned (.string ⟨#[119, 111, 114, 100]⟩) ∧ Below w.heap.size w w' := er_at 42 (by decide) w
theorem er43 (w : World) : Calls Try.prog 79 #[.int .i64 180] w fun r w' => r = .returned (.string ⟨#[112, 97, 116, 99, 104]⟩) ∧ Below w.heap.size w w' := er_at 43 (by decide) w
theorem er44 (w : World) : Calls Try.prog 79 #[.int .i64 181] w fun r w' => r = .returned (.string ⟨#[98, 97, 115, 101]⟩) ∧ Below w.heap.size w w' := er_at 44 (by decide) w
theorem er45 (w : World) : Calls Try.prog 79 #[.int .i64 190] w fun r w' => r = .returned (.string ⟨#[112, 97, 116, 116, 101, 114, 110]⟩) ∧ Below w.heap.size w w' := er_at 45 (by decide) w
theorem er46 (w : World) : Calls Try.prog 79 #[.int .i64 191] w fun r w' => r = .returned (.string ⟨#[113, 117, 101, 114, 121]⟩) ∧ Below w.heap.size w w' := er_at 46 (by decide) w
theorem er47 (w : World) : Calls Try.prog 79 #[.int .i64 192] w fun r w' => r = .returned (.string ⟨#[100, 101, 101, 112]⟩) ∧ Below w.heap.size w w' := er_at 47 (by decide) w
theorem er48 (w : World) : Calls Try.prog 79 #[.int .i64 200] w fun r w' => r = .returned (.string ⟨#[115, 101, 115, 115, 105, 111, 110]⟩) ∧ Below w.heap.size w w' := er_at 48 (by decide) w
theorem er49 (w : World) : Calls Try.prog 79 #[.int .i64 201] w fun r w' => r = .returned (.string ⟨#[119, 97, 105, 116, 115]⟩) ∧ Below w.heap.size w w' := er_at 49 (by decide) w
theorem er50 (w : World) : Calls Try.prog 79 #[.int .i64 202] w fun r w' => r = .returned (.string ⟨#[100, 101, 97, 100, 108, 111, 99, 107]⟩) ∧ Below w.heap.size w w' := er_at 50 (by decide) w
theorem er51 (w : World) : Calls Try.prog 79 #[.int .i64 203] w fun r w' => r = .returned (.string ⟨#[108, 111, 99, 107, 115]⟩) ∧ Below w.heap.size w w' := er_at 51 (by decide) w
theorem er52 (w : World) : Calls Try.prog 79 #[.int .i64 (-9223372036854775808)] w fun r w' => r = .returned (.string ⟨#[101, 114, 114, 111, 114]⟩) ∧ Below w.heap.size w w' := er_none (-9223372036854775808) (by decide +kernel) w
theorem er53 (w : World) : Calls Try.prog 79 #[.int .i64 5] w fun r w' => r = .returned (.string ⟨#[98, 117, 115, 121]⟩) ∧ Below w.heap.size w w' := er_at 5 (by decide) w
theorem er54 (w : World) : Calls Try.prog 79 #[.int .i64 999] w fun r w' => r = .returned (.string ⟨#[101, 114, 114, 111, 114]⟩) ∧ Below w.heap.size w w' := er_none 999 (by decide +kernel) w
end Go.Proofs.Ytkkmkogpbhcpmab
