import Derived.Test.YtkkmkogpbhcpmabKBase
namespace Go.Proofs.Ytkkmkogpbhcpmab
open Go.RowKit

/-- The errors' numbers and words. -/
def errT : List (Int × ByteArray) := [(0, ⟨#[111, 107]⟩), (1, ⟨#[97, 114, 103]⟩), (2, ⟨#[108, 101, 110, 103, 116, 104]⟩), (3, ⟨#[100, 101, 97, 100]⟩), (4, ⟨#[101, 110, 100, 101, 100]⟩), (5, ⟨#[98, 117, 115, 121]⟩), (6, ⟨#[99, 111, 114, 114, 117, 112, 116]⟩), (7, ⟨#[108, 111, 110, 103]⟩), (10, ⟨#[115, 101, 99, 116, 111, 114, 115]⟩), (11, ⟨#[114, 97, 110, 103, 101]⟩), (20, ⟨#[102, 105, 101, 108, 100]⟩), (21, ⟨#[110, 97, 109, 101]⟩), (22, ⟨#[103, 101, 111, 109, 101, 116, 114, 121]⟩), (30, ⟨#[116, 111, 114, 110]⟩), (31, ⟨#[115, 116, 97, 108, 101]⟩), (40, ⟨#[102, 117, 108, 108]⟩), (41, ⟨#[119, 111, 114, 110]⟩), (50, ⟨#[98, 117, 100, 103, 101, 116]⟩), (60, ⟨#[110, 111, 115, 112, 97, 99, 101]⟩), (61, ⟨#[110, 111, 110, 111, 100, 101, 115]⟩), (62, ⟨#[102, 114, 101, 101]⟩), (70, ⟨#[110, 111, 100, 101]⟩), (71, ⟨#[111, 119, 110, 101, 100]⟩), (80, ⟨#[98, 105, 103]⟩), (90, ⟨#[115, 116, 101, 112]⟩), (100, ⟨#[110, 111, 116, 102, 111, 117, 110, 100]⟩), (101, ⟨#[101, 120, 105, 115, 116, 115]⟩), (110, ⟨#[112, 97, 116, 104]⟩), (111, ⟨#[110, 111, 116, 100, 105, 114]⟩), (112, ⟨#[108, 111, 111, 112]⟩), (120, ⟨#[119, 111, 114, 107, 101, 114, 115]⟩), (130, ⟨#[111, 112]⟩), (131, ⟨#[105, 115, 100, 105, 114]⟩), (132, ⟨#[110, 111, 116, 101, 109, 112, 116, 121]⟩), (133, ⟨#[108, 105, 110, 107, 115]⟩), (134, ⟨#[105, 110, 115, 105, 100, 101]⟩), (136, ⟨#[110, 111, 116, 108, 105, 110, 107]⟩), (137, ⟨#[110, 111, 116, 104, 101, 108, 100]⟩), (140, ⟨#[104, 97, 110, 100, 108, 101]⟩), (141, ⟨#[109, 111, 100, 101]⟩), (142, ⟨#[109, 97, 110, 121]⟩), (150, ⟨#[97, 114, 99, 104, 105, 118, 101]⟩), (160, ⟨#[119, 111, 114, 100]⟩), (180, ⟨#[112, 97, 116, 99, 104]⟩), (181, ⟨#[98, 97, 115, 101]⟩), (190, ⟨#[112, 97, 116, 116, 101, 114, 110]⟩), (191, ⟨#[113, 117, 101, 114, 121]⟩), (192, ⟨#[100, 101, 101, 112]⟩), (200, ⟨#[115, 101, 115, 115, 105, 111, 110]⟩), (201, ⟨#[119, 97, 105, 116, 115]⟩), (202, ⟨#[100, 101, 97, 100, 108, 111, 99, 107]⟩), (203, ⟨#[108, 111, 99, 107, 115]⟩)]
def errNo (k : Nat) : Int := (errT.getD k (0, ⟨#[]⟩)).1
def errWd (k : Nat) : ByteArray := (errT.getD k (0, ⟨#[]⟩)).2
/-- The table's cells. -/
def errA : Array Value := #[.int .i64 0, .string ⟨#[111, 107]⟩, .int .i64 1, .string ⟨#[97, 114, 103]⟩, .int .i64 2, .string ⟨#[108, 101, 110, 103, 116, 104]⟩, .int .i64 3, .string ⟨#[100, 101, 97, 100]⟩, .int .i64 4, .string ⟨#[101, 110, 100, 101, 100]⟩, .int .i64 5, .string ⟨#[98, 117, 115, 121]⟩, .int .i64 6, .string ⟨#[99, 111, 114, 114, 117, 112, 116]⟩, .int .i64 7, .string ⟨#[108, 111, 110, 103]⟩, .int .i64 10, .string ⟨#[115, 101, 99, 116, 111, 114, 115]⟩, .int .i64 11, .string ⟨#[114, 97, 110, 103, 101]⟩, .int .i64 20, .string ⟨#[102, 105, 101, 108, 100]⟩, .int .i64 21, .string ⟨#[110, 97, 109, 101]⟩, .int .i64 22, .string ⟨#[103, 101, 111, 109, 101, 116, 114, 121]⟩, .int .i64 30, .string ⟨#[116, 111, 114, 110]⟩, .int .i64 31, .string ⟨#[115, 116, 97, 108, 101]⟩, .int .i64 40, .string ⟨#[102, 117, 108, 108]⟩, .int .i64 41, .string ⟨#[119, 111, 114, 110]⟩, .int .i64 50, .string ⟨#[98, 117, 100, 103, 101, 116]⟩, .int .i64 60, .string ⟨#[110, 111, 115, 112, 97, 99, 101]⟩, .int .i64 61, .string ⟨#[110, 111, 110, 111, 100, 101, 115]⟩, .int .i64 62, .string ⟨#[102, 114, 101, 101]⟩, .int .i64 70, .string ⟨#[110, 111, 100, 101]⟩, .int .i64 71, .string ⟨#[111, 119, 110, 101, 100]⟩, .int .i64 80, .string ⟨#[98, 105, 103]⟩, .int .i64 90, .string ⟨#[115, 116, 101, 112]⟩, .int .i64 100, .string ⟨#[110, 111, 116, 102, 111, 117, 110, 100]⟩, .int .i64 101, .string ⟨#[101, 120, 105, 115, 116, 115]⟩, .int .i64 110, .string ⟨#[112, 97, 116, 104]⟩, .int .i64 111, .string ⟨#[110, 111, 116, 100, 105, 114]⟩, .int .i64 112, .string ⟨#[108, 111, 111, 112]⟩, .int .i64 120, .string ⟨#[119, 111, 114, 107, 101, 114, 115]⟩, .int .i64 130, .string ⟨#[111, 112]⟩, .int .i64 131, .string ⟨#[105, 115, 100, 105, 114]⟩, .int .i64 132, .string ⟨#[110, 111, 116, 101, 109, 112, 116, 121]⟩, .int .i64 133, .string ⟨#[108, 105, 110, 107, 115]⟩, .int .i64 134, .string ⟨#[105, 110, 115, 105, 100, 101]⟩, .int .i64 136, .string ⟨#[110, 111, 116, 108, 105, 110, 107]⟩, .int .i64 137, .string ⟨#[110, 111, 116, 104, 101, 108, 100]⟩, .int .i64 140, .string ⟨#[104, 97, 110, 100, 108, 101]⟩, .int .i64 141, .string ⟨#[109, 111, 100, 101]⟩, .int .i64 142, .string ⟨#[109, 97, 110, 121]⟩, .int .i64 150, .string ⟨#[97, 114, 99, 104, 105, 118, 101]⟩, .int .i64 160, .string ⟨#[119, 111, 114, 100]⟩, .int .i64 180, .string ⟨#[112, 97, 116, 99, 104]⟩, .int .i64 181, .string ⟨#[98, 97, 115, 101]⟩, .int .i64 190, .string ⟨#[112, 97, 116, 116, 101, 114, 110]⟩, .int .i64 191, .string ⟨#[113, 117, 101, 114, 121]⟩, .int .i64 192, .string ⟨#[100, 101, 101, 112]⟩, .int .i64 200, .string ⟨#[115, 101, 115, 115, 105, 111, 110]⟩, .int .i64 201, .string ⟨#[119, 97, 105, 116, 115]⟩, .int .i64 202, .string ⟨#[100, 101, 97, 100, 108, 111, 99, 107]⟩, .int .i64 203, .string ⟨#[108, 111, 99, 107, 115]⟩]
theorem idx_gen (cs : Array Value) (k : Nat) (h : k < 52) (w : World) : (Instr.index 178 (.agg cs) (.int .i64 (k : Int))).run Try.prog w = .ok (.agg (cs.extract (k * 2) (k * 2 + 2))) w := by
  have h1 : (k : Int) < 52 := by omega
  simp [Instr.index, go_sem]
  intro h2
  omega
/-- The table holds a number and a word at each place. -/
def errOk (k : Nat) : Bool := match errA[k * 2]?, errA[k * 2 + 1]? with
  | some (.int .i64 n), some (.string s) => decide (n = errNo k) && decide (s.data = (errWd k).data)
  | _, _ => false
theorem errOk_all : ∀ k : Fin 52, errOk k.val = true := by decide +kernel
theorem errA_size : errA.size = 104 := rfl
theorem err_at_ (k : Nat) (h : k < 52) : errA.extract (k * 2) (k * 2 + 2) = #[.int .i64 (errNo k), .string (errWd k)] := by
  have hk := errOk_all ⟨k, h⟩
  unfold errOk at hk
  have h1 : k * 2 < errA.size := by rw [errA_size]; omega
  have h2 : k * 2 + 1 < errA.size := by rw [errA_size]; omega
  rw [Array.getElem?_eq_getElem h1, Array.getElem?_eq_getElem h2] at hk
  have e : errA.extract (k * 2) (k * 2 + 2) = #[errA[k * 2], errA[k * 2 + 1]] := by
    apply Array.ext
    · simp [errA_size]; omega
    · intro i hi1 hi2
      have : i < 2 := by simpa using hi2
      match i, this with
      | 0, _ => simp
      | 1, _ => simp
  rw [e]
  generalize errA[k * 2] = a at *
  generalize errA[k * 2 + 1] = b at *
  split at hk
  · rename_i n s ha hb
    simp only [Option.some.injEq] at ha hb
    subst ha hb
    rw [Bool.and_eq_true, decide_eq_true_iff, decide_eq_true_iff] at hk
    obtain ⟨h1, h2⟩ := hk
    subst h1
    have : s = errWd k := by cases s; cases hE : errWd k; simp_all
    rw [this]
  · cases hk
theorem err_idx (k : Nat) (h : k < 52) (w : World) : (Instr.index 178 (.agg errA) (.int .i64 (k : Int))).run Try.prog w = .ok (.agg #[.int .i64 (errNo k), .string (errWd k)]) w := by
  rw [idx_gen errA k h w, err_at_ k h]
end Go.Proofs.Ytkkmkogpbhcpmab
