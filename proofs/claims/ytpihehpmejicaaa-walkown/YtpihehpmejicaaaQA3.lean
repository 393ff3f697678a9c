import Derived.Test.YtpihehpmejicaaaQA2
namespace Go.Proofs.Ytpihehpmejicaaa
open Go.RowKit Go.Maps

/-- The word of list i and place k. -/
def wn (i k : Nat) : List Int := [(i : Int) % 256, (i : Int) / 256 % 256, (i : Int) / 65536 % 256, (i : Int) / 16777216, (k : Int) % 256]
def wd (i k : Nat) : List UInt8 := (strOfNums (wn i k)).data.toList
theorem wd_is (i k : Nat) : strOfNums (wn i k) = ⟨(wd i k).toArray⟩ := by
  unfold wd
  generalize strOfNums (wn i k) = s
  cases s
  simp
set_option maxRecDepth 20000 in
set_option maxHeartbeats 2000000 in
theorem word_any (i k : Nat) (hi : i ≤ 1000000000) (_hk : k ≤ 1000000000) (w : World) :
    Calls Try.prog 11 #[.int .i64 (i : Int), .int .i64 (k : Int)] w fun e w' => e = .returned (.string ⟨(wd i k).toArray⟩) ∧ Below w.heap.size w w' := by
  have hn := heap_alloc_new w (.cells #[.int .u8 ((i : Int) % 256), .int .u8 ((i : Int) / 256 % 256), .int .u8 ((i : Int) / 65536 % 256), .int .u8 ((i : Int) / 16777216), .int .u8 ((k : Int) % 256)] 5)
  have hcv := run_convert_bytes_arg (P := Try.prog) (w.alloc (.cells #[.int .u8 ((i : Int) % 256), .int .u8 ((i : Int) / 256 % 256), .int .u8 ((i : Int) / 65536 % 256), .int .u8 ((i : Int) / 16777216), .int .u8 ((k : Int) % 256)] 5)) 40 5 Try.underlying40 Try.underlying5 w.heap.size 0 5 5 (wn i k) rfl (fun j hj => by
    rw [Nat.zero_add]
    exact cell_of_block hn (j := j) (by
      match j, hj with
      | 0, _ => rfl
      | 1, _ => rfl
      | 2, _ => rfl
      | 3, _ => rfl
      | 4, _ => rfl)) 9 Try.underlying9
  rw [wd_is] at hcv
  have HB := Hid.mk (below_box w (.cells #[.int .u8 ((i : Int) % 256), .int .u8 ((i : Int) / 256 % 256), .int .u8 ((i : Int) / 65536 % 256), .int .u8 ((i : Int) / 16777216), .int .u8 ((k : Int) % 256)] 5))
  clear hn
  generalize wd i k = W at *
  go_enter Try.func11, Try.ntmps11
  go_wp2
  go_ret
  exact ⟨rfl, HB.out⟩
end Go.Proofs.Ytpihehpmejicaaa
