import Derived.Test.YtkkmkogpbhcpmaaKEnc
import Derived.Test.YtkkmkogpbhcpmaaKName
import Derived.Laws.StructEq
namespace Go.Proofs.Ytkkmkogpbhcpmaa
open Go.RowKit

abbrev ent (n k : Int) (s : ByteArray) (t : Int) : Value := .agg #[.int .i64 n, .int .i64 k, .string s, .int .i64 t]
/-- An entry's fields fit (of one that is not empty). -/
def EFits (n k : Int) (s : ByteArray) : Prop := (1 ≤ n ∧ n ≤ 1024) ∧ (1 ≤ k ∧ k ≤ 3) ∧ nameErr s.data.toList = 0

set_option maxRecDepth 20000 in
set_option maxHeartbeats 2000000 in
theorem efits_t (n k : Int) (s : ByteArray) (t : Int) (w : World) (h : EFits n k s) :
    Calls Try.prog 100 #[ent n k s t] w fun e w' => e = .returned (.bool true) ∧ Below w.heap.size w w' := by
  obtain ⟨⟨n1, n2⟩, ⟨k1, k2⟩, hn⟩ := h
  have hna := fun w => name_any s w
  rw [hn] at hna
  have HB := Hid.mk (fun o => (Below.refl _ w).alloc (Nat.le_refl _) o)
  clear hn
  go_enter Try.func100, Try.ntmps100
  go_wp2_with (first | (go_at_call 114; go_in) | (go_at_call 118; refine (hna _).mono ?_; rintro e w' ⟨rfl, rfl⟩))
  go_ret
  exact ⟨rfl, HB.out _⟩
set_option maxRecDepth 20000 in
set_option maxHeartbeats 2000000 in
theorem efits_f (n k : Int) (s : ByteArray) (t : Int) (w : World) (h : ¬ EFits n k s) :
    Calls Try.prog 100 #[ent n k s t] w fun e w' => e = .returned (.bool false) ∧ Below w.heap.size w w' := by
  have HB := Hid.mk (fun o => (Below.refl _ w).alloc (Nat.le_refl _) o)
  by_cases h1 : 1 ≤ n
  · by_cases h2 : n ≤ 1024
    · by_cases h3 : 1 ≤ k
      · by_cases h4 : k ≤ 3
        · have h5 : nameErr s.data.toList ≠ 0 := fun h5 => h ⟨⟨h1, h2⟩, ⟨h3, h4⟩, h5⟩
          have h6 : (nameErr s.data.toList == 0) = false := by rw [Bool.eq_false_iff, ne_eq, beq_iff_eq]; exact h5
          have hna := fun w => name_any s w
          generalize nameErr s.data.toList = E at *
          clear h h5
          go_enter Try.func100, Try.ntmps100
          go_wp2_with (first | (go_at_call 114; go_in) | (go_at_call 118; refine (hna _).mono ?_; rintro e w' ⟨rfl, rfl⟩))
          go_ret
          exact ⟨rfl, HB.out _⟩
        · clear h
          go_enter Try.func100, Try.ntmps100
          go_wp2
          go_ret
          exact ⟨rfl, HB.out _⟩
      · clear h
        go_enter Try.func100, Try.ntmps100
        go_wp2
        go_ret
        exact ⟨rfl, HB.out _⟩
    · clear h
      go_enter Try.func100, Try.ntmps100
      go_wp2
      go_ret
      exact ⟨rfl, HB.out _⟩
  · clear h
    go_enter Try.func100, Try.ntmps100
    go_wp2
    go_ret
    exact ⟨rfl, HB.out _⟩

/-- What an entry holds ahead of its sum. -/
def entBody (n k : Nat) (s : ByteArray) : List Int := leb 4 n ++ leb 1 k ++ leb 1 s.size ++ txt s ++ List.replicate (54 - s.size) 0
theorem entBody_len (n k : Nat) {s : ByteArray} (h : s.size ≤ 54) : (entBody n k s).length = 60 := by
  simp only [entBody, List.length_append, leb_len, List.length_replicate, txt_len]
  omega
theorem entBody_bytes (n k : Nat) (s : ByteArray) : Bytes (entBody n k s) := by
  intro x hx
  simp only [entBody, List.mem_append] at hx
  rcases hx with (((h | h) | h) | h) | h
  · exact leb_bytes _ _ x h
  · exact leb_bytes _ _ x h
  · exact leb_bytes _ _ x h
  · exact txt_bytes s x h
  · have := List.eq_of_mem_replicate h; omega
theorem name_ok {s : ByteArray} (h : nameErr s.data.toList = 0) : 0 < s.size ∧ s.size ≤ 54 := by
  unfold nameErr at h
  rw [len_size] at h
  split at h
  · simp at h
  · split at h
    · simp at h
    · rename_i h1 h2
      refine ⟨?_, by omega⟩
      rcases Nat.eq_zero_or_pos s.size with h0 | h0
      · exact absurd (.inl (List.eq_nil_of_length_eq_zero (by rw [len_size]; exact h0))) h2
      · exact h0
end Go.Proofs.Ytkkmkogpbhcpmaa
