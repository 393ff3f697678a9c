import Derived.Test.YtodleeipefnadacKQ4
namespace Go.Proofs.Ytodleeipefnadac
open Go.RowKit

theorem snewest_slot (l r : List Int) : (snewest l r).1 ≤ 1 := by
  unfold snewest
  split
  · simp
  · split
    · simp
    · split <;> simp
theorem snewest_none {l r : List Int} (hl : l.length = 512) (hr : r.length = 512) : ((snewest l r).2.2.2 = 0 ∧ 0 < (snewest l r).2.1) ∨ ((snewest l r).2.2.2 = 30 ∧ (snewest l r).2.1 = 0 ∧ (snewest l r).1 = 0) := by
  rw [snewest_eq hl hr]
  by_cases q : (sanchor l).1 = 0 ∧ (sanchor r).1 = 0
  · rw [if_pos q]; exact .inr ⟨rfl, rfl, rfl⟩
  · rw [if_neg q]
    by_cases q2 : (sanchor l).1 < (sanchor r).1
    · rw [if_pos q2]; exact .inl ⟨rfl, by simp only; omega⟩
    · rw [if_neg q2]; exact .inl ⟨rfl, by simp only; omega⟩

theorem renew_any (a : Option Addr) (n c : Nat) (l : List Int) (a2 : Option Addr) (m d : Nat) (r : List Int) (a3 : Option Addr) (q e3 : Nat) (dt : List Int) (num : Int) (w : World) (hs : Src w a n l) (hs2 : Src w a2 m r) (hl : Bytes l) (hr : Bytes r)
    (hs3 : Src w a3 q dt) (hdt : Bytes dt) (hca : a3 = none → e3 = 0) (hhi : num ≤ 9223372036854775807) :
    Calls Try.prog 34 #[.slice a n c, .slice a2 m d, .int .i64 num, .slice a3 q e3] w fun e w' => ∃ v, e = .returned (.tuple #[.int .i64 (((srenew l r num dt).1 : Nat) : Int), v, .int .i64 (((srenew l r num dt).2.2 : Nat) : Int)]) ∧ Lst w' w.heap.size v (srenew l r num dt).2.1 ∧ Below w.heap.size w w' := by
  have hln := hs.1
  have hrn := hs2.1
  have hdn := hs3.1
  by_cases hyes : n = 512 ∧ m = 512
  · by_cases h1 : num < 1
    · refine (renew_no2 a n c l a2 m d r a3 q e3 num w hs hs2 hyes h1).mono ?_
      rintro e w' ⟨rfl, hb⟩
      have e1 : srenew l r num dt = (0, [], 1) := by unfold srenew; rw [if_neg (by omega), if_pos h1]
      rw [e1]; exact ⟨_, rfl, Lst.nil _ _, hb⟩
    · by_cases h2 : 496 < q
      · refine (renew_no3 a n c l a2 m d r a3 q e3 num w hs hs2 hyes h1 h2).mono ?_
        rintro e w' ⟨rfl, hb⟩
        have e1 : srenew l r num dt = (0, [], 7) := by unfold srenew; rw [if_neg (by omega), if_neg h1, if_pos (by omega)]
        rw [e1]; exact ⟨_, rfl, Lst.nil _ _, hb⟩
      · by_cases h3 : num ≤ (((snewest l r).2.1 : Nat) : Int)
        · refine (renew_no4 a n c l a2 m d r a3 q e3 num w hs hs2 hl hr hyes h1 (by omega) h3).mono ?_
          rintro e w' ⟨rfl, hb⟩
          have e1 : srenew l r num dt = (0, [], 31) := by unfold srenew; rw [if_neg (by omega), if_neg h1, if_neg (by omega)]; simp only; rw [if_pos h3]
          rw [e1]; exact ⟨_, rfl, Lst.nil _ _, hb⟩
        · obtain ⟨N, hN⟩ : ∃ N : Nat, num = (N : Int) := ⟨num.toNat, by omega⟩
          have hA := snewest_slot l r
          have hno := snewest_none (l := l) (r := r) (by omega) (by omega)
          have hdl : (bytes8 N ++ dt).length ≤ 504 := by rw [List.length_append, bytes8_len]; omega
          by_cases hs0 : (snewest l r).2.2.2 = 0 ∧ (snewest l r).1 = 0
          · refine (renew_ok1 a n c l a2 m d r a3 q e3 dt num w hs hs2 hl hr hyes N hN (by omega) (by omega) hs3 hdt (by omega) hca (by omega) hA (by rw [if_neg (by omega)]; omega)).mono ?_
            rintro e w' ⟨g, rfl, hblk, hg, hb⟩
            have e1 : srenew l r num dt = (1, sform (turnOf (r.getD 0 0) (r.getD 511 0)) (bytes8 N ++ dt), 0) := by unfold srenew; rw [if_neg (by omega), if_neg h1, if_neg (by omega)]; simp only; rw [if_neg h3, if_pos hs0, hN, Int.toNat_natCast]
            rw [e1]
            have := hblk.lst hg
            rw [sform_len hdl] at this
            exact ⟨_, rfl, this, hb⟩
          · refine (renew_ok0 a n c l a2 m d r a3 q e3 dt num w hs hs2 hl hr hyes N hN (by omega) (by omega) hs3 hdt (by omega) hca (by omega) hA (by split <;> omega)).mono ?_
            rintro e w' ⟨g, rfl, hblk, hg, hb⟩
            have e1 : srenew l r num dt = (0, sform (turnOf (l.getD 0 0) (l.getD 511 0)) (bytes8 N ++ dt), 0) := by unfold srenew; rw [if_neg (by omega), if_neg h1, if_neg (by omega)]; simp only; rw [if_neg h3, if_neg hs0, hN, Int.toNat_natCast]
            rw [e1]
            have := hblk.lst hg
            rw [sform_len hdl] at this
            exact ⟨_, rfl, this, hb⟩
  · refine (renew_no1 a n c l a2 m d r a3 q e3 num w hs hs2 hyes).mono ?_
    rintro e w' ⟨rfl, hb⟩
    have e1 : srenew l r num dt = (0, [], 2) := by unfold srenew; rw [if_pos (by omega)]
    rw [e1]; exact ⟨_, rfl, Lst.nil _ _, hb⟩
theorem srenew_len (l r : List Int) (num : Int) (dt : List Int) : (srenew l r num dt).2.1.length ≤ 512 := by
  have h : ∀ (t : Int) (N : Nat), dt.length ≤ 496 → (sform t (bytes8 N ++ dt)).length ≤ 512 := fun t N hd => by rw [sform_len (by rw [List.length_append, bytes8_len]; omega)]; omega
  unfold srenew
  split
  · simp
  · split
    · simp
    · split
      · simp
      · next h3 =>
        simp only
        split
        · simp
        · split
          · exact h _ _ (by omega)
          · exact h _ _ (by omega)
end Go.Proofs.Ytodleeipefnadac
