import Derived.Test.YtpihehpmejicaaaKName
namespace Go.Proofs.Ytpihehpmejicaaa
open Go.RowKit

set_option maxHeartbeats 1000000 in
theorem rname_any (s : ByteArray) (w : World) :
    Calls Try.prog 19 #[.string s] w fun e w' => e = .returned (.int .i64 (nameErr s.data.toList)) ∧ w' = w := by
  by_cases h1 : 54 < (s.size : Int)
  · rw [n_long s h1]
    go_enter Try.func19, Try.ntmps19
    go_wp2
    go_ret
    exact ⟨rfl, rfl⟩
  · have h1' : (s.size : Int) ≤ 54 := by omega
    by_cases h2 : s.toList = [] ∨ s.toList = [46] ∨ s.toList = [46, 46]
    · rw [n_dots s h1' h2]
      rcases h2 with h2 | h2 | h2
      all_goals
        go_enter Try.func19, Try.ntmps19
        go_wp2
        go_ret
        exact ⟨rfl, rfl⟩
    · have e1 : s.toList.isEmpty = false := by simp; intro h; exact h2 (.inl h)
      have e2 : (s.toList == [46]) = false := by simp; intro h; exact h2 (.inr (.inl h))
      have e3 : (s.toList == [46, 46]) = false := by simp; intro h; exact h2 (.inr (.inr h))
      have H2 := Hid.mk h2
      clear h2
      go_enter Try.func19, Try.ntmps19
      go_wp2
      go_loopw [3] (fun i wr => ∃ k : Nat, k ≤ s.size ∧ i = .int .i64 k ∧ wr = w ∧ ∀ j, j < k → ∀ h : j < s.size, s[j] ≠ 47 ∧ s[j] ≠ 0) (fun i _ => s.size - (intOf i).toNat)
      case atStart => exact ⟨0, Nat.zero_le _, rfl, rfl, fun j hj => by omega⟩
      case round =>
        obtain ⟨k, hk, rfl, rfl, hno⟩ := hrel
        have Hno := Hid.mk hno
        clear hno
        by_cases hlt : k < s.size
        · have hlt' : (k : Int) < (s.size : Int) := by omega
          have hmem : s[k] ∈ s.data.toList := by simp [ByteArray.getElem_eq_getElem_data]
          by_cases b1 : s[k] = 47
          · have hq : nameErr s.data.toList = 21 := n_bad s h1' (.inl ((ix_mem _ _).2 (b1 ▸ hmem)))
            have b1' : (((s[k].toNat : Nat) : Int) == 47) = true := by rw [b1]; rfl
            have HQ := Hid.mk hq
            clear hq
            go_wp2
            go_ret
            exact ⟨by rw [HQ.out]; rfl, rfl⟩
          · have b1' : (((s[k].toNat : Nat) : Int) == 47) = false := by
              rw [Bool.eq_false_iff, ne_eq, beq_iff_eq]
              intro h
              exact b1 (UInt8.toNat_inj.1 (by have e : (47 : UInt8).toNat = 47 := rfl; omega))
            by_cases b2 : s[k] = 0
            · have hq : nameErr s.data.toList = 21 := n_bad s h1' (.inr ((ix_mem _ _).2 (b2 ▸ hmem)))
              have b2' : (((s[k].toNat : Nat) : Int) == 0) = true := by rw [b2]; rfl
              have HQ := Hid.mk hq
              clear hq
              go_wp2
              go_ret
              exact ⟨by rw [HQ.out]; rfl, rfl⟩
            · have b2' : (((s[k].toNat : Nat) : Int) == 0) = false := by
                rw [Bool.eq_false_iff, ne_eq, beq_iff_eq]
                intro h
                exact b2 (UInt8.toNat_inj.1 (by have e : (0 : UInt8).toNat = 0 := rfl; omega))
              have Hb := Hid.mk (And.intro b1 b2)
              clear b1 b2
              go_wp2
              go_roundw
              case rel =>
                refine ⟨k + 1, by omega, by go_num, trivial, fun j hj h => ?_⟩
                by_cases hjk : j = k
                · subst hjk; exact Hb.out
                · exact Hno.out j (by omega) h
              case measure => simp [intOf]; omega
        · have hlt' : ¬ (k : Int) < (s.size : Int) := by omega
          have hq : nameErr s.data.toList = 0 := n_ok s h1' H2.out (by
            rw [ix_mem, ix_mem]
            rintro (h | h)
            · obtain ⟨j, hj, e⟩ := List.mem_iff_getElem.1 h
              have hj' : j < s.size := by simpa using hj
              exact (Hno.out j (by omega) hj').1 (by simpa [ByteArray.getElem_eq_getElem_data] using e)
            · obtain ⟨j, hj, e⟩ := List.mem_iff_getElem.1 h
              have hj' : j < s.size := by simpa using hj
              exact (Hno.out j (by omega) hj').2 (by simpa [ByteArray.getElem_eq_getElem_data] using e))
          have HQ := Hid.mk hq
          clear hq
          go_wp2
          go_ret
          exact ⟨by rw [HQ.out]; rfl, rfl⟩
end Go.Proofs.Ytpihehpmejicaaa
