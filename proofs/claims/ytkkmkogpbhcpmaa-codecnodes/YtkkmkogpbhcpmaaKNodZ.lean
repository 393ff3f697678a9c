import Derived.Test.YtkkmkogpbhcpmaaKNodS
import Derived.Test.YtkkmkogpbhcpmaaKNodS8
import Derived.Test.YtkkmkogpbhcpmaaKNodS9
import Derived.Test.YtkkmkogpbhcpmaaKNodS10
import Derived.Test.YtkkmkogpbhcpmaaKNodT0
import Derived.Test.YtkkmkogpbhcpmaaKNodT1
namespace Go.Proofs.Ytkkmkogpbhcpmaa
open Go.RowKit

theorem rnfit_any (k l p s o : Int) (d : Nat → Int) (w : World) : Calls Try.prog 90 #[nd k l p s o d] w fun e w' => Says (NNone k l p s o d ∨ NFits k l p s o d) e ∧ Below w.heap.size w w' := by
  by_cases h0 : NNone k l p s o d
  · exact rnfit_none k l p s o d w h0
  by_cases g0 : k < 1
  · exact rnfit_no0 k l p s o d w h0 (fun h => by have := h.1.1; omega) g0
  by_cases g1 : 3 < k
  · exact rnfit_no1 k l p s o d w h0 (fun h => by have := h.1.2; omega) g0 g1
  by_cases g2 : l < 0
  · exact rnfit_no2 k l p s o d w h0 (fun h => by have := h.2.1.1; omega) g0 g1 g2
  by_cases g3 : 64 < l
  · exact rnfit_no3 k l p s o d w h0 (fun h => by have := h.2.1.2; omega) g0 g1 g2 g3
  by_cases g4 : s < 0
  · exact rnfit_no4 k l p s o d w h0 (fun h => by have := h.2.2.2.1.1; omega) g0 g1 g2 g3 g4
  by_cases g5 : 8459264 < s
  · exact rnfit_no5 k l p s o d w h0 (fun h => by have := h.2.2.2.1.2; omega) g0 g1 g2 g3 g4 g5
  by_cases g6 : o < 0
  · exact rnfit_no6 k l p s o d w h0 (fun h => by have := h.2.2.2.2.1.1; omega) g0 g1 g2 g3 g4 g5 g6
  by_cases g7 : 2048 < o
  · exact rnfit_no7 k l p s o d w h0 (fun h => by have := h.2.2.2.2.1.2; omega) g0 g1 g2 g3 g4 g5 g6 g7
  by_cases hk : k = 2
  · have e1 : (k == 2) = true := by rw [beq_iff_eq]; exact hk
    have e2 : (k != 2) = false := by rw [hk]; rfl
    by_cases p1 : p < 1
    · exact rnfit_no8 k l p s o d w h0 (fun h => by rcases h.2.2.1 with h | h <;> omega) g0 g1 g2 g3 g4 g5 g6 g7 e1 e2 p1
    by_cases p2 : 1024 < p
    · exact rnfit_no9 k l p s o d w h0 (fun h => by rcases h.2.2.1 with h | h <;> omega) g0 g1 g2 g3 g4 g5 g6 g7 e1 e2 p1 p2
    · exact rnfit_good0 k l p s o d w h0 ⟨fun h => ⟨⟨by omega, by omega⟩, ⟨by omega, by omega⟩, .inl ⟨hk, by omega, by omega⟩, ⟨by omega, by omega⟩, ⟨by omega, by omega⟩, h⟩, fun h => h.2.2.2.2.2⟩ g0 g1 g2 g3 g4 g5 g6 g7 e1 e2 p1 p2
  · have e1 : (k == 2) = false := by rw [Bool.eq_false_iff, ne_eq, beq_iff_eq]; exact hk
    have e2 : (k != 2) = true := by rw [bne_iff_ne]; exact hk
    by_cases p1 : p = 0
    · exact rnfit_good1 k l p s o d w h0 ⟨fun h => ⟨⟨by omega, by omega⟩, ⟨by omega, by omega⟩, .inr ⟨hk, p1⟩, ⟨by omega, by omega⟩, ⟨by omega, by omega⟩, h⟩, fun h => h.2.2.2.2.2⟩ g0 g1 g2 g3 g4 g5 g6 g7 e1 e2 (by rw [p1]; rfl)
    · exact rnfit_no10 k l p s o d w h0 (fun h => by rcases h.2.2.1 with h | h <;> omega) g0 g1 g2 g3 g4 g5 g6 g7 e1 e2 (by rw [bne_iff_ne]; exact p1)
end Go.Proofs.Ytkkmkogpbhcpmaa
