import Derived.Test.YtkkmkogpbhcpmabXKEntP
namespace Go.Proofs.Ytkkmkogpbhcpmab
open Go.RowKit

theorem decent_any (a : Option Addr) (n c : Nat) (l : List Int) (w : World) (hs : Src w a n l) (hb : Bytes l) (hn : n ≤ 140737488355328) (hc : n ≤ c) (hcc : n = 64 → c ≤ 9223372036854775807) :
    Calls Try.prog 19 #[.slice a n c] w fun e w' => e = .returned (.tuple #[ent (entDec l).1 (entDec l).2.1 (entDec l).2.2.1 0, .int .i64 (entDec l).2.2.2]) ∧ Below w.heap.size w w' := by
  have hl := hs.1
  by_cases h : n = 64
  · cases a with
    | none => have := hs.2.1 rfl; omega
    | some x =>
      obtain ⟨b, o, rfl, hcell⟩ := hs.spot (by omega)
      subst h
      by_cases hz : Zeros l
      · obtain ⟨e1, e2, e3, e4⟩ := fields_zero hz
        rw [entDec_ok hl (okB_zero hl hz), e1, e2, e4]
        exact decent_zero b o c l w hl hc (hcc rfl) hb hcell hz
      · by_cases hr : EntryOk l
        · rw [entDec_ok hl ((okB_iff hb hl hz).2 hr)]
          exact decent_ok b o c l w hl hc (hcc rfl) hb hcell hz hr
        · rw [entDec_no hl (fun h => hr ((okB_iff hb hl hz).1 h))]
          exact decent_no b o c l w hl hc (hcc rfl) hb hcell hz hr
  · rw [entDec_len (by omega)]
    exact decent_len a n c w h hn
end Go.Proofs.Ytkkmkogpbhcpmab
