import Derived.Test.YtimfidcpljimpabKEntJ
import Derived.Test.YtimfidcpljimpabKEntP
namespace Go.Proofs.Ytimfidcpljimpab
open Go.RowKit

theorem decent_any (a : Option Addr) (n c : Nat) (l : List Int) (w : World) (hs : Src w a n l) (hb : Bytes l) (hn : n ≤ 140737488355328) (hc : n ≤ c) (hcc : n = 64 → c ≤ 140737488355328) :
    Calls Try.prog 13 #[.slice a n c] w fun e w' => e = .returned (.tuple #[ent (entDec l).1 (entDec l).2.1 (entDec l).2.2.1 0, .int .i64 (entDec l).2.2.2]) ∧ Below w.heap.size w w' := by
  have hl := hs.1
  by_cases h : n = 64
  · cases a with
    | none => have := hs.2.1 rfl; omega
    | some x =>
      obtain ⟨b, o, rfl, hcell⟩ := hs.spot (by omega)
      subst h
      by_cases hz : Zeros l
      · obtain ⟨e1, e2, e3, e4⟩ := fields_zero hz
        rw [entDec_ok hl (okB_zero hl hz), e1, e2, e4]
        exact decent_zero b o c l w hl hc (hcc rfl) hb hcell hz
      · by_cases hr : EntryOk l
        · rw [entDec_ok hl ((okB_iff hb hl hz).2 hr)]
          exact decent_ok b o c l w hl hc (hcc rfl) hb hcell hz hr
        · rw [entDec_no hl (fun h => hr ((okB_iff hb hl hz).1 h))]
          exact decent_no b o c l w hl hc (hcc rfl) hb hcell hz hr
  · rw [entDec_len (by omega)]
    exact decent_len a n c w h hn
theorem rdecent_all (a : Option Addr) (n c : Nat) (l : List Int) (w : World) (hs : Src w a n l) (hb : Bytes l) (hn : n ≤ 140737488355328) (hc : n ≤ c) :
    Calls Try.prog 26 #[.slice a n c] w fun e w' => e = .returned (.tuple #[ent (entDec l).1 (entDec l).2.1 (entDec l).2.2.1 0, .int .i64 (entDec l).2.2.2]) ∧ Below w.heap.size w w' := by
  have hl := hs.1
  by_cases h : n = 64
  · cases a with
    | none => have := hs.2.1 rfl; omega
    | some x =>
      obtain ⟨b, o, rfl, hcell⟩ := hs.spot (by omega)
      subst h
      by_cases h54 : u8 l 5 ≤ 54
      · have key : ∀ F : List Int, F.length = 64 → entEnc (u32 l 0) (u8 l 4) (nm l) = (F, 0) → Calls Try.prog 26 #[.slice (some ⟨b, o, none⟩) 64 c] w fun e w' => e = .returned (.tuple #[ent (entDec l).1 (entDec l).2.1 (entDec l).2.2.1 0, .int .i64 (entDec l).2.2.2]) ∧ Below w.heap.size w w' := by
          intro F hF he
          have henc := fun wx => rencent_any ((u32 l 0 : Nat) : Int) ((u8 l 4 : Nat) : Int) (nm l) 0 wx
          rw [he] at henc
          have H := rdecent_enc b o c l w hl hc hb hcell h54 F hF henc
          by_cases hx : F = l
          · have hk : okB l = true := by unfold okB; rw [he, hx]; simp [h54]
            rw [entDec_ok hl hk]
            exact H true (by simp [hx])
          · have hk : ¬ okB l = true := by unfold okB; rw [he]; simp [hx]
            rw [entDec_no hl hk]
            exact H false (by simp [hx])
        rcases entEnc_cases (u32 l 0) (u8 l 4) (nm l) with ⟨_, e⟩ | ⟨_, hf, e⟩ | ⟨_, _, e⟩
        · exact key _ zeros64_len e
        · exact key _ (by rw [sealed_len, entBody_len _ _ (by rw [nm_size hb hl h54]; omega)]) e
        · have henc := fun wx => rencent_any ((u32 l 0 : Nat) : Int) ((u8 l 4 : Nat) : Int) (nm l) 0 wx
          rw [e] at henc
          have hk : ¬ okB l = true := by unfold okB; rw [e]; simp
          rw [entDec_no hl hk]
          exact rdecent_ref b o c l w hl hc hb hcell h54 henc
      · have hk : ¬ okB l = true := by unfold okB; simp [h54]
        rw [entDec_no hl hk]
        exact rdecent_big b o c l w hl hb hcell (by omega)
  · rw [entDec_len (by omega)]
    exact rdecent_len a n c w h hn
end Go.Proofs.Ytimfidcpljimpab
