import Derived.Test.YtkdjjnkhbmmfeaaFDA
namespace Go.Proofs.Ytkdjjnkhbmmfeaa
open Go.RowKit Go.Maps

/-- The entries behind bytes. -/
def runP (ps : List Pc) (u : List Int) : List Bool := u.foldl (fun R b => passTo ps (takeL ps R b) ps.length) (passTo ps ((List.replicate (ps.length + 1) false).set 0 true) ps.length)
/-- Is the text of the pieces? -/
def fitsP (ps : List Pc) (u : List Int) : Bool := (runP ps u).getD ps.length false
theorem runP_snoc (ps : List Pc) (u : List Int) (b : Int) : runP ps (u ++ [b]) = passTo ps (takeL ps (runP ps u) b) ps.length := by simp [runP]
theorem takeL_len (ps : List Pc) (R : List Bool) (b : Int) : (takeL ps R b).length = R.length := by simp [takeL, takeTo_len]
theorem runP_len (ps : List Pc) (u : List Int) : (runP ps u).length = ps.length + 1 := by
  have : ∀ (u : List Int) (R : List Bool), R.length = ps.length + 1 → (u.foldl (fun R b => passTo ps (takeL ps R b) ps.length) R).length = ps.length + 1 := by
    intro u
    induction u with
    | nil => intro R h; exact h
    | cons b u ih => intro R h; exact ih _ (by rw [passTo_len, takeL_len]; exact h)
  exact this u _ (by rw [passTo_len]; simp)
theorem infoBool : (Try.prog.info? 4).map (fun i => (i.zero, i.size, i.bytes)) = some (some (.bool false), 1, 1) := by kernel_rfl
section
variable {w w' w0 : World} {B rb : Nat} {a : Option Addr} {n c : Nat} {R : List Bool} {ps : List Pc}
set_option maxRecDepth 20000 in
set_option maxHeartbeats 16000000 in
theorem fits_any (s t : ByteArray) (hP : PSv w B (.slice a n c) ps) (hps : ps.length ≤ 100000) (hpm : ∀ p ∈ ps, p.mem.length ≤ 1000000) (ht : t.size ≤ 1000000) :
    Calls Try.prog 16 #[.agg #[.string s, .slice a n c], .string t] w fun e w' => e = .returned (.bool (fitsP ps (ub t.data.toList))) ∧ Below w.heap.size w w' := by
  have hnl := hP.at.1
  subst hnl
  have hw1 : wrap64 ((ps.length : Int) + 1) = ((ps.length + 1 : Nat) : Int) := by unfold wrap64; omega
  have l0 : (0 : Int) ≤ ((ps.length + 1 : Nat) : Int) := by omega
  have l1 : (0 : Int) < ((ps.length + 1 : Nat) : Int) := by omega
  obtain ⟨W0, hW0⟩ : ∃ W0, W0 = w.alloc (.cells #[.string s, .slice a ps.length c] 44) := ⟨_, rfl⟩
  have hb1 : Below w.heap.size w W0 := by rw [hW0]; exact (Below.refl _ _).alloc (Nat.le_refl _) _
  have g0 : W0.heap[w.heap.size]? = some (.cells #[.string s, .slice a ps.length c] 44 (0, 0)) := by rw [hW0]; exact heap_alloc_new w _
  have c1 : W0.cell? ⟨w.heap.size, 1, none⟩ = some (.slice a ps.length c) := cell_of_block g0 (j := 1) rfl
  have c0 : W0.cell? ⟨w.heap.size, 0, none⟩ = some (.string s) := cell_of_block g0 (j := 0) rfl
  obtain ⟨i0, hi, hz0, hz1, hz2⟩ := info_parts infoBool
  obtain ⟨w1, hmk, hown, hgrow⟩ := run_makeSlice_full (P := Try.prog) W0 W0.heap.size 54 4 i0 (.bool false) 1 Try.underlying54 hi hz0 hz1 .i64 .i64 (ps.length + 1) (by omega) (by rw [hz2]; omega) (by unfold maxLen; omega) (Nat.le_refl _)
  have hbw1 : Below W0.heap.size W0 w1 := (Below.refl _ W0).grown hgrow (Nat.le_refl _) (by intro k hk; cases hk)
  have hbl : BL w1 W0.heap.size (List.replicate (ps.length + 1) false) := by
    obtain ⟨_, ⟨e, _⟩ | ⟨g, cap, cur, e, _, hb, _, _, hcs, htk⟩⟩ := hown
    · cases e
    · cases e
      unfold BL
      rw [hb]
      have e1 : cur.toList = (List.replicate (ps.length + 1) false).map Value.bool := by
        rw [List.take_of_length_le (by simp [hcs])] at htk
        rw [htk, Nat.mul_one]
        show (madeCells #[Value.bool false] (ps.length + 1)).toList = _
        rw [toList_madeCells_one]
        simp
      rw [← e1]
  have hcast : ((ps.length + 1 : Nat) : Int) = (ps.length : Int) + 1 := by omega
  rw [hcast] at hmk
  have r0 := hbl.cell (i := 0) (by simp)
  have f0 : w1.frozen? ⟨W0.heap.size, 0, none⟩ = false := frozen_of_block hbl 0
  have d1 := cell_later hbw1 c1
  have d0 := cell_later hbw1 c0
  obtain ⟨rb, hrb⟩ : ∃ rb, rb = W0.heap.size := ⟨_, rfl⟩
  rw [← hrb] at hmk hbl r0 f0 hown
  have hset := hbl.set 0 true
  have hks := Keeps.setCell (F := fun k => k = rb) w1 (p := ⟨rb, 0, none⟩) rfl (.bool true)
  have hgl := lt_there g0
  have d1 := cell_keep hks (show ¬ w.heap.size = rb by omega) d1
  have d0 := cell_keep hks (show ¬ w.heap.size = rb by omega) d0
  have hz1' := hbw1.size
  have hz0' := hb1.size
  have hbW2 : Below w.heap.size w (w1.setCell ⟨rb, 0, none⟩ (.bool true)) := (hb1.trans (hbw1.mono (by omega))).trans (hks.low (by omega) (fun k e => by omega))
  have kp := passOver_any s (ps.length + 1) hP hbW2 hset (by omega) (by simp) hps
  have HF : Hid (PSv w B (.slice a ps.length c) ps ∧ Below w.heap.size w (w1.setCell ⟨rb, 0, none⟩ (.bool true)) ∧ w.heap.size < rb ∧ (w1.setCell ⟨rb, 0, none⟩ (.bool true)).heap[w.heap.size]? = some (.cells #[.string s, .slice a ps.length c] 44 (0, 0))) := Hid.mk ⟨hP, hbW2, by omega, (hks.block _ (by omega) (by omega)).trans ((hbw1.block _ hgl).trans g0)⟩
  have hl0' : (0 : Int) < (ps.length : Int) + 1 := by omega
  have hrun0 : runP ps [] = passTo ps ((List.replicate (ps.length + 1) false).set 0 true) ps.length := rfl
  rw [← hrun0] at kp
  rw [hW0] at hmk
  clear hP hbW2 hset hks hbw1 hb1 g0 hown hgrow hbl hz1' hz0' c1 c0 hW0 hrb hcast hi hz0 hz1 hz2 hrun0 hgl
  go_enter Try.func16, Try.ntmps16
  go_wp2_with fail
  refine kp.mono ?_
  rintro e w2 ⟨rfl, hbl2, hk2⟩
  obtain ⟨C, w3, hcv, hC, hz3, hb3, hsrc⟩ := conv_str w2 t
  have hul := ub_len t.data.toList
  have hsz := len_size t
  have hfz := HF.out.2.1.size
  have hkz := hk2.size
  have hrl := lt_there hbl2
  have g2 := (hk2.block _ (lt_there HF.out.2.2.2) (by have := HF.out.2.2.1; omega)).trans HF.out.2.2.2
  have HG : Hid (BL w3 rb (runP ps []) ∧ Below w.heap.size w w3 ∧ w3.heap[w.heap.size]? = some (.cells #[.string s, .slice a ps.length c] 44 (0, 0)) ∧ Src w3 (some ⟨w2.heap.size, 0, none⟩) t.size (ub t.data.toList)) := Hid.mk ⟨hbl2.keep (Keeps.of_below (fun k => False) hb3) (fun h => h), (HF.out.2.1.trans (hk2.low (by omega) (fun k e => by have := HF.out.2.2.1; omega))).trans (hb3.mono (by omega)), (hb3.block _ (lt_there g2)).trans g2, hsrc⟩
  have htl : (ub t.data.toList).length = t.size := by omega
  obtain ⟨tb, htb⟩ : ∃ tb, tb = w2.heap.size := ⟨_, rfl⟩
  rw [← htb] at hcv HG
  have hrt : rb < tb := by omega
  have hwr := HF.out.2.2.1
  obtain ⟨u, hu⟩ : ∃ u, u = ub t.data.toList := ⟨_, rfl⟩
  rw [← hu] at HG htl
  have HU := Hid.mk hu
  clear hu
  clear kp hbl2 hk2 hsrc hb3 g2 hul hsz hfz hkz hmk d0 d1 r0 f0 hz3 htb
  go_wp2
  clear hcv
  go_loopw [21] (fun iv wr => ∃ i : Nat, iv = .int .i64 i ∧ i ≤ t.size ∧ BL wr rb (runP ps (u.take i)) ∧ Keeps (fun k => k = rb) w3 wr) (fun iv _ => t.size - (intOf iv).toNat)
  case atStart => exact ⟨0, rfl, Nat.zero_le _, HG.out.1, Keeps.refl _ _⟩
  case round =>
    obtain ⟨i, rfl, hi, hbl, hk⟩ := hrel
    have hwz := HG.out.2.1.size
    have g4 := (hk.block _ (lt_there HG.out.2.2.1) (by omega)).trans HG.out.2.2.1
    have d0 : wr.cell? ⟨w.heap.size, 0, none⟩ = some (.string s) := cell_of_block g4 (j := 0) rfl
    have d1 : wr.cell? ⟨w.heap.size, 1, none⟩ = some (.slice a ps.length c) := cell_of_block g4 (j := 1) rfl
    have hbw : Below w.heap.size w wr := HG.out.2.1.trans (hk.low (by omega) (fun k e => by omega))
    by_cases hlt : i < t.size
    · have hlt' : (i : Int) < (t.size : Int) := by omega
      have hsr := HG.out.2.2.2.avoid hk (fun y hy _ e => by cases hy; dsimp only at e; omega)
      have b0 : wr.cell? ⟨tb, i, none⟩ = some (.int .u8 (u.getD i 0)) := by
        have := hsr.2.2 _ rfl i hlt
        rwa [addr_add, Nat.zero_add] at this
      have hsn : runP ps (u.take (i + 1)) = passTo ps (takeL ps (runP ps (u.take i)) (u.getD i 0)) ps.length := by
        rw [← runP_snoc, take_snoc u i (by omega)]
      have hlenR := runP_len ps (u.take i)
      generalize u.getD i 0 = b at *
      generalize runP ps (u.take i) = R at *
      have kt := take_any s (ps.length + 1) b HF.out.1 hbw hbl (by omega) hlenR hps hpm
      have HI := Hid.mk (And.intro hbl (And.intro hk (And.intro g4 (And.intro hbw (And.intro hsn hlenR)))))
      clear hbl hk g4 hbw hsn hlenR hsr
      go_wp2_with fail
      refine kt.mono ?_
      rintro e w5 ⟨rfl, hbl5, hk5⟩
      have g5 := (hk5.block _ (lt_there HI.out.2.2.1) (by omega)).trans HI.out.2.2.1
      have d0 : w5.cell? ⟨w.heap.size, 0, none⟩ = some (.string s) := cell_of_block g5 (j := 0) rfl
      have d1 : w5.cell? ⟨w.heap.size, 1, none⟩ = some (.slice a ps.length c) := cell_of_block g5 (j := 1) rfl
      have hbw5 := HI.out.2.2.2.1.trans (hk5.low (by have := HI.out.2.2.2.1.size; omega) (fun k e => by omega))
      have kp := passOver_any s (ps.length + 1) HF.out.1 hbw5 hbl5 (by omega) (by rw [takeL_len]; exact HI.out.2.2.2.2.2) hps
      rw [← HI.out.2.2.2.2.1] at kp
      have H5 := Hid.mk hk5
      clear kt hbl5 hk5 g5 hbw5
      go_wp2_with fail
      refine kp.mono ?_
      rintro e w6 ⟨rfl, hbl6, hk6⟩
      have H6 := Hid.mk (And.intro hbl6 ((HI.out.2.1.trans H5.out (fun k e => .inl e)).trans hk6 (fun k e => .inl e)))
      clear kp hbl6 hk6 H5 HI
      go_wp2
      go_roundw
      case rel => exact ⟨i + 1, by go_num, by omega, H6.out.1, H6.out.2⟩
      case measure => simp [intOf]; omega
    · obtain rfl : i = t.size := by omega
      have hge : ¬ (t.size : Int) < (t.size : Int) := by omega
      rw [List.take_of_length_le (by omega)] at hbl
      have rn := hbl.cell (i := ps.length) (by rw [runP_len]; omega)
      have l5 : (ps.length : Int) < (ps.length : Int) + 1 := by omega
      have l6 : (0 : Int) ≤ (ps.length : Int) := by omega
      have HR := Hid.mk hbw
      clear hbl hk g4 hbw
      go_wp2
      go_ret
      exact ⟨by rw [← HU.out]; rfl, HR.out⟩
end
end Go.Proofs.Ytkdjjnkhbmmfeaa
