import Derived.Test.YtbedlabokjdhaaaDoorSHF
namespace Go.Proofs.YtbedlabokjdhaaaDoor
open Go.RowKit Go.Maps

theorem str_app (x y : List UInt8) : (⟨x.toArray⟩ : ByteArray) ++ ⟨y.toArray⟩ = ⟨(x ++ y).toArray⟩ := by
  have : ((⟨x.toArray⟩ : ByteArray) ++ ⟨y.toArray⟩).data = (x ++ y).toArray := by simp
  cases h : ((⟨x.toArray⟩ : ByteArray) ++ ⟨y.toArray⟩)
  rw [h] at this
  rw [← this]
/-- The world behind a conversion of a constant text of one byte. -/
def markW (w : World) (x : Value) : World := (w.alloc (.cells #[x] 5)).freeze ⟨w.heap.size, 1, none⟩ 1
theorem run_mark (w : World) (x : Value) : (convert 23 23 (.slice (some ⟨w.heap.size, 0, none⟩) 1 1)).run Tryd.prog (w.alloc (.cells #[x] 5)) = .ok (.slice (some ⟨w.heap.size, 0, none⟩) 1 1) (markW w x) := by
  have hsh : (w.alloc (.cells #[x] 5)).shape? w.heap.size = some (5, 1) := by
    simp [World.shape?, World.alloc, -World.alloc_eq]
  simp [convert, run_underlying (P := Tryd.prog) Tryd.underlying23, run_underlying (P := Tryd.prog) Tryd.underlying5, markStringish, hsh, markW, Result.andThen]
theorem mark_size (w : World) (x : Value) : (markW w x).heap.size = w.heap.size + 1 := by
  simp [markW, World.freeze, World.alloc, -World.alloc_eq]
theorem mark_old (w : World) (x : Value) (j : Nat) (hj : j < w.heap.size) : (markW w x).heap[j]? = w.heap[j]? := by
  have h1 : w.heap.size ≠ j := by omega
  simp [markW, World.freeze, World.alloc, -World.alloc_eq, Array.getElem?_modify, Array.getElem?_push, h1, Ne.symm h1]
theorem mark_below (w : World) (x : Value) : Below w.heap.size w (markW w x) := ⟨rfl, rfl, rfl, by rw [mark_size]; omega, fun j hj => mark_old w x j hj⟩
theorem mark_cell (w : World) (x : Value) : (markW w x).cell? ⟨w.heap.size, 0, none⟩ = some x := by
  have h : (markW w x).heap[w.heap.size]? = some (.cells #[x] 5 (1, 2)) := by
    simp [markW, World.freeze, World.alloc, -World.alloc_eq]
    rw [Array.getElem_modify_self]
    simp
  simp [World.cell?, h]
theorem told_slice {B : Nat} {w : World} {v : Value} {ws : List (List UInt8)} (h : Told B w v ws) : ∃ a c, v = .slice a ws.length c ∧ (a = none → ws.length = 0) ∧ ∀ g, a = some g → g.off = 0 ∧ g = ⟨g.block, 0, none⟩ ∧ ∀ (i : Nat) x, ws[i]? = some x → w.cell? ⟨g.block, i, none⟩ = some (.string ⟨x.toArray⟩) := by
  by_cases hv : v = .slice none 0 0
  · subst hv
    obtain ⟨_, ⟨_, hn⟩ | ⟨g, c, cur, e, _⟩⟩ := h
    · exact ⟨none, 0, by rw [hn], fun _ => hn, fun g hg => by cases hg⟩
    · cases e
  · obtain ⟨g, c, rfl, _, hr, _⟩ := RowAt.of_owns h hv
    refine ⟨some ⟨g, 0, none⟩, c, rfl, (fun e => by cases e), fun g' hg => ?_⟩
    cases hg
    exact ⟨rfl, rfl, fun i x hx => hr.cell (j := i) (by simp [strs, hx])⟩
set_option maxRecDepth 20000 in
set_option maxHeartbeats 8000000 in
theorem shellJoins_any (a : Option Addr) (n c : Nat) (f : Nat → List UInt8) (cs : ByteArray) (w : World) (hL : Lts w w.heap.size a n f) (hn : 24 * n ≤ 140737488355328) :
    Calls Tryd.prog 3 #[.slice a n c, .string cs] w fun e w' => e = .returned (.bool true) ∧ Below w.heap.size w w' := by
  have HL := Hid.mk hL
  clear hL
  obtain ⟨cm, hcm0⟩ : ∃ cm, cm = cs.data.toList.take 1000 := ⟨_, rfl⟩
  have hcml : cm.length ≤ 1000 := by rw [hcm0, List.length_take]; omega
  have hcmc : (¬ ((1000 : Int) < (cs.size : Int)) ∧ cs = ⟨cm.toArray⟩) ∨ ((1000 : Int) < (cs.size : Int) ∧ cs.extract 0 1000 = ⟨cm.toArray⟩) := by
    by_cases h : cs.size ≤ 1000
    · refine .inl ⟨by omega, ?_⟩
      rw [hcm0, List.take_of_length_le (by rw [len_size]; exact h)]
    · exact .inr ⟨by omega, by rw [ext_from, hcm0]⟩
  clear hcm0
  go_enter Tryd.func3, Tryd.ntmps3
  go_wp2
  go_loopw [5, 6, 7] (fun tv nv iv wr => ∃ k : Nat, k ≤ n ∧ tv = .string ⟨(lineW f k).toArray⟩ ∧ nv = .int .i64 k ∧ iv = .int .i64 k ∧ (lineW f k).length ≤ 36100 ∧ Below w.heap.size w wr) (fun _ _ iv _ => n - (intOf iv).toNat)
  case atStart => exact ⟨0, Nat.zero_le _, rfl, rfl, rfl, by simp [lineW], Below.refl _ _⟩
  case round =>
    obtain ⟨k, hk, rfl, rfl, rfl, hlen, hbr⟩ := hrel
    by_cases hlt : k < n
    · have hlt' : (k : Int) < (n : Int) := by omega
      by_cases h2 : (lineW f k).length < 20000
      · have h2' : ((lineW f k).length : Int) < 20000 := by omega
        obtain ⟨b, o, a', n', c', rfl, hb0, hc, hs, hfar, hn', hc'⟩ := HL.out.far hbr k hlt
        have HB := Hid.mk hbr
        have hz := hbr.size
        have hmin : min n' 4000 ≤ n' := Nat.min_le_left _ _
        have hs4 := src_take hs (n := min n' 4000) hmin
        have hl0 : (f k).length = n' := by rw [← ub_len]; exact hs.1
        have ht4 : (f k).take (min n' 4000) = trW f k := by
          unfold trW
          by_cases h4 : n' ≤ 4000
          · rw [Nat.min_eq_left h4, ← hl0, List.take_length, List.take_of_length_le (by omega)]
          · rw [Nat.min_eq_right (by omega)]
        rw [ht4] at hs4
        have hq := quote_any a' (min n' 4000) c' (trW f k) wr (by omega) hs4
        have hql := quo_len (trW f k)
        have htl : (trW f k).length ≤ 4000 := by unfold trW; rw [List.length_take]; omega
        have hline := lineW_succ f k
        have hll := congrArg List.length hline
        simp only [List.length_append, List.length_cons, List.length_nil] at hll
        have HM := Hid.mk (And.intro hline hll)
        have hnil := hs.2.1
        clear hbr hs hs4 hline hll ht4 hl0
        have e1 : (⟨(lineW f k).toArray⟩ : ByteArray) ++ ⟨#[32]⟩ = ⟨(lineW f k ++ [32]).toArray⟩ := str_app _ [32]
        have e2 : (⟨(lineW f k ++ [32]).toArray⟩ : ByteArray) ++ ⟨(quo (trW f k)).toArray⟩ = ⟨(lineW f (k + 1)).toArray⟩ := by rw [HM.out.1]; exact str_app _ _
        by_cases h4 : n' ≤ 4000
        · have h4' : ¬ ((4000 : Int) < (n' : Int)) := by omega
          rw [Nat.min_eq_left h4] at hq
          go_wp2_with fail
          refine hq.mono ?_
          rintro e w1 ⟨rfl, hb1⟩
          have HB1 := Hid.mk (HB.out.trans (hb1.mono hz))
          clear hb1 hq
          go_wp2
          go_roundw
          case rel => exact ⟨k + 1, by omega, rfl, by go_num, by go_num, by have := HM.out.2; omega, HB1.out⟩
          case measure => simp [intOf]; omega
        · have h4' : (4000 : Int) < (n' : Int) := by omega
          have h4c : (4000 : Int) ≤ (c' : Int) := by omega
          rw [Nat.min_eq_right (by omega)] at hq
          obtain ⟨x, rfl⟩ : ∃ x, a' = some x := by
            cases a' with
            | none => exact absurd (hnil rfl) (by omega)
            | some x => exact ⟨x, rfl⟩
          go_wp2_with fail
          refine hq.mono ?_
          rintro e w1 ⟨rfl, hb1⟩
          have HB1 := Hid.mk (HB.out.trans (hb1.mono hz))
          clear hb1 hq
          go_wp2
          go_roundw
          case rel => exact ⟨k + 1, by omega, rfl, by go_num, by go_num, by have := HM.out.2; omega, HB1.out⟩
          case measure => simp [intOf]; omega
      · have h2' : ¬ ((lineW f k).length : Int) < 20000 := by omega
        have hwl := wds_lineW f k cm
        obtain ⟨L1, hL1⟩ : ∃ L1, L1 = lineW f k ++ [9, 35] := ⟨_, rfl⟩
        obtain ⟨L2, hL2⟩ : ∃ L2, L2 = lineW f k ++ 9 :: 35 :: cm := ⟨_, rfl⟩
        have hl1 : L1.length = (lineW f k).length + 2 := by rw [hL1]; simp
        have hl2 : L2.length = (lineW f k).length + (cm.length + 1 + 1) := by rw [hL2]; simp
        rw [← hL2] at hwl
        have hwd : ∀ w', _ := fun w' => words_q ⟨L2.toArray⟩ ((List.range k).map (trW f)) (by show L2.toArray.size ≤ _; rw [List.size_toArray]; omega) hwl w'
        have e1 : (⟨(lineW f k).toArray⟩ : ByteArray) ++ ⟨#[9, 35]⟩ = ⟨L1.toArray⟩ := by rw [hL1]; exact str_app _ [9, 35]
        have e2 : (⟨L1.toArray⟩ : ByteArray) ++ ⟨cm.toArray⟩ = ⟨L2.toArray⟩ := by rw [str_app, hL1, hL2]; simp
        have x1 : (9223372036854775807 < (lineW f k).length + 2) = False := eq_false (by omega)
        have x2 : (9223372036854775807 < L1.length + cm.length) = False := eq_false (by omega)
        have HB := Hid.mk hbr
        have hz := hbr.size
        have HLN := Hid.mk (And.intro hlen (And.intro hl1 hl2))
        clear hbr hwl hL1 hL2 hl1 hl2 hlen
        have hjk : k ≤ n := by omega
        have hk3 : ((List.range k).map (trW f)).length = k := by simp
        rcases hcmc with ⟨hc1, hc2⟩ | ⟨hc1, hc2⟩
        · subst hc2
          have hc1' : ¬ ((1000 : Int) < (cm.length : Int)) := by omega
          clear hc1
          go_wp2_with fail
          refine (hwd _).mono ?_
          rintro e w3 ⟨v, rfl, htold, hb3⟩
          obtain ⟨a3, c3, rfl, hnil3, hcell3⟩ := told_slice htold
          rw [hk3] at hnil3
          have HB3 := Hid.mk (HB.out.trans (hb3.mono hz))
          have H3 : Hid ((a3 = none → k = 0) ∧ True ∧ ∀ g, a3 = some g → g = ⟨g.block, 0, none⟩ ∧ ∀ i, i < k → w3.cell? ⟨g.block, i, none⟩ = some (.string ⟨(trW f i).toArray⟩)) := Hid.mk ⟨hnil3, trivial, fun g hg => ⟨(hcell3 g hg).2.1, fun i hi => (hcell3 g hg).2.2 i (trW f i) (by simp [hi])⟩⟩
          have hz3 : w.heap.size ≤ w3.heap.size := HB3.out.size
          clear hb3 hwd htold hnil3 hcell3 e1 e2 x1 x2
          rw [hk3]
          go_wp2
          go_loopw [11] (fun jv wr2 => ∃ j : Nat, j ≤ k ∧ jv = .int .i64 j ∧ Below w3.heap.size w3 wr2) (fun jv _ => k - (intOf jv).toNat)
          case atStart => exact ⟨0, Nat.zero_le _, rfl, Below.refl _ _⟩
          case round =>
            obtain ⟨j, hjk', rfl, hbr⟩ := hrel
            by_cases hj : j < k
            · have hBW : Below w.heap.size w wr := HB3.out.trans (hbr.mono hz3)
              obtain ⟨b, o, a', n', c', rfl, hb0, hc, hs, hfar, hn', hc'⟩ := HL.out.far hBW j (by omega)
              obtain ⟨g, rfl, hg⟩ : ∃ g, a3 = some ⟨g, 0, none⟩ ∧ ∀ i, i < k → w3.cell? ⟨g, i, none⟩ = some (.string ⟨(trW f i).toArray⟩) := by
                cases a3 with
                | none => exact absurd (H3.out.1 rfl) (by omega)
                | some g0 => exact ⟨g0.block, congrArg some (H3.out.2.2 g0 rfl).1, (H3.out.2.2 g0 rfl).2⟩
              have hmin : min n' 4000 ≤ n' := Nat.min_le_left _ _
              have hs4 := src_take hs (n := min n' 4000) hmin
              have hl0 : (f j).length = n' := by rw [← ub_len]; exact hs.1
              have ht4 : (f j).take (min n' 4000) = trW f j := by
                unfold trW
                by_cases h4 : n' ≤ 4000
                · rw [Nat.min_eq_left h4, ← hl0, List.take_length, List.take_of_length_le (by omega)]
                · rw [Nat.min_eq_right (by omega)]
              rw [ht4] at hs4
              have hnil := hs.2.1
              clear ht4 hl0 hBW
              by_cases h4 : n' ≤ 4000
              · have h4' : ¬ ((4000 : Int) < (n' : Int)) := by omega
                rw [Nat.min_eq_left h4] at hs4
                have hc0 : wr.drew.cell? ⟨g, j, none⟩ = some (.string ⟨(trW f j).toArray⟩) := cell_later (below_drew hbr) (hg j hj)
                have hcv : (convert 23 9 (.slice a' (n') c')).run Tryd.prog wr.drew = .ok (.string ⟨(trW f j).toArray⟩) wr.drew := conv_src c' (w := wr.drew) ⟨hs4.1, hs4.2.1, hs4.2.2⟩
                have HR := Hid.mk hbr
                have lj : (j : Int) < (k : Int) := by omega
                have lj0 : (0 : Int) ≤ (j : Int) := by omega
                clear hs4 hs hbr hg
                go_wp2
                go_region
                go_wp2
                go_roundw
                case rel => exact ⟨j + 1, by omega, by go_num, below_drew HR.out⟩
                case measure => simp [intOf]; omega
              · have h4' : (4000 : Int) < (n' : Int) := by omega
                have h4c : (4000 : Int) ≤ (c' : Int) := by omega
                rw [Nat.min_eq_right (by omega)] at hs4
                obtain ⟨x, rfl⟩ : ∃ x, a' = some x := by
                  cases a' with
                  | none => exact absurd (hnil rfl) (by omega)
                  | some x => exact ⟨x, rfl⟩
                have hc0 : wr.drew.cell? ⟨g, j, none⟩ = some (.string ⟨(trW f j).toArray⟩) := cell_later (below_drew hbr) (hg j hj)
                have hcv : (convert 23 9 (.slice (some x) (4000) c')).run Tryd.prog wr.drew = .ok (.string ⟨(trW f j).toArray⟩) wr.drew := conv_src c' (w := wr.drew) ⟨hs4.1, hs4.2.1, hs4.2.2⟩
                have HR := Hid.mk hbr
                have lj : (j : Int) < (k : Int) := by omega
                have lj0 : (0 : Int) ≤ (j : Int) := by omega
                clear hs4 hs hbr hg
                go_wp2
                go_region
                go_wp2
                go_roundw
                case rel => exact ⟨j + 1, by omega, by go_num, below_drew HR.out⟩
                case measure => simp [intOf]; omega
            · have hj' : ¬ ((j : Int) < (k : Int)) := by omega
              have hsrc : Src (markW wr (.int .u8 120)) (some ⟨wr.heap.size, 0, none⟩) 1 (ub [120]) := by
                refine ⟨rfl, (fun e => by cases e), fun x hx i hi => ?_⟩
                cases hx
                obtain rfl : i = 0 := by omega
                exact mark_cell wr _
              have hq := quote_any (some ⟨wr.heap.size, 0, none⟩) 1 1 [120] _ (by omega) hsrc
              have HR := Hid.mk (HB3.out.trans (hbr.mono hz3))
              have hzr : w.heap.size ≤ wr.heap.size := HR.out.size
              clear hsrc hbr
              rw [show (quo [120]) = [34, 120, 34] from rfl] at hq
              have hcc := run_mark wr (.int .u8 120)
              have HMK := Hid.mk (And.intro (mark_below wr (.int .u8 120)) (mark_size wr (.int .u8 120)))
              generalize markW wr (.int .u8 120) = wm at *
              go_wp2_with fail
              refine hq.mono ?_
              rintro e w5 ⟨rfl, hb5⟩
              have HB5 := Hid.mk ((HR.out.trans (HMK.out.1.mono hzr)).trans (hb5.mono (by have := HMK.out.2; omega)))
              clear hb5 hq
              go_wp2
              go_ret
              exact ⟨rfl, HB5.out⟩
        · have hc3 : (1000 : Int) ≤ (cs.size : Int) := by omega
          go_wp2_with fail
          refine (hwd _).mono ?_
          rintro e w3 ⟨v, rfl, htold, hb3⟩
          obtain ⟨a3, c3, rfl, hnil3, hcell3⟩ := told_slice htold
          rw [hk3] at hnil3
          have HB3 := Hid.mk (HB.out.trans (hb3.mono hz))
          have H3 : Hid ((a3 = none → k = 0) ∧ True ∧ ∀ g, a3 = some g → g = ⟨g.block, 0, none⟩ ∧ ∀ i, i < k → w3.cell? ⟨g.block, i, none⟩ = some (.string ⟨(trW f i).toArray⟩)) := Hid.mk ⟨hnil3, trivial, fun g hg => ⟨(hcell3 g hg).2.1, fun i hi => (hcell3 g hg).2.2 i (trW f i) (by simp [hi])⟩⟩
          have hz3 : w.heap.size ≤ w3.heap.size := HB3.out.size
          clear hb3 hwd htold hnil3 hcell3 e1 e2 x1 x2
          rw [hk3]
          go_wp2
          go_loopw [11] (fun jv wr2 => ∃ j : Nat, j ≤ k ∧ jv = .int .i64 j ∧ Below w3.heap.size w3 wr2) (fun jv _ => k - (intOf jv).toNat)
          case atStart => exact ⟨0, Nat.zero_le _, rfl, Below.refl _ _⟩
          case round =>
            obtain ⟨j, hjk', rfl, hbr⟩ := hrel
            by_cases hj : j < k
            · have hBW : Below w.heap.size w wr := HB3.out.trans (hbr.mono hz3)
              obtain ⟨b, o, a', n', c', rfl, hb0, hc, hs, hfar, hn', hc'⟩ := HL.out.far hBW j (by omega)
              obtain ⟨g, rfl, hg⟩ : ∃ g, a3 = some ⟨g, 0, none⟩ ∧ ∀ i, i < k → w3.cell? ⟨g, i, none⟩ = some (.string ⟨(trW f i).toArray⟩) := by
                cases a3 with
                | none => exact absurd (H3.out.1 rfl) (by omega)
                | some g0 => exact ⟨g0.block, congrArg some (H3.out.2.2 g0 rfl).1, (H3.out.2.2 g0 rfl).2⟩
              have hmin : min n' 4000 ≤ n' := Nat.min_le_left _ _
              have hs4 := src_take hs (n := min n' 4000) hmin
              have hl0 : (f j).length = n' := by rw [← ub_len]; exact hs.1
              have ht4 : (f j).take (min n' 4000) = trW f j := by
                unfold trW
                by_cases h4 : n' ≤ 4000
                · rw [Nat.min_eq_left h4, ← hl0, List.take_length, List.take_of_length_le (by omega)]
                · rw [Nat.min_eq_right (by omega)]
              rw [ht4] at hs4
              have hnil := hs.2.1
              clear ht4 hl0 hBW
              by_cases h4 : n' ≤ 4000
              · have h4' : ¬ ((4000 : Int) < (n' : Int)) := by omega
                rw [Nat.min_eq_left h4] at hs4
                have hc0 : wr.drew.cell? ⟨g, j, none⟩ = some (.string ⟨(trW f j).toArray⟩) := cell_later (below_drew hbr) (hg j hj)
                have hcv : (convert 23 9 (.slice a' (n') c')).run Tryd.prog wr.drew = .ok (.string ⟨(trW f j).toArray⟩) wr.drew := conv_src c' (w := wr.drew) ⟨hs4.1, hs4.2.1, hs4.2.2⟩
                have HR := Hid.mk hbr
                have lj : (j : Int) < (k : Int) := by omega
                have lj0 : (0 : Int) ≤ (j : Int) := by omega
                clear hs4 hs hbr hg
                go_wp2
                go_region
                go_wp2
                go_roundw
                case rel => exact ⟨j + 1, by omega, by go_num, below_drew HR.out⟩
                case measure => simp [intOf]; omega
              · have h4' : (4000 : Int) < (n' : Int) := by omega
                have h4c : (4000 : Int) ≤ (c' : Int) := by omega
                rw [Nat.min_eq_right (by omega)] at hs4
                obtain ⟨x, rfl⟩ : ∃ x, a' = some x := by
                  cases a' with
                  | none => exact absurd (hnil rfl) (by omega)
                  | some x => exact ⟨x, rfl⟩
                have hc0 : wr.drew.cell? ⟨g, j, none⟩ = some (.string ⟨(trW f j).toArray⟩) := cell_later (below_drew hbr) (hg j hj)
                have hcv : (convert 23 9 (.slice (some x) (4000) c')).run Tryd.prog wr.drew = .ok (.string ⟨(trW f j).toArray⟩) wr.drew := conv_src c' (w := wr.drew) ⟨hs4.1, hs4.2.1, hs4.2.2⟩
                have HR := Hid.mk hbr
                have lj : (j : Int) < (k : Int) := by omega
                have lj0 : (0 : Int) ≤ (j : Int) := by omega
                clear hs4 hs hbr hg
                go_wp2
                go_region
                go_wp2
                go_roundw
                case rel => exact ⟨j + 1, by omega, by go_num, below_drew HR.out⟩
                case measure => simp [intOf]; omega
            · have hj' : ¬ ((j : Int) < (k : Int)) := by omega
              have hsrc : Src (markW wr (.int .u8 120)) (some ⟨wr.heap.size, 0, none⟩) 1 (ub [120]) := by
                refine ⟨rfl, (fun e => by cases e), fun x hx i hi => ?_⟩
                cases hx
                obtain rfl : i = 0 := by omega
                exact mark_cell wr _
              have hq := quote_any (some ⟨wr.heap.size, 0, none⟩) 1 1 [120] _ (by omega) hsrc
              have HR := Hid.mk (HB3.out.trans (hbr.mono hz3))
              have hzr : w.heap.size ≤ wr.heap.size := HR.out.size
              clear hsrc hbr
              rw [show (quo [120]) = [34, 120, 34] from rfl] at hq
              have hcc := run_mark wr (.int .u8 120)
              have HMK := Hid.mk (And.intro (mark_below wr (.int .u8 120)) (mark_size wr (.int .u8 120)))
              generalize markW wr (.int .u8 120) = wm at *
              go_wp2_with fail
              refine hq.mono ?_
              rintro e w5 ⟨rfl, hb5⟩
              have HB5 := Hid.mk ((HR.out.trans (HMK.out.1.mono hzr)).trans (hb5.mono (by have := HMK.out.2; omega)))
              clear hb5 hq
              go_wp2
              go_ret
              exact ⟨rfl, HB5.out⟩
    · have hlt' : ¬ ((k : Int) < (n : Int)) := by omega
      have hwl := wds_lineW f k cm
      obtain ⟨L1, hL1⟩ : ∃ L1, L1 = lineW f k ++ [9, 35] := ⟨_, rfl⟩
      obtain ⟨L2, hL2⟩ : ∃ L2, L2 = lineW f k ++ 9 :: 35 :: cm := ⟨_, rfl⟩
      have hl1 : L1.length = (lineW f k).length + 2 := by rw [hL1]; simp
      have hl2 : L2.length = (lineW f k).length + (cm.length + 1 + 1) := by rw [hL2]; simp
      rw [← hL2] at hwl
      have hwd : ∀ w', _ := fun w' => words_q ⟨L2.toArray⟩ ((List.range k).map (trW f)) (by show L2.toArray.size ≤ _; rw [List.size_toArray]; omega) hwl w'
      have e1 : (⟨(lineW f k).toArray⟩ : ByteArray) ++ ⟨#[9, 35]⟩ = ⟨L1.toArray⟩ := by rw [hL1]; exact str_app _ [9, 35]
      have e2 : (⟨L1.toArray⟩ : ByteArray) ++ ⟨cm.toArray⟩ = ⟨L2.toArray⟩ := by rw [str_app, hL1, hL2]; simp
      have x1 : (9223372036854775807 < (lineW f k).length + 2) = False := eq_false (by omega)
      have x2 : (9223372036854775807 < L1.length + cm.length) = False := eq_false (by omega)
      have HB := Hid.mk hbr
      have hz := hbr.size
      have HLN := Hid.mk (And.intro hlen (And.intro hl1 hl2))
      clear hbr hwl hL1 hL2 hl1 hl2 hlen
      have hjk : k ≤ n := by omega
      have hk3 : ((List.range k).map (trW f)).length = k := by simp
      rcases hcmc with ⟨hc1, hc2⟩ | ⟨hc1, hc2⟩
      · subst hc2
        have hc1' : ¬ ((1000 : Int) < (cm.length : Int)) := by omega
        clear hc1
        go_wp2_with fail
        refine (hwd _).mono ?_
        rintro e w3 ⟨v, rfl, htold, hb3⟩
        obtain ⟨a3, c3, rfl, hnil3, hcell3⟩ := told_slice htold
        rw [hk3] at hnil3
        have HB3 := Hid.mk (HB.out.trans (hb3.mono hz))
        have H3 : Hid ((a3 = none → k = 0) ∧ True ∧ ∀ g, a3 = some g → g = ⟨g.block, 0, none⟩ ∧ ∀ i, i < k → w3.cell? ⟨g.block, i, none⟩ = some (.string ⟨(trW f i).toArray⟩)) := Hid.mk ⟨hnil3, trivial, fun g hg => ⟨(hcell3 g hg).2.1, fun i hi => (hcell3 g hg).2.2 i (trW f i) (by simp [hi])⟩⟩
        have hz3 : w.heap.size ≤ w3.heap.size := HB3.out.size
        clear hb3 hwd htold hnil3 hcell3 e1 e2 x1 x2
        rw [hk3]
        go_wp2
        go_loopw [11] (fun jv wr2 => ∃ j : Nat, j ≤ k ∧ jv = .int .i64 j ∧ Below w3.heap.size w3 wr2) (fun jv _ => k - (intOf jv).toNat)
        case atStart => exact ⟨0, Nat.zero_le _, rfl, Below.refl _ _⟩
        case round =>
          obtain ⟨j, hjk', rfl, hbr⟩ := hrel
          by_cases hj : j < k
          · have hBW : Below w.heap.size w wr := HB3.out.trans (hbr.mono hz3)
            obtain ⟨b, o, a', n', c', rfl, hb0, hc, hs, hfar, hn', hc'⟩ := HL.out.far hBW j (by omega)
            obtain ⟨g, rfl, hg⟩ : ∃ g, a3 = some ⟨g, 0, none⟩ ∧ ∀ i, i < k → w3.cell? ⟨g, i, none⟩ = some (.string ⟨(trW f i).toArray⟩) := by
              cases a3 with
              | none => exact absurd (H3.out.1 rfl) (by omega)
              | some g0 => exact ⟨g0.block, congrArg some (H3.out.2.2 g0 rfl).1, (H3.out.2.2 g0 rfl).2⟩
            have hmin : min n' 4000 ≤ n' := Nat.min_le_left _ _
            have hs4 := src_take hs (n := min n' 4000) hmin
            have hl0 : (f j).length = n' := by rw [← ub_len]; exact hs.1
            have ht4 : (f j).take (min n' 4000) = trW f j := by
              unfold trW
              by_cases h4 : n' ≤ 4000
              · rw [Nat.min_eq_left h4, ← hl0, List.take_length, List.take_of_length_le (by omega)]
              · rw [Nat.min_eq_right (by omega)]
            rw [ht4] at hs4
            have hnil := hs.2.1
            clear ht4 hl0 hBW
            by_cases h4 : n' ≤ 4000
            · have h4' : ¬ ((4000 : Int) < (n' : Int)) := by omega
              rw [Nat.min_eq_left h4] at hs4
              have hc0 : wr.drew.cell? ⟨g, j, none⟩ = some (.string ⟨(trW f j).toArray⟩) := cell_later (below_drew hbr) (hg j hj)
              have hcv : (convert 23 9 (.slice a' (n') c')).run Tryd.prog wr.drew = .ok (.string ⟨(trW f j).toArray⟩) wr.drew := conv_src c' (w := wr.drew) ⟨hs4.1, hs4.2.1, hs4.2.2⟩
              have HR := Hid.mk hbr
              have lj : (j : Int) < (k : Int) := by omega
              have lj0 : (0 : Int) ≤ (j : Int) := by omega
              clear hs4 hs hbr hg
              go_wp2
              go_region
              go_wp2
              go_roundw
              case rel => exact ⟨j + 1, by omega, by go_num, below_drew HR.out⟩
              case measure => simp [intOf]; omega
            · have h4' : (4000 : Int) < (n' : Int) := by omega
              have h4c : (4000 : Int) ≤ (c' : Int) := by omega
              rw [Nat.min_eq_right (by omega)] at hs4
              obtain ⟨x, rfl⟩ : ∃ x, a' = some x := by
                cases a' with
                | none => exact absurd (hnil rfl) (by omega)
                | some x => exact ⟨x, rfl⟩
              have hc0 : wr.drew.cell? ⟨g, j, none⟩ = some (.string ⟨(trW f j).toArray⟩) := cell_later (below_drew hbr) (hg j hj)
              have hcv : (convert 23 9 (.slice (some x) (4000) c')).run Tryd.prog wr.drew = .ok (.string ⟨(trW f j).toArray⟩) wr.drew := conv_src c' (w := wr.drew) ⟨hs4.1, hs4.2.1, hs4.2.2⟩
              have HR := Hid.mk hbr
              have lj : (j : Int) < (k : Int) := by omega
              have lj0 : (0 : Int) ≤ (j : Int) := by omega
              clear hs4 hs hbr hg
              go_wp2
              go_region
              go_wp2
              go_roundw
              case rel => exact ⟨j + 1, by omega, by go_num, below_drew HR.out⟩
              case measure => simp [intOf]; omega
          · have hj' : ¬ ((j : Int) < (k : Int)) := by omega
            have hsrc : Src (markW wr (.int .u8 120)) (some ⟨wr.heap.size, 0, none⟩) 1 (ub [120]) := by
              refine ⟨rfl, (fun e => by cases e), fun x hx i hi => ?_⟩
              cases hx
              obtain rfl : i = 0 := by omega
              exact mark_cell wr _
            have hq := quote_any (some ⟨wr.heap.size, 0, none⟩) 1 1 [120] _ (by omega) hsrc
            have HR := Hid.mk (HB3.out.trans (hbr.mono hz3))
            have hzr : w.heap.size ≤ wr.heap.size := HR.out.size
            clear hsrc hbr
            rw [show (quo [120]) = [34, 120, 34] from rfl] at hq
            have hcc := run_mark wr (.int .u8 120)
            have HMK := Hid.mk (And.intro (mark_below wr (.int .u8 120)) (mark_size wr (.int .u8 120)))
            generalize markW wr (.int .u8 120) = wm at *
            go_wp2_with fail
            refine hq.mono ?_
            rintro e w5 ⟨rfl, hb5⟩
            have HB5 := Hid.mk ((HR.out.trans (HMK.out.1.mono hzr)).trans (hb5.mono (by have := HMK.out.2; omega)))
            clear hb5 hq
            go_wp2
            go_ret
            exact ⟨rfl, HB5.out⟩
      · have hc3 : (1000 : Int) ≤ (cs.size : Int) := by omega
        go_wp2_with fail
        refine (hwd _).mono ?_
        rintro e w3 ⟨v, rfl, htold, hb3⟩
        obtain ⟨a3, c3, rfl, hnil3, hcell3⟩ := told_slice htold
        rw [hk3] at hnil3
        have HB3 := Hid.mk (HB.out.trans (hb3.mono hz))
        have H3 : Hid ((a3 = none → k = 0) ∧ True ∧ ∀ g, a3 = some g → g = ⟨g.block, 0, none⟩ ∧ ∀ i, i < k → w3.cell? ⟨g.block, i, none⟩ = some (.string ⟨(trW f i).toArray⟩)) := Hid.mk ⟨hnil3, trivial, fun g hg => ⟨(hcell3 g hg).2.1, fun i hi => (hcell3 g hg).2.2 i (trW f i) (by simp [hi])⟩⟩
        have hz3 : w.heap.size ≤ w3.heap.size := HB3.out.size
        clear hb3 hwd htold hnil3 hcell3 e1 e2 x1 x2
        rw [hk3]
        go_wp2
        go_loopw [11] (fun jv wr2 => ∃ j : Nat, j ≤ k ∧ jv = .int .i64 j ∧ Below w3.heap.size w3 wr2) (fun jv _ => k - (intOf jv).toNat)
        case atStart => exact ⟨0, Nat.zero_le _, rfl, Below.refl _ _⟩
        case round =>
          obtain ⟨j, hjk', rfl, hbr⟩ := hrel
          by_cases hj : j < k
          · have hBW : Below w.heap.size w wr := HB3.out.trans (hbr.mono hz3)
            obtain ⟨b, o, a', n', c', rfl, hb0, hc, hs, hfar, hn', hc'⟩ := HL.out.far hBW j (by omega)
            obtain ⟨g, rfl, hg⟩ : ∃ g, a3 = some ⟨g, 0, none⟩ ∧ ∀ i, i < k → w3.cell? ⟨g, i, none⟩ = some (.string ⟨(trW f i).toArray⟩) := by
              cases a3 with
              | none => exact absurd (H3.out.1 rfl) (by omega)
              | some g0 => exact ⟨g0.block, congrArg some (H3.out.2.2 g0 rfl).1, (H3.out.2.2 g0 rfl).2⟩
            have hmin : min n' 4000 ≤ n' := Nat.min_le_left _ _
            have hs4 := src_take hs (n := min n' 4000) hmin
            have hl0 : (f j).length = n' := by rw [← ub_len]; exact hs.1
            have ht4 : (f j).take (min n' 4000) = trW f j := by
              unfold trW
              by_cases h4 : n' ≤ 4000
              · rw [Nat.min_eq_left h4, ← hl0, List.take_length, List.take_of_length_le (by omega)]
              · rw [Nat.min_eq_right (by omega)]
            rw [ht4] at hs4
            have hnil := hs.2.1
            clear ht4 hl0 hBW
            by_cases h4 : n' ≤ 4000
            · have h4' : ¬ ((4000 : Int) < (n' : Int)) := by omega
              rw [Nat.min_eq_left h4] at hs4
              have hc0 : wr.drew.cell? ⟨g, j, none⟩ = some (.string ⟨(trW f j).toArray⟩) := cell_later (below_drew hbr) (hg j hj)
              have hcv : (convert 23 9 (.slice a' (n') c')).run Tryd.prog wr.drew = .ok (.string ⟨(trW f j).toArray⟩) wr.drew := conv_src c' (w := wr.drew) ⟨hs4.1, hs4.2.1, hs4.2.2⟩
              have HR := Hid.mk hbr
              have lj : (j : Int) < (k : Int) := by omega
              have lj0 : (0 : Int) ≤ (j : Int) := by omega
              clear hs4 hs hbr hg
              go_wp2
              go_region
              go_wp2
              go_roundw
              case rel => exact ⟨j + 1, by omega, by go_num, below_drew HR.out⟩
              case measure => simp [intOf]; omega
            · have h4' : (4000 : Int) < (n' : Int) := by omega
              have h4c : (4000 : Int) ≤ (c' : Int) := by omega
              rw [Nat.min_eq_right (by omega)] at hs4
              obtain ⟨x, rfl⟩ : ∃ x, a' = some x := by
                cases a' with
                | none => exact absurd (hnil rfl) (by omega)
                | some x => exact ⟨x, rfl⟩
              have hc0 : wr.drew.cell? ⟨g, j, none⟩ = some (.string ⟨(trW f j).toArray⟩) := cell_later (below_drew hbr) (hg j hj)
              have hcv : (convert 23 9 (.slice (some x) (4000) c')).run Tryd.prog wr.drew = .ok (.string ⟨(trW f j).toArray⟩) wr.drew := conv_src c' (w := wr.drew) ⟨hs4.1, hs4.2.1, hs4.2.2⟩
              have HR := Hid.mk hbr
              have lj : (j : Int) < (k : Int) := by omega
              have lj0 : (0 : Int) ≤ (j : Int) := by omega
              clear hs4 hs hbr hg
              go_wp2
              go_region
              go_wp2
              go_roundw
              case rel => exact ⟨j + 1, by omega, by go_num, below_drew HR.out⟩
              case measure => simp [intOf]; omega
          · have hj' : ¬ ((j : Int) < (k : Int)) := by omega
            have hsrc : Src (markW wr (.int .u8 120)) (some ⟨wr.heap.size, 0, none⟩) 1 (ub [120]) := by
              refine ⟨rfl, (fun e => by cases e), fun x hx i hi => ?_⟩
              cases hx
              obtain rfl : i = 0 := by omega
              exact mark_cell wr _
            have hq := quote_any (some ⟨wr.heap.size, 0, none⟩) 1 1 [120] _ (by omega) hsrc
            have HR := Hid.mk (HB3.out.trans (hbr.mono hz3))
            have hzr : w.heap.size ≤ wr.heap.size := HR.out.size
            clear hsrc hbr
            rw [show (quo [120]) = [34, 120, 34] from rfl] at hq
            have hcc := run_mark wr (.int .u8 120)
            have HMK := Hid.mk (And.intro (mark_below wr (.int .u8 120)) (mark_size wr (.int .u8 120)))
            generalize markW wr (.int .u8 120) = wm at *
            go_wp2_with fail
            refine hq.mono ?_
            rintro e w5 ⟨rfl, hb5⟩
            have HB5 := Hid.mk ((HR.out.trans (HMK.out.1.mono hzr)).trans (hb5.mono (by have := HMK.out.2; omega)))
            clear hb5 hq
            go_wp2
            go_ret
            exact ⟨rfl, HB5.out⟩
end Go.Proofs.YtbedlabokjdhaaaDoor
