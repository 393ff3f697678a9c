import Derived.Test.YtbedlabokjdhaaaDoorSHD
namespace Go.Proofs.YtbedlabokjdhaaaDoor
open Go.RowKit Go.Maps

theorem conv_src {w : World} {a : Option Addr} {n : Nat} (c : Nat) {l : List UInt8} (h : Src w a n (ub l)) : (convert 23 9 (.slice a n c)).run Tryd.prog w = .ok (.string ⟨l.toArray⟩) w := by
  cases a with
  | none =>
    have h0 : n = 0 := h.2.1 rfl
    have h1 := h.1
    rw [h0, ub_len] at h1
    obtain rfl := List.eq_nil_of_length_eq_zero h1
    exact run_convert_bytes_nil (P := Tryd.prog) w 23 5 Tryd.underlying23 Tryd.underlying5 n c 9 Tryd.underlying9
  | some x =>
    have hl : (loadCells x n).run Tryd.prog w = .ok ((ub l).map (Value.int .u8)).toArray w := by
      have := run_loadCells_list (P := Tryd.prog) w x ((ub l).map (Value.int .u8)) (fun j v hj => by
        have hjl : j < (ub l).length := by
          rcases Nat.lt_or_ge j (ub l).length with h' | h'
          · exact h'
          · simp [List.getElem?_eq_none (show ((ub l).map (Value.int .u8)).length ≤ j by simpa using h')] at hj
        rw [h.at (by rw [← h.1]; exact hjl)]
        simp [List.getElem?_eq_getElem hjl] at hj
        subst hj
        simp [List.getD, List.getElem?_eq_getElem hjl])
      rw [List.length_map, h.1] at this
      exact this
    rw [run_convert_bytes_string w 23 9 5 _ n c Tryd.underlying23 Tryd.underlying5 Tryd.underlying9, run_bytesToString w _ n c (ub l) hl, foldl_push_bytes]
    refine Eq.trans ?_ (congrArg (fun s => Result.ok (Value.string s) w) (strOf_ub l))
    simp [strOfNums, ByteArray.empty, ByteArray.emptyWithCapacity]
    rfl
theorem src_take {w : World} {a : Option Addr} {m n : Nat} {l : List UInt8} (h : Src w a m (ub l)) (hn : n ≤ m) : Src w a n (ub (l.take n)) := by
  have hl : l.length = m := by rw [← ub_len]; exact h.1
  refine ⟨by rw [ub_len, List.length_take]; omega, fun e => ?_, fun x hx i hi => ?_⟩
  · have := h.2.1 e
    omega
  · rw [h.2.2 x hx i (by omega)]
    simp only [ub, List.getD, List.getElem?_map, List.getElem?_take, if_pos hi]
set_option maxRecDepth 20000 in
set_option maxHeartbeats 4000000 in
theorem shellQuotes_any (a : Option Addr) (m c : Nat) (L : List UInt8) (w : World) (hs0 : Src w a m (ub L)) (hmc : m ≤ c) (hm47 : m ≤ 140737488355328) :
    Calls Tryd.prog 4 #[.slice a m c] w fun e w' => e = .returned (.bool true) ∧ Below w.heap.size w w' := by
  have hle : min m 16000 ≤ m := Nat.min_le_left _ _
  obtain ⟨n, hn0⟩ : ∃ n, n = min m 16000 := ⟨_, rfl⟩
  obtain ⟨l, hl0⟩ : ∃ l, l = L.take n := ⟨_, rfl⟩
  have hs : Src w a n (ub l) := by rw [hl0, hn0]; exact src_take hs0 hle
  have hn : n ≤ 16000 := by omega
  have hq := quote_any a n c l w (by omega) hs
  have hll : l.length = n := by rw [← ub_len]; exact hs.1
  have hsz : (quo l).length ≤ 65536 := by have := quo_len l; omega
  have hwd : ∀ w, _ := fun w => words_q ⟨(quo l).toArray⟩ [l] (by show (quo l).toArray.size ≤ _; rw [List.size_toArray]; exact hsz) (wds_quo l) w
  have Hs := Hid.mk hs
  clear hs hll hsz hs0 hl0 hle
  by_cases hm : m ≤ 16000
  · have e : m = n := by omega
    subst e
    clear hn0
    have hgt : ¬ ((16000 : Int) < (m : Int)) := by omega
    go_enter Tryd.func4, Tryd.ntmps4
    go_wp2_with fail
    refine hq.mono ?_
    rintro e w1 ⟨rfl, hb1⟩
    have hs1 := Hs.out.later hb1
    have hr := rquote_any a m c l w1 (by omega) hs1
    have HB1 := Hid.mk hb1
    have hz1 := hb1.size
    clear hb1 hq
    go_wp2_with fail
    refine hr.mono ?_
    rintro e w2 ⟨rfl, hb2⟩
    have HS2 := Hid.mk (hs1.later hb2)
    have HB2 := Hid.mk (HB1.out.trans (hb2.mono hz1))
    have hz2 := hb2.size
    clear hb2 hr hs1
    go_wp2_with fail
    refine (hwd _).mono ?_
    rintro e w3 ⟨v, rfl, htold, hb3⟩
    have hs3 := HS2.out.later hb3
    have HB3 := Hid.mk (HB2.out.trans (hb3.mono (by omega)))
    clear hb3 hwd
    obtain ⟨g, c2, rfl, hc0⟩ : ∃ g c2, v = .slice (some ⟨g, 0, none⟩) 1 c2 ∧ w3.drew.cell? ⟨g, 0, none⟩ = some (.string ⟨l.toArray⟩) := by
      obtain ⟨g, c2, rfl, _, hr, _⟩ := RowAt.of_owns htold (by
        intro e
        subst e
        obtain ⟨_, ⟨_, hn⟩ | ⟨g, c, cur, e, _⟩⟩ := htold
        · simp at hn
        · cases e)
      exact ⟨g, c2, rfl, hr.cell (j := 0) rfl⟩
    have hcv : (convert 23 9 (.slice a m c)).run Tryd.prog w3.drew = .ok (.string ⟨l.toArray⟩) w3.drew := conv_src c (w := w3.drew) ⟨hs3.1, hs3.2.1, hs3.2.2⟩
    clear htold hs3 HS2 Hs
    go_wp2
    go_region
    go_wp2
    go_ret
    exact ⟨rfl, below_drew HB3.out⟩
  · have e : n = 16000 := by omega
    subst e
    clear hn0
    have hgt : (16000 : Int) < (m : Int) := by omega
    have hc16 : (16000 : Int) ≤ (c : Int) := by omega
    obtain ⟨x, rfl⟩ : ∃ x, a = some x := by
      cases a with
      | none => exact absurd (Hs.out.2.1 rfl) (by omega)
      | some x => exact ⟨x, rfl⟩
    go_enter Tryd.func4, Tryd.ntmps4
    go_wp2_with fail
    refine hq.mono ?_
    rintro e w1 ⟨rfl, hb1⟩
    have hs1 := Hs.out.later hb1
    have hr := rquote_any (some x) 16000 c l w1 (by omega) hs1
    have HB1 := Hid.mk hb1
    have hz1 := hb1.size
    clear hb1 hq
    go_wp2_with fail
    refine hr.mono ?_
    rintro e w2 ⟨rfl, hb2⟩
    have HS2 := Hid.mk (hs1.later hb2)
    have HB2 := Hid.mk (HB1.out.trans (hb2.mono hz1))
    have hz2 := hb2.size
    clear hb2 hr hs1
    go_wp2_with fail
    refine (hwd _).mono ?_
    rintro e w3 ⟨v, rfl, htold, hb3⟩
    have hs3 := HS2.out.later hb3
    have HB3 := Hid.mk (HB2.out.trans (hb3.mono (by omega)))
    clear hb3 hwd
    obtain ⟨g, c2, rfl, hc0⟩ : ∃ g c2, v = .slice (some ⟨g, 0, none⟩) 1 c2 ∧ w3.drew.cell? ⟨g, 0, none⟩ = some (.string ⟨l.toArray⟩) := by
      obtain ⟨g, c2, rfl, _, hr, _⟩ := RowAt.of_owns htold (by
        intro e
        subst e
        obtain ⟨_, ⟨_, hn⟩ | ⟨g, c, cur, e, _⟩⟩ := htold
        · simp at hn
        · cases e)
      exact ⟨g, c2, rfl, hr.cell (j := 0) rfl⟩
    have hcv : (convert 23 9 (.slice (some x) 16000 c)).run Tryd.prog w3.drew = .ok (.string ⟨l.toArray⟩) w3.drew := conv_src c (w := w3.drew) ⟨hs3.1, hs3.2.1, hs3.2.2⟩
    clear htold hs3 HS2 Hs
    go_wp2
    go_region
    go_wp2
    go_ret
    exact ⟨rfl, below_drew HB3.out⟩
end Go.Proofs.YtbedlabokjdhaaaDoor
