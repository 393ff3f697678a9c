import Derived.Test.YtkdjjnkhbmmfeaaFDD
namespace Go.Proofs.Ytkdjjnkhbmmfeaa
open Go.RowKit Go.Maps

theorem run_appn {W : World} {B g : Nat} {v : Value} {l ys : List Int} {m : Nat} (hown : Own W B v l) (hb : W.heap[g]? = some (.cells (ys.map (Value.int .u8)).toArray 5 (0, 0))) (hm : ys.length = m) (hlen : l.length + m ≤ 140737488355327) (hB : B ≤ W.heap.size) :
    ∃ v' w', (Builtin.append_ #[25, 25] 25 #[v, .slice (some ⟨g, 0, none⟩) m m]).run Try.prog W = .ok v' w' ∧ Own w' B v' (l ++ ys) ∧ Below B W w' := by
  obtain ⟨i0, hi, hz0, hz1, hz2⟩ := info_parts infoU8
  have ho : W.ownsRow B 5 1 v l.length (bs l) := hown
  obtain ⟨v', w', h1, h2, h3, _⟩ := run_append_own (P := Try.prog) W B 25 25 5 i0 (.int .u8 0) 1 1 Try.underlying25 hi hz0 hz1 hz2 rfl (by decide) v l.length (bs l) ho ⟨g, 0, none⟩ m m (bs ys) (by simp [hm]) (World.news_of_block (cs := (ys.map (Value.int .u8)).toArray) (t := 5) (fr := (0, 0)) hb) (by intro u hu; simp [bs] at hu; obtain ⟨_, _, rfl⟩ := hu; rfl) (by unfold maxLen; omega) (by omega) hB
  refine ⟨v', w', h1, ?_, (Below.refl _ W).grown h3 hB (fun q e => (ho.lt q e).1)⟩
  rw [← bs_append] at h2
  exact own_of h2 (by simp [hm]) rfl
theorem conv_own {w : World} {B : Nat} {v : Value} {m : List UInt8} (h : Own w B v (ub m)) : (convert 25 9 v).run Try.prog w = .ok (.string ⟨m.toArray⟩) w := by
  by_cases hv : v = .slice none 0 0
  · subst hv
    have h0 : (ub m).length = 0 := by
      obtain ⟨_, ⟨_, hn⟩ | ⟨g, c, cur, e, _⟩⟩ := h
      · exact hn
      · cases e
    rw [ub_len] at h0
    obtain rfl := List.eq_nil_of_length_eq_zero h0
    exact run_convert_bytes_nil (P := Try.prog) w 25 5 Try.underlying25 Try.underlying5 0 0 9 Try.underlying9
  · obtain ⟨g, c, rfl, _, hr, _⟩ := RowAt.of_owns h hv
    have hcv := run_convert_bytes_arg (P := Try.prog) w 25 5 Try.underlying25 Try.underlying5 g 0 (ub m).length c (ub m) rfl (fun j hj => by rw [Nat.zero_add]; exact hr.get hj) 9 Try.underlying9
    rw [strOf_ub] at hcv
    exact hcv

/-- A text with a backslash ahead of each byte. -/
def escL (l : List UInt8) : List UInt8 := l.flatMap (fun b => [92, b])
theorem escL_snoc (l : List UInt8) (b : UInt8) : escL (l ++ [b]) = escL l ++ [92, b] := by simp [escL]
theorem escL_len : ∀ (l : List UInt8), (escL l).length = 2 * l.length
  | [] => rfl
  | b :: l => by
    have := escL_len l
    simp [escL] at *
    omega
set_option maxRecDepth 20000 in
set_option maxHeartbeats 4000000 in
theorem escaped_any (s : ByteArray) (w : World) (hs : s.size ≤ 1000000000000) : Calls Try.prog 7 #[.string s] w fun e w' => e = .returned (.string ⟨(escL s.data.toList).toArray⟩) ∧ Below w.heap.size w w' := by
  have hl := len_size s
  go_enter Try.func7, Try.ntmps7
  go_wp2
  go_loopw [3, 4] (fun v iv wr => ∃ i : Nat, iv = .int .i64 i ∧ i ≤ s.size ∧ Own wr w.heap.size v (ub (escL (s.data.toList.take i))) ∧ Below w.heap.size w wr) (fun _ iv _ => s.size - (intOf iv).toNat)
  case atStart => exact ⟨0, rfl, Nat.zero_le _, Own.nil _ _, Below.refl _ _⟩
  case round =>
    obtain ⟨i, rfl, hi, ho, hb⟩ := hrel
    by_cases hlt : i < s.size
    · have hlt' : (i : Int) < (s.size : Int) := by omega
      have hi2 : i < s.data.toList.length := by omega
      have hsn : escL (s.data.toList.take (i + 1)) = escL (s.data.toList.take i) ++ [92, s.data.toList[i]] := by rw [← escL_snoc, List.take_append_getElem hi2]
      have hln : (ub (escL (s.data.toList.take i))).length ≤ 2 * s.size := by rw [ub_len, escL_len, List.length_take]; omega
      obtain ⟨c, hc⟩ : ∃ c, c = s.data.toList[i] := ⟨_, rfl⟩
      rw [← hc] at hsn
      have hg : ∀ h', ((s[i]'h').toNat : Int) = (c.toNat : Int) := fun h' => by rw [hc]; simp; rfl
      have hbA : Below wr.heap.size wr (wr.alloc (.cells #[.int .u8 92, .int .u8 (c.toNat : Int)] 5)) := (Below.refl _ _).alloc (Nat.le_refl _) _
      obtain ⟨v', w', hrun, ho', hb'⟩ := run_appn (ys := [92, (c.toNat : Int)]) (m := 2) (ho.later hbA) (heap_alloc_new wr (.cells #[.int .u8 92, .int .u8 (c.toNat : Int)] 5)) rfl (by omega) (by have := hbA.size; have := hb.size; omega)
      have HE : Hid (Own w' w.heap.size v' (ub (escL (s.data.toList.take (i + 1)))) ∧ Below w.heap.size w w') := Hid.mk ⟨by rw [hsn, ub_app]; exact ho', (hb.trans (hbA.mono hb.size)).trans hb'⟩
      clear ho hb ho' hb' hbA hsn hc hln
      go_wp2_with (at_builtin; refine Lib.wpList_append_run _ rfl _ _ _ _ rfl _ _ rfl rfl _ _ hrun ?_)
      go_roundw
      case rel => exact ⟨i + 1, by go_num, by omega, HE.out.1, HE.out.2⟩
      case measure => simp [intOf]; omega
    · obtain rfl : i = s.size := by omega
      have hge : ¬ (s.size : Int) < (s.size : Int) := by omega
      rw [List.take_of_length_le (by omega)] at ho
      have hcv := conv_own ho
      have HB := Hid.mk hb
      clear ho hb
      go_wp2
      go_ret
      exact ⟨rfl, HB.out⟩
end Go.Proofs.Ytkdjjnkhbmmfeaa
