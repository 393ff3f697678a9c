import Derived.Test.YtkkmkogpbhcpmaaAt1
namespace Go.Proofs.Ytkkmkogpbhcpmaa
open Go.RowKit Go.Maps

theorem sizeU8 : (Try.prog.info? 5).map (·.size) = some 1 := by kernel_rfl

theorem bs_getElem {l : List Int} {j : Nat} {v : Value} (h : (bs l)[j]? = some v) : j < l.length ∧ v = .int .u8 (l.getD j 0) := by
  have hj : j < l.length := by
    have := (List.getElem?_eq_some_iff.1 h).1
    simpa [bs] using this
  simp [bs, List.getElem?_eq_getElem hj] at h
  exact ⟨hj, by simp [List.getD, List.getElem?_eq_getElem hj, h]⟩

theorem bs_one (l : List Int) : ∀ v ∈ bs l, v.oneCell' = true := by
  intro v hv
  obtain ⟨x, _, rfl⟩ := List.mem_map.1 hv
  rfl

/-- A row whose every cell is known: the block itself. -/
theorem RowAt.full {w : World} {e : TypeId} {g c : Nat} {xs : List Value} (h : RowAt w e g c xs) (hc : xs.length = c) : w.heap[g]? = some (.cells xs.toArray e (0, 0)) := by
  obtain ⟨cur, hb, hs, ht, _⟩ := h
  have : cur.toList = xs := by
    rw [← ht, List.take_of_length_le (by simp; omega)]
  rw [hb, ← this]
theorem RowAt.of_full {w : World} {e : TypeId} {g : Nat} {xs : List Value} (h : w.heap[g]? = some (.cells xs.toArray e (0, 0))) (hm : xs.length ≤ maxLen) : RowAt w e g xs.length xs :=
  ⟨xs.toArray, h, by simp, by simp, hm⟩

/-- copy of bytes: what it comes to. -/
theorem copy_run (w : World) (ty : TypeId) (dp : Option Addr) (g off dLen dCap : Nat) (a : Option Addr) (sLen sCap : Nat) (cur : List Value) (l : List Int) (hg : w.heap[g]? = some (.cells cur.toArray 5 (0, 0)))
    (hs : Src w a sLen l) (hd : 0 < dLen → dp = some ⟨g, off, none⟩) (hfit : off + dLen ≤ cur.length) :
    ∃ w2, (Builtin.copy_ #[27, 27] ty #[.slice dp dLen dCap, .slice a sLen sCap]).run Try.prog w = .ok (goInt (Nat.min sLen dLen)) w2 ∧
      w2.heap[g]? = some (.cells (splice cur off (bs (l.take dLen))).toArray 5 (0, 0)) ∧ Keeps (fun k => k = g) w w2 ∧ w2.heap.size = w.heap.size := by
  have hl := hs.1
  have hm : Nat.min sLen dLen = min sLen dLen := rfl
  by_cases h0 : min sLen dLen = 0
  · refine ⟨w, ?_, ?_, Keeps.refl _ _, rfl⟩
    · rw [hm, h0]
      exact run_copy_none (P := Try.prog) w _ _ ty 5 dp a dLen dCap sLen sCap Try.underlying27 sizeU8 h0
    · have e : bs (l.take dLen) = [] := by
        have : (bs (l.take dLen)).length = 0 := by simp only [bs, List.length_map, List.length_take]; omega
        exact List.eq_nil_of_length_eq_zero this
      rw [e, hg]
      simp [splice]
  · have h1 : 0 < sLen ∧ 0 < dLen := by omega
    obtain rfl := hd h1.2
    cases a with
    | none => have := hs.2.1 rfl; omega
    | some x =>
      have hlen : (bs (l.take dLen)).length = Nat.min sLen dLen := by
        simp only [bs, List.length_map, List.length_take]; omega
      have hrun := run_copy_row (P := Try.prog) w 27 27 ty 5 g off dLen dCap x sLen sCap cur.toArray 5 (bs (l.take dLen)) Try.underlying27 sizeU8 hg hlen
        (fun j v hj => by
          obtain ⟨hj', rfl⟩ := bs_getElem hj
          have hj2 : j < dLen ∧ j < l.length := by simp only [List.length_take] at hj'; omega
          rw [hs.2.2 x rfl j (by omega)]
          simp [List.getD, hj2.1]) (by simp only [List.size_toArray, hlen]; omega) (bs_one _)
      rw [hlen] at hrun
      refine ⟨_, hrun, ?_, ⟨rfl, rfl, rfl, by simp, fun k _ hk => setRow_other w g k _ hk⟩, by simp⟩
      rw [setRow_heap w g _ _ 5 _ hg]
      simp only [splice, hlen, List.append_assoc]

set_option maxHeartbeats 2000000 in
theorem twin_any (a : Option Addr) (n c : Nat) (l : List Int) (w : World) (hn : n ≤ 140737488355328) (hs : Src w a n l) :
    Calls Try.prog 13 #[.slice a n c] w fun e w' => ∃ g, e = .returned (.slice (some ⟨g, 0, none⟩) n n) ∧ w.heap.size ≤ g ∧ RowAt w' 5 g n (bs l) ∧ Below w.heap.size w w' := by
  obtain ⟨i0, hi, hz0, hz1, hz2⟩ := info_parts infoU8
  have H := Hid.mk hs
  clear hs
  go_enter Try.func13, Try.ntmps13
  go_wp2_with (at_make; refine wpList_make_full _ rfl _ _ 27 rfl w.heap.size 5 i0 (.int .u8 0) 1 Try.underlying27 hi hz0 hz1 _ _ _ _ n rfl rfl ?c1 ?c2 ?c3 ?c4 ?c5 ?_)
  case c1 => rfl
  case c2 => rfl
  case c3 => rw [hz2]; omega
  case c4 => unfold maxLen; omega
  case c5 => exact Nat.le_refl _
  intro w1 hown hgrow
  have hr := made_row hown
  have hb : Below w.heap.size w w1 := (Below.refl _ w).grown hgrow (Nat.le_refl _) (by intro k hk; cases hk)
  have hf := hr.full (by simp [bs])
  have hs1 := H.out.later hb
  have hl := H.out.1
  clear hown hgrow
  obtain ⟨w2, hrun, hh, hk, _⟩ := copy_run w1 3 (some ⟨w.heap.size, 0, none⟩) w.heap.size 0 n n a n c (bs (List.replicate n 0)) l hf hs1 (fun _ => rfl) (by simp [bs])
  have hb2 : Below w.heap.size w w2 := hb.trans (hk.below (fun k h => by omega) hb.size)
  have hr2 : RowAt w2 5 w.heap.size n (bs l) := by
    have e : splice (bs (List.replicate n 0)) 0 (bs (l.take n)) = bs l := by
      rw [List.take_of_length_le (by omega)]
      simp [splice, bs]; omega
    rw [e] at hh
    have := RowAt.of_full hh (by simp [bs, maxLen]; omega)
    simpa [bs, hl] using this
  clear hh hf hr hs1 hb hk
  go_wp2
  go_ret
  exact ⟨w.heap.size, rfl, Nat.le_refl _, hr2, hb2⟩
end Go.Proofs.Ytkkmkogpbhcpmaa
