import Derived.Test.YtnolpafdkaloeaaW06
import Derived.Deep.AppendLies
section
namespace Go.Proofs.Ytnolpafdkaloeaa
open Go.RowKit Go.Maps

/-- A whole block of bytes. -/
def Full (w : World) (g : Nat) (l : List Int) : Prop := w.heap[g]? = some (.cells (bs l).toArray 5 (0, 0))
section
variable {w w' : World} {g g' : Nat} {l : List Int}
theorem Full.lt (h : Full w g l) : g < w.heap.size := (Array.getElem?_eq_some_iff.1 h).1
theorem Full.row (h : Full w g l) (hm : l.length ≤ maxLen) : RowAt w 5 g l.length (bs l) := by
  have := RowAt.of_full h (by simpa [bs] using hm)
  simpa [bs] using this
theorem Full.set (h : Full w g l) (i : Nat) (x : Int) : Full (w.setCell ⟨g, i, none⟩ (.int .u8 x)) g (l.set i x) := by
  refine (heap_setCell_same _ _ i _ _ _ h).trans ?_
  simp [bs, List.map_set]
theorem Full.agree (h : Full w g l) (e : w'.heap[g]? = w.heap[g]?) : Full w' g l := e.trans h
theorem Full.later (h : Full w g l) (hb : Below w.heap.size w w') : Full w' g l := (hb.block g h.lt).trans h
theorem Full.cell (h : Full w g l) {i : Nat} (hi : i < l.length) : w.cell? ⟨g, i, none⟩ = some (.int .u8 (l.getD i 0)) := by
  refine cell_of_block h (u := .int .u8 (l.getD i 0)) ?_
  simp [bs, hi, List.getD]
theorem Full.frozen (h : Full w g l) (i : Nat) : w.frozen? ⟨g, i, none⟩ = false := frozen_of_block h i
theorem below_set {B : Nat} (h : Below B w w') (hg : B ≤ g) (hB : B ≤ w'.heap.size) (i : Nat) (x : Value) : Below B w (w'.setCell ⟨g, i, none⟩ x) :=
  h.trans ((Keeps.setCell (F := fun k => k = g) w' (p := ⟨g, i, none⟩) rfl x).below (fun k e => by rw [e]; exact hg) hB)
theorem Full.src (h : Full w g l) (n : Nat) (hn : n ≤ l.length) : Src w (some ⟨g, 0, none⟩) n (l.take n) := by
  refine ⟨by rw [List.length_take]; omega, (fun e => by cases e), fun y e i hi => ?_⟩
  cases e
  rw [addr_add, Nat.zero_add, h.cell (by omega)]
  simp [List.getD, hi]
end

set_option maxRecDepth 20000 in
set_option maxHeartbeats 4000000 in
/-- A new list with the bytes of another one, and k bytes of room behind them. -/
theorem exact_any (a : Option Addr) (n c : Nat) (l : List Int) (w : World) (hn : n ≤ 140737488355328) (hs : Src w a n l) :
    Calls Try.prog 28 #[.slice a n c] w fun e w' => e = .returned (.slice (some ⟨w.heap.size, 0, none⟩) n n) ∧ Full w' w.heap.size l ∧ Below w.heap.size w w' := by
  obtain ⟨i0, hi, hz0, hz1, hz2⟩ := info_parts infoU8
  have H := Hid.mk hs
  clear hs
  go_enter Try.func28, Try.ntmps28
  go_wp2_with (at_make; refine wpList_make_full _ rfl _ _ 22 rfl w.heap.size 5 i0 (.int .u8 0) 1 Try.underlying22 hi hz0 hz1 _ _ _ _ n rfl rfl ?c1 ?c2 ?c3 ?c4 ?c5 ?_)
  case c1 => rfl
  case c2 => rfl
  case c3 => rw [hz2]; omega
  case c4 => unfold maxLen; omega
  case c5 => exact Nat.le_refl _
  intro w1 hown hgrow
  have hr := made_row hown
  have hb : Below w.heap.size w w1 := (Below.refl _ w).grown hgrow (Nat.le_refl _) (by intro k hk; cases hk)
  have hf := hr.full (by simp [bs])
  have hs1 := H.out.later hb
  have hl := H.out.1
  clear hown hgrow
  obtain ⟨w2, hrun, hh, hk, _⟩ := copy_run w1 3 (some ⟨w.heap.size, 0, none⟩) w.heap.size 0 n n a n c (bs (List.replicate n 0)) l hf hs1 (fun _ => rfl) (by simp [bs])
  have HB : Hid (Below w.heap.size w w2) := hb.trans (hk.below (fun k h => by omega) hb.size)
  have HF : Hid (Full w2 w.heap.size l) := by
    have e : splice (bs (List.replicate n 0)) 0 (bs (l.take n)) = bs l := by
      rw [List.take_of_length_le (by omega)]
      simp [splice, bs]; omega
    rw [e] at hh
    exact hh
  clear hh hf hr hs1 hb hk hi hz0 hz1 hz2 H
  go_wp2
  clear hrun
  go_ret
  exact ⟨rfl, HF.out, HB.out⟩

set_option maxRecDepth 20000 in
set_option maxHeartbeats 4000000 in
theorem hand_any (a : Option Addr) (n c : Nat) (l : List Int) (w : World) (hn : n + 3 ≤ 140737488355328) (hs : Src w a n l) :
    Calls Try.prog 24 #[.slice a n c] w fun e w' => e = .returned (.slice (some ⟨w.heap.size, 0, none⟩) n (n + 3)) ∧ Full w' w.heap.size (l ++ [171, 171, 171]) ∧ Below w.heap.size w w' := by
  obtain ⟨i0, hi, hz0, hz1, hz2⟩ := info_parts infoU8
  have H := Hid.mk hs
  have x1 : IntKind.i64.wrap ((n : Int) + 3) = ((n + 3 : Nat) : Int) := by rw [IntKind.wrap_i64]; all_goals omega
  have x2 : wrap64 ((n : Int) + 3) = ((n + 3 : Nat) : Int) := by unfold wrap64; omega
  obtain ⟨m, hm⟩ : ∃ m, m = n + 3 := ⟨_, rfl⟩
  have Hm := Hid.mk hm
  rw [← hm] at x1 x2 hn ⊢
  clear hs hm
  go_enter Try.func24, Try.ntmps24
  go_wp2_with (at_make; refine wpList_make_full _ rfl _ _ 22 rfl w.heap.size 5 i0 (.int .u8 0) 1 Try.underlying22 hi hz0 hz1 _ _ _ _ m rfl rfl ?c1 ?c2 ?c3 ?c4 ?c5 ?_)
  case c1 => rfl
  case c2 => rfl
  case c3 => rw [hz2]; omega
  case c4 => unfold maxLen; omega
  case c5 => exact Nat.le_refl _
  intro w1 hown hgrow
  have hr := made_row hown
  have hb : Below w.heap.size w w1 := (Below.refl _ w).grown hgrow (Nat.le_refl _) (by intro k hk; cases hk)
  have hf := hr.full (by simp [bs])
  have hs1 := H.out.later hb
  have hl := H.out.1
  clear hown hgrow
  obtain ⟨w2, hrun, hh, hk, _⟩ := copy_run w1 3 (some ⟨w.heap.size, 0, none⟩) w.heap.size 0 m m a n c (bs (List.replicate m 0)) l hf hs1 (fun _ => rfl) (by simp [bs])
  have HB : Hid (Below w.heap.size w w2) := hb.trans (hk.below (fun k h => by omega) hb.size)
  have HF : Hid (Full w2 w.heap.size (l ++ (List.replicate 0 171 ++ List.replicate (3 - 0) 0))) := by
    have hmm := Hm.out
    have e : splice (bs (List.replicate m 0)) 0 (bs (l.take m)) = bs (l ++ (List.replicate 0 171 ++ List.replicate (3 - 0) 0)) := by
      rw [List.take_of_length_le (by omega)]
      have : m - n = 3 := by omega
      simp [splice, bs, hl, this]
    rw [e] at hh
    exact hh
  clear hh hf hr hs1 hb hk hi hz0 hz1 hz2
  go_wp2
  clear hrun
  go_loopw [4] (fun i wr => ∃ k : Nat, k ≤ 3 ∧ i = .int .i64 ((n + k : Nat) : Int) ∧ Full wr w.heap.size (l ++ (List.replicate k 171 ++ List.replicate (3 - k) 0)) ∧ Below w.heap.size w wr) (fun i _ => m - (intOf i).toNat)
  case atStart => exact ⟨0, Nat.zero_le _, rfl, HF.out, HB.out⟩
  case round =>
    clear HF HB
    obtain ⟨k, hk, rfl, hF, hB⟩ := hrel
    have hmm := Hm.out
    have hn0 : (0 : Int) ≤ ((n + k : Nat) : Int) := by omega
    by_cases hlt : k < 3
    · have hlt' : ((n + k : Nat) : Int) < (m : Int) := by omega
      have hlt2 : n + k < m := by omega
      have hc := hF.cell (i := n + k) (by simp [hl]; omega)
      have hfz := hF.frozen (n + k)
      have hs2 : (l ++ (List.replicate k 171 ++ List.replicate (3 - k) 0)).set (n + k) 171 = l ++ (List.replicate (k + 1) 171 ++ List.replicate (3 - (k + 1)) 0) := by
        rw [List.set_append_right _ _ (by omega), hl, show n + k - n = k by omega, List.set_append_right _ _ (by simp), List.length_replicate, Nat.sub_self, show 3 - k = (3 - (k + 1)) + 1 by omega, List.replicate_succ, List.set_cons_zero, List.replicate_succ', List.append_assoc]
        rfl
      have HF := Hid.mk (hF.set (n + k) 171)
      rw [hs2] at HF
      have HB := Hid.mk (below_set (g := w.heap.size) hB (Nat.le_refl _) hB.size (n + k) (.int .u8 171))
      have Hlt := Hid.mk (And.intro hlt hmm)
      clear hF hB hs2 hmm hlt
      obtain ⟨q, hq⟩ : ∃ q, q = n + k := ⟨_, rfl⟩
      have Hq := Hid.mk hq
      rw [← hq] at hc hfz hlt' hlt2 hn0 HF HB ⊢
      have hq4 : q + 1 < 9223372036854775807 := by omega
      clear hq
      go_wp2
      go_roundw
      case rel => exact ⟨k + 1, by have := Hlt.out.1; omega, by rw [Hq.out]; go_num, HF.out, HB.out⟩
      case measure => simp [intOf]; omega
    · obtain rfl : k = 3 := by omega
      have hlt' : ¬ ((n + 3 : Nat) : Int) < (m : Int) := by omega
      have HF := Hid.mk hF
      have HB := Hid.mk hB
      have hnm : (n : Int) ≤ (m : Int) := by omega
      clear hF hB hmm
      go_wp2
      go_ret
      exact ⟨rfl, HF.out, HB.out⟩
end Go.Proofs.Ytnolpafdkaloeaa
end

section
namespace Go.Proofs.Ytnolpafdkaloeaa
open Go.RowKit Go.Maps

set_option maxRecDepth 20000 in
set_option maxHeartbeats 4000000 in
/-- A list that holds its mark alone. -/
theorem full_low (b o n c : Nat) (m : Int) (w : World) (hn : n ≤ 140737488355328) (h : ∀ i, i < n → w.cell? ⟨b, o + i, none⟩ = some (.int .u8 m)) :
    Calls Try.prog 74 #[.slice (some ⟨b, o, none⟩) n c, .int .u8 m, .int .i64 (n : Int)] w fun e w' => e = .returned (.bool true) ∧ Below w.heap.size w w' := by
  have hnn : (((n : Int)) != (n : Int)) = false := by simp
  have hmm : (m != m) = false := by simp
  have H := Hid.mk h
  clear h
  go_enter Try.func74, Try.ntmps74
  go_wp2
  go_loopw [7] (fun i wr => ∃ k : Nat, k ≤ n ∧ i = .int .i64 k ∧ Below w.heap.size w wr) (fun i _ => n - (intOf i).toNat)
  case atStart => exact ⟨0, Nat.zero_le _, rfl, Below.refl _ _⟩
  case round =>
    obtain ⟨k, hk, rfl, hb⟩ := hrel
    have HB := Hid.mk hb
    by_cases hlt : k < n
    · have c1 := cell_later hb (H.out k hlt)
      have hlt' : (k : Int) < (n : Int) := by omega
      have hk0 : (0 : Int) ≤ (k : Int) := by omega
      clear hb
      go_wp2
      go_roundw
      case rel => exact ⟨k + 1, by omega, by go_num, HB.out⟩
      case measure => simp [intOf]; omega
    · have hlt' : ¬ (k : Int) < (n : Int) := by omega
      clear hb
      go_wp2
      go_ret
      exact ⟨rfl, HB.out⟩
set_option maxRecDepth 20000 in
set_option maxHeartbeats 1000000 in
theorem full_zero (a : Option Addr) (c : Nat) (m : Int) (w : World) :
    Calls Try.prog 74 #[.slice a 0 c, .int .u8 m, .int .i64 0] w fun e w' => e = .returned (.bool true) ∧ w' = w := by
  go_enter Try.func74, Try.ntmps74
  go_wp2
  refine wp_loop_rounds 1 ?_; rw [rounds_succ]; go_wp2
  go_ret
  exact ⟨rfl, rfl⟩
theorem full_any (a : Option Addr) (n c : Nat) (m : Int) (w : World) (hn : n ≤ 140737488355328) (h : Src w a n (List.replicate n m)) :
    Calls Try.prog 74 #[.slice a n c, .int .u8 m, .int .i64 (n : Int)] w fun e w' => e = .returned (.bool true) ∧ Below w.heap.size w w' := by
  by_cases h0 : n = 0
  · subst h0
    exact (full_zero a c m w).mono (by rintro e w' ⟨rfl, rfl⟩; exact ⟨rfl, Below.refl _ _⟩)
  · cases a with
    | none => exact absurd (h.2.1 rfl) h0
    | some x =>
      obtain ⟨b, o, rfl, k⟩ := h.spot (by omega)
      refine full_low b o n c m w hn (fun i hi => ?_)
      rw [k i hi]
      simp [List.getD, hi]

set_option maxRecDepth 20000 in
set_option maxHeartbeats 8000000 in
/-- What was handed in is looked at, and written over. -/
theorem back_any (g : Nat) (a : Option Addr) (n c : Nat) (l : List Int) (w : World) (hn : n + 3 ≤ 140737488355328) (hl : l.length = n) (hF : Full w g (l ++ [171, 171, 171])) (hs : Src w a n l) :
    Calls Try.prog 27 #[.slice (some ⟨g, 0, none⟩) n (n + 3), .slice a n c] w fun e w' => e = .returned (.bool true) ∧ Keeps (fun k => k = g) w w' := by
  have x1 : IntKind.i64.wrap ((n : Int) + 3) = ((n + 3 : Nat) : Int) := by rw [IntKind.wrap_i64]; all_goals omega
  have x2 : wrap64 ((n : Int) + 3) = ((n + 3 : Nat) : Int) := by unfold wrap64; omega
  obtain ⟨m, hm⟩ : ∃ m, m = n + 3 := ⟨_, rfl⟩
  have Hm := Hid.mk hm
  have hsr := hF.src n (by simp [hl])
  rw [List.take_left' hl] at hsr
  have hsm := same_any (some ⟨g, 0, none⟩) a n (n + 3) c l w (by omega) hsr hs
  rw [← hm] at x1 x2 hn hsm ⊢
  have hnm : (n : Int) ≤ (m : Int) := by omega
  have HF := Hid.mk hF
  clear hs hm hsr hF
  go_enter Try.func27, Try.ntmps27
  go_wp2_with fail
  refine hsm.mono ?_
  rintro e w1 ⟨rfl, hb1⟩
  have HF1 := Hid.mk (HF.out.later hb1)
  have HK1 := Hid.mk (Keeps.of_below (fun k => k = g) hb1)
  clear hsm hb1 HF
  go_wp2
  go_loopw [5, 7] (fun v i wr => ∃ k : Nat, k ≤ 3 ∧ v = .bool true ∧ i = .int .i64 ((n + k : Nat) : Int) ∧ Full wr g (l ++ [171, 171, 171]) ∧ Keeps (fun k => k = g) w wr) (fun _ i _ => m - (intOf i).toNat)
  case atStart => exact ⟨0, Nat.zero_le _, rfl, rfl, HF1.out, HK1.out⟩
  case round =>
    clear HF1 HK1
    obtain ⟨k, hk, rfl, rfl, hF, hK⟩ := hrel
    have hmm := Hm.out
    have hn0 : (0 : Int) ≤ ((n + k : Nat) : Int) := by omega
    by_cases hlt : k < 3
    · have hlt' : ((n + k : Nat) : Int) < (m : Int) := by omega
      have hlt2 : n + k < m := by omega
      have hc := hF.cell (i := n + k) (by simp [hl]; omega)
      have hg : (l ++ [171, 171, 171]).getD (n + k) 0 = 171 := by
        rw [List.getD, List.getElem?_append_right (by omega), hl, show n + k - n = k by omega]
        rcases (show k = 0 ∨ k = 1 ∨ k = 2 by omega) with rfl | rfl | rfl <;> rfl
      rw [hg] at hc
      have HR := Hid.mk (And.intro hF hK)
      have Hlt := Hid.mk (And.intro hlt hmm)
      clear hF hK hg hmm hlt
      obtain ⟨q, hq⟩ : ∃ q, q = n + k := ⟨_, rfl⟩
      have Hq := Hid.mk hq
      rw [← hq] at hc hlt' hlt2 hn0 ⊢
      have hq4 : q + 1 < 9223372036854775807 := by omega
      clear hq
      go_wp2
      go_roundw
      case rel => exact ⟨k + 1, by have := Hlt.out.1; omega, rfl, by rw [Hq.out]; go_num, HR.out⟩
      case measure => simp [intOf]; omega
    · obtain rfl : k = 3 := by omega
      have hlt' : ¬ ((n + 3 : Nat) : Int) < (m : Int) := by omega
      have HN : Hid (∃ t : List Int, t.length = m ∧ Full wr g t ∧ Keeps (fun k => k = g) w wr) := ⟨_, by simp [hl]; omega, hF, hK⟩
      clear hF hK hmm
      go_wp2
      go_loopw [8] (fun i wr => ∃ k : Nat, k ≤ m ∧ i = .int .i64 (k : Int) ∧ ∃ t : List Int, t.length = m ∧ Full wr g t ∧ Keeps (fun k => k = g) w wr) (fun i _ => m - (intOf i).toNat)
      case atStart => exact ⟨0, Nat.zero_le _, rfl, HN.out⟩
      case round =>
        clear HN
        obtain ⟨k, hk, rfl, t, ht, hF, hK⟩ := hrel
        by_cases hlt : k < m
        · have hlt' : (k : Int) < (m : Int) := by omega
          have hk0 : (0 : Int) ≤ (k : Int) := by omega
          have hc := hF.cell (i := k) (by omega)
          have hfz := hF.frozen k
          have HN : Hid (∃ t : List Int, t.length = m ∧ Full (wr.setCell ⟨g, k, none⟩ (.int .u8 213)) g t ∧ Keeps (fun k => k = g) w (wr.setCell ⟨g, k, none⟩ (.int .u8 213))) := ⟨_, by simp [ht], hF.set k 213, hK.trans (Keeps.setCell (F := fun k => k = g) wr (p := ⟨g, k, none⟩) rfl _) (fun k e => .inl e)⟩
          clear hF hK
          go_wp2
          go_roundw
          case rel => exact ⟨k + 1, by omega, by go_num, HN.out⟩
          case measure => simp [intOf]; omega
        · have hlt' : ¬ (k : Int) < (m : Int) := by omega
          have HK := Hid.mk hK
          clear hF hK
          go_wp2
          go_ret
          exact ⟨rfl, HK.out⟩
end Go.Proofs.Ytnolpafdkaloeaa
end

section
namespace Go.Proofs.Ytnolpafdkaloeaa
open Go.RowKit Go.Maps

/-- A byte with the law's bits turned over. -/
def turn5 (x : Int) : Int := bits .xor .u8 x 91
/-- The first k bytes turned. -/
def turnTo (l : List Int) (k : Nat) : List Int := (l.take k).map turn5 ++ l.drop k
theorem turnTo_len (l : List Int) (k : Nat) : (turnTo l k).length = l.length := by
  simp [turnTo, List.length_take, List.length_drop]; omega
theorem turnTo_at {l : List Int} {k : Nat} (hk : k < l.length) : (turnTo l k).getD k 0 = l[k] := by
  unfold turnTo
  rw [List.getD, List.getElem?_append_right (by simp; omega)]
  simp [List.length_take, Nat.min_eq_left (Nat.le_of_lt hk), hk]
theorem turnTo_set {l : List Int} {k : Nat} (hk : k < l.length) : (turnTo l k).set k (turn5 l[k]) = turnTo l (k + 1) := by
  unfold turnTo
  have hlen : ((l.take k).map turn5).length = k := by simp; omega
  rw [List.set_append_right _ _ (by omega), hlen, Nat.sub_self, List.drop_eq_getElem_cons hk, List.set_cons_zero, List.take_succ_eq_append_getElem hk, List.map_append, List.append_assoc]
  rfl
theorem turnTo_all (l : List Int) : turnTo l l.length = l.map turn5 := by simp [turnTo]

set_option maxRecDepth 20000 in
set_option maxHeartbeats 8000000 in
theorem turned_any (g n : Nat) (l : List Int) (w : World) (hn : n ≤ 140737488355328) (hl : l.length = n) (hF : Full w g l) :
    Calls Try.prog 29 #[.slice (some ⟨g, 0, none⟩) n n] w fun e w' => ∃ v, e = .returned v ∧ w'.ownsRow w.heap.size 5 1 v n (bs (l.map turn5)) ∧ Full w' g (l.map turn5) ∧ Keeps (fun k => k = g) w w' := by
  obtain ⟨i0, hi, hz0, hz1, hz2⟩ := info_parts infoU8
  have HF := Hid.mk hF
  clear hF
  go_enter Try.func29, Try.ntmps29
  go_wp2
  go_loopw [3] (fun i wr => ∃ k : Nat, k ≤ n ∧ i = .int .i64 (k : Int) ∧ Full wr g (turnTo l k) ∧ Keeps (fun k => k = g) w wr) (fun i _ => n - (intOf i).toNat)
  case atStart => exact ⟨0, Nat.zero_le _, rfl, HF.out, Keeps.refl _ _⟩
  case round =>
    clear HF
    obtain ⟨k, hk, rfl, hF, hK⟩ := hrel
    by_cases hlt : k < n
    · have hlt' : (k : Int) < (n : Int) := by omega
      have hk0 : (0 : Int) ≤ (k : Int) := by omega
      have hc := hF.cell (i := k) (by rw [turnTo_len]; omega)
      rw [turnTo_at (by omega)] at hc
      have hfz := hF.frozen k
      have hbits : bits .xor .u8 l[k] 91 = turn5 l[k] := rfl
      have HN := Hid.mk (And.intro (turnTo_set (l := l) (k := k) (by omega) ▸ hF.set k (turn5 l[k])) (hK.trans (Keeps.setCell (F := fun k => k = g) wr (p := ⟨g, k, none⟩) rfl (.int .u8 (turn5 l[k]))) (fun k e => .inl e)))
      generalize l[k] = x at *
      generalize turn5 x = y at *
      clear hF hK
      go_wp2
      go_roundw
      case rel => exact ⟨k + 1, by omega, by go_num, HN.out⟩
      case measure => simp [intOf]; omega
    · obtain rfl : k = n := by omega
      have hlt' : ¬ (k : Int) < (k : Int) := by omega
      rw [← hl, turnTo_all] at hF
      have HF := Hid.mk hF
      have HK := Hid.mk hK
      have hbx := below_box wr (.cells #[] 5)
      have hq : (wr.alloc (.cells #[] 5)).heap[wr.heap.size]? = some (.cells #[] 5 (0, 0)) := heap_alloc_new _ _
      have hwz := hK.size
      have HO : Hid ((wr.alloc (.cells #[] 5)).ownsRow w.heap.size 5 1 (.slice (some ⟨wr.heap.size, 0, none⟩) 0 0) 0 []) := ⟨rfl, .inr ⟨wr.heap.size, 0, #[], rfl, hwz, hq, Nat.le_refl _, Nat.zero_le _, rfl, rfl⟩⟩
      obtain ⟨X, hX⟩ : ∃ X, X = bs (l.map turn5) := ⟨_, rfl⟩
      have hsrc : ∀ (j : Nat) (u : Value), X[j]? = some u → (wr.alloc (.cells #[] 5)).cell? (Addr.add ⟨g, 0, none⟩ j) = some u := fun j u hu => by
        rw [hX] at hu
        rw [addr_add, Nat.zero_add]
        exact cell_later hbx (cell_of_block (j := j) hF (by simpa using hu))
      have hone : ∀ u ∈ X, u.oneCell' = true := by rw [hX]; exact bs_one _
      have hXl : X.length = k := by rw [hX]; simp [bs, hl]
      have HS := Hid.mk (And.intro hsrc (And.intro hone (And.intro hXl hX)))
      have HX := Hid.mk hbx
      clear hF hK hsrc hbx hq hone hXl hX
      go_wp2_with (at_builtin; refine wpList_append_own _ rfl _ _ 22 rfl w.heap.size 5 i0 (.int .u8 0) 1 1 Try.underlying22 hi hz0 hz1 hz2 rfl (by decide) _ _ _ rfl HO.out ⟨g, 0, none⟩ k k X rfl ?n0 ?n1 ?n2 ?n3 ?n4 ?n5 ?_)
      case n0 => rw [HS.out.2.2.1]
      case n1 => intro j u hu; have := HS.out.1 j u hu; rw [addr_add, Nat.zero_add] at this; exact this
      case n2 => exact HS.out.2.1
      case n3 => unfold maxLen; omega
      case n5 => first | omega | (simp; omega)
      intro v' w2 hown' hgrow hnil
      have hb2 : Below wr.heap.size wr w2 := HX.out.grown hgrow (by simp) (fun q e => by cases e; exact Nat.le_refl _)
      have hk2 : Keeps (fun k => k = g) w w2 := HK.out.trans (Keeps.of_below (fun k => k = g) hb2) (fun k e => .inl e)
      have hf2 : Full w2 g (l.map turn5) := HF.out.later hb2
      have ho2 : w2.ownsRow w.heap.size 5 1 v' k (bs (l.map turn5)) := by
        rw [← HS.out.2.2.2]
        first | exact hown' | simpa using hown'
      have HR := Hid.mk (And.intro ho2 (And.intro hf2 hk2))
      clear hown' hgrow hnil hk2 hf2 ho2 hb2 HS HX HO
      go_wp2
      go_ret
      exact ⟨_, rfl, HR.out⟩
end Go.Proofs.Ytnolpafdkaloeaa
end

section
namespace Go.Proofs.Ytnolpafdkaloeaa
open Go.RowKit Go.Maps

section
variable {W W' w w' wr : World} {B : Nat} {e : TypeId} {v v' : Value} {n : Nat} {xs : List Value} {g : Nat}
theorem rowBlock (h : W.ownsRow B e 1 v n xs) (hv : v.ownBlock = some g) : ∃ cur, W.heap[g]? = some (.cells cur e (0, 0)) := by
  obtain ⟨_, ⟨rfl, _⟩ | ⟨g', cap, cur, rfl, _, hb, _⟩⟩ := h
  · simp [Value.ownBlock] at hv
  · simp [Value.ownBlock] at hv
    subst hv
    exact ⟨cur, hb⟩
theorem rowAgree (h : W.ownsRow B e 1 v n xs) (hb : ∀ g, v.ownBlock = some g → W'.heap[g]? = W.heap[g]?) : W'.ownsRow B e 1 v n xs := by
  obtain ⟨hl, h | ⟨g, cap, cur, rfl, hg, hbk, h1⟩⟩ := h
  · exact ⟨hl, .inl h⟩
  · exact ⟨hl, .inr ⟨g, cap, cur, rfl, hg, (hb g rfl).trans hbk, h1⟩⟩
theorem rowLow (h : W.ownsRow B e 1 v n xs) (hv : v.ownBlock = some g) : B ≤ g := by
  obtain ⟨_, ⟨rfl, _⟩ | ⟨g', cap, cur, rfl, hg, hb, _⟩⟩ := h
  · simp [Value.ownBlock] at hv
  · simp [Value.ownBlock] at hv
    omega
theorem rowLt (h : W.ownsRow B e 1 v n xs) (hv : v.ownBlock = some g) : g < W.heap.size := by
  obtain ⟨cur, hc⟩ := rowBlock h hv
  exact (Array.getElem?_eq_some_iff.1 hc).1
theorem typeApart {cur cur' : Array Value} {t t' : TypeId} {fz fz' : Nat × Nat} (h : W.heap[g]? = some (.cells cur t fz)) (h' : W.heap[g]? = some (.cells cur' t' fz')) (ht : t ≠ t') : False := by
  rw [h] at h'
  cases h'
  exact ht rfl
theorem Src.past {a : Option Addr} {l : List Int} {F : Nat → Prop} (h : Src w a n l) (hk : Keeps F w w') (ha : ∀ y, a = some y → 0 < n → ¬ F y.block) : Src w' a n l :=
  ⟨h.1, h.2.1, fun x hx i hi => by
    have h0 := h.2.2 x hx i hi
    have hb : (x.add i).block = x.block := by unfold Addr.add; split <;> rfl
    rw [World.cell?_of_block (w := w) (hk.block _ (World.block_lt_of_cell? _ _ h0) (fun hf => by rw [hb] at hf; exact ha x hx (by omega) hf))]
    exact h0⟩
end

theorem app_list {W : World} {B k : Nat} {v : Value} {vs : List Value} (hrow : W.ownsRow B 22 1 v k vs) (x : Value) (hx : x.oneCell' = true) (hk : k ≤ 100000000) (hB : B ≤ W.heap.size) :
    ∃ g cap w', (Builtin.append_ #[28, 28] 28 #[v, .slice (some ⟨W.heap.size, 0, none⟩) 1 1]).run Try.prog (W.alloc (.cells #[x] 22)) = .ok (.slice (some ⟨g, 0, none⟩) (k + 1) cap) w' ∧ w'.ownsRow B 22 1 (.slice (some ⟨g, 0, none⟩) (k + 1) cap) (k + 1) (vs ++ [x]) ∧ (W.alloc (.cells #[x] 22)).grownBy w' v.ownBlock ∧ (v.ownBlock = some g ∨ g = W.heap.size + 1) := by
  obtain ⟨i0, hi, hz0, hz1, hz2⟩ := info_parts infoRow
  obtain ⟨g, cap, w', h1, h2, h3, h4, _⟩ := run_append_lies (P := Try.prog) (W.alloc (.cells #[x] 22)) 28 28 B 22 i0 (.slice none 0 0) 1 24 Try.underlying28 hi hz0 hz1 hz2 rfl (by decide) v k vs (rowAgree hrow (fun g hg => Below.heap_alloc _ _ _ (rowLt hrow hg))) ⟨W.heap.size, 0, none⟩ 1 1 [x] rfl (World.news_of_block (cs := #[x]) (t := 22) (fr := (0, 0)) (heap_alloc_new W _)) (by simpa using hx) (by omega) (by unfold maxLen; omega) (by omega) (by simp; omega) _ rfl
  exact ⟨g, cap, w', h1, h2, h3, h4.imp (fun e => e) (fun e => e.trans (by simp))⟩
end Go.Proofs.Ytnolpafdkaloeaa
end

section
namespace Go.Proofs.Ytnolpafdkaloeaa
open Go.RowKit Go.Maps

theorem nextcap_succ (old : Nat) : Builtin.nextslicecap (old + 1) old ≤ old + (old + 768) / 4 + 512 := by
  unfold Builtin.nextslicecap
  split
  · omega
  · split
    · omega
    · rw [growBy_four]
      repeat' split
      all_goals omega

/-- One more list at the end of a row of lists, as long as may be. -/
theorem app_list2 {W : World} {k : Nat} {v : Value} {vs : List Value} (hrow : W.ownsRow 0 22 1 v k vs) (x : Value) (hx : x.oneCell' = true) (hk : k ≤ 7000000000000) :
    ∃ g cap w', (Builtin.append_ #[28, 28] 28 #[v, .slice (some ⟨W.heap.size, 0, none⟩) 1 1]).run Try.prog (W.alloc (.cells #[x] 22)) = .ok (.slice (some ⟨g, 0, none⟩) (k + 1) cap) w' ∧ w'.ownsRow 0 22 1 (.slice (some ⟨g, 0, none⟩) (k + 1) cap) (k + 1) (vs ++ [x]) ∧ (W.alloc (.cells #[x] 22)).grownBy w' v.ownBlock ∧ (v.ownBlock = some g ∨ g = W.heap.size + 1) := by
  by_cases hs : k ≤ 100000000
  · exact app_list hrow x hx hs (Nat.zero_le _)
  · obtain ⟨i0, hi, hz0, hz1, hz2⟩ := info_parts infoRow
    have hcl := hrow
    obtain ⟨hl, ⟨_, h0⟩ | ⟨g, cap, cur, rfl, hg0, hb, hnc, hmc, hcs, ht⟩⟩ := hrow
    · omega
    · simp only [Nat.mul_one] at hl hcs ht
      have hb1 : (W.alloc (.cells #[x] 22)).heap[g]? = some (.cells cur 22 (0, 0)) := (Below.heap_alloc _ _ _ (Array.getElem?_eq_some_iff.1 hb).1).trans hb
      have hnews := World.news_of_block (cs := #[x]) (t := 22) (fr := (0, 0)) (heap_alloc_new W _)
      by_cases hroom : k + 1 ≤ cap
      · have hr := run_append_room (P := Try.prog) (W.alloc (.cells #[x] 22)) 28 28 22 i0 Try.underlying28 hi g k cap cur hb1 ⟨W.heap.size, 0, none⟩ 1 1 [x] (by rw [hz1]; rfl) hnews (by simpa using hx) hroom (by rw [hz1]; simp; omega)
        refine ⟨g, cap, _, hr, ⟨by simp [hl], .inr ⟨g, cap, _, rfl, hg0, setRow_heap _ g cur _ _ _ hb1, hroom, hmc, ?_, ?_⟩⟩, ⟨rfl, rfl, rfl, by simp, fun j _ hj => setRow_other _ g j _ (fun e => hj (by simp [Value.ownBlock, e]))⟩, .inl rfl⟩
        · simp only [hz1, Nat.mul_one, List.size_toArray, List.length_append, List.length_take, List.length_drop, Array.length_toList, List.length_cons, List.length_nil]
          omega
        · simp only [hz1, Nat.mul_one, ht]
          rw [List.take_left' (by simp [hl])]
      · have hr := run_append_grow (P := Try.prog) (W.alloc (.cells #[x] 22)) 28 28 22 i0 (.slice none 0 0) Try.underlying28 hi hz0 ⟨g, 0, none⟩ k cap vs (by rw [hz1]; simpa using hl) (fun j u hu => (World.cell?_of_block (w := W) (by rw [blockOf_add]; exact hb1.trans hb.symm)).trans (hcl.cells (g := g) rfl j u hu)) ⟨W.heap.size, 0, none⟩ 1 1 [x] (by rw [hz1]; rfl) hnews (by omega) (by omega) (by
          obtain rfl : cap = k := by omega
          rw [hz2]
          have := nextcap_succ cap
          omega)
        have hge := grownCap_ge (W.alloc (.cells #[x] 22)) (k + 1) cap 22
        have hcm : grownCap (W.alloc (.cells #[x] 22)) (k + 1) cap 22 ≤ maxLen := grownCap_le_maxLen _ _ _ _ (by unfold maxLen; omega)
        refine ⟨_, _, _, hr, ⟨by simp [hl], .inr ⟨_, _, _, rfl, Nat.zero_le _, heap_alloc_new _ _, hge, hcm, ?_, ?_⟩⟩, ⟨rfl, rfl, rfl, by simp, fun j hj _ => Below.heap_alloc _ _ _ hj⟩, .inr (by simp)⟩
        · simp only [Array.size_append, List.size_toArray, size_zeroCells, hl, Nat.mul_one]
          show k + 1 + (grownCap _ (k + 1) cap _ - (k + 1)) * 1 = _
          omega
        · simp only [Array.toList_append, List.append_assoc, Nat.mul_one]
          rw [← List.append_assoc]
          exact List.take_left' (by simp [hl])
end Go.Proofs.Ytnolpafdkaloeaa
end

section
namespace Go.Proofs.Ytnolpafdkaloeaa
open Go.RowKit Go.Maps

/-- The blocks of one owner. -/
abbrev ofL (lab : Nat → Nat) (x : Nat) : Nat → Prop := fun k => lab k = x
/-- New blocks get an owner. -/
def relab (lab : Nat → Nat) (a b x : Nat) : Nat → Nat := fun k => if a ≤ k ∧ k < b then x else lab k
theorem relab_old {lab : Nat → Nat} {a b x k : Nat} (h : k < a) : relab lab a b x k = lab k := by
  unfold relab; rw [if_neg (by omega)]
theorem relab_new {lab : Nat → Nat} {a b x k : Nat} (h : a ≤ k) (h2 : k < b) : relab lab a b x k = x := by
  unfold relab; rw [if_pos ⟨h, h2⟩]
theorem relab_far {lab : Nat → Nat} {a b x k : Nat} (h : b ≤ k) : relab lab a b x k = lab k := by
  unfold relab; rw [if_neg (by omega)]

/-- What is not there yet is nobody's. -/
def LZ (lab : Nat → Nat) (w : World) : Prop := ∀ k, w.heap.size ≤ k → lab k = 0

/-- Blocks by owner: the blocks of X alone may change; what is new is X's or nobody's. -/
structure Gro (lab lab' : Nat → Nat) (w w' : World) (X : Nat → Prop) : Prop where
  kp : Keeps (fun k => X (lab k)) w w'
  old : ∀ k, k < w.heap.size → lab' k = lab k
  new : ∀ k, w.heap.size ≤ k → lab' k = 0 ∨ X (lab' k)
  lz : LZ lab' w'

section
variable {lab lab' lab2 : Nat → Nat} {w w' w2 : World} {X Y Z : Nat → Prop}
theorem Gro.refl (hz : LZ lab w) (X : Nat → Prop) : Gro lab lab w w X := ⟨Keeps.refl _ _, fun _ _ => rfl, fun k hk => .inl (hz k hk), hz⟩
theorem Gro.join (h : Gro lab lab' w w' X) (h2 : Gro lab' lab2 w' w2 Y) (hX : ∀ y, X y → Z y) (hY : ∀ y, Y y → Z y) : Gro lab lab2 w w2 Z := by
  refine ⟨(h.kp.mono (fun k => hX _)).trans h2.kp (fun j hj => ?_), fun k hk => ?_, fun k hk => ?_, h2.lz⟩
  · by_cases e : j < w.heap.size
    · left
      rw [h.old j e] at hj
      exact hY _ hj
    · exact .inr (by omega)
  · rw [h2.old k (Nat.lt_of_lt_of_le hk h.kp.size), h.old k hk]
  · by_cases e : k < w'.heap.size
    · rw [h2.old k e]
      exact (h.new k hk).imp id (hX _)
    · exact (h2.new k (by omega)).imp id (hY _)
theorem Gro.trans (h : Gro lab lab' w w' X) (h2 : Gro lab' lab2 w' w2 X) : Gro lab lab2 w w2 X := h.join h2 (fun _ h => h) (fun _ h => h)
theorem Gro.mono (h : Gro lab lab' w w' X) (hX : ∀ y, X y → Z y) : Gro lab lab' w w' Z := ⟨h.kp.mono (fun _ => hX _), h.old, fun k hk => (h.new k hk).imp id (hX _), h.lz⟩
theorem Gro.below (hz : LZ lab w) (hb : Below w.heap.size w w') (X : Nat → Prop) : Gro lab lab w w' X := ⟨Keeps.of_below _ hb, fun _ _ => rfl, fun k hk => .inl (hz k hk), fun k hk => hz k (Nat.le_trans hb.size hk)⟩
/-- What is new becomes x's. -/
theorem Gro.keeps (hz : LZ lab w) {F : Nat → Prop} (hk : Keeps F w w') (x : Nat) (hF : ∀ k, k < w.heap.size → F k → lab k = x) : Gro lab (relab lab w.heap.size w'.heap.size x) w w' (fun y => y = x) := by
  refine ⟨⟨hk.os, hk.tape, hk.output, hk.size, fun k h1 h2 => hk.block k h1 (fun hf => h2 (hF k h1 hf))⟩, fun k hk => relab_old hk, fun k h1 => ?_, fun k h1 => ?_⟩
  · by_cases e : k < w'.heap.size
    · exact .inr (relab_new h1 e)
    · left
      rw [relab_far (by omega)]
      exact hz k h1
  · rw [relab_far h1]
    exact hz k (Nat.le_trans hk.size h1)
/-- What is new stays nobody's. -/
theorem Gro.plain (hz : LZ lab w) {F : Nat → Prop} (hk : Keeps F w w') (hF : ∀ k, k < w.heap.size → F k → X (lab k)) : Gro lab lab w w' X :=
  ⟨⟨hk.os, hk.tape, hk.output, hk.size, fun k h1 h2 => hk.block k h1 (fun hf => h2 (hF k h1 hf))⟩, fun _ _ => rfl, fun k h1 => .inl (hz k h1), fun k h1 => hz k (Nat.le_trans hk.size h1)⟩
theorem Gro.block (h : Gro lab lab' w w' X) {k y : Nat} (hk : k < w.heap.size) (hy : lab k = y) (hX : ¬ X y) : w'.heap[k]? = w.heap[k]? := h.kp.block k hk (fun hx => hX (hy ▸ hx))
theorem Gro.tag (h : Gro lab lab' w w' X) {k y : Nat} (hk : k < w.heap.size) (hy : lab k = y) : lab' k = y := (h.old k hk).trans hy
theorem Gro.lowB (h : Gro lab lab' w w' X) {B : Nat} (hB : B ≤ w.heap.size) (hl : ∀ k, lab k ≠ 0 → B ≤ k) : ∀ k, lab' k ≠ 0 → B ≤ k := fun k hk => by
  by_cases e : k < w.heap.size
  · exact hl k (by rw [← h.old k e]; exact hk)
  · omega
theorem Gro.belowB (h : Gro lab lab' w w' X) {B : Nat} (hB : B ≤ w.heap.size) (hl : ∀ k, lab k ≠ 0 → B ≤ k) (h0 : ¬ X 0) : Below B w w' :=
  h.kp.below (fun k hx => hl k (fun e => h0 (e ▸ hx))) hB

theorem DiskAt.gro {p s : Nat} {S : DS} {x : Nat} (h : DiskAt w (ofL lab x) p s S) (g : Gro lab lab' w w' X) (hx : x ≠ 0) (hX : ¬ X x) : DiskAt w' (ofL lab' x) p s S :=
  (h.keep g.kp (fun k (hf : lab k = x) hq => hX (hf ▸ hq))).mono (fun k hf => g.tag (h.lt k hf) hf) (fun k (hf : lab' k = x) => by
    apply Decidable.byContradiction
    intro hn
    rw [g.lz k (by omega)] at hf
    exact hx hf.symm)
theorem RefAt.widen {w : World} {F G : Nat → Prop} {r s : Nat} {S : DS} (h : RefAt w F r s S) (hG : ∀ k, F k → G k) (hl : ∀ k, G k → k < w.heap.size) : RefAt w G r s S := by
  obtain ⟨gl, cl, ls, pv, xs, h⟩ := h
  exact ⟨gl, cl, ls, pv, xs, h.mono hG hl⟩
theorem RefAt.gro {p s : Nat} {S : DS} {x : Nat} (h : RefAt w (ofL lab x) p s S) (g : Gro lab lab' w w' X) (hx : x ≠ 0) (hX : ¬ X x) : RefAt w' (ofL lab' x) p s S :=
  (h.keep g.kp (fun k (hf : lab k = x) hq => hX (hf ▸ hq))).widen (fun k hf => g.tag (h.lt k hf) hf) (fun k (hf : lab' k = x) => by
    apply Decidable.byContradiction
    intro hn
    rw [g.lz k (by omega)] at hf
    exact hx hf.symm)
theorem more_lab {x : Nat} (hz : LZ lab w) (hs : w.heap.size ≤ w'.heap.size) (hx : x ≠ 0) : (∀ k, more (ofL lab x) w w' k → ofL (relab lab w.heap.size w'.heap.size x) x k) ∧ ∀ k, ofL (relab lab w.heap.size w'.heap.size x) x k → k < w'.heap.size := by
  refine ⟨fun k hk => ?_, fun k hk => ?_⟩
  · show relab lab w.heap.size w'.heap.size x k = x
    rcases hk with hk | hk
    · unfold relab
      split
      · rfl
      · exact hk
    · exact relab_new hk.1 hk.2
  · apply Decidable.byContradiction
    intro hn
    have : relab lab w.heap.size w'.heap.size x k = x := hk
    rw [relab_far (by omega), hz k (by omega)] at this
    exact hx this.symm
end

/-- A row that has one owner. -/
def OR (w : World) (lab : Nat → Nat) (y : Nat) (e : TypeId) (v : Value) (n : Nat) (xs : List Value) : Prop := w.ownsRow 0 e 1 v n xs ∧ ∀ g, v.ownBlock = some g → lab g = y
/-- Bytes that have one owner. -/
def SL (w : World) (lab : Nat → Nat) (y : Nat) (a : Option Addr) (n : Nat) (l : List Int) : Prop := Src w a n l ∧ ∀ z, a = some z → 0 < n → lab z.block = y
/-- A list of lists of bytes: the row has the owner yr, the i-th list's bytes have yb i. Behind them more values, of which nothing is told. -/
def LX (w : World) (lab : Nat → Nat) (yr : Nat) (yb : Nat → Nat) (v : Value) (ds : List (List Int)) (xs : List Value) : Prop :=
  ∃ vs : List Value, vs.length = ds.length ∧ OR w lab yr 22 v (ds.length + xs.length) (vs ++ xs) ∧ ∀ i (hi : i < ds.length), ∃ a c, vs[i]? = some (.slice a (ds[i]).length c) ∧ SL w lab (yb i) a (ds[i]).length ds[i]

section
variable {lab lab' : Nat → Nat} {w w' : World} {X : Nat → Prop} {y yr n : Nat} {yb : Nat → Nat} {v : Value} {e : TypeId} {xs : List Value} {ds : List (List Int)}
theorem OR.nil (w : World) (lab : Nat → Nat) (y : Nat) (e : TypeId) : OR w lab y e (.slice none 0 0) 0 [] := ⟨World.ownsRow_nil _ _ _ _, fun g h => by simp [Value.ownBlock] at h⟩
theorem OR.gro (h : OR w lab y e v n xs) (g : Gro lab lab' w w' X) (hX : ¬ X y) : OR w' lab' y e v n xs :=
  ⟨rowAgree h.1 (fun k hk => g.block (rowLt h.1 hk) (h.2 k hk) hX), fun k hk => g.tag (rowLt h.1 hk) (h.2 k hk)⟩
theorem OR.form (h : OR w lab y e v n xs) : ∃ a c, v = .slice a n c := by
  obtain ⟨⟨hl, ⟨rfl, h3⟩ | ⟨g, cap, cur, rfl, _⟩⟩, _⟩ := h
  · exact ⟨none, 0, by rw [h3]⟩
  · exact ⟨_, _, rfl⟩
theorem OR.row (h : OR w lab y e v n xs) (hn : 0 < n) : ∃ g c, v = .slice (some ⟨g, 0, none⟩) n c ∧ RowAt w e g c xs ∧ lab g = y ∧ n ≤ c := by
  obtain ⟨g, c, rfl, _, hr, hl⟩ := RowAt.of_owns h.1 (by rintro rfl; obtain ⟨_, ⟨_, h3⟩ | ⟨g, cap, cur, h4, _⟩⟩ := h.1; omega; cases h4)
  exact ⟨g, c, rfl, hr, h.2 g rfl, by have := hr.le; omega⟩
theorem OR.src {l : List Int} (h : OR w lab y 5 v n (bs l)) : ∃ a c, v = .slice a n c ∧ SL w lab y a n l ∧ n ≤ c := by
  obtain ⟨⟨hl, ⟨rfl, rfl⟩ | ⟨g, cap, cur, rfl, h0, hb, hn, hm, hc, ht⟩⟩, h2⟩ := h
  · have : l = [] := by simpa using hl
    subst this
    exact ⟨none, 0, rfl, ⟨⟨rfl, fun _ => rfl, fun x hx => by cases hx⟩, fun z hz => by cases hz⟩, Nat.le_refl _⟩
  · have hl' : l.length = n := by simpa using hl
    have hr : RowAt w 5 g cap (bs l) := ⟨cur, hb, by omega, by simpa [hl'] using ht, hm⟩
    exact ⟨_, cap, rfl, ⟨hl' ▸ hr.src, fun z hz _ => by cases hz; exact h2 g rfl⟩, hn⟩
theorem SL.gro {a : Option Addr} {l : List Int} (h : SL w lab y a n l) (g : Gro lab lab' w w' X) (hX : ¬ X y) : SL w' lab' y a n l := by
  refine ⟨h.1.past g.kp (fun z hz hp hq => hX (h.2 z hz hp ▸ hq)), fun z hz hp => g.tag ?_ (h.2 z hz hp)⟩
  have h0 := World.block_lt_of_cell? _ _ (h.1.2.2 z hz 0 hp)
  rw [blockOf_add] at h0
  exact h0
theorem LX.nil (w : World) (lab : Nat → Nat) (yr : Nat) (yb : Nat → Nat) : LX w lab yr yb (.slice none 0 0) [] [] := ⟨[], rfl, OR.nil _ _ _ _, fun i hi => by cases hi⟩
theorem LX.gro (h : LX w lab yr yb v ds xs) (g : Gro lab lab' w w' X) (h1 : ¬ X yr) (h2 : ∀ i, i < ds.length → ¬ X (yb i)) : LX w' lab' yr yb v ds xs := by
  obtain ⟨vs, hl, ho, he⟩ := h
  refine ⟨vs, hl, ho.gro g h1, fun i hi => ?_⟩
  obtain ⟨a, c, e1, e2⟩ := he i hi
  exact ⟨a, c, e1, e2.gro g (h2 i hi)⟩
theorem LX.close {a : Option Addr} {d : List Int} {c : Nat} (h : LX w lab yr yb v ds (.slice a d.length c :: xs)) (hs : SL w lab (yb ds.length) a d.length d) : LX w lab yr yb v (ds ++ [d]) xs := by
  obtain ⟨vs, hl, ho, he⟩ := h
  refine ⟨vs ++ [.slice a d.length c], by simp [hl], ?_, fun i hi => ?_⟩
  · rw [List.append_assoc, List.length_append]
    have e : ds.length + (xs.length + 1) = ds.length + 1 + xs.length := by omega
    simpa [e] using ho
  · by_cases e : i < ds.length
    · obtain ⟨a2, c2, e1, e2⟩ := he i e
      refine ⟨a2, c2, ?_, ?_⟩
      · rw [List.getElem?_append_left (by omega), e1, List.getElem_append_left e]
      · rw [List.getElem_append_left e]
        exact e2
    · have ei : i = ds.length := by simp at hi; omega
      subst ei
      refine ⟨a, c, ?_, ?_⟩
      · rw [List.getElem?_append_right (by omega), hl]
        simp
      · simp only [List.getElem_append_right (Nat.le_refl _), Nat.sub_self, List.getElem_cons_zero]
        exact hs
/-- The list's i-th. -/
theorem LX.at (h : LX w lab yr yb v ds []) {i : Nat} (hi : i < ds.length) : ∃ g cap a c, v = .slice (some ⟨g, 0, none⟩) ds.length cap ∧ w.cell? ⟨g, i, none⟩ = some (.slice a (ds[i]).length c) ∧ SL w lab (yb i) a (ds[i]).length ds[i] := by
  obtain ⟨vs, hl, ho, he⟩ := h
  obtain ⟨g, c, rfl, hr, _, _⟩ := ho.row (by simp; omega)
  obtain ⟨a, c2, e1, e2⟩ := he i hi
  exact ⟨g, c, a, c2, rfl, hr.cell (by rw [List.append_nil]; exact e1), e2⟩
theorem LX.form (h : LX w lab yr yb v ds []) : ∃ a c, v = .slice a ds.length c := by
  obtain ⟨vs, hl, ho, he⟩ := h
  obtain ⟨a, c, rfl⟩ := ho.form
  exact ⟨a, c, by simp⟩
/-- One more value at the row's end. -/
theorem LX.push (h : LX w lab yr yb v ds xs) (hz : LZ lab w) (h0 : ∀ i, yr ≠ yb i) (hn : ds.length + xs.length ≤ 7000000000000) (x : Value) (hx : x.oneCell' = true) :
    ∃ g' cap' w', (Builtin.append_ #[28, 28] 28 #[v, .slice (some ⟨w.heap.size, 0, none⟩) 1 1]).run Try.prog (w.alloc (.cells #[x] 22)) = .ok (.slice (some ⟨g', 0, none⟩) (ds.length + xs.length + 1) cap') w' ∧ ∃ lab', Gro lab lab' w w' (fun y => y = yr) ∧ LX w' lab' yr yb (.slice (some ⟨g', 0, none⟩) (ds.length + xs.length + 1) cap') ds (xs ++ [x]) := by
  obtain ⟨vs, hl, ho, he⟩ := h
  obtain ⟨g', cap', w', hrun, hw, hg, hat⟩ := app_list2 ho.1 x hx hn
  have hbx := below_box w (.cells #[x] 22)
  have hk : Keeps (fun k => v.ownBlock = some k) w w' := ⟨hg.os.trans hbx.os, hg.tape.trans hbx.tape, hg.output.trans hbx.output, Nat.le_trans hbx.size hg.size, fun k hk hq => (hg.block k (Nat.lt_of_lt_of_le hk hbx.size) (fun e => hq e.symm)).trans (hbx.block k hk)⟩
  have G := Gro.keeps hz hk yr (fun k _ hf => ho.2 k hf)
  refine ⟨g', cap', w', hrun, _, G, vs, hl, ⟨?_, fun k hk' => ?_⟩, fun i hi => ?_⟩
  · rw [← List.append_assoc, List.length_append, ← Nat.add_assoc]
    exact hw
  · have e : k = g' := by simpa [Value.ownBlock] using hk'.symm
    subst e
    rcases hat with e | e
    · exact G.tag (rowLt ho.1 e) (ho.2 _ e)
    · exact relab_new (by omega) (rowLt hw rfl)
  · obtain ⟨a, c, e1, e2⟩ := he i hi
    exact ⟨a, c, e1, e2.gro G (fun e => h0 i e.symm)⟩
end
end Go.Proofs.Ytnolpafdkaloeaa
end

section
namespace Go.Proofs.Ytnolpafdkaloeaa
open Go.RowKit Go.Maps

section
variable {lab : Nat → Nat} {w : World} {y n : Nat} {v : Value} {l : List Int}
/-- A byte is written. -/
theorem OR.put (h : OR w lab y 5 v n (bs l)) (hz : LZ lab w) {i : Nat} (hi : i < n) (m : Int) : ∃ g c, v = .slice (some ⟨g, 0, none⟩) n c ∧ w.cell? ⟨g, i, none⟩ = some (.int .u8 (l.getD i 0)) ∧ w.frozen? ⟨g, i, none⟩ = false ∧ n ≤ c ∧ Gro lab lab w (w.setCell ⟨g, i, none⟩ (.int .u8 m)) (fun x => x = y) ∧ OR (w.setCell ⟨g, i, none⟩ (.int .u8 m)) lab y 5 v n (bs (l.set i m)) := by
  obtain ⟨⟨hl, ⟨rfl, rfl⟩ | ⟨g, cap, cur, rfl, h0, hb, hn, hm, hc, ht⟩⟩, h2⟩ := h
  · omega
  · have hl' : l.length = n := by simpa using hl
    have hr : RowAt w 5 g cap (bs l) := ⟨cur, hb, by omega, by simpa [hl'] using ht, hm⟩
    refine ⟨g, cap, rfl, ?_, hr.frozen i, hn, Gro.plain hz (Keeps.setCell (F := fun k => k = g) w (p := ⟨g, i, none⟩) rfl _) (fun k _ e => by rw [e]; exact h2 g rfl), ⟨by simpa using hl, .inr ⟨g, cap, cur.setIfInBounds i (.int .u8 m), rfl, h0, heap_setCell_same _ _ i _ _ _ hb, hn, hm, by simpa using hc, ?_⟩⟩, h2⟩
    · exact hr.cell (by simp [bs, List.getD, hl', hi])
    · simp only [Nat.mul_one] at ht ⊢
      simp only [Array.toList_setIfInBounds, List.take_set, ht, bs, List.map_set]
/-- Bytes are appended: the list's own stay. -/
theorem OR.app (h : OR w lab y 5 v n (bs l)) (hz : LZ lab w) (ad : Addr) (m c : Nat) (nw : List Int) (hm : nw.length = m) (hnw : ∀ j u, (bs nw)[j]? = some u → w.cell? (ad.add j) = some u) (h0 : 0 < m) (hb : n + m ≤ 100000000000000) :
    ∃ g' cap' w', (Builtin.append_ #[22, 22] 22 #[v, .slice (some ad) m c]).run Try.prog w = .ok (.slice (some ⟨g', 0, none⟩) (n + m) cap') w' ∧ ∃ lab', Gro lab lab' w w' (fun x => x = y) ∧ OR w' lab' y 5 (.slice (some ⟨g', 0, none⟩) (n + m) cap') (n + m) (bs (l ++ nw)) ∧ OR w' lab' y 5 v n (bs l) := by
  obtain ⟨i0, hi, hz0, hz1, hz2⟩ := info_parts infoU8
  have hlen : (bs nw).length = m * 1 := by simp [bs, hm]
  have hone : ∀ u ∈ bs nw, u.oneCell' = true := by
    intro u hu
    obtain ⟨x, _, rfl⟩ := List.mem_map.1 hu
    rfl
  obtain ⟨g', cap', w', hr, hw, hg, hat, hlt⟩ := run_append_lies (P := Try.prog) w 22 22 0 5 i0 (.int .u8 0) 1 1 Try.underlying22 hi hz0 hz1 hz2 rfl (by decide) v n (bs l) h.1 ad m c (bs nw) hlen hnw hone h0 (by unfold maxLen; omega) (by omega) (Nat.zero_le _) _ rfl
  have hk : Keeps (fun k => v.ownBlock = some k) w w' := ⟨hg.os, hg.tape, hg.output, hg.size, fun k hk hq => hg.block k hk (fun e => hq e.symm)⟩
  have G := Gro.keeps hz hk y (fun k _ hf => h.2 k hf)
  refine ⟨g', cap', w', hr, _, G, ⟨by rw [show bs (l ++ nw) = bs l ++ bs nw by simp [bs]]; exact hw, fun k hk' => ?_⟩, ?_, fun k hk' => G.tag (rowLt h.1 hk') (h.2 k hk')⟩
  · have e : k = g' := by simpa [Value.ownBlock] using hk'.symm
    subst e
    rcases hat with e | e
    · exact G.tag (rowLt h.1 e) (h.2 _ e)
    · exact relab_new (by omega) hlt
  · obtain ⟨hl, ⟨rfl, rfl⟩ | ⟨g, cap, cur, rfl, hg0, hblk, hnc, hmc, hcs, ht⟩⟩ := h.1
    · exact ⟨hl, .inl ⟨rfl, rfl⟩⟩
    · simp only [Nat.mul_one] at hl hcs ht
      by_cases hroom : n + m ≤ cap
      · have hr2 := run_append_room (P := Try.prog) w 22 22 5 i0 Try.underlying22 hi g n cap cur hblk ad m c (bs nw) (by rw [hz1]; exact hlen) hnw hone hroom (by rw [hz1, hlen]; omega)
        rw [hr] at hr2
        injection hr2 with e1 e2
        injection e1 with e3 e4 e5
        injection e3 with e6
        injection e6 with e7
        subst e7
        subst e5
        obtain ⟨hl2, ⟨hh, _⟩ | ⟨g2, cap2, cur2, hh, _, hb2, hn2, hm2, hc2, ht2⟩⟩ := hw
        · cases hh
        · injection hh with q1 q2 q3
          injection q1 with q4
          injection q4 with q5
          subst q5
          subst q3
          simp only [Nat.mul_one] at hc2 ht2
          refine ⟨by simpa using hl, .inr ⟨_, _, cur2, rfl, Nat.zero_le _, hb2, hnc, hmc, by simpa using hc2, ?_⟩⟩
          simp only [Nat.mul_one]
          have := congrArg (List.take n) ht2
          rw [List.take_take, Nat.min_eq_left (by omega)] at this
          rw [this, List.take_left' hl]
      · have hr2 := run_append_grow (P := Try.prog) w 22 22 5 i0 (.int .u8 0) Try.underlying22 hi hz0 ⟨g, 0, none⟩ n cap (bs l) (by rw [hz1]; simpa using hl) (h.1.cells (g := g) rfl) ad m c (bs nw) (by rw [hz1]; exact hlen) hnw (by omega) (by omega) (growslice_fits (by omega) (by rw [hz2]; omega))
        rw [hr] at hr2
        injection hr2 with e1 e2
        refine ⟨by simpa using hl, .inr ⟨g, cap, cur, rfl, Nat.zero_le _, ?_, hnc, hmc, by simpa using hcs, by simpa using ht⟩⟩
        rw [e2, Below.heap_alloc w.drew _ g (Array.getElem?_eq_some_iff.1 hblk).1]
        exact hblk
set_option maxRecDepth 20000 in
/-- Where the bytes that are appended are one mark, each such mark stays. -/
theorem OR.stay (h : OR w lab y 5 v n (bs l)) (ad : Addr) (m c : Nat) (nw : List Int) (hm : nw.length = m) (hnw : ∀ j u, (bs nw)[j]? = some u → w.cell? (ad.add j) = some u) (h0 : 0 < m) (hb : n + m ≤ 1000000000) {r : Value} {w' : World}
    (hr : (Builtin.append_ #[22, 22] 22 #[v, .slice (some ad) m c]).run Try.prog w = .ok r w') {x : Int} (hx : ∀ z ∈ nw, z = x) {k o : Nat} (hc : w.cell? ⟨k, o, none⟩ = some (.int .u8 x)) : w'.cell? ⟨k, o, none⟩ = some (.int .u8 x) := by
  obtain ⟨i0, hi, hz0, hz1, hz2⟩ := info_parts infoU8
  have hlen : (bs nw).length = m * 1 := by simp [bs, hm]
  have hone : ∀ u ∈ bs nw, u.oneCell' = true := by
    intro u hu
    obtain ⟨x, _, rfl⟩ := List.mem_map.1 hu
    rfl
  obtain ⟨g', cap', w2, hr2, hw, hg, hat, hlt⟩ := run_append_lies (P := Try.prog) w 22 22 0 5 i0 (.int .u8 0) 1 1 Try.underlying22 hi hz0 hz1 hz2 rfl (by decide) v n (bs l) h.1 ad m c (bs nw) hlen hnw hone h0 (by unfold maxLen; omega) (by omega) (Nat.zero_le _) _ rfl
  rw [hr] at hr2
  injection hr2 with e1 e2
  subst e2
  have hkl := World.block_lt_of_cell? _ _ hc
  by_cases hk : v.ownBlock = some k
  · obtain ⟨hl, ⟨rfl, rfl⟩ | ⟨g, cap, cur, rfl, hg0, hblk, hnc, hmc, hcs, ht⟩⟩ := h.1
    · cases hk
    · obtain rfl : g = k := by simpa [Value.ownBlock] using hk
      simp only [Nat.mul_one] at hl hcs ht
      by_cases hroom : n + m ≤ cap
      · have hr3 := run_append_room (P := Try.prog) w 22 22 5 i0 Try.underlying22 hi g n cap cur hblk ad m c (bs nw) (by rw [hz1]; exact hlen) hnw hone hroom (by rw [hz1, hlen]; omega)
        rw [hr] at hr3
        injection hr3 with e3 e4
        have hblk2 := setRow_heap w g cur (cur.toList.take (n * i0.size) ++ bs nw ++ cur.toList.drop (n * i0.size + (bs nw).length)).toArray _ _ hblk
        rw [← e4] at hblk2
        rw [hz1, Nat.mul_one] at hblk2
        simp only [World.cell?, hblk] at hc
        simp only [World.cell?, hblk2]
        have hc' : cur.toList[o]? = some (.int .u8 x) := by simpa using hc
        have hbl : (bs nw).length = m := by simpa using hlen
        have hn1 : (cur.toList.take n).length = n := by simp; omega
        have hgoal : (cur.toList.take n ++ bs nw ++ cur.toList.drop (n + (bs nw).length))[o]? = some (.int .u8 x) := by
          by_cases o1 : o < n
          · rw [List.getElem?_append_left (by simp [List.length_append]; omega), List.getElem?_append_left (by omega), List.getElem?_take, if_pos o1]
            exact hc'
          · by_cases o2 : o < n + m
            · rw [List.getElem?_append_left (by rw [List.length_append]; omega), List.getElem?_append_right (by omega), hn1]
              have hlt2 : o - n < nw.length := by omega
              simp only [bs, List.getElem?_map, List.getElem?_eq_getElem hlt2, Option.map_some, Option.some.injEq, Value.int.injEq, true_and]
              exact hx _ (List.getElem_mem hlt2)
            · rw [List.getElem?_append_right (by rw [List.length_append]; omega), List.length_append, hn1, hbl, List.getElem?_drop, show n + m + (o - (n + m)) = o by omega]
              exact hc'
        simpa using hgoal
      · have hr3 := run_append_grow (P := Try.prog) w 22 22 5 i0 (.int .u8 0) Try.underlying22 hi hz0 ⟨g, 0, none⟩ n cap (bs l) (by rw [hz1]; simpa using hl) (h.1.cells (g := g) rfl) ad m c (bs nw) (by rw [hz1]; exact hlen) hnw (by omega) (by omega) (growslice_fits (by omega) (by rw [hz2]; omega))
        rw [hr] at hr3
        injection hr3 with e3 e4
        refine (World.cell?_of_block (w := w) (a := ⟨g, o, none⟩) ?_).trans hc
        rw [e4]
        exact Below.heap_alloc w.drew _ g hkl
  · exact (World.cell?_of_block (w := w) (a := ⟨k, o, none⟩) (hg.block k hkl (fun e => hk e.symm))).trans hc
end
end Go.Proofs.Ytnolpafdkaloeaa
end
