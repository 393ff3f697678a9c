import Derived.Test.YtodleeipefnadaaKS1
namespace Go.Proofs.Ytodleeipefnadaa
open Go.RowKit

theorem take_eq_next {l l' : List Int} {k : Nat} (h : l.take k = l'.take k) (h1 : k < l.length) (h2 : k < l'.length) (e : l.getD k 0 = l'.getD k 0) : l.take (k + 1) = l'.take (k + 1) := by
  rw [List.take_succ_eq_append_getElem h1, List.take_succ_eq_append_getElem h2, h]
  simp [List.getD, h1, h2] at e
  rw [e]
theorem ne_of_getD {l l' : List Int} {k : Nat} (e : l.getD k 0 ≠ l'.getD k 0) : l ≠ l' := fun h => e (by rw [h])

set_option maxRecDepth 20000 in
set_option maxHeartbeats 2000000 in
theorem lsame_ne (a b : Option Addr) (n m c d : Nat) (w : World) (h : n ≠ m) :
    Calls Try.prog 32 #[.slice a n c, .slice b m d] w fun e w' => e = .returned (.bool false) ∧ w' = w := by
  have h' : (((n : Int)) != (m : Int)) = true := by rw [bne_iff_ne]; omega
  go_enter Try.func32, Try.ntmps32
  go_wp2
  go_ret
  exact ⟨rfl, rfl⟩
set_option maxRecDepth 20000 in
set_option maxHeartbeats 2000000 in
theorem lsame_low (b o b' o' : Nat) (n c d : Nat) (l l' : List Int) (w : World) (hn : n ≤ 140737488355328) (hl : l.length = n) (hl' : l'.length = n) (h1 : ∀ i, i < n → w.cell? ⟨b, o + i, none⟩ = some (.int .u8 (l.getD i 0))) (h2 : ∀ i, i < n → w.cell? ⟨b', o' + i, none⟩ = some (.int .u8 (l'.getD i 0))) :
    Calls Try.prog 32 #[.slice (some ⟨b, o, none⟩) n c, .slice (some ⟨b', o', none⟩) n d] w fun e w' => e = .returned (.bool (decide (l = l'))) ∧ Below w.heap.size w w' := by
  have h' : (((n : Int)) != (n : Int)) = false := by simp
  have H1 := Hid.mk h1
  have H2 := Hid.mk h2
  clear h1 h2
  go_enter Try.func32, Try.ntmps32
  go_wp2
  go_loopw [5] (fun i wr => ∃ k : Nat, k ≤ n ∧ i = .int .i64 k ∧ l.take k = l'.take k ∧ Below w.heap.size w wr) (fun i _ => n - (intOf i).toNat)
  case atStart => exact ⟨0, Nat.zero_le _, rfl, by simp, Below.refl _ _⟩
  case round =>
    obtain ⟨k, hk, rfl, htk, hb⟩ := hrel
    have Htk := Hid.mk htk
    clear htk
    by_cases hlt : k < n
    · have c1 := cell_later hb (H1.out k hlt)
      have c2 := cell_later hb (H2.out k hlt)
      have hlt' : (k : Int) < (n : Int) := by omega
      by_cases hx : l.getD k 0 = l'.getD k 0
      · have Hnx := Hid.mk (take_eq_next Htk.out (by omega) (by omega) hx)
        have hb2 := Hid.mk (fun j => below_drewN hb j)
        rw [hx] at c1
        generalize l'.getD k 0 = x at *
        clear hx
        go_wp2
        go_quiet (fail)
        go_wp2
        go_roundw
        case rel => exact ⟨k + 1, by omega, by go_num, Hnx.out, below_drewN hb _⟩
        case measure => simp [intOf]; omega
      · have hne : l ≠ l' := ne_of_getD hx
        have hd : Hid (decide (l = l') = false) := by show decide (l = l') = false; simp [hne]
        have hxx : ((l.getD k 0) != (l'.getD k 0)) = true := by rw [bne_iff_ne]; exact hx
        generalize l'.getD k 0 = x at *
        generalize l.getD k 0 = y at *
        clear hx hne
        go_wp2
        go_quiet (fail)
        go_wp2
        go_ret
        exact ⟨by rw [hd.out]; rfl, below_drewN hb _⟩
    · have hlt' : ¬ (k : Int) < (n : Int) := by omega
      have hd : Hid (decide (l = l') = true) := by
        have := Htk.out
        rw [List.take_of_length_le (by omega), List.take_of_length_le (by omega)] at this
        show decide (l = l') = true
        simp [this]
      go_wp2
      go_ret
      exact ⟨by rw [hd.out]; rfl, hb⟩
set_option maxRecDepth 20000 in
set_option maxHeartbeats 1000000 in
theorem lsame_zero (a b : Option Addr) (c d : Nat) (w : World) :
    Calls Try.prog 32 #[.slice a 0 c, .slice b 0 d] w fun e w' => e = .returned (.bool true) ∧ w' = w := by
  go_enter Try.func32, Try.ntmps32
  go_wp2
  refine wp_loop_rounds 1 ?_; rw [rounds_succ]; go_wp2
  go_ret
  exact ⟨rfl, rfl⟩
theorem lsame_any (a b : Option Addr) (n m c d : Nat) (l l' : List Int) (w : World) (hn : n ≤ 140737488355328) (h1 : Src w a n l) (h2 : Src w b m l') :
    Calls Try.prog 32 #[.slice a n c, .slice b m d] w fun e w' => e = .returned (.bool (decide (l = l'))) ∧ Below w.heap.size w w' := by
  by_cases hnm : n = m
  · subst hnm
    by_cases h0 : n = 0
    · subst h0
      have e1 := List.eq_nil_of_length_eq_zero h1.1
      have e2 := List.eq_nil_of_length_eq_zero h2.1
      subst e1 e2
      exact (lsame_zero a b c d w).mono (by rintro e w' ⟨rfl, rfl⟩; exact ⟨rfl, Below.refl _ _⟩)
    · cases a with
      | none => exact absurd (h1.2.1 rfl) h0
      | some x =>
        cases b with
        | none => exact absurd (h2.2.1 rfl) h0
        | some y =>
          obtain ⟨b1, o1, rfl, k1⟩ := h1.spot (by omega)
          obtain ⟨b2, o2, rfl, k2⟩ := h2.spot (by omega)
          exact lsame_low b1 o1 b2 o2 n c d l l' w hn h1.1 h2.1 k1 k2
  · have hd : decide (l = l') = false := by
      have : l ≠ l' := fun e => hnm (by rw [← h1.1, ← h2.1, e])
      simp [this]
    rw [hd]
    exact (lsame_ne a b n m c d w hnm).mono (by rintro e w' ⟨rfl, rfl⟩; exact ⟨rfl, Below.refl _ _⟩)

/-- The list made 512 bytes long. -/
def sec (l : List Int) : List Int := (List.range 512).map (fun i => l.getD i 0)
theorem sec_len (l : List Int) : (sec l).length = 512 := by simp [sec]
theorem sec_bytes {l : List Int} (h : Bytes l) : Bytes (sec l) := by
  intro x hx
  obtain ⟨j, _, rfl⟩ := List.mem_map.1 hx
  exact h.getD _
theorem sec_getD (l : List Int) {i : Nat} (h : i < 512) : (sec l).getD i 0 = l.getD i 0 := by simp [sec, List.getD, h]
theorem sec_self {l : List Int} (h : l.length = 512) : sec l = l := by
  apply List.ext_getElem?
  intro i
  by_cases hi : i < 512
  · simp [sec, hi, List.getD, List.getElem?_eq_getElem (show i < l.length by omega)]
  · rw [List.getElem?_eq_none (by rw [sec_len]; omega), List.getElem?_eq_none (by omega)]

theorem own_of {w : World} {B k : Nat} {v : Value} {l m : List Int} (h : w.ownsRow B 5 1 v k (bs l)) (hk : m.length = k) (e : m = l) : Own w B v m := by
  subst e; subst hk; exact h

set_option maxHeartbeats 4000000 in
theorem lsector_any (a : Option Addr) (n c : Nat) (l : List Int) (w : World) (hn : n ≤ 140737488355328) (hs : Src w a n l) :
    Calls Try.prog 29 #[.slice a n c] w fun e w' => ∃ v, e = .returned v ∧ Own w' w.heap.size v (sec l) ∧ Below w.heap.size w w' := by
  obtain ⟨i0, hi, hz0, hz1, hz2⟩ := info_parts infoU8
  have H := Hid.mk hs
  have hl := hs.1
  clear hs
  go_enter Try.func29, Try.ntmps29
  go_wp2
  go_loopw [3, 4] (fun v i wr => ∃ k : Nat, k ≤ 512 ∧ i = .int .i64 k ∧ wr.ownsRow w.heap.size 5 1 v k (bs ((List.range k).map (fun i => l.getD i 0))) ∧ Below w.heap.size w wr) (fun _ i _ => 512 - (intOf i).toNat)
  case atStart => exact ⟨0, Nat.zero_le _, rfl, ⟨by simp, .inl ⟨rfl, rfl⟩⟩, Below.refl _ _⟩
  case round =>
    obtain ⟨k, hk, rfl, hown, hbr⟩ := hrel
    by_cases hlt : k < 512
    · have hlt' : (k : Int) < 512 := by omega
      have hz := hbr.size
      have Hown := Hid.mk hown
      have HB := Hid.mk hbr
      have eN : bs ((List.range k).map (fun i => l.getD i 0)) ++ [.int .u8 (l.getD k 0)] = bs ((List.range (k + 1)).map (fun i => l.getD i 0)) := by
        rw [List.range_succ]; simp [bs]
      obtain ⟨X, hX⟩ : ∃ X, X = bs ((List.range k).map (fun i => l.getD i 0)) := ⟨_, rfl⟩
      rw [← hX] at Hown eN
      have HeN := Hid.mk eN
      clear hown hbr eN hX
      by_cases hkn : k < n
      · have hkn' : (k : Int) < (n : Int) := by omega
        obtain ⟨x0, rfl⟩ : ∃ x, a = some x := by
          cases a with
          | none => have := H.out.2.1 rfl; omega
          | some x => exact ⟨x, rfl⟩
        obtain ⟨b, o, rfl, hcell⟩ := H.out.spot (by omega)
        have hc := cell_later HB.out (hcell k hkn)
        clear hcell
        generalize hx : l.getD k 0 = x at *
        go_wp2_with (at_builtin; refine wpList_append_own _ rfl _ _ 30 rfl w.heap.size 5 i0 (.int .u8 0) 1 1 Try.underlying30 hi hz0 hz1 hz2 rfl (by decide) _ _ _ rfl (Hown.out.alloc _) ⟨wr.heap.size, 0, none⟩ 1 1 [.int .u8 x] rfl rfl ?n1 ?n2 ?n3 ?n4 ?n5 ?_)
        case n1 => exact cell_one_new _ _ _
        case n2 => first | rfl | (intro u hu; simp at hu; subst hu; rfl)
        case n3 => unfold maxLen; omega
        case n4 => omega
        case n5 => first | omega | (simp; omega)
        intro v' w1 hown' hgrow' hnil
        have HO : Hid (w1.ownsRow w.heap.size 5 1 v' (k + 1) (bs ((List.range (k + 1)).map (fun i => l.getD i 0)))) := by rw [← HeN.out]; exact hown'
        have HB1 : Hid (Below w.heap.size w w1) := (HB.out.alloc hz _).grown hgrow' (by simp; omega) (fun q e => (Hown.out.lt q e).1)
        clear hown' hgrow' hnil HeN Hown HB
        go_wp2
        go_roundw
        case rel => exact ⟨k + 1, by omega, by go_num, HO.out, HB1.out⟩
        case measure => simp [intOf]; omega
      · have hkn' : ¬ (k : Int) < (n : Int) := by omega
        have hx : l.getD k 0 = 0 := by simp [List.getD, List.getElem?_eq_none (show l.length ≤ k by omega)]
        rw [hx] at HeN
        clear hx
        go_wp2_with (at_builtin; refine wpList_append_own _ rfl _ _ 30 rfl w.heap.size 5 i0 (.int .u8 0) 1 1 Try.underlying30 hi hz0 hz1 hz2 rfl (by decide) _ _ _ rfl (Hown.out.alloc _) ⟨wr.heap.size, 0, none⟩ 1 1 [.int .u8 0] rfl rfl ?n1 ?n2 ?n3 ?n4 ?n5 ?_)
        case n2 => first | rfl | (intro u hu; simp at hu; subst hu; rfl)
        case n3 => unfold maxLen; omega
        case n4 => omega
        case n5 => first | omega | (simp; omega)
        intro v' w1 hown' hgrow' hnil
        have HO : Hid (w1.ownsRow w.heap.size 5 1 v' (k + 1) (bs ((List.range (k + 1)).map (fun i => l.getD i 0)))) := by rw [← HeN.out]; exact hown'
        have HB1 : Hid (Below w.heap.size w w1) := (HB.out.alloc hz _).grown hgrow' (by simp; omega) (fun q e => (Hown.out.lt q e).1)
        clear hown' hgrow' hnil HeN Hown HB
        go_wp2
        go_roundw
        case rel => exact ⟨k + 1, by omega, by go_num, HO.out, HB1.out⟩
        case measure => simp [intOf]; omega
    · have hlt' : ¬ (k : Int) < 512 := by omega
      have e2 : k = 512 := by omega
      subst e2
      have Hown := Hid.mk (own_of (m := sec l) hown (sec_len l) rfl)
      clear hown
      go_wp2
      go_ret
      exact ⟨_, rfl, Hown.out, hbr⟩
end Go.Proofs.Ytodleeipefnadaa
