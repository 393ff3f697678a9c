import Derived.Test.YtodleeipefnadaaXKS12
import Derived.Test.YtodleeipefnadaaSMT
namespace Go.Proofs.Ytodleeipefnadaa
open Go.RowKit

/-- What Splice answers. -/
def ssplice (l r : List Int) (cut : Int) : List Int × Nat := if l.length ≠ 512 ∨ r.length ≠ 512 then ([], 2) else if cut < 0 ∨ 512 < cut then ([], 1) else (smix l r cut.toNat, 0)

theorem smixGetD {a b : List Int} (ha : a.length = 512) {c i : Nat} (hc : c ≤ 512) : (smix a b c).getD i 0 = if i < c then a.getD i 0 else b.getD i 0 := by
  by_cases h : i < c
  · rw [if_pos h, smix, List.getD, List.getElem?_append_left (by simp; omega), List.getElem?_take, if_pos h]; rfl
  · rw [if_neg h, smix, List.getD, List.getElem?_append_right (by simp; omega), List.getElem?_drop]
    have e : c + (i - (a.take c).length) = i := by simp; omega
    rw [e]; rfl

set_option maxRecDepth 20000 in
set_option maxHeartbeats 4000000 in
theorem rsplice_ok (b1 o1 c1 b2 o2 c2 cut : Nat) (l r : List Int) (w : World) (hc : cut ≤ 512) (h1 : Src w (some ⟨b1, o1, none⟩) 512 l) (h2 : Src w (some ⟨b2, o2, none⟩) 512 r) :
    Calls Try.prog 31 #[.slice (some ⟨b1, o1, none⟩) 512 c1, .slice (some ⟨b2, o2, none⟩) 512 c2, .int .i64 (cut : Int)] w fun e w' => ∃ v, e = .returned (.tuple #[v, .int .i64 0]) ∧ Own w' w.heap.size v (smix l r cut) ∧ Below w.heap.size w w' := by
  have H1 := Hid.mk h1
  have H2 := Hid.mk h2
  have hl := h1.1
  have hr := h2.1
  have hml := smix_len hl hr hc
  have hc1 : ¬ ((cut : Int) < 0) := by omega
  have hc2 : ¬ ((512 : Int) < (cut : Int)) := by omega
  clear h1 h2
  go_enter Try.func31, Try.ntmps31
  go_wp2
  go_loopw [8, 9] (fun v i wr => ∃ k : Nat, k ≤ 512 ∧ i = .int .i64 k ∧ Own wr w.heap.size v ((smix l r cut).take k) ∧ Below w.heap.size w wr) (fun _ i _ => 512 - (intOf i).toNat)
  case atStart => exact ⟨0, Nat.zero_le _, rfl, Own.nil _ _, Below.refl _ _⟩
  case round =>
    obtain ⟨k, hk, rfl, hown, hbr⟩ := hrel
    have Hown := Hid.mk hown
    have HB := Hid.mk hbr
    have hz := hbr.size
    clear hown hbr
    by_cases hlt : k < 512
    · have hlt' : (k : Int) < 512 := by omega
      have hsn := take_snoc (smix l r cut) k (by omega)
      have hll : ((smix l r cut).take k).length ≤ 512 := by rw [List.length_take]; omega
      have hg := smixGetD (a := l) (b := r) (i := k) hl hc
      by_cases hkc : k < cut
      · have hkc' : (k : Int) < (cut : Int) := by omega
        rw [if_pos hkc] at hg
        rw [hg] at hsn
        have hcell := H1.out.2.2 _ rfl k hlt
        rw [addr_add] at hcell
        have hcell := cell_later HB.out hcell
        have HeN := Hid.mk hsn
        clear hsn hg
        generalize l.getD k 0 = x at *
        go_wp2_with (at_builtin; refine wpList_app1 rfl _ _ rfl w.heap.size u8 _ x rfl rfl Hown.out ?b1 ?b2 ?_)
        case b1 => omega
        case b2 => exact hz
        intro v' w' ho hb'
        have HO : Hid (Own w' w.heap.size v' ((smix l r cut).take (k + 1))) := by rw [← HeN.out]; exact ho
        have HB' := Hid.mk (HB.out.trans (hb'.mono (Nat.le_refl _)))
        clear ho hb' Hown HB HeN
        go_wp2
        go_roundw
        case rel => exact ⟨k + 1, by omega, by go_num, HO.out, HB'.out⟩
        case measure => simp [intOf]; omega
      · have hkc' : ¬ (k : Int) < (cut : Int) := by omega
        rw [if_neg hkc] at hg
        rw [hg] at hsn
        have hcell := H2.out.2.2 _ rfl k hlt
        rw [addr_add] at hcell
        have hcell := cell_later HB.out hcell
        have HeN := Hid.mk hsn
        clear hsn hg
        generalize r.getD k 0 = x at *
        go_wp2_with (at_builtin; refine wpList_app1 rfl _ _ rfl w.heap.size u8 _ x rfl rfl Hown.out ?b1 ?b2 ?_)
        case b1 => omega
        intro v' w' ho hb'
        have HO : Hid (Own w' w.heap.size v' ((smix l r cut).take (k + 1))) := by rw [← HeN.out]; exact ho
        have HB' := Hid.mk (HB.out.trans (hb'.mono (Nat.le_refl _)))
        clear ho hb' Hown HB HeN
        go_wp2
        go_roundw
        case rel => exact ⟨k + 1, by omega, by go_num, HO.out, HB'.out⟩
        case measure => simp [intOf]; omega
    · have hlt' : ¬ (k : Int) < 512 := by omega
      have e : (smix l r cut).take k = smix l r cut := List.take_of_length_le (by omega)
      rw [e] at Hown
      clear e
      go_wp2
      go_ret2
      exact ⟨_, rfl, Hown.out, HB.out⟩

theorem rsplice_any (a : Option Addr) (n c : Nat) (l : List Int) (a2 : Option Addr) (m d : Nat) (r : List Int) (cut : Int) (w : World) (hs : Src w a n l) (hs2 : Src w a2 m r) (hn : n ≤ 140737488355328) (hm : m ≤ 140737488355328) :
    Calls Try.prog 31 #[.slice a n c, .slice a2 m d, .int .i64 cut] w fun e w' => ∃ v, e = .returned (.tuple #[v, .int .i64 (((ssplice l r cut).2 : Nat) : Int)]) ∧ Own w' w.heap.size v (ssplice l r cut).1 ∧ Below w.heap.size w w' := by
  have hl := hs.1
  have hr := hs2.1
  by_cases hn1 : n = 512
  · by_cases hm1 : m = 512
    · subst hn1 hm1
      obtain ⟨b1, o1, rfl⟩ : ∃ b o, a = some ⟨b, o, none⟩ := by
        cases a with
        | none => have := hs.2.1 rfl; omega
        | some x => obtain ⟨b, o, rfl, _⟩ := hs.spot (by omega); exact ⟨b, o, rfl⟩
      obtain ⟨b2, o2, rfl⟩ : ∃ b o, a2 = some ⟨b, o, none⟩ := by
        cases a2 with
        | none => have := hs2.2.1 rfl; omega
        | some x => obtain ⟨b, o, rfl, _⟩ := hs2.spot (by omega); exact ⟨b, o, rfl⟩
      by_cases h1 : cut < 0
      · have e : ssplice l r cut = ([], 1) := by unfold ssplice; rw [if_neg (by omega), if_pos (.inl h1)]
        rw [e]
        clear e hs hs2
        go_enter Try.func31, Try.ntmps31
        go_wp2
        go_ret2
        exact ⟨_, rfl, Own.nil _ _, Below.refl _ _⟩
      · by_cases h2 : 512 < cut
        · have e : ssplice l r cut = ([], 1) := by unfold ssplice; rw [if_neg (by omega), if_pos (.inr h2)]
          rw [e]
          clear e hs hs2
          go_enter Try.func31, Try.ntmps31
          go_wp2
          go_ret2
          exact ⟨_, rfl, Own.nil _ _, Below.refl _ _⟩
        · have e : ssplice l r cut = (smix l r cut.toNat, 0) := by unfold ssplice; rw [if_neg (by omega), if_neg (by omega)]
          rw [e]
          obtain ⟨k, rfl⟩ : ∃ k : Nat, cut = (k : Int) := ⟨cut.toNat, by omega⟩
          exact rsplice_ok b1 o1 c b2 o2 d k l r w (by omega) hs hs2
    · have e : ssplice l r cut = ([], 2) := by unfold ssplice; rw [if_pos (.inr (by omega))]
      rw [e]
      subst hn1
      have hm2 : ¬ (m : Int) = 512 := by omega
      clear e hs hs2
      go_enter Try.func31, Try.ntmps31
      go_wp2
      go_ret2
      exact ⟨_, rfl, Own.nil _ _, Below.refl _ _⟩
  · have e : ssplice l r cut = ([], 2) := by unfold ssplice; rw [if_pos (.inl (by omega))]
    rw [e]
    have hm2 : ¬ (n : Int) = 512 := by omega
    clear e hs hs2
    go_enter Try.func31, Try.ntmps31
    go_wp2
    go_ret2
    exact ⟨_, rfl, Own.nil _ _, Below.refl _ _⟩
end Go.Proofs.Ytodleeipefnadaa
