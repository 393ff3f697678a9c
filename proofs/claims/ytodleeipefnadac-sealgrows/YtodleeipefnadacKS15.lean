import Derived.Test.YtodleeipefnadacKS14
namespace Go.Proofs.Ytodleeipefnadac
open Go.RowKit

theorem src_spot {w : World} {a : Option Addr} {n : Nat} {l : List Int} (h : Src w a n l) (hn : 0 < n) : ∃ b o, a = some ⟨b, o, none⟩ := by
  cases a with
  | none => have := h.2.1 rfl; omega
  | some x =>
    obtain ⟨b, o, rfl, _⟩ := h.spot hn
    exact ⟨b, o, rfl⟩

theorem seal_any (a : Option Addr) (n c : Nat) (old : List Int) (a2 : Option Addr) (m c2 : Nat) (body : List Int) (w : World) (hs : Src w a n old) (hs2 : Src w a2 m body) (hb : Bytes body) :
    Calls Try.prog 23 #[.slice a n c, .slice a2 m c2] w fun e w' => ∃ v, e = .returned (.tuple #[v, .int .i64 (((sseal old body).2 : Nat) : Int)]) ∧ Lst w' w.heap.size v (sseal old body).1 ∧ Below w.heap.size w w' := by
  have h1 := hs.1
  have h2 := hs2.1
  by_cases hn : n = 512
  · subst hn
    obtain ⟨b, o, rfl⟩ := src_spot hs (by omega)
    by_cases hm : 504 < m
    · refine (seal_no2 b o c old a2 m c2 w hs hm).mono ?_
      rintro e w' ⟨rfl, hbel⟩
      have e : sseal old body = ([], 7) := by unfold sseal; rw [if_neg (by omega), if_pos (by omega)]
      rw [e]
      exact ⟨_, rfl, Lst.nil _ _, hbel⟩
    · refine (seal_ok b o c old a2 m c2 body w hs hs2 (by omega) hb).mono ?_
      rintro e w' ⟨g, rfl, hblk, hg, hbel⟩
      have e : sseal old body = (sform (turnOf (old.getD 0 0) (old.getD 511 0)) body, 0) := by unfold sseal; rw [if_neg (by omega), if_neg (by omega)]
      rw [e]
      have hl : (sform (turnOf (old.getD 0 0) (old.getD 511 0)) body).length = 512 := sform_len (by omega)
      have := hblk.lst hg
      rw [hl] at this
      exact ⟨_, rfl, this, hbel⟩
  · refine (seal_no1 a n c a2 m c2 w hn).mono ?_
    rintro e w' ⟨rfl, hbel⟩
    have e : sseal old body = ([], 2) := by unfold sseal; rw [if_pos (by omega)]
    rw [e]
    exact ⟨_, rfl, Lst.nil _ _, hbel⟩
theorem rseal_any (a : Option Addr) (n c : Nat) (old : List Int) (a2 : Option Addr) (m c2 : Nat) (body : List Int) (w : World) (hs : Src w a n old) (hs2 : Src w a2 m body) (hb : Bytes body) (hbo : Bytes old) :
    Calls Try.prog 36 #[.slice a n c, .slice a2 m c2] w fun e w' => ∃ v, e = .returned (.tuple #[v, .int .i64 (((sseal old body).2 : Nat) : Int)]) ∧ Own w' w.heap.size v (sseal old body).1 ∧ Below w.heap.size w w' := by
  have h1 := hs.1
  have h2 := hs2.1
  by_cases hn : n = 512
  · subst hn
    obtain ⟨b, o, rfl⟩ := src_spot hs (by omega)
    by_cases hm : 504 < m
    · refine (rseal_no2 (some ⟨b, o, none⟩) c a2 m c2 w hm).mono ?_
      rintro e w' ⟨rfl, rfl⟩
      have e : sseal old body = ([], 7) := by unfold sseal; rw [if_neg (by omega), if_pos (by omega)]
      rw [e]
      exact ⟨_, rfl, Own.nil _ _, Below.refl _ _⟩
    · refine (rseal_ok b o c old a2 m c2 body w hs hs2 (by omega) hb hbo).mono ?_
      rintro e w' ⟨v, rfl, ho, hbel⟩
      have e : sseal old body = (sform (turnOf (old.getD 0 0) (old.getD 511 0)) body, 0) := by unfold sseal; rw [if_neg (by omega), if_neg (by omega)]
      rw [e]
      exact ⟨_, rfl, ho, hbel⟩
  · refine (rseal_no1 a n c a2 m c2 w hn).mono ?_
    rintro e w' ⟨rfl, rfl⟩
    have e : sseal old body = ([], 2) := by unfold sseal; rw [if_pos (by omega)]
    rw [e]
    exact ⟨_, rfl, Own.nil _ _, Below.refl _ _⟩

set_option maxHeartbeats 1000000 in
theorem lnum_any (x : Int) (w : World) : Calls Try.prog 31 #[.int .i64 x] w fun e w' => e = .returned (.int .i64 x) ∧ w' = w := by
  go_enter Try.func31, Try.ntmps31
  go_wp2
  go_ret
  exact ⟨rfl, rfl⟩

set_option maxHeartbeats 4000000 in
theorem upTo_any (a : Option Addr) (n c N : Nat) (l : List Int) (w : World) (hN : N ≤ 1000000) (hs : Src w a n l) (hn : n ≤ 140737488355328) :
    Calls Try.prog 11 #[.slice a n c, .int .i64 (N : Int)] w fun e w' => ∃ v, e = .returned v ∧ Own w' w.heap.size v (l.take N) ∧ Below w.heap.size w w' := by
  have H := Hid.mk hs
  have hl := hs.1
  clear hs
  go_enter Try.func11, Try.ntmps11
  go_wp2
  go_loopw [5, 6] (fun v i wr => ∃ k : Nat, k ≤ n ∧ k ≤ N ∧ i = .int .i64 k ∧ Own wr w.heap.size v (l.take k) ∧ Below w.heap.size w wr) (fun _ i _ => n - (intOf i).toNat)
  case atStart => exact ⟨0, Nat.zero_le _, Nat.zero_le _, rfl, Own.nil _ _, Below.refl _ _⟩
  case round =>
    obtain ⟨k, hk, hkN, rfl, hown, hbr⟩ := hrel
    have Hown := Hid.mk hown
    have HB := Hid.mk hbr
    have hz := hbr.size
    clear hown hbr
    by_cases hlt : k < n
    · have hlt' : (k : Int) < (n : Int) := by omega
      by_cases hlN : k < N
      · have hlN' : (k : Int) < (N : Int) := by omega
        obtain ⟨b, o, rfl⟩ := src_spot H.out (by omega)
        have hc := H.out.2.2 _ rfl k hlt
        rw [addr_add] at hc
        have hc := cell_later HB.out hc
        have HeN := Hid.mk (take_snoc l k (by omega))
        have hll : (l.take k).length ≤ 1000000 := by rw [List.length_take]; omega
        generalize l.getD k 0 = x at *
        go_wp2_with (at_builtin; refine wpList_app1 rfl _ _ rfl w.heap.size u5 _ x rfl rfl Hown.out ?b1 ?b2 ?_)
        case b1 => omega
        case b2 => exact hz
        intro v' w' ho hb'
        have HO : Hid (Own w' w.heap.size v' (l.take (k + 1))) := by rw [← HeN.out]; exact ho
        have HB' := Hid.mk (HB.out.trans (hb'.mono (Nat.le_refl _)))
        clear ho hb' Hown HB HeN
        go_wp2
        go_roundw
        case rel => exact ⟨k + 1, by omega, by omega, by go_num, HO.out, HB'.out⟩
        case measure => simp [intOf]; omega
      · have hlN' : ¬ (k : Int) < (N : Int) := by omega
        obtain rfl : k = N := by omega
        go_wp2
        go_ret
        exact ⟨_, rfl, Hown.out, HB.out⟩
    · have hlt' : ¬ (k : Int) < (n : Int) := by omega
      have e : l.take N = l.take k := by rw [List.take_of_length_le (by omega), List.take_of_length_le (by omega)]
      have HE := Hid.mk e
      clear e
      go_wp2
      go_ret
      exact ⟨_, rfl, by rw [HE.out]; exact Hown.out, HB.out⟩
end Go.Proofs.Ytodleeipefnadac
