import Derived.Test.YtkkmkogpbhcpmaaKEnc
import Derived.Test.YtkkmkogpbhcpmaaKReader
import Derived.Test.YtkkmkogpbhcpmaaKHelp
import Derived.Test.YtkkmkogpbhcpmaaKRSum
namespace Go.Proofs.Ytkkmkogpbhcpmaa
open Go.RowKit

/-- Block g holds just these bytes. -/
def Full (w : World) (g : Nat) (l : List Int) : Prop := w.heap[g]? = some (.cells (bs l).toArray 5 (0, 0))

set_option maxRecDepth 20000 in
set_option maxHeartbeats 2000000 in
theorem rlay_any (g N c : Nat) (A X C : List Int) (at_ n v : Nat) (w : World) (h : Full w g (A ++ (X ++ C))) (ha : A.length = at_) (hx : X.length = n) (hN : (A ++ (X ++ C)).length = N) (hs : N ≤ 1000000) (hv : v ≤ 9223372036854775807) :
    Calls Try.prog 91 #[.slice (some ⟨g, 0, none⟩) N c, .int .i64 (at_ : Int), .int .i64 (n : Int), .int .i64 (v : Int)] w fun e w' => e = .returned (.tuple #[]) ∧ Full w' g (A ++ (leb n v ++ C)) ∧ Keeps (fun j => j = g) w w' := by
  have H := Hid.mk h
  have hNN : at_ + n ≤ N := by simp at hN; omega
  clear h
  go_enter Try.func91, Try.ntmps91
  go_wp2
  go_loopw [3, 8] (fun r i wr => ∃ k : Nat, k ≤ n ∧ i = .int .i64 k ∧ r = .int .i64 ((v / 256 ^ k : Nat) : Int) ∧ Full wr g (A ++ ((leb k v ++ X.drop k) ++ C)) ∧ Keeps (fun j => j = g) w wr) (fun _ i _ => n - (intOf i).toNat)
  case atStart => exact ⟨0, Nat.zero_le _, rfl, by simp, by simpa [leb] using H.out, Keeps.refl _ _⟩
  case round =>
    obtain ⟨k, hk, rfl, rfl, hblk, hkr⟩ := hrel
    by_cases hlt : k < n
    · have hlt' : (k : Int) < (n : Int) := by omega
      have hQ0 : v / 256 ^ k ≤ 9223372036854775807 := Nat.le_trans (Nat.div_le_self _ _) hv
      have e1 : v / 256 ^ (k + 1) = v / 256 ^ k / 256 := by rw [Nat.div_div_eq_div_mul, Nat.pow_succ]
      have hlen : (A ++ ((leb k v ++ X.drop k) ++ C)).length = N := by rw [← hN]; simp [leb_len]; omega
      obtain ⟨u0, hc⟩ : ∃ u, wr.cell? ⟨g, at_ + k, none⟩ = some u := ⟨_, cell_of_block hblk (j := at_ + k) (u := (bs (A ++ ((leb k v ++ X.drop k) ++ C)))[at_ + k]'(by simp only [bs, List.length_map]; omega)) (by simp [bs])⟩
      have hf := frozen_of_block hblk (at_ + k)
      have hset := set_row (i := at_ + k) ((v / 256 ^ k % 256 : Nat) : Int) hblk
      have es : (A ++ ((leb k v ++ X.drop k) ++ C)).set (at_ + k) ((v / 256 ^ k % 256 : Nat) : Int) = A ++ ((leb (k + 1) v ++ X.drop (k + 1)) ++ C) := by
        rw [List.set_append_right _ _ (by omega), ha, show at_ + k - at_ = k by omega, List.append_assoc, List.set_append_right _ _ (by rw [leb_len]; omega), leb_len, Nat.sub_self, leb_snoc]
        rw [List.drop_eq_getElem_cons (show k < X.length by omega), List.cons_append, List.set_cons_zero]
        simp
      rw [es] at hset
      have HS := Hid.mk hset
      have HK := Hid.mk (hkr.trans (Keeps.setCell (F := fun j => j = g) (p := ⟨g, at_ + k, none⟩) wr rfl (.int .u8 ((v / 256 ^ k % 256 : Nat) : Int))) (fun _ h => .inl h))
      have He1 := Hid.mk e1
      generalize v / 256 ^ k = Q at *
      have q1 : (Q : Int).tmod 256 = ((Q % 256 : Nat) : Int) := by rw [Int.tmod_eq_emod_of_nonneg (by omega)]; omega
      have q2 : (Q : Int).tdiv 256 = ((Q / 256 : Nat) : Int) := by rw [Int.tdiv_eq_ediv_of_nonneg (by omega)]; omega
      clear hset hblk hkr es e1 hlen
      go_wp2
      go_roundw
      case rel => exact ⟨k + 1, by omega, by go_num, by rw [He1.out]; simp, HS.out, HK.out⟩
      case measure => simp [intOf]; omega
    · have hlt' : ¬ (k : Int) < (n : Int) := by omega
      have hkn : k = n := by omega
      have HF : Hid (Full wr g (A ++ (leb n v ++ C)) ∧ Keeps (fun j => j = g) w wr) := by
        refine ⟨?_, hkr⟩
        rw [hkn, List.drop_of_length_le (by omega), List.append_nil] at hblk
        exact hblk
      clear hblk hkr
      go_wp2
      go_end0
      exact ⟨rfl, HF.out⟩

set_option maxRecDepth 20000 in
set_option maxHeartbeats 2000000 in
theorem rsame_low (b1 o1 b2 o2 n c d : Nat) (l1 l2 : List Int) (w : World) (hl1 : l1.length = n) (hl2 : l2.length = n) (hn : n ≤ 1000000) (h1 : ∀ i, i < n → w.cell? ⟨b1, o1 + i, none⟩ = some (.int .u8 (l1.getD i 0))) (h2 : ∀ i, i < n → w.cell? ⟨b2, o2 + i, none⟩ = some (.int .u8 (l2.getD i 0))) :
    Calls Try.prog 95 #[.slice (some ⟨b1, o1, none⟩) n c, .slice (some ⟨b2, o2, none⟩) n d] w fun e w' => e = .returned (.bool (decide (l1 = l2))) ∧ Below w.heap.size w w' := by
  have h' : (((n : Int)) != (n : Int)) = false := by simp
  have H1 := Hid.mk h1
  have H2 := Hid.mk h2
  clear h1 h2
  go_enter Try.func95, Try.ntmps95
  go_wp2
  go_loopw [5] (fun i wr => ∃ k : Nat, k ≤ n ∧ i = .int .i64 k ∧ Below w.heap.size w wr ∧ ∀ j, j < k → l1.getD j 0 = l2.getD j 0) (fun i _ => n - (intOf i).toNat)
  case atStart => exact ⟨0, Nat.zero_le _, rfl, Below.refl _ _, fun j hj => by omega⟩
  case round =>
    obtain ⟨k, hk, rfl, hb, hpre⟩ := hrel
    have Hpre := Hid.mk hpre
    clear hpre
    by_cases hlt : k < n
    · have c1 := cell_later hb (H1.out k hlt)
      have c2 := cell_later hb (H2.out k hlt)
      have hlt' : (k : Int) < (n : Int) := by omega
      by_cases he : l1.getD k 0 = l2.getD k 0
      · have He := Hid.mk he
        rw [he] at c1
        have hself : (l2.getD k 0 != l2.getD k 0) = false := by simp
        generalize l2.getD k 0 = X at c1 c2 hself
        clear he
        go_wp2
        go_quiet (fail)
        go_wp2
        go_roundw
        case rel =>
          refine ⟨k + 1, by omega, by go_num, below_drewN hb _, fun j hj => ?_⟩
          by_cases e : j = k
          · rw [e]; exact He.out
          · exact Hpre.out j (by omega)
        case measure => simp [intOf]; omega
      · have hd : decide (l1 = l2) = false := by
          rw [decide_eq_false_iff_not]
          intro e
          exact he (by rw [e])
        have hne : (l1.getD k 0 != l2.getD k 0) = true := by rw [bne_iff_ne]; exact he
        have Hd := Hid.mk hd
        generalize l1.getD k 0 = X at *
        generalize l2.getD k 0 = Y at *
        clear he hd
        go_wp2
        go_quiet (fail)
        go_wp2
        go_ret
        exact ⟨by rw [Hd.out]; rfl, below_drewN hb _⟩
    · have hlt' : ¬ (k : Int) < (n : Int) := by omega
      have hd : Hid (decide (l1 = l2) = true) := by
        show decide (l1 = l2) = true
        rw [decide_eq_true_iff]
        apply List.ext_getElem (by omega)
        intro i hi1 hi2
        have := Hpre.out i (by omega)
        simpa [List.getD, hi1, hi2] using this
      go_wp2
      go_ret
      exact ⟨by rw [hd.out]; rfl, hb⟩
end Go.Proofs.Ytkkmkogpbhcpmaa
