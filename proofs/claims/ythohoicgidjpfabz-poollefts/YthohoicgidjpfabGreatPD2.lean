import Derived.Test.YthohoicgidjpfabGreatPD1
namespace Go.Proofs.YthohoicgidjpfabGreat
open Go.RowKit

section
variable {w : World} {d : List Int}
/-- The first m truths of a bitmap, nothing behind. -/
def blTo (d : List Int) (m : Nat) : List Bool := (blOf d).take m ++ List.replicate (4096 - m) false
theorem blTo_zero (d : List Int) : blTo d 0 = List.replicate 4096 false := by unfold blTo; rw [List.take_zero, List.nil_append, Nat.sub_zero]
theorem blTo_full (d : List Int) : blTo d 4096 = blOf d := by
  unfold blTo
  rw [List.take_of_length_le (by rw [blOf_len]; exact Nat.le_refl _)]
  simp
theorem blTo_len (d : List Int) {m : Nat} (hm : m ≤ 4096) : (blTo d m).length = 4096 := by
  unfold blTo
  rw [List.length_append, List.length_take, blOf_len, List.length_replicate]
  omega
theorem blTo_set (d : List Int) {m : Nat} (hm : m < 4096) : (blTo d m).set m (bitOf d m) = blTo d (m + 1) := by
  unfold blTo
  have h1 : ((blOf d).take m).length = m := by rw [List.length_take, blOf_len]; omega
  have h2 : m < (blOf d).length := by rw [blOf_len]; exact hm
  have h3 : (blOf d)[m] = bitOf d m := by
    have h9 := blOf_get d hm
    rw [List.getD, List.getElem?_eq_getElem h2, Option.getD_some] at h9
    exact h9
  rw [List.set_append_right _ _ (by omega), h1, Nat.sub_self, show 4096 - m = (4096 - (m + 1)) + 1 by omega, List.replicate_succ, List.set_cons_zero, List.take_succ_eq_append_getElem h2, List.append_assoc, h3]
  rfl
theorem RowAt.thaw {e : TypeId} {g c : Nat} {xs : List Value} (h : RowAt w e g c xs) (j : Nat) : w.frozen? ⟨g, j, none⟩ = false := by
  obtain ⟨cur, hb, _⟩ := h
  exact frozen_of_block hb j
theorem half_bit {x k : Nat} : (((x / 2 ^ k : Nat) : Int) % 2 == 1) = decide (x / 2 ^ k % 2 = 1) := by
  generalize x / 2 ^ k = y
  by_cases h : y % 2 = 1
  · rw [decide_eq_true h]
    simp
    omega
  · rw [decide_eq_false h]
    simp
    omega
set_option maxRecDepth 20000 in
set_option maxHeartbeats 4000000 in
theorem fromBytes_any {a : Option Addr} {c : Nat} (hs : Src w a 512 d) (hd : Bytes d) : Calls Tryz.prog 120 #[.slice a 512 c] w fun e w' => ∃ g c', e = .returned (.slice (some ⟨g, 0, none⟩) 4096 c') ∧ w.heap.size ≤ g ∧ RowAt w' 4 g c' (bls (blOf d)) ∧ Below w.heap.size w w' := by
  have hk := none_any w
  have HS := Hid.mk hs
  have HD := Hid.mk hd
  have hdl : d.length = 512 := hs.1
  clear hs hd
  go_enter Tryz.func120, Tryz.ntmps120
  go_wp2_with fail
  refine hk.mono ?_
  rintro e w1 ⟨v, rfl, hbl, hb1⟩
  obtain ⟨g, cg, hv, hg, hr⟩ := hbl.row (by simp)
  rw [List.length_replicate] at hv
  subst hv
  have hcg : 4096 ≤ cg := by have := hr.le; simpa [bls] using this
  have hcm : cg ≤ 9223372036854775807 := by have := hr.max; unfold maxLen at this; omega
  have HR : Hid (RowAt w1 4 g cg (bls (blTo d 0)) ∧ Below w.heap.size w w1) := ⟨by rw [blTo_zero]; exact hr, hb1⟩
  clear hk hbl hr hb1
  go_wp2
  go_loopw [4] (fun iv wr => ∃ i : Nat, i ≤ 512 ∧ iv = .int .i64 (i : Int) ∧ RowAt wr 4 g cg (bls (blTo d (8 * i))) ∧ Below w.heap.size w wr) (fun iv _ => 512 - (intOf iv).toNat)
  case atStart => exact ⟨0, Nat.zero_le _, rfl, HR.out⟩
  case round =>
    clear HR
    obtain ⟨i, hi, rfl, hr, hb⟩ := hrel
    have H1 := Hid.mk (And.intro hr hb)
    clear hr hb
    by_cases hlt : i < 512
    · have hlt' : (i : Int) < 512 := by omega
      obtain ⟨x, hx, hx2⟩ := nat_of (getD_byte HD.out i)
      cases a with
      | none => have := HS.out.2.1 rfl; omega
      | some y =>
      obtain ⟨b, o, rfl, hc⟩ := HS.out.spot (by omega)
      have hbw : b < w.heap.size := World.block_lt_of_cell? _ _ (hc i hlt)
      have c0 : wr.cell? ⟨b, o + i, none⟩ = some (.int .u8 (x : Int)) := by
        rw [World.cell?_of_block (w := w) (a := ⟨b, o + i, none⟩) (H1.out.2.block b hbw), hc i hlt, hx]
      have HX : Hid (∀ k, k < 8 → bitOf d (8 * i + k) = decide (x / 2 ^ k % 2 = 1)) := fun k hk => by
        unfold bitOf
        rw [show (8 * i + k) / 8 = i by omega, show (8 * i + k) % 8 = k by omega, hx, bitIn_nat]
      have hi0 : (0 : Int) ≤ (i : Int) := by omega
      clear hx hc hbw
      go_wp2
      clear c0
      go_loopw [5, 6] (fun vv kv wr => ∃ k : Nat, k ≤ 8 ∧ kv = .int .i64 (k : Int) ∧ vv = .int .i64 ((x / 2 ^ k : Nat) : Int) ∧ RowAt wr 4 g cg (bls (blTo d (8 * i + k))) ∧ Below w.heap.size w wr) (fun _ kv _ => 8 - (intOf kv).toNat)
      case atStart => exact ⟨0, Nat.zero_le _, rfl, by simp, H1.out⟩
      case round =>
        clear H1
        obtain ⟨k, hk, rfl, rfl, hr, hb⟩ := hrel
        by_cases hlt2 : k < 8
        · have hlt2' : (k : Int) < 8 := by omega
          have hq : (((x / 2 ^ k : Nat) : Int)).tmod 2 = ((x / 2 ^ k : Nat) : Int) % 2 := Int.tmod_eq_emod_of_nonneg (Int.natCast_nonneg _)
          have hq2 : (((x / 2 ^ k : Nat) : Int)).tdiv 2 = ((x / 2 ^ (k + 1) : Nat) : Int) := by
            rw [Nat.pow_succ, ← Nat.div_div_eq_div_mul]
            rfl
          obtain ⟨m, hm⟩ : ∃ m, m = 8 * i + k := ⟨_, rfl⟩
          have hw1 : wrap64 (8 * (i : Int)) = 8 * (i : Int) := by rw [IntWalk.wrap64_in _ (by omega)]
          have hmi : 8 * (i : Int) + (k : Int) = (m : Int) := by omega
          have hm4 : (m : Int) < 4096 := by omega
          have hm0 : (0 : Int) ≤ (m : Int) := by omega
          rw [← hm] at hr
          have cm := hr.truth (i := m) (by rw [blTo_len d (by omega)]; omega)
          have fm := hr.thaw m
          have hbit : bitOf d m = (((x / 2 ^ k : Nat) : Int) % 2 == 1) := by rw [hm, HX.out k hlt2, half_bit]
          have hset := hr.setTruth m (bitOf d m)
          rw [blTo_set d (by omega), hbit, show m + 1 = 8 * i + (k + 1) by omega] at hset
          have HE := Hid.mk (And.intro hset (hb.trans ((Below.refl w.heap.size wr).setCell (p := ⟨g, m, none⟩) (by simpa using hg) (.bool (((x / 2 ^ k : Nat) : Int) % 2 == 1)))))
          clear hr hb hset hbit hm HX
          obtain ⟨y2, hy2⟩ : ∃ y2, y2 = x / 2 ^ (k + 1) := ⟨_, rfl⟩
          have hy3 : y2 < 256 := by rw [hy2]; exact Nat.lt_of_le_of_lt (Nat.div_le_self _ _) hx2
          rw [← hy2] at hq2
          have HY := Hid.mk hy2
          clear hy2
          generalize ((x / 2 ^ k : Nat) : Int) = y at *
          generalize (blTo d m).getD m false = z at *
          go_wp2
          go_roundw
          case rel => exact ⟨k + 1, by omega, by go_num, by rw [← HY.out], HE.out⟩
          case measure => simp [intOf]; omega
        · obtain rfl : k = 8 := by omega
          have hlt2' : ¬ (8 : Int) < 8 := by omega
          rw [show 8 * i + 8 = 8 * (i + 1) by omega] at hr
          have HE := Hid.mk (And.intro hr hb)
          clear hr hb hlt2 HX
          generalize ((x / 2 ^ 8 : Nat) : Int) = y at *
          go_wp2
          go_roundw
          case rel => exact ⟨i + 1, by omega, by go_num, HE.out⟩
          case measure => simp [intOf]; omega
    · obtain rfl : i = 512 := by omega
      have hlt' : ¬ (512 : Int) < 512 := by omega
      go_wp2
      go_ret
      refine ⟨g, cg, rfl, hg, ?_, H1.out.2⟩
      have h9 := H1.out.1
      rw [show 8 * 512 = 4096 from rfl, blTo_full] at h9
      exact h9
end
end Go.Proofs.YthohoicgidjpfabGreat
