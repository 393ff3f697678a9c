import Derived.Test.YtbedlabokjdhaaaDoorSHC
namespace Go.Proofs.YtbedlabokjdhaaaDoor
open Go.RowKit Go.Maps

theorem hexN_hx : ∀ k : Nat, k < 16 → hexN (hx k).toNat = some k := by decide
theorem plain_self {c : UInt8} (h1 : ¬ (c = 92 ∨ c = 34)) (h4 : ¬ (c.toNat < 32 ∨ 127 ≤ c.toNat)) : plainB c = true := by
  have e92 : ((c.toNat : Int) == 92) = false := ne_lit (k := 92) (fun e => h1 (.inl e))
  have e34 : ((c.toNat : Int) == 34) = false := ne_lit (k := 34) (fun e => h1 (.inr e))
  have e127 : ((c.toNat : Int) == 127) = false := by rw [beq_eq_false_iff_ne]; omega
  have e32 : decide ((32 : Int) ≤ (c.toNat : Int)) = true := by simp; omega
  unfold plainB plainR
  rw [e92, e34, e127, e32]
  rfl
theorem esc_one (c : UInt8) (t : List UInt8) : oneB (esc c ++ t) = some (c, t) := by
  unfold esc
  by_cases h1 : c = 92 ∨ c = 34
  · rw [if_pos h1]
    rcases h1 with rfl | rfl <;> rfl
  · rw [if_neg h1]
    by_cases h2 : c = 10
    · subst h2
      rfl
    · rw [if_neg h2]
      by_cases h3 : c = 9
      · subst h3
        rfl
      · rw [if_neg h3]
        by_cases h4 : c.toNat < 32 ∨ 127 ≤ c.toNat
        · rw [if_pos h4]
          have hlt := c.toNat_lt
          have a1 := hexN_hx (c.toNat / 16) (by omega)
          have a2 := hexN_hx (c.toNat % 16) (by omega)
          show hexR (hx (c.toNat / 16) :: hx (c.toNat % 16) :: t) = some (c, t)
          simp only [hexR, a1, a2]
          congr 2
          rw [show 16 * (c.toNat / 16) + c.toNat % 16 = c.toNat by omega]
          exact UInt8.ofNat_toNat
        · rw [if_neg h4]
          simp only [List.cons_append, List.nil_append, oneB, plain_self h1 h4, if_true]
theorem mnt_escs (b : List UInt8) : mnt (escs b) = some b := by
  induction b with
  | nil => exact mnt_nil
  | cons c t ih =>
    have e : escs (c :: t) = esc c ++ escs t := by simp [escs]
    rw [e, mnt_one (esc_one c _), ih]
    rfl
theorem hx_plain (k : Nat) (h : k < 16) : hx k ≠ 92 ∧ hx k ≠ 34 := by
  have : ∀ k : Nat, k < 16 → hx k ≠ 92 ∧ hx k ≠ 34 := by decide
  exact this k h
theorem esc_clos (c : UInt8) (t : List UInt8) : clos false (esc c ++ t) = (clos false t).map (· + (esc c).length) := by
  unfold esc
  by_cases h1 : c = 92 ∨ c = 34
  · rw [if_pos h1]
    rcases h1 with rfl | rfl <;> simp [clos, Option.map_map]
    all_goals rfl
  · rw [if_neg h1]
    by_cases h2 : c = 10
    · subst h2
      simp [clos, Option.map_map]
      rfl
    · rw [if_neg h2]
      by_cases h3 : c = 9
      · subst h3
        simp [clos, Option.map_map]
        rfl
      · rw [if_neg h3]
        by_cases h4 : c.toNat < 32 ∨ 127 ≤ c.toNat
        · rw [if_pos h4]
          have hlt := c.toNat_lt
          have a1 := hx_plain (c.toNat / 16) (by omega)
          have a2 := hx_plain (c.toNat % 16) (by omega)
          simp [clos, Option.map_map, a1, a2]
          rfl
        · rw [if_neg h4]
          rw [not_or] at h1
          simp [clos, h1]
theorem clos_escs (b r : List UInt8) : clos false (escs b ++ 34 :: r) = some (escs b).length := by
  induction b with
  | nil => simp [escs, clos]
  | cons c t ih =>
    have e : escs (c :: t) = esc c ++ escs t := by simp [escs]
    rw [e, List.append_assoc, esc_clos, ih]
    simp only [Option.map_some, List.length_append]
    congr 1
    omega
theorem qtd_quo (b r : List UInt8) (h : endsB r = true) : qtd (escs b ++ 34 :: r) = some (b, r) := by
  unfold qtd
  rw [clos_escs]
  have e1 : (escs b ++ 34 :: r).drop ((escs b).length + 1) = r := by
    rw [← List.drop_drop, List.drop_left]
    rfl
  have e2 : (escs b ++ 34 :: r).take (escs b).length = escs b := List.take_left
  simp only [e1, e2, h, if_true, mnt_escs, Option.map_some]
theorem wds_quo (b : List UInt8) : WdsQ (quo b) [b] := by
  refine .step (t := escs b ++ [34]) (r := []) ?_ (qtd_quo b [] rfl) (.done rfl)
  rfl
theorem quo_len (b : List UInt8) : (quo b).length ≤ 4 * b.length + 2 := by
  have := escs_len b
  simp only [quo, List.length_cons, List.length_append, List.length_nil]
  omega
end Go.Proofs.YtbedlabokjdhaaaDoor
