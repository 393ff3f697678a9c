import Derived.Test.YtalokopnagpgcaaDoorSH4
namespace Go.Proofs.YtalokopnagpgcaaDoor
open Go.RowKit Go.Maps

/-- A small letter of a letter. -/
def lowN (n : Nat) : Nat := n ||| 32
theorem lowN_lt {n : Nat} (h : n < 2 ^ 8) : lowN n < 256 := Nat.or_lt_two_pow (n := 8) h (by decide)
theorem or32 {n : Nat} (h : n < 2 ^ 8) : bits .or .u8 (n : Int) 32 = ((lowN n : Nat) : Int) := by
  show IntKind.u8.wrap ((BitVec.ofInt 8 (n : Int) ||| BitVec.ofInt 8 (32 : Int)).toNat : Int) = _
  have eb : (BitVec.ofInt 8 (32 : Int)).toNat = 32 := by decide
  have en : (BitVec.ofInt 8 (n : Int)).toNat = n := by
    rw [BitVec.toNat_ofInt]
    omega
  have hl := lowN_lt h
  unfold lowN at *
  rw [BitVec.toNat_or, eb, en, IntKind.wrap_u8]
  omega
theorem lower_any (n : Nat) (h : n < 2 ^ 8) (w : World) :
    Calls Tryd.prog 49 #[.int .u8 n] w fun e w' => e = .returned (.int .u8 (lowN n)) ∧ w' = w := by
  have h1 := or32 h
  go_enter Tryd.func49, Tryd.ntmps49
  go_wp2
  go_ret
  exact ⟨rfl, rfl⟩

/-- What a hexadecimal digit stands for. -/
def hexN (n : Nat) : Option Nat := if 48 ≤ n ∧ n ≤ 57 then some (n - 48) else if 97 ≤ lowN n ∧ lowN n ≤ 102 then some (lowN n - 87) else none
theorem hexN_lt {n d : Nat} (h : hexN n = some d) : d < 16 := by
  unfold hexN at h
  split at h
  · simp at h; omega
  · split at h
    · simp at h; omega
    · cases h

theorem below_bytes (w : World) (e : TypeId) (s : ByteArray) : Below w.heap.size w (Lib.bytesWorld w e s) :=
  ⟨rfl, rfl, rfl, by rw [Lib.bytesWorld_size]; omega, fun j hj => Lib.bytesWorld_at_old w e s j hj⟩

/-- What is parsed of the first k of two letters. -/
def valK (a b k n : Nat) : Prop := match k with
  | 0 => n = 0
  | 1 => hexN a = some n
  | _ => ∃ x y, hexN a = some x ∧ hexN b = some y ∧ n = 16 * x + y
/-- What the library's parser answers of two letters. -/
def parse2 (a b : Nat) : Value := match hexN a, hexN b with
  | some x, some y => .tuple #[.int .u64 ((16 * x + y : Nat) : Int), .nilIface]
  | _, _ => .tuple #[.int .u64 0, .iface 80 (.int .i64 2)]
set_option maxRecDepth 100000 in
set_option maxHeartbeats 8000000 in
theorem iparse_any (a b : UInt8) (w : World) :
    Calls Tryd.prog 46 #[.string ⟨#[a, b]⟩, .int .i64 16, .int .i64 8] w fun e w' => e = .returned (parse2 a.toNat b.toNat) ∧ Below w.heap.size w w' := by
  have hcv := Lib.run_convert_string_bytes (P := Tryd.prog) w 9 23 5 ⟨#[a, b]⟩ Tryd.underlying9 Tryd.underlying23 Tryd.underlying5
  have c0 : (Lib.bytesWorld w 5 ⟨#[a, b]⟩).cell? ⟨w.heap.size, 0, none⟩ = some (.int .u8 a.toNat) := Lib.bytesWorld_cell w 5 ⟨#[a, b]⟩ 0 (show 0 < 2 by decide)
  have c1 : (Lib.bytesWorld w 5 ⟨#[a, b]⟩).cell? ⟨w.heap.size, 1, none⟩ = some (.int .u8 b.toNat) := Lib.bytesWorld_cell w 5 ⟨#[a, b]⟩ 1 (show 1 < 2 by decide)
  have HB := Hid.mk (below_bytes w 5 ⟨#[a, b]⟩)
  have hsz : (⟨#[a, b]⟩ : ByteArray).size = 2 := rfl
  have hne : ((⟨#[a, b]⟩ : ByteArray).toList == []) = false := by rw [ByteArray.toList_eq]; rfl
  have ha := a.toNat_lt
  have hb := b.toNat_lt
  generalize a.toNat = A at *
  generalize b.toNat = BB at *
  rw [hsz] at hcv
  generalize (⟨#[a, b]⟩ : ByteArray) = s at *
  generalize grownCap w 2 0 5 = cp at *
  generalize Lib.bytesWorld w 5 s = W at *
  have hlw := lower_any
  go_enter Tryd.func46, Tryd.ntmps46
  go_wp2
  go_loopw [12, 13, 101] (fun uv nv iv wr => ∃ k N : Nat, k ≤ 2 ∧ wr = W ∧ uv = .bool false ∧ nv = .int .u64 N ∧ iv = .int .i64 k ∧ valK A BB k N) (fun _ _ iv _ => 2 - (intOf iv).toNat)
  case atStart => exact ⟨0, 0, by omega, rfl, rfl, rfl, rfl, rfl⟩
  case round =>
    obtain ⟨k, N, hk, hwr, rfl, rfl, rfl, hv⟩ := hrel
    have hwr' := hwr.symm
    subst hwr'
    by_cases hlt : k < 2
    · have hlt' : (k : Int) < 2 := by omega
      obtain ⟨c, hc, hc8, hN, hnext, hfail⟩ : ∃ c, W.cell? ⟨w.heap.size, k, none⟩ = some (Value.int .u8 ((c : Nat) : Int)) ∧ c < 2 ^ 8 ∧ N < 16 ∧ (∀ d, hexN c = some d → valK A BB (k + 1) (16 * N + d)) ∧ (hexN c = none → parse2 A BB = .tuple #[.int .u64 0, .iface 80 (.int .i64 2)]) := by
        match k, hlt with
        | 0, _ =>
          have e : N = 0 := hv
          subst e
          refine ⟨A, c0, ha, by omega, fun d h => ?_, fun h => ?_⟩
          · show hexN A = some (16 * 0 + d)
            rw [h]
            simp
          · unfold parse2
            rw [h]
        | 1, _ =>
          have e : hexN A = some N := hv
          refine ⟨BB, c1, hb, hexN_lt e, fun d h => ⟨N, d, e, h, rfl⟩, fun h => ?_⟩
          unfold parse2
          rw [e, h]
      have HF := Hid.mk (And.intro hnext hfail)
      clear hnext hfail hv c0 c1 ha hb
      have hL := lowN_lt hc8
      have hl1 := hlw c hc8
      have ew1 : IntKind.u64.wrap ((N : Int) * 16) = ((16 * N : Nat) : Int) := by rw [IntKind.wrap_u64]; omega
      have eN : ¬ (1152921504606846976 ≤ (N : Int)) := by omega
      by_cases h09 : 48 ≤ c ∧ c ≤ 57
      · have q1 : (48 : Int) ≤ (c : Int) := by omega
        have q2 : (c : Int) ≤ 57 := by omega
        have q0 : ((c : Int) == 95) = false := by rw [beq_eq_false_iff_ne]; omega
        have q3 : IntKind.u8.wrap ((c : Int) - 48) = ((c - 48 : Nat) : Int) := by rw [IntKind.wrap_u8]; omega
        have hd : hexN c = some (c - 48) := by unfold hexN; rw [if_pos h09]
        have hd16 := hexN_lt hd
        have hvn := HF.out.1 _ hd
        have HV := Hid.mk hvn
        clear hvn hd HF h09
        generalize c - 48 = d at *
        have q4 : ¬ ((16 : Int) ≤ (d : Int)) := by omega
        have q5 : IntKind.u64.wrap (((16 * N : Nat) : Int) + (d : Int)) = ((16 * N + d : Nat) : Int) := by rw [IntKind.wrap_u64]; omega
        have q6 : ¬ (((16 * N + d : Nat) : Int) < ((16 * N : Nat) : Int)) := by omega
        have q7 : ¬ ((255 : Int) < ((16 * N + d : Nat) : Int)) := by omega
        go_wp2
        exact ⟨⟨k + 1, 16 * N + d, by omega, trivial, rfl, by simp, by simp, HV.out⟩, by simp [intOf]; omega⟩
      · have q0 : ((c : Int) == 95) = false ∨ c = 95 := by
          by_cases h : c = 95
          · exact .inr h
          · exact .inl (by rw [beq_eq_false_iff_ne]; omega)
        by_cases hz : 97 ≤ lowN c ∧ lowN c ≤ 122
        · have c95 : ((c : Int) == 95) = false := by
            rcases q0 with h | rfl
            · exact h
            · exact absurd hz (by decide)
          have p1 : (97 : Int) ≤ (lowN c : Int) := by omega
          have p2 : (lowN c : Int) ≤ 122 := by omega
          have q3 : IntKind.u8.wrap ((lowN c : Int) - 97) = ((lowN c - 97 : Nat) : Int) := by rw [IntKind.wrap_u8]; omega
          have q3' : IntKind.u8.wrap (((lowN c - 97 : Nat) : Int) + 10) = ((lowN c - 87 : Nat) : Int) := by rw [IntKind.wrap_u8]; omega
          by_cases hf : lowN c ≤ 102
          · have hd : hexN c = some (lowN c - 87) := by unfold hexN; rw [if_neg h09, if_pos ⟨hz.1, hf⟩]
            have hd16 := hexN_lt hd
            have hvn := HF.out.1 _ hd
            have HV := Hid.mk hvn
            have ho := or32 hc8
            clear hvn hd HF hl1 hlw
            generalize lowN c - 87 = d at *
            generalize lowN c - 97 = d0 at *
            generalize lowN c = L at *
            have q5 : IntKind.u64.wrap (((16 * N : Nat) : Int) + (d : Int)) = ((16 * N + d : Nat) : Int) := by rw [IntKind.wrap_u64]; omega
            have q6 : ¬ (((16 * N + d : Nat) : Int) < ((16 * N : Nat) : Int)) := by omega
            have q7 : ¬ ((255 : Int) < ((16 * N + d : Nat) : Int)) := by omega
            have q4 : ¬ ((16 : Int) ≤ (d : Int)) := by omega
            generalize 16 * N + d = M2 at *
            generalize 16 * N = M at *
            clear hz hf q0
            rcases (show (c : Int) < 48 ∨ 57 < (c : Int) by omega) with q1 | q1
            · clear h09
              go_wp2
              exact ⟨⟨k + 1, M2, by omega, trivial, rfl, rfl, by simp, HV.out⟩, by simp [intOf]; omega⟩
            · clear h09
              go_wp2
              exact ⟨⟨k + 1, M2, by omega, trivial, rfl, rfl, by simp, HV.out⟩, by simp [intOf]; omega⟩
          · have hbad := HF.out.2 (by unfold hexN; rw [if_neg h09, if_neg (by omega)])
            have q4 : (16 : Int) ≤ ((lowN c - 87 : Nat) : Int) := by omega
            have HBAD := Hid.mk hbad
            have ho := or32 hc8
            clear hbad HF hz hf q0 hl1 hlw
            generalize lowN c - 87 = d at *
            generalize lowN c - 97 = d0 at *
            generalize lowN c = L at *
            rcases (show (c : Int) < 48 ∨ 57 < (c : Int) by omega) with q1 | q1
            · clear h09
              go_wp2
              go_ret2
              exact ⟨by rw [HBAD.out]; rfl, HB.out⟩
            · clear h09
              go_wp2
              go_ret2
              exact ⟨by rw [HBAD.out]; rfl, HB.out⟩
        · have hbad := HF.out.2 (by unfold hexN; rw [if_neg h09, if_neg (by omega)])
          have HBAD := Hid.mk hbad
          have ho := or32 hc8
          clear hbad HF hl1 hlw
          rcases q0 with c95 | rfl
          · generalize lowN c = L at *
            rcases (show (L : Int) < 97 ∨ 122 < (L : Int) by omega) with p1 | p1
            · clear hz
              rcases (show (c : Int) < 48 ∨ 57 < (c : Int) by omega) with q1 | q1
              · clear h09
                go_wp2
                go_ret2
                exact ⟨by rw [HBAD.out]; rfl, HB.out⟩
              · clear h09
                go_wp2
                go_ret2
                exact ⟨by rw [HBAD.out]; rfl, HB.out⟩
            · clear hz
              have p2 : (97 : Int) ≤ (L : Int) := by omega
              rcases (show (c : Int) < 48 ∨ 57 < (c : Int) by omega) with q1 | q1
              · clear h09
                go_wp2
                go_ret2
                exact ⟨by rw [HBAD.out]; rfl, HB.out⟩
              · clear h09
                go_wp2
                go_ret2
                exact ⟨by rw [HBAD.out]; rfl, HB.out⟩
          · rw [show lowN 95 = 127 from by decide] at ho
            clear hz h09
            go_wp2
            go_ret2
            exact ⟨by rw [HBAD.out]; rfl, HB.out⟩
    · have hk2 : k = 2 := by omega
      subst hk2
      obtain ⟨x, y, hx, hy, hN⟩ := hv
      have hp : parse2 A BB = .tuple #[.int .u64 (N : Int), .nilIface] := by
        unfold parse2
        rw [hx, hy, hN]
      have HP := Hid.mk hp
      clear hp hx hy hN
      go_wp2
      go_ret2
      exact ⟨by rw [HP.out]; rfl, HB.out⟩
end Go.Proofs.YtalokopnagpgcaaDoor
