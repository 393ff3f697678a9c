import Derived.Test.YtalokopnagpgcaaDoorSHB
namespace Go.Proofs.YtalokopnagpgcaaDoor
open Go.RowKit Go.Maps

/-- A hexadecimal digit, small. -/
def hx (k : Nat) : UInt8 := if k < 10 then UInt8.ofNat (48 + k) else UInt8.ofNat (87 + k)
/-- How a byte is written in a quoted word. -/
def esc (c : UInt8) : List UInt8 :=
  if c = 92 ∨ c = 34 then [92, c] else if c = 10 then [92, 110] else if c = 9 then [92, 116]
  else if c.toNat < 32 ∨ 127 ≤ c.toNat then [92, 120, hx (c.toNat / 16), hx (c.toNat % 16)] else [c]
def escs (l : List UInt8) : List UInt8 := l.flatMap esc
/-- Bytes as one quoted word. -/
def quo (l : List UInt8) : List UInt8 := 34 :: (escs l ++ [34])
theorem esc_len (c : UInt8) : (esc c).length ≤ 4 := by
  unfold esc
  repeat' split
  all_goals simp
theorem escs_len (l : List UInt8) : (escs l).length ≤ 4 * l.length := by
  induction l with
  | nil => simp [escs]
  | cons c t ih =>
    have := esc_len c
    simp only [escs, List.flatMap_cons, List.length_append, List.length_cons] at ih ⊢
    omega
theorem escs_snoc (l : List UInt8) (c : UInt8) : escs (l ++ [c]) = escs l ++ esc c := by simp [escs]

theorem hx_at (k : Nat) (h : k < 16) : (⟨#[48, 49, 50, 51, 52, 53, 54, 55, 56, 57, 97, 98, 99, 100, 101, 102]⟩ : ByteArray).get! k = hx k := by
  match k, h with
  | 0, _ => rfl
  | 1, _ => rfl
  | 2, _ => rfl
  | 3, _ => rfl
  | 4, _ => rfl
  | 5, _ => rfl
  | 6, _ => rfl
  | 7, _ => rfl
  | 8, _ => rfl
  | 9, _ => rfl
  | 10, _ => rfl
  | 11, _ => rfl
  | 12, _ => rfl
  | 13, _ => rfl
  | 14, _ => rfl
  | 15, _ => rfl
  | k + 16, h => exact absurd h (by omega)

theorem and15 {n : Nat} (h : n < 2 ^ 8) : bits .and .u8 (n : Int) 15 = ((n % 16 : Nat) : Int) := by
  show IntKind.u8.wrap ((BitVec.ofInt 8 (n : Int) &&& BitVec.ofInt 8 (15 : Int)).toNat : Int) = _
  have eb : (BitVec.ofInt 8 (15 : Int)).toNat = 2 ^ 4 - 1 := by decide
  have en : (BitVec.ofInt 8 (n : Int)).toNat = n := by
    rw [BitVec.toNat_ofInt]
    omega
  rw [BitVec.toNat_and, eb, en, Nat.and_two_pow_sub_one_eq_mod, IntKind.wrap_u8]
  omega
theorem below_drew {B : Nat} {a w : World} (h : Below B a w) : Below B a w.drew := ⟨h.os, h.tape, h.output, h.size, h.block⟩
theorem hx_cell (k : Nat) (h : k < 16) : ∀ h', (((⟨#[48, 49, 50, 51, 52, 53, 54, 55, 56, 57, 97, 98, 99, 100, 101, 102]⟩ : ByteArray)[k]'h').toNat : Int) = ((hx k).toNat : Int) := fun h' => by
  rw [← hx_at k h, byte_at _ h']
theorem conv_at {W : World} {B : Nat} (xs : List Int) (n : Nat) (hn : xs.length = n) (hb : W.heap[B]? = some (.cells (xs.map (Value.int .u8)).toArray 5 (0, 0))) :
    (convert 23 9 (.slice (some ⟨B, 0, none⟩) n n)).run Tryd.prog W = .ok (.string (strOfNums xs)) W := by
  refine run_convert_bytes_arg (P := Tryd.prog) W 23 5 Tryd.underlying23 Tryd.underlying5 B 0 n n xs hn (fun j hj => ?_) 9 Tryd.underlying9
  rw [Nat.zero_add]
  exact cell_of_block hb (j := j) (by simp [List.getElem?_eq_getElem (show j < xs.length by omega)])
theorem conv_new (w : World) (xs : List Int) (n : Nat) (hn : xs.length = n) :
    (convert 23 9 (.slice (some ⟨w.heap.size, 0, none⟩) n n)).run Tryd.prog (w.alloc (.cells (xs.map (Value.int .u8)).toArray 5)) = .ok (.string (strOfNums xs)) (w.alloc (.cells (xs.map (Value.int .u8)).toArray 5)) :=
  conv_at xs n hn (heap_alloc_new w _)
theorem conv_drew (w : World) (xs : List Int) (n : Nat) (hn : xs.length = n) :
    (convert 23 9 (.slice (some ⟨w.heap.size, 0, none⟩) n n)).run Tryd.prog (w.alloc (.cells (xs.map (Value.int .u8)).toArray 5)).drew = .ok (.string (strOfNums xs)) (w.alloc (.cells (xs.map (Value.int .u8)).toArray 5)).drew :=
  conv_at xs n hn (heap_alloc_new w _)

theorem ne_lit {c k : UInt8} (h : c ≠ k) : ((c.toNat : Int) == (k.toNat : Int)) = false := by
  rw [beq_eq_false_iff_ne]
  exact fun e => h (UInt8.toNat_inj.1 (by omega))
theorem esc_two {c : UInt8} (h : c = 92 ∨ c = 34) : strOfNums [92, (c.toNat : Int)] = ⟨(esc c).toArray⟩ := by
  rcases h with rfl | rfl <;> rfl
theorem esc_hex {c : UInt8} (h1 : ¬ (c = 92 ∨ c = 34)) (h2 : c ≠ 10) (h3 : c ≠ 9) (h4 : c.toNat < 32 ∨ 127 ≤ c.toNat) :
    strOfNums [92, 120, ((hx (c.toNat / 16)).toNat : Int), ((hx (c.toNat % 16)).toNat : Int)] = ⟨(esc c).toArray⟩ := by
  unfold esc
  rw [if_neg h1, if_neg h2, if_neg h3, if_pos h4]
  simp [strOfNums]
theorem esc_self {c : UInt8} (h1 : ¬ (c = 92 ∨ c = 34)) (h2 : c ≠ 10) (h3 : c ≠ 9) (h4 : ¬ (c.toNat < 32 ∨ 127 ≤ c.toNat)) :
    strOfNums [(c.toNat : Int)] = ⟨(esc c).toArray⟩ := by
  unfold esc
  rw [if_neg h1, if_neg h2, if_neg h3, if_neg h4]
  simp [strOfNums]

set_option maxRecDepth 100000 in
set_option maxHeartbeats 4000000 in
theorem escaped_any (c : UInt8) (w : World) :
    Calls Tryd.prog 13 #[.int .u8 c.toNat] w fun e w' => e = .returned (.string ⟨(esc c).toArray⟩) ∧ Below w.heap.size w w' := by
  have hlt := c.toNat_lt
  rcases (show c = 92 ∨ c = 34 ∨ c = 10 ∨ c = 9 ∨ (c ≠ 92 ∧ c ≠ 34 ∧ c ≠ 10 ∧ c ≠ 9) by by_cases h1 : c = 92 <;> by_cases h2 : c = 34 <;> by_cases h3 : c = 10 <;> by_cases h4 : c = 9 <;> simp [*]) with rfl | rfl | rfl | rfl | ⟨h1, h2, h3, h4⟩
  · have hcv := conv_new w [92, 92] 2 rfl
    simp only [List.map_cons, List.map_nil] at hcv
    have HB := Hid.mk (below_box w (.cells #[.int .u8 92, .int .u8 92] 5))
    show Calls Tryd.prog 13 #[.int .u8 92] w _
    have he : (⟨(esc 92).toArray⟩ : ByteArray) = strOfNums [92, 92] := rfl
    rw [he]
    clear he hlt
    generalize strOfNums [92, 92] = E at *
    go_enter Tryd.func13, Tryd.ntmps13
    go_wp2
    go_ret
    exact ⟨rfl, HB.out⟩
  · have hcv := conv_new w [92, 34] 2 rfl
    simp only [List.map_cons, List.map_nil] at hcv
    have HB := Hid.mk (below_box w (.cells #[.int .u8 92, .int .u8 34] 5))
    show Calls Tryd.prog 13 #[.int .u8 34] w _
    have he : (⟨(esc 34).toArray⟩ : ByteArray) = strOfNums [92, 34] := rfl
    rw [he]
    clear he hlt
    generalize strOfNums [92, 34] = E at *
    go_enter Tryd.func13, Tryd.ntmps13
    go_wp2
    go_ret
    exact ⟨rfl, HB.out⟩
  · show Calls Tryd.prog 13 #[.int .u8 10] w _
    go_enter Tryd.func13, Tryd.ntmps13
    go_wp2
    go_ret
    exact ⟨rfl, Below.refl _ _⟩
  · show Calls Tryd.prog 13 #[.int .u8 9] w _
    go_enter Tryd.func13, Tryd.ntmps13
    go_wp2
    go_ret
    exact ⟨rfl, Below.refl _ _⟩
  · have hne : ¬ (c = 92 ∨ c = 34) := fun h => h.elim h1 h2
    have c1 : ((c.toNat : Int) == 92) = false := ne_lit (k := 92) h1
    have c2 : ((c.toNat : Int) == 34) = false := ne_lit (k := 34) h2
    have c3 : ((c.toNat : Int) == 10) = false := ne_lit (k := 10) h3
    have c4 : ((c.toNat : Int) == 9) = false := ne_lit (k := 9) h4
    by_cases h5 : c.toNat < 32 ∨ 127 ≤ c.toNat
    · have hcv := conv_drew w [92, 120, ((hx (c.toNat / 16)).toNat : Int), ((hx (c.toNat % 16)).toNat : Int)] 4 rfl
      rw [esc_hex hne h3 h4 h5] at hcv
      simp only [List.map_cons, List.map_nil] at hcv
      have HB := Hid.mk (below_box w (.cells #[.int .u8 92, .int .u8 120, .int .u8 ((hx (c.toNat / 16)).toNat : Int), .int .u8 ((hx (c.toNat % 16)).toNat : Int)] 5))
      have c5 : ((c.toNat : Int) < 32) ∨ ((127 : Int) ≤ (c.toNat : Int)) := by omega
      have i1 : (c.toNat : Int) / 16 = ((c.toNat / 16 : Nat) : Int) := by omega
      have i2 : bits .and .u8 (c.toNat : Int) 15 = ((c.toNat % 16 : Nat) : Int) := and15 hlt
      have i3 : c.toNat / 16 < 16 := by omega
      have i4 : c.toNat % 16 < 16 := by omega
      have j1 := hx_cell _ i3
      have j2 := hx_cell _ i4
      clear h1 h2 h3 h4 h5 hne hlt
      generalize esc c = E at *
      generalize (hx (c.toNat / 16)).toNat = H1 at *
      generalize (hx (c.toNat % 16)).toNat = H2 at *
      generalize c.toNat / 16 = Y at *
      generalize c.toNat % 16 = Z at *
      generalize (c.toNat : Int) = x at *
      go_enter Tryd.func13, Tryd.ntmps13
      rcases c5 with c5 | c5
      · go_wp2
        go_region
        go_wp2
        go_ret
        exact ⟨rfl, below_drew HB.out⟩
      · have c6 : ¬ x < 32 := by omega
        go_wp2
        go_region
        go_wp2
        go_ret
        exact ⟨rfl, below_drew HB.out⟩
    · have hcv := conv_new w [(c.toNat : Int)] 1 rfl
      rw [esc_self hne h3 h4 h5] at hcv
      simp only [List.map_cons, List.map_nil] at hcv
      have HB := Hid.mk (below_box w (.cells #[.int .u8 (c.toNat : Int)] 5))
      have c5 : ¬ ((c.toNat : Int) < 32) := by omega
      have c6 : ¬ ((127 : Int) ≤ (c.toNat : Int)) := by omega
      clear h1 h2 h3 h4 h5 hne hlt
      generalize (esc c) = E at *
      generalize (c.toNat : Int) = x at *
      go_enter Tryd.func13, Tryd.ntmps13
      go_wp2
      go_ret
      exact ⟨rfl, HB.out⟩
end Go.Proofs.YtalokopnagpgcaaDoor
