import Derived.Test.YtkdjjnkhbmmfeaaSHB
namespace Go.Proofs.Ytkdjjnkhbmmfeaa
open Go.RowKit Go.Maps

/-- A hexadecimal digit, small. -/
def hx (k : Nat) : UInt8 := if k < 10 then UInt8.ofNat (48 + k) else UInt8.ofNat (87 + k)
/-- How a byte is written in a quoted word. -/
def esc (c : UInt8) : List UInt8 :=
  if c = 92 ∨ c = 34 then [92, c] else if c = 10 then [92, 110] else if c = 9 then [92, 116]
  else if c.toNat < 32 ∨ 127 ≤ c.toNat then [92, 120, hx (c.toNat / 16), hx (c.toNat % 16)] else [c]
def escs (l : List UInt8) : List UInt8 := l.flatMap esc
/-- Bytes as one quoted word. -/
def quo (l : List UInt8) : List UInt8 := 34 :: (escs l ++ [34])
theorem esc_len (c : UInt8) : (esc c).length ≤ 4 := by
  unfold esc
  repeat' split
  all_goals simp
theorem escs_len (l : List UInt8) : (escs l).length ≤ 4 * l.length := by
  induction l with
  | nil => simp [escs]
  | cons c t ih =>
    have := esc_len c
    simp only [escs, List.flatMap_cons, List.length_append, List.length_cons] at ih ⊢
    omega
theorem escs_snoc (l : List UInt8) (c : UInt8) : escs (l ++ [c]) = escs l ++ esc c := by simp [escs]

theorem hx_at (k : Nat) (h : k < 16) : (⟨#[48, 49, 50, 51, 52, 53, 54, 55, 56, 57, 97, 98, 99, 100, 101, 102]⟩ : ByteArray).get! k = hx k := by
  match k, h with
  | 0, _ => rfl
  | 1, _ => rfl
  | 2, _ => rfl
  | 3, _ => rfl
  | 4, _ => rfl
  | 5, _ => rfl
  | 6, _ => rfl
  | 7, _ => rfl
  | 8, _ => rfl
  | 9, _ => rfl
  | 10, _ => rfl
  | 11, _ => rfl
  | 12, _ => rfl
  | 13, _ => rfl
  | 14, _ => rfl
  | 15, _ => rfl
  | k + 16, h => exact absurd h (by omega)

theorem and15 {n : Nat} (h : n < 2 ^ 8) : bits .and .u8 (n : Int) 15 = ((n % 16 : Nat) : Int) := by
  show IntKind.u8.wrap ((BitVec.ofInt 8 (n : Int) &&& BitVec.ofInt 8 (15 : Int)).toNat : Int) = _
  have eb : (BitVec.ofInt 8 (15 : Int)).toNat = 2 ^ 4 - 1 := by decide
  have en : (BitVec.ofInt 8 (n : Int)).toNat = n := by
    rw [BitVec.toNat_ofInt]
    omega
  rw [BitVec.toNat_and, eb, en, Nat.and_two_pow_sub_one_eq_mod, IntKind.wrap_u8]
  omega
theorem below_drew {B : Nat} {a w : World} (h : Below B a w) : Below B a w.drew := ⟨h.os, h.tape, h.output, h.size, h.block⟩
theorem hx_cell (k : Nat) (h : k < 16) : ∀ h', (((⟨#[48, 49, 50, 51, 52, 53, 54, 55, 56, 57, 97, 98, 99, 100, 101, 102]⟩ : ByteArray)[k]'h').toNat : Int) = ((hx k).toNat : Int) := fun h' => by
  rw [← hx_at k h, byte_at _ h']
theorem conv_at {W : World} {B : Nat} (xs : List Int) (n : Nat) (hn : xs.length = n) (hb : W.heap[B]? = some (.cells (xs.map (Value.int .u8)).toArray 5 (0, 0))) :
    (convert 25 9 (.slice (some ⟨B, 0, none⟩) n n)).run Try.prog W = .ok (.string (strOfNums xs)) W := by
  refine run_convert_bytes_arg (P := Try.prog) W 25 5 Try.underlying25 Try.underlying5 B 0 n n xs hn (fun j hj => ?_) 9 Try.underlying9
  rw [Nat.zero_add]
  exact cell_of_block hb (j := j) (by simp [List.getElem?_eq_getElem (show j < xs.length by omega)])
theorem conv_new (w : World) (xs : List Int) (n : Nat) (hn : xs.length = n) :
    (convert 25 9 (.slice (some ⟨w.heap.size, 0, none⟩) n n)).run Try.prog (w.alloc (.cells (xs.map (Value.int .u8)).toArray 5)) = .ok (.string (strOfNums xs)) (w.alloc (.cells (xs.map (Value.int .u8)).toArray 5)) :=
  conv_at xs n hn (heap_alloc_new w _)
theorem conv_drew (w : World) (xs : List Int) (n : Nat) (hn : xs.length = n) :
    (convert 25 9 (.slice (some ⟨w.heap.size, 0, none⟩) n n)).run Try.prog (w.alloc (.cells (xs.map (Value.int .u8)).toArray 5)).drew = .ok (.string (strOfNums xs)) (w.alloc (.cells (xs.map (Value.int .u8)).toArray 5)).drew :=
  conv_at xs n hn (heap_alloc_new w _)

theorem ne_lit {c k : UInt8} (h : c ≠ k) : ((c.toNat : Int) == (k.toNat : Int)) = false := by
  rw [beq_eq_false_iff_ne]
  exact fun e => h (UInt8.toNat_inj.1 (by omega))
theorem esc_two {c : UInt8} (h : c = 92 ∨ c = 34) : strOfNums [92, (c.toNat : Int)] = ⟨(esc c).toArray⟩ := by
  rcases h with rfl | rfl <;> rfl
theorem esc_hex {c : UInt8} (h1 : ¬ (c = 92 ∨ c = 34)) (h2 : c ≠ 10) (h3 : c ≠ 9) (h4 : c.toNat < 32 ∨ 127 ≤ c.toNat) :
    strOfNums [92, 120, ((hx (c.toNat / 16)).toNat : Int), ((hx (c.toNat % 16)).toNat : Int)] = ⟨(esc c).toArray⟩ := by
  unfold esc
  rw [if_neg h1, if_neg h2, if_neg h3, if_pos h4]
  simp [strOfNums]
theorem esc_self {c : UInt8} (h1 : ¬ (c = 92 ∨ c = 34)) (h2 : c ≠ 10) (h3 : c ≠ 9) (h4 : ¬ (c.toNat < 32 ∨ 127 ≤ c.toNat)) :
    strOfNums [(c.toNat : Int)] = ⟨(esc c).toArray⟩ := by
  unfold esc
  rw [if_neg h1, if_neg h2, if_neg h3, if_neg h4]
  simp [strOfNums]

end Go.Proofs.Ytkdjjnkhbmmfeaa
