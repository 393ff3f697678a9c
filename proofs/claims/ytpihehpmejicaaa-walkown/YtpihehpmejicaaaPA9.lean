import Derived.Test.YtpihehpmejicaaaPA8
import Derived.Lib.ConvBytes
namespace Go.Proofs.Ytpihehpmejicaaa
open Go.RowKit Go.Maps

/-- A byte of a name, mended. -/
def fx (c : UInt8) : UInt8 := if c = 47 ∨ c = 0 then 95 else c
def fxTo (j : Nat) (l : List UInt8) : List UInt8 := (l.take j).map fx ++ l.drop j
/-- A right name, made of any text. -/
def tameL (l : List UInt8) : List UInt8 :=
  if (l.take 54).map fx = [] ∨ (l.take 54).map fx = [46] ∨ (l.take 54).map fx = [46, 46] then [120] else (l.take 54).map fx
theorem fxTo_zero (l : List UInt8) : fxTo 0 l = l := by simp [fxTo]
theorem fxTo_full {j : Nat} {l : List UInt8} (h : l.length ≤ j) : fxTo j l = l.map fx := by
  simp [fxTo, List.take_of_length_le h, List.drop_eq_nil_of_le h]
theorem fxTo_len (j : Nat) (l : List UInt8) : (fxTo j l).length = l.length := by simp [fxTo]; omega
theorem fxTo_at {j : Nat} {l : List UInt8} (h : j < l.length) : (fxTo j l).getD j 0 = l.getD j 0 := by
  unfold fxTo
  rw [List.getD_eq_getElem?_getD, List.getElem?_append_right (by simp; omega), List.getElem?_drop]
  simp [List.getD, show min j l.length = j by omega]
theorem fxTo_next {j : Nat} {l : List UInt8} (h : j < l.length) : fxTo (j + 1) l = (l.take j).map fx ++ fx (l.getD j 0) :: l.drop (j + 1) := by
  unfold fxTo
  rw [List.take_succ_eq_append_getElem h, List.map_append, List.append_assoc]
  simp [List.getD, h]
theorem fxTo_drop {j : Nat} {l : List UInt8} (h : j < l.length) : fxTo j l = (l.take j).map fx ++ l.getD j 0 :: l.drop (j + 1) := by
  unfold fxTo
  rw [List.drop_eq_getElem_cons h]
  simp [List.getD, h]
theorem fxTo_stay {j : Nat} {l : List UInt8} (h : j < l.length) (hf : fx (l.getD j 0) = l.getD j 0) : fxTo (j + 1) l = fxTo j l := by
  rw [fxTo_next h, fxTo_drop h, hf]
theorem fxTo_set {j : Nat} {l : List UInt8} (h : j < l.length) (hf : fx (l.getD j 0) = 95) : fxTo (j + 1) l = (fxTo j l).set j 95 := by
  rw [fxTo_next h, fxTo_drop h, hf, List.set_append_right _ _ (by simp; omega)]
  simp [show min j l.length = j by omega]

/-- Bytes that are made of a text: a row of their own. -/
structure BAt (w wr : World) (g m : Nat) (b : List UInt8) : Prop where
  below : Below w.heap.size w wr
  far : w.heap.size ≤ g
  len : b.length = m
  cell : ∀ i, i < m → wr.cell? ⟨g, i, none⟩ = some (.int .u8 ((b.getD i 0).toNat : Nat))
  open_ : ∀ i, i < m → wr.frozen? ⟨g, i, none⟩ = false
theorem BAt.put {w wr : World} {g m : Nat} {b : List UInt8} (h : BAt w wr g m b) (j : Nat) (hj : j < m) : BAt w (wr.setCell ⟨g, j, none⟩ (.int .u8 95)) g m (b.set j 95) := by
  have hg := h.far
  refine ⟨h.below.trans ((Below.refl _ _).setCell (by simpa using hg) _), hg, by rw [List.length_set]; exact h.len, ?_, ?_⟩
  · intro i hi
    by_cases e : i = j
    · subst e
      rw [World.cell?_setCell_same _ _ _ (h.cell i hi)]
      simp [List.getD, h.len, hi]
    · have hne : (⟨g, j, none⟩ : Addr) ≠ ⟨g, i, none⟩ := fun h => e (by injection h with _ h2; exact h2.symm)
      rw [World.cell?_setCell_other _ _ _ _ hne, h.cell i hi]
      simp [List.getD, show ¬ j = i by omega]
  · intro i hi
    rw [World.frozen?_setCell]
    exact h.open_ i hi
theorem BAt.new (w : World) (s : ByteArray) (m : Nat) (hm : m ≤ s.size) : BAt w (Lib.bytesWorld w 5 s) w.heap.size m (s.data.toList.take m) := by
  have hl := len_size s
  refine ⟨⟨rfl, rfl, rfl, by rw [Lib.bytesWorld_size]; omega, fun j hj => Lib.bytesWorld_at_old w 5 s j hj⟩, Nat.le_refl _, by rw [List.length_take]; omega, ?_, ?_⟩
  · intro i hi
    rw [Lib.bytesWorld_cell w 5 s i (by omega)]
    simp [List.getD, hi]
  · intro i hi
    simp [World.frozen?, Lib.bytesWorld_at_new, Lib.bytesCells]
    omega
/-- Bytes as numbers. -/
abbrev ns (b : List UInt8) : List Int := b.map (fun c => ((c.toNat : Nat) : Int))
theorem strOf_ns (b : List UInt8) : strOfNums (ns b) = ⟨b.toArray⟩ := by
  unfold strOfNums
  congr 1
  rw [ns, List.map_map]
  congr 1
  conv => rhs; rw [← List.map_id b]
  apply List.map_congr_left
  intro c _
  simp
end Go.Proofs.Ytpihehpmejicaaa
