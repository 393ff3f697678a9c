import Derived.Test.YtkdjjnkhbmmfeaaFDG
namespace Go.Proofs.Ytkdjjnkhbmmfeaa
open Go.RowKit Go.Maps

theorem matches_ok {p t : ByteArray} {want : Bool} (h : mres p t want = true) (w : World) : Calls Try.prog 6 #[.string p, .string t, .bool want] w fun e w' => e = .returned (.bool true) ∧ Below w.heap.size w w' := by
  have := matches_any p t want w
  rw [h] at this
  exact this
theorem ub_inj : ∀ {a b : List UInt8}, ub a = ub b → a = b
  | [], [], _ => rfl
  | [], _ :: _, h => by cases h
  | _ :: _, [], h => by cases h
  | x :: a, y :: b, h => by
    simp only [ub, List.map_cons, List.cons.injEq] at h
    have h1 : x = y := UInt8.toNat_inj.1 (by omega)
    rw [h1, ub_inj (a := a) (b := b) h.2]
theorem same_bytes (a b : ByteArray) : decide (ub b.data.toList = ub a.data.toList) = (a.toList == b.toList) := by
  rw [ByteArray.toList_eq, ByteArray.toList_eq, Bool.eq_iff_iff, decide_eq_true_iff, beq_iff_eq]
  exact ⟨fun h => (ub_inj h).symm, fun h => by rw [h]⟩
theorem dr_below {B : Nat} {a w : World} (h : Below B a w) : Below B a w.drew := ⟨h.os, h.tape, h.output, h.size, h.block⟩
theorem bl_app (x y : ByteArray) : ub (x ++ y).data.toList = ub x.data.toList ++ ub y.data.toList := by
  simp [ub, ByteArray.data_append]
theorem ba_size (x y : ByteArray) : (x ++ y).size = x.size + y.size := ByteArray.size_append
def escA (a : ByteArray) : ByteArray := ⟨(escL a.data.toList).toArray⟩
theorem escA_ub (a : ByteArray) : ub (escA a).data.toList = escI (ub a.data.toList) := by rw [escA, List.toList_toArray, ub_esc]
theorem escA_size (a : ByteArray) : (escA a).size = 2 * a.size := by
  show (escL a.data.toList).toArray.size = _
  have := escL_len a.data.toList
  have := len_size a
  simp only [List.size_toArray]
  omega
theorem star_ok (a b m : ByteArray) : mres (escA a ++ ⟨#[42]⟩ ++ escA b) (a ++ m ++ b) (decide (∀ x ∈ ub m.data.toList, x ≠ 47)) = true := by
  refine mres_ok (ps := (ub a.data.toList).map onlyP ++ pcStar :: (ub b.data.toList).map onlyP) ?_ ?_
  · rw [bl_app, bl_app, escA_ub, escA_ub, ← pat_star, List.append_assoc]
    rfl
  · rw [bl_app, bl_app, List.append_assoc, fits_star]
theorem all_ok (a b m : ByteArray) : mres (escA a ++ ⟨#[42, 42]⟩ ++ escA b) (a ++ m ++ b) true = true := by
  refine mres_ok (ps := (ub a.data.toList).map onlyP ++ pcAll :: (ub b.data.toList).map onlyP) ?_ ?_
  · rw [bl_app, bl_app, escA_ub, escA_ub, ← pat_all, List.append_assoc]
    rfl
  · rw [bl_app, bl_app, List.append_assoc, fits_all]
theorem str1_ub {c : Int} (hc : 0 ≤ c ∧ c < 256) : ub (strOfNums [c]).data.toList = [c] := by
  have : ((UInt8.ofNat c.toNat).toNat : Int) = c := by
    rw [UInt8.toNat_ofNat']
    omega
  show [((UInt8.ofNat c.toNat).toNat : Int)] = [c]
  rw [this]
theorem one_ok (a b : ByteArray) {c : Int} (hc : 0 ≤ c ∧ c < 256) : mres (escA a ++ ⟨#[63]⟩ ++ escA b) (a ++ strOfNums [c] ++ b) (decide (c ≠ 47)) = true := by
  refine mres_ok (ps := (ub a.data.toList).map onlyP ++ pcOne :: (ub b.data.toList).map onlyP) ?_ ?_
  · rw [bl_app, bl_app, escA_ub, escA_ub, ← pat_one, List.append_assoc]
    rfl
  · rw [bl_app, bl_app, List.append_assoc, str1_ub hc, fits_sing _ _ _ _ rfl]
    exact bool_of (one_takes c)
theorem set_ub {x y : Int} (hx : 0 ≤ x ∧ x < 256) (hy : 0 ≤ y ∧ y < 256) (u v s : ByteArray) : ub (u ++ escA (strOfNums [x]) ++ v ++ escA (strOfNums [y]) ++ s).data.toList = ub u.data.toList ++ ([92, x] ++ (ub v.data.toList ++ ([92, y] ++ ub s.data.toList))) := by
  rw [bl_app, bl_app, bl_app, bl_app, escA_ub, escA_ub, str1_ub hx, str1_ub hy]
  simp [escI]
theorem one_size (x : Int) : (strOfNums [x]).size = 1 := by simp [strOfNums, ByteArray.size]
theorem set_size (x y : Int) (u v s : ByteArray) : (u ++ escA (strOfNums [x]) ++ v ++ escA (strOfNums [y]) ++ s).size = u.size + 2 + v.size + 2 + s.size := by
  rw [ba_size, ba_size, ba_size, ba_size, escA_size, escA_size, one_size, one_size]
theorem bad_ok {x y c : Int} (hx : 0 ≤ x ∧ x < 256) (hy : 0 ≤ y ∧ y < 256) (h : y < x) : matchP (⟨#[91]⟩ ++ escA (strOfNums [x]) ++ ⟨#[45]⟩ ++ escA (strOfNums [y]) ++ ⟨#[93]⟩) (strOfNums [c]) = (false, 190) := by
  unfold matchP
  rw [if_neg (by rw [set_size]; decide), set_ub hx hy]
  have hp : patP (ub (⟨#[91]⟩ : ByteArray).data.toList ++ ([92, x] ++ (ub (⟨#[45]⟩ : ByteArray).data.toList ++ ([92, y] ++ ub (⟨#[93]⟩ : ByteArray).data.toList)))) = none := pat_none (piece_bad x y [] h)
  rw [hp]
theorem in_ok {x y c : Int} (hx : 0 ≤ x ∧ x < 256) (hy : 0 ≤ y ∧ y < 256) (hc : 0 ≤ c ∧ c < 256) (h : x ≤ y) : mres (⟨#[91]⟩ ++ escA (strOfNums [x]) ++ ⟨#[45]⟩ ++ escA (strOfNums [y]) ++ ⟨#[93]⟩) (strOfNums [c]) (decide (c ≠ 47 ∧ x ≤ c ∧ c ≤ y)) = true := by
  refine mres_ok (ps := [⟨[(x, y)], false, false, false⟩]) ?_ ?_
  · rw [set_ub hx hy]
    exact (pat_cons (piece_in x y [] h)).trans (by rw [pat_nil]; rfl)
  · rw [str1_ub hc]
    exact (fits_sing [] [] c ⟨[(x, y)], false, false, false⟩ rfl).trans (bool_of (in_takes x y c))
theorem out_ok {x y c : Int} (hx : 0 ≤ x ∧ x < 256) (hy : 0 ≤ y ∧ y < 256) (hc : 0 ≤ c ∧ c < 256) (h : x ≤ y) : mres (⟨#[91, 33]⟩ ++ escA (strOfNums [x]) ++ ⟨#[45]⟩ ++ escA (strOfNums [y]) ++ ⟨#[93]⟩) (strOfNums [c]) (decide (c ≠ 47 ∧ (c < x ∨ y < c))) = true := by
  refine mres_ok (ps := [⟨[(x, y)], true, false, false⟩]) ?_ ?_
  · rw [set_ub hx hy]
    exact (pat_cons (piece_out x y [] h)).trans (by rw [pat_nil]; rfl)
  · rw [str1_ub hc]
    exact (fits_sing [] [] c ⟨[(x, y)], true, false, false⟩ rfl).trans (bool_of (out_takes x y c))
theorem two_ok (a b : ByteArray) {x y c : Int} (hx : 0 ≤ x ∧ x < 256) (hy : 0 ≤ y ∧ y < 256) (hc : 0 ≤ c ∧ c < 256) : mres (escA a ++ ⟨#[91]⟩ ++ escA (strOfNums [x]) ++ escA (strOfNums [y]) ++ ⟨#[93]⟩ ++ escA b) (a ++ strOfNums [c] ++ b) (decide (c ≠ 47 ∧ (c = x ∨ c = y))) = true := by
  refine mres_ok (ps := (ub a.data.toList).map onlyP ++ ⟨[(x, x), (y, y)], false, false, false⟩ :: (ub b.data.toList).map onlyP) ?_ ?_
  · rw [bl_app, bl_app, bl_app, bl_app, bl_app, escA_ub, escA_ub, escA_ub, escA_ub, str1_ub hx, str1_ub hy]
    have e : escI (ub a.data.toList) ++ ub (⟨#[91]⟩ : ByteArray).data.toList ++ escI [x] ++ escI [y] ++ ub (⟨#[93]⟩ : ByteArray).data.toList ++ escI (ub b.data.toList) = escI (ub a.data.toList) ++ (91 :: 92 :: x :: 92 :: y :: 93 :: escI (ub b.data.toList)) := by
      have e1 : ub (⟨#[91]⟩ : ByteArray).data.toList = [91] := rfl
      have e2 : ub (⟨#[93]⟩ : ByteArray).data.toList = [93] := rfl
      rw [e1, e2]
      simp [escI]
    rw [e, pat_esc, pat_cons (piece_two x y _), pat_esc0]
    rfl
  · rw [bl_app, bl_app, List.append_assoc, str1_ub hc, fits_sing _ _ _ _ rfl]
    exact bool_of (two_takes x y c)
theorem star1_ok (m : ByteArray) : mres ⟨#[42]⟩ m (decide (∀ x ∈ ub m.data.toList, x ≠ 47)) = true := by
  refine mres_ok (ps := [pcStar]) (by show patP [42] = _; simp [patP, piecesP, pieceP, starsL, pcStar]) ?_
  have := fits_star [] [] (ub m.data.toList)
  rw [List.append_nil] at this
  exact this
theorem all1_ok (m : ByteArray) : mres ⟨#[42, 42, 42]⟩ m true = true := by
  refine mres_ok (ps := [pcAll]) (by show patP [42, 42, 42] = _; simp [patP, piecesP, pieceP, starsL, pcAll]) ?_
  have := fits_all [] [] (ub m.data.toList)
  rw [List.append_nil] at this
  exact this
end Go.Proofs.Ytkdjjnkhbmmfeaa
