import Derived.Test.YtkdjjnkhbmmfeaaFDF
namespace Go.Proofs.Ytkdjjnkhbmmfeaa
open Go.RowKit Go.Maps

def escI (l : List Int) : List Int := l.flatMap (fun b => [92, b])
theorem ub_esc (l : List UInt8) : ub (escL l) = escI (ub l) := by
  induction l with
  | nil => rfl
  | cons b l ih =>
    simp only [ub, escL, escI, List.flatMap_cons, List.map_append, List.map_cons, List.map_nil] at *
    rw [ih]
    rfl
theorem pieces_fuel : ∀ (f : Nat) (l : List Int), l.length ≤ f → piecesP f l = piecesP l.length l
  | f, [], _ => by cases f <;> rfl
  | 0, _ :: _, h => by simp at h
  | f + 1, b :: l, h => by
    have h' : l.length ≤ f := by simpa using h
    show (match pieceP (b :: l) with | none => none | some (p, m) => (piecesP f m).map (p :: ·)) = (match pieceP (b :: l) with | none => none | some (p, m) => (piecesP l.length m).map (p :: ·))
    cases hp : pieceP (b :: l) with
    | none => rfl
    | some q =>
      obtain ⟨p, m⟩ := q
      have hm := piece_len hp
      simp only [List.length_cons] at hm
      dsimp only
      rw [pieces_fuel f m (by omega), pieces_fuel l.length m (by omega)]
theorem pat_cons {b : Int} {l m : List Int} {p : Pc} (h : pieceP (b :: l) = some (p, m)) : patP (b :: l) = (patP m).map (p :: ·) := by
  have hm := piece_len h
  simp only [List.length_cons] at hm
  unfold patP
  show (match pieceP (b :: l) with | none => none | some (p, m) => (piecesP l.length m).map (p :: ·)) = _
  rw [h]
  dsimp only
  rw [pieces_fuel l.length m (by omega)]
theorem pat_none {b : Int} {l : List Int} (h : pieceP (b :: l) = none) : patP (b :: l) = none := by
  unfold patP
  show (match pieceP (b :: l) with | none => none | some (p, m) => (piecesP l.length m).map (p :: ·)) = _
  rw [h]
theorem pat_nil : patP [] = some [] := rfl
theorem pat_esc : ∀ (a r : List Int), patP (escI a ++ r) = (patP r).map (a.map onlyP ++ ·)
  | [], r => by
    show patP r = _
    cases patP r <;> rfl
  | c :: a, r => by
    have h : pieceP (92 :: c :: (escI a ++ r)) = some (onlyP c, escI a ++ r) := by simp [pieceP]
    show patP (92 :: c :: (escI a ++ r)) = _
    rw [pat_cons h, pat_esc a r]
    cases patP r <;> rfl
theorem pat_esc0 (a : List Int) : patP (escI a) = some (a.map onlyP) := by
  have := pat_esc a []
  rw [List.append_nil] at this
  rw [this]
  simp [pat_nil]
theorem stars_esc (b : List Int) : starsL (escI b) = (false, escI b) := by
  cases b with
  | nil => rfl
  | cons c b => simp [escI, starsL]
def pcStar : Pc := ⟨[], true, false, true⟩
def pcAll : Pc := ⟨[], true, true, true⟩
def pcOne : Pc := ⟨[], true, false, false⟩
theorem pat_star (a b : List Int) : patP (escI a ++ 42 :: escI b) = some (a.map onlyP ++ pcStar :: b.map onlyP) := by
  rw [pat_esc, pat_cons (p := pcStar) (m := escI b) (by simp [pieceP, stars_esc, pcStar]), pat_esc0]
  rfl
theorem pat_all (a b : List Int) : patP (escI a ++ 42 :: 42 :: escI b) = some (a.map onlyP ++ pcAll :: b.map onlyP) := by
  rw [pat_esc, pat_cons (p := pcAll) (m := escI b) (by simp [pieceP, starsL, stars_esc, pcAll]), pat_esc0]
  rfl
theorem pat_one (a b : List Int) : patP (escI a ++ 63 :: escI b) = some (a.map onlyP ++ pcOne :: b.map onlyP) := by
  rw [pat_esc, pat_cons (p := pcOne) (m := escI b) (by simp [pieceP, pcOne]), pat_esc0]
  rfl
theorem mem_pair (x y : Int) (l : List Int) (h : x ≤ y) : memP (92 :: x :: 45 :: 92 :: y :: l) = some ((x, y), l) := by
  simp [memP, unitP, tookP]
  omega
theorem mem_bad (x y : Int) (l : List Int) (h : y < x) : memP (92 :: x :: 45 :: 92 :: y :: l) = none := by
  simp [memP, unitP, tookP, h]
theorem mem_one (x : Int) (l : List Int) (h : (tookP l 45).1 = false) : memP (92 :: x :: l) = some ((x, x), l) := by
  simp [memP, unitP, h, took_false h]
theorem piece_in (x y : Int) (l : List Int) (h : x ≤ y) : pieceP (91 :: 92 :: x :: 45 :: 92 :: y :: 93 :: l) = some (⟨[(x, y)], false, false, false⟩, l) := by
  have hm := mem_pair x y (93 :: l) h
  simp [pieceP, setP, tookP, memsP, hm]
theorem piece_out (x y : Int) (l : List Int) (h : x ≤ y) : pieceP (91 :: 33 :: 92 :: x :: 45 :: 92 :: y :: 93 :: l) = some (⟨[(x, y)], true, false, false⟩, l) := by
  have hm := mem_pair x y (93 :: l) h
  simp [pieceP, setP, tookP, memsP, hm]
theorem piece_bad (x y : Int) (l : List Int) (h : y < x) : pieceP (91 :: 92 :: x :: 45 :: 92 :: y :: 93 :: l) = none := by
  have hm := mem_bad x y (93 :: l) h
  simp [pieceP, setP, tookP, memsP, hm]
theorem piece_two (x y : Int) (l : List Int) : pieceP (91 :: 92 :: x :: 92 :: y :: 93 :: l) = some (⟨[(x, x), (y, y)], false, false, false⟩, l) := by
  have h1 := mem_one x (92 :: y :: 93 :: l) (by simp [tookP])
  have h2 := mem_one y (93 :: l) (by simp [tookP])
  simp [pieceP, setP, tookP, memsP, h1, h2]
/-- Where a pattern is one, and the text is of it just if it is wanted. -/
theorem mres_ok {p t : ByteArray} {ps : List Pc} {want : Bool} (hp : patP (ub p.data.toList) = some ps) (hf : fitsP ps (ub t.data.toList) = want) : mres p t want = true := by
  unfold mres matchP
  by_cases h1 : 255 < p.size
  · simp [h1]
  · by_cases h2 : 1023 < t.size
    · simp [h1, h2, hp]
    · simp [h1, h2, hp, hf]
theorem bool_of {a : Bool} {P : Prop} [Decidable P] (h : a = true ↔ P) : a = decide P := by
  rw [Bool.eq_iff_iff, h, decide_eq_true_iff]
theorem star_takes (x : Int) : takesP pcStar x = true ↔ x ≠ 47 := by simp [takesP, pcStar]
theorem all_takes (x : Int) : takesP pcAll x = true := by simp [takesP, pcAll]
theorem one_takes (x : Int) : takesP pcOne x = true ↔ x ≠ 47 := by simp [takesP, pcOne]
theorem in_takes (x y c : Int) : takesP ⟨[(x, y)], false, false, false⟩ c = true ↔ c ≠ 47 ∧ x ≤ c ∧ c ≤ y := by
  simp [takesP, memHas]
theorem out_takes (x y c : Int) : takesP ⟨[(x, y)], true, false, false⟩ c = true ↔ c ≠ 47 ∧ (c < x ∨ y < c) := by
  simp [takesP, memHas]
  try omega
theorem two_takes (x y c : Int) : takesP ⟨[(x, x), (y, y)], false, false, false⟩ c = true ↔ c ≠ 47 ∧ (c = x ∨ c = y) := by
  simp [takesP, memHas]
  try omega
theorem fits_star (a b m : List Int) : fitsP (a.map onlyP ++ pcStar :: b.map onlyP) (a ++ (m ++ b)) = decide (∀ x ∈ m, x ≠ 47) := bool_of (by
  rw [fits_mid, if_pos (show pcStar.many = true from rfl)]
  exact ⟨fun h x hx => (star_takes x).1 (h x hx), fun h x hx => (star_takes x).2 (h x hx)⟩)
theorem fits_all (a b m : List Int) : fitsP (a.map onlyP ++ pcAll :: b.map onlyP) (a ++ (m ++ b)) = true := by
  rw [fits_mid, if_pos (show pcAll.many = true from rfl)]
  exact fun x _ => all_takes x
theorem fits_sing (a b : List Int) (c : Int) (p : Pc) (hp : p.many = false) : fitsP (a.map onlyP ++ p :: b.map onlyP) (a ++ ([c] ++ b)) = takesP p c := by
  rw [Bool.eq_iff_iff, fits_mid, if_neg (by simp [hp])]
  constructor
  · rintro ⟨x, e, h⟩
    cases e
    exact h
  · intro h; exact ⟨c, rfl, h⟩
end Go.Proofs.Ytkdjjnkhbmmfeaa
