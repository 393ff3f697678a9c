import Derived.Test.YtkkmkogpbhcpmaaWrite
namespace Go.Proofs.Ytkkmkogpbhcpmaa
open Go.RowKit Go.Maps

/-- An image out of its sectors. -/
def imOf (s : Nat) (f : Nat → List Int) : List Int := (List.range s).flatMap f

theorem imOf_succ (s : Nat) (f : Nat → List Int) : imOf (s + 1) f = imOf s f ++ f s := by simp [imOf, List.range_succ]

theorem imOf_len (s : Nat) (f : Nat → List Int) (h : ∀ k, k < s → (f k).length = 512) : (imOf s f).length = s * 512 := by
  induction s with
  | zero => simp [imOf]
  | succ s ih => rw [imOf_succ, List.length_append, ih (fun k hk => h k (by omega)), h s (by omega)]; omega

theorem sec_len {im : List Int} {s k : Nat} (h : im.length = s * 512) (hk : k < s) : (sec im k).length = 512 := by simp [sec]; omega

theorem sec_app_left (a b : List Int) {s k : Nat} (ha : a.length = s * 512) (hk : k < s) : sec (a ++ b) k = sec a k := by
  unfold sec
  rw [List.drop_append_of_le_length (by omega), List.take_append_of_le_length (by simp; omega)]

theorem sec_app_right (a b : List Int) {s : Nat} (ha : a.length = s * 512) (hb : b.length = 512) : sec (a ++ b) s = b := by
  unfold sec
  rw [← ha, List.drop_left, List.take_of_length_le (by omega)]

theorem sec_imOf (s : Nat) (f : Nat → List Int) (h : ∀ k, k < s → (f k).length = 512) (k : Nat) (hk : k < s) : sec (imOf s f) k = f k := by
  induction s with
  | zero => omega
  | succ s ih =>
    have hl := imOf_len s f (fun k hk => h k (by omega))
    rw [imOf_succ]
    by_cases e : k = s
    · subst e
      exact sec_app_right _ _ hl (h k (by omega))
    · rw [sec_app_left _ _ hl (by omega)]
      exact ih (fun k hk => h k (by omega)) (by omega)

/-- Two images with the same sectors are one. -/
theorem im_ext : ∀ (s : Nat) {a b : List Int}, a.length = s * 512 → b.length = s * 512 → (∀ k, k < s → sec a k = sec b k) → a = b
  | 0, a, b, ha, hb, _ => by
    rw [List.eq_nil_of_length_eq_zero (by omega : a.length = 0), List.eq_nil_of_length_eq_zero (by omega : b.length = 0)]
  | s + 1, a, b, ha, hb, h => by
    have h0 := h 0 (by omega)
    simp [sec] at h0
    have ih := im_ext s (a := a.drop 512) (b := b.drop 512) (by simp; omega) (by simp; omega) (fun k hk => by
      have := h (k + 1) (by omega)
      simp only [sec, List.drop_drop] at this ⊢
      rw [show 512 + k * 512 = (k + 1) * 512 by omega]
      exact this)
    rw [← List.take_append_drop 512 a, ← List.take_append_drop 512 b, h0, ih]

theorem splice_len {α : Type} (L : List α) (o : Nat) (cs : List α) (h : o + cs.length ≤ L.length) : (splice L o cs).length = L.length := by simp [splice]; omega

theorem bs_splice (im l : List Int) (o : Nat) : splice (bs im) o (bs l) = bs (splice im o l) := by simp [splice, bs]

theorem getElem_splice (L : List Int) (o : Nat) (cs : List Int) (h : o + cs.length ≤ L.length) (i : Nat) : (splice L o cs)[i]? = if o ≤ i ∧ i < o + cs.length then cs[i - o]? else L[i]? := by
  unfold splice
  by_cases h1 : i < o
  · rw [List.getElem?_append_left (by simp; omega), List.getElem?_take, if_pos h1, if_neg (by omega)]
  · rw [List.getElem?_append_right (by simp; omega)]
    have e : (L.take o).length = o := by simp; omega
    rw [e]
    by_cases h2 : i < o + cs.length
    · rw [List.getElem?_append_left (by omega), if_pos ⟨by omega, h2⟩]
    · rw [List.getElem?_append_right (by omega), List.getElem?_drop, if_neg (by omega)]
      congr 1
      omega

theorem getElem_sec (im : List Int) (k i : Nat) : (sec im k)[i]? = if i < 512 then im[k * 512 + i]? else none := by
  unfold sec
  rw [List.getElem?_take]
  split
  · rw [List.getElem?_drop]
  · rfl

/-- One sector written anew. -/
theorem sec_splice {im l : List Int} {s k j : Nat} (him : im.length = s * 512) (hl : l.length = 512) (hk : k < s) : sec (splice im (k * 512) l) j = if j = k then l else sec im j := by
  apply List.ext_getElem?
  intro i
  rw [getElem_sec]
  by_cases hi : i < 512
  · rw [if_pos hi, getElem_splice _ _ _ (by omega)]
    by_cases e : j = k
    · subst e
      rw [if_pos (by omega), if_pos rfl]
      congr 1
      omega
    · rw [if_neg (by omega), if_neg e, getElem_sec, if_pos hi]
  · rw [if_neg hi]
    split
    · rw [List.getElem?_eq_none (by omega)]
    · rw [getElem_sec, if_neg hi]

theorem take_splice {α : Type} (L : List α) (o n : Nat) (cs : List α) (h : o + cs.length ≤ n) (hn : n ≤ L.length) : (splice L o cs).take n = splice (L.take n) o cs := by
  have e1 : (L.take o).length = o := by rw [List.length_take]; omega
  unfold splice
  rw [List.take_append, List.take_append, e1, List.take_of_length_le (l := L.take o) (by omega), List.take_of_length_le (l := cs) (by omega), List.drop_take, List.take_take, Nat.min_eq_left (by omega : o ≤ n), Nat.sub_sub]

/-- copy of bytes into a row. -/
theorem RowAt.copied {w : World} {g c : Nat} {im : List Int} (h : RowAt w 5 g c (bs im)) (ty : TypeId) (dp : Option Addr) (off dLen dCap : Nat) (a : Option Addr) (sLen sCap : Nat) (l : List Int) (hs : Src w a sLen l)
    (hd : 0 < dLen → dp = some ⟨g, off, none⟩) (hfit : off + dLen ≤ im.length) :
    ∃ w2, (Builtin.copy_ #[27, 27] ty #[.slice dp dLen dCap, .slice a sLen sCap]).run Try.prog w = .ok (goInt (Nat.min sLen dLen)) w2 ∧
      RowAt w2 5 g c (bs (splice im off (l.take dLen))) ∧ Keeps (fun k => k = g) w w2 ∧ w2.heap.size = w.heap.size := by
  have hle := h.le
  obtain ⟨cur, hb, hc, ht, hm⟩ := h
  have hlen : (bs im).length = im.length := by simp [bs]
  rw [hlen] at hle ht
  obtain ⟨w2, hrun, hh, hk, hsz⟩ := copy_run w ty dp g off dLen dCap a sLen sCap cur.toList l (by simpa using hb) hs hd (by simp; omega)
  have hl2 : (bs (l.take dLen)).length ≤ dLen := by simp [bs]; omega
  have hlb : (bs (l.take dLen)).length = (l.take dLen).length := by simp [bs]
  refine ⟨w2, hrun, ⟨_, hh, ?_, ?_, hm⟩, hk, hsz⟩
  · rw [List.size_toArray, splice_len _ _ _ (by simp only [Array.length_toList]; omega)]
    simpa using hc
  · have e : (bs (splice im off (l.take dLen))).length = im.length := by
      rw [← bs_splice, splice_len _ _ _ (by rw [hlen]; omega), hlen]
    rw [e, List.toList_toArray, take_splice _ _ _ _ (by omega) (by simp; omega), ht, bs_splice]

end Go.Proofs.Ytkkmkogpbhcpmaa
