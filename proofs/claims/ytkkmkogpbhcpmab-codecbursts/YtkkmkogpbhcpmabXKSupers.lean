import Derived.Test.YtkkmkogpbhcpmabXKEntQ
import Derived.Laws.StructEq
namespace Go.Proofs.Ytkkmkogpbhcpmab
open Go.RowKit

/-- A right geometry, reckoned. -/
def geoB (s l n : Int) : Bool := decide (18 ≤ l ∧ l ≤ 256) && (decide (4 ≤ n ∧ n ≤ 1024) && (decide (n % 4 = 0) && decide (l + n / 4 + 6 ≤ s ∧ s ≤ 2048)))
theorem geoB_iff (s l n : Int) : geoB s l n = true ↔ Geo s l n := by simp only [geoB, Geo, Bool.and_eq_true, decide_eq_true_iff]
/-- The same of a sector. -/
def refB (l : List Int) : Bool := geoB (u32 l 8) (u32 l 12) (u32 l 16) && decide (sealed (supBody (u32 l 8) (u32 l 12) (u32 l 16)) = l)
theorem refB_iff (l : List Int) : refB l = true ↔ SuperRef l := by simp only [refB, SuperRef, Bool.and_eq_true, decide_eq_true_iff, geoB_iff]
/-- What a decoder of superblocks answers: three numbers and an error. -/
def supDec (l : List Int) : Int × Int × Int × Int :=
  if l.length ≠ 512 then (0, 0, 0, 2) else if refB l then (u32 l 8, u32 l 12, u32 l 16, 0) else (0, 0, 0, 6)

abbrev agg3 (x y z : Int) : Value := .agg #[.int .i64 x, .int .i64 y, .int .i64 z]

theorem decsuper_any (a : Option Addr) (n c : Nat) (l : List Int) (w : World) (hs : Src w a n l) (hb : Bytes l) (hn : n ≤ 140737488355328) (hc : n ≤ c) (hcc : n = 512 → c ≤ 9223372036854775807) :
    Calls Try.prog 21 #[.slice a n c] w fun e w' => e = .returned (.tuple #[agg3 (supDec l).1 (supDec l).2.1 (supDec l).2.2.1, .int .i64 (supDec l).2.2.2]) ∧ Below w.heap.size w w' := by
  have hl := hs.1
  by_cases h : n = 512
  · cases a with
    | none => have := hs.2.1 rfl; omega
    | some x =>
      obtain ⟨b, o, rfl, hcell⟩ := hs.spot (by omega)
      subst h
      have hne : ¬ l.length ≠ 512 := by omega
      by_cases hr : SuperRef l
      · have e : supDec l = (((u32 l 8 : Nat) : Int), ((u32 l 12 : Nat) : Int), ((u32 l 16 : Nat) : Int), 0) := by unfold supDec; rw [if_neg hne, if_pos ((refB_iff l).2 hr)]
        rw [e]
        exact decsuper_ok b o c l w hl hc (hcc rfl) hb hcell ((super_iff hb hl).2 hr)
      · have e : supDec l = (0, 0, 0, 6) := by unfold supDec; rw [if_neg hne, if_neg (fun h => hr ((refB_iff l).1 h))]
        rw [e]
        exact decsuper_no b o c l w hl hc (hcc rfl) hb hcell (fun h => hr ((super_iff hb hl).1 h))
  · have e : supDec l = (0, 0, 0, 2) := by unfold supDec; rw [if_pos (by omega)]
    rw [e]
    exact decsuper_len a n c w h hn
theorem sealed_sup (s l n : Nat) : (sealed (supBody s l n)).length = 512 := (sealed_len _).trans (congrArg (· + 4) (supBody_len s l n))
/-- What an encoder of superblocks answers. -/
def supEnc (s l n : Int) : List Int × Int := if geoB s l n then (sealed (supBody s.toNat l.toNat n.toNat), 0) else ([], 22)

theorem encsuper_any (s l n : Int) (w : World) :
    Calls Try.prog 20 #[agg3 s l n] w fun e w' => ∃ v, e = .returned (.tuple #[v, .int .i64 (supEnc s l n).2]) ∧ Enc w w' v (supEnc s l n).1 := by
  by_cases hg : Geo s l n
  · have e : supEnc s l n = (sealed (supBody s.toNat l.toNat n.toNat), 0) := by unfold supEnc; rw [if_pos ((geoB_iff s l n).2 hg)]
    rw [e]
    have h0 : 0 ≤ s ∧ 0 ≤ l ∧ 0 ≤ n := by obtain ⟨⟨_, _⟩, ⟨_, _⟩, _, _, _⟩ := hg; omega
    obtain ⟨S, rfl⟩ := Int.eq_ofNat_of_zero_le h0.1
    obtain ⟨L, rfl⟩ := Int.eq_ofNat_of_zero_le h0.2.1
    obtain ⟨N, rfl⟩ := Int.eq_ofNat_of_zero_le h0.2.2
    refine (encsuper_ok S L N w hg).mono ?_
    rintro e w' ⟨v, rfl, hm⟩
    exact ⟨v, rfl, hm.enc⟩
  · have e : supEnc s l n = ([], 22) := by unfold supEnc; rw [if_neg (fun h => hg ((geoB_iff s l n).1 h))]
    rw [e]
    refine (encsuper_bad s l n w hg).mono ?_
    rintro e w' ⟨rfl, hb⟩
    exact ⟨_, rfl, none, 0, rfl, ⟨rfl, fun _ => rfl, fun x hx => by cases hx⟩, hb⟩
theorem supEnc_len (s l n : Int) : (supEnc s l n).1.length ≤ 512 := by
  unfold supEnc
  split
  · exact Nat.le_of_eq (sealed_sup _ _ _)
  · exact Nat.zero_le _

/-- A box of three numbers. -/
def Box3 (w : World) (g : Nat) : Prop := ∃ a0 a1 a2 : Value, w.heap[g]? = some (.cells #[a0, a1, a2] 31 (0, 0))
theorem Box3.far {w w' : World} {g : Nat} (h : Box3 w g) (hb : Below w.heap.size w w') : Box3 w' g := by
  obtain ⟨a0, a1, a2, h⟩ := h
  exact ⟨a0, a1, a2, (hb.block g (Array.getElem?_eq_some_iff.1 h).1).trans h⟩
theorem Box3.keep {w w' : World} {F : Nat → Prop} {g : Nat} (h : Box3 w g) (hk : Keeps F w w') (hg : ¬ F g) : Box3 w' g := by
  obtain ⟨a0, a1, a2, h⟩ := h
  exact ⟨a0, a1, a2, (hk.block g (Array.getElem?_eq_some_iff.1 h).1 hg).trans h⟩
theorem Box3.lt {w : World} {g : Nat} (h : Box3 w g) : g < w.heap.size := by
  obtain ⟨a0, a1, a2, h⟩ := h
  exact (Array.getElem?_eq_some_iff.1 h).1
theorem set3 {w : World} {b : Nat} {t : TypeId} {a0 a1 a2 v0 v1 v2 : Value} (h : w.heap[b]? = some (.cells #[a0, a1, a2] t (0, 0))) :
    (((w.setCell ⟨b, 0, none⟩ v0).setCell ⟨b, 1, none⟩ v1).setCell ⟨b, 2, none⟩ v2).heap[b]? = some (.cells #[v0, v1, v2] t (0, 0)) :=
  heap_setCell_same _ _ _ _ _ _ (heap_setCell_same _ _ _ _ _ _ (heap_setCell_same _ _ _ _ _ _ h))
theorem keep3 (w : World) (b : Nat) (v0 v1 v2 : Value) : Keeps (fun k => k = b) w (((w.setCell ⟨b, 0, none⟩ v0).setCell ⟨b, 1, none⟩ v1).setCell ⟨b, 2, none⟩ v2) := by
  have e : ∀ (w : World) (i : Nat) (v : Value), Keeps (fun k => k = b) w (w.setCell ⟨b, i, none⟩ v) := fun w i v => Keeps.setCell (F := fun k => k = b) w (p := ⟨b, i, none⟩) rfl v
  exact ((e w 0 v0).trans (e _ 1 v1) (fun _ h => .inl h)).trans (e _ 2 v2) (fun _ h => .inl h)
theorem RowAt.ne3 {w : World} {g c q : Nat} {xs : List Value} (h : RowAt w 5 g c xs) (hq : Box3 w q) : g ≠ q := by
  obtain ⟨a0, a1, a2, hq⟩ := hq
  exact h.ne hq (by decide)

end Go.Proofs.Ytkkmkogpbhcpmab
