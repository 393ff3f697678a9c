import Derived.Test.YtkkmkogpbhcpmabKEntT
import Derived.Test.YtkkmkogpbhcpmabKEntF
import Derived.Test.YtkkmkogpbhcpmabKForm
import Derived.Test.YtkkmkogpbhcpmabXKHelp
import Derived.Deep.RegionHeld3
namespace Go.Proofs.Ytkkmkogpbhcpmab
open Go.RowKit

/-- What is answered by an encoder: bytes that can be read. -/
def Enc (w w' : World) (v : Value) (l : List Int) : Prop := ∃ a c, v = .slice a l.length c ∧ Src w' a l.length l ∧ Below w.heap.size w w'
theorem Made.enc {w w' : World} {v : Value} {l : List Int} (h : Made w w' v l) : Enc w w' v l := by
  obtain ⟨g, c, rfl, _, hr, hb⟩ := h
  exact ⟨_, c, rfl, hr.src, hb⟩

def noneB (n k : Int) (s : ByteArray) : Bool := decide (n = 0) && (decide (k = 0) && decide (s.toList = []))
theorem noneB_iff (n k : Int) (s : ByteArray) : noneB n k s = true ↔ ENone n k s := by simp only [noneB, ENone, Bool.and_eq_true, decide_eq_true_iff]
def fitB (n k : Int) (s : ByteArray) : Bool := decide (1 ≤ n ∧ n ≤ 1024) && (decide (1 ≤ k ∧ k ≤ 3) && decide (nameErr s.data.toList = 0))
theorem fitB_iff (n k : Int) (s : ByteArray) : fitB n k s = true ↔ EFits n k s := by simp only [fitB, EFits, Bool.and_eq_true, decide_eq_true_iff]
/-- What an encoder of entries answers. -/
def entEnc (n k : Int) (s : ByteArray) : List Int × Int := if noneB n k s then (zeros64, 0) else if fitB n k s then (sealed (entBody n.toNat k.toNat s), 0) else ([], 20)

theorem entEnc_cases (n k : Int) (s : ByteArray) : (ENone n k s ∧ entEnc n k s = (zeros64, 0)) ∨ (¬ ENone n k s ∧ EFits n k s ∧ entEnc n k s = (sealed (entBody n.toNat k.toNat s), 0)) ∨ (¬ ENone n k s ∧ ¬ EFits n k s ∧ entEnc n k s = ([], 20)) := by
  by_cases h1 : ENone n k s
  · exact .inl ⟨h1, by unfold entEnc; rw [if_pos ((noneB_iff n k s).2 h1)]⟩
  · have e1 : ¬ noneB n k s = true := fun h => h1 ((noneB_iff n k s).1 h)
    by_cases h2 : EFits n k s
    · exact .inr (.inl ⟨h1, h2, by unfold entEnc; rw [if_neg e1, if_pos ((fitB_iff n k s).2 h2)]⟩)
    · exact .inr (.inr ⟨h1, h2, by unfold entEnc; rw [if_neg e1, if_neg (fun h => h2 ((fitB_iff n k s).1 h))]⟩)
theorem entEnc_len (n k : Int) (s : ByteArray) : (entEnc n k s).1.length ≤ 64 := by
  rcases entEnc_cases n k s with ⟨_, e⟩ | ⟨_, h, e⟩ | ⟨_, _, e⟩
  · rw [e]; exact Nat.le_of_eq zeros64_len
  · rw [e]
    show (sealed (entBody n.toNat k.toNat s)).length ≤ 64
    rw [sealed_len, entBody_len _ _ (name_ok h.2.2).2]
    omega
  · rw [e]; exact Nat.zero_le _

theorem encent_any (n k : Int) (s : ByteArray) (t : Int) (w : World) :
    Calls Try.prog 17 #[ent n k s t] w fun e w' => ∃ v, e = .returned (.tuple #[v, .int .i64 (entEnc n k s).2]) ∧ Enc w w' v (entEnc n k s).1 := by
  rcases entEnc_cases n k s with ⟨⟨rfl, rfl, h⟩, e⟩ | ⟨_, h, e⟩ | ⟨h0, h, e⟩
  · rw [e]
    refine (encent_none s t w h).mono ?_
    rintro e w' ⟨v, rfl, hm⟩
    exact ⟨v, rfl, hm.enc⟩
  · rw [e]
    obtain ⟨N, rfl⟩ := Int.eq_ofNat_of_zero_le (show 0 ≤ n by have := h.1.1; omega)
    obtain ⟨K, rfl⟩ := Int.eq_ofNat_of_zero_le (show 0 ≤ k by have := h.2.1.1; omega)
    refine (encent_ok N K s t w h).mono ?_
    rintro e w' ⟨v, rfl, hm⟩
    exact ⟨v, rfl, hm.enc⟩
  · rw [e]
    refine (encent_bad n k s t w h0 h).mono ?_
    rintro e w' ⟨rfl, hb⟩
    exact ⟨_, rfl, none, 0, rfl, ⟨rfl, fun _ => rfl, fun x hx => by cases hx⟩, hb⟩
end Go.Proofs.Ytkkmkogpbhcpmab
