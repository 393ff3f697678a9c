import Derived.Test.YtalokopnagpgcaaDoorSH3
import Derived.Test.YtalokopnagpgcaaDoorLays
import Derived.Shelf.Strings.SlTrimAscii
import Derived.Shelf.Strings.Runes
namespace Go.Proofs.YtalokopnagpgcaaDoor
open Go.RowKit Go.Maps

def blank (c : UInt8) : Bool := c == 32 || c == 9
/-- A text without the blanks at its beginning. -/
def unb (l : List UInt8) : List UInt8 := l.dropWhile blank

theorem trim_unb (l : List UInt8) : Lib.trimLeftS l [32, 9] = unb l := by
  unfold Lib.trimLeftS unb
  congr 1
  funext c
  simp [blank]
  rfl
theorem trim_any (s : ByteArray) (w : World) :
    Calls Tryd.prog 18 #[.string s, .string ⟨#[32, 9]⟩] w fun e w' => e = .returned (.string ⟨(unb s.data.toList).toArray⟩) ∧ Below w.heap.size w w' := by
  have h := Any.strings_TrimLeft_laid (P := Tryd.prog) (ρ := Tryd.lays161_ren) Tryd.lays161 (by kernel_rfl) s ⟨#[32, 9]⟩ w (by decide) (Go.Proofs.ascii_of_all (by decide))
  rw [show (⟨#[32, 9]⟩ : ByteArray).data.toList = [32, 9] from rfl, trim_unb] at h
  exact h
theorem unblanked_any (s : ByteArray) (w : World) :
    Calls Tryd.prog 14 #[.string s] w fun e w' => e = .returned (.string ⟨(unb s.data.toList).toArray⟩) ∧ Below w.heap.size w w' := by
  have h := trim_any s w
  go_enter Tryd.func14, Tryd.ntmps14
  go_wp2_with fail
  refine h.mono ?_
  rintro e w1 ⟨rfl, hb1⟩
  have HB := Hid.mk hb1
  clear hb1 h
  go_wp2
  go_ret
  exact ⟨rfl, HB.out⟩

/-- A rune that stands for itself in a word. -/
def plainR (r : Int) : Bool := decide (32 ≤ r) && !(r == 127) && !(r == 34) && !(r == 92)
theorem isPlain_any (r : Int) (w : World) :
    Calls Tryd.prog 33 #[.int .i32 r] w fun e w' => e = .returned (.bool (plainR r)) ∧ w' = w := by
  go_enter Tryd.func33, Tryd.ntmps33
  by_cases h1 : (32 : Int) ≤ r
  · by_cases h2 : r = 127
    · subst h2
      go_wp2
      go_ret
      exact ⟨rfl, rfl⟩
    · by_cases h3 : r = 34
      · subst h3
        go_wp2
        go_ret
        exact ⟨rfl, rfl⟩
      · by_cases h4 : r = 92
        · subst h4
          go_wp2
          go_ret
          exact ⟨rfl, rfl⟩
        · have e2 : (r == 127) = false := by simpa using h2
          have e3 : (r == 34) = false := by simpa using h3
          have e4 : (r == 92) = false := by simpa using h4
          go_wp2
          go_ret
          exact ⟨by simp [plainR, h1, bne], rfl⟩
  · go_wp2
    go_ret
    exact ⟨by simp [plainR]; omega, rfl⟩
end Go.Proofs.YtalokopnagpgcaaDoor
