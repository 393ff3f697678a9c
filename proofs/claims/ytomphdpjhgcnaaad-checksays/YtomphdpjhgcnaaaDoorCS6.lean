import Derived.Test.YtomphdpjhgcnaaaDoorCS5
import Derived.Test.YtomphdpjhgcnaaaDoorCards
import Derived.Test.YtomphdpjhgcnaaaDoorTie
import Derived.LaidMore
import Derived.Lay
import Derived.SevenTiedAt
import Derived.Stop.Joined
import Derived.Lib.LaidU8
import Derived.LaidLaws
namespace Go.Proofs.YtomphdpjhgcnaaaDoor
open Go.ChangeShapes Go.WideShapes Go.ChangeAt Go.RowKit Go.Deep

/-- A variable's datum: texts. -/
def strData {H : Type} (ls : List (List UInt8)) : DataW H := .agg (ls.map fun l => .lit (.string l))
theorem cells_of_strs {H : Type} {enc : TypeId × Value → H} {P : Program} {w : World} {base : Nat} {sp : Nat → Bool} {held : Bool} {fuel : Nat} {t e : TypeId} {n : Nat} {cs : List Value} {ls : List (List UInt8)} {p : List MemPlace}
    (ht : P.underlying t = some (.array n e)) (he : P.underlying e = some .string) (hce : P.cellsOf e = 1) (hct : P.cellsOf t = n)
    (h : DataW.trod enc P w base sp held fuel t cs = some (strData ls, p)) : cs = ls.map fun l => Value.string ⟨l.toArray⟩ := by
  cases fuel with
  | zero => simp [DataW.trod] at h
  | succ fuel =>
    simp only [DataW.trod, ht, hce, hct, Nat.mul_one] at h
    split at h
    · rename_i hl
      obtain ⟨xs, hm, hx⟩ := Option.map_eq_some_iff.1 h
      have hxs : xs.map (·.1) = ls.map fun l => (DataW.lit (.string l) : DataW H) := by
        have := congrArg Prod.fst hx
        simpa [strData] using this
      have hxl : xs.length = n := by simpa using Lib.mapM_length hm
      have hzl : ls.length = n := by
        have := congrArg List.length hxs
        simp at this
        omega
      apply List.ext_getElem?
      intro i
      by_cases hi : i < n
      · obtain ⟨b, hb, hf⟩ := Lib.mapM_at hm i i (by simp [hi])
        obtain ⟨z, hc, rfl, _⟩ := DataW.trod_string he hf
        have h1 : cs[i]? = some (.string z) := by
          have := congrArg (·[0]?) hc
          simpa [List.getElem?_take, List.getElem?_drop] using this
        have h2 : (xs.map (·.1))[i]? = some (DataW.lit (.string z.data.toList) : DataW H) := by simp [hb]
        rw [hxs] at h2
        simp only [List.getElem?_map, Option.map_eq_some_iff, DataW.lit.injEq, Lit.string.injEq] at h2
        obtain ⟨z', hz', rfl⟩ := h2
        simp [h1, hz']
      · rw [List.getElem?_eq_none (by omega), List.getElem?_eq_none (by simp; omega)]
    · cases h
theorem cellsString1 : Tryd.prog.cellsOf 9 = 1 := by kernel_rfl
theorem wd_of_laid {W : World} (h : laidMet Tryd.prog Rows.checkSaysRow.laid W) : WD W := by
  have hm : ("vellum/vellumlaw12.words", Rows.laid_vellum_vellumlaw12_words) ∈ Rows.checkSaysRow.laid := by
    simp [Rows.checkSaysRow]
  obtain ⟨g, t, cs, fuel, p, hg, ht, hv, hd⟩ := Lib.laidMet.reads h hm
  obtain rfl := Option.some.inj ((show Tryd.prog.globalNamed "vellum/vellumlaw12.words" = some 0 by kernel_rfl).symm.trans hg)
  obtain rfl := Option.some.inj ((show (Tryd.prog.globals[0]?).map (·.type) = some 28 by kernel_rfl).symm.trans ht)
  have hcs := cells_of_strs (ls := strsOf Rows.laid_vellum_vellumlaw12_words) Tryd.underlying28 Tryd.underlying9 cellsString1 (by kernel_rfl) hd
  intro k hk
  have h1 := World.var?_cell hg hv k
  rw [h1, ← Array.getElem?_toList, hcs, List.getElem?_map]
  have hl : k < (strsOf Rows.laid_vellum_vellumlaw12_words).length := hk
  rw [List.getElem?_eq_getElem hl]
  simp [tmpl, List.getD, List.getElem?_eq_getElem hl]
theorem pt_of_laid {W : World} (h : laidMet Tryd.prog Rows.checkSaysRow.laid W) : PT W := by
  have hm : ("internal/strconv.uint64pow10", Rows.laid_internal_strconv_uint64pow10) ∈ Rows.checkSaysRow.laid := by
    simp [Rows.checkSaysRow]
  obtain ⟨g, t, cs, fuel, p, hg, ht, hv, hd⟩ := Lib.laidMet.reads h hm
  obtain rfl := Option.some.inj ((show Tryd.prog.globalNamed "internal/strconv.uint64pow10" = some 1 by kernel_rfl).symm.trans hg)
  obtain rfl := Option.some.inj ((show (Tryd.prog.globals[1]?).map (·.type) = some 39 by kernel_rfl).symm.trans ht)
  have hcs := Lib.cells_of_tab (k := .u64) (zs := Lib.pow10Tab) Tryd.underlying39 Tryd.underlying32 (by kernel_rfl) (by kernel_rfl) hd
  unfold PT Lib.TabIs
  rw [hv, ← hcs]
end Go.Proofs.YtomphdpjhgcnaaaDoor
