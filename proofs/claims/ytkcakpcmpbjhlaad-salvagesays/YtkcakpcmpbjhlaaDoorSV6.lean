import Derived.Test.YtkcakpcmpbjhlaaDoorSV5
import Derived.Test.YtkcakpcmpbjhlaaDoorCards
import Derived.Test.YtkcakpcmpbjhlaaDoorTie
import Derived.LaidMore
import Derived.Lay
import Derived.SevenTiedAt
import Derived.Stop.Joined
import Derived.Lib.LaidU8
import Derived.LaidLaws
namespace Go.Proofs.YtkcakpcmpbjhlaaDoor
open Go.ChangeShapes Go.WideShapes Go.ChangeAt Go.RowKit Go.Deep

theorem pt_of_laid {W : World} (h : laidMet Tryd.prog Rows.salvageSaysRow.laid W) : PT W := by
  have hm : ("internal/strconv.uint64pow10", Rows.laid_internal_strconv_uint64pow10) ∈ Rows.salvageSaysRow.laid := by
    simp [Rows.salvageSaysRow]
  obtain ⟨g, t, cs, fuel, p, hg, ht, hv, hd⟩ := Lib.laidMet.reads h hm
  obtain rfl := Option.some.inj ((show Tryd.prog.globalNamed "internal/strconv.uint64pow10" = some 0 by kernel_rfl).symm.trans hg)
  obtain rfl := Option.some.inj ((show (Tryd.prog.globals[0]?).map (·.type) = some 38 by kernel_rfl).symm.trans ht)
  have hcs := Lib.cells_of_tab (k := .u64) (zs := Lib.pow10Tab) Tryd.underlying38 Tryd.underlying30 (by kernel_rfl) (by kernel_rfl) hd
  unfold PT Lib.TabIs
  rw [hv, ← hcs]
end Go.Proofs.YtkcakpcmpbjhlaaDoor
