import Derived.Test.YtkcakpcmpbjhlaaDoorPA1
import Derived.Test.YtkcakpcmpbjhlaaDoorKOpenT
import Derived.Test.YtkcakpcmpbjhlaaDoorPA0
import Derived.Deep.AppendLies
import Derived.Lib.OthersKept
import Derived.Lib.AppendZeros
namespace Go.Proofs.YtkcakpcmpbjhlaaDoor
open Go.RowKit Go.Maps

theorem ext_list (s : ByteArray) (a b : Nat) : (s.extract a b).data.toList = (s.data.toList.drop a).take (b - a) := by
  simp [ByteArray.data_extract]

theorem infoStr : (Tryd.prog.info? 9).map (fun i => (i.zero, i.size, i.bytes)) = some (some (.string ⟨#[]⟩), 1, 16) := by kernel_rfl
/-- Texts as cells. -/
abbrev strs (l : List (List UInt8)) : List Value := l.map (fun x => Value.string ⟨x.toArray⟩)
end Go.Proofs.YtkcakpcmpbjhlaaDoor
