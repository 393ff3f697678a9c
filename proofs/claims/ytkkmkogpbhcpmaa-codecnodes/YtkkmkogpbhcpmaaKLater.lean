import Derived.Test.YtkkmkogpbhcpmaaKBase
import Derived.Deep.Quiet
import Derived.BigQuiet
namespace Go.Proofs.Ytkkmkogpbhcpmaa
open Go.RowKit

/-- A world that is the first but for what is new. -/
structure Later (w : World) where
  to : World
  h : Below w.heap.size w to

theorem below_drew {B : Nat} {a w : World} (h : Below B a w) : Below B a w.drew := ⟨h.os, h.tape, h.output, h.size, h.block⟩

theorem Later.some (w : World) : Nonempty (Later w) := ⟨⟨w, Below.refl _ _⟩⟩

/-- A region that draws its order, whose callees make memory but change none. -/
theorem wp_region_later {P : Program} {id : Nat} {Q : Exit → Act → World → Prop} {a : Act} {w : World} {l : List Oper} (hm : P.follows .mixedOrders = true) (hB : Region.lexB .any l.toArray = true)
    (h : wpQuiet P l.toArray (fun w' => ∃ q : Later w, w' = q.to) (fun a' => ∀ w', (∃ q : Later w, w' = q.to) → Q .normal a' w') l a) : (Code.region id l.toArray true).wp P Q a w :=
  wp_region_quiet (C := fun w' => ∃ q : Later w, w' = q.to) hm hB ⟨⟨w.drew, below_drew (Below.refl _ _)⟩, rfl⟩ (by simpa using h)

/-- A callee's contract, met in a later world. -/
theorem Calls.later_of {P : Program} {f : FuncId} {args : Array Value} {w : World} {q : Later w} {v : Value}
    (h : Calls P f args q.to fun e w' => e = .returned v ∧ Below q.to.heap.size q.to w') : Calls P f args q.to fun e w'' => e = .returned v ∧ ∃ q' : Later w, w'' = q'.to :=
  h.mono fun _ w' ⟨he, hm⟩ => ⟨he, ⟨w', q.h.trans (hm.mono q.h.size)⟩, rfl⟩
end Go.Proofs.Ytkkmkogpbhcpmaa
