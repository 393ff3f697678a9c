import Derived.Test.YtpihehpmejicaaaKOpen
import Derived.ProofKit
import Derived.OpenShut
import Derived.ShutString
import Derived.ChangeOld
import Derived.SizedLaws
import Derived.Deep.Slices
namespace Go.Proofs.Ytpihehpmejicaaa
open Go.ChangeShapes Go.WideShapes Go.ChangeAt Go.RowKit Go.Deep

/-- A list of numbers that is only read. -/
def NSrc (w : World) (B : Nat) (a : Option Addr) (n : Nat) : Prop := (a = none → n = 0) ∧ ∀ y, a = some y → ∀ i, i < n → ∃ b o, y = ⟨b, o, none⟩ ∧ b < B ∧ ∃ t : Int, w.cell? ⟨b, o + i, none⟩ = some (.int .i64 t)
theorem NSrc.far {w w' : World} {B : Nat} {a : Option Addr} {n : Nat} (h : NSrc w B a n) (hb : Below B w w') : NSrc w' B a n := by
  refine ⟨h.1, fun y hy i hi => ?_⟩
  obtain ⟨b, o, rfl, hbB, t, c0⟩ := h.2 y hy i hi
  exact ⟨b, o, rfl, hbB, t, (World.cell?_of_block (w := w) (a := ⟨b, _, none⟩) (hb.block b hbB)).trans c0⟩

theorem open_nums {H : Type} {enc : TypeId × Value → H} {W : World} {base : Nat} {spare : Nat → Bool} {held : Bool} {fuel : Nat} {v : Value} {d : DataW H} {pl : List MemPlace} (h : DataW.trod enc Try.prog W base spare held fuel 30 [v] = some (d, pl)) (hw : ∀ n ∈ d.weights Try.prog 30, n ≤ reachBytes) :
    ∃ a n c, v = .slice a n c ∧ NSrc W W.heap.size a n ∧ n ≤ 140737488355328 := by
  have hb8 : Try.prog.bytesOf 3 = 8 := by kernel_rfl
  rcases open_ints Try.underlying30 Try.underlying3 cellsInt h with ⟨hcs, _⟩ | ⟨x, l, c, zs, hcs, _, hl, hm, hz, hd, hcell, hwz⟩
  · simp only [List.cons.injEq, and_true] at hcs
    exact ⟨none, 0, 0, hcs, ⟨fun _ => rfl, fun x hx => by cases hx⟩, Nat.zero_le _⟩
  · simp only [List.cons.injEq, and_true] at hcs
    simp only [Prod.mk.injEq] at hd
    obtain ⟨rfl, rfl⟩ := hd
    have hzl : l ≤ zs.length := by rw [hz]; split <;> omega
    have h1 := hw ((((lits IntKind.i64 (zs.take l) : List (DataW H))).length + ((lits IntKind.i64 (zs.drop l) : List (DataW H))).length) * Try.prog.bytesOf 3) (by simp [DataW.weights, Try.underlying30])
    rw [hb8] at h1
    simp only [lits, List.length_map, List.length_take, List.length_drop, reachBytes] at h1
    refine ⟨some x, l, c, hcs, ⟨(fun h => by cases h), fun y hy i hi => ?_⟩, by omega⟩
    cases hy
    have z0 := hcell 0 (by omega)
    have zi := hcell i (by omega)
    obtain ⟨b, o, spot⟩ := x
    have hspot : spot = none := by simpa [Addr.add] using World.cell?_spot z0
    subst hspot
    rw [addr_add] at zi
    exact ⟨b, o, rfl, World.block_lt_of_cell? _ _ zi, _, zi⟩

end Go.Proofs.Ytpihehpmejicaaa
