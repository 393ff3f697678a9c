import Derived.Test.YtodleeipefnadacKR2
namespace Go.Proofs.Ytodleeipefnadac
open Go.RowKit

/-- What renews tells where the Renew is taken. -/
def RenewsOk (w : World) (l r : List Int) (slot N : Nat) (dt R : List Int) (e : Ending) (w' : World) : Prop :=
  ∃ p c g cm M, e = .returned (.tuple #[.bool true, .int .i64 (slot : Int), .slice p 512 c, .slice (some ⟨g, 0, none⟩) 512 cm]) ∧ Src w' p 512 R ∧ Src w' (some ⟨g, 0, none⟩) 512 M ∧ Bytes M ∧
    (snewest (sput l r slot M).1 (sput l r slot M).2 = (slot, N, dt, 0) ∨ snewest (sput l r slot M).1 (sput l r slot M).2 = snewest l r) ∧ Below w.heap.size w w'

theorem RenewsOk.mk' {w : World} {l r : List Int} {slot N : Nat} {dt R : List Int} {e : Ending} {w' : World} {p : Option Addr} {c g cm : Nat} {M : List Int} (he : e = .returned (.tuple #[.bool true, .int .i64 (slot : Int), .slice p 512 c, .slice (some ⟨g, 0, none⟩) 512 cm])) (h1 : Src w' p 512 R) (h2 : Src w' (some ⟨g, 0, none⟩) 512 M) (h3 : Bytes M)
    (h4 : snewest (sput l r slot M).1 (sput l r slot M).2 = (slot, N, dt, 0) ∨ snewest (sput l r slot M).1 (sput l r slot M).2 = snewest l r) (h5 : Below w.heap.size w w') : RenewsOk w l r slot N dt R e w' := ⟨p, c, g, cm, M, he, h1, h2, h3, h4, h5⟩

end Go.Proofs.Ytodleeipefnadac
