import Derived.Test.YtbedlabokjdhaaaDoorSHE
import Derived.Test.YtbedlabokjdhaaaDoorKOpenL
namespace Go.Proofs.YtbedlabokjdhaaaDoor
open Go.RowKit Go.Maps

theorem ub_back {l : List Int} (h : Bytes l) : ∃ L : List UInt8, ub L = l := by
  refine ⟨l.map (fun x => UInt8.ofNat x.toNat), ?_⟩
  simp only [ub, List.map_map]
  conv => rhs; rw [← List.map_id l]
  refine List.map_congr_left (fun x hx => ?_)
  have := h x hx
  simp only [Function.comp, UInt8.toNat_ofNat', id]
  omega
/-- The lists of an argument, by their bytes. -/
def Lts (w : World) (B : Nat) (a : Option Addr) (n : Nat) (f : Nat → List UInt8) : Prop :=
  ∀ i, i < n → ∃ b o a' n' c', a = some ⟨b, o, none⟩ ∧ b < B ∧ w.cell? ⟨b, o + i, none⟩ = some (.slice a' n' c') ∧ Src w a' n' (ub (f i)) ∧ (∀ y, a' = some y → 0 < n' → y.block < B) ∧ n' ≤ 140737488355328 ∧ n' ≤ c'
theorem Lts.of {w : World} {B : Nat} {a : Option Addr} {n : Nat} (h : Lists w B a n) : ∃ f, Lts w B a n f := by
  have h1 : ∀ i : Nat, ∃ L : List UInt8, i < n → ∃ b o a' n' c', a = some ⟨b, o, none⟩ ∧ b < B ∧ w.cell? ⟨b, o + i, none⟩ = some (.slice a' n' c') ∧ Src w a' n' (ub L) ∧ (∀ y, a' = some y → 0 < n' → y.block < B) ∧ n' ≤ 140737488355328 ∧ n' ≤ c' := by
    intro i
    by_cases hi : i < n
    · cases a with
      | none => exact absurd (h.1 rfl) (by omega)
      | some x =>
        obtain ⟨b, o, rfl, hb, a', n', c', l, g1, g2, g3, g4, g5, g6⟩ := h.2 x rfl i hi
        obtain ⟨L, rfl⟩ := ub_back g3
        exact ⟨L, fun _ => ⟨b, o, a', n', c', rfl, hb, g1, g2, g4, g5, g6⟩⟩
    · exact ⟨[], fun h' => absurd h' hi⟩
  obtain ⟨f, hf⟩ := Classical.axiomOfChoice h1
  exact ⟨f, hf⟩
theorem Lts.far {w w' : World} {B : Nat} {a : Option Addr} {n : Nat} {f : Nat → List UInt8} (h : Lts w B a n f) (hb : Below B w w') : Lts w' B a n f := fun i hi => by
  obtain ⟨b, o, a', n', c', rfl, h0, h1, h2, h3, h4⟩ := h i hi
  exact ⟨b, o, a', n', c', rfl, h0, (World.cell?_of_block (w := w) (a := ⟨b, _, none⟩) (hb.block b h0)).trans h1, h2.far hb h3, h3, h4⟩

/-- The words, each cut off, quoted and put behind one another. -/
def trW (f : Nat → List UInt8) (i : Nat) : List UInt8 := (f i).take 4000
def lineW (f : Nat → List UInt8) (k : Nat) : List UInt8 := (List.range k).flatMap (fun i => 32 :: quo (trW f i))
theorem lineW_succ (f : Nat → List UInt8) (k : Nat) : lineW f (k + 1) = lineW f k ++ [32] ++ quo (trW f k) := by
  simp [lineW, List.range_succ]
theorem wds_line (g : List (List UInt8)) (cm : List UInt8) : WdsQ (g.flatMap (fun b => 32 :: quo b) ++ 9 :: 35 :: cm) g := by
  induction g with
  | nil => exact .note (t := cm) rfl
  | cons b g ih =>
    refine .step (t := escs b ++ 34 :: (g.flatMap (fun b => 32 :: quo b) ++ 9 :: 35 :: cm)) (r := g.flatMap (fun b => 32 :: quo b) ++ 9 :: 35 :: cm) ?_ (qtd_quo _ _ ?_) ih
    · simp only [List.flatMap_cons, quo, List.cons_append, List.append_assoc, List.nil_append]
      rfl
    · cases g <;> rfl
theorem wds_lineW (f : Nat → List UInt8) (k : Nat) (cm : List UInt8) : WdsQ (lineW f k ++ 9 :: 35 :: cm) ((List.range k).map (trW f)) := by
  have h := wds_line ((List.range k).map (trW f)) cm
  rw [List.flatMap_map] at h
  exact h
end Go.Proofs.YtbedlabokjdhaaaDoor
