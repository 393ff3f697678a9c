import Derived.Test.YtodleeipefnadaaXKS10
namespace Go.Proofs.Ytodleeipefnadaa
open Go.RowKit

/-- What sectorOf makes of a list. -/
def secOf (l : List Int) : List Int := if l.length = 512 then l else zs 512
theorem secOf_len (l : List Int) : (secOf l).length = 512 := by unfold secOf; split; assumption; exact zs_len 512
theorem secOf_self {l : List Int} (h : l.length = 512) : secOf l = l := by unfold secOf; rw [if_pos h]
theorem sectorOf_any (a : Option Addr) (n c : Nat) (l : List Int) (w : World) (hs : Src w a n l) :
    Calls Try.prog 71 #[.slice a n c] w fun e w' => e = .returned (.tuple #[.agg (bs (secOf l)).toArray, .bool (decide (n = 512))]) ∧ Below w.heap.size w w' := by
  by_cases hn : n = 512
  · subst hn
    cases a with
    | none => have := hs.2.1 rfl; omega
    | some x =>
      obtain ⟨b, o, rfl, _⟩ := hs.spot (by omega)
      rw [secOf_self hs.1]
      exact sectorOf_ok b o c l w hs
  · have e : secOf l = zs 512 := by unfold secOf; rw [if_neg (by rw [hs.1]; exact hn)]
    rw [e, decide_eq_false hn]
    exact sectorOf_no a n c w hn

def zpair : Array Value := (bs (zs 1024)).toArray
theorem infoPair : (Try.prog.info? 93).map (fun i => (i.zero, i.size)) = some (some (.agg zpair), 1024) := by kernel_rfl
theorem zeroPair (w : World) : (zeroValue 93).run Try.prog w = .ok (.agg zpair) w := by
  obtain ⟨i, hi, he⟩ := Option.map_eq_some_iff.1 infoPair
  simp only [Prod.mk.injEq] at he
  simp [zeroValue, typeInfo, hi, he.1]
theorem sizePair : (Try.prog.info? 93).map (·.size) = some 1024 := by
  obtain ⟨i, hi, he⟩ := Option.map_eq_some_iff.1 infoPair
  simp only [Prod.mk.injEq] at he
  rw [hi, ← he.2]; rfl
theorem zpair_size : zpair.size = 1024 := by unfold zpair; simp only [List.size_toArray, bs, List.length_map, zs_len]

theorem foldl_put : ∀ (vs : List Value) (k off : Nat) (cells : Array Value), off + k + vs.length ≤ cells.size →
    ((vs.zipIdx k).foldl (fun cs (x : Value × Nat) => cs.setIfInBounds (off + x.2) x.1) cells).toList = cells.toList.take (off + k) ++ vs ++ cells.toList.drop (off + k + vs.length)
  | [], k, off, cells, h => by simp
  | v :: r, k, off, cells, h => by
    have h1 : off + k < cells.toList.length := by simp at h ⊢; omega
    rw [List.zipIdx_cons, List.foldl_cons, foldl_put r (k + 1) off _ (by simp at h ⊢; omega)]
    simp only [Array.toList_setIfInBounds]
    rw [show off + (k + 1) = off + k + 1 by omega, List.take_set, List.drop_set]
    rw [if_pos (by omega), List.take_succ_eq_append_getElem h1, List.set_append_right _ _ (by simp; omega)]
    have : (off + k) - (cells.toList.take (off + k)).length = 0 := by simp; omega
    rw [this, List.set_cons_zero]
    simp only [List.length_cons, List.append_assoc, List.cons_append, List.nil_append]
    congr 4
    omega
theorem fold_cells (F cells : Array Value) (off : Nat) (h : off + F.size ≤ cells.size) :
    (F.zipIdx.foldl (fun cs (x : Value × Nat) => cs.setIfInBounds (off + x.2) x.1) cells).toList = cells.toList.take off ++ F.toList ++ cells.toList.drop (off + F.size) := by
  rw [← Array.foldl_toList, Array.toList_zipIdx]
  have := foldl_put F.toList 0 off cells (by simpa using h)
  simpa using this
theorem build_pair (F G : Array Value) (hF : F.size = 512) (hG : G.size = 512) (w : World) :
    (Instr.build 93 #[(0, .agg F), (1, .agg G)]).run Try.prog w = .ok (.agg (F ++ G)) w := by
  obtain ⟨i, hi, he⟩ := Option.map_eq_some_iff.1 sizeSec
  have hz := zpair_size
  have e1 := fold_cells F zpair (0 * 512) (by omega)
  have s1 : (F.zipIdx.foldl (fun cs (x : Value × Nat) => cs.setIfInBounds (0 * 512 + x.2) x.1) zpair).size = 1024 := by
    rw [← Array.length_toList, e1]; simp; omega
  have e2 := fold_cells G (F.zipIdx.foldl (fun cs (x : Value × Nat) => cs.setIfInBounds (0 * 512 + x.2) x.1) zpair) (1 * 512) (by omega)
  have key : Instr.fill (fun i => some (i * 512, 512)) zpair [(0, .agg F), (1, .agg G)] = some (F ++ G) := by
    have c1 : (Value.agg F).cells = F := rfl
    have c2 : (Value.agg G).cells = G := rfl
    simp only [Instr.fill, c1, c2, hF, hG, hz]
    rw [if_neg (by simp), if_neg (by simp only [ne_eq, not_true, decide_false, Bool.false_or, decide_eq_true_eq]; omega)]
    refine congrArg some ?_
    apply Array.ext'
    rw [e2, e1]
    have hFl : F.toList.length = 512 := by simpa using hF
    have hGl : G.toList.length = 512 := by simpa using hG
    have hzl : zpair.toList.length = 1024 := by simpa using hz
    simp only [Nat.zero_mul, List.take_zero, List.nil_append, Nat.zero_add, Nat.one_mul, hF, hG]
    rw [List.take_left' hFl, List.drop_eq_nil_of_le (by simp; omega)]
    simp
  have c3 : (Value.agg zpair).cells = zpair := rfl
  simp only [Instr.build, Sem.run_bind, zeroPair, Result.andThen_ok, run_underlying Try.underlying93, c3]
  have hsz : (sizeOf 91).run Try.prog w = .ok 512 w := by simp [sizeOf, typeInfo, hi, he]
  rw [hsz, Result.andThen_ok, key]
  rfl
end Go.Proofs.Ytodleeipefnadaa
