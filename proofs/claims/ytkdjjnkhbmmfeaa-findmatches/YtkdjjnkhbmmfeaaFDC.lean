import Derived.Test.YtkdjjnkhbmmfeaaFDB
import Derived.Recover
import Derived.Defers
namespace Go.Proofs.Ytkdjjnkhbmmfeaa
open Go.RowKit Go.Maps

theorem mems_many : ∀ (f : Nat) (l m : List Int) (ms : List (Int × Int)), memsP f l = some (ms, m) → ms.length ≤ l.length
  | 0, _, _, _, h => by cases h
  | f + 1, l, m, ms, h => by
    cases hm : memP l with
    | none => simp [memsP, hm] at h
    | some q =>
      obtain ⟨p, n⟩ := q
      have h1 := mem_len hm
      have h2 := took_len (m := n) (x := 93)
      simp only [memsP, hm] at h
      cases ht : (tookP n 93).1 with
      | true =>
        rw [ht, if_pos rfl] at h
        cases h
        simp
        omega
      | false =>
        rw [ht] at h
        simp only [Bool.false_eq_true, if_false, Option.map_eq_some_iff] at h
        obtain ⟨⟨a, b⟩, h3, h4⟩ := h
        cases h4
        have := mems_many f _ _ _ h3
        simp only [List.length_cons]
        omega
theorem piece_many {l m : List Int} {p : Pc} (h : pieceP l = some (p, m)) : p.mem.length ≤ l.length := by
  match l, h with
  | [], h => cases h
  | b :: l, h =>
    simp only [pieceP] at h
    by_cases e1 : b = 92
    · rw [if_pos e1] at h
      match l, h with
      | [], h => cases h
      | c :: n, h => cases h; simp [onlyP]
    · rw [if_neg e1] at h
      by_cases e2 : b = 63
      · rw [if_pos e2] at h; cases h; simp
      · rw [if_neg e2] at h
        by_cases e3 : b = 42
        · rw [if_pos e3] at h; cases h; simp
        · rw [if_neg e3] at h
          by_cases e4 : b = 91
          · rw [if_pos e4] at h
            unfold setP at h
            rw [Option.map_eq_some_iff] at h
            obtain ⟨⟨a, c⟩, h3, h4⟩ := h
            cases h4
            have := mems_many _ _ _ _ h3
            have := took_len (m := l) (x := 33)
            simp only [List.length_cons]; omega
          · rw [if_neg e4] at h; cases h; simp [onlyP]
theorem pieces_many : ∀ (f : Nat) (l : List Int) (ps : List Pc), piecesP f l = some ps → ps.length ≤ l.length ∧ ∀ p ∈ ps, p.mem.length ≤ l.length
  | _, [], ps, h => by simp [piecesP] at h; subst h; simp
  | 0, _ :: _, _, h => by cases h
  | f + 1, b :: l, ps, h => by
    cases hp : pieceP (b :: l) with
    | none => simp [piecesP, hp] at h
    | some q =>
      obtain ⟨p, m⟩ := q
      simp only [piecesP, hp, Option.map_eq_some_iff] at h
      obtain ⟨qs, h1, rfl⟩ := h
      have h2 := piece_len hp
      have h3 := piece_many hp
      obtain ⟨h4, h5⟩ := pieces_many f m qs h1
      refine ⟨by simp at h2 ⊢; omega, fun x hx => ?_⟩
      rcases List.mem_cons.1 hx with rfl | hx
      · exact h3
      · have := h5 x hx; omega
/-- What Match answers. -/
def matchP (p t : ByteArray) : Bool × Int :=
  if 255 < p.size then (false, 7) else match patP (ub p.data.toList) with
    | none => (false, 190)
    | some ps => if 1023 < t.size then (false, 7) else (fitsP ps (ub t.data.toList), 0)
theorem thrown_nil (w : World) : Calls Try.prog 13 #[.nilIface] w fun e w' => e = .returned (.int .i64 0) ∧ w' = w := by
  go_enter Try.func13, Try.ntmps13
  go_wp2
  go_ret
  exact ⟨rfl, rfl⟩
theorem thrown_err (x : Int) (w : World) : Calls Try.prog 13 #[.iface 26 (.int .i64 x)] w fun e w' => e = .returned (.int .i64 x) ∧ w' = w := by
  have hta : ∀ w, (Instr.typeAssert (.iface 26 (.int .i64 x)) 20 26 false).run Try.prog w = .ok (.int .i64 x) w := fun _ => by kernel_rfl
  go_enter Try.func13, Try.ntmps13
  go_wp2
  go_ret
  exact ⟨rfl, rfl⟩
set_option maxRecDepth 20000 in
theorem mcatch_idle {w : World} {ge : Nat} {y : Value} (h2 : w.heap[ge]? = some (.cells #[y] 26 (0, 0))) :
    CallsD Try.prog 12 #[.pointer (some ⟨ge, 0, none⟩)] .returning w fun e u' w' => e = .returned (.tuple #[]) ∧ u' = .returning ∧ w' = w.setCell ⟨ge, 0, none⟩ (.int .i64 0) := by
  have c2 : w.cell? ⟨ge, 0, none⟩ = some y := cell_of_block h2 (j := 0) rfl
  have f2 : w.frozen? ⟨ge, 0, none⟩ = false := frozen_of_block h2 0
  have hc := thrown_nil w
  refine callsD_of_wpS Try.func12 rfl fun c₀ cs hu => ?_
  apply wpS_region
  simp [wpOpsS, go_sem, recoverD, hu, Try.ntmps12]
  refine hc.mono ?_
  rintro e w2 ⟨rfl, hw2⟩
  subst hw2
  simp [go_sem, c2, f2, bodyPostS, results, Try.results12]
  rw [← hu]
set_option maxRecDepth 20000 in
theorem mcatch_panic {w : World} {ge : Nat} {y : Value} (h2 : w.heap[ge]? = some (.cells #[y] 26 (0, 0))) (x : Int) :
    CallsD Try.prog 12 #[.pointer (some ⟨ge, 0, none⟩)] (.panicking (gave x)) w fun e u' w' => e = .returned (.tuple #[]) ∧ u' = .panicking [{ v := .iface 26 (.int .i64 x), recovered := true }] ∧ w' = w.setCell ⟨ge, 0, none⟩ (.int .i64 x) := by
  have c2 : w.cell? ⟨ge, 0, none⟩ = some y := cell_of_block h2 (j := 0) rfl
  have f2 : w.frozen? ⟨ge, 0, none⟩ = false := frozen_of_block h2 0
  have hc := thrown_err x w
  refine callsD_of_wpS Try.func12 rfl fun c₀ cs hu => ?_
  apply wpS_region
  simp [wpOpsS, go_sem, recoverD, hu, Try.ntmps12]
  refine hc.mono ?_
  rintro e w2 ⟨rfl, hw2⟩
  subst hw2
  simp [go_sem, c2, f2, bodyPostS, results, Try.results12]
set_option maxRecDepth 20000 in
set_option maxHeartbeats 8000000 in
theorem match_any (p t : ByteArray) (w : World) : Calls Try.prog 9 #[.string p, .string t] w fun e w' => e = .returned (.tuple #[.bool (matchP p t).1, .int .i64 (matchP p t).2]) ∧ Below w.heap.size w w' := by
  have hmf : ∀ (fn : Fn) (first cap : Array Value) (w : World), (Instr.makeFunc fn first cap).run Try.prog w = .ok (.func fn first cap) w := fun _ _ _ _ => rfl
  obtain ⟨w1, hw1⟩ : ∃ w1, w1 = w.alloc (.cells #[.int .i64 0] 26) := ⟨_, rfl⟩
  have hB1 : Below w.heap.size w w1 := by rw [hw1]; exact (Below.refl _ _).alloc (Nat.le_refl _) _
  have hg1 : w1.heap[w.heap.size]? = some (.cells #[.int .i64 0] 26 (0, 0)) := by rw [hw1]; exact heap_alloc_new w _
  have hfinP : ∀ w2 (x : Int), Below w1.heap.size w1 w2 → Hid (w2.heap[w.heap.size]? = some (.cells #[.int .i64 0] 26 (0, 0)) ∧ Below w.heap.size w (w2.setCell ⟨w.heap.size, 0, none⟩ (.int .i64 x)) ∧ (w2.setCell ⟨w.heap.size, 0, none⟩ (.int .i64 x)).cell? ⟨w.heap.size, 0, none⟩ = some (.int .i64 x)) := fun w2 x hb => by
    have g2 := (hb.block _ (lt_there hg1)).trans hg1
    have hz := hB1.size
    exact ⟨g2, (hB1.trans (hb.mono (by omega))).setCell (Nat.le_refl _) _, cell_of_block (heap_setCell_same _ _ 0 _ _ (.int .i64 x) g2) (j := 0) (by simp)⟩
  have HFP := Hid.mk hfinP
  clear hfinP hB1 hg1
  by_cases hp : 255 < p.size
  · have hm : Hid (matchP p t = (false, 7)) := Hid.mk (by unfold matchP; rw [if_pos hp])
    have kr := read_long p w1 hp
    go_enter_defers Try.func9, Try.ntmps9
    go_wp2_with fail
    rw [← hw1]
    clear hw1
    refine kr.mono ?_
    rintro e w2 ⟨rfl, hb2⟩
    have HF := HFP.out w2 7 hb2
    refine leaves_cons (f := 12) (args := #[.pointer (some ⟨w.heap.size, 0, none⟩)]) (by simp) (by simp [go_sem]) ?_
    refine (mcatch_panic HF.out.1 7).mono ?_
    rintro e u' w3 ⟨rfl, rfl, rfl⟩
    have q2 := HF.out.2.2
    simp [Leaves, settle, results, Try.results9, go_sem, q2, hm.out]
    exact HF.out.2.1
  · have kr := read_ok p w1 (by omega)
    cases hpp : patP (ub p.data.toList) with
    | none =>
      have hm : Hid (matchP p t = (false, 190)) := Hid.mk (by unfold matchP; rw [if_neg hp, hpp])
      rw [hpp] at kr
      go_enter_defers Try.func9, Try.ntmps9
      go_wp2_with fail
      rw [← hw1]
      clear hw1
      refine kr.mono ?_
      rintro e w2 ⟨rfl, hb2⟩
      have HF := HFP.out w2 190 hb2
      refine leaves_cons (f := 12) (args := #[.pointer (some ⟨w.heap.size, 0, none⟩)]) (by simp) (by simp [go_sem]) ?_
      refine (mcatch_panic HF.out.1 190).mono ?_
      rintro e u' w3 ⟨rfl, rfl, rfl⟩
      have q2 := HF.out.2.2
      simp [Leaves, settle, results, Try.results9, go_sem, q2, hm.out]
      exact HF.out.2.1
    | some ps =>
      rw [hpp] at kr
      obtain ⟨hb1, hb2⟩ := pieces_many _ _ _ hpp
      have hul := ub_len p.data.toList
      have hsz := len_size p
      go_enter_defers Try.func9, Try.ntmps9
      go_wp2_with fail
      rw [← hw1]
      clear hw1
      refine kr.mono ?_
      rintro e w2 ⟨⟨a, n, c, rfl, hP⟩, hbl⟩
      have hba : Below w2.heap.size w2 (w2.alloc (.cells #[.string p, .slice a n c] 44)) := (Below.refl _ _).alloc (Nat.le_refl _) _
      have hg9 := heap_alloc_new w2 (.cells #[.string p, .slice a n c] 44)
      have hPa := hP.keep (Keeps.of_below (fun _ => False) hba) (fun _ _ _ h => h)
      obtain ⟨W3, hW3⟩ : ∃ W3, W3 = w2.alloc (.cells #[.string p, .slice a n c] 44) := ⟨_, rfl⟩
      rw [← hW3] at hba hg9 hPa
      have hb13 : Below w1.heap.size w1 W3 := hbl.trans (hba.mono hbl.size)
      have p0 : W3.cell? ⟨w2.heap.size, 0, none⟩ = some (.string p) := cell_of_block hg9 (j := 0) rfl
      have p1 : W3.cell? ⟨w2.heap.size, 1, none⟩ = some (.slice a n c) := cell_of_block hg9 (j := 1) rfl
      by_cases ht : 1023 < t.size
      · have hm : Hid (matchP p t = (false, 7)) := Hid.mk (by unfold matchP; rw [if_neg hp, hpp]; simp [ht])
        have ht' : 1023 < (t.size : Int) := by omega
        have HF := HFP.out W3 7 hb13
        rw [hW3] at HF
        clear hP hbl hba hg9 hPa hW3 hb13 kr p0 p1
        go_wp2_with fail
        refine (haltIf_tb _ 7 (by first | rfl | (simp; omega))).mono ?_
        rintro e w4 ⟨rfl, hw4⟩
        have hw4' := hw4.symm
        subst hw4'
        refine leaves_cons (f := 12) (args := #[.pointer (some ⟨w.heap.size, 0, none⟩)]) (by simp) (by simp [go_sem]) ?_
        refine (mcatch_panic HF.out.1 7).mono ?_
        rintro e u' w3 ⟨rfl, rfl, rfl⟩
        have q2 := HF.out.2.2
        simp [Leaves, settle, results, Try.results9, go_sem, q2, hm.out]
        exact HF.out.2.1
      · have hm : Hid (matchP p t = (fitsP ps (ub t.data.toList), 0)) := Hid.mk (by unfold matchP; rw [if_neg hp, hpp]; simp [ht])
        have ht' : ¬ 1023 < (t.size : Int) := by omega
        have kf := fits_any p t hPa (by omega) (fun q hq => by have := hb2 q hq; omega) (by omega)
        have HPB := Hid.mk hb13
        have HG9 := Hid.mk hg9
        rw [hW3] at kf p0 p1
        have HW3 := Hid.mk hW3
        clear hP hbl hba hg9 hPa hb13 kr hW3
        go_wp2_with fail
        refine (haltIf_fb _ 7 (by first | rfl | (simp; omega))).mono ?_
        rintro e w4 ⟨rfl, hw4⟩
        have hw4' := hw4.symm
        subst hw4'
        clear hw4
        go_wp2_with fail
        refine kf.mono ?_
        rintro e w5 ⟨rfl, hb5⟩
        rw [← HW3.out] at hb5
        have HF := HFP.out w5 0 (HPB.out.trans (hb5.mono HPB.out.size))
        have g5 := HF.out.1
        have c5 : w5.cell? ⟨w.heap.size, 0, none⟩ = some (.int .i64 0) := cell_of_block g5 (j := 0) rfl
        have f5 : w5.frozen? ⟨w.heap.size, 0, none⟩ = false := frozen_of_block g5 0
        have g6 := (heap_setCell_same _ _ 0 _ _ (.int .i64 0) g5).trans (by simp : _ = some (.cells #[.int .i64 0] 26 (0, 0)))
        have HG6 := Hid.mk g6
        clear kf hb5 p0 p1 g5 g6
        go_wp2
        refine leaves_cons (f := 12) (args := #[.pointer (some ⟨w.heap.size, 0, none⟩)]) (by simp) (by simp [go_sem]) ?_
        refine (mcatch_idle HG6.out).mono ?_
        rintro e u' w7 ⟨rfl, rfl, rfl⟩
        have g7 := (heap_setCell_same _ _ 0 _ _ (.int .i64 0) HG6.out).trans (by simp : _ = some (.cells #[.int .i64 0] 26 (0, 0)))
        have q2 := cell_of_block g7 (j := 0) rfl
        simp [Leaves, settle, results, Try.results9, go_sem, q2, hm.out]
        exact HF.out.2.1.setCell (Nat.le_refl _) _
end Go.Proofs.Ytkdjjnkhbmmfeaa
