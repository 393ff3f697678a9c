import Derived.Test.YtcpmapknmkholaaW04
import Derived.ChangeKeysEq
import Derived.Deep.Quiet
import Derived.BigQuiet
section
namespace Go.Proofs.Ytcpmapknmkholaa
open Go.RowKit

set_option maxRecDepth 20000 in
theorem within_any (x lo hi : Int) (w : World) : Calls Try.prog 37 #[.int .i64 x, .int .i64 lo, .int .i64 hi] w fun e w' => e = .returned (.bool (decide (lo ≤ x ∧ x ≤ hi))) ∧ w' = w := by
  by_cases h : lo ≤ x
  · by_cases h' : x ≤ hi
    · rw [decide_eq_true (And.intro h h')]
      go_enter Try.func37, Try.ntmps37
      go_wp2
      go_ret
      exact ⟨rfl, rfl⟩
    · rw [decide_eq_false (fun hh => h' hh.2)]
      go_enter Try.func37, Try.ntmps37
      go_wp2
      go_ret
      exact ⟨rfl, rfl⟩
  · rw [decide_eq_false (fun hh => h hh.1)]
    go_enter Try.func37, Try.ntmps37
    go_wp2
    go_ret
    exact ⟨rfl, rfl⟩
theorem nfit_any (k l p s o : Int) (d : Nat → Int) (w : World) :
    Calls Try.prog 22 #[nd k l p s o d] w fun e w' => Says (NFits k l p s o d) e ∧ Below w.heap.size w w' := by
  refine (nfit_low k l p s o d w _ _ _ _ _ (fun wx => within_any k 1 3 wx) (fun wx => within_any l 0 64 wx) (fun wx => parf_any k l p s o d wx) (fun wx => within_any s 0 8459264 wx) (fun wx => within_any o 0 2048 wx)).mono ?_
  rintro e w' ⟨⟨b, rfl, hb⟩, hw⟩
  refine ⟨⟨b, rfl, ?_⟩, hw⟩
  rw [hb]
  simp only [decide_eq_true_eq, par_iff, NFits]
  constructor
  · rintro ⟨⟨⟨⟨⟨h1, h2⟩, h3⟩, h4⟩, h5⟩, h6⟩
    exact ⟨h1, h2, h3, h4, h5, h6⟩
  · rintro ⟨h1, h2, h3, h4, h5, h6⟩
    exact ⟨⟨⟨⟨⟨h1, h2⟩, h3⟩, h4⟩, h5⟩, h6⟩

/-- The empty node. -/
def NNone (k l p s o : Int) (d : Nat → Int) : Prop := k = 0 ∧ l = 0 ∧ p = 0 ∧ s = 0 ∧ o = 0 ∧ ∀ i, i < 12 → d i = 0

end Go.Proofs.Ytcpmapknmkholaa
end

section
namespace Go.Proofs.Ytcpmapknmkholaa
open Go.RowKit

theorem fieldsNode : Try.prog.underlying 27 = some (.struct (Try.prog.fieldsOf 27)) := by kernel_rfl
theorem stoodNode : Try.prog.stoodInHeld 27 = false := by kernel_rfl
theorem eq_int (n : Nat) (a b : Int) (w : World) : (Op.equalIn (n + 1) 3 (.int .i64 a) (.int .i64 b)).run Try.prog w = .ok (a == b) w := by
  simp [Op.equalIn, go_sem]
theorem part_int (xs : Array Value) (off : Nat) (v : Value) (w : World) (h : xs[off]? = some v) : (part 3 xs off).run Try.prog w = .ok v w := run_part_plain (P := Try.prog) w (by kernel_rfl) h

set_option maxRecDepth 20000 in
set_option maxHeartbeats 4000000 in
theorem eq_ten (n : Nat) (d e : Nat → Int) (w : World) : ∃ b, (Op.equalIn (n + 2) 25 (.agg (ten d)) (.agg (ten e))).run Try.prog w = .ok b w ∧ (b = true ↔ ∀ i, i < 10 → d i = e i) := by
  obtain ⟨i0, hi⟩ := info_of_underlying (P := Try.prog) Try.underlying3
  rw [run_equalIn_array (P := Try.prog) w (n + 1) _ _ Try.underlying25 hi]
  have hce : Try.prog.cellsOf 3 = 1 := by kernel_rfl
  rw [hce, show List.range 10 = [0, 1, 2, 3, 4, 5, 6, 7, 8, 9] from rfl]
  have step : ∀ (xs ys : Array Value) (j : Nat) (a b : Int) (js : List Nat), xs[j]? = some (.int .i64 a) → ys[j]? = some (.int .i64 b) → (Op.eqItems (n + 1) 3 1 xs ys (j :: js)).run Try.prog w = if a = b then (Op.eqItems (n + 1) 3 1 xs ys js).run Try.prog w else .ok false w := by
    intro xs ys j a b js h1 h2
    simp only [Op.eqItems, Nat.mul_one, Sem.run_bind, part_int xs j _ w h1, part_int ys j _ w h2, Result.andThen_ok, eq_int]
    by_cases h : a = b
    · simp [h]
    · simp [h]
  rw [step _ _ 0 (d 0) (e 0) _ rfl rfl, step _ _ 1 (d 1) (e 1) _ rfl rfl, step _ _ 2 (d 2) (e 2) _ rfl rfl, step _ _ 3 (d 3) (e 3) _ rfl rfl, step _ _ 4 (d 4) (e 4) _ rfl rfl, step _ _ 5 (d 5) (e 5) _ rfl rfl, step _ _ 6 (d 6) (e 6) _ rfl rfl, step _ _ 7 (d 7) (e 7) _ rfl rfl, step _ _ 8 (d 8) (e 8) _ rfl rfl, step _ _ 9 (d 9) (e 9) _ rfl rfl]
  by_cases h : ∀ i, i < 10 → d i = e i
  · refine ⟨true, ?_, ⟨fun _ => h, fun _ => rfl⟩⟩
    rw [if_pos (h 0 (by omega)), if_pos (h 1 (by omega)), if_pos (h 2 (by omega)), if_pos (h 3 (by omega)), if_pos (h 4 (by omega)), if_pos (h 5 (by omega)), if_pos (h 6 (by omega)), if_pos (h 7 (by omega)), if_pos (h 8 (by omega)), if_pos (h 9 (by omega))]
    rfl
  · refine ⟨false, ?_, ⟨fun h => (by cases h), fun h' => absurd h' h⟩⟩
    repeat' split
    all_goals first | rfl | skip
    exfalso
    apply h
    intro i hi
    match i, hi with
    | 0, _ => assumption
    | 1, _ => assumption
    | 2, _ => assumption
    | 3, _ => assumption
    | 4, _ => assumption
    | 5, _ => assumption
    | 6, _ => assumption
    | 7, _ => assumption
    | 8, _ => assumption
    | 9, _ => assumption
end Go.Proofs.Ytcpmapknmkholaa
end

section
namespace Go.Proofs.Ytcpmapknmkholaa
open Go.RowKit

set_option maxRecDepth 20000 in
theorem part_ten (k l p s o : Int) (d : Nat → Int) (w : World) : (part 25 (ndc k l p s o d) 5).run Try.prog w = .ok (.agg (ten d)) w := by
  simp [go_sem]

/-- Two nodes are the same. -/
def NSame (k l p s o : Int) (d : Nat → Int) (k' l' p' s' o' : Int) (d' : Nat → Int) : Prop := k = k' ∧ l = l' ∧ p = p' ∧ s = s' ∧ o = o' ∧ ∀ i, i < 12 → d i = d' i

set_option maxRecDepth 20000 in
set_option maxHeartbeats 4000000 in
theorem eq_node (n : Nat) (k l p s o : Int) (d : Nat → Int) (k' l' p' s' o' : Int) (d' : Nat → Int) (w : World) : ∃ b, (Op.equalIn (n + 3) 27 (nd k l p s o d) (nd k' l' p' s' o' d')).run Try.prog w = .ok b w ∧ (b = true ↔ NSame k l p s o d k' l' p' s' o' d') := by
  rw [run_equalIn_struct (P := Try.prog) w (n + 2) _ _ _ fieldsNode stoodNode]
  have step : ∀ (xs ys : Array Value) (f : Field) (a b : Int) (fs : List Field), f.name ≠ "_" → f.type = 3 → xs[f.offset]? = some (.int .i64 a) → ys[f.offset]? = some (.int .i64 b) → (Op.eqFields (n + 2) xs ys (f :: fs)).run Try.prog w = if a = b then (Op.eqFields (n + 2) xs ys fs).run Try.prog w else .ok false w := by
    intro xs ys f a b fs hn ht h1 h2
    simp only [Op.eqFields, ht, if_pos hn, Sem.run_bind, part_int xs _ _ w h1, part_int ys _ _ w h2, Result.andThen_ok, eq_int]
    by_cases h : a = b
    · simp [h]
    · simp [h]
  obtain ⟨b10, h10, e10⟩ := eq_ten n d d' w
  have stepA : ∀ (f : Field) (fs : List Field), f.name ≠ "_" → f.type = 25 → f.offset = 5 → (Op.eqFields (n + 2) (ndc k l p s o d) (ndc k' l' p' s' o' d') (f :: fs)).run Try.prog w = if b10 = true then (Op.eqFields (n + 2) (ndc k l p s o d) (ndc k' l' p' s' o' d') fs).run Try.prog w else .ok false w := by
    intro f fs hn ht ho
    simp only [Op.eqFields, ht, ho, if_pos hn, Sem.run_bind, part_ten, Result.andThen_ok, h10]
    cases b10
    · simp
    · simp
  simp only [Program.fieldsOf, Try.underlying27]
  rw [step _ _ _ k k' _ (by decide) rfl rfl rfl, step _ _ _ l l' _ (by decide) rfl rfl rfl, step _ _ _ p p' _ (by decide) rfl rfl rfl, step _ _ _ s s' _ (by decide) rfl rfl rfl, step _ _ _ o o' _ (by decide) rfl rfl rfl, stepA _ _ (by decide) rfl rfl, step _ _ _ (d 10) (d' 10) _ (by decide) rfl rfl rfl, step _ _ _ (d 11) (d' 11) _ (by decide) rfl rfl rfl]
  by_cases h : NSame k l p s o d k' l' p' s' o' d'
  · refine ⟨true, ?_, ⟨fun _ => h, fun _ => rfl⟩⟩
    obtain ⟨h1, h2, h3, h4, h5, h6⟩ := h
    rw [if_pos h1, if_pos h2, if_pos h3, if_pos h4, if_pos h5, if_pos (e10.2 (fun i hi => h6 i (by omega))), if_pos (h6 10 (by omega)), if_pos (h6 11 (by omega))]
    rfl
  · refine ⟨false, ?_, ⟨fun h => (by cases h), fun h' => absurd h' h⟩⟩
    repeat' split
    all_goals first | rfl | skip
    exfalso
    rename_i h1 h2 h3 h4 h5 h6 h7 h8
    refine h ⟨h1, h2, h3, h4, h5, fun i hi => ?_⟩
    by_cases e : i = 10
    · rw [e]; exact h7
    · by_cases e' : i = 11
      · rw [e']; exact h8
      · exact e10.1 h6 i (by omega)
end Go.Proofs.Ytcpmapknmkholaa
end

section
namespace Go.Proofs.Ytcpmapknmkholaa
open Go.RowKit

theorem guardNode : Try.prog.eqGuardType Try.prog.depth 27 = false := by kernel_rfl
theorem eqop_node (k l p s o : Int) (d : Nat → Int) (k' l' p' s' o' : Int) (d' : Nat → Int) (w : World) (r : Bool) (hr : r = true ↔ NSame k l p s o d k' l' p' s' o' d') (x y : Operand) :
    (do eqGuard .eql 27 x y (nd k l p s o d) (nd k' l' p' s' o' d'); binOp .eql 27 (nd k l p s o d) (nd k' l' p' s' o' d')).run Try.prog w = .ok (.bool r) w := by
  obtain ⟨b, hb, hbi⟩ := eq_node 9997 k l p s o d k' l' p' s' o' d' w
  have e : b = r := by
    cases b <;> cases r <;> simp_all
  subst e
  rw [Sem.run_bind, run_eqGuard_agg (P := Try.prog) w .eql 27 x y _ _ guardNode, Result.andThen_ok]
  show (binOp .eql 27 (nd k l p s o d) (nd k' l' p' s' o' d')).run Try.prog w = _
  unfold binOp Op.equal Op.maxDepth
  rw [Sem.run_bind, hb, Result.andThen_ok, Sem.run_pure]
/-- Two nodes are compared, in a plain region. -/
theorem wpList_eq_node {ops : Array Oper} {rest : List Oper} {op : Oper} {a : Act} {w : World} {Q : Exit → Act → World → Prop} (hgd : op.guard = none) (x y : Operand) (T : TypeId) (ho : op.op = .binOp .eql 27 x y T)
    (k l p s o : Int) (d : Nat → Int) (k' l' p' s' o' : Int) (d' : Nat → Int) (hx : a.eval x = nd k l p s o d) (hy : a.eval y = nd k' l' p' s' o' d') (r : Bool) (hr : r = true ↔ NSame k l p s o d k' l' p' s' o' d')
    (h : wpList Try.prog ops Q rest (a.put op.dst (.bool r)) w) : wpList Try.prog ops Q (op :: rest) a w :=
  wpList_plain hgd fun K hK => by
    unfold Oper.wp execOp
    simp only [ho, hx, hy]
    have := eqop_node k l p s o d k' l' p' s' o' d' w r hr x y
    rw [Sem.run_bind, this]
    exact hK _ _ h
end Go.Proofs.Ytcpmapknmkholaa
end

section
namespace Go.Proofs.Ytcpmapknmkholaa
open Go.RowKit

theorem none_iff (k l p s o : Int) (d : Nat → Int) : NSame k l p s o d 0 0 0 0 0 (fun _ => 0) ↔ NNone k l p s o d := Iff.rfl
/-- 128 zeros. -/
def zeros128 : List Int := List.replicate 128 0
theorem zeros128_len : zeros128.length = 128 := List.length_replicate

set_option maxRecDepth 20000 in
set_option maxHeartbeats 4000000 in
theorem encnode_bad (k l p s o : Int) (d : Nat → Int) (w : World) (h0 : ¬ NNone k l p s o d) (hf : ¬ NFits k l p s o d) :
    Calls Try.prog 12 #[nd k l p s o d] w fun e w' => e = .returned (.tuple #[.slice none 0 0, .int .i64 20]) ∧ Below w.heap.size w w' := by
  obtain ⟨w1, hw1⟩ : ∃ w1, w1 = w.alloc (.cells (ndc k l p s o d) 27) := ⟨_, rfl⟩
  have hB1 : Below w.heap.size w w1 := by rw [hw1]; exact (Below.refl _ w).alloc (Nat.le_refl _) _
  have hq1 : w1.heap[w.heap.size]? = some (.cells (ndc k l p s o d) 27 (0, 0)) := by rw [hw1]; exact heap_alloc_new _ _
  have hl1 := range_of (cs := ndl k l p s o d) hq1
  have hfit := nfit_any k l p s o d w1
  rw [hw1] at hl1
  have Hl1 := Hid.mk hl1
  have He : Hid ((false = true) ↔ NSame k l p s o d 0 0 0 0 0 (fun _ => 0)) := ⟨fun h => (by cases h), fun h => absurd h h0⟩
  have Hf := Hid.mk hf
  have HB := Hid.mk hB1
  clear hl1 hq1 h0 hf hB1
  go_enter Try.func12, Try.ntmps12
  go_wp2_with (first | refine wpList_load_guard rfl 27 _ rfl w.heap.size 0 rfl (ndl k l p s o d) _ Hl1.out Try.underlying27 rfl infoNode ?_ | refine wpList_eq_node rfl _ _ _ rfl k l p s o d 0 0 0 0 0 (fun _ => 0) rfl rfl false He.out ?_)
  rw [← hw1]
  clear hw1 Hl1 He
  refine hfit.mono ?_
  rintro e w2 ⟨⟨b, rfl, hb⟩, hb2⟩
  have eb : b = false := Bool.eq_false_iff.2 (fun h => Hf.out (hb.1 h))
  subst eb
  have HB2 : Hid (Below w.heap.size w w2) := HB.out.trans (hb2.mono HB.out.size)
  clear hfit hb hb2 HB Hf
  go_wp2
  go_ret2
  exact ⟨rfl, HB2.out⟩

set_option maxRecDepth 20000 in
set_option maxHeartbeats 4000000 in
theorem encnode_none (k l p s o : Int) (d : Nat → Int) (w : World) (h0 : NNone k l p s o d) :
    Calls Try.prog 12 #[nd k l p s o d] w fun e w' => ∃ v, e = .returned (.tuple #[v, .int .i64 0]) ∧ Made w w' v zeros128 := by
  obtain ⟨i0, hi, hz0, hz1, hz2⟩ := info_parts infoU8
  have hl1 := range_of (w := w.alloc (.cells (ndc k l p s o d) 27)) (cs := ndl k l p s o d) (heap_alloc_new _ _)
  have Hl1 := Hid.mk hl1
  have He : Hid ((true = true) ↔ NSame k l p s o d 0 0 0 0 0 (fun _ => 0)) := ⟨fun _ => h0, fun _ => rfl⟩
  clear hl1 h0
  go_enter Try.func12, Try.ntmps12
  go_wp2_with (first | refine wpList_load_guard rfl 27 _ rfl w.heap.size 0 rfl (ndl k l p s o d) _ Hl1.out Try.underlying27 rfl infoNode ?_ | refine wpList_eq_node rfl _ _ _ rfl k l p s o d 0 0 0 0 0 (fun _ => 0) rfl rfl true He.out ?_ | (at_make; refine wpList_make_full _ rfl _ _ 36 rfl (w.heap.size + 1) 5 i0 (.int .u8 0) 1 Try.underlying36 hi hz0 hz1 _ _ _ _ 128 rfl rfl ?c1 ?c2 ?c3 ?c4 ?c5 ?_))
  case c4 => unfold maxLen; omega
  intro w3 hown hgrow
  have hr3 : RowAt w3 5 (w.heap.size + 1) 128 (bs zeros128) := made_row hown
  have hb3 : Below w.heap.size w w3 := ((Below.refl _ w).alloc (Nat.le_refl _) _).grown hgrow (by simp) (by intro k hk; cases hk)
  have HM : Hid (Made w w3 (.slice (some ⟨w.heap.size + 1, 0, none⟩) 128 128) zeros128) := ⟨w.heap.size + 1, 128, by rw [zeros128_len], by omega, hr3, hb3⟩
  clear hown hgrow hr3 hb3
  go_wp2
  go_ret2
  exact ⟨_, rfl, HM.out⟩
end Go.Proofs.Ytcpmapknmkholaa
end

section
namespace Go.Proofs.Ytcpmapknmkholaa
open Go.RowKit

/-- The pointers' bytes. -/
def ptrs (d : Nat → Nat) : Nat → List Int
  | 0 => []
  | n + 1 => ptrs d n ++ leb 4 (d n)
theorem ptrs_len (d : Nat → Nat) : ∀ n, (ptrs d n).length = 4 * n
  | 0 => rfl
  | n + 1 => by rw [ptrs, List.length_append, ptrs_len d n, leb_len]; omega
theorem ptrs_bytes (d : Nat → Nat) : ∀ n, Bytes (ptrs d n)
  | 0 => fun x hx => by cases hx
  | n + 1 => fun x hx => by
    rcases List.mem_append.1 hx with h | h
    · exact ptrs_bytes d n x h
    · exact leb_bytes 4 (d n) x h
def nb1 (k : Nat) : List Int := leb 1 k
def nb2 (k : Nat) : List Int := nb1 k ++ List.replicate 1 0
def nb3 (k l : Nat) : List Int := nb2 k ++ leb 2 l
def nb4 (k l p : Nat) : List Int := nb3 k l ++ leb 4 p
def nb5 (k l p s : Nat) : List Int := nb4 k l p ++ leb 8 s
def nb6 (k l p s o : Nat) : List Int := nb5 k l p s ++ leb 4 o
def nb7 (k l p s o : Nat) : List Int := nb6 k l p s o ++ List.replicate 4 0
def nb8 (k l p s o : Nat) (d : Nat → Nat) : List Int := nb7 k l p s o ++ ptrs d 10
def nb9 (k l p s o : Nat) (d : Nat → Nat) : List Int := nb8 k l p s o d ++ leb 4 (d 10)
def nb10 (k l p s o : Nat) (d : Nat → Nat) : List Int := nb9 k l p s o d ++ leb 4 (d 11)
/-- What a node holds ahead of its sum. -/
def nodeBody (k l p s o : Nat) (d : Nat → Nat) : List Int := nb10 k l p s o d ++ List.replicate 52 0
theorem nb1_len (k : Nat) : (nb1 k).length = 1 := leb_len 1 k
theorem nb2_len (k : Nat) : (nb2 k).length = 2 := by rw [nb2, List.length_append, nb1_len, List.length_replicate]
theorem nb3_len (k l : Nat) : (nb3 k l).length = 4 := by rw [nb3, List.length_append, nb2_len, leb_len]
theorem nb4_len (k l p : Nat) : (nb4 k l p).length = 8 := by rw [nb4, List.length_append, nb3_len, leb_len]
theorem nb5_len (k l p s : Nat) : (nb5 k l p s).length = 16 := by rw [nb5, List.length_append, nb4_len, leb_len]
theorem nb6_len (k l p s o : Nat) : (nb6 k l p s o).length = 20 := by rw [nb6, List.length_append, nb5_len, leb_len]
theorem nb7_len (k l p s o : Nat) : (nb7 k l p s o).length = 24 := by rw [nb7, List.length_append, nb6_len, List.length_replicate]
theorem nb8_len (k l p s o : Nat) (d : Nat → Nat) : (nb8 k l p s o d).length = 64 := by rw [nb8, List.length_append, nb7_len, ptrs_len]
theorem nb9_len (k l p s o : Nat) (d : Nat → Nat) : (nb9 k l p s o d).length = 68 := by rw [nb9, List.length_append, nb8_len, leb_len]
theorem nb10_len (k l p s o : Nat) (d : Nat → Nat) : (nb10 k l p s o d).length = 72 := by rw [nb10, List.length_append, nb9_len, leb_len]
theorem nodeBody_len (k l p s o : Nat) (d : Nat → Nat) : (nodeBody k l p s o d).length = 124 := by rw [nodeBody, List.length_append, nb10_len, List.length_replicate]
theorem bytes_app {a b : List Int} (ha : Bytes a) (hb : Bytes b) : Bytes (a ++ b) := fun x hx => by
  rcases List.mem_append.1 hx with h | h
  · exact ha x h
  · exact hb x h
theorem bytes_rep (n : Nat) : Bytes (List.replicate n 0) := fun x hx => by rw [(List.mem_replicate.1 hx).2]; omega
theorem nodeBody_bytes (k l p s o : Nat) (d : Nat → Nat) : Bytes (nodeBody k l p s o d) :=
  bytes_app (bytes_app (bytes_app (bytes_app (bytes_app (bytes_app (bytes_app (bytes_app (bytes_app (bytes_app (leb_bytes 1 k) (bytes_rep 1)) (leb_bytes 2 l)) (leb_bytes 4 p)) (leb_bytes 8 s)) (leb_bytes 4 o)) (bytes_rep 4)) (ptrs_bytes d 10)) (leb_bytes 4 (d 10))) (leb_bytes 4 (d 11))) (bytes_rep 52)
theorem infoTen : (Try.prog.info? 25).map (·.size) = some 10 := by kernel_rfl
abbrev tenl (d : Nat → Int) : List Value := [.int .i64 (d 0), .int .i64 (d 1), .int .i64 (d 2), .int .i64 (d 3), .int .i64 (d 4), .int .i64 (d 5), .int .i64 (d 6), .int .i64 (d 7), .int .i64 (d 8), .int .i64 (d 9)]
theorem range_ten {w : World} {g : Nat} {k l p s o : Int} {d : Nat → Int} (h : w.heap[g]? = some (.cells (ndc k l p s o d) 27 (0, 0))) : w.rangeAt g 5 (tenl d) := fun j v hv => by
  have e : (ndc k l p s o d)[5 + j]? = some v := by
    match j, hv with
    | 0, hv => exact hv
    | 1, hv => exact hv
    | 2, hv => exact hv
    | 3, hv => exact hv
    | 4, hv => exact hv
    | 5, hv => exact hv
    | 6, hv => exact hv
    | 7, hv => exact hv
    | 8, hv => exact hv
    | 9, hv => exact hv
    | j + 10, hv => simp at hv
  exact cell_of_block h e

set_option maxRecDepth 20000 in
set_option maxHeartbeats 8000000 in
theorem encnode_ok (k l p s o : Nat) (d : Nat → Nat) (w : World) (hf : NFits k l p s o (fun i => (d i : Int))) :
    Calls Try.prog 12 #[nd k l p s o (fun i => (d i : Int))] w fun e w' => ∃ v, e = .returned (.tuple #[v, .int .i64 0]) ∧ Made w w' v (sealed (nodeBody k l p s o d)) := by
  obtain ⟨w1, hw1⟩ : ∃ w1, w1 = w.alloc (.cells (ndc k l p s o (fun i => (d i : Int))) 27) := ⟨_, rfl⟩
  have hB1 : Below w.heap.size w w1 := by rw [hw1]; exact (Below.refl _ w).alloc (Nat.le_refl _) _
  have hq1 : w1.heap[w.heap.size]? = some (.cells (ndc k l p s o (fun i => (d i : Int))) 27 (0, 0)) := by rw [hw1]; exact heap_alloc_new _ _
  have hl1 := range_of (cs := ndl k l p s o (fun i => (d i : Int))) hq1
  have hfit := nfit_any k l p s o (fun i => (d i : Int)) w1
  rw [hw1] at hl1
  have Hl1 := Hid.mk hl1
  have hd : ∀ i, i < 12 → d i ≤ 2047 := fun i hi => by have h : 0 ≤ (d i : Int) ∧ (d i : Int) ≤ 2047 := (pf_iff _).1 (hf.2.2.2.2.2 i hi); omega
  have hk3 : k ≤ 3 := by have := hf.1.2; omega
  have hl64 : l ≤ 64 := by have := hf.2.1.2; omega
  have hp1 : p ≤ 1024 := by rcases hf.2.2.1 with h | h <;> omega
  have hs1 : s ≤ 8459264 := by have := hf.2.2.2.1.2; omega
  have ho1 : o ≤ 2048 := by have := hf.2.2.2.2.1.2; omega
  have He : Hid ((false = true) ↔ NSame k l p s o (fun i => (d i : Int)) 0 0 0 0 0 (fun _ => 0)) := ⟨fun h => (by cases h), fun h => by have := h.1; have := hf.1.1; omega⟩
  have Hf := Hid.mk hf
  have HB := Hid.mk (And.intro hB1 hq1)
  have Hd := Hid.mk hd
  clear hl1 hq1 hf hB1 hd
  go_enter Try.func12, Try.ntmps12
  go_wp2_with (first | refine wpList_load_guard rfl 27 _ rfl w.heap.size 0 rfl (ndl k l p s o (fun i => (d i : Int))) _ Hl1.out Try.underlying27 rfl infoNode ?_ | refine wpList_eq_node rfl _ _ _ rfl k l p s o (fun i => (d i : Int)) 0 0 0 0 0 (fun _ => 0) rfl rfl false He.out ?_)
  rw [← hw1]
  clear hw1 Hl1 He
  refine hfit.mono ?_
  rintro e w2 ⟨⟨b, rfl, hb⟩, hb2⟩
  have eb : b = true := hb.2 Hf.out
  subst eb
  have hB2 : Below w.heap.size w w2 := HB.out.1.trans (hb2.mono HB.out.1.size)
  have hq2 := (hb2.block w.heap.size (Array.getElem?_eq_some_iff.1 HB.out.2).1).trans HB.out.2
  have hql : w.heap.size < w2.heap.size := (Array.getElem?_eq_some_iff.1 hq2).1
  have hnew := WAt.new w2
  have hB3 : Below w.heap.size w (w2.alloc (.cells #[.slice none 0 0] 59)) := hB2.alloc hB2.size _
  have hq3 : (w2.alloc (.cells #[.slice none 0 0] 59)).heap[w.heap.size]? = some (.cells (ndc k l p s o (fun i => (d i : Int))) 27 (0, 0)) := (Below.heap_alloc _ _ _ hql).trans hq2
  have c1 := cell_of_block hq2 (j := 0) rfl
  have hne : ¬ w.heap.size = w2.heap.size := by omega
  have hN : Calls Try.prog 23 #[.pointer (some ⟨w2.heap.size, 0, none⟩), .int .i64 (k : Int), .int .i64 1] (w2.alloc (.cells #[.slice none 0 0] 59)) fun e w' => e = .returned (.tuple #[]) ∧ WAt w' w2.heap.size w2.heap.size (nb1 k) ∧ Below w2.heap.size (w2.alloc (.cells #[.slice none 0 0] 59)) w' := wnumber_any _ _ [] k 1 _ hnew (by decide) (by omega)
  have HO := Hid.mk (And.intro hB3 hq3)
  clear hfit hb hb2 HB Hf hB2 hq2 hnew hB3 hq3
  go_wp2_with fail
  refine hN.mono ?_
  rintro e w3 ⟨rfl, hat, hb⟩
  have hO : Below w.heap.size w w3 ∧ w3.heap[w.heap.size]? = some (.cells (ndc k l p s o (fun i => (d i : Int))) 27 (0, 0)) := ⟨HO.out.1.trans (hb.mono (by omega)), (hb.block _ hql).trans HO.out.2⟩
  clear hN hb c1 HO
  have hN : Calls Try.prog 24 #[.pointer (some ⟨w2.heap.size, 0, none⟩), .int .i64 2] w3 fun e w' => e = .returned (.tuple #[]) ∧ WAt w' w2.heap.size w2.heap.size (nb2 k) ∧ Below w2.heap.size w3 w' := by
    have := wzeros_any _ _ _ 1 w3 hat (by rw [nb1_len]; omega) (by rw [nb1_len]; omega)
    rw [nb1_len] at this
    exact this
  have HO := Hid.mk hO
  clear hat hO
  go_wp2_with fail
  refine hN.mono ?_
  rintro e w4 ⟨rfl, hat, hb⟩
  have hO : Below w.heap.size w w4 ∧ w4.heap[w.heap.size]? = some (.cells (ndc k l p s o (fun i => (d i : Int))) 27 (0, 0)) := ⟨HO.out.1.trans (hb.mono (by omega)), (hb.block _ hql).trans HO.out.2⟩
  clear hN hb HO
  have c1 := cell_of_block hO.2 (j := 1) rfl
  have hN : Calls Try.prog 23 #[.pointer (some ⟨w2.heap.size, 0, none⟩), .int .i64 (l : Int), .int .i64 2] w4 fun e w' => e = .returned (.tuple #[]) ∧ WAt w' w2.heap.size w2.heap.size (nb3 k l) ∧ Below w2.heap.size w4 w' := wnumber_any _ _ _ l 2 w4 hat (by rw [nb2_len]; omega) (by omega)
  have HO := Hid.mk hO
  clear hat hO
  go_wp2_with fail
  refine hN.mono ?_
  rintro e w5 ⟨rfl, hat, hb⟩
  have hO : Below w.heap.size w w5 ∧ w5.heap[w.heap.size]? = some (.cells (ndc k l p s o (fun i => (d i : Int))) 27 (0, 0)) := ⟨HO.out.1.trans (hb.mono (by omega)), (hb.block _ hql).trans HO.out.2⟩
  clear hN hb HO
  clear c1
  have c1 := cell_of_block hO.2 (j := 2) rfl
  have hN : Calls Try.prog 23 #[.pointer (some ⟨w2.heap.size, 0, none⟩), .int .i64 (p : Int), .int .i64 4] w5 fun e w' => e = .returned (.tuple #[]) ∧ WAt w' w2.heap.size w2.heap.size (nb4 k l p) ∧ Below w2.heap.size w5 w' := wnumber_any _ _ _ p 4 w5 hat (by rw [nb3_len]; omega) (by omega)
  have HO := Hid.mk hO
  clear hat hO
  go_wp2_with fail
  refine hN.mono ?_
  rintro e w6 ⟨rfl, hat, hb⟩
  have hO : Below w.heap.size w w6 ∧ w6.heap[w.heap.size]? = some (.cells (ndc k l p s o (fun i => (d i : Int))) 27 (0, 0)) := ⟨HO.out.1.trans (hb.mono (by omega)), (hb.block _ hql).trans HO.out.2⟩
  clear hN hb HO
  clear c1
  have c1 := cell_of_block hO.2 (j := 3) rfl
  have hN : Calls Try.prog 23 #[.pointer (some ⟨w2.heap.size, 0, none⟩), .int .i64 (s : Int), .int .i64 8] w6 fun e w' => e = .returned (.tuple #[]) ∧ WAt w' w2.heap.size w2.heap.size (nb5 k l p s) ∧ Below w2.heap.size w6 w' := wnumber_any _ _ _ s 8 w6 hat (by rw [nb4_len]; omega) (by omega)
  have HO := Hid.mk hO
  clear hat hO
  go_wp2_with fail
  refine hN.mono ?_
  rintro e w7 ⟨rfl, hat, hb⟩
  have hO : Below w.heap.size w w7 ∧ w7.heap[w.heap.size]? = some (.cells (ndc k l p s o (fun i => (d i : Int))) 27 (0, 0)) := ⟨HO.out.1.trans (hb.mono (by omega)), (hb.block _ hql).trans HO.out.2⟩
  clear hN hb HO
  clear c1
  have c1 := cell_of_block hO.2 (j := 4) rfl
  have hN : Calls Try.prog 23 #[.pointer (some ⟨w2.heap.size, 0, none⟩), .int .i64 (o : Int), .int .i64 4] w7 fun e w' => e = .returned (.tuple #[]) ∧ WAt w' w2.heap.size w2.heap.size (nb6 k l p s o) ∧ Below w2.heap.size w7 w' := wnumber_any _ _ _ o 4 w7 hat (by rw [nb5_len]; omega) (by omega)
  have HO := Hid.mk hO
  clear hat hO
  go_wp2_with fail
  refine hN.mono ?_
  rintro e w8 ⟨rfl, hat, hb⟩
  have hO : Below w.heap.size w w8 ∧ w8.heap[w.heap.size]? = some (.cells (ndc k l p s o (fun i => (d i : Int))) 27 (0, 0)) := ⟨HO.out.1.trans (hb.mono (by omega)), (hb.block _ hql).trans HO.out.2⟩
  clear hN hb HO
  clear c1
  have hN : Calls Try.prog 24 #[.pointer (some ⟨w2.heap.size, 0, none⟩), .int .i64 24] w8 fun e w' => e = .returned (.tuple #[]) ∧ WAt w' w2.heap.size w2.heap.size (nb7 k l p s o) ∧ Below w2.heap.size w8 w' := by
    have := wzeros_any _ _ _ 4 w8 hat (by rw [nb6_len]; omega) (by rw [nb6_len]; omega)
    rw [nb6_len] at this
    exact this
  have HO := Hid.mk hO
  clear hat hO
  go_wp2_with fail
  refine hN.mono ?_
  rintro e w9 ⟨rfl, hat, hb⟩
  have hO : Below w.heap.size w w9 ∧ w9.heap[w.heap.size]? = some (.cells (ndc k l p s o (fun i => (d i : Int))) 27 (0, 0)) := ⟨HO.out.1.trans (hb.mono (by omega)), (hb.block _ hql).trans HO.out.2⟩
  clear hN hb HO
  have hr := range_ten hO.2
  have HL : Hid (Below w.heap.size w w9 ∧ w9.heap[w.heap.size]? = some (.cells (ndc k l p s o (fun i => (d i : Int))) 27 (0, 0)) ∧ WAt w9 w2.heap.size w2.heap.size (nb7 k l p s o ++ ptrs d 0)) := ⟨hO.1, hO.2, by rw [ptrs, List.append_nil]; exact hat⟩
  clear hat hO
  go_wp2_with (refine wpList_load_guard rfl 25 _ rfl w.heap.size 5 rfl (tenl (fun i => (d i : Int))) _ hr Try.underlying25 rfl infoTen ?_)
  clear hr
  go_loopw [33] (fun i wr => ∃ j : Nat, j ≤ 10 ∧ i = .int .i64 j ∧ Below w.heap.size w wr ∧ wr.heap[w.heap.size]? = some (.cells (ndc k l p s o (fun i => (d i : Int))) 27 (0, 0)) ∧ WAt wr w2.heap.size w2.heap.size (nb7 k l p s o ++ ptrs d j)) (fun i _ => 10 - (intOf i).toNat)
  case atStart => exact ⟨0, Nat.zero_le _, rfl, HL.out⟩
  case round =>
    clear HL
    obtain ⟨j, hj, rfl, hBr, hqr, hat⟩ := hrel
    by_cases hlt : j < 10
    · have hlt' : (j : Int) < 10 := by omega
      have hix := ten_at (fun i => (d i : Int)) j hlt wr
      have hdj := Hd.out j (by omega)
      have hN : Calls Try.prog 23 #[.pointer (some ⟨w2.heap.size, 0, none⟩), .int .i64 (d j : Int), .int .i64 4] wr fun e w' => e = .returned (.tuple #[]) ∧ WAt w' w2.heap.size w2.heap.size (nb7 k l p s o ++ ptrs d j ++ leb 4 (d j)) ∧ Below w2.heap.size wr w' := wnumber_any _ _ _ (d j) 4 wr hat (by rw [List.length_append, nb7_len, ptrs_len]; omega) (by omega)
      have HO := Hid.mk (And.intro hBr hqr)
      clear hat hBr hqr hdj
      go_wp2_with fail
      refine hN.mono ?_
      rintro e wn ⟨rfl, hat, hb⟩
      have HL : Hid (Below w.heap.size w wn ∧ wn.heap[w.heap.size]? = some (.cells (ndc k l p s o (fun i => (d i : Int))) 27 (0, 0)) ∧ WAt wn w2.heap.size w2.heap.size (nb7 k l p s o ++ ptrs d (j + 1))) := ⟨HO.out.1.trans (hb.mono (by omega)), (hb.block _ hql).trans HO.out.2, by rw [ptrs, ← List.append_assoc]; exact hat⟩
      clear hN hb HO hix hat
      go_wp2
      go_roundw
      case rel => exact ⟨j + 1, by omega, by go_num, HL.out⟩
      case measure => simp [intOf]; omega
    · have hlt' : ¬ (j : Int) < 10 := by omega
      have ej : j = 10 := by omega
      subst ej
      have hat8 : WAt wr w2.heap.size w2.heap.size (nb8 k l p s o d) := hat
      have hO : Below w.heap.size w wr ∧ wr.heap[w.heap.size]? = some (.cells (ndc k l p s o (fun i => (d i : Int))) 27 (0, 0)) := ⟨hBr, hqr⟩
      have hat := hat8
      have hd10 := Hd.out 10 (by omega)
      have hd11 := Hd.out 11 (by omega)
      clear hat8 hBr hqr
      have c1 := cell_of_block hO.2 (j := 15) rfl
      have hN : Calls Try.prog 23 #[.pointer (some ⟨w2.heap.size, 0, none⟩), .int .i64 ((d 10 : Nat) : Int), .int .i64 4] wr fun e w' => e = .returned (.tuple #[]) ∧ WAt w' w2.heap.size w2.heap.size (nb9 k l p s o d) ∧ Below w2.heap.size wr w' := wnumber_any _ _ _ (d 10) 4 wr hat (by rw [nb8_len]; omega) (by omega)
      have HO := Hid.mk hO
      clear hat hO
      go_wp2_with fail
      refine hN.mono ?_
      rintro e w21 ⟨rfl, hat, hb⟩
      have hO : Below w.heap.size w w21 ∧ w21.heap[w.heap.size]? = some (.cells (ndc k l p s o (fun i => (d i : Int))) 27 (0, 0)) := ⟨HO.out.1.trans (hb.mono (by omega)), (hb.block _ hql).trans HO.out.2⟩
      clear hN hb HO
      clear c1
      have c1 := cell_of_block hO.2 (j := 16) rfl
      have hN : Calls Try.prog 23 #[.pointer (some ⟨w2.heap.size, 0, none⟩), .int .i64 ((d 11 : Nat) : Int), .int .i64 4] w21 fun e w' => e = .returned (.tuple #[]) ∧ WAt w' w2.heap.size w2.heap.size (nb10 k l p s o d) ∧ Below w2.heap.size w21 w' := wnumber_any _ _ _ (d 11) 4 w21 hat (by rw [nb9_len]; omega) (by omega)
      have HO := Hid.mk hO
      clear hat hO
      go_wp2_with fail
      refine hN.mono ?_
      rintro e w22 ⟨rfl, hat, hb⟩
      have hO : Below w.heap.size w w22 ∧ w22.heap[w.heap.size]? = some (.cells (ndc k l p s o (fun i => (d i : Int))) 27 (0, 0)) := ⟨HO.out.1.trans (hb.mono (by omega)), (hb.block _ hql).trans HO.out.2⟩
      clear hN hb HO
      clear c1
      have hN : Calls Try.prog 24 #[.pointer (some ⟨w2.heap.size, 0, none⟩), .int .i64 124] w22 fun e w' => e = .returned (.tuple #[]) ∧ WAt w' w2.heap.size w2.heap.size (nodeBody k l p s o d) ∧ Below w2.heap.size w22 w' := by
        have := wzeros_any _ _ _ 52 w22 hat (by rw [nb10_len]; omega) (by rw [nb10_len]; omega)
        rw [nb10_len] at this
        exact this
      have HO := Hid.mk hO
      clear hat hO
      go_wp2_with fail
      refine hN.mono ?_
      rintro e w23 ⟨rfl, hat, hb⟩
      have hO : Below w.heap.size w w23 ∧ w23.heap[w.heap.size]? = some (.cells (ndc k l p s o (fun i => (d i : Int))) 27 (0, 0)) := ⟨HO.out.1.trans (hb.mono (by omega)), (hb.block _ hql).trans HO.out.2⟩
      clear hN hb HO
      have hN := wsummed_any _ _ _ w23 hat (by rw [nodeBody_len]; decide) (by rw [nodeBody_len]; decide) (nodeBody_bytes k l p s o d)
      rw [nodeBody_len] at hN
      have HO := Hid.mk hO
      clear hat hO
      go_wp2_with fail
      refine hN.mono ?_
      rintro e w9 ⟨g, c, rfl, hg, hr, hb⟩
      have HF : Hid (Made w w9 (.slice (some ⟨g, 0, none⟩) 128 c) (sealed (nodeBody k l p s o d))) := ⟨g, c, by rw [sealed_len, nodeBody_len], by omega, hr, HO.out.1.trans (hb.mono (by omega))⟩
      clear hN hr hb HO
      go_wp2
      go_ret2
      exact ⟨_, rfl, HF.out⟩
end Go.Proofs.Ytcpmapknmkholaa
end

section
namespace Go.Proofs.Ytcpmapknmkholaa
open Go.RowKit

/-- A world that is the first but for what is new. -/
structure Later (w : World) where
  to : World
  h : Below w.heap.size w to

theorem below_drew {B : Nat} {a w : World} (h : Below B a w) : Below B a w.drew := ⟨h.os, h.tape, h.output, h.size, h.block⟩

theorem Later.some (w : World) : Nonempty (Later w) := ⟨⟨w, Below.refl _ _⟩⟩

/-- A region that draws its order, whose callees make memory but change none. -/
theorem wp_region_later {P : Program} {id : Nat} {Q : Exit → Act → World → Prop} {a : Act} {w : World} {l : List Oper} (hm : P.follows .mixedOrders = true) (hB : Region.lexB .any l.toArray = true)
    (h : wpQuiet P l.toArray (fun w' => ∃ q : Later w, w' = q.to) (fun a' => ∀ w', (∃ q : Later w, w' = q.to) → Q .normal a' w') l a) : (Code.region id l.toArray true).wp P Q a w :=
  wp_region_quiet (C := fun w' => ∃ q : Later w, w' = q.to) hm hB ⟨⟨w.drew, below_drew (Below.refl _ _)⟩, rfl⟩ (by simpa using h)

/-- A callee's contract, met in a later world. -/
theorem Calls.later_of {P : Program} {f : FuncId} {args : Array Value} {w : World} {q : Later w} {v : Value}
    (h : Calls P f args q.to fun e w' => e = .returned v ∧ Below q.to.heap.size q.to w') : Calls P f args q.to fun e w'' => e = .returned v ∧ ∃ q' : Later w, w'' = q'.to :=
  h.mono fun _ w' ⟨he, hm⟩ => ⟨he, ⟨w', q.h.trans (hm.mono q.h.size)⟩, rfl⟩
end Go.Proofs.Ytcpmapknmkholaa
end

section
namespace Go.Proofs.Ytcpmapknmkholaa
open Go.RowKit

theorem must_t (w : World) : Calls Try.prog 45 #[.bool true] w fun e w' => e = .returned (.tuple #[]) ∧ w' = w := by
  go_enter Try.func45, Try.ntmps45
  go_wp2
  go_end0
  exact ⟨rfl, rfl⟩
/-- How a reader gives up. -/
abbrev gaveUp : List PanicEntry := [{ v := .iface 37 (.int .i64 6), recovered := false }]
theorem must_f (w : World) : Calls Try.prog 45 #[.bool false] w fun e w' => e = .panicked gaveUp ∧ w' = w := by
  go_enter Try.func45, Try.ntmps45
  go_wp2
  exact ⟨rfl, rfl, rfl⟩

/-- A reader at p, over the bytes at b, o; its place k. -/
def RdAt (w : World) (p b o n c k : Nat) : Prop := w.heap[p]? = some (.cells #[.slice (some ⟨b, o, none⟩) n c, .int .i64 (k : Int)] 84 (0, 0))

set_option maxHeartbeats 2000000 in
theorem take_ok (p b o n c k m : Nat) (w : World) (h : RdAt w p b o n c k) (hk : k + m ≤ n) (hn : n ≤ c) (hkc : k < c) (hc : n ≤ 1000000) (hcc : c ≤ 9223372036854775807) :
    Calls Try.prog 51 #[.pointer (some ⟨p, 0, none⟩), .int .i64 (m : Int)] w fun e w' => e = .returned (.slice (some ⟨b, o + k, none⟩) m (c - k)) ∧ RdAt w' p b o n c (k + m) ∧ Keeps (fun j => j = p) w w' := by
  have c0 := cell_of_block h (j := 0) rfl
  have c1 := cell_of_block h (j := 1) rfl
  have f1 := frozen_of_block h 1
  have hle : decide ((m : Int) ≤ (n : Int) - (k : Int)) = true := by simp; omega
  have hle' : (m : Int) ≤ (n : Int) - (k : Int) := by omega
  have hw1 : IntKind.i64.wrap ((n : Int) - (k : Int)) = (n : Int) - (k : Int) := by rw [IntKind.wrap_i64]; omega
  have hset := heap_setCell_same _ _ 1 _ _ (.int .i64 ((k : Int) + (m : Int))) h
  have HR : Hid (RdAt (w.setCell ⟨p, 1, none⟩ (.int .i64 ((k : Int) + (m : Int)))) p b o n c (k + m)) := by
    show RdAt _ _ _ _ _ _ _
    unfold RdAt
    rw [hset]
    simp
  have HK := Hid.mk (Keeps.setCell (F := fun j => j = p) (p := ⟨p, 1, none⟩) w rfl (.int .i64 ((k : Int) + (m : Int))))
  have hm := must_t
  clear h hset
  go_enter Try.func51, Try.ntmps51
  go_wp2_with fail
  go_quiet (first | (go_at_call 45; exact Calls.quiet_of_same (hm _)))
  go_wp2
  have b1 : (0 : Int) ≤ (k : Int) := by omega
  have b2 : (k : Int) ≤ (k : Int) + (m : Int) := by omega
  have b3 : (k : Int) + (m : Int) ≤ (c : Int) := by omega
  have b4 : ¬ c = k := by omega
  go_quiet (fail)
  go_wp2
  go_ret
  exact ⟨congrArg (fun z => Ending.returned (Value.slice (some ⟨b, o + k, none⟩) z (c - k))) (Nat.add_sub_cancel_left k m), HR.out, ⟨HK.out.os, HK.out.tape, HK.out.output, HK.out.size, HK.out.block⟩⟩

theorem or_wrap (i A X : Nat) (hA : A < 2 ^ i) (h : A + 2 ^ i * X < 18446744073709551616) :
    bits .or .i64 (wrap64 (A : Int)) (wrap64 ((2 ^ i * X : Nat) : Int)) = wrap64 ((A + 2 ^ i * X : Nat) : Int) := by
  have q : ∀ z : Nat, z < 18446744073709551616 → (BitVec.ofInt 64 (wrap64 (z : Int))).toNat = z := by
    intro z hz
    rw [BitVec.toNat_ofInt]
    unfold wrap64
    omega
  have h1 : A < 18446744073709551616 := by omega
  have h2 : 2 ^ i * X < 18446744073709551616 := by omega
  show IntKind.i64.wrap ((BitVec.ofInt 64 (wrap64 (A : Int)) ||| BitVec.ofInt 64 (wrap64 ((2 ^ i * X : Nat) : Int))).toNat : Int) = _
  rw [BitVec.toNat_or, q A h1, q _ h2, Nat.or_comm, ← Nat.two_pow_add_eq_or_of_lt hA X, Nat.add_comm, IntKind.wrap_i64]
  unfold wrap64
  rfl

theorem shl_pow (x : Int) (k : Nat) (hk : k < 8) : (x * 2 ^ min ((8 * (k : Int)).toNat) 64) = x * 2 ^ (8 * k) := by
  congr 2
  omega

theorem le_take_succ {l : List Int} {k : Nat} (hk : k < l.length) (_hb : Bytes l) : le (l.take (k + 1)) = le (l.take k) + 2 ^ (8 * k) * (l.getD k 0).toNat := by
  rw [List.take_succ_eq_append_getElem hk, le_append]
  have : (l.take k).length = k := by simp; omega
  rw [this]
  simp [le, List.getD, hk]

/-- The bytes from k on. -/
def part (l : List Int) (k m : Nat) : List Int := (l.drop k).take m
theorem part_len {l : List Int} {k m : Nat} (h : k + m ≤ l.length) : (part l k m).length = m := by simp [part]; omega
theorem part_bytes {l : List Int} (h : Bytes l) (k m : Nat) : Bytes (part l k m) := fun x hx => h x (List.mem_of_mem_drop (List.mem_of_mem_take hx))
theorem part_at {l : List Int} {k m i : Nat} (hi : i < m) : (part l k m).getD i 0 = l.getD (k + i) 0 := by simp [part, List.getD, hi]

/-- A reader over bytes that stay as they are. -/
structure Rd (w : World) (p b o c k : Nat) (l : List Int) : Prop where
  rd : RdAt w p b o l.length c k
  ne : b ≠ p
  src : ∀ i, i < l.length → w.cell? ⟨b, o + i, none⟩ = some (.int .u8 (l.getD i 0))
  bytes : Bytes l
  small : l.length ≤ 1000000
  cap : l.length ≤ c
  huge : c ≤ 9223372036854775807
  old : 0 < l.length → b < w.heap.size

theorem Rd.keep {w w' : World} {p b o c k k' : Nat} {l : List Int} (h : Rd w p b o c k l) (hr : RdAt w' p b o l.length c k') (hk : Keeps (fun j => j = p) w w') : Rd w' p b o c k' l :=
  ⟨hr, h.ne, fun i hi => by
    have hb := h.old (by omega)
    exact (World.cell?_of_block (w := w) (a := ⟨b, o + i, none⟩) (hk.block b hb h.ne)).trans (h.src i hi), h.bytes, h.small, h.cap, h.huge, fun h0 => Nat.lt_of_lt_of_le (h.old h0) hk.size⟩
theorem Rd.far {w w' : World} {p b o c k : Nat} {l : List Int} (h : Rd w p b o c k l) (hb : Below w.heap.size w w') : Rd w' p b o c k l := by
  have hpl : p < w.heap.size := (Array.getElem?_eq_some_iff.1 h.rd).1
  exact ⟨(hb.block p hpl).trans h.rd, h.ne, fun i hi => cell_later hb (h.src i hi), h.bytes, h.small, h.cap, h.huge, fun h0 => Nat.lt_of_lt_of_le (h.old h0) hb.size⟩

set_option maxHeartbeats 2000000 in
theorem rnumber_any (p b o c k m : Nat) (l : List Int) (w : World) (h : Rd w p b o c k l) (hk : k + m ≤ l.length) (hkc : k < c) (hm : m ≤ 8) :
    Calls Try.prog 42 #[.pointer (some ⟨p, 0, none⟩), .int .i64 (m : Int)] w fun e w' => e = .returned (.int .i64 (wrap64 ((le (part l k m) : Nat) : Int))) ∧ Rd w' p b o c (k + m) l ∧ Keeps (fun j => j = p) w w' := by
  have ht := take_ok p b o l.length c k m w h.rd hk h.cap hkc h.small h.huge
  have H := Hid.mk h
  clear h
  go_enter Try.func42, Try.ntmps42
  go_wp2_with fail
  refine ht.mono ?_
  rintro e w1 ⟨rfl, hr1, hk1⟩
  have h1 := H.out.keep hr1 hk1
  have H1 := Hid.mk (And.intro h1 hk1)
  have hpl := part_len hk
  clear ht hr1 hk1 h1
  go_wp2
  go_loopw [5, 12] (fun r i wr => ∃ j : Nat, j ≤ m ∧ i = .int .i64 j ∧ wr = w1 ∧ r = .int .i64 (wrap64 ((le ((part l k m).take j) : Nat) : Int))) (fun _ i _ => m - (intOf i).toNat)
  case atStart => exact ⟨0, Nat.zero_le _, rfl, rfl, by simp [le, wrap64]⟩
  case round =>
    obtain ⟨j, hj, rfl, rfl, rfl⟩ := hrel
    by_cases hlt : j < m
    · have hlt' : (j : Int) < (m : Int) := by omega
      have hc := H1.out.1.src (k + j) (by omega)
      rw [← part_at (l := l) (k := k) hlt, ← Nat.add_assoc] at hc
      obtain ⟨x, hx, hx1⟩ : ∃ x : Nat, (part l k m).getD j 0 = (x : Int) ∧ x < 256 := by
        have := part_bytes H1.out.1.bytes k m (part l k m)[j] (List.getElem_mem (by omega))
        refine ⟨((part l k m).getD j 0).toNat, ?_, ?_⟩ <;> simp [List.getD, hpl, hlt] <;> omega
      have hsucc := le_take_succ (l := part l k m) (k := j) (by omega) (part_bytes H1.out.1.bytes k m)
      have hA : le ((part l k m).take j) < 2 ^ (8 * j) := by
        have := le_lt (l := (part l k m).take j) (fun y hy => part_bytes H1.out.1.bytes k m y (List.mem_of_mem_take hy))
        have e : ((part l k m).take j).length = j := by simp; omega
        rwa [e] at this
      have hB : le ((part l k m).take (j + 1)) < 18446744073709551616 := by
        have := le_lt (l := (part l k m).take (j + 1)) (fun y hy => part_bytes H1.out.1.bytes k m y (List.mem_of_mem_take hy))
        have e : ((part l k m).take (j + 1)).length = j + 1 := by simp; omega
        rw [e] at this
        exact Nat.lt_of_lt_of_le this (by have := Nat.pow_le_pow_right (show 0 < 2 by omega) (show 8 * (j + 1) ≤ 64 by omega); simpa using this)
      rw [hx] at hc hsucc
      simp only [Int.toNat_natCast] at hsucc
      rw [hsucc] at hB
      have hor := or_wrap (8 * j) _ x hA hB
      rw [← hsucc] at hor
      have hsh := shl_pow (x : Int) j (by omega)
      have hsh2 : ((x : Int) * 2 ^ (8 * j)) = ((2 ^ (8 * j) * x : Nat) : Int) := by rw [Int.natCast_mul, Int.natCast_pow, Int.mul_comm]; rfl
      have hcast : ((2 ^ (8 * j) * x : Nat) : Int) = 2 ^ (8 * j) * (x : Int) := by rw [Int.natCast_mul, Int.natCast_pow]; rfl
      rw [hcast] at hor
      have Hor := Hid.mk hor
      have hnn : (0 : Int) ≤ 8 * (j : Int) := by omega
      clear hA hB hsucc hor hcast
      go_wp2
      go_roundw
      case rel => exact ⟨j + 1, by omega, by go_num, trivial, by rw [Hor.out]⟩
      case measure => simp [intOf]; omega
    · have hlt' : ¬ (j : Int) < (m : Int) := by omega
      have ej : (part l k m).take j = part l k m := List.take_of_length_le (by omega)
      rw [ej] at *
      go_wp2
      go_ret
      exact ⟨rfl, H1.out⟩

/-- All zeros. -/
def Zeros (l : List Int) : Prop := ∀ x ∈ l, x = 0

/-- What empty answers. -/
def EmptyOut (l : List Int) (e : Ending) : Prop := ∃ x, e = .returned (.bool x) ∧ (x = true ↔ Zeros l)

set_option maxHeartbeats 2000000 in
theorem empty_low (b o n c : Nat) (l : List Int) (w : World) (hl : l.length = n) (hn : n ≤ 1000000) (hs : ∀ i, i < n → w.cell? ⟨b, o + i, none⟩ = some (.int .u8 (l.getD i 0))) :
    Calls Try.prog 28 #[.slice (some ⟨b, o, none⟩) n c] w fun e w' => EmptyOut l e ∧ w' = w := by
  have Hs := Hid.mk hs
  clear hs
  go_enter Try.func28, Try.ntmps28
  go_wp2
  go_loopw [7] (fun i wr => ∃ k : Nat, k ≤ n ∧ i = .int .i64 k ∧ wr = w ∧ ∀ j, j < k → l.getD j 0 = 0) (fun i _ => n - (intOf i).toNat)
  case atStart => exact ⟨0, Nat.zero_le _, rfl, rfl, fun j hj => by omega⟩
  case round =>
    obtain ⟨k, hk, rfl, rfl, hz⟩ := hrel
    have Hz := Hid.mk hz
    clear hz
    by_cases hlt : k < n
    · have hlt' : (k : Int) < (n : Int) := by omega
      have hc := Hs.out k hlt
      by_cases hx : l.getD k 0 = 0
      · have Hx := Hid.mk hx
        rw [hx] at hc
        clear hx
        go_wp2
        go_roundw
        case rel =>
          refine ⟨k + 1, by omega, by go_num, trivial, fun j hj => ?_⟩
          by_cases e : j = k
          · rw [e]; exact Hx.out
          · exact Hz.out j (by omega)
        case measure => simp [intOf]; omega
      · have hx' : (l.getD k 0 != 0) = true := by rw [bne_iff_ne]; exact hx
        have HF : Hid (¬ Zeros l) := fun h => absurd (h (l.getD k 0) (by simp [List.getD, hl, hlt])) hx
        generalize l.getD k 0 = X at *
        clear hx
        go_wp2
        go_ret
        exact ⟨⟨_, rfl, ⟨(fun h => by cases h), fun h => absurd h HF.out⟩⟩, rfl⟩
    · have hlt' : ¬ (k : Int) < (n : Int) := by omega
      have HF : Hid (Zeros l) := fun x hx => by
        obtain ⟨j, hj, e⟩ := List.mem_iff_getElem.1 hx
        have := Hz.out j (by omega)
        rw [← e]
        simpa [List.getD, hj] using this
      go_wp2
      go_ret
      exact ⟨⟨_, rfl, ⟨fun _ => HF.out, fun _ => rfl⟩⟩, rfl⟩

theorem Rd.part {w : World} {p b o c k : Nat} {l : List Int} (h : Rd w p b o c k l) {q m : Nat} (hq : q + m ≤ l.length) : ∀ i, i < m → w.cell? ⟨b, o + q + i, none⟩ = some (.int .u8 ((part l q m).getD i 0)) := fun i hi => by
  rw [part_at hi, Nat.add_assoc]
  exact h.src (q + i) (by omega)

set_option maxHeartbeats 2000000 in
theorem rzeros_ok (p b o c k m : Nat) (l : List Int) (w : World) (h : Rd w p b o c k l) (hk : k + m ≤ l.length) (hkc : k < c) (hz : Zeros (part l k m)) :
    Calls Try.prog 43 #[.pointer (some ⟨p, 0, none⟩), .int .i64 ((k + m : Nat) : Int)] w fun e w' => e = .returned (.tuple #[]) ∧ Rd w' p b o c (k + m) l ∧ Keeps (fun j => j = p) w w' := by
  have c1 := cell_of_block h.rd (j := 1) rfl
  have ht := take_ok p b o l.length c k m w h.rd hk h.cap hkc h.small h.huge
  have es : ((k + m : Nat) : Int) - (k : Int) = (m : Int) := by omega
  have hml : (m : Int) ≤ 1000000 := by have := h.small; omega
  have H := Hid.mk h
  have hm := must_t
  have hsm := h.small
  clear h
  generalize hN : k + m = N at *
  go_enter Try.func43, Try.ntmps43
  go_wp2_with fail
  refine ht.mono ?_
  rintro e w1 ⟨rfl, hr1, hk1⟩
  have h1 := H.out.keep hr1 hk1
  have he := empty_low b (o + k) m (c - k) (part l k m) w1 (part_len (by omega)) (by omega) (h1.part (by omega))
  have H1 := Hid.mk (And.intro h1 hk1)
  have hZ := Hid.mk hz
  clear ht hr1 hk1 h1 hz
  go_wp2_with fail
  refine he.mono ?_
  rintro e w2 ⟨⟨x, rfl, hx⟩, hw⟩
  have hw' := hw.symm
  subst hw'
  have hx' : x = true := hx.2 hZ.out
  subst hx'
  clear he hx hw
  go_wp2_with fail
  refine (hm _).mono ?_
  rintro e w3 ⟨rfl, hw⟩
  have hw' := hw.symm
  subst hw'
  clear hw hm
  go_wp2
  go_end0
  exact ⟨rfl, H1.out⟩

set_option maxHeartbeats 2000000 in
theorem rzeros_no (p b o c k m : Nat) (l : List Int) (w : World) (h : Rd w p b o c k l) (hk : k + m ≤ l.length) (hkc : k < c) (hz : ¬ Zeros (part l k m)) :
    Calls Try.prog 43 #[.pointer (some ⟨p, 0, none⟩), .int .i64 ((k + m : Nat) : Int)] w fun e w' => e = .panicked gaveUp ∧ Keeps (fun j => j = p) w w' := by
  have c1 := cell_of_block h.rd (j := 1) rfl
  have ht := take_ok p b o l.length c k m w h.rd hk h.cap hkc h.small h.huge
  have es : ((k + m : Nat) : Int) - (k : Int) = (m : Int) := by omega
  have hml : (m : Int) ≤ 1000000 := by have := h.small; omega
  have H := Hid.mk h
  have hm := must_f
  have hsm := h.small
  clear h
  generalize hN : k + m = N at *
  go_enter Try.func43, Try.ntmps43
  go_wp2_with fail
  refine ht.mono ?_
  rintro e w1 ⟨rfl, hr1, hk1⟩
  have h1 := H.out.keep hr1 hk1
  have he := empty_low b (o + k) m (c - k) (part l k m) w1 (part_len (by omega)) (by omega) (h1.part (by omega))
  have H1 := Hid.mk (And.intro h1 hk1)
  have hZ := Hid.mk hz
  clear ht hr1 hk1 h1 hz
  go_wp2_with fail
  refine he.mono ?_
  rintro e w2 ⟨⟨x, rfl, hx⟩, hw⟩
  have hw' := hw.symm
  subst hw'
  have hx' : x = false := by
    cases x with
    | false => rfl
    | true => exact absurd (hx.1 rfl) hZ.out
  subst hx'
  clear he hx hw
  go_wp2_with fail
  refine (hm _).mono ?_
  rintro e w3 ⟨rfl, hw⟩
  have hw' := hw.symm
  subst hw'
  clear hw hm
  go_wp2
  exact ⟨rfl, rfl, H1.out.2⟩

end Go.Proofs.Ytcpmapknmkholaa
end
