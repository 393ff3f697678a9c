import Derived.Test.YtokcgifpljeoiaaGreatV08
import Derived.RangeFuncNested
import Derived.RangeFuncBound
import Derived.RangeFuncCalls
import Derived.RangeFuncLeaves
import Derived.Shelf.Abstract
import Derived.Shelf.RegionOpen
import Derived.OwnWalkIn
import Derived.TacticsInMore
import Derived.LoopNIn
import Derived.LoopIn
import Derived.Deep.AppendLies
import Derived.OrdersHeld
import Derived.Deep.RegionHeld
section
namespace Go.Proofs.YtokcgifpljeoiaaGreat

/-- Whether a piece is the one that is due. -/
def isB (q : PC) (E P i c : Nat) : Bool := decide (q.e = E ∧ q.p = P ∧ q.i = i ∧ q.c = c ∧ 0 < q.d.length ∧ (i + 1 ≠ c → q.d.length = 492) ∧ 1 ≤ c ∧ c ≤ 17)
theorem isB_iff {q : PC} {E P i c : Nat} : isB q E P i c = true ↔ q.ok E P i c ∧ 1 ≤ c ∧ c ≤ 17 := by
  unfold isB PC.ok
  rw [decide_eq_true_iff]
  constructor
  · rintro ⟨h1, h2, h3, h4, h5, h6, h7, h8⟩; exact ⟨⟨h1, h2, h3, h4, h5, h6⟩, h7, h8⟩
  · rintro ⟨⟨h1, h2, h3, h4, h5, h6⟩, h7, h8⟩; exact ⟨h1, h2, h3, h4, h5, h6, h7, h8⟩

/-- The state of the program's scan. -/
structure SS where
  rs : List (List Int)
  rc : List Int
  hd : Nat
  ps : Nat
  j : Nat
  c : Nat

section
variable (R : Nat → PC) (E T n : Nat)
def SS.due (st : SS) (x : Nat) : Nat := if st.j = 0 then (R ((T + x) % n)).c else st.c
def SS.goes (st : SS) (x : Nat) : Bool := isB (R ((T + x) % n)) E (T + x) st.j (st.due R T n x)
def SS.next (st : SS) (x : Nat) : SS :=
  if (R ((T + x) % n)).i + 1 = (R ((T + x) % n)).c then ⟨st.rs ++ [st.rc ++ (R ((T + x) % n)).d], [], T + x + 1, T + x, 0, st.due R T n x⟩
  else ⟨st.rs, st.rc ++ (R ((T + x) % n)).d, st.hd, T + x, st.j + 1, st.due R T n x⟩
def SS.start : SS := ⟨[], [], T, 0, 0, 0⟩
def srun : List Nat → SS → Option SS
  | [], st => some st
  | x :: xs, st => if st.goes R E T n x = true then srun xs (st.next R T n x) else none
end

theorem srun_snoc (R : Nat → PC) (E T n : Nat) : ∀ (xs : List Nat) (st st' : SS) (x : Nat), srun R E T n xs st = some st' → st'.goes R E T n x = true → srun R E T n (xs ++ [x]) st = some (st'.next R T n x)
  | [], st, st', x, h, hg => by
    cases h
    show (if _ then _ else _) = _
    rw [if_pos hg]
    rfl
  | y :: ys, st, st', x, h, hg => by
    show (if st.goes R E T n y = true then srun R E T n (ys ++ [x]) (st.next R T n y) else none) = _
    unfold srun at h
    split at h
    · rename_i h1
      rw [if_pos h1]
      exact srun_snoc R E T n ys _ st' x h hg
    · cases h
theorem srun_split (R : Nat → PC) (E T n : Nat) : ∀ (xs : List Nat) (st st' : SS) (x : Nat), srun R E T n (xs ++ [x]) st = some st' → ∃ s1, srun R E T n xs st = some s1 ∧ s1.goes R E T n x = true ∧ st' = s1.next R T n x
  | [], st, st', x, h => by
    have h : (if st.goes R E T n x = true then srun R E T n [] (st.next R T n x) else none) = some st' := h
    split at h
    · rename_i h1
      cases h
      exact ⟨st, rfl, h1, rfl⟩
    · cases h
  | y :: ys, st, st', x, h => by
    have h : (if st.goes R E T n y = true then srun R E T n (ys ++ [x]) (st.next R T n y) else none) = some st' := h
    split at h
    · rename_i h1
      obtain ⟨s1, h2, h3, h4⟩ := srun_split R E T n ys _ st' x h
      refine ⟨s1, ?_, h3, h4⟩
      show (if _ then _ else _) = _
      rw [if_pos h1]
      exact h2
    · cases h

theorem srun_small (R : Nat → PC) (E T n : Nat) (hd : ∀ i, (R i).d.length ≤ 492) (hc : ∀ i, (R i).c ≤ 65536) : ∀ (k : Nat) (xs : List Nat) (st : SS), xs.length = k → srun R E T n xs (SS.start T) = some st → st.rs.length ≤ k ∧ st.rc.length ≤ 492 * k ∧ st.j ≤ k ∧ st.c ≤ 65536
  | 0, xs, st, hl, h => by
    obtain rfl := List.eq_nil_of_length_eq_zero hl
    cases h
    exact ⟨Nat.le_refl _, Nat.le_refl _, Nat.le_refl _, Nat.zero_le _⟩
  | k + 1, xs, st, hl, h => by
    obtain ⟨ys, x, rfl⟩ : ∃ ys x, xs = ys ++ [x] := by
      have hne : xs ≠ [] := by intro e; rw [e] at hl; cases hl
      exact ⟨xs.dropLast, xs.getLast hne, (List.dropLast_concat_getLast hne).symm⟩
    obtain ⟨s1, h1, h2, rfl⟩ := srun_split R E T n ys _ st x h
    have ih := srun_small R E T n hd hc k ys s1 (by simpa using hl) h1
    have h3 := hd ((T + x) % n)
    have h4 := hc ((T + x) % n)
    have h5 : s1.due R T n x ≤ 65536 := by unfold SS.due; split <;> omega
    unfold SS.next
    split
    · refine ⟨?_, ?_, ?_, h5⟩
      · simp; omega
      · simp
      · simp
    · refine ⟨?_, ?_, ?_, h5⟩
      · show s1.rs.length ≤ _; omega
      · show (s1.rc ++ _).length ≤ _; rw [List.length_append]; omega
      · show s1.j + 1 ≤ _; omega

/-- What the pieces say, by position. -/
def Rp (R : Nat → PC) (n : Nat) (P : Nat) : PC := R (P % n)
theorem Rp_round (R : Nat → PC) (n : Nat) (q : Nat) : Rp R n (q + n) = Rp R n q := by unfold Rp; rw [Nat.add_mod_right]
theorem SS.due_eq (R : Nat → PC) (T n : Nat) {st : SS} {k : Nat} (hk : st.hd + st.j = T + k) : st.due R T n k = dueC (Rp R n) st.hd st.j st.c := by
  unfold SS.due dueC
  split
  · rename_i h
    rw [show T + k = st.hd by omega]
    rfl
  · rfl
theorem srun_scan (R : Nat → PC) (E T n : Nat) : ∀ (k : Nat) (st : SS), srun R E T n (List.range k) (SS.start T) = some st → Scan (Rp R n) E T st.rs st.hd st.j st.c st.rc ∧ st.hd + st.j = T + k
  | 0, st, h => by
    cases h
    exact ⟨Scan.start _ _ _ _, rfl⟩
  | k + 1, st, h => by
    rw [List.range_succ] at h
    obtain ⟨s1, h1, h2, rfl⟩ := srun_split R E T n _ _ st k h
    obtain ⟨hs, hp⟩ := srun_scan R E T n k s1 h1
    have hd := SS.due_eq R T n hp
    unfold SS.goes at h2
    rw [isB_iff, hd, ← hp] at h2
    have hq : R ((s1.hd + s1.j) % n) = Rp R n (s1.hd + s1.j) := rfl
    rw [hq] at h2
    unfold SS.next
    rw [hd, ← hp, hq, h2.1.2.2.1, h2.1.2.2.2.1]
    split
    · rename_i h3
      refine ⟨hs.full h2.1 h2.2.2 h3 _, by show s1.hd + s1.j + 1 + 0 = _; omega⟩
    · rename_i h3
      have hlt : s1.j < dueC (Rp R n) s1.hd s1.j s1.c := by
        by_cases e : s1.j = 0
        · rw [e] at h2 ⊢; omega
        · have := (hs.c (by omega)).2.2
          unfold dueC
          rw [if_neg e]
          exact this
      refine ⟨hs.grow h2.1 h2.2.1 h2.2.2 h3 hlt, by show s1.hd + (s1.j + 1) = _; omega⟩
/-- The scan's end, where a piece is not the one that is due. -/
theorem scan_stop (R : Nat → PC) (E T n k : Nat) (st : SS) (h : srun R E T n (List.range k) (SS.start T) = some st) (hg : st.goes R E T n k = false) : Tells (Rp R n) E T st.rs st.hd ∧ ∀ c d, ¬ Rec (Rp R n) E st.hd c d := by
  obtain ⟨hs, hp⟩ := srun_scan R E T n k st h
  refine ⟨hs.t, hs.ends (fun hk => ?_)⟩
  unfold SS.goes at hg
  rw [(SS.due_eq R T n hp), ← hp] at hg
  have := (isB_iff (q := Rp R n (st.hd + st.j))).2 hk
  rw [show R ((st.hd + st.j) % n) = Rp R n (st.hd + st.j) from rfl, this] at hg
  cases hg
/-- The scan's end, once around. -/
theorem scan_done (R : Nat → PC) (E T n : Nat) (hn : 1 ≤ n) (st : SS) (h : srun R E T n (List.range n) (SS.start T) = some st) : Tells (Rp R n) E T st.rs st.hd ∧ ∀ c d, ¬ Rec (Rp R n) E st.hd c d := by
  obtain ⟨hs, hp⟩ := srun_scan R E T n n st h
  exact ⟨hs.t, hs.round hn (Rp_round R n) hp⟩
end Go.Proofs.YtokcgifpljeoiaaGreat
end

section
namespace Go.Proofs.YtokcgifpljeoiaaGreat
open Go.RowKit

abbrev markV (e q i c : Int) : Value := .agg #[.int .i64 e, .int .i64 q, .int .i64 i, .int .i64 c]

set_option maxRecDepth 20000 in
set_option maxHeartbeats 4000000 in
theorem last_any (e q i c : Nat) (w : World) (hc : c ≤ 100000) :
    Calls Tryz.prog 147 #[markV e q i c] w fun r w' => r = .returned (.bool (decide (i + 1 = c))) ∧ Below w.heap.size w w' := by
  have hd : decide (i + 1 = c) = ((i : Int) == (c : Int) - 1) := by
    rw [Bool.eq_iff_iff]
    simp only [decide_eq_true_eq, beq_iff_eq]
    omega
  rw [hd]
  go_enter Tryz.func147, Tryz.ntmps147
  go_wp2
  go_ret
  exact ⟨rfl, (Hid.mk (below_box w (.cells #[.int .i64 (e : Int), .int .i64 (q : Int), .int .i64 (i : Int), .int .i64 (c : Int)] 181))).out⟩

set_option maxRecDepth 20000 in
set_option maxHeartbeats 4000000 in
theorem is_no (q : PC) (a : Option Addr) (n k : Nat) (E P i c : Nat) (w : World) (h : ¬ (q.e = E ∧ q.p = P ∧ q.i = i ∧ q.c = c)) :
    Calls Tryz.prog 146 #[pieceV q.e q.p q.i q.c a n k, markV E P i c] w fun r w' => r = .returned (.bool false) ∧ Below w.heap.size w w' := by
  go_enter Tryz.func146, Tryz.ntmps146
  go_wp2
  all_goals first | (go_ret; exact ⟨rfl, below_two _ _ _⟩) | (exfalso; omega)

set_option maxRecDepth 20000 in
set_option maxHeartbeats 4000000 in
theorem is_yes (e p i c : Nat) (d : List Int) (a : Option Addr) (k : Nat) (w : World) :
    Calls Tryz.prog 146 #[pieceV e p i c a d.length k, markV e p i c] w fun r w' => r = .returned (.bool (isB ⟨e, p, i, c, d⟩ e p i c)) ∧ Below w.heap.size w w' := by
  by_cases h1 : c < 1
  · have h1' : (c : Int) < 1 := by omega
    rw [show isB ⟨e, p, i, c, d⟩ e p i c = false by unfold isB; rw [decide_eq_false_iff_not]; omega]
    go_enter Tryz.func146, Tryz.ntmps146
    go_wp2
    go_ret
    exact ⟨rfl, below_two _ _ _⟩
  · have h1' : ¬ (c : Int) < 1 := by omega
    by_cases h2 : 17 < c
    · have h2' : 17 < (c : Int) := by omega
      rw [show isB ⟨e, p, i, c, d⟩ e p i c = false by unfold isB; rw [decide_eq_false_iff_not]; omega]
      go_enter Tryz.func146, Tryz.ntmps146
      go_wp2
      go_ret
      exact ⟨rfl, below_two _ _ _⟩
    · have h2' : ¬ 17 < (c : Int) := by omega
      have hl := fun wx => last_any e p i c wx (by omega)
      have HB := Hid.mk (below_two w (.cells (pieceC e p i c a d.length k) 187) (.cells #[.int .i64 (e : Int), .int .i64 (p : Int), .int .i64 (i : Int), .int .i64 (c : Int)] 181))
      have hx0 : ((w.alloc (.cells (pieceC e p i c a d.length k) 187)).alloc (.cells #[.int .i64 (e : Int), .int .i64 (p : Int), .int .i64 (i : Int), .int .i64 (c : Int)] 181)).heap[w.heap.size]? = some (.cells (pieceC e p i c a d.length k) 187 (0, 0)) := (Below.heap_alloc _ _ _ (by simp)).trans (heap_alloc_new _ _)
      have HX := Hid.mk hx0
      by_cases h3 : i + 1 = c
      · rw [show isB ⟨e, p, i, c, d⟩ e p i c = decide (0 < d.length) by unfold isB; rw [decide_eq_decide]; constructor; (intro h; exact h.2.2.2.2.1); (intro h; exact ⟨rfl, rfl, rfl, rfl, h, fun h' => absurd h3 h', by omega, by omega⟩)]
        rw [show decide (i + 1 = c) = true by rw [decide_eq_true_eq]; exact h3] at hl
        go_enter Tryz.func146, Tryz.ntmps146
        go_wp2_with fail
        refine (hl _).mono ?_
        rintro r w1 ⟨rfl, hb1⟩
        have c4 : w1.cell? ⟨w.heap.size, 4, none⟩ = some (.slice a d.length k) := cell_of_block ((hb1.block _ (by simp; omega)).trans HX.out) (j := 4) rfl
        go_wp2
        go_ret
        exact ⟨rfl, (Hid.mk (HB.out.trans (hb1.mono HB.out.size))).out⟩
      · rw [show isB ⟨e, p, i, c, d⟩ e p i c = ((d.length : Int) == 492) by unfold isB; rw [Bool.eq_iff_iff]; rw [decide_eq_true_iff, beq_iff_eq]; constructor; (intro h; have : d.length = 492 := h.2.2.2.2.2.1 h3; omega); (intro h; exact ⟨rfl, rfl, rfl, rfl, by show 0 < d.length; omega, fun _ => by show d.length = 492; omega, by omega, by omega⟩)]
        rw [show decide (i + 1 = c) = false by rw [decide_eq_false_iff_not]; exact h3] at hl
        go_enter Tryz.func146, Tryz.ntmps146
        go_wp2_with fail
        refine (hl _).mono ?_
        rintro r w1 ⟨rfl, hb1⟩
        have c4 : w1.cell? ⟨w.heap.size, 4, none⟩ = some (.slice a d.length k) := cell_of_block ((hb1.block _ (by simp; omega)).trans HX.out) (j := 4) rfl
        go_wp2
        go_ret
        exact ⟨rfl, (Hid.mk (HB.out.trans (hb1.mono HB.out.size))).out⟩

theorem is_any (q : PC) (a : Option Addr) (k : Nat) (E P i c : Nat) (w : World) :
    Calls Tryz.prog 146 #[pieceV q.e q.p q.i q.c a q.d.length k, markV E P i c] w fun r w' => r = .returned (.bool (isB q E P i c)) ∧ Below w.heap.size w w' := by
  by_cases h : q.e = E ∧ q.p = P ∧ q.i = i ∧ q.c = c
  · obtain ⟨rfl, rfl, rfl, rfl⟩ := h
    exact is_yes q.e q.p q.i q.c q.d a k w
  · rw [show isB q E P i c = false by unfold isB; rw [decide_eq_false_iff_not]; exact fun h' => h ⟨h'.1, h'.2.1, h'.2.2.1, h'.2.2.2.1⟩]
    exact is_no q a q.d.length k E P i c w h
end Go.Proofs.YtokcgifpljeoiaaGreat
end

section
namespace Go.Proofs.YtokcgifpljeoiaaGreat
open Go.RowKit Go.Shelf

attribute [local go_sem] Oper.semAt_some

/-- What a round keeps: what lay below n₀, and the iterator's own boxes. -/
def KpB (n₀ b c : Nat) (W W' : World) : Prop := Below n₀ W W' ∧ W'.heap[b]? = W.heap[b]? ∧ W'.heap[c]? = W.heap[c]?
theorem KpB.t {n₀ b c : Nat} {A B C : World} (h : KpB n₀ b c A B) (k : KpB n₀ b c B C) : KpB n₀ b c A C := ⟨h.1.trans k.1, k.2.1.trans h.2.1, k.2.2.trans h.2.2⟩
theorem KpB.b {n₀ b c : Nat} {w : World} (hn : n₀ ≤ w.heap.size) (hb : b < w.heap.size) (hc : c < w.heap.size) (W : World) (l : Nat) (o o' : Obj) (hl : w.heap.size ≤ l) (h : W.heap[l]? = some o) (h1 : o.isCells = false) (h2 : o.isWalk = false) : KpB n₀ b c W (W.putObj l o') :=
  ⟨belowK_b hn W l o o' hl h h1 h2, World.putObj_heap_other (by omega), World.putObj_heap_other (by omega)⟩
theorem KpB.refl (n₀ b c : Nat) (W : World) : KpB n₀ b c W W := ⟨Below.refl _ _, rfl, rfl⟩

/-- The pieces of a ring, as they lie: where their data are. -/
structure RingV (w : World) (n₀ g n : Nat) (R : Nat → PC) (A : Nat → Option Addr) (C : Nat → Nat) : Prop where
  lt : g < n₀
  p : ∀ i, i < n → w.rangeAt g (i * 5) (pieceC ((R i).e : Int) ((R i).p : Int) ((R i).i : Int) ((R i).c : Int) (A i) (R i).d.length (C i)).toList
theorem RingV.below {w w' : World} {n₀ g n : Nat} {R : Nat → PC} {A : Nat → Option Addr} {C : Nat → Nat} (h : RingV w n₀ g n R A C) (hb : Below n₀ w w') : RingV w' n₀ g n R A C :=
  ⟨h.lt, fun i hi j v hv => (hb.cell (p := ⟨g, i * 5 + j, none⟩) h.lt).trans (h.p i hi j v hv)⟩

set_option maxRecDepth 20000 in
set_option maxHeartbeats 4000000 in
theorem from_any (g n T : Nat) (w : World) :
    Calls Tryz.prog 145 #[.slice (some ⟨g, 0, none⟩) n n, .int .i64 (T : Int)] w fun e w' => e = .returned (.func (.func 175) #[] #[.pointer (some ⟨w.heap.size, 0, none⟩), .pointer (some ⟨w.heap.size + 1, 0, none⟩)]) ∧ w' = (w.alloc (.cells #[.slice (some ⟨g, 0, none⟩) n n] 165)).alloc (.cells #[.int .i64 (T : Int)] 3) := by
  go_enter Tryz.func145, Tryz.ntmps145
  go_wp2
  go_ret
  exact ⟨rfl, rfl⟩

/-- What is handed to the loop's body. -/
def encR (n T : Nat) (R : Nat → PC) (A : Nat → Option Addr) (C : Nat → Nat) (x : Fin n) : Array Value :=
  #[.int .i64 ((T : Int) + (x.1 : Int)), pieceV ((R ((T + x.1) % n)).e : Int) ((R ((T + x.1) % n)).p : Int) ((R ((T + x.1) % n)).i : Int) ((R ((T + x.1) % n)).c : Int) (A ((T + x.1) % n)) (R ((T + x.1) % n)).d.length (C ((T + x.1) % n))]

/-- The first k, in their order. -/
def InO {n : Nat} (xs : List (Fin n)) (k : Nat) : Prop := xs.map Fin.val = List.range k
theorem InO.nil {n : Nat} : InO ([] : List (Fin n)) 0 := rfl
theorem InO.length {n : Nat} {xs : List (Fin n)} {k : Nat} (h : InO xs k) : xs.length = k := by have := congrArg List.length h; simpa using this
theorem InO.snoc {n : Nat} {xs : List (Fin n)} {k : Nat} (h : InO xs k) (hk : k < n) : InO (xs ++ [⟨k, hk⟩]) (k + 1) := by
  unfold InO at *
  rw [List.map_append, h, List.range_succ]
  rfl
theorem round_bool {F : Fence} {n : Nat} {P : Program} {l f : Nat} {tmps : Array Value} {assign body : Code} {w : World} {A B : World → Prop}
    (h : RoundIn F n P l f tmps assign body w fun e W' => (e = .returned (.bool true) ∧ A W') ∨ (e = .returned (.bool false) ∧ B W')) :
    RoundIn F n P l f tmps assign body w fun e W' => ∃ r, e = .returned (.bool r) ∧ (r = true → A W') ∧ (r = false → B W') :=
  h.mono fun e W' h => by
    rcases h with ⟨rfl, h⟩ | ⟨rfl, h⟩
    · exact ⟨true, rfl, fun _ => h, fun e => by cases e⟩
    · exact ⟨false, rfl, fun e => (by cases e), fun _ => h⟩

set_option maxRecDepth 100000 in
set_option maxHeartbeats 4000000 in
theorem from1_in (m : Nat) (hm : 1 ≤ m) (l Bs Bp n₀ g n T : Nat) (R : Nat → PC) (A : Nat → Option Addr) (C : Nat → Nat) (hn : 1 ≤ n) (hn2 : n ≤ 256) (hT : T ≤ 1073741824) (J Jx : List (Fin n) → World → Prop)
    (hY : ∀ pre (x : Fin n) W, J pre W → pre.length < n → YieldAt Fence.wide (m - 1) Tryz.prog l (encR n T R A C x) W fun e W' =>
      (e = .returned (.bool true) ∧ J (pre ++ [x]) W' ∧ KpB n₀ Bs Bp W W') ∨ (e = .returned (.bool false) ∧ Jx (pre ++ [x]) W'))
    (W : World) (hBs : W.heap[Bs]? = some (.cells #[.slice (some ⟨g, 0, none⟩) n n] 165 (0, 0))) (hBp : W.heap[Bp]? = some (.cells #[.int .i64 (T : Int)] 3 (0, 0))) (hR : RingV W n₀ g n R A C) (hJ : AbidesFrom W.heap.size J) (h0 : J [] W) :
    CallsIn Fence.wide m Tryz.prog 175 #[.func (.yield l) #[] #[], .pointer (some ⟨Bs, 0, none⟩), .pointer (some ⟨Bp, 0, none⟩)] W fun e W' => (∃ v, e = .returned v) ∧
      ((∃ ys, InO ys n ∧ J ys W') ∨ (∃ pre, (∃ k, k < n ∧ InO pre (k + 1)) ∧ Jx pre W')) := by
  have hs0 := cell_of_block hBs (j := 0) rfl
  refine callsIn_of_wp Tryz.func175 rfl trivial ?_ rfl
  simp only [Tryz.ntmps175, List.size_toArray, List.length_cons, List.length_nil, Nat.reduceAdd, Nat.reduceSub, Array.replicate_succ, Array.replicate_zero, List.push_toArray, List.append_toArray, List.nil_append, List.cons_append]
  gi_wp2
  gi_loopw [8] (fun i wr => ∃ (k : Nat) (pre : List (Fin n)), k ≤ n ∧ i = .int .i64 k ∧ InO pre k ∧ J pre wr ∧ KpB n₀ Bs Bp W wr)
    (fun i _ => n - (intOf i).toNat)
  case atStart => exact ⟨0, [], Nat.zero_le _, rfl, InO.nil, h0, KpB.refl _ _ _ _⟩
  case round =>
    obtain ⟨k, pre, hk, rfl, hpre, hJs, hkp⟩ := hrel
    have hlen := hpre.length
    by_cases hlt : k < n
    · have hs1 := cell_of_block (hkp.2.1.trans hBs) (j := 0) rfl
      have hp1 := cell_of_block (hkp.2.2.trans hBp) (j := 0) rfl
      obtain ⟨fn, tmps, assign, body, hy, hRo⟩ := hY pre ⟨k, hlt⟩ wr.drew (hJ pre wr wr.drew none hJs ⟨rfl, rfl, rfl, Nat.le_refl _, fun _ _ _ => rfl⟩ (fun r e => by cases e)) (by omega)
      have hmx : Tryz.prog.follows .mixedOrders = true := by kernel_rfl
      have hlt' : (k : Int) < (n : Int) := by omega
      have hrg := (hR.below hkp.1).p ((T + k) % n) (Nat.mod_lt _ hn)
      have hxn := Nat.mod_lt (T + k) hn
      have hx : ((T : Int) + (k : Int)).tmod (n : Int) = (((T + k) % n : Nat) : Int) := by rw [Int.tmod_eq_emod_of_nonneg (by omega), ← Int.natCast_add, ← Int.natCast_emod]
      have hx2 : ((T : Int) + (k : Int)) % (n : Int) = (((T + k) % n : Nat) : Int) := by rw [← Int.natCast_add, ← Int.natCast_emod]
      dsimp only [encR] at hy
      generalize (T + k) % n = x at *
      have e0 := hrg 0 _ rfl
      have e1 := hrg 1 _ rfl
      have e2 := hrg 2 _ rfl
      have e3 := hrg 3 _ rfl
      have e4 := hrg 4 _ rfl
      rw [Nat.add_zero] at e0
      have hxn' : (x : Int) < (n : Int) := by omega
      have hx0 : (0 : Int) ≤ (x : Int) := by omega
      gi_wp2
      gi_region_with_o ((refine (round_bool hRo).mono ?_; rintro e W3 ⟨r, rfl, hr1, hr2⟩; have HR1 := hr1; have HR2 := hr2; clear hr1 hr2))
      all_goals
        cases r
        · gi_wp2
          refine bodyPost_ret (results_none rfl _ _ _) rfl ?_
          exact ⟨⟨_, rfl⟩, .inr ⟨_, ⟨k, hlt, hpre.snoc hlt⟩, HR2 (by simp)⟩⟩
        · gi_wp2
          go_roundw
          case rel => exact ⟨k + 1, _, by omega, by go_num, hpre.snoc hlt, (HR1 (by simp)).1, hkp.t (KpB.t (B := wr.drew) ⟨below_drew (Below.refl _ _), rfl, rfl⟩ (HR1 (by simp)).2)⟩
          case measure => simp [intOf]; omega
    · obtain rfl : k = n := by omega
      gi_wp2
      go_end0
      exact ⟨⟨_, rfl⟩, .inl ⟨pre, hpre, hJs⟩⟩

theorem from_stops (m : Nat) (hm : 1 ≤ m) (Bs Bp n₀ g n T : Nat) (R : Nat → PC) (A : Nat → Option Addr) (C : Nat → Nat) (hn : 1 ≤ n) (hn2 : n ≤ 256) (hT : T ≤ 1073741824) (w : World) (hn0 : n₀ ≤ w.heap.size)
    (hBs : w.heap[Bs]? = some (.cells #[.slice (some ⟨g, 0, none⟩) n n] 165 (0, 0))) (hBp : w.heap[Bp]? = some (.cells #[.int .i64 (T : Int)] 3 (0, 0))) (hR : RingV w n₀ g n R A C) :
    SeqStopsK Fence.wide m Tryz.prog 175 #[.pointer (some ⟨Bs, 0, none⟩), .pointer (some ⟨Bp, 0, none⟩)] (encR n T R A C) (KpB n₀ Bs Bp) (fun ys => InO ys n) (fun pre => ∃ k, k < n ∧ InO pre (k + 1)) n w :=
  fun l J Jx W hW hJ _ hY h0 => from1_in m hm l Bs Bp n₀ g n T R A C hn hn2 hT J Jx hY W ((hW.block _ (lt_there hBs)).trans hBs) ((hW.block _ (lt_there hBp)).trans hBp) (hR.below (hW.mono hn0)) hJ h0
end Go.Proofs.YtokcgifpljeoiaaGreat
end

section
namespace Go.Proofs.YtokcgifpljeoiaaGreat
open Go.RowKit

/-- Records as they lie in memory, none of them in a block of X. -/
def RecsAt (W : World) (B : Nat) (v : Value) (rs : List (List Int)) (X : Nat → Prop) : Prop :=
  ∃ vs, W.ownsRow B 22 1 v rs.length vs ∧ ∀ i (hi : i < rs.length), ∃ g c, vs[i]? = some (.slice (some ⟨g, 0, none⟩) (rs[i]).length c) ∧ RowAt W 5 g c (bs rs[i]) ∧ B ≤ g ∧ ¬ X g
theorem RecsAt.nil (W : World) (B : Nat) (X : Nat → Prop) : RecsAt W B (.slice none 0 0) [] X := ⟨[], World.ownsRow_nil _ _ _ _, fun i hi => by cases hi⟩

/-- All cells of W lie in W' as they lay. -/
def CellsIn (W W' : World) : Prop := ∀ (b : Nat) (cur : Array Value) (t : TypeId) (fz : Nat × Nat), W.heap[b]? = some (Obj.cells cur t fz) → W'.heap[b]? = some (Obj.cells cur t fz)

theorem owns_block {W : World} {B : Nat} {e : TypeId} {v : Value} {n : Nat} {xs : List Value} {g : Nat} (h : W.ownsRow B e 1 v n xs) (hv : v.ownBlock = some g) : ∃ cur, W.heap[g]? = some (.cells cur e (0, 0)) := by
  obtain ⟨_, ⟨rfl, _⟩ | ⟨g', cap, cur, rfl, _, hb, _⟩⟩ := h
  · simp [Value.ownBlock] at hv
  · simp [Value.ownBlock] at hv
    subst hv
    exact ⟨cur, hb⟩
theorem owns_agree {W W' : World} {B : Nat} {e : TypeId} {v : Value} {n : Nat} {xs : List Value} (h : W.ownsRow B e 1 v n xs) (hb : ∀ g, v.ownBlock = some g → W'.heap[g]? = W.heap[g]?) : W'.ownsRow B e 1 v n xs := by
  obtain ⟨hl, h | ⟨g, cap, cur, rfl, hg, hbk, h1⟩⟩ := h
  · exact ⟨hl, .inl h⟩
  · exact ⟨hl, .inr ⟨g, cap, cur, rfl, hg, (hb g rfl).trans hbk, h1⟩⟩
theorem RecsAt.step {W W' : World} {B : Nat} {v : Value} {rs : List (List Int)} {X X' : Nat → Prop} (h : RecsAt W B v rs X) (hrow : ∀ g, v.ownBlock = some g → W'.heap[g]? = W.heap[g]?)
    (hrec : ∀ g cur, W.heap[g]? = some (.cells cur 5 (0, 0)) → ¬ X g → W'.heap[g]? = W.heap[g]?) (hX : ∀ g, g < W.heap.size → X' g → X g) : RecsAt W' B v rs X' := by
  obtain ⟨vs, h1, h2⟩ := h
  refine ⟨vs, owns_agree h1 hrow, fun i hi => ?_⟩
  obtain ⟨g, c, e, hr, hB, hx⟩ := h2 i hi
  have hlt := hr.lt
  obtain ⟨cur, hc, hrest⟩ := hr
  exact ⟨g, c, e, ⟨cur, (hrec g cur hc hx).trans hc, hrest⟩, hB, fun h => hx (hX g hlt h)⟩
theorem RecsAt.cells {W W' : World} {B : Nat} {v : Value} {rs : List (List Int)} {X : Nat → Prop} (h : RecsAt W B v rs X) (hc : CellsIn W W') : RecsAt W' B v rs X := by
  obtain ⟨vs, h1, h2⟩ := h
  refine ⟨vs, owns_agree h1 (fun g hg => ?_), fun i hi => ?_⟩
  · obtain ⟨cur, hb⟩ := owns_block h1 hg
    rw [hc _ _ _ _ hb, hb]
  · obtain ⟨g, c, e, ⟨cur, hb, hrest⟩, hB, hx⟩ := h2 i hi
    exact ⟨g, c, e, ⟨cur, hc _ _ _ _ hb, hrest⟩, hB, hx⟩
theorem Own.cells {W W' : World} {B : Nat} {v : Value} {l : List Int} (h : Own W B v l) (hc : CellsIn W W') : Own W' B v l :=
  owns_agree h (fun g hg => by
    obtain ⟨cur, hb⟩ := owns_block h hg
    rw [hc _ _ _ _ hb, hb])

/-- The scan's variables in their boxes. -/
structure Boxes (W : World) (B0 B E : Nat) (st : SS) (vR vr : Value) : Prop where
  r : Boxed W B0 33 vR
  c : Boxed W (B0 + 1) 22 vr
  h : Boxed W (B0 + 2) 3 (.int .i64 (st.hd : Int))
  d : W.heap[B0 + 3]? = some (.cells #[.int .i64 (E : Int), .int .i64 (st.ps : Int), .int .i64 (st.j : Int), .int .i64 (st.c : Int)] 181 (0, 0))
  rs : RecsAt W B vR st.rs (fun k => vr.ownBlock = some k)
  rc : Own W B vr st.rc
  lo : B0 + 6 ≤ B
theorem Boxes.cells {W W' : World} {B0 B E : Nat} {st : SS} {vR vr : Value} (h : Boxes W B0 B E st vR vr) (hc : CellsIn W W') : Boxes W' B0 B E st vR vr :=
  ⟨hc _ _ _ _ h.r, hc _ _ _ _ h.c, hc _ _ _ _ h.h, hc _ _ _ _ h.d, h.rs.cells hc, h.rc.cells hc, h.lo⟩
theorem cellsIn_below {W W' : World} (hb : Below W.heap.size W W') : CellsIn W W' := fun b _ _ _ h => (hb.block b (lt_there h)).trans h
theorem cellsIn_grown {W W' : World} {row : Option Nat} (hg : W.grownBy W' row) (hr : ∀ r, row = some r → ∃ o : Obj, W.heap[r]? = some o ∧ o.isCells = false) : CellsIn W W' := fun b cur t fz h => by
  refine (hg.block b (lt_there h) (fun e => ?_)).trans h
  obtain ⟨o, ho, hc⟩ := hr b e.symm
  rw [h] at ho
  cases ho
  cases hc

theorem own_lo {W : World} {B : Nat} {e : TypeId} {v : Value} {n : Nat} {xs : List Value} {g : Nat} (h : W.ownsRow B e 1 v n xs) (hv : v.ownBlock = some g) : B ≤ g := by
  obtain ⟨_, ⟨rfl, _⟩ | ⟨g', cap, cur, rfl, hg, hb, _⟩⟩ := h
  · simp [Value.ownBlock] at hv
  · simp [Value.ownBlock] at hv
    omega
theorem type_ne {W : World} {g : Nat} {cur cur' : Array Value} {t t' : TypeId} {fz fz' : Nat × Nat} (h : W.heap[g]? = some (.cells cur t fz)) (h' : W.heap[g]? = some (.cells cur' t' fz')) (ht : t ≠ t') : False := by
  rw [h] at h'
  cases h'
  exact ht rfl

/-- The append to the record: what lies where behind it. -/
theorem Boxes.grow {W w2 : World} {B0 B E : Nat} {st : SS} {vR vr : Value} (h : Boxes W B0 B E st vR vr) {d : List Int} {g cap : Nat}
    (ho : w2.ownsRow B 5 1 (.slice (some ⟨g, 0, none⟩) (st.rc.length + d.length) cap) (st.rc.length + d.length) (bs st.rc ++ bs d)) (hg : W.grownBy w2 vr.ownBlock) (hat : vr.ownBlock = some g ∨ g = W.heap.size) :
    Boxed w2 B0 33 vR ∧ Boxed w2 (B0 + 1) 22 vr ∧ Boxed w2 (B0 + 2) 3 (.int .i64 (st.hd : Int)) ∧ w2.heap[B0 + 3]? = W.heap[B0 + 3]? ∧
      RecsAt w2 B vR st.rs (fun k => k = g) ∧ Own w2 B (.slice (some ⟨g, 0, none⟩) (st.rc.length + d.length) cap) (st.rc ++ d) := by
  have hlo := h.lo
  have hne : ∀ k, k < B → vr.ownBlock ≠ some k := fun k hk e => by have := own_lo h.rc e; omega
  have hb : ∀ k, k < B → k < W.heap.size → w2.heap[k]? = W.heap[k]? := fun k hk hl => hg.block k hl (fun e => hne k hk e.symm)
  refine ⟨(hb _ (by omega) h.r.lt).trans h.r, (hb _ (by omega) h.c.lt).trans h.c, (hb _ (by omega) h.h.lt).trans h.h, hb _ (by omega) (lt_there h.d), ?_, ?_⟩
  · refine h.rs.step (fun k hk => ?_) (fun k cur hc hx => ?_) (fun k hk e => ?_)
    · obtain ⟨vs, h1, _⟩ := h.rs
      obtain ⟨cur, hb1⟩ := owns_block h1 hk
      refine hg.block k (lt_there hb1) (fun e => ?_)
      obtain ⟨cur2, hb2⟩ := owns_block h.rc e.symm
      exact type_ne hb1 hb2 (by decide)
    · exact hg.block k (lt_there hc) (fun e => hx e.symm)
    · rcases hat with hat | hat
      · rw [e]; exact hat
      · omega
  · rw [← bs_append] at ho
    have : st.rc.length + d.length = (st.rc ++ d).length := by simp
    unfold Own
    rw [this] at ho ⊢
    exact ho

/-- The append of a record to the others. -/
theorem recs_push {W W' : World} {B : Nat} {v : Value} {rs : List (List Int)} {vs : List Value} {g c g' cap' : Nat} {r : List Int} (hrow : W.ownsRow B 22 1 v rs.length vs)
    (hvs : ∀ i (hi : i < rs.length), ∃ g c, vs[i]? = some (.slice (some ⟨g, 0, none⟩) (rs[i]).length c) ∧ RowAt W 5 g c (bs rs[i]) ∧ B ≤ g) (hr : RowAt W 5 g c (bs r)) (hB : B ≤ g)
    (ho : W'.ownsRow B 22 1 (.slice (some ⟨g', 0, none⟩) (rs.length + 1) cap') (rs.length + 1) (vs ++ [.slice (some ⟨g, 0, none⟩) r.length c])) (hg : W.grownBy W' v.ownBlock) :
    RecsAt W' B (.slice (some ⟨g', 0, none⟩) (rs.length + 1) cap') (rs ++ [r]) (fun _ => False) := by
  have hl : vs.length = rs.length := by have := hrow.1; simpa using this
  have keep : ∀ {x y : Nat} {l : List Int}, RowAt W 5 x y (bs l) → RowAt W' 5 x y (bs l) := fun {x y l} h => by
    obtain ⟨cur, hc, hrest⟩ := h
    refine ⟨cur, (hg.block x (lt_there hc) (fun e => ?_)).trans hc, hrest⟩
    obtain ⟨cur2, hb2⟩ := owns_block hrow e.symm
    exact type_ne hc hb2 (by decide)
  refine ⟨vs ++ [.slice (some ⟨g, 0, none⟩) r.length c], by rw [List.length_append]; exact ho, fun i hi => ?_⟩
  by_cases e : i < rs.length
  · obtain ⟨x, y, h1, h2, h3⟩ := hvs i e
    refine ⟨x, y, ?_, ?_, h3, fun h => h⟩
    · rw [List.getElem?_append_left (by omega), h1, List.getElem_append_left e]
    · rw [List.getElem_append_left e]; exact keep h2
  · have hi' : i = rs.length := by simp at hi; omega
    subst hi'
    refine ⟨g, c, ?_, ?_, hB, fun h => h⟩
    · rw [List.getElem?_append_right (by omega), hl, Nat.sub_self]
      simp
    · simp; exact keep hr
/-- Where the due mark alone has turned. -/
theorem Boxes.set {W W1 : World} {B0 B E : Nat} {st : SS} {vR vr : Value} (h : Boxes W B0 B E st vR vr) (hk : Keeps (fun k => k = B0 + 3) W W1) (ps j c : Nat)
    (hd : W1.heap[B0 + 3]? = some (.cells #[.int .i64 (E : Int), .int .i64 (ps : Int), .int .i64 (j : Int), .int .i64 (c : Int)] 181 (0, 0))) : Boxes W1 B0 B E { st with ps := ps, j := j, c := c } vR vr := by
  have hlo := h.lo
  refine ⟨(hk.block _ h.r.lt (by omega)).trans h.r, (hk.block _ h.c.lt (by omega)).trans h.c, (hk.block _ h.h.lt (by omega)).trans h.h, hd, ?_, ?_, hlo⟩
  · refine h.rs.step (fun g hg => ?_) (fun g cur hc _ => ?_) (fun _ _ e => e)
    · obtain ⟨vs, h1, _⟩ := h.rs
      obtain ⟨cur, hb⟩ := owns_block h1 hg
      exact hk.block g (lt_there hb) (by have := own_lo h1 hg; omega)
    · exact hk.block g (lt_there hc) (fun e => type_ne hc (e ▸ h.d) (by decide))
  · exact owns_agree h.rc (fun g hg => by
      obtain ⟨cur, hb⟩ := owns_block h.rc hg
      exact hk.block g (lt_there hb) (by have := own_lo h.rc hg; omega))
/-- A round's frame: what it keeps. -/
structure RoundK (B0 : Nat) (w W W' : World) : Prop where
  b : Below w.heap.size w W'
  k : KeepsFrom (B0 + 6) W W'
  p : KpB B0 (B0 + 1 + 1 + 1 + 1) (B0 + 1 + 1 + 1 + 1 + 1) W W'
theorem RoundK.below {B0 : Nat} {w W W' W'' : World} (h : RoundK B0 w W W') (_hB : w.heap.size = B0) (hz : B0 + 6 ≤ W.heap.size) (hb : Below W'.heap.size W' W'') : RoundK B0 w W W'' := by
  have hz' := h.k.size
  refine ⟨h.b.trans (hb.mono h.b.size), ⟨Nat.le_trans h.k.size hb.size, fun k o h1 h2 h3 => ?_⟩, h.p.1.trans (hb.mono (by omega)), (hb.block _ (by omega)).trans h.p.2.1, (hb.block _ (by omega)).trans h.p.2.2⟩
  have := h.k.same k o h1 h2 h3
  exact (hb.block k (lt_there this)).trans this
theorem RoundK.set {B0 : Nat} {w W W' : World} (h : RoundK B0 w W W') (hB : w.heap.size = B0) {b : Nat} (hb : B0 ≤ b) (hb2 : b < B0 + 4) (j : Nat) (v : Value) : RoundK B0 w W (W'.setCell ⟨b, j, none⟩ v) := by
  refine ⟨h.b.setCell (p := ⟨b, j, none⟩) (by rw [hB]; exact hb) v, h.k.trans ((KeepsOthers.setCell _ _ _).from _), h.p.1.setCell (p := ⟨b, j, none⟩) hb v, ?_, ?_⟩
  · exact (Below.heap_setCell W' ⟨b, j, none⟩ v _ (by show _ ≠ b; omega)).trans h.p.2.1
  · exact (Below.heap_setCell W' ⟨b, j, none⟩ v _ (by show _ ≠ b; omega)).trans h.p.2.2
theorem RoundK.start {B0 : Nat} {w W : World} (hb : Below w.heap.size w W) : RoundK B0 w W W := ⟨hb, KeepsFrom.refl _ _, KpB.refl _ _ _ _⟩
theorem RoundK.grown {B0 : Nat} {w W W' W'' : World} {row : Option Nat} (h : RoundK B0 w W W') (hB : w.heap.size = B0) (hz : B0 + 6 ≤ W.heap.size) (hg : W'.grownBy W'' row) (hr : ∀ r, row = some r → B0 + 6 ≤ r ∧ ∃ cur t, W'.heap[r]? = some (.cells cur t (0, 0))) : RoundK B0 w W W'' := by
  have hz' := h.k.size
  have hne : ∀ k, k < B0 + 6 → some k ≠ row := fun k hk e => by have := (hr k e.symm).1; omega
  refine ⟨h.b.grown hg h.b.size (fun k e => by have := (hr k e).1; omega), ⟨Nat.le_trans h.k.size hg.size, fun k o h1 h2 h3 => ?_⟩, h.p.1.grown hg (by omega) (fun k e => by have := (hr k e).1; omega), (hg.block _ (by omega) (hne _ (by omega))).trans h.p.2.1, (hg.block _ (by omega) (hne _ (by omega))).trans h.p.2.2⟩
  have h4 := h.k.same k o h1 h2 h3
  refine (hg.block k (lt_there h4) (fun e => ?_)).trans h4
  obtain ⟨cur, t, hc⟩ := (hr k e.symm).2
  rw [h4] at hc
  cases hc
  cases h3
theorem RecsAt.low {W : World} {B B' : Nat} {v : Value} {rs : List (List Int)} {X X' : Nat → Prop} (h : RecsAt W B v rs X) (hB : B' ≤ B) (hX : ∀ k, X' k → X k) : RecsAt W B' v rs X' := by
  obtain ⟨vs, ⟨h1, h2⟩, h3⟩ := h
  refine ⟨vs, ⟨h1, ?_⟩, fun i hi => ?_⟩
  · rcases h2 with h2 | ⟨g, cap, cur, e, hg, hrest⟩
    · exact .inl h2
    · exact .inr ⟨g, cap, cur, e, by omega, hrest⟩
  · obtain ⟨g, c, e, hr, hb, hx⟩ := h3 i hi
    exact ⟨g, c, e, hr, by omega, fun h => hx (hX _ h)⟩
theorem RecsAt.setb {W : World} {B : Nat} {v : Value} {rs : List (List Int)} {X : Nat → Prop} (h : RecsAt W B v rs X) {b : Nat} (hb : b < B) (j : Nat) (u : Value) : RecsAt (W.setCell ⟨b, j, none⟩ u) B v rs X := by
  obtain ⟨vs, h1, h2⟩ := h
  refine ⟨vs, owns_agree h1 (fun g hg => Below.heap_setCell W ⟨b, j, none⟩ u g (by have := own_lo h1 hg; show g ≠ b; omega)), fun i hi => ?_⟩
  obtain ⟨g, c, e, ⟨cur, hc, hrest⟩, hB, hx⟩ := h2 i hi
  exact ⟨g, c, e, ⟨cur, (Below.heap_setCell W ⟨b, j, none⟩ u g (by show g ≠ b; omega)).trans hc, hrest⟩, hB, hx⟩
theorem Own.setb {W : World} {B : Nat} {v : Value} {l : List Int} (h : Own W B v l) {b : Nat} (hb : b < B) (j : Nat) (u : Value) : Own (W.setCell ⟨b, j, none⟩ u) B v l :=
  owns_agree h (fun g hg => Below.heap_setCell W ⟨b, j, none⟩ u g (by have := own_lo h hg; show g ≠ b; omega))
theorem heap_other {W : World} {b c j : Nat} {u : Value} {o : Obj} (h : W.heap[c]? = some o) (hne : c ≠ b) : (W.setCell ⟨b, j, none⟩ u).heap[c]? = some o := (Below.heap_setCell W ⟨b, j, none⟩ u c hne).trans h

/-- Behind a piece that is not the last. -/
theorem Boxes.more {W w2 : World} {B0 B E : Nat} {st : SS} {vR vr : Value} (h : Boxes W B0 B E st vR vr) {d : List Int} {g cap : Nat}
    (ho : w2.ownsRow B 5 1 (.slice (some ⟨g, 0, none⟩) (st.rc.length + d.length) cap) (st.rc.length + d.length) (bs st.rc ++ bs d)) (hg : W.grownBy w2 vr.ownBlock) (hat : vr.ownBlock = some g ∨ g = W.heap.size) (J : Int) (hJ : J = ((st.j + 1 : Nat) : Int)) :
    Boxes ((w2.setCell ⟨B0 + 1, 0, none⟩ (.slice (some ⟨g, 0, none⟩) (st.rc.length + d.length) cap)).setCell ⟨B0 + 3, 2, none⟩ (.int .i64 J)) B0 B E { st with rc := st.rc ++ d, j := st.j + 1 } vR (.slice (some ⟨g, 0, none⟩) (st.rc.length + d.length) cap) := by
  subst hJ
  have hlo := h.lo
  obtain ⟨h1, h2, h3, h4, h5, h6⟩ := h.grow ho hg hat
  refine ⟨heap_other (heap_other h1 (by omega)) (by omega), heap_other ((heap_setCell_same _ _ 0 _ _ _ h2).trans (by simp)) (by omega), heap_other (heap_other h3 (by omega)) (by omega), ?_, ?_, ?_, hlo⟩
  · have := heap_setCell_same _ _ 2 _ _ (.int .i64 ((st.j + 1 : Nat) : Int)) (heap_other (b := B0 + 1) (j := 0) (u := .slice (some ⟨g, 0, none⟩) (st.rc.length + d.length) cap) (h4.trans h.d) (by omega))
    exact this.trans (by simp)
  · refine ((h5.setb (b := B0 + 1) (by omega) 0 _).setb (b := B0 + 3) (by omega) 2 _).low (Nat.le_refl _) (fun k hk => ?_)
    simp [Value.ownBlock] at hk
    exact hk.symm
  · exact (h6.setb (by omega) 0 _).setb (by omega) 2 _
/-- Behind a record's last piece. -/
theorem Boxes.whole {W w2 w3 : World} {B0 B E : Nat} {st : SS} {vR vr : Value} (h : Boxes W B0 B E st vR vr) {d : List Int} {g cap g' cap' : Nat} {vs : List Value}
    (ho : w2.ownsRow B 5 1 (.slice (some ⟨g, 0, none⟩) (st.rc.length + d.length) cap) (st.rc.length + d.length) (bs st.rc ++ bs d)) (hg : W.grownBy w2 vr.ownBlock) (hat : vr.ownBlock = some g ∨ g = W.heap.size) (hz : B ≤ W.heap.size)
    (hrow : w2.ownsRow B 22 1 vR st.rs.length vs) (hvs : ∀ i (hi : i < st.rs.length), ∃ g c, vs[i]? = some (.slice (some ⟨g, 0, none⟩) (st.rs[i]).length c) ∧ RowAt w2 5 g c (bs st.rs[i]) ∧ B ≤ g)
    (ho3 : w3.ownsRow B 22 1 (.slice (some ⟨g', 0, none⟩) (st.rs.length + 1) cap') (st.rs.length + 1) (vs ++ [.slice (some ⟨g, 0, none⟩) (st.rc.length + d.length) cap])) (hd0 : 0 < d.length) (o : Obj) (hg3 : (w2.alloc o).grownBy w3 vR.ownBlock) (P : Nat) (Q : Int) (hQ : Q = (P : Int)) :
    Boxes ((((w3.setCell ⟨B0, 0, none⟩ (.slice (some ⟨g', 0, none⟩) (st.rs.length + 1) cap')).setCell ⟨B0 + 1, 0, none⟩ (.slice none 0 0)).setCell ⟨B0 + 2, 0, none⟩ (.int .i64 Q)).setCell ⟨B0 + 3, 2, none⟩ (.int .i64 0)) B0 B E { st with rs := st.rs ++ [st.rc ++ d], rc := [], hd := P, j := 0 } (.slice (some ⟨g', 0, none⟩) (st.rs.length + 1) cap') (.slice none 0 0) := by
  subst hQ
  have hlo := h.lo
  obtain ⟨h1, h2, h3, h4, h5, h6⟩ := h.grow ho hg hat
  have hne : ∀ k, k < B → vR.ownBlock ≠ some k := fun k hk e => by have := own_lo hrow e; omega
  have hb : ∀ k o', k < B → w2.heap[k]? = some o' → w3.heap[k]? = some o' := fun k o' hk hl => (hg3.block k (by have := lt_there hl; simp; omega) (fun e => hne k hk e.symm)).trans ((Below.heap_alloc _ _ _ (lt_there hl)).trans hl)
  have hBg : B ≤ g := by
    rcases hat with hat | hat
    · exact own_lo h.rc hat
    · omega
  have hrg : RowAt w2 5 g cap (bs (st.rc ++ d)) := by
    obtain ⟨g1, e, _, _, hr⟩ := h6.row (by simp; omega)
    cases e
    exact hr
  have hl : st.rc.length + d.length = (st.rc ++ d).length := by simp
  rw [hl] at ho3
  have hpush := recs_push (W := w2.alloc o) (W' := w3) (r := st.rc ++ d) (owns_agree hrow (fun g hg => by
      obtain ⟨cur, hc⟩ := owns_block hrow hg
      exact Below.heap_alloc _ _ _ (lt_there hc))) (fun i hi => by
      obtain ⟨x, y, e1, e2, e3⟩ := hvs i hi
      exact ⟨x, y, e1, e2.agree (Below.heap_alloc _ _ _ e2.lt), e3⟩) (hrg.agree (Below.heap_alloc _ _ _ hrg.lt)) hBg ho3 hg3
  have q0 := hb _ _ (by omega) h1
  have q1 := hb _ _ (by omega) h2
  have q2 := hb _ _ (by omega) h3
  have q3 := hb _ _ (by omega) (h4.trans h.d)
  refine ⟨?_, ?_, ?_, ?_, ?_, Own.nil _ _, hlo⟩
  · exact heap_other (heap_other (heap_other ((heap_setCell_same _ _ 0 _ _ _ q0).trans (by simp)) (by omega)) (by omega)) (by omega)
  · exact heap_other (heap_other ((heap_setCell_same _ _ 0 _ _ _ (heap_other q1 (by omega))).trans (by simp)) (by omega)) (by omega)
  · exact heap_other ((heap_setCell_same _ _ 0 _ _ _ (heap_other (heap_other q2 (by omega)) (by omega))).trans (by simp)) (by omega)
  · exact (heap_setCell_same _ _ 2 _ _ _ (heap_other (heap_other (heap_other q3 (by omega)) (by omega)) (by omega))).trans (by simp)
  · exact ((((hpush.setb (b := B0) (by omega) 0 _).setb (b := B0 + 1) (by omega) 0 _).setb (b := B0 + 2) (by omega) 0 _).setb (b := B0 + 3) (by omega) 2 _).low (Nat.le_refl _) (fun k hk => by simp [Value.ownBlock] at hk)
end Go.Proofs.YtokcgifpljeoiaaGreat
end

section
namespace Go.Proofs.YtokcgifpljeoiaaGreat
open Go.RowKit

/-- No operation of the region defers. -/
def noDefer (ops : Array Oper) : Bool := ops.all fun o => match o.op with | .defer _ => false | _ => true
theorem noDefer_spec {ops : Array Oper} (h : noDefer ops = true) {i : Nat} {o : Oper} (hi : ops[i]? = some o) : ∀ c, o.op ≠ .defer c := by
  intro c e
  have := Array.all_eq_true_iff_forall_mem.1 h o (Array.mem_of_getElem? hi)
  rw [e] at this
  cases this

section
variable {P : Program} {ops : Array Oper} {Q : Exit → Act → World → Prop} {l n : Nat}

theorem rows_wide {row : String} {args : Array Value} {w : World} {R : Value → World → Prop} (h : Rows P row args w R) : RowsIn (Fence.wide.inRound l) n P row args w R := fun c cs _ => by
  obtain ⟨v, w', hr, hs⟩ := h c cs
  exact ⟨v, w', hr, stepsIn_wide.2 hs⟩

/-- An operation within a round, out of the same operation outside. -/
theorem wpIn_of_wp {o : Oper} {a : Act} {w : World} {K : Act → World → Prop} (hnd : ∀ c, o.op ≠ .defer c) (h : o.wp P a w K Q) : o.wpIn (Fence.wide.inRound l) n P a w K Q := by
  unfold Oper.wpIn
  refine ⟨fun _ _ => trivial, ?_⟩
  rw [Oper.semAt_eq _ _ _ hnd]
  unfold Oper.wp at h
  generalize (execOp a.eval o).run P w = r at *
  cases r with
  | ok x w' =>
    cases x <;> simp only [Oper.upon, Oper.uponIn] at h ⊢ <;>
      first
        | exact h
        | exact ⟨fun h => (by cases h), CallsIn.inRound l (callsIn_wide.2 h)⟩
        | exact ⟨fun h => (by cases h), rows_wide h⟩
        | exact h.elim
  | halt x w' => cases x <;> simp only [Oper.upon, Oper.uponIn] at h ⊢ <;> exact h

theorem wpOpIn_of {i : Nat} {a : Act} {w : World} {K : Act → World → Prop} (hd : noDefer ops = true) (hQ : ¬ LetsOut Q) (h : wpOp P ops Q i K a w) : wpOpIn (Fence.wide.inRound l) n P ops Q i K a w := by
  unfold wpOp at h
  unfold wpOpIn
  cases hi : ops[i]? with
  | none => simp only [hi] at h; exact h
  | some o =>
    simp only [hi] at h ⊢
    split
    · rename_i hw
      simp only [hw, if_true] at h
      rcases h with h | h
      · exact wpIn_of_wp (noDefer_spec hd hi) h
      · exact absurd h.2 hQ
    · rename_i hw
      simp only [hw] at h
      exact ⟨fun _ _ => trivial, h⟩

theorem wpAnyIn_of {md : Region.Mode} (hd : noDefer ops = true) (hQ : ¬ LetsOut Q) : ∀ (fuel : Nat) (listed : Array Bool) (a : Act) (w : World), wpAny P md ops Q fuel listed a w → wpAnyIn (Fence.wide.inRound l) n P md ops Q fuel listed a w
  | 0, _, _, _, h => h
  | fuel + 1, _listed, _a, _w, h => ⟨h.1, fun i hi => wpOpIn_mono (fun a w h => wpAnyIn_of hd hQ fuel _ a w h) (wpOpIn_of hd hQ (h.2 i hi))⟩

/-- A region that draws its order, within a round: the loads taken first. -/
theorem wpIn_region_held {id : Nat} {a : Act} {w : World} {K : Act → World → Prop} {S : World → Prop} (hm : P.follows .mixedOrders = true) (hd : noDefer ops = true) (h : wpAnyH P .any ops (Exit.then K (fun _ _ _ => False)) S ops.size (Array.replicate ops.size false) a w.drew) :
    (Code.region id ops true).wpIn (Fence.wide.inRound l) n P (Exit.then K Q) a w :=
  wpIn_mono (wpIn_region_any hm (wpAnyIn_of hd (fun ⟨_, _, h⟩ => h) _ _ _ _ (wpAny_of_held _ _ _ _ h))) (fun e a w h => by cases e <;> first | exact h | exact h.elim)

/-- An append by its run. -/
theorem wp_append_run {o : Oper} {a : Act} {w w' : World} {K : Act → World → Prop} (s x : Operand) (t : TypeId) (ho : o.op = .call { callee := .builtin .append, args := #[s, x], argTypes := #[t, t] }) (v u r : Value) (hs : a.eval s = v) (hx : a.eval x = u)
    (hr : (Builtin.append_ #[t, t] o.type #[v, u]).run P w = .ok r w') (h : K (a.put o.dst r) w') : o.wp P a w K Q := by
  unfold Oper.wp execOp
  simp only [ho, resolve, invoke, builtin, Sem.run_bind, Sem.run_pure, Result.andThen_ok, List.map_toArray, List.map_cons, List.map_nil, hs, hx, hr]
  exact h
theorem wpListIn_append_run {o : Oper} {rest : List Oper} {a : Act} {w w' : World} (hg : o.guard = none) (s x : Operand) (t : TypeId) (ho : o.op = .call { callee := .builtin .append, args := #[s, x], argTypes := #[t, t] }) (v u r : Value) (hs : a.eval s = v) (hx : a.eval x = u)
    (hr : (Builtin.append_ #[t, t] o.type #[v, u]).run P w = .ok r w') (h : wpListIn (Fence.wide.inRound l) n P ops Q rest (a.put o.dst r) w') : wpListIn (Fence.wide.inRound l) n P ops Q (o :: rest) a w :=
  wpListIn_plain hg fun _ hK => wpIn_of_wp (by rw [ho]; intro c hc; cases hc) (wp_append_run s x t ho v u r hs hx hr (hK _ _ h))
end
end Go.Proofs.YtokcgifpljeoiaaGreat
end
