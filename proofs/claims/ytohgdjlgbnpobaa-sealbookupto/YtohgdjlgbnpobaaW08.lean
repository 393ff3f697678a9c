import Derived.Test.YtohgdjlgbnpobaaW07
import Derived.Deep.Quiet
import Derived.BigQuiet
import Derived.OwnWalk
section
namespace Go.Proofs.Ytohgdjlgbnpobaa
open Go.RowKit

theorem sopens_no1 {s : List Int} (h : s.length ≠ 512) : sopens s = ([], 2) := by unfold sopens; rw [if_pos h]
theorem sopens_none {s : List Int} (h : s.length = 512) (h2 : sopen s = none) : sopens s = ([], 30) := by unfold sopens; rw [if_neg (by omega), h2]
theorem sopens_some {s b : List Int} (h : s.length = 512) (h2 : sopen s = some b) : sopens s = (b, 0) := by unfold sopens; rw [if_neg (by omega), h2]
theorem sopen_yes {s : List Int} (h1 : slen s ≤ 504) (h2 : s.getD 0 0 ≤ 2) (h3 : sform (s.getD 0 0) (sbody s) = s) : sopen s = some (sbody s) := by unfold sopen; rw [if_pos ⟨h1, h2, h3⟩]
theorem sopen_no {s : List Int} (h : ¬ (slen s ≤ 504 ∧ s.getD 0 0 ≤ 2 ∧ sform (s.getD 0 0) (sbody s) = s)) : sopen s = none := by unfold sopen; rw [if_neg h]
theorem slen_eq {s : List Int} (h : Bytes s) : ((slen s : Nat) : Int) = s.getD 1 0 + 256 * s.getD 2 0 := by
  have h1 := h.getD 1
  have h2 := h.getD 2
  unfold slen
  omega

set_option maxRecDepth 20000 in
set_option maxHeartbeats 4000000 in
theorem ropen_no1 (a : Option Addr) (n c : Nat) (w : World) (hn : n ≠ 512) :
    Calls Try.prog 26 #[.slice a n c] w fun e w' => e = .returned (.tuple #[.slice none 0 0, .int .i64 2]) ∧ Below w.heap.size w w' := by
  have h1 : (((n : Int)) != 512) = true := by rw [bne_iff_ne]; omega
  have HB := Hid.mk (Below.refl w.heap.size w)
  go_enter Try.func26, Try.ntmps26
  go_wp2
  go_ret2
  exact ⟨rfl, HB.out⟩

set_option maxRecDepth 20000 in
set_option maxHeartbeats 4000000 in
theorem ropen_all (b o c : Nat) (s : List Int) (w : World) (hs : Src w (some ⟨b, o, none⟩) 512 s) (hb : Bytes s) :
    Calls Try.prog 26 #[.slice (some ⟨b, o, none⟩) 512 c] w fun e w' => ∃ v, e = .returned (.tuple #[v, .int .i64 (((sopens s).2 : Nat) : Int)]) ∧ Own w' w.heap.size v (sopens s).1 ∧ Below w.heap.size w w' := by
  have hls := hs.1
  have cell : ∀ i, i < 512 → w.cell? ⟨b, o + i, none⟩ = some (.int .u8 (s.getD i 0)) := fun i hi => by have := hs.2.2 _ rfl i hi; rwa [addr_add] at this
  have c0 := cell 0 (by omega)
  rw [Nat.add_zero] at c0
  have c1 := cell 1 (by omega)
  have c2 := cell 2 (by omega)
  have hB0 : Below w.heap.size w w := Below.refl _ w
  have hle := slen_eq hb
  have g0 := hb.getD 0
  have g1 := hb.getD 1
  have g2 := hb.getD 2
  obtain ⟨x0, hx0⟩ : ∃ x0, x0 = s.getD 0 0 := ⟨_, rfl⟩
  obtain ⟨x1, hx1⟩ : ∃ x1, x1 = s.getD 1 0 := ⟨_, rfl⟩
  obtain ⟨x2, hx2⟩ : ∃ x2, x2 = s.getD 2 0 := ⟨_, rfl⟩
  obtain ⟨N, hN⟩ : ∃ N, N = slen s := ⟨_, rfl⟩
  rw [← hx1, ← hx2, ← hN] at hle
  rw [← hx0] at c0 g0
  rw [← hx1] at c1 g1
  rw [← hx2] at c2 g2
  have h00 := g0.1
  have h01 := g0.2
  have h10 := g1.1
  have h11 := g1.2
  have h20 := g2.1
  have h21 := g2.2
  have Hc := Hid.mk cell
  have HB := Hid.mk (fun j => below_drewN hB0 j)
  have Hx0 := Hid.mk hx0
  have HN := Hid.mk hN
  have HS := Hid.mk hs
  clear cell hx0 hx1 hx2 hN hs hB0 g0 g1 g2
  by_cases hbad : 504 < N ∨ 2 < x0
  · have hno : sopens s = ([], 30) := sopens_none hls (sopen_no (fun h => by rw [← HN.out, ← Hx0.out] at h; omega))
    have Hno := Hid.mk hno
    clear hno
    by_cases hb1 : 504 < N
    · have hb1' : 504 < x1 + 256 * x2 := by omega
      go_enter Try.func26, Try.ntmps26
      go_wp2
      go_quiet (fail)
      go_wp2
      go_ret2
      exact ⟨_, by rw [Hno.out]; rfl, by rw [Hno.out]; exact Own.nil _ _, HB.out _⟩
    · have hb1' : ¬ 504 < x1 + 256 * x2 := by omega
      have hb2 : 2 < x0 := by omega
      go_enter Try.func26, Try.ntmps26
      go_wp2
      go_quiet (fail)
      go_wp2
      go_ret2
      exact ⟨_, by rw [Hno.out]; rfl, by rw [Hno.out]; exact Own.nil _ _, HB.out _⟩
  · have hb1' : ¬ 504 < x1 + 256 * x2 := by omega
    have hb2 : ¬ 2 < x0 := by omega
    go_enter Try.func26, Try.ntmps26
    go_wp2
    go_quiet (fail)
    go_wp2
    go_loopw [5, 6] (fun v i wr => ∃ k : Nat, k ≤ N ∧ i = .int .i64 k ∧ Own wr w.heap.size v ((s.drop 7).take k) ∧ Below w.heap.size w wr) (fun _ i _ => N - (intOf i).toNat)
    case atStart => exact ⟨0, Nat.zero_le _, rfl, Own.nil _ _, HB.out _⟩
    case round =>
      clear c0 c1 c2
      obtain ⟨k, hk, rfl, hown, hbr⟩ := hrel
      have Hown := Hid.mk hown
      have HBr := Hid.mk hbr
      have hz := hbr.size
      clear hown hbr
      have hdl : (s.drop 7).length = 505 := by simp; omega
      by_cases hlt : k < N
      · have hlt' : (k : Int) < x1 + 256 * x2 := by omega
        have hc := cell_later HBr.out (Hc.out (7 + k) (by omega))
        have eN := take_snoc (s.drop 7) k (by omega)
        have eX : (s.drop 7).getD k 0 = s.getD (7 + k) 0 := by simp [List.getD]
        rw [eX] at eN
        have HeN := Hid.mk eN
        have hll : ((s.drop 7).take k).length ≤ 505 := by rw [List.length_take]; omega
        clear eN eX
        generalize s.getD (7 + k) 0 = x at *
        go_wp2_with (at_builtin; refine wpList_app1 rfl _ _ rfl w.heap.size u5 _ x rfl rfl Hown.out ?b1 ?b2 ?_)
        case b1 => omega
        case b2 => exact hz
        intro v' w' ho hb'
        have HO : Hid (Own w' w.heap.size v' ((s.drop 7).take (k + 1))) := by rw [← HeN.out]; exact ho
        have HB' := Hid.mk (HBr.out.trans (hb'.mono (Nat.le_refl _)))
        clear ho hb' Hown HBr HeN
        go_wp2
        go_roundw
        case rel => exact ⟨k + 1, by omega, by go_num, HO.out, HB'.out⟩
        case measure => simp [intOf]; omega
      · obtain rfl : k = N := by omega
        have hlt' : ¬ (k : Int) < x1 + 256 * x2 := by omega
        have eb : (s.drop 7).take k = sbody s := by unfold sbody; rw [← HN.out]
        rw [eb] at Hown
        have hbl : (sbody s).length = k := by rw [← eb, List.length_take]; omega
        have hbb : Bytes (sbody s) := (hb.drop _).take _
        have Hbl := Hid.mk hbl
        obtain ⟨ab, cb', rfl, hsb, _, _⟩ := Hown.out.src
        rw [hbl] at hsb Hown ⊢
        clear hbl
        have c0 := cell_later HBr.out (Hc.out 0 (by omega))
        rw [Nat.add_zero, ← Hx0.out] at c0
        obtain ⟨t, rfl⟩ : ∃ t : Nat, x0 = (t : Int) := ⟨x0.toNat, by omega⟩
        have hf := rform_any t ab k cb' (sbody s) wr (by omega) hsb (by omega) hbb
        clear eb hsb
        go_wp2_with fail
        refine hf.mono ?_
        rintro e w2 ⟨v2, rfl, ho2, hb2⟩
        have hfl : (sform t (sbody s)).length = 512 := sform_len (by rw [Hbl.out]; omega)
        obtain ⟨p2, d2, rfl, hs2, _, _⟩ := ho2.src
        rw [hfl] at *
        have hB2 := HBr.out.trans (hb2.mono HBr.out.size)
        have hsm := rsame_any p2 (some ⟨b, o, none⟩) 512 512 d2 c (sform t (sbody s)) s w2 (by omega) hs2 (HS.out.later hB2)
        have HB2 := Hid.mk hB2
        have Hown2 := Hid.mk (Own.later Hown.out hb2)
        clear hf ho2 hb2 hs2 hB2 Hown HBr
        by_cases heq : sform t (sbody s) = s
        · rw [decide_eq_true heq] at hsm
          have hy : sopens s = (sbody s, 0) := sopens_some hls (sopen_yes (by rw [← HN.out]; omega) (by rw [← Hx0.out]; omega) (by rw [← Hx0.out]; exact heq))
          have Hy := Hid.mk hy
          clear heq hy
          go_wp2_with fail
          refine hsm.mono ?_
          rintro e w3 ⟨rfl, hb3⟩
          have HB3 := Hid.mk (HB2.out.trans (hb3.mono HB2.out.size))
          have Hown3 := Hid.mk (Own.later Hown2.out hb3)
          clear hsm hb3
          go_wp2
          go_ret2
          exact ⟨_, by rw [Hy.out]; rfl, by rw [Hy.out]; exact Hown3.out, HB3.out⟩
        · rw [decide_eq_false heq] at hsm
          have hy : sopens s = ([], 30) := sopens_none hls (sopen_no (fun h => heq (by have := h.2.2; rwa [← Hx0.out] at this)))
          have Hy := Hid.mk hy
          clear heq hy
          go_wp2_with fail
          refine hsm.mono ?_
          rintro e w3 ⟨rfl, hb3⟩
          have HB3 := Hid.mk (HB2.out.trans (hb3.mono HB2.out.size))
          clear hsm hb3
          go_wp2
          go_ret2
          exact ⟨_, by rw [Hy.out]; rfl, by rw [Hy.out]; exact Own.nil _ _, HB3.out⟩

theorem ropen_any (a : Option Addr) (n c : Nat) (s : List Int) (w : World) (hs : Src w a n s) (hb : Bytes s) :
    Calls Try.prog 26 #[.slice a n c] w fun e w' => ∃ v, e = .returned (.tuple #[v, .int .i64 (((sopens s).2 : Nat) : Int)]) ∧ Own w' w.heap.size v (sopens s).1 ∧ Below w.heap.size w w' := by
  by_cases hn : n = 512
  · subst hn
    obtain ⟨b, o, rfl⟩ := src_spot hs (by omega)
    exact ropen_all b o c s w hs hb
  · refine (ropen_no1 a n c w hn).mono ?_
    rintro e w' ⟨rfl, hbel⟩
    rw [sopens_no1 (by rw [hs.1]; exact hn)]
    exact ⟨_, rfl, Own.nil _ _, hbel⟩
end Go.Proofs.Ytohgdjlgbnpobaa
end

section
namespace Go.Proofs.Ytohgdjlgbnpobaa
open Go.RowKit

/-- A world that is the first but for what is new. -/
structure Later (w : World) where
  to : World
  h : Below w.heap.size w to

theorem below_drew {B : Nat} {a w : World} (h : Below B a w) : Below B a w.drew := ⟨h.os, h.tape, h.output, h.size, h.block⟩

theorem Later.some (w : World) : Nonempty (Later w) := ⟨⟨w, Below.refl _ _⟩⟩

/-- A region that draws its order, whose callees make memory but change none. -/
theorem wp_region_later {P : Program} {id : Nat} {Q : Exit → Act → World → Prop} {a : Act} {w : World} {l : List Oper} (hm : P.follows .mixedOrders = true) (hB : Region.lexB .any l.toArray = true)
    (h : wpQuiet P l.toArray (fun w' => ∃ q : Later w, w' = q.to) (fun a' => ∀ w', (∃ q : Later w, w' = q.to) → Q .normal a' w') l a) : (Code.region id l.toArray true).wp P Q a w :=
  wp_region_quiet (C := fun w' => ∃ q : Later w, w' = q.to) hm hB ⟨⟨w.drew, below_drew (Below.refl _ _)⟩, rfl⟩ (by simpa using h)

/-- A callee's contract, met in a later world. -/
theorem Calls.later_of {P : Program} {f : FuncId} {args : Array Value} {w : World} {q : Later w} {v : Value}
    (h : Calls P f args q.to fun e w' => e = .returned v ∧ Below q.to.heap.size q.to w') : Calls P f args q.to fun e w'' => e = .returned v ∧ ∃ q' : Later w, w'' = q'.to :=
  h.mono fun _ w' ⟨he, hm⟩ => ⟨he, ⟨w', q.h.trans (hm.mono q.h.size)⟩, rfl⟩
end Go.Proofs.Ytohgdjlgbnpobaa
end

section
namespace Go.Proofs.Ytohgdjlgbnpobaa
open Go.RowKit

theorem le2 {a b : Int} (ha : 0 ≤ a) (hb : 0 ≤ b) : ((le [a, b] : Nat) : Int) = a + 256 * b := by
  simp only [le]
  omega
theorem take2 {s : List Int} (h : s.length = 512) : (s.drop 1).take 2 = [s.getD 1 0, s.getD 2 0] := by
  match s, h with
  | a :: b :: c :: r, _ => rfl
theorem src_part {w : World} {b o n : Nat} {l : List Int} (h : Src w (some ⟨b, o, none⟩) n l) {i m : Nat} (hm : i + m ≤ n) : Src w (some ⟨b, o + i, none⟩) m ((l.drop i).take m) :=
  ⟨by have := h.1; simp; omega, (fun e => by cases e), fun x hx j hj => by
    cases hx
    have := h.2.2 _ rfl (i + j) (by omega)
    rw [addr_add] at this ⊢
    rw [Nat.add_assoc, this]
    simp [List.getD, hj]⟩

set_option maxRecDepth 20000 in
set_option maxHeartbeats 4000000 in
theorem open_no (g o : Nat) (s : List Int) (w : World) (hs : Src w (some ⟨g, o, none⟩) 512 s) (hb : Bytes s) (hbad : 504 < slen s ∨ 2 < s.getD 0 0) :
    Calls Try.prog 37 #[.pointer (some ⟨g, o, none⟩)] w fun e w' => e = .returned (.tuple #[.slice none 0 0, .bool false]) ∧ w' = w := by
  have h1 := cut_any g o 1 3 w (by omega) (by omega)
  have hp := src_part hs (i := 1) (m := 2) (by omega)
  have h2 := taken_any g (o + 1) 2 2 ((s.drop 1).take 2) w ((hb.drop _).take _) hp.1 (by omega) (fun i hi => by have := hp.2.2 _ rfl i hi; rwa [addr_add] at this)
  have hle := slen_eq hb
  have g1 := hb.getD 1
  have g2 := hb.getD 2
  rw [take2 hs.1, le2 g1.1 g2.1, ← hle] at h2
  have c0 := hs.2.2 _ rfl 0 (by omega)
  rw [addr_add, Nat.add_zero] at c0
  have g0 := hb.getD 0
  have h00 := g0.1
  have h01 := g0.2
  generalize s.getD 0 0 = x at *
  generalize slen s = N at *
  clear hs hp hle g0 g1 g2
  go_enter Try.func37, Try.ntmps37
  go_wp2_with fail
  refine h1.mono ?_
  rintro e w' ⟨rfl, hw⟩
  have hw' := hw.symm
  subst hw'
  clear hw h1
  go_wp2_with fail
  refine h2.mono ?_
  rintro e w' ⟨rfl, hw⟩
  have hw' := hw.symm
  subst hw'
  clear hw h2
  by_cases hx : 2 < x
  · have hx' : 3 ≤ x := by omega
    go_wp2
    go_ret2
    exact ⟨rfl, rfl⟩
  · have hx' : ¬ 3 ≤ x := by omega
    have hN : 504 < (N : Int) := by omega
    go_wp2
    go_ret2
    exact ⟨rfl, rfl⟩

theorem quiet_load_mid {P : Program} {C : World → Prop} {a : Act} {op : Oper} {K : Act → Prop} (ty : TypeId) (x : Operand) (ho : op.op = .load ty x)
    (b o : Nat) (hx : a.eval x = .pointer (some ⟨b, o, none⟩)) (cs : List Value) (d : TypeDesc) (hc : ∀ w, C w → w.rangeAt b o cs)
    (hu : P.underlying ty = some d) (hd : d.isRow = true) (hi : (P.info? ty).map (·.size) = some cs.length) (hk : K (a.put op.dst (.agg cs.toArray))) : op.quiet P a C K :=
  ⟨_, fun w hw => by
    unfold Oper.quietAt execOp
    simp only [ho, hx, Instr.loadAt, Instr.sureAddr, Sem.run_bind, Sem.run_pure, Result.andThen_ok, run_loadVar_mid w b o ty cs d (hc w hw) hu hd hi]
    exact ⟨rfl, rfl⟩, hk⟩
theorem quiet_eq_sec {C : World → Prop} {a : Act} {op : Oper} {K : Act → Prop} (x y : Operand) (T : TypeId) (ho : op.op = .binOp .eql 44 x y T)
    (l m : List Int) (hx : a.eval x = .agg (bs l).toArray) (hy : a.eval y = .agg (bs m).toArray) (hl : l.length = 512) (hm : m.length = 512) (hk : K (a.put op.dst (.bool (decide (l = m))))) : op.quiet Try.prog a C K :=
  ⟨_, fun w _ => by
    unfold Oper.quietAt execOp
    simp only [ho, hx, hy]
    have := eqop_sec l m hl hm w x y
    rw [Sem.run_bind, this]
    exact ⟨rfl, rfl⟩, hk⟩

set_option maxRecDepth 20000 in
set_option maxHeartbeats 4000000 in
theorem open_yes (g o : Nat) (s : List Int) (w : World) (hs : Src w (some ⟨g, o, none⟩) 512 s) (hb : Bytes s) (hN : slen s ≤ 504) (hx : s.getD 0 0 ≤ 2) :
    Calls Try.prog 37 #[.pointer (some ⟨g, o, none⟩)] w fun e w' => ∃ k, e = .returned (.tuple #[.slice (some ⟨g, k, none⟩) (slen s) (slen s), .bool (decide (sform (s.getD 0 0) (sbody s) = s))]) ∧ (0 < slen s → k = o + 7) ∧ Below w.heap.size w w' := by
  have h1 := cut_any g o 1 3 w (by omega) (by omega)
  have hp := src_part hs (i := 1) (m := 2) (by omega)
  have h2 := taken_any g (o + 1) 2 2 ((s.drop 1).take 2) w ((hb.drop _).take _) hp.1 (by omega) (fun i hi => by have := hp.2.2 _ rfl i hi; rwa [addr_add] at this)
  have hle := slen_eq hb
  have g1 := hb.getD 1
  have g2 := hb.getD 2
  rw [take2 hs.1, le2 g1.1 g2.1, ← hle] at h2
  have c0 := hs.2.2 _ rfl 0 (by omega)
  rw [addr_add, Nat.add_zero] at c0
  have g0 := hb.getD 0
  have hbody : ∃ k, Src w (some ⟨g, k, none⟩) (slen s) (sbody s) ∧ (0 < slen s → k = o + 7) ∧ Calls Try.prog 21 #[.pointer (some ⟨g, o, none⟩), .int .i64 7, .int .i64 (7 + (slen s : Int))] w fun e w' => e = .returned (.slice (some ⟨g, k, none⟩) (slen s) (slen s)) ∧ w' = w := by
    by_cases h0 : slen s = 0
    · have hcn := cut_none g o 7 w (by omega)
      refine ⟨o, ⟨by rw [sbody_len hN hs.1], (fun e => by cases e), fun x hx i hi => by omega⟩, fun h => by omega, ?_⟩
      rw [h0]
      exact hcn
    · have hc := cut_any g o 7 (7 + slen s) w (by omega) (by omega)
      refine ⟨o + 7, src_part hs (i := 7) (m := slen s) (by omega), fun _ => rfl, ?_⟩
      have e1 : 7 + slen s - 7 = slen s := by omega
      rw [e1] at hc
      have e2 : ((7 + slen s : Nat) : Int) = 7 + (slen s : Int) := by omega
      rw [e2] at hc
      exact hc
  obtain ⟨k, hk, hkk, hc⟩ := hbody
  obtain ⟨t, ht⟩ : ∃ t : Nat, s.getD 0 0 = (t : Int) := ⟨(s.getD 0 0).toNat, by omega⟩
  have hbl := sbody_len hN hs.1
  have hbb : Bytes (sbody s) := (hb.drop _).take _
  rw [ht] at c0 hx ⊢
  have p1 : Hid (∀ q : Later w, Calls Try.prog 14 #[.int .u8 (t : Int), .slice (some ⟨g, k, none⟩) (slen s) (slen s)] q.to fun e w' => e = .returned (.agg (bs (sform t (sbody s))).toArray) ∧ Below q.to.heap.size q.to w') :=
    fun q => sealed_any t (some ⟨g, k, none⟩) (slen s) (slen s) (sbody s) q.to (by omega) (hk.later q.h) hN hbb
  have hinfo := infoSecL (l := s) hs.1
  have hfl : (sform t (sbody s)).length = 512 := sform_len (by rw [hbl]; exact hN)
  have hra : ∀ w', (∃ q : Later w, w' = q.to) → w'.rangeAt g o (bs s) := fun w' ⟨q, e⟩ => by rw [e]; exact src_range (hs.later q.h)
  have hsl := hs.1
  have c0q : ∀ q : Later w, q.to.cell? ⟨g, o, none⟩ = some (.int .u8 (t : Int)) := fun q => cell_later q.h c0
  have hNN : ¬ 504 < ((slen s : Nat) : Int) := by omega
  have Hkk := Hid.mk hkk
  have Hra := Hid.mk hra
  have Hfl := Hid.mk hfl
  have Hsl := Hid.mk hsl
  have Hinfo := Hid.mk hinfo
  clear hs hp hle g0 g1 g2 hk hkk hbl hbb hfl hinfo hra hsl
  obtain ⟨R, hR⟩ : ∃ R, R = sform t (sbody s) := ⟨_, rfl⟩
  rw [← hR] at p1 Hfl ⊢
  clear hR
  generalize slen s = N at *
  have hx3 : ¬ 3 ≤ (t : Int) := by omega
  go_enter Try.func37, Try.ntmps37
  go_wp2_with fail
  refine h1.mono ?_
  rintro e w' ⟨rfl, hw⟩
  have hw' := hw.symm
  subst hw'
  clear hw h1
  go_wp2_with fail
  refine h2.mono ?_
  rintro e w' ⟨rfl, hw⟩
  have hw' := hw.symm
  subst hw'
  clear hw h2
  go_wp2_with fail
  refine hc.mono ?_
  rintro e w' ⟨rfl, hw⟩
  have hw' := hw.symm
  subst hw'
  clear hw hc
  go_wp2_with fail
  have hne := Later.some w
  refine wp_region_later (by kernel_rfl) (by kernel_rfl) ?_
  repeat (first | go_big_quiet_skip | (go_big_quiet_want; go_big_quiet_op; first | go_big_quiet_on | (apply Exists.intro; refine ⟨fun q => ?_, ?_⟩; exact Calls.later_of (p1.out q); go_big_quiet_on)))
  go_big_quiet_want
  refine quiet_load_mid 44 _ rfl g o rfl (bs s) _ Hra.out Try.underlying44 rfl Hinfo.out ?_
  simp only [Act.put, List.setIfInBounds_toArray, List.set_cons_succ, List.set_cons_zero]
  go_big_quiet_on
  go_big_quiet_want
  refine quiet_eq_sec _ _ _ rfl R s rfl rfl Hfl.out Hsl.out ?_
  simp only [Act.put, List.setIfInBounds_toArray, List.set_cons_succ, List.set_cons_zero]
  go_big_quiet_on
  repeat (go_big_quiet_want; go_big_quiet_op; go_big_quiet_on)
  refine wpQuiet_nil ?_
  rintro _ ⟨q, rfl⟩
  go_wp2
  go_ret2
  exact ⟨k, rfl, Hkk.out, q.h⟩
end Go.Proofs.Ytohgdjlgbnpobaa
end

section
namespace Go.Proofs.Ytohgdjlgbnpobaa
open Go.RowKit

/-- What a call answers: a list in block g, or none. -/
def LstIn (w : World) (g : Nat) (v : Value) (l : List Int) : Prop := ∃ a c, v = .slice a l.length c ∧ Src w a l.length l ∧ c = l.length ∧ ∀ x, a = some x → x.block = g
theorem LstIn.nil (w : World) (g : Nat) : LstIn w g (.slice none 0 0) [] := ⟨none, 0, rfl, ⟨rfl, fun _ => rfl, fun x hx => by cases hx⟩, rfl, fun x hx => by cases hx⟩
theorem LstIn.later {w w' : World} {g : Nat} {v : Value} {l : List Int} (h : LstIn w g v l) (hb : Below w.heap.size w w') : LstIn w' g v l := by
  obtain ⟨a, c, rfl, hs, hc, hx⟩ := h
  exact ⟨a, c, rfl, hs.later hb, hc, hx⟩
theorem LstIn.lst {w : World} {g B : Nat} {v : Value} {l : List Int} (h : LstIn w g v l) (hg : B ≤ g) (hp : Plain w g) : Lst w B v l := by
  obtain ⟨a, c, rfl, hs, hc, hx⟩ := h
  exact ⟨a, c, rfl, hs, hc, fun x e => by rw [hx x e]; exact ⟨hg, hp⟩⟩

theorem sanchor_short {s : List Int} (h : sopen s = none ∨ ∃ b, sopen s = some b ∧ (b.length < 8 ∨ 9223372036854775808 ≤ le (b.take 8))) : sanchor s = (0, []) := by
  rcases h with h | ⟨b, h, h2⟩
  · simp [sanchor, h]
  · simp only [sanchor, h]
    rw [if_neg (by omega)]
theorem sanchor_good {s b : List Int} (h : sopen s = some b) (h1 : 8 ≤ b.length) (h2 : le (b.take 8) < 9223372036854775808) : sanchor s = (le (b.take 8), b.drop 8) := by
  simp only [sanchor, h]
  rw [if_pos ⟨h1, h2⟩]

set_option maxRecDepth 20000 in
set_option maxHeartbeats 4000000 in
theorem anchor_any (g o : Nat) (s : List Int) (w : World) (hs : Src w (some ⟨g, o, none⟩) 512 s) (hb : Bytes s) :
    Calls Try.prog 48 #[.pointer (some ⟨g, o, none⟩)] w fun e w' => ∃ v, e = .returned (.tuple #[.int .i64 (((sanchor s).1 : Nat) : Int), v]) ∧ LstIn w' g v (sanchor s).2 ∧ Below w.heap.size w w' := by
  have hsl := hs.1
  by_cases hbad : 504 < slen s ∨ 2 < s.getD 0 0
  · have hno : sanchor s = (0, []) := sanchor_short (.inl (by unfold sopen; rw [if_neg (fun h => by omega)]))
    have Hno := Hid.mk hno
    have h1 := open_no g o s w hs hb hbad
    clear hno hs
    go_enter Try.func48, Try.ntmps48
    go_wp2_with fail
    refine h1.mono ?_
    rintro e w' ⟨rfl, hw⟩
    have hw' := hw.symm
    subst hw'
    clear hw h1
    go_wp2
    go_ret2
    exact ⟨_, by rw [Hno.out]; rfl, by rw [Hno.out]; exact LstIn.nil _ _, Below.refl _ _⟩
  · have h1 := open_yes g o s w hs hb (by omega) (by omega)
    have hbl := sbody_len (s := s) (by omega) hsl
    have hbb : Bytes (sbody s) := (hb.drop _).take _
    by_cases heq : sform (s.getD 0 0) (sbody s) = s
    · have hop : sopen s = some (sbody s) := by unfold sopen; rw [if_pos ⟨by omega, by omega, heq⟩]
      rw [decide_eq_true heq] at h1
      by_cases h8 : slen s < 8
      · have hno : sanchor s = (0, []) := sanchor_short (.inr ⟨_, hop, .inl (by omega)⟩)
        have Hno := Hid.mk hno
        have h8' : (slen s : Int) < 8 := by omega
        clear hno hs hop heq hbb
        generalize slen s = N at *
        go_enter Try.func48, Try.ntmps48
        go_wp2_with fail
        refine h1.mono ?_
        rintro e w1 ⟨k, rfl, _, hb1⟩
        have HB1 := Hid.mk hb1
        clear hb1 h1
        go_wp2
        go_ret2
        exact ⟨_, by rw [Hno.out]; rfl, by rw [Hno.out]; exact LstIn.nil _ _, HB1.out⟩
      · have h8' : ¬ (slen s : Int) < 8 := by omega
        have hsb : ∀ w1 : World, Below w.heap.size w w1 → Src w1 (some ⟨g, o + 7, none⟩) (slen s) (sbody s) := fun w1 h => src_part (hs.later h) (i := 7) (m := slen s) (by omega)
        have ht8 : ((sbody s).take 8).length = 8 := by rw [List.length_take]; omega
        have hsmall := le_small (hbb.take 8) (by omega)
        have htk : ∀ w1 : World, Below w.heap.size w w1 → Calls Try.prog 47 #[.slice (some ⟨g, o + 7, none⟩) 8 8] w1 fun e w' => e = .returned (.int .u64 ((le ((sbody s).take 8) : Nat) : Int)) ∧ w' = w1 := fun w1 h => by
          have hp := src_part (hsb w1 h) (i := 0) (m := 8) (by omega)
          rw [List.drop_zero] at hp
          exact taken_any g (o + 7) 8 8 ((sbody s).take 8) w1 (hbb.take 8) ht8 (by omega) (fun i hi => by have := hp.2.2 _ rfl i hi; rwa [addr_add, Nat.add_zero] at this)
        have Htk := Hid.mk htk
        clear htk
        obtain ⟨M, hM⟩ : ∃ M, M = le ((sbody s).take 8) := ⟨_, rfl⟩
        rw [← hM] at hsmall Htk
        by_cases hbig : 9223372036854775807 < M
        · have hno : sanchor s = (0, []) := sanchor_short (.inr ⟨_, hop, .inr (by omega)⟩)
          have Hno := Hid.mk hno
          have hbig' : 9223372036854775807 < (M : Int) := by omega
          clear hno hs hop heq hbb hM
          generalize slen s = N at *
          have c8 : (8 : Int) ≤ (N : Int) := by omega
          go_enter Try.func48, Try.ntmps48
          go_wp2_with fail
          refine h1.mono ?_
          rintro e w1 ⟨k, rfl, hk, hb1⟩
          have hk' := hk (by omega)
          subst hk'
          have HB1 := Hid.mk hb1
          have ht := Htk.out w1 hb1
          clear hb1 h1 Htk hk
          go_wp2_with fail
          refine ht.mono ?_
          rintro e w' ⟨rfl, hw⟩
          have hw' := hw.symm
          subst hw'
          clear hw ht
          go_wp2
          go_ret2
          exact ⟨_, by rw [Hno.out]; rfl, by rw [Hno.out]; exact LstIn.nil _ _, HB1.out⟩
        · have hyes : sanchor s = (M, (sbody s).drop 8) := by rw [hM]; exact sanchor_good hop (by omega) (by omega)
          have Hyes := Hid.mk hyes
          have hbig' : ¬ 9223372036854775807 < (M : Int) := by omega
          have hdl : ((sbody s).drop 8).length = slen s - 8 := by simp; omega
          have hfin : ∀ (w1 : World) (k : Nat), Below w.heap.size w w1 → (8 < slen s → k = o + 7 + 8) → LstIn w1 g (.slice (some ⟨g, k, none⟩) (slen s - 8) (slen s - 8)) ((sbody s).drop 8) := by
            intro w1 k h hk
            refine ⟨some ⟨g, k, none⟩, slen s - 8, by rw [hdl], ?_, by omega, fun x hx => by cases hx; rfl⟩
            rw [hdl]
            by_cases h9 : 8 < slen s
            · rw [hk h9]
              have := src_part (hsb w1 h) (i := 8) (m := slen s - 8) (by omega)
              rwa [List.take_of_length_le (by omega)] at this
            · exact ⟨by omega, (fun e => by cases e), fun x hx i hi => by omega⟩
          have Hfin := Hid.mk hfin
          clear hyes hs hop heq hbb hM hfin hsb hdl ht8 hbl
          generalize slen s = N at *
          have c8 : (8 : Int) ≤ (N : Int) := by omega
          by_cases h9 : N = 8
          · subst h9
            go_enter Try.func48, Try.ntmps48
            go_wp2_with fail
            refine h1.mono ?_
            rintro e w1 ⟨k, rfl, hk, hb1⟩
            have hk' := hk (by omega)
            subst hk'
            have HB1 := Hid.mk hb1
            have ht := Htk.out w1 hb1
            clear hb1 h1 Htk hk
            go_wp2_with fail
            refine ht.mono ?_
            rintro e w' ⟨rfl, hw⟩
            have hw' := hw.symm
            subst hw'
            clear hw ht
            go_wp2
            go_quiet (fail)
            go_wp2
            go_ret2
            exact ⟨_, by rw [Hyes.out]; rfl, by rw [Hyes.out]; exact Hfin.out _ _ (below_drewN HB1.out _) (fun h => by omega), below_drewN HB1.out _⟩
          · have h9' : ¬ (N : Int) = 8 := by omega
            have h9'' : (8 : Int) < (N : Int) := by omega
            go_enter Try.func48, Try.ntmps48
            go_wp2_with fail
            refine h1.mono ?_
            rintro e w1 ⟨k, rfl, hk, hb1⟩
            have hk' := hk (by omega)
            subst hk'
            have HB1 := Hid.mk hb1
            have ht := Htk.out w1 hb1
            clear hb1 h1 Htk hk
            go_wp2_with fail
            refine ht.mono ?_
            rintro e w' ⟨rfl, hw⟩
            have hw' := hw.symm
            subst hw'
            clear hw ht
            go_wp2
            go_quiet (fail)
            go_wp2
            go_ret2
            exact ⟨_, by rw [Hyes.out]; rfl, by rw [Hyes.out]; exact Hfin.out _ _ (below_drewN HB1.out _) (fun h => by omega), below_drewN HB1.out _⟩
    · have hno : sanchor s = (0, []) := sanchor_short (.inl (by unfold sopen; rw [if_neg (fun h => heq h.2.2)]))
      have Hno := Hid.mk hno
      rw [decide_eq_false heq] at h1
      clear hno hs heq hbb
      generalize slen s = N at *
      go_enter Try.func48, Try.ntmps48
      go_wp2_with fail
      refine h1.mono ?_
      rintro e w1 ⟨k, rfl, _, hb1⟩
      have HB1 := Hid.mk hb1
      clear hb1 h1
      go_wp2
      go_ret2
      exact ⟨_, by rw [Hno.out]; rfl, by rw [Hno.out]; exact LstIn.nil _ _, HB1.out⟩
end Go.Proofs.Ytohgdjlgbnpobaa
end

section
namespace Go.Proofs.Ytohgdjlgbnpobaa
open Go.RowKit

theorem snewest_eq {l r : List Int} (hl : l.length = 512) (hr : r.length = 512) : snewest l r = if (sanchor l).1 = 0 ∧ (sanchor r).1 = 0 then (0, 0, [], 30) else if (sanchor l).1 < (sanchor r).1 then (1, (sanchor r).1, (sanchor r).2, 0) else (0, (sanchor l).1, (sanchor l).2, 0) := by
  unfold snewest; rw [if_neg (by omega)]
theorem sanchor_small (s : List Int) : (sanchor s).1 ≤ 9223372036854775807 := by
  unfold sanchor
  split
  · simp
  · split
    · next h => simp only; omega
    · simp

/-- What newest holds behind k rounds. -/
def nst (l r : List Int) : Nat → Nat × Nat × List Int
  | 0 => (0, 0, [])
  | 1 => if 0 < (sanchor l).1 then (0, (sanchor l).1, (sanchor l).2) else (0, 0, [])
  | _ + 2 => if (if 0 < (sanchor l).1 then (0, (sanchor l).1, (sanchor l).2) else (0, 0, ([] : List Int))).2.1 < (sanchor r).1 then (1, (sanchor r).1, (sanchor r).2) else if 0 < (sanchor l).1 then (0, (sanchor l).1, (sanchor l).2) else (0, 0, [])
theorem nst_two {l r : List Int} (hl : l.length = 512) (hr : r.length = 512) : nst l r 2 = ((snewest l r).1, (snewest l r).2.1, (snewest l r).2.2.1) := by
  rw [snewest_eq hl hr]
  unfold nst
  by_cases h1 : 0 < (sanchor l).1
  · simp only [if_pos h1]
    rw [if_neg (show ¬ ((sanchor l).1 = 0 ∧ (sanchor r).1 = 0) by omega)]
    by_cases h2 : (sanchor l).1 < (sanchor r).1
    · simp only [if_pos h2]
    · simp only [if_neg h2]
  · simp only [if_neg h1]
    by_cases h2 : 0 < (sanchor r).1
    · simp only [if_pos h2]
      rw [if_neg (show ¬ ((sanchor l).1 = 0 ∧ (sanchor r).1 = 0) by omega), if_pos (show (sanchor l).1 < (sanchor r).1 by omega)]
    · simp only [if_neg h2]
      rw [if_pos (show (sanchor l).1 = 0 ∧ (sanchor r).1 = 0 by omega)]
theorem LstIn.agree {w w' : World} {g : Nat} {v : Value} {l : List Int} (h : LstIn w g v l) (hb : w'.heap[g]? = w.heap[g]?) : LstIn w' g v l := by
  obtain ⟨a, c, rfl, hs, hc, hx⟩ := h
  refine ⟨a, c, rfl, ⟨hs.1, hs.2.1, fun x e i hi => ?_⟩, hc, hx⟩
  have hbl := hx x e
  rw [World.cell?_of_block (w := w) (by rw [blockOf_add, hbl]; exact hb)]
  exact hs.2.2 x e i hi
theorem set3 {w : World} {g : Nat} {T : TypeId} {a b c x y z : Value} (h : w.heap[g]? = some (.cells #[a, b, c] T (0, 0))) :
    (((w.setCell ⟨g, 0, none⟩ x).setCell ⟨g, 1, none⟩ y).setCell ⟨g, 2, none⟩ z).heap[g]? = some (.cells #[x, y, z] T (0, 0)) := by
  rw [heap_setCell_same _ _ _ _ _ _ (heap_setCell_same _ _ _ _ _ _ (heap_setCell_same _ _ _ _ _ _ h))]
  rfl
theorem range3 {w : World} {g : Nat} {T : TypeId} {x y z : Value} (h : w.heap[g]? = some (.cells #[x, y, z] T (0, 0))) : w.rangeAt g 0 [x, y, z] := by
  intro j v hv
  rw [Nat.zero_add]
  exact cell_of_block h (by simpa using hv)
theorem infoAnchor : (Try.prog.info? 82).map (·.size) = some 3 := by kernel_rfl
theorem keeps3 (w : World) (g : Nat) (x y z : Value) : Keeps (fun j => j = g) w (((w.setCell ⟨g, 0, none⟩ x).setCell ⟨g, 1, none⟩ y).setCell ⟨g, 2, none⟩ z) :=
  ((Keeps.setCell (F := fun j => j = g) (p := ⟨g, 0, none⟩) w rfl x).trans (Keeps.setCell (F := fun j => j = g) (p := ⟨g, 1, none⟩) _ rfl y) (fun _ h => .inl h)).trans (Keeps.setCell (F := fun j => j = g) (p := ⟨g, 2, none⟩) _ rfl z) (fun _ h => .inl h)
/-- What newest's loop keeps. -/
def Nw (w : World) (g : Nat) (l r : List Int) (k : Nat) (wr : World) : Prop :=
  ∃ v, wr.heap[w.heap.size + 1]? = some (.cells #[.int .i64 (((nst l r k).1 : Nat) : Int), .int .i64 (((nst l r k).2.1 : Nat) : Int), v] 82 (0, 0)) ∧ LstIn wr g v (nst l r k).2.2 ∧
    (∃ x y z, wr.heap[w.heap.size]? = some (.cells #[x, y, z] 82 (0, 0))) ∧ Below w.heap.size w wr

set_option maxRecDepth 20000 in
set_option maxHeartbeats 4000000 in
theorem newest_any (g : Nat) (l r : List Int) (w : World) (hs : Src w (some ⟨g, 0, none⟩) 512 l) (hs2 : Src w (some ⟨g, 512, none⟩) 512 r) (hl : Bytes l) (hr : Bytes r) :
    Calls Try.prog 40 #[.pointer (some ⟨g, 0, none⟩)] w fun e w' => ∃ v, e = .returned (.agg #[.int .i64 (((snewest l r).1 : Nat) : Int), .int .i64 (((snewest l r).2.1 : Nat) : Int), v]) ∧ LstIn w' g v (snewest l r).2.2.1 ∧ Below w.heap.size w w' := by
  have hll := hs.1
  have hrl := hs2.1
  have sl := sanchor_small l
  have sr := sanchor_small r
  have h1 := Hid.mk (fun w' (hb : Below w.heap.size w w') => anchor_any g 0 l w' (hs.later hb) hl)
  have h2 := Hid.mk (fun w' (hb : Below w.heap.size w w') => anchor_any g 512 r w' (hs2.later hb) hr)
  have hg : g < w.heap.size := hs.old _ rfl (by omega)
  have Hfin := Hid.mk (nst_two hll hrl)
  clear hs hs2
  go_enter Try.func40, Try.ntmps40
  go_wp2
  go_loopw [8] (fun i wr => ∃ k : Nat, k ≤ 2 ∧ i = .int .i64 k ∧ Nw w g l r k wr) (fun i _ => 2 - (intOf i).toNat)
  case atStart => exact ⟨0, Nat.zero_le _, rfl, .slice none 0 0, heap_alloc2_new _ _ _, LstIn.nil _ _, ⟨_, _, _, heap_alloc2_old _ _ _⟩, ((Below.refl _ w).alloc (Nat.le_refl _) _).alloc (by simp) _⟩
  case round =>
    obtain ⟨k, hk, rfl, hN⟩ := hrel
    obtain rfl | rfl | rfl : k = 0 ∨ k = 1 ∨ k = 2 := by omega
    · obtain ⟨v, hblk, hlst, hres, hbr⟩ := hN
      have k1 := h1.out wr hbr
      have HN := Hid.mk (And.intro hblk (And.intro hlst (And.intro hres hbr)))
      clear hblk hlst hres hbr
      generalize hns : nst l r 0 = S at *
      go_wp2_with fail
      refine k1.mono ?_
      rintro e w1 ⟨v1, rfl, hl1, hb1⟩
      obtain ⟨a1, c1, hv1, hq1⟩ := hl1
      subst hv1
      have hl1 : LstIn w1 g _ _ := ⟨a1, c1, rfl, hq1⟩
      clear hq1
      obtain ⟨hblk, hlst, ⟨rx, ry, rz, hres⟩, hbr⟩ := HN.out
      have hblk1 := (hb1.block _ (Array.getElem?_eq_some_iff.1 hblk).1).trans hblk
      have hres1 := (hb1.block _ (Array.getElem?_eq_some_iff.1 hres).1).trans hres
      have hB1 := hbr.trans (hb1.mono hbr.size)
      have hlst1 := hlst.later hb1
      have hc0 := cell_of_block hblk1 (j := 0) rfl
      have hc1 := cell_of_block hblk1 (j := 1) rfl
      have hc2 := cell_of_block hblk1 (j := 2) rfl
      have hf0 := frozen_of_block hblk1 0
      have hf1 := frozen_of_block hblk1 1
      have hf2 := frozen_of_block hblk1 2
      have hz := hB1.size
      by_cases h0 : S.2.1 < (sanchor l).1
      · have h0' : ((S.2.1 : Nat) : Int) < (((sanchor l).1 : Nat) : Int) := by omega
        have hn : nst l r 1 = (0, (sanchor l).1, (sanchor l).2) := by
          rw [← hns] at h0
          have h0 : 0 < (sanchor l).1 := h0
          unfold nst; rw [if_pos h0]
        have hset := set3 (x := .int .i64 0) (y := .int .i64 (((sanchor l).1 : Nat) : Int)) (z := .slice a1 (sanchor l).2.length c1) hblk1
        have hkp := keeps3 w1 (w.heap.size + 1) (.int .i64 0) (.int .i64 (((sanchor l).1 : Nat) : Int)) (.slice a1 (sanchor l).2.length c1)
        have hNw : Nw w g l r 1 (((w1.setCell ⟨w.heap.size + 1, 0, none⟩ (.int .i64 0)).setCell ⟨w.heap.size + 1, 1, none⟩ (.int .i64 (((sanchor l).1 : Nat) : Int))).setCell ⟨w.heap.size + 1, 2, none⟩ (.slice a1 (sanchor l).2.length c1)) := by
          refine ⟨_, by rw [hn]; exact hset, by rw [hn]; exact hl1.agree (hkp.block g (by omega) (by omega)), ⟨rx, ry, rz, (hkp.block _ (Array.getElem?_eq_some_iff.1 hres1).1 (by omega)).trans hres1⟩, hB1.trans (hkp.below (fun j hj => by omega) hB1.size)⟩
        have HNw := Hid.mk hNw
        generalize (sanchor l).1 = A at *
        generalize (sanchor l).2.length = D at *
        clear k1 HN hblk hlst hres hbr hblk1 hres1 hB1 hlst1 hset hkp hNw hl1 hb1 hn
        go_wp2
        go_roundw
        case rel => exact ⟨1, by omega, by go_num, HNw.out⟩
        case measure => simp [intOf]
      · have h0' : ¬ ((S.2.1 : Nat) : Int) < (((sanchor l).1 : Nat) : Int) := by omega
        have hn : nst l r 1 = S := by
          rw [← hns] at h0 ⊢
          have h0 : ¬ 0 < (sanchor l).1 := h0
          unfold nst; rw [if_neg h0]
        have hNw : Nw w g l r 1 w1 := ⟨v, by rw [hn]; exact hblk1, by rw [hn]; exact hlst1, ⟨rx, ry, rz, hres1⟩, hB1⟩
        have HNw := Hid.mk hNw
        generalize (sanchor l).1 = A at *
        generalize (sanchor l).2.length = D at *
        clear k1 HN hblk hlst hres hbr hblk1 hres1 hB1 hlst1 hNw hl1 hb1 hn
        go_wp2
        go_roundw
        case rel => exact ⟨1, by omega, by go_num, HNw.out⟩
        case measure => simp [intOf]
    · obtain ⟨v, hblk, hlst, hres, hbr⟩ := hN
      have k1 := h2.out wr hbr
      have HN := Hid.mk (And.intro hblk (And.intro hlst (And.intro hres hbr)))
      clear hblk hlst hres hbr
      generalize hns : nst l r 1 = S at *
      go_wp2_with fail
      refine k1.mono ?_
      rintro e w1 ⟨v1, rfl, hl1, hb1⟩
      obtain ⟨a1, c1, hv1, hq1⟩ := hl1
      subst hv1
      have hl1 : LstIn w1 g _ _ := ⟨a1, c1, rfl, hq1⟩
      clear hq1
      obtain ⟨hblk, hlst, ⟨rx, ry, rz, hres⟩, hbr⟩ := HN.out
      have hblk1 := (hb1.block _ (Array.getElem?_eq_some_iff.1 hblk).1).trans hblk
      have hres1 := (hb1.block _ (Array.getElem?_eq_some_iff.1 hres).1).trans hres
      have hB1 := hbr.trans (hb1.mono hbr.size)
      have hlst1 := hlst.later hb1
      have hc0 := cell_of_block hblk1 (j := 0) rfl
      have hc1 := cell_of_block hblk1 (j := 1) rfl
      have hc2 := cell_of_block hblk1 (j := 2) rfl
      have hf0 := frozen_of_block hblk1 0
      have hf1 := frozen_of_block hblk1 1
      have hf2 := frozen_of_block hblk1 2
      have hz := hB1.size
      by_cases h0 : S.2.1 < (sanchor r).1
      · have h0' : ((S.2.1 : Nat) : Int) < (((sanchor r).1 : Nat) : Int) := by omega
        have hn : nst l r 2 = (1, (sanchor r).1, (sanchor r).2) := by
          rw [← hns] at h0
          unfold nst at h0 ⊢; rw [if_pos h0]
        have hset := set3 (x := .int .i64 1) (y := .int .i64 (((sanchor r).1 : Nat) : Int)) (z := .slice a1 (sanchor r).2.length c1) hblk1
        have hkp := keeps3 w1 (w.heap.size + 1) (.int .i64 1) (.int .i64 (((sanchor r).1 : Nat) : Int)) (.slice a1 (sanchor r).2.length c1)
        have hNw : Nw w g l r 2 (((w1.setCell ⟨w.heap.size + 1, 0, none⟩ (.int .i64 1)).setCell ⟨w.heap.size + 1, 1, none⟩ (.int .i64 (((sanchor r).1 : Nat) : Int))).setCell ⟨w.heap.size + 1, 2, none⟩ (.slice a1 (sanchor r).2.length c1)) := by
          refine ⟨_, by rw [hn]; exact hset, by rw [hn]; exact hl1.agree (hkp.block g (by omega) (by omega)), ⟨rx, ry, rz, (hkp.block _ (Array.getElem?_eq_some_iff.1 hres1).1 (by omega)).trans hres1⟩, hB1.trans (hkp.below (fun j hj => by omega) hB1.size)⟩
        have HNw := Hid.mk hNw
        generalize (sanchor r).1 = A at *
        generalize (sanchor r).2.length = D at *
        clear k1 HN hblk hlst hres hbr hblk1 hres1 hB1 hlst1 hset hkp hNw hl1 hb1 hn
        go_wp2
        go_roundw
        case rel => exact ⟨2, by omega, by go_num, HNw.out⟩
        case measure => simp [intOf]
      · have h0' : ¬ ((S.2.1 : Nat) : Int) < (((sanchor r).1 : Nat) : Int) := by omega
        have hn : nst l r 2 = S := by
          rw [← hns] at h0 ⊢
          unfold nst at h0 ⊢; rw [if_neg h0]
        have hNw : Nw w g l r 2 w1 := ⟨v, by rw [hn]; exact hblk1, by rw [hn]; exact hlst1, ⟨rx, ry, rz, hres1⟩, hB1⟩
        have HNw := Hid.mk hNw
        generalize (sanchor r).1 = A at *
        generalize (sanchor r).2.length = D at *
        clear k1 HN hblk hlst hres hbr hblk1 hres1 hB1 hlst1 hNw hl1 hb1 hn
        go_wp2
        go_roundw
        case rel => exact ⟨2, by omega, by go_num, HNw.out⟩
        case measure => simp [intOf]
    · obtain ⟨v, hblk, hlst, ⟨rx, ry, rz, hres⟩, hbr⟩ := hN
      rw [Hfin.out] at hblk hlst
      obtain ⟨a1, c1, hv1, hq1⟩ := hlst
      subst hv1
      have hlst : LstIn wr g _ _ := ⟨a1, c1, rfl, hq1⟩
      clear hq1
      dsimp only at hblk hlst
      generalize hD : (snewest l r).2.2.1.length = D at *
      have hc0 := cell_of_block hblk (j := 0) rfl
      have hc1 := cell_of_block hblk (j := 1) rfl
      have hc2 := cell_of_block hblk (j := 2) rfl
      have hd0 := cell_of_block hres (j := 0) rfl
      have hd1 := cell_of_block hres (j := 1) rfl
      have hd2 := cell_of_block hres (j := 2) rfl
      have hf0 := frozen_of_block hres 0
      have hf1 := frozen_of_block hres 1
      have hf2 := frozen_of_block hres 2
      have hset := set3 (x := .int .i64 (((snewest l r).1 : Nat) : Int)) (y := .int .i64 (((snewest l r).2.1 : Nat) : Int)) (z := .slice a1 D c1) hres
      have hkp := keeps3 wr w.heap.size (.int .i64 (((snewest l r).1 : Nat) : Int)) (.int .i64 (((snewest l r).2.1 : Nat) : Int)) (.slice a1 D c1)
      have hz := hbr.size
      have hl2 := hlst.agree (hkp.block g (by omega) (by omega))
      have hB2 := hbr.trans (hkp.below (fun j hj => by omega) hbr.size)
      have HH := Hid.mk (And.intro hl2 hB2)
      have e0 := cell_of_block hset (j := 0) rfl
      have e1 := cell_of_block hset (j := 1) rfl
      have e2 := cell_of_block hset (j := 2) rfl
      clear hblk hlst hres hbr hkp hl2 hB2 Hfin h1 h2
      have hr3 := Hid.mk (range3 hset)
      obtain ⟨A, hA⟩ : ∃ A, A = (snewest l r).1 := ⟨_, rfl⟩
      obtain ⟨B, hB⟩ : ∃ B, B = (snewest l r).2.1 := ⟨_, rfl⟩
      rw [← hA] at hc0 hset HH e0 e1 e2 hr3
      rw [← hB] at hc1 hset HH e0 e1 e2 hr3
      have HA := Hid.mk hA
      have HB := Hid.mk hB
      have HD := Hid.mk hD
      clear hA hB hD hset
      go_wp2
      exact bodyPost_ret (results_cell_mid (P := Try.prog) rfl _ _ w.heap.size _ _ rfl hr3.out Try.underlying82 rfl infoAnchor) rfl ⟨.slice a1 D c1, by rw [← HA.out, ← HB.out], HH.out⟩
end Go.Proofs.Ytohgdjlgbnpobaa
end

section
namespace Go.Proofs.Ytohgdjlgbnpobaa
open Go.RowKit

theorem results_tmp4 {P : Program} {fn : Func} {p q r s : Tmp} (h : fn.results = #[.tmp p, .tmp q, .tmp r, .tmp s]) (tmps : Array Value) (w : World) :
    (results fn tmps).run P w = .ok (.tuple #[tmps.getD p undef, tmps.getD q undef, tmps.getD r undef, tmps.getD s undef]) w := by
  simp [results, h]
theorem infoPairL {l r : List Int} (h : l.length = 512) (h2 : r.length = 512) : (Try.prog.info? 78).map (·.size) = some (bs (l ++ r)).length := by
  rw [sizePair, bs, List.length_map, List.length_append, h, h2]
theorem pair_srcs {w : World} {T : TypeId} {g : Nat} {l r : List Int} (h : Blk w T g (l ++ r)) (hl : l.length = 512) (hr : r.length = 512) : Src w (some ⟨g, 0, none⟩) 512 l ∧ Src w (some ⟨g, 512, none⟩) 512 r := by
  have hll : (l ++ r).length = 1024 := by simp; omega
  have h1 := h.src (o := 0) (n := 512) (by omega)
  have h2 := h.src (o := 512) (n := 512) (by omega)
  rw [List.drop_zero, List.take_left' hl] at h1
  rw [List.drop_left' hl, List.take_of_length_le (by omega)] at h2
  exact ⟨h1, h2⟩
theorem secOf_bytes {l : List Int} (h : Bytes l) : Bytes (secOf l) := by unfold secOf; split; exact h; exact Bytes.zeros 512

set_option maxRecDepth 20000 in
set_option maxHeartbeats 4000000 in
theorem pnewest_any (a : Option Addr) (n c : Nat) (l : List Int) (a2 : Option Addr) (m d : Nat) (r : List Int) (w : World) (hs : Src w a n l) (hs2 : Src w a2 m r) (hl : Bytes l) (hr : Bytes r) :
    Calls Try.prog 29 #[.slice a n c, .slice a2 m d] w fun e w' => ∃ v, e = .returned (.tuple #[.int .i64 (((snewest l r).1 : Nat) : Int), .int .i64 (((snewest l r).2.1 : Nat) : Int), v, .int .i64 (((snewest l r).2.2.2 : Nat) : Int)]) ∧ Lst w' w.heap.size v (snewest l r).2.2.1 ∧ Below w.heap.size w w' := by
  have hz := zeroPair
  have h1 := pairOf_any a n c l a2 m d r w hs hs2
  have hln := hs.1
  have hrn := hs2.1
  have hinfo := infoPairL (secOf_len l) (secOf_len r)
  have hone := bs_one (secOf l ++ secOf r)
  have hall := all_oneCell_toArray hone
  have hFl : (bs (secOf l ++ secOf r)).length = 1024 := by rw [bs, List.length_map, List.length_append, secOf_len, secOf_len]
  obtain ⟨F, hF⟩ : ∃ F, F = bs (secOf l ++ secOf r) := ⟨_, rfl⟩
  rw [← hF] at h1 hinfo hall hFl
  have HF := Hid.mk hF
  clear hone hF hs hs2
  go_enter Try.func29, Try.ntmps29
  go_wp2_with fail
  refine h1.mono ?_
  rintro e w1 ⟨rfl, hb1⟩
  have hw1 : (w1.alloc (.cells zpair 78)).heap[w1.heap.size]? = some (.cells zpair 78 (0, 0)) := heap_alloc_new _ _
  have hth := there_of hw1 zpair_size
  rw [← hFl] at hth
  have hB1 : Below w.heap.size w (w1.alloc (.cells zpair 78)) := hb1.alloc hb1.size _
  have hsz := hb1.size
  have hB2 := hB1.trans ((Keeps.setCells (F := fun j => j = w1.heap.size) rfl F 0 _).below (fun j hj => by omega) hB1.size)
  have hblk := blk_stored (l := secOf l ++ secOf r) hw1 (by rw [zpair_size, List.length_append, secOf_len, secOf_len])
  rw [← HF.out] at hblk
  obtain ⟨w2, hw2⟩ : ∃ w2, w2 = (w1.alloc (.cells zpair 78)).setCells w1.heap.size 0 F := ⟨_, rfl⟩
  rw [← hw2] at hB2 hblk
  have HB2 := Hid.mk hB2
  have Hblk := Hid.mk hblk
  have HW2 := Hid.mk hw2
  clear h1 hw1 hB1 hb1 hB2 hblk hw2
  by_cases hwh : n = 512 ∧ m = 512
  · obtain ⟨rfl, rfl⟩ := hwh
    have el := secOf_self hln
    have er := secOf_self hrn
    rw [el, er] at Hblk
    obtain ⟨s1, s2⟩ := pair_srcs Hblk.out hln hrn
    have k1 := newest_any w1.heap.size l r w2 s1 s2 hl hr
    have hse := snewest_eq hln hrn
    have hsm : (snewest l r).2.1 ≤ 9223372036854775807 := by
      have sl := sanchor_small l
      have sr := sanchor_small r
      rw [hse]; split
      · simp
      · split <;> simp only <;> omega
    have herr : ((snewest l r).2.1 = 0 ∧ (snewest l r).1 = 0 ∧ (snewest l r).2.2.1 = [] ∧ (snewest l r).2.2.2 = 30) ∨ (0 < (snewest l r).2.1 ∧ (snewest l r).2.2.2 = 0) := by
      rw [hse]
      by_cases q : (sanchor l).1 = 0 ∧ (sanchor r).1 = 0
      · rw [if_pos q]; exact .inl ⟨rfl, rfl, rfl, rfl⟩
      · rw [if_neg q]
        by_cases q2 : (sanchor l).1 < (sanchor r).1
        · rw [if_pos q2]; exact .inr ⟨by simp only; omega, rfl⟩
        · rw [if_neg q2]; exact .inr ⟨by simp only; omega, rfl⟩
    have HPl : Hid (Plain w2 w1.heap.size) := ⟨_, _, Hblk.out⟩
    clear hse Hblk s1 s2 el er
    go_wp2_with (refine wpList_store_mid rfl 78 _ _ rfl w1.heap.size 0 F.toArray rfl rfl ?h1 ?h2 hall ?_)
    case h1 => simpa using hth
    case h2 => simpa using hinfo
    rw [← HW2.out]
    refine k1.mono ?_
    rintro e w3 ⟨v, rfl, hlst, hb3⟩
    obtain ⟨va, vc, hv, hq⟩ := hlst
    subst hv
    have hlst : LstIn w3 w1.heap.size _ _ := ⟨va, vc, rfl, hq⟩
    have hB3 := HB2.out.trans (hb3.mono HB2.out.size)
    have HL := Hid.mk (fun w' (h : Below w3.heap.size w3 w') => And.intro ((hlst.lst hsz (HPl.out.later hb3)).later h) (hB3.trans (h.mono hB3.size)))
    obtain ⟨A, hA⟩ : ∃ A, A = (snewest l r).1 := ⟨_, rfl⟩
    obtain ⟨B, hB⟩ : ∃ B, B = (snewest l r).2.1 := ⟨_, rfl⟩
    obtain ⟨D, hD⟩ : ∃ D, D = (snewest l r).2.2.1 := ⟨_, rfl⟩
    obtain ⟨E, hE⟩ : ∃ E, E = (snewest l r).2.2.2 := ⟨_, rfl⟩
    rw [← hA, ← hB, ← hD, ← hE] at herr
    rw [← hB] at hsm
    rw [← hD] at HL
    rw [← hA, ← hB, ← hD]
    have HE := Hid.mk (And.intro hA (And.intro hB (And.intro hD hE)))
    clear k1 hq hlst hb3 HW2 hth hinfo hall hB3 HB2 hA hB hD hE
    rcases herr with ⟨rfl, rfl, rfl, rfl⟩ | ⟨hB0, rfl⟩
    · go_wp2
      exact bodyPost_ret (results_tmp4 (P := Try.prog) rfl _ _) rfl ⟨.slice none 0 0, by rw [← HE.out.1, ← HE.out.2.1, ← HE.out.2.2.2]; rfl, by rw [← HE.out.2.2.1]; exact Lst.nil _ _, (HL.out _ ((Below.refl _ w3).alloc (Nat.le_refl _) _)).2⟩
    · have hB0' : ((B : Int) == 0) = false := by rw [beq_eq_false_iff_ne]; omega
      generalize hDL : D.length = DL at *
      have HDL := Hid.mk hDL
      clear hDL
      go_wp2
      go_quiet (fail)
      go_wp2
      exact bodyPost_ret (results_tmp4 (P := Try.prog) rfl _ _) rfl ⟨.slice va DL vc, by rw [← HE.out.1, ← HE.out.2.1, ← HE.out.2.2.2]; rfl, by rw [← HE.out.2.2.1]; exact (HL.out _ (below_drewN ((Below.refl _ w3).alloc (Nat.le_refl _) _) _)).1, (HL.out _ (below_drewN ((Below.refl _ w3).alloc (Nat.le_refl _) _) _)).2⟩
  · have e1 : snewest l r = (0, 0, [], 2) := by unfold snewest; rw [if_pos (by omega)]
    have hbb : (decide (n = 512) && decide (m = 512)) = false := by
      rw [← Bool.decide_and, decide_eq_false hwh]
    have He1 := Hid.mk e1
    rw [hbb]
    clear e1 hbb hwh
    go_wp2_with (refine wpList_store_mid rfl 78 _ _ rfl w1.heap.size 0 F.toArray rfl rfl ?h1 ?h2 hall ?_)
    case h1 => simpa using hth
    case h2 => simpa using hinfo
    rw [← HW2.out]
    exact bodyPost_ret (results_tmp4 (P := Try.prog) rfl _ _) rfl ⟨.slice none 0 0, by rw [He1.out]; rfl, by rw [He1.out]; exact Lst.nil _ _, HB2.out⟩
end Go.Proofs.Ytohgdjlgbnpobaa
end

section
namespace Go.Proofs.Ytohgdjlgbnpobaa
open Go.RowKit

set_option maxRecDepth 20000 in
set_option maxHeartbeats 4000000 in
theorem sopen_no1 (a : Option Addr) (n c : Nat) (w : World) (hn : n ≠ 512) :
    Calls Try.prog 25 #[.slice a n c] w fun e w' => e = .returned (.tuple #[.slice none 0 0, .int .i64 2]) ∧ Below w.heap.size w w' := by
  have hz := zeroSec
  have hs := sectorOf_no a n c w hn
  have hinfo := infoSecZ
  have hone := zsec_one
  generalize zsec = Z at *
  have hall : Z.all Value.oneCell' = true := all_oneCell_toArray hone
  clear hone
  go_enter Try.func25, Try.ntmps25
  go_wp2_with fail
  refine hs.mono ?_
  rintro e w1 ⟨rfl, hb1⟩
  have hw1 : (w1.alloc (.cells Z 44)).heap[w1.heap.size]? = some (.cells Z 44 (0, 0)) := heap_alloc_new _ _
  have hth : (w1.alloc (.cells Z 44)).there w1.heap.size 0 Z.toList.length := there_of hw1 (by simp)
  have hB1 : Below w.heap.size w (w1.alloc (.cells Z 44)) := hb1.alloc hb1.size _
  have hsz := hb1.size
  have hB6 := Hid.mk (hB1.trans ((Keeps.setCells (F := fun j => j = w1.heap.size) rfl Z.toList 0 _).below (fun j hj => by omega) hB1.size))
  clear hs hw1 hB1 hb1
  go_wp2_with (refine wpList_store_mid rfl 44 _ _ rfl w1.heap.size 0 Z rfl rfl ?h1 ?h2 hall ?_)
  case h1 => simpa using hth
  case h2 => simpa using hinfo
  go_ret2
  exact ⟨rfl, hB6.out⟩

set_option maxRecDepth 20000 in
set_option maxHeartbeats 4000000 in
theorem sopen_all (b o c : Nat) (s : List Int) (w : World) (hs : Src w (some ⟨b, o, none⟩) 512 s) (hbs : Bytes s) :
    Calls Try.prog 25 #[.slice (some ⟨b, o, none⟩) 512 c] w fun e w' => ∃ v, e = .returned (.tuple #[v, .int .i64 (((sopens s).2 : Nat) : Int)]) ∧ Lst w' w.heap.size v (sopens s).1 ∧ Below w.heap.size w w' := by
  have hz := zeroSec
  have hs1 := sectorOf_ok b o c s w hs
  have hinfo := infoSecL (l := s) hs.1
  have hone := bs_one s
  have hll : (bs s).length = 512 := by rw [bs, List.length_map, hs.1]
  have hsl := hs.1
  have hall := all_oneCell_toArray hone
  obtain ⟨F, hF⟩ : ∃ F, F = bs s := ⟨_, rfl⟩
  rw [← hF] at hs1 hinfo hone hll hall
  have HF := Hid.mk hF
  clear hone hs hF
  go_enter Try.func25, Try.ntmps25
  go_wp2_with fail
  refine hs1.mono ?_
  rintro e w1 ⟨rfl, hb1⟩
  have hw1 : (w1.alloc (.cells zsec 44)).heap[w1.heap.size]? = some (.cells zsec 44 (0, 0)) := heap_alloc_new _ _
  have hth := there_of hw1 zsec_size
  rw [← hll] at hth
  have hB1 : Below w.heap.size w (w1.alloc (.cells zsec 44)) := hb1.alloc hb1.size _
  have hsz := hb1.size
  have hB2 := hB1.trans ((Keeps.setCells (F := fun j => j = w1.heap.size) rfl F 0 _).below (fun j hj => by omega) hB1.size)
  have hblk := blk_stored (l := s) hw1 (by rw [zsec_size, hsl])
  rw [← HF.out] at hblk
  obtain ⟨w2, hw2⟩ : ∃ w2, w2 = (w1.alloc (.cells zsec 44)).setCells w1.heap.size 0 F := ⟨_, rfl⟩
  rw [← hw2] at hblk hB2
  have hsrc : Src w2 (some ⟨w1.heap.size, 0, none⟩) 512 s := by
    have := hblk.src (o := 0) (n := 512) (by omega)
    rwa [List.drop_zero, List.take_of_length_le (by omega)] at this
  have HB2 := Hid.mk hB2
  have Hsrc := Hid.mk hsrc
  have HPl : Hid (Plain w2 w1.heap.size) := ⟨_, _, hblk⟩
  clear hs1 hw1 hB1 hb1 hblk hB2 hsrc
  go_wp2_with (refine wpList_store_mid rfl 44 _ _ rfl w1.heap.size 0 F.toArray rfl rfl ?h1 ?h2 hall ?_)
  case h1 => simpa using hth
  case h2 => simpa using hinfo
  rw [← hw2]
  clear hw2 hth hinfo hall
  by_cases hbad : 504 < slen s ∨ 2 < s.getD 0 0
  · have hno : sopens s = ([], 30) := sopens_none hsl (sopen_no (fun h => by omega))
    have Hno := Hid.mk hno
    refine (open_no w1.heap.size 0 s w2 Hsrc.out hbs hbad).mono ?_
    rintro e w' ⟨rfl, hw⟩
    have hw' := hw.symm
    subst hw'
    clear hw hno hbad
    go_wp2
    go_ret2
    exact ⟨_, by rw [Hno.out]; rfl, by rw [Hno.out]; exact Lst.nil _ _, HB2.out⟩
  · refine (open_yes w1.heap.size 0 s w2 Hsrc.out hbs (by omega) (by omega)).mono ?_
    rintro e w3 ⟨k, rfl, hk, hb3⟩
    have hB3 := HB2.out.trans (hb3.mono HB2.out.size)
    have hsb : Src w3 (some ⟨w1.heap.size, k, none⟩) (slen s) (sbody s) := by
      by_cases h0 : slen s = 0
      · exact ⟨sbody_len (by omega) hsl, (fun e => by cases e), fun x hx i hi => by omega⟩
      · rw [hk (by omega)]
        exact src_part (Hsrc.out.later hb3) (i := 7) (m := slen s) (by omega)
    have HB3 := Hid.mk hB3
    have hbl := sbody_len (s := s) (by omega) hsl
    have hlst : Lst w3 w.heap.size (.slice (some ⟨w1.heap.size, k, none⟩) (slen s) (slen s)) (sbody s) := ⟨some ⟨w1.heap.size, k, none⟩, slen s, by rw [hbl], by rw [hbl]; exact hsb, by omega, fun x hx => by cases hx; exact ⟨hsz, HPl.out.later hb3⟩⟩
    have Hlst := Hid.mk hlst
    clear hB3 hsb hlst hk hb3 hbl
    by_cases heq : sform (s.getD 0 0) (sbody s) = s
    · have hy : sopens s = (sbody s, 0) := sopens_some hsl (sopen_yes (by omega) (by omega) heq)
      have Hy := Hid.mk hy
      rw [decide_eq_true heq]
      clear heq hy
      go_wp2
      go_ret2
      exact ⟨_, by rw [Hy.out]; rfl, by rw [Hy.out]; exact Hlst.out, HB3.out⟩
    · have hy : sopens s = ([], 30) := sopens_none hsl (sopen_no (fun h => heq h.2.2))
      have Hy := Hid.mk hy
      rw [decide_eq_false heq]
      clear heq hy
      go_wp2
      go_ret2
      exact ⟨_, by rw [Hy.out]; rfl, by rw [Hy.out]; exact Lst.nil _ _, HB3.out⟩

theorem sopen_any (a : Option Addr) (n c : Nat) (s : List Int) (w : World) (hs : Src w a n s) (hb : Bytes s) :
    Calls Try.prog 25 #[.slice a n c] w fun e w' => ∃ v, e = .returned (.tuple #[v, .int .i64 (((sopens s).2 : Nat) : Int)]) ∧ Lst w' w.heap.size v (sopens s).1 ∧ Below w.heap.size w w' := by
  by_cases hn : n = 512
  · subst hn
    obtain ⟨b, o, rfl⟩ := src_spot hs (by omega)
    exact sopen_all b o c s w hs hb
  · refine (sopen_no1 a n c w hn).mono ?_
    rintro e w' ⟨rfl, hbel⟩
    rw [sopens_no1 (by rw [hs.1]; exact hn)]
    exact ⟨_, rfl, Lst.nil _ _, hbel⟩
theorem sopens_len (s : List Int) : (sopens s).1.length ≤ 512 := by
  unfold sopens
  split
  · simp
  · next h =>
    have hl : s.length = 512 := by omega
    cases h2 : sopen s with
    | none => simp
    | some b => have := sopen_len h2 hl; simp only; omega
theorem sseal_ok {old body : List Int} (h1 : old.length = 512) (h2 : body.length ≤ 504) : sseal old body = (sform (turnOf (old.getD 0 0) (old.getD 511 0)) body, 0) := by
  unfold sseal; rw [if_neg (by omega), if_neg (by omega)]
theorem Own.full {w : World} {B : Nat} {v : Value} {l : List Int} (h : Own w B v l) (h0 : 0 < l.length) : ∃ g c, v = .slice (some ⟨g, 0, none⟩) l.length c ∧ B ≤ g ∧ RowAt w 5 g c (bs l) := h.row' h0
theorem RowAt.setByte {w : World} {g c : Nat} {l : List Int} (h : RowAt w 5 g c (bs l)) (i : Nat) (x : Int) : RowAt (w.setCell ⟨g, i, none⟩ (.int .u8 x)) 5 g c (bs (l.set i x)) := by
  obtain ⟨cur, hb, hc, ht, hm⟩ := h
  refine ⟨cur.setIfInBounds i (.int .u8 x), heap_setCell_same _ _ _ _ _ _ hb, by simpa using hc, ?_, hm⟩
  have e : (bs (l.set i x)).length = (bs l).length := by simp [bs]
  rw [e, Array.toList_setIfInBounds, List.take_set, ht, bs, bs, List.map_set]
theorem RowAt.spare {w : World} {e : TypeId} {g c : Nat} {l : List Int} (h : RowAt w e g c (bs l)) : l.length ≤ c := by have := h.le; simpa [bs] using this

theorem setByte_bytes {l : List Int} (h : Bytes l) (i : Nat) (x : Int) (hx : 0 ≤ x ∧ x < 256) : Bytes (l.set i x) := by
  intro y hy
  rcases List.mem_or_eq_of_mem_set hy with h1 | h1
  · exact h y h1
  · subst h1; exact hx

end Go.Proofs.Ytohgdjlgbnpobaa
end
