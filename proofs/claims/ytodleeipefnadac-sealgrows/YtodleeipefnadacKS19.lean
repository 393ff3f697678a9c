import Derived.Test.YtodleeipefnadacKS18
import Derived.Test.YtodleeipefnadacKLater
namespace Go.Proofs.Ytodleeipefnadac
open Go.RowKit

theorem le2 {a b : Int} (ha : 0 ≤ a) (hb : 0 ≤ b) : ((le [a, b] : Nat) : Int) = a + 256 * b := by
  simp only [le]
  omega
theorem take2 {s : List Int} (h : s.length = 512) : (s.drop 1).take 2 = [s.getD 1 0, s.getD 2 0] := by
  match s, h with
  | a :: b :: c :: r, _ => rfl
theorem src_part {w : World} {b o n : Nat} {l : List Int} (h : Src w (some ⟨b, o, none⟩) n l) {i m : Nat} (hm : i + m ≤ n) : Src w (some ⟨b, o + i, none⟩) m ((l.drop i).take m) :=
  ⟨by have := h.1; simp; omega, (fun e => by cases e), fun x hx j hj => by
    cases hx
    have := h.2.2 _ rfl (i + j) (by omega)
    rw [addr_add] at this ⊢
    rw [Nat.add_assoc, this]
    simp [List.getD, hj]⟩

set_option maxRecDepth 20000 in
set_option maxHeartbeats 4000000 in
theorem open_no (g o : Nat) (s : List Int) (w : World) (hs : Src w (some ⟨g, o, none⟩) 512 s) (hb : Bytes s) (hbad : 504 < slen s ∨ 2 < s.getD 0 0) :
    Calls Try.prog 46 #[.pointer (some ⟨g, o, none⟩)] w fun e w' => e = .returned (.tuple #[.slice none 0 0, .bool false]) ∧ w' = w := by
  have h1 := cut_any g o 1 3 w (by omega) (by omega)
  have hp := src_part hs (i := 1) (m := 2) (by omega)
  have h2 := taken_any g (o + 1) 2 2 ((s.drop 1).take 2) w ((hb.drop _).take _) hp.1 (by omega) (fun i hi => by have := hp.2.2 _ rfl i hi; rwa [addr_add] at this)
  have hle := slen_eq hb
  have g1 := hb.getD 1
  have g2 := hb.getD 2
  rw [take2 hs.1, le2 g1.1 g2.1, ← hle] at h2
  have c0 := hs.2.2 _ rfl 0 (by omega)
  rw [addr_add, Nat.add_zero] at c0
  have g0 := hb.getD 0
  have h00 := g0.1
  have h01 := g0.2
  generalize s.getD 0 0 = x at *
  generalize slen s = N at *
  clear hs hp hle g0 g1 g2
  go_enter Try.func46, Try.ntmps46
  go_wp2_with fail
  refine h1.mono ?_
  rintro e w' ⟨rfl, hw⟩
  have hw' := hw.symm
  subst hw'
  clear hw h1
  go_wp2_with fail
  refine h2.mono ?_
  rintro e w' ⟨rfl, hw⟩
  have hw' := hw.symm
  subst hw'
  clear hw h2
  by_cases hx : 2 < x
  · have hx' : 3 ≤ x := by omega
    go_wp2
    go_ret2
    exact ⟨rfl, rfl⟩
  · have hx' : ¬ 3 ≤ x := by omega
    have hN : 504 < (N : Int) := by omega
    go_wp2
    go_ret2
    exact ⟨rfl, rfl⟩

theorem quiet_load_mid {P : Program} {C : World → Prop} {a : Act} {op : Oper} {K : Act → Prop} (ty : TypeId) (x : Operand) (ho : op.op = .load ty x)
    (b o : Nat) (hx : a.eval x = .pointer (some ⟨b, o, none⟩)) (cs : List Value) (d : TypeDesc) (hc : ∀ w, C w → w.rangeAt b o cs)
    (hu : P.underlying ty = some d) (hd : d.isRow = true) (hi : (P.info? ty).map (·.size) = some cs.length) (hk : K (a.put op.dst (.agg cs.toArray))) : op.quiet P a C K :=
  ⟨_, fun w hw => by
    unfold Oper.quietAt execOp
    simp only [ho, hx, Instr.loadAt, Instr.sureAddr, Sem.run_bind, Sem.run_pure, Result.andThen_ok, run_loadVar_mid w b o ty cs d (hc w hw) hu hd hi]
    exact ⟨rfl, rfl⟩, hk⟩
theorem quiet_eq_sec {C : World → Prop} {a : Act} {op : Oper} {K : Act → Prop} (x y : Operand) (T : TypeId) (ho : op.op = .binOp .eql 87 x y T)
    (l m : List Int) (hx : a.eval x = .agg (bs l).toArray) (hy : a.eval y = .agg (bs m).toArray) (hl : l.length = 512) (hm : m.length = 512) (hk : K (a.put op.dst (.bool (decide (l = m))))) : op.quiet Try.prog a C K :=
  ⟨_, fun w _ => by
    unfold Oper.quietAt execOp
    simp only [ho, hx, hy]
    have := eqop_sec l m hl hm w x y
    rw [Sem.run_bind, this]
    exact ⟨rfl, rfl⟩, hk⟩

set_option maxRecDepth 20000 in
set_option maxHeartbeats 4000000 in
theorem open_yes (g o : Nat) (s : List Int) (w : World) (hs : Src w (some ⟨g, o, none⟩) 512 s) (hb : Bytes s) (hN : slen s ≤ 504) (hx : s.getD 0 0 ≤ 2) :
    Calls Try.prog 46 #[.pointer (some ⟨g, o, none⟩)] w fun e w' => ∃ k, e = .returned (.tuple #[.slice (some ⟨g, k, none⟩) (slen s) (slen s), .bool (decide (sform (s.getD 0 0) (sbody s) = s))]) ∧ (0 < slen s → k = o + 7) ∧ Below w.heap.size w w' := by
  have h1 := cut_any g o 1 3 w (by omega) (by omega)
  have hp := src_part hs (i := 1) (m := 2) (by omega)
  have h2 := taken_any g (o + 1) 2 2 ((s.drop 1).take 2) w ((hb.drop _).take _) hp.1 (by omega) (fun i hi => by have := hp.2.2 _ rfl i hi; rwa [addr_add] at this)
  have hle := slen_eq hb
  have g1 := hb.getD 1
  have g2 := hb.getD 2
  rw [take2 hs.1, le2 g1.1 g2.1, ← hle] at h2
  have c0 := hs.2.2 _ rfl 0 (by omega)
  rw [addr_add, Nat.add_zero] at c0
  have g0 := hb.getD 0
  have hbody : ∃ k, Src w (some ⟨g, k, none⟩) (slen s) (sbody s) ∧ (0 < slen s → k = o + 7) ∧ Calls Try.prog 54 #[.pointer (some ⟨g, o, none⟩), .int .i64 7, .int .i64 (7 + (slen s : Int))] w fun e w' => e = .returned (.slice (some ⟨g, k, none⟩) (slen s) (slen s)) ∧ w' = w := by
    by_cases h0 : slen s = 0
    · have hcn := cut_none g o 7 w (by omega)
      refine ⟨o, ⟨by rw [sbody_len hN hs.1], (fun e => by cases e), fun x hx i hi => by omega⟩, fun h => by omega, ?_⟩
      rw [h0]
      exact hcn
    · have hc := cut_any g o 7 (7 + slen s) w (by omega) (by omega)
      refine ⟨o + 7, src_part hs (i := 7) (m := slen s) (by omega), fun _ => rfl, ?_⟩
      have e1 : 7 + slen s - 7 = slen s := by omega
      rw [e1] at hc
      have e2 : ((7 + slen s : Nat) : Int) = 7 + (slen s : Int) := by omega
      rw [e2] at hc
      exact hc
  obtain ⟨k, hk, hkk, hc⟩ := hbody
  obtain ⟨t, ht⟩ : ∃ t : Nat, s.getD 0 0 = (t : Int) := ⟨(s.getD 0 0).toNat, by omega⟩
  have hbl := sbody_len hN hs.1
  have hbb : Bytes (sbody s) := (hb.drop _).take _
  rw [ht] at c0 hx ⊢
  have p1 : Hid (∀ q : Later w, Calls Try.prog 40 #[.int .u8 (t : Int), .slice (some ⟨g, k, none⟩) (slen s) (slen s)] q.to fun e w' => e = .returned (.agg (bs (sform t (sbody s))).toArray) ∧ Below q.to.heap.size q.to w') :=
    fun q => sealed_any t (some ⟨g, k, none⟩) (slen s) (slen s) (sbody s) q.to (by omega) (hk.later q.h) hN hbb
  have hinfo := infoSecL (l := s) hs.1
  have hfl : (sform t (sbody s)).length = 512 := sform_len (by rw [hbl]; exact hN)
  have hra : ∀ w', (∃ q : Later w, w' = q.to) → w'.rangeAt g o (bs s) := fun w' ⟨q, e⟩ => by rw [e]; exact src_range (hs.later q.h)
  have hsl := hs.1
  have c0q : ∀ q : Later w, q.to.cell? ⟨g, o, none⟩ = some (.int .u8 (t : Int)) := fun q => cell_later q.h c0
  have hNN : ¬ 504 < ((slen s : Nat) : Int) := by omega
  have Hkk := Hid.mk hkk
  have Hra := Hid.mk hra
  have Hfl := Hid.mk hfl
  have Hsl := Hid.mk hsl
  have Hinfo := Hid.mk hinfo
  clear hs hp hle g0 g1 g2 hk hkk hbl hbb hfl hinfo hra hsl
  obtain ⟨R, hR⟩ : ∃ R, R = sform t (sbody s) := ⟨_, rfl⟩
  rw [← hR] at p1 Hfl ⊢
  clear hR
  generalize slen s = N at *
  have hx3 : ¬ 3 ≤ (t : Int) := by omega
  go_enter Try.func46, Try.ntmps46
  go_wp2_with fail
  refine h1.mono ?_
  rintro e w' ⟨rfl, hw⟩
  have hw' := hw.symm
  subst hw'
  clear hw h1
  go_wp2_with fail
  refine h2.mono ?_
  rintro e w' ⟨rfl, hw⟩
  have hw' := hw.symm
  subst hw'
  clear hw h2
  go_wp2_with fail
  refine hc.mono ?_
  rintro e w' ⟨rfl, hw⟩
  have hw' := hw.symm
  subst hw'
  clear hw hc
  go_wp2_with fail
  have hne := Later.some w
  refine wp_region_later (by kernel_rfl) (by kernel_rfl) ?_
  repeat (first | go_big_quiet_skip | (go_big_quiet_want; go_big_quiet_op; first | go_big_quiet_on | (apply Exists.intro; refine ⟨fun q => ?_, ?_⟩; exact Calls.later_of (p1.out q); go_big_quiet_on)))
  go_big_quiet_want
  refine quiet_load_mid 87 _ rfl g o rfl (bs s) _ Hra.out Try.underlying87 rfl Hinfo.out ?_
  simp only [Act.put, List.setIfInBounds_toArray, List.set_cons_succ, List.set_cons_zero]
  go_big_quiet_on
  go_big_quiet_want
  refine quiet_eq_sec _ _ _ rfl R s rfl rfl Hfl.out Hsl.out ?_
  simp only [Act.put, List.setIfInBounds_toArray, List.set_cons_succ, List.set_cons_zero]
  go_big_quiet_on
  repeat (go_big_quiet_want; go_big_quiet_op; go_big_quiet_on)
  refine wpQuiet_nil ?_
  rintro _ ⟨q, rfl⟩
  go_wp2
  go_ret2
  exact ⟨k, rfl, Hkk.out, q.h⟩
end Go.Proofs.Ytodleeipefnadac
