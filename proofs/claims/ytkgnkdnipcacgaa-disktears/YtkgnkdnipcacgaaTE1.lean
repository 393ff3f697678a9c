import Derived.Test.YtkgnkdnipcacgaaW06
namespace Go.Proofs.Ytkgnkdnipcacgaa
open Go.RowKit Go.Maps

theorem below_drews {B : Nat} {a w : World} (h : Below B a w) (n : Nat) : Below B a (w.drewN n) := ⟨h.os, h.tape, h.output, h.size, h.block⟩
theorem src_some {w : World} {a : Option Addr} {n : Nat} {l : List Int} (h : Src w a n l) (hn : 0 < n) : ∃ y, a = some y := by
  cases a with
  | none => have := h.2.1 rfl; omega
  | some y => exact ⟨y, rfl⟩
/-- So many bytes are the same from the front. -/
def Fronts (x y : List Int) (p : Nat) : Prop := ∀ t, t < p → x.getD t 0 = y.getD t 0
/-- So many bytes are the same from the end. -/
def Backs (x y : List Int) (p : Nat) : Prop := ∀ t, t < p → x.getD (511 - t) 0 = y.getD (511 - t) 0
/-- No more than m are the same. -/
def Most (P : Nat → Prop) (m : Nat) : Prop := ∀ p, p ≤ 512 → P p → p ≤ m
theorem most_all (P : Nat → Prop) : Most P 512 := fun _ h _ => h
theorem most_here {x y : List Int} {m : Nat} (h : x.getD m 0 ≠ y.getD m 0) : Most (Fronts x y) m := fun p _ hf => by
  apply Decidable.byContradiction
  intro hn
  exact h (hf m (by omega))
theorem most_back {x y : List Int} {m : Nat} (h : x.getD (511 - m) 0 ≠ y.getD (511 - m) 0) : Most (Backs x y) m := fun p _ hf => by
  apply Decidable.byContradiction
  intro hn
  exact h (hf m (by omega))
theorem fronts_more {x y : List Int} {m : Nat} (h : Fronts x y m) (e : x.getD m 0 = y.getD m 0) : Fronts x y (m + 1) := fun t ht => by
  by_cases c : t = m
  · rw [c]; exact e
  · exact h t (by omega)
theorem backs_more {x y : List Int} {m : Nat} (h : Backs x y m) (e : x.getD (511 - m) 0 = y.getD (511 - m) 0) : Backs x y (m + 1) := fun t ht => by
  by_cases c : t = m
  · rw [c]; exact e
  · exact h t (by omega)
/-- What is spliced of two of the list. -/
theorem spliced_enough {x a b : List Int} {c F0 B0 : Nat} (ha : a.length = 512) (hc : c ≤ 512) (hx : x = a.take c ++ b.drop c) (h1 : Most (Fronts x a) F0) (h2 : Most (Backs x b) B0) : 512 ≤ F0 + B0 := by
  have e1 := h1 c hc (fun t ht => by
    rw [hx, List.getD, List.getD, List.getElem?_append_left (by simp; omega), List.getElem?_take, if_pos ht])
  have e2 := h2 (512 - c) (by omega) (fun t ht => by
    rw [hx, List.getD, List.getD, List.getElem?_append_right (by simp; omega), List.getElem?_drop]
    simp only [List.length_take, ha]
    rw [show c + (511 - t - min c 512) = 511 - t by omega])
  omega
/-- What is known behind the first so many of the list. -/
structure Seen (x : List Int) (f : Nat → List Int) (j F0 B0 : Nat) : Prop where
  f5 : F0 ≤ 512
  b5 : B0 ≤ 512
  mf : ∀ k, k < j → Most (Fronts x (f k)) F0
  mb : ∀ k, k < j → Most (Backs x (f k)) B0
theorem Seen.next {x : List Int} {f : Nat → List Int} {j F0 B0 i0 j0 : Nat} (h : Seen x f j F0 B0) (h1 : i0 ≤ 512) (h2 : j0 ≤ 512) (h3 : Most (Fronts x (f j)) i0) (h4 : Most (Backs x (f j)) j0) : Seen x f (j + 1) (max F0 i0) (max B0 j0) := by
  have := h.f5
  have := h.b5
  refine ⟨by omega, by omega, fun k hk p hp hf => ?_, fun k hk p hp hf => ?_⟩
  · by_cases e : k = j
    · subst e; have := h3 p hp hf; omega
    · have := h.mf k (by omega) p hp hf; omega
  · by_cases e : k = j
    · subst e; have := h4 p hp hf; omega
    · have := h.mb k (by omega) p hp hf; omega

set_option maxRecDepth 100000 in
set_option maxHeartbeats 8000000 in
theorem spliced_any {w : World} {F : Nat → Prop} {q cq n : Nat} {f : Nat → List Int} (hl : NowAt w F q cq n f) (ab : Option Addr) (cb : Nat) (x : List Int) (hx : Src w ab 512 x) (hn : n ≤ 4000000000000) {A B c : Nat} (hA : A < n) (hB : B < n) (hc : c ≤ 512) (hs : x = (f A).take c ++ (f B).drop c) (hlen : ∀ k, k < n → (f k).length = 512) :
    Calls Try.prog 60 #[.slice ab 512 cb, .slice (some ⟨q, 0, none⟩) n cq] w fun e w' => e = .returned (.bool true) ∧ Below w.heap.size w w' := by
  obtain ⟨y, rfl⟩ := src_some hx (by omega)
  have HL := Hid.mk hl
  have HX := Hid.mk hx
  have HEn := Hid.mk (fun F0 B0 (h : Seen x f n F0 B0) => spliced_enough (hlen A hA) hc hs (h.mf A hA) (h.mb B hB))
  clear hl hx hs hlen
  go_enter Try.func60, Try.ntmps60
  go_wp2
  go_loopw [5, 6, 7] (fun fr bk k wr => ∃ j F0 B0 : Nat, j ≤ n ∧ k = .int .i64 (j : Int) ∧ fr = .int .i64 (F0 : Int) ∧ bk = .int .i64 (B0 : Int) ∧ Seen x f j F0 B0 ∧ Below w.heap.size w wr) (fun _ _ k _ => n - (intOf k).toNat)
  case atStart => exact ⟨0, 0, 0, Nat.zero_le _, rfl, rfl, rfl, ⟨by omega, by omega, fun k hk => by omega, fun k hk => by omega⟩, Below.refl _ _⟩
  case round =>
    obtain ⟨j, F0, B0, hj, rfl, rfl, rfl, hse, hbr⟩ := hrel
    have hF5 := hse.f5
    have hB5 := hse.b5
    have HSe := Hid.mk hse
    have HBr := Hid.mk hbr
    have hzr := hbr.size
    clear hse
    by_cases hlt : j < n
    · have hlt' : (j : Int) < (n : Int) := by omega
      obtain ⟨a', c', cL, hsc⟩ := (HL.out.later hbr).at hlt
      obtain ⟨z, rfl⟩ := src_some hsc (by omega)
      obtain ⟨bb, ob, rfl, hcb⟩ := (HX.out.later hbr).spot (by omega)
      obtain ⟨bc, oc, rfl, hcc⟩ := hsc.spot (by omega)
      have HCb := Hid.mk hcb
      have HCc := Hid.mk hcc
      clear hbr hsc hcb hcc
      go_wp2
      clear cL
      rename World => wo
      go_loopw [9] (fun i wi => ∃ i0 : Nat, i0 ≤ 512 ∧ i = .int .i64 (i0 : Int) ∧ Fronts x (f j) i0 ∧ Below wo.heap.size wo wi) (fun i _ => 512 - (intOf i).toNat)
      case atStart => exact ⟨0, Nat.zero_le _, rfl, fun t ht => by omega, Below.refl _ _⟩
      case round =>
        obtain ⟨i0, hi0, rfl, hfr, hbi⟩ := hrel
        have HFr := Hid.mk hfr
        have HBi := Hid.mk hbi
        clear hfr hbi
        by_cases k1 : i0 < 512
        · have d1 : (i0 : Int) < 512 := by omega
          have cb1 := cell_later HBi.out (HCb.out i0 k1)
          have cc1 := cell_later HBi.out (HCc.out i0 k1)
          by_cases k2 : x.getD i0 0 = (f j).getD i0 0
          · have HF1 := Hid.mk (fronts_more HFr.out k2)
            have d2 : (x.getD i0 0 == (f j).getD i0 0) = true := by rw [k2]; simp
            generalize x.getD i0 0 = X at *
            generalize (f j).getD i0 0 = Y at *
            clear k2
            go_wp2_with fail
            go_quiet (fail)
            have HBq := Hid.mk (below_drews HBi.out nq)
            generalize wr.drewN nq = wq at *
            go_wp2
            go_roundw
            case rel => exact ⟨i0 + 1, by omega, by go_num, HF1.out, HBq.out⟩
            case measure => simp [intOf]; omega
          · have HM := Hid.mk (most_here k2)
            have d2 : (x.getD i0 0 == (f j).getD i0 0) = false := by rw [beq_eq_false_iff_ne]; exact k2
            generalize x.getD i0 0 = X at *
            generalize (f j).getD i0 0 = Y at *
            clear k2
            go_wp2_with fail
            go_quiet (fail)
            have HBq := Hid.mk (below_drews HBi.out nq)
            generalize wr.drewN nq = wq at *
            go_wp2
            go_loopw [10] (fun i wi => ∃ j0 : Nat, j0 ≤ 512 ∧ i = .int .i64 (j0 : Int) ∧ Backs x (f j) j0 ∧ Below wo.heap.size wo wi) (fun i _ => 512 - (intOf i).toNat)
            case atStart => exact ⟨0, Nat.zero_le _, rfl, fun t ht => by omega, HBq.out⟩
            case round =>
              obtain ⟨j0, hj0, rfl, hbk, hbi⟩ := hrel
              have HBk := Hid.mk hbk
              have HBi2 := Hid.mk hbi
              clear hbk hbi
              by_cases k3 : j0 < 512
              · have d3 : (j0 : Int) < 512 := by omega
                have cb2 := cell_later HBi2.out (HCb.out (511 - j0) (by omega))
                have cc2 := cell_later HBi2.out (HCc.out (511 - j0) (by omega))
                obtain ⟨m, hm⟩ : ∃ m, m = 511 - j0 := ⟨_, rfl⟩
                have e3 : (511 : Int) - (j0 : Int) = (m : Int) := by omega
                have hm5 : (m : Int) < 512 := by omega
                rw [← hm] at cb2 cc2
                by_cases k4 : x.getD (511 - j0) 0 = (f j).getD (511 - j0) 0
                · have HF1 := Hid.mk (backs_more HBk.out k4)
                  rw [← hm] at k4
                  have d4 : (x.getD m 0 == (f j).getD m 0) = true := by rw [k4]; simp
                  generalize x.getD m 0 = X at *
                  generalize (f j).getD m 0 = Y at *
                  clear k4 hm
                  go_wp2_with fail
                  go_quiet (fail)
                  have HBy := Hid.mk (below_drews HBi2.out nq)
                  generalize wr.drewN nq = wz at *
                  go_wp2
                  go_roundw
                  case rel => exact ⟨j0 + 1, by omega, by go_num, HF1.out, HBy.out⟩
                  case measure => simp [intOf]; omega
                · have HMb := Hid.mk (most_back k4)
                  rw [← hm] at k4
                  have d4 : (x.getD m 0 == (f j).getD m 0) = false := by rw [beq_eq_false_iff_ne]; exact k4
                  generalize x.getD m 0 = X at *
                  generalize (f j).getD m 0 = Y at *
                  clear k4 hm
                  go_wp2_with fail
                  go_quiet (fail)
                  have HBy := Hid.mk (below_drews HBi2.out nq)
                  generalize wr.drewN nq = wz at *
                  have HZ : Hid (Seen x f (j + 1) (max F0 i0) (max B0 j0)) := HSe.out.next hi0 hj0 HM.out HMb.out
                  have HBz : Hid (Below w.heap.size w wz) := HBr.out.trans (HBy.out.mono hzr)
                  clear HSe HEn HL HX
                  go_wp2
                  go_roundw
                  case rel => exact ⟨j + 1, max F0 i0, max B0 j0, by omega, by go_num, by congr 1; omega, by congr 1; omega, HZ.out, HBz.out⟩
                  case measure => simp [intOf]; omega
              · obtain rfl : j0 = 512 := by omega
                have d3 : ¬ (512 : Int) < 512 := by omega
                have HMb := Hid.mk (most_all (Backs x (f j)))
                go_wp2_with fail
                go_quiet (fail)
                have HBy := Hid.mk (below_drews HBi2.out nq)
                generalize wr.drewN nq = wz at *
                have HZ : Hid (Seen x f (j + 1) (max F0 i0) (max B0 512)) := HSe.out.next hi0 hj0 HM.out HMb.out
                have HBz : Hid (Below w.heap.size w wz) := HBr.out.trans (HBy.out.mono hzr)
                clear HSe HEn HL HX
                go_wp2
                go_roundw
                case rel => exact ⟨j + 1, max F0 i0, max B0 512, by omega, by go_num, by congr 1; omega, by congr 1; omega, HZ.out, HBz.out⟩
                case measure => simp [intOf]; omega
        · obtain rfl : i0 = 512 := by omega
          have d1 : ¬ (512 : Int) < 512 := by omega
          have HM := Hid.mk (most_all (Fronts x (f j)))
          go_wp2_with fail
          go_quiet (fail)
          have HBq := Hid.mk (below_drews HBi.out nq)
          generalize wr.drewN nq = wq at *
          go_wp2
          go_loopw [10] (fun i wi => ∃ j0 : Nat, j0 ≤ 512 ∧ i = .int .i64 (j0 : Int) ∧ Backs x (f j) j0 ∧ Below wo.heap.size wo wi) (fun i _ => 512 - (intOf i).toNat)
          case atStart => exact ⟨0, Nat.zero_le _, rfl, fun t ht => by omega, HBq.out⟩
          case round =>
            obtain ⟨j0, hj0, rfl, hbk, hbi⟩ := hrel
            have HBk := Hid.mk hbk
            have HBi2 := Hid.mk hbi
            clear hbk hbi
            by_cases k3 : j0 < 512
            · have d3 : (j0 : Int) < 512 := by omega
              have cb2 := cell_later HBi2.out (HCb.out (511 - j0) (by omega))
              have cc2 := cell_later HBi2.out (HCc.out (511 - j0) (by omega))
              obtain ⟨m, hm⟩ : ∃ m, m = 511 - j0 := ⟨_, rfl⟩
              have e3 : (511 : Int) - (j0 : Int) = (m : Int) := by omega
              have hm5 : (m : Int) < 512 := by omega
              rw [← hm] at cb2 cc2
              by_cases k4 : x.getD (511 - j0) 0 = (f j).getD (511 - j0) 0
              · have HF1 := Hid.mk (backs_more HBk.out k4)
                rw [← hm] at k4
                have d4 : (x.getD m 0 == (f j).getD m 0) = true := by rw [k4]; simp
                generalize x.getD m 0 = X at *
                generalize (f j).getD m 0 = Y at *
                clear k4 hm
                go_wp2_with fail
                go_quiet (fail)
                have HBy := Hid.mk (below_drews HBi2.out nq)
                generalize wr.drewN nq = wz at *
                go_wp2
                go_roundw
                case rel => exact ⟨j0 + 1, by omega, by go_num, HF1.out, HBy.out⟩
                case measure => simp [intOf]; omega
              · have HMb := Hid.mk (most_back k4)
                rw [← hm] at k4
                have d4 : (x.getD m 0 == (f j).getD m 0) = false := by rw [beq_eq_false_iff_ne]; exact k4
                generalize x.getD m 0 = X at *
                generalize (f j).getD m 0 = Y at *
                clear k4 hm
                go_wp2_with fail
                go_quiet (fail)
                have HBy := Hid.mk (below_drews HBi2.out nq)
                generalize wr.drewN nq = wz at *
                have HZ : Hid (Seen x f (j + 1) (max F0 512) (max B0 j0)) := HSe.out.next hi0 hj0 HM.out HMb.out
                have HBz : Hid (Below w.heap.size w wz) := HBr.out.trans (HBy.out.mono hzr)
                clear HSe HEn HL HX
                go_wp2
                go_roundw
                case rel => exact ⟨j + 1, max F0 512, max B0 j0, by omega, by go_num, by congr 1; omega, by congr 1; omega, HZ.out, HBz.out⟩
                case measure => simp [intOf]; omega
            · obtain rfl : j0 = 512 := by omega
              have d3 : ¬ (512 : Int) < 512 := by omega
              have HMb := Hid.mk (most_all (Backs x (f j)))
              go_wp2_with fail
              go_quiet (fail)
              have HBy := Hid.mk (below_drews HBi2.out nq)
              generalize wr.drewN nq = wz at *
              have HZ : Hid (Seen x f (j + 1) (max F0 512) (max B0 512)) := HSe.out.next hi0 hj0 HM.out HMb.out
              have HBz : Hid (Below w.heap.size w wz) := HBr.out.trans (HBy.out.mono hzr)
              clear HSe HEn HL HX
              go_wp2
              go_roundw
              case rel => exact ⟨j + 1, max F0 512, max B0 512, by omega, by go_num, by congr 1; omega, by congr 1; omega, HZ.out, HBz.out⟩
              case measure => simp [intOf]; omega
    · obtain rfl : j = n := by omega
      have hge : ¬ (j : Int) < (j : Int) := by omega
      have hen := HEn.out F0 B0 HSe.out
      have d5 : (512 : Int) ≤ (F0 : Int) + (B0 : Int) := by omega
      clear hbr
      go_wp2
      go_ret
      exact ⟨rfl, HBr.out⟩
end Go.Proofs.Ytkgnkdnipcacgaa
