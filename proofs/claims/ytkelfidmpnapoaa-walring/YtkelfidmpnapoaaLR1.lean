import Derived.Test.YtkelfidmpnapoaaW21
import Derived.ProofKit
import Derived.OpenShut
import Derived.ShutString
import Derived.ChangeOld
import Derived.SizedLaws
import Derived.Deep.Slices
namespace Go.Proofs.Ytkelfidmpnapoaa
open Go.ChangeShapes Go.WideShapes Go.ChangeAt Go.RowKit Go.Deep

/-- A list of numbers that is only read. -/
def NSrc (w : World) (B : Nat) (a : Option Addr) (n : Nat) : Prop := (a = none → n = 0) ∧ ∀ y, a = some y → ∀ i, i < n → ∃ b o, y = ⟨b, o, none⟩ ∧ b < B ∧ ∃ t : Int, w.cell? ⟨b, o + i, none⟩ = some (.int .i64 t)
theorem NSrc.far {w w' : World} {B : Nat} {a : Option Addr} {n : Nat} (h : NSrc w B a n) (hb : Below B w w') : NSrc w' B a n := by
  refine ⟨h.1, fun y hy i hi => ?_⟩
  obtain ⟨b, o, rfl, hbB, t, c0⟩ := h.2 y hy i hi
  exact ⟨b, o, rfl, hbB, t, (World.cell?_of_block (w := w) (a := ⟨b, _, none⟩) (hb.block b hbB)).trans c0⟩

theorem open_nums {H : Type} {enc : TypeId × Value → H} {W : World} {base : Nat} {spare : Nat → Bool} {held : Bool} {fuel : Nat} {v : Value} {d : DataW H} {pl : List MemPlace} (h : DataW.trod enc Try.prog W base spare held fuel 22 [v] = some (d, pl)) (hw : ∀ n ∈ d.weights Try.prog 22, n ≤ reachBytes) :
    ∃ a n c, v = .slice a n c ∧ NSrc W W.heap.size a n ∧ n ≤ 140737488355328 := by
  have hb8 : Try.prog.bytesOf 3 = 8 := by kernel_rfl
  rcases open_ints Try.underlying22 Try.underlying3 cellsInt h with ⟨hcs, _⟩ | ⟨x, l, c, zs, hcs, _, hl, hm, hz, hd, hcell, hwz⟩
  · simp only [List.cons.injEq, and_true] at hcs
    exact ⟨none, 0, 0, hcs, ⟨fun _ => rfl, fun x hx => by cases hx⟩, Nat.zero_le _⟩
  · simp only [List.cons.injEq, and_true] at hcs
    simp only [Prod.mk.injEq] at hd
    obtain ⟨rfl, rfl⟩ := hd
    have hzl : l ≤ zs.length := by rw [hz]; split <;> omega
    have h1 := hw ((((lits IntKind.i64 (zs.take l) : List (DataW H))).length + ((lits IntKind.i64 (zs.drop l) : List (DataW H))).length) * Try.prog.bytesOf 3) (by simp [DataW.weights, Try.underlying22])
    rw [hb8] at h1
    simp only [lits, List.length_map, List.length_take, List.length_drop, reachBytes] at h1
    refine ⟨some x, l, c, hcs, ⟨(fun h => by cases h), fun y hy i hi => ?_⟩, by omega⟩
    cases hy
    have z0 := hcell 0 (by omega)
    have zi := hcell i (by omega)
    obtain ⟨b, o, spot⟩ := x
    have hspot : spot = none := by simpa [Addr.add] using World.cell?_spot z0
    subst hspot
    rw [addr_add] at zi
    exact ⟨b, o, rfl, World.block_lt_of_cell? _ _ zi, _, zi⟩

/-- What holds between the sizes. -/
def RingRun (w wr : World) (p l n j : Nat) : Prop := ∃ F S L, Live w wr F p l n S L ∧ L.head ≤ 17 * j

set_option maxRecDepth 20000 in
set_option maxHeartbeats 8000000 in
theorem walRing_any (n : Int) (ta : Option Addr) (tn tc : Nat) (w : World) (hts : NSrc w w.heap.size ta tn) (htn : tn ≤ 140737488355328) :
    Calls Try.prog 3 #[.int .i64 n, .slice ta tn tc] w fun e w' => e = .returned (.bool true) ∧ Below w.heap.size w w' := by
  by_cases k1 : n < 18
  · go_enter Try.func3, Try.ntmps3
    go_wp2
    go_ret
    exact ⟨rfl, Below.refl _ _⟩
  · by_cases k2 : 256 < n
    · go_enter Try.func3, Try.ntmps3
      go_wp2
      go_ret
      exact ⟨rfl, Below.refl _ _⟩
    · by_cases k3 : 65536 < tn
      · have d3 : (65536 : Int) < (tn : Int) := by omega
        go_enter Try.func3, Try.ntmps3
        go_wp2
        go_ret
        exact ⟨rfl, Below.refl _ _⟩
      · obtain ⟨N, rfl⟩ : ∃ N : Nat, n = (N : Int) := ⟨n.toNat, by omega⟩
        have d3 : ¬ (65536 : Int) < (tn : Int) := by omega
        have h1 := freshN_any (n := N) (by omega) (by omega) w
        have HT := Hid.mk hts
        have hN1 : 18 ≤ N := by omega
        have hN2 : N ≤ 256 := by omega
        clear hts
        go_enter Try.func3, Try.ntmps3
        go_wp2_with fail
        refine h1.mono ?_
        rintro e w1 ⟨F, p, l, S, L, rfl, hlv, ht0, hh0, _⟩
        have HR : Hid (RingRun w w1 p l N 0) := ⟨F, S, L, hlv, by omega⟩
        clear h1 hlv ht0 hh0
        go_wp2
        go_loopw [7] (fun i wr => ∃ j : Nat, j ≤ tn ∧ i = .int .i64 (j : Int) ∧ RingRun w wr p l N j) (fun i _ => tn - (intOf i).toNat)
        case atStart => exact ⟨0, Nat.zero_le _, rfl, HR.out⟩
        case round =>
          clear HR
          obtain ⟨j, hj, rfl, F, S, L, hlv, hhd⟩ := hrel
          have hth := (hlv.i.at (i := 0) rfl).1.th
          have hhn := (hlv.i.at (i := 0) rfl).1.hn
          rw [hlv.n'] at hhn
          by_cases hlt : j < tn
          · have hlt' : (j : Int) < (tn : Int) := by omega
            obtain ⟨z, rfl⟩ : ∃ z, ta = some z := by
              cases ta with
              | none => have := HT.out.1 rfl; omega
              | some z => exact ⟨z, rfl⟩
            obtain ⟨b, o, rfl, hbB, t, c0⟩ := (HT.out.far hlv.b).2 z rfl j hlt
            have HLv := Hid.mk hlv
            clear hlv
            by_cases k4 : t < 0
            · have h2 := live_trim HLv.out
              go_wp2_with fail
              refine h2.mono ?_
              rintro e w2 ⟨rfl, F2, S2, hlv2⟩
              have h3 := live_room hlv2
              rw [show (N : Int) - ((({ L with tail := L.head } : LG).head : Int) - (({ L with tail := L.head } : LG).tail : Int)) = (N : Int) by show (N : Int) - ((L.head : Int) - (L.head : Int)) = N; omega] at h3
              clear h2 hlv2 c0
              go_wp2_with fail
              refine h3.mono ?_
              rintro e w3 ⟨rfl, hlv3, _⟩
              have HZ : Hid (RingRun w w3 p l N (j + 1)) := ⟨F2, S2, _, hlv3, by show L.head ≤ _; omega⟩
              clear h3 hlv3
              go_wp2
              go_roundw
              case rel => exact ⟨j + 1, by omega, by go_num, HZ.out⟩
              case measure => simp [intOf]; omega
            · obtain ⟨y, rfl⟩ : ∃ y : Nat, t = (y : Int) := ⟨t.toNat, by omega⟩
              have e0 : (y : Int).tmod 8364 = ((y % 8364 : Nat) : Int) := by rw [Int.tmod_eq_emod_of_nonneg (by omega)]; omega
              have hm : y % 8364 < 8364 := Nat.mod_lt _ (by omega)
              obtain ⟨M0, hM0⟩ : ∃ M0, M0 = y % 8364 := ⟨_, rfl⟩
              rw [← hM0] at e0 hm
              obtain ⟨M, hM⟩ : ∃ M, M = M0 + 1 := ⟨_, rfl⟩
              have e1 : (M0 : Int) + 1 = (M : Int) := by omega
              have hM1 : 1 ≤ M ∧ M ≤ 8364 := by omega
              have e2 : ((M : Int) + 491).tdiv 492 = ((cntOf M : Nat) : Int) := by
                rw [Int.tdiv_eq_ediv_of_nonneg (by omega)]
                unfold cntOf
                omega
              have hc17 : cntOf M ≤ 17 := by unfold cntOf; omega
              have h2 := live_room HLv.out
              obtain ⟨rb, hrb⟩ : ∃ rb : Int, rb = (N : Int) - ((L.head : Int) - (L.tail : Int)) := ⟨_, rfl⟩
              rw [← hrb] at h2
              have hrb1 : 0 ≤ rb ∧ rb ≤ 256 := by omega
              have HRb := Hid.mk hrb
              obtain ⟨C, hC⟩ : ∃ C, C = cntOf M := ⟨_, rfl⟩
              rw [← hC] at e2 hc17
              have HC := Hid.mk hC
              clear hM0 hM hrb hC
              go_wp2_with fail
              refine h2.mono ?_
              rintro e w2 ⟨rfl, hlv2, hb2⟩
              have HLv2 := Hid.mk hlv2
              clear h2 hlv2 hb2
              go_wp2_with (at_make; refine wpList_make_part _ rfl _ _ rfl (M : Int) M M rfl rfl rfl ?c1 ?c2 ?_)
              case c1 => omega
              case c2 => omega
              intro w3 hbk hb3
              have hs3 : Src w3 (some ⟨w2.heap.size, 0, none⟩) M (zs M) := by
                have := hbk.src (o := 0) (n := M) (by rw [zs_len]; omega)
                rwa [List.drop_zero, List.take_of_length_le (by rw [zs_len]; exact Nat.le_refl _)] at this
              have hFn : ¬ F w2.heap.size := fun hf => by have := HLv2.out.d.lt _ hf; omega
              have h4 := live_append (HLv2.out.later hb3) (some ⟨w2.heap.size, 0, none⟩) M M (zs M) hs3 (fun y e _ => by cases e; exact hFn) (zs_bytes M) (Nat.le_refl _) (by omega) hM1.1 hM1.2 (by omega)
              clear hbk hb3 hs3 hFn
              go_wp2_with fail
              refine h4.mono ?_
              rintro e w4 ⟨F4, S4, ⟨hq, rfl, hlv4⟩ | ⟨hq, rfl, hlv4⟩⟩
              · have h5 := live_room hlv4
                rw [← HC.out] at hq
                rw [show (N : Int) - ((({ L with head := L.head + cntOf M } : LG).head : Int) - (({ L with head := L.head + cntOf M } : LG).tail : Int)) = rb - (C : Int) by
                  show (N : Int) - (((L.head + cntOf M : Nat) : Int) - (L.tail : Int)) = rb - (C : Int)
                  have := HC.out
                  have := HRb.out
                  omega] at h5
                have d5 : (C : Int) ≤ rb := by have := HRb.out; omega
                have d6 : ¬ rb < (C : Int) := by omega
                clear h4 hlv4 c0
                go_wp2_with fail
                refine h5.mono ?_
                rintro e w5 ⟨rfl, hlv5, _⟩
                have HZ : Hid (RingRun w w5 p l N (j + 1)) := ⟨F4, S4, _, hlv5, by show L.head + cntOf M ≤ _; have := HC.out; omega⟩
                clear h5 hlv5
                go_wp2
                go_roundw
                case rel => exact ⟨j + 1, by omega, by go_num, HZ.out⟩
                case measure => simp [intOf]; omega
              · have h5 := live_room hlv4
                rw [← HC.out] at hq
                rw [← HRb.out] at h5
                have d5 : ¬ (C : Int) ≤ rb := by have := HRb.out; omega
                have d6 : rb < (C : Int) := by omega
                clear h4 hlv4 c0
                go_wp2_with fail
                refine h5.mono ?_
                rintro e w5 ⟨rfl, hlv5, _⟩
                have HZ : Hid (RingRun w w5 p l N (j + 1)) := ⟨F4, S4, _, hlv5, by omega⟩
                clear h5 hlv5
                go_wp2
                go_roundw
                case rel => exact ⟨j + 1, by omega, by go_num, HZ.out⟩
                case measure => simp [intOf]; omega
          · obtain rfl : j = tn := by omega
            have hge : ¬ (j : Int) < (j : Int) := by omega
            have h2 := live_marks hlv
            have hhb : L.head ≤ 1114112 := by omega
            clear hlv
            go_wp2_with fail
            refine h2.mono ?_
            rintro e w2 ⟨rfl, hlv2, _⟩
            have h3 := live_room hlv2
            clear h2 hlv2
            go_wp2_with fail
            refine h3.mono ?_
            rintro e w3 ⟨rfl, hlv3, _⟩
            have HB := Hid.mk hlv3.b
            clear h3 hlv3
            go_wp2
            go_ret
            exact ⟨by simp, HB.out⟩
end Go.Proofs.Ytkelfidmpnapoaa
