import Derived.Test.YtkdjjnkhbmmfeaaFEA
import Derived.Test.YtkdjjnkhbmmfeaaKOpenT
import Derived.Deep.DeepCutAuto
namespace Go.Proofs.Ytkdjjnkhbmmfeaa
open Go.RowKit Go.Maps

theorem text_at {w wr : World} {a : Option Addr} {n : Nat} (h : Texts w w.heap.size a n) (hb : Below w.heap.size w wr) {i : Nat} (hi : i < n) : ∃ b o, a = some ⟨b, o, none⟩ ∧ ∃ s : ByteArray, ∀ w', Below wr.heap.size wr w' → w'.cell? ⟨b, o + i, none⟩ = some (.string s) := by
  obtain ⟨x, rfl⟩ : ∃ x, a = some x := by
    cases a with
    | none => have := h.1 rfl; omega
    | some x => exact ⟨x, rfl⟩
  obtain ⟨b, o, rfl, _, s, q0, _⟩ := (h.far hb).2 x rfl i hi
  exact ⟨b, o, rfl, s, fun w' hb' => cell_later hb' q0⟩
set_option maxRecDepth 20000 in
set_option maxHeartbeats 16000000 in
theorem findMatches_any (a : Option Addr) (n c : Nat) (a' : Option Addr) (n' c' : Nat) (w : World) (hs : Texts w w.heap.size a n) (hn : 16 * n ≤ 140737488355328) (hs' : Texts w w.heap.size a' n') (hn' : 16 * n' ≤ 140737488355328) :
    Calls Try.prog 4 #[.slice a n c, .slice a' n' c'] w fun e w' => e = .returned (.bool true) ∧ Below w.heap.size w w' := by
  have k0 := match_any ⟨#[91, 97, 45, 99, 93, 42]⟩ ⟨#[98, 122]⟩ w
  rw [show matchP ⟨#[91, 97, 45, 99, 93, 42]⟩ ⟨#[98, 122]⟩ = (true, 0) by decide] at k0
  have HS := Hid.mk (And.intro hs hs')
  have HN := Hid.mk (And.intro hn hn')
  clear hs hs' hn hn'
  go_enter Try.func4, Try.ntmps4
  go_wp2_with fail
  refine k0.mono ?_
  rintro e w1 ⟨rfl, hb1⟩
  have HB1 := Hid.mk hb1
  clear k0 hb1
  go_wp2_with fail
  go_loopw [7] (fun iv wr => ∃ i : Nat, i ≤ n ∧ iv = .int .i64 (i : Int) ∧ Hid (Below w.heap.size w wr)) (fun iv _ => n - (intOf iv).toNat)
  case atStart => exact ⟨0, Nat.zero_le _, rfl, HB1⟩
  case round =>
    obtain ⟨i, hi, rfl, HB⟩ := hrel
    clear HB1
    by_cases hlt : i < n
    · have hlt' : (i : Int) < (n : Int) := by omega
      have hnb : (n : Int) ≤ 140737488355328 := by have := HN.out.1; omega
      rename World => wo
      go_wp2_with fail
      go_loopw [8] (fun kv wr => ∃ k : Nat, k ≤ n' ∧ kv = .int .i64 (k : Int) ∧ Hid (Below w.heap.size w wr)) (fun kv _ => n' - (intOf kv).toNat)
      case atStart => exact ⟨0, Nat.zero_le _, rfl, HB⟩
      case round =>
        obtain ⟨k, hk, rfl, HBr⟩ := hrel
        clear HB
        have hnb' : (n' : Int) ≤ 140737488355328 := by have := HN.out.2; omega
        by_cases hlk : k < n'
        · have hlk' : (k : Int) < (n' : Int) := by omega
          obtain ⟨b1, o1, hA, P, hp⟩ := text_at HS.out.1 HBr.out hlt
          obtain ⟨b2, o2, hA', T, ht⟩ := text_at HS.out.2 HBr.out hlk
          subst hA hA'
          have HC : Hid (∀ w', Below wr.heap.size wr w' → w'.cell? ⟨b1, o1 + i, none⟩ = some (.string P) ∧ w'.cell? ⟨b2, o2 + k, none⟩ = some (.string T)) := Hid.mk (fun w' hb => ⟨hp w' hb, ht w' hb⟩)
          have km := fun w => match_any P T w
          have kr := fun w => rmatch_any P T w
          obtain ⟨⟨y, x⟩, hyx⟩ : ∃ q, q = matchP P T := ⟨_, rfl⟩
          rw [← hyx] at km kr
          clear hyx hp ht
          dsimp only at km kr
          have q1 : (y != y) = false := by simp
          have q2 : (x != x) = false := by simp
          have hb9 := Below.refl wr.heap.size wr
          go_wp2_with fail
          go_region_held3 (fun w' => w'.cell? ⟨b1, o1 + i, none⟩ = some (.string P) ∧ w'.cell? ⟨b2, o2 + k, none⟩ = some (.string T))
            (first | exact HC.out _ hb9 | exact HC.out _ (dr_below hb9))
            (first
              | (go_at_call 9; refine (km _).mono ?_; rintro e w3 ⟨rfl, hb3⟩; have hb9 := Below.trans (dr_below hb9) (hb3.mono (dr_below hb9).size); clear hb3))
          clear km
          go_wp2_with fail
          go_region_held3 (fun w' => w'.cell? ⟨b1, o1 + i, none⟩ = some (.string P) ∧ w'.cell? ⟨b2, o2 + k, none⟩ = some (.string T))
            (first | exact HC.out _ hb9 | exact HC.out _ (dr_below hb9))
            (first
              | (go_at_call 10; refine (kr _).mono ?_; rintro e w4 ⟨rfl, hb4⟩; have hb9 := Below.trans (dr_below hb9) (hb4.mono (dr_below hb9).size); clear hb4))
          have HF := Hid.mk (HBr.out.trans (hb9.mono HBr.out.size))
          clear kr HC HBr hb9
          go_wp2
          go_roundw
          case rel => exact ⟨k + 1, by omega, by go_num, HF⟩
          case measure => simp [intOf]; omega
        · have hlk' : ¬ (k : Int) < (n' : Int) := by omega
          go_wp2
          go_roundw
          case rel => exact ⟨i + 1, by omega, by go_num, HBr⟩
          case measure => simp [intOf]; omega
    · have hlt' : ¬ (i : Int) < (n : Int) := by omega
      go_wp2
      go_ret
      exact ⟨rfl, HB.out⟩
end Go.Proofs.Ytkdjjnkhbmmfeaa
