import Derived.Test.YtpihehpmejicaaaPAD
namespace Go.Proofs.Ytpihehpmejicaaa
open Go.RowKit Go.Maps

theorem PathTo.long {l : List (List UInt8)} {P : ByteArray} (_h : PathTo l P) (hs : 1023 < P.size) : splitErr P.data.toList = 7 ∧ splitAns P.data.toList = [] := by
  have h1 : splitErr P.data.toList = 7 := by unfold splitErr; rw [if_pos (by rw [len_size]; exact hs)]
  exact ⟨h1, by unfold splitAns; rw [h1, if_neg (by decide)]⟩
theorem PathTo.split {l : List (List UInt8)} {P : ByteArray} (h : PathTo l P) (hok : ∀ p ∈ l, OkP p) (hs : ¬ 1023 < P.size) : splitErr P.data.toList = 0 ∧ splitAns P.data.toList = l := by
  have h1 : splitErr P.data.toList = 0 := by
    unfold splitErr
    rw [if_neg (by rw [len_size]; exact hs), if_neg (by rw [h.head]; simp), h.pts]
    exact errOf_ok hok
  exact ⟨h1, by unfold splitAns; rw [h1, if_pos rfl, h.pts]⟩
theorem Told.nil {B : Nat} {w : World} {v : Value} (h : Told B w v []) : ∃ a c, v = .slice a 0 c := by
  rcases h.shape with ⟨rfl, _⟩ | ⟨g, c, rfl, _⟩
  · exact ⟨_, _, rfl⟩
  · exact ⟨_, _, rfl⟩

theorem NSrc.farB {w w' : World} {a : Option Addr} {n : Nat} (h : NSrc w w.heap.size a n) (hb : Below w.heap.size w w') : NSrc w' w'.heap.size a n := by
  have h' := h.far hb
  refine ⟨h'.1, fun y hy i hi => ?_⟩
  obtain ⟨b, o, rfl, hbB, t, c0⟩ := h'.2 y hy i hi
  exact ⟨b, o, rfl, Nat.lt_of_lt_of_le hbB hb.size, t, c0⟩

set_option maxRecDepth 20000 in
set_option maxHeartbeats 8000000 in
theorem walkParts_any (a : Option Addr) (n c : Nat) (ua : Option Addr) (un uc : Nat) (sa : Option Addr) (sn sc : Nat) (w : World) (hs : Texts w w.heap.size a n) (hn : 16 * n ≤ 140737488355328) (hu : NSrc w w.heap.size ua un) (hun : un ≤ 140737488355328) (hss : NSrc w w.heap.size sa sn) (hsn : sn ≤ 140737488355328) :
    Calls Try.prog 4 #[.slice a n c, .slice ua un uc, .slice sa sn sc] w fun e w' => e = .returned (.bool true) ∧ Below w.heap.size w w' := by
  have h1 := split_any ⟨#[47]⟩ w
  rw [show splitErr (⟨#[47]⟩ : ByteArray).data.toList = 0 by decide, show splitAns (⟨#[47]⟩ : ByteArray).data.toList = [] by decide] at h1
  have Hs := Hid.mk (And.intro hs (And.intro hn (And.intro hu (And.intro hun (And.intro hss hsn)))))
  clear hs hn hu hun hss hsn
  go_enter Try.func4, Try.ntmps4
  go_wp2_with fail
  refine h1.mono ?_
  rintro e w1 ⟨v1, rfl, ht1, hb1⟩
  obtain ⟨va, vc, rfl⟩ := ht1.nil
  have h2 := split_any ⟨#[47, 120, 47, 46, 46, 47, 121, 47]⟩ w1
  rw [show splitErr (⟨#[47, 120, 47, 46, 46, 47, 121, 47]⟩ : ByteArray).data.toList = 0 by decide, show splitAns (⟨#[47, 120, 47, 46, 46, 47, 121, 47]⟩ : ByteArray).data.toList = [[120], [46, 46], [121]] by decide] at h2
  have HB1 := Hid.mk hb1
  clear h1 ht1 hb1
  go_wp2_with fail
  refine h2.mono ?_
  rintro e w2 ⟨v2, rfl, ht2, hb2⟩
  have HB2 := Hid.mk (HB1.out.trans (hb2.mono HB1.out.size))
  have h3 := same_any (w2.alloc (.cells (strs [[120], [46, 46], [121]]).toArray 9)) (ht2.later ((Below.refl _ _).alloc (Nat.le_refl _) _)) (told_new w2 0 [[120], [46, 46], [121]] (by decide) (Nat.zero_le _)) (by decide)
  clear h2 ht2 hb2 HB1
  go_wp2_with fail
  refine h3.mono ?_
  rintro e w3 ⟨rfl, hb3⟩
  have hB3 : Below w.heap.size w w3 := (HB2.out.alloc HB2.out.size _).trans (hb3.mono (by have := HB2.out.size; simp; omega))
  have HB3 := Hid.mk hB3
  clear hB3 hb3 h3 HB2
  go_wp2
  go_loopw [9, 10] (fun lv iv wr => ∃ (k : Nat) (l : List (List UInt8)), iv = .int .i64 k ∧ k ≤ n ∧ Told w.heap.size wr lv l ∧ (∀ p ∈ l, OkP p) ∧ l.length = k ∧ k ≤ 1024 ∧ Below w.heap.size w wr) (fun _ iv _ => n - (intOf iv).toNat)
  case atStart => exact ⟨0, [], rfl, Nat.zero_le _, told_nil _ _, (fun p hp => by cases hp), rfl, by omega, HB3.out⟩
  case round =>
    obtain ⟨k, l, rfl, hk, htold, hok, hlen, hk2, hbr⟩ := hrel
    by_cases hlt : k < n ∧ k < 1024
    · obtain ⟨hlt, hlt2⟩ := hlt
      have hlt' : (k : Int) < (n : Int) := by omega
      have hlt2' : (k : Int) < 1024 := by omega
      obtain ⟨x, rfl⟩ : ∃ x, a = some x := by
        cases a with
        | none => have := Hs.out.1.1 rfl; omega
        | some x => exact ⟨x, rfl⟩
      obtain ⟨b, o, rfl, hbB, s, q0, _⟩ := (Hs.out.1.far hbr).2 x rfl k hlt
      have hp := tame_any s wr
      have hokt := tameL_ok s.data.toList
      generalize tameL s.data.toList = q at *
      have hw64 : wrap64 ((k : Int) + 1) = ((k + 1 : Nat) : Int) := by
        rw [IntWalk.wrap64_in _ (by omega)]
        rfl
      have HA0 := Hid.mk (And.intro htold (And.intro hok (And.intro hlen hbr)))
      clear htold hok hlen hbr
      go_wp2_with fail
      refine hp.mono ?_
      rintro e w4 ⟨rfl, hb4⟩
      have HA := Hid.mk (And.intro (HA0.out.2.2.2.trans (hb4.mono HA0.out.2.2.2.size)) (And.intro (HA0.out.1.later hb4) (And.intro HA0.out.2.2.1 (And.intro (by have := HA0.out.2.2.1; omega : l.length ≤ 1024 ∧ k < 1024).1 HA0.out.2.1))))
      clear hp hb4 HA0 q0
      by_cases h0 : un = 0
      · have d1 : ¬ ((0 : Int) < (un : Int)) := by omega
        clear h0
        obtain ⟨v', w3, hap1, hap2, hap3⟩ := HA.out.2.1.app q (by have := HA.out.2.2.2.1; omega) HA.out.1.size
        have HP := Hid.mk (And.intro hap2 (HA.out.1.trans hap3))
        clear hap2 hap3
        go_wp2_with (at_builtin; refine Lib.wpList_append_run _ rfl _ _ _ _ rfl _ _ rfl rfl _ _ hap1 ?_)
        go_roundw
        case rel =>
          refine ⟨k + 1, l ++ [q], (by first | go_num | rw [hw64]), by omega, HP.out.1, ?_, by rw [List.length_append, HA.out.2.2.1]; rfl, by have := HA.out.2.2.2.1; omega, HP.out.2⟩
          intro p hp
          rcases List.mem_append.1 hp with hp | hp
          · exact HA.out.2.2.2.2 p hp
          · rw [List.mem_singleton.1 hp]
            exact hokt
        case measure => first | exact meas (S := n) (i := k) (k := k + 1) hlt (by omega) | (rw [hw64]; exact meas (S := n) (i := k) (k := k + 1) hlt (by omega))
      · have d1 : (0 : Int) < (un : Int) := by omega
        have hml : k % un < un := Nat.mod_lt _ (by omega)
        have hmod : Int.tmod (k : Int) (un : Int) = ((k % un : Nat) : Int) := rfl
        have hml' : ((k % un : Nat) : Int) < (un : Int) := by omega
        have hne : ((un : Int) == 0) = false := by
          rw [Bool.eq_false_iff, ne_eq, beq_iff_eq]
          omega
        have hne2 : ((un : Int) = 0) = False := eq_false (by omega)
        obtain ⟨y, rfl⟩ : ∃ y, ua = some y := by
          cases ua with
          | none => exact absurd (Hs.out.2.2.1.1 rfl) h0
          | some y => exact ⟨y, rfl⟩
        obtain ⟨b1, o1, rfl, hb1, t, c1⟩ := (Hs.out.2.2.1.far HA.out.1).2 y rfl (k % un) hml
        generalize k % un = z at *
        clear h0
        by_cases h3 : Int.tmod t 4 = 1
        · have d3 : (Int.tmod t 4 == 1) = true := by rw [h3]; rfl
          clear h3
          obtain ⟨v', w3, hap1, hap2, hap3⟩ := HA.out.2.1.app [46, 46] (by have := HA.out.2.2.2.1; omega) HA.out.1.size
          have HP := Hid.mk (And.intro hap2 (HA.out.1.trans hap3))
          clear hap2 hap3
          go_wp2_with (at_builtin; refine Lib.wpList_append_run _ rfl _ _ _ _ rfl _ _ rfl rfl _ _ hap1 ?_)
          go_roundw
          case rel =>
            refine ⟨k + 1, l ++ [[46, 46]], (by first | go_num | rw [hw64]), by omega, HP.out.1, ?_, by rw [List.length_append, HA.out.2.2.1]; rfl, by have := HA.out.2.2.2.1; omega, HP.out.2⟩
            intro p hp
            rcases List.mem_append.1 hp with hp | hp
            · exact HA.out.2.2.2.2 p hp
            · rw [List.mem_singleton.1 hp]
              exact dots_ok
          case measure => first | exact meas (S := n) (i := k) (k := k + 1) hlt (by omega) | (rw [hw64]; exact meas (S := n) (i := k) (k := k + 1) hlt (by omega))
        · have d3 : (Int.tmod t 4 == 1) = false := by simpa using h3
          clear h3
          obtain ⟨v', w3, hap1, hap2, hap3⟩ := HA.out.2.1.app q (by have := HA.out.2.2.2.1; omega) HA.out.1.size
          have HP := Hid.mk (And.intro hap2 (HA.out.1.trans hap3))
          clear hap2 hap3
          go_wp2_with (at_builtin; refine Lib.wpList_append_run _ rfl _ _ _ _ rfl _ _ rfl rfl _ _ hap1 ?_)
          go_roundw
          case rel =>
            refine ⟨k + 1, l ++ [q], (by first | go_num | rw [hw64]), by omega, HP.out.1, ?_, by rw [List.length_append, HA.out.2.2.1]; rfl, by have := HA.out.2.2.2.1; omega, HP.out.2⟩
            intro p hp
            rcases List.mem_append.1 hp with hp | hp
            · exact HA.out.2.2.2.2 p hp
            · rw [List.mem_singleton.1 hp]
              exact hokt
          case measure => first | exact meas (S := n) (i := k) (k := k + 1) hlt (by omega) | (rw [hw64]; exact meas (S := n) (i := k) (k := k + 1) hlt (by omega))
    · have hp := path_any wr htold hok (by omega) sc (Hs.out.2.2.2.2.1.farB hbr) Hs.out.2.2.2.2.2
      have HA := Hid.mk (And.intro htold (And.intro hok (And.intro hbr (by omega : l.length ≤ 1024))))
      have key : (¬ (k : Int) < (n : Int)) ∨ ((k : Int) < (n : Int) ∧ ¬ (k : Int) < 1024) := by omega
      clear htold hok hbr hlt
      rcases key with hlt' | ⟨hlt', hlt2'⟩
      all_goals
        go_wp2_with fail
        refine hp.mono ?_
        rintro e w4 ⟨P, rfl, hP, hb4⟩
        have HA4 := Hid.mk (And.intro (HA.out.2.2.1.trans (hb4.mono HA.out.2.2.1.size)) (HA.out.1.later hb4))
        have hsp := split_any P w4
        clear hp hb4
        by_cases hlong : 1023 < P.size
        · have hlong' : 1023 < (P.size : Int) := by omega
          rw [(hP.long hlong).1, (hP.long hlong).2] at hsp
          clear hP
          go_wp2_with fail
          refine hsp.mono ?_
          rintro e w5 ⟨v5, rfl, ht5, hb5⟩
          obtain ⟨xa, xc, rfl⟩ := ht5.nil
          go_wp2
          go_ret
          exact ⟨rfl, HA4.out.1.trans (hb5.mono HA4.out.1.size)⟩
        · have hlong' : ¬ 1023 < (P.size : Int) := by omega
          rw [(hP.split HA.out.2.1 hlong).1, (hP.split HA.out.2.1 hlong).2] at hsp
          clear hP
          go_wp2_with fail
          refine hsp.mono ?_
          rintro e w5 ⟨v5, rfl, ht5, hb5⟩
          have h6 := same_any w5 ht5 (HA4.out.2.later hb5) (by have := HA.out.2.2.2; omega)
          have HB5 := Hid.mk (HA4.out.1.trans (hb5.mono HA4.out.1.size))
          clear hsp ht5 hb5
          go_wp2_with fail
          refine h6.mono ?_
          rintro e w6 ⟨rfl, hb6⟩
          go_wp2
          go_ret
          exact ⟨rfl, HB5.out.trans (hb6.mono HB5.out.size)⟩
end Go.Proofs.Ytpihehpmejicaaa
