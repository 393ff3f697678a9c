import Derived.Test.YtodleeipefnadacKS19
namespace Go.Proofs.Ytodleeipefnadac
open Go.RowKit

/-- What a call answers: a list in block g, or none. -/
def LstIn (w : World) (g : Nat) (v : Value) (l : List Int) : Prop := ∃ a c, v = .slice a l.length c ∧ Src w a l.length l ∧ l.length ≤ c ∧ ∀ x, a = some x → x.block = g
theorem LstIn.nil (w : World) (g : Nat) : LstIn w g (.slice none 0 0) [] := ⟨none, 0, rfl, ⟨rfl, fun _ => rfl, fun x hx => by cases hx⟩, Nat.le_refl _, fun x hx => by cases hx⟩
theorem LstIn.later {w w' : World} {g : Nat} {v : Value} {l : List Int} (h : LstIn w g v l) (hb : Below w.heap.size w w') : LstIn w' g v l := by
  obtain ⟨a, c, rfl, hs, hc, hx⟩ := h
  exact ⟨a, c, rfl, hs.later hb, hc, hx⟩
theorem LstIn.lst {w : World} {g B : Nat} {v : Value} {l : List Int} (h : LstIn w g v l) (hg : B ≤ g) : Lst w B v l := by
  obtain ⟨a, c, rfl, hs, hc, hx⟩ := h
  exact ⟨a, c, rfl, hs, hc, fun x e => by rw [hx x e]; exact hg⟩

theorem sanchor_short {s : List Int} (h : sopen s = none ∨ ∃ b, sopen s = some b ∧ (b.length < 8 ∨ 9223372036854775808 ≤ le (b.take 8))) : sanchor s = (0, []) := by
  rcases h with h | ⟨b, h, h2⟩
  · simp [sanchor, h]
  · simp only [sanchor, h]
    rw [if_neg (by omega)]
theorem sanchor_good {s b : List Int} (h : sopen s = some b) (h1 : 8 ≤ b.length) (h2 : le (b.take 8) < 9223372036854775808) : sanchor s = (le (b.take 8), b.drop 8) := by
  simp only [sanchor, h]
  rw [if_pos ⟨h1, h2⟩]

set_option maxRecDepth 20000 in
set_option maxHeartbeats 4000000 in
theorem anchor_any (g o : Nat) (s : List Int) (w : World) (hs : Src w (some ⟨g, o, none⟩) 512 s) (hb : Bytes s) :
    Calls Try.prog 60 #[.pointer (some ⟨g, o, none⟩)] w fun e w' => ∃ v, e = .returned (.tuple #[.int .i64 (((sanchor s).1 : Nat) : Int), v]) ∧ LstIn w' g v (sanchor s).2 ∧ Below w.heap.size w w' := by
  have hsl := hs.1
  by_cases hbad : 504 < slen s ∨ 2 < s.getD 0 0
  · have hno : sanchor s = (0, []) := sanchor_short (.inl (by unfold sopen; rw [if_neg (fun h => by omega)]))
    have Hno := Hid.mk hno
    have h1 := open_no g o s w hs hb hbad
    clear hno hs
    go_enter Try.func60, Try.ntmps60
    go_wp2_with fail
    refine h1.mono ?_
    rintro e w' ⟨rfl, hw⟩
    have hw' := hw.symm
    subst hw'
    clear hw h1
    go_wp2
    go_ret2
    exact ⟨_, by rw [Hno.out]; rfl, by rw [Hno.out]; exact LstIn.nil _ _, Below.refl _ _⟩
  · have h1 := open_yes g o s w hs hb (by omega) (by omega)
    have hbl := sbody_len (s := s) (by omega) hsl
    have hbb : Bytes (sbody s) := (hb.drop _).take _
    by_cases heq : sform (s.getD 0 0) (sbody s) = s
    · have hop : sopen s = some (sbody s) := by unfold sopen; rw [if_pos ⟨by omega, by omega, heq⟩]
      rw [decide_eq_true heq] at h1
      by_cases h8 : slen s < 8
      · have hno : sanchor s = (0, []) := sanchor_short (.inr ⟨_, hop, .inl (by omega)⟩)
        have Hno := Hid.mk hno
        have h8' : (slen s : Int) < 8 := by omega
        clear hno hs hop heq hbb
        generalize slen s = N at *
        go_enter Try.func60, Try.ntmps60
        go_wp2_with fail
        refine h1.mono ?_
        rintro e w1 ⟨k, rfl, _, hb1⟩
        have HB1 := Hid.mk hb1
        clear hb1 h1
        go_wp2
        go_ret2
        exact ⟨_, by rw [Hno.out]; rfl, by rw [Hno.out]; exact LstIn.nil _ _, HB1.out⟩
      · have h8' : ¬ (slen s : Int) < 8 := by omega
        have hsb : ∀ w1 : World, Below w.heap.size w w1 → Src w1 (some ⟨g, o + 7, none⟩) (slen s) (sbody s) := fun w1 h => src_part (hs.later h) (i := 7) (m := slen s) (by omega)
        have ht8 : ((sbody s).take 8).length = 8 := by rw [List.length_take]; omega
        have hsmall := le_small (hbb.take 8) (by omega)
        have htk : ∀ w1 : World, Below w.heap.size w w1 → Calls Try.prog 59 #[.slice (some ⟨g, o + 7, none⟩) 8 8] w1 fun e w' => e = .returned (.int .u64 ((le ((sbody s).take 8) : Nat) : Int)) ∧ w' = w1 := fun w1 h => by
          have hp := src_part (hsb w1 h) (i := 0) (m := 8) (by omega)
          rw [List.drop_zero] at hp
          exact taken_any g (o + 7) 8 8 ((sbody s).take 8) w1 (hbb.take 8) ht8 (by omega) (fun i hi => by have := hp.2.2 _ rfl i hi; rwa [addr_add, Nat.add_zero] at this)
        have Htk := Hid.mk htk
        clear htk
        obtain ⟨M, hM⟩ : ∃ M, M = le ((sbody s).take 8) := ⟨_, rfl⟩
        rw [← hM] at hsmall Htk
        by_cases hbig : 9223372036854775807 < M
        · have hno : sanchor s = (0, []) := sanchor_short (.inr ⟨_, hop, .inr (by omega)⟩)
          have Hno := Hid.mk hno
          have hbig' : 9223372036854775807 < (M : Int) := by omega
          clear hno hs hop heq hbb hM
          generalize slen s = N at *
          have c8 : (8 : Int) ≤ (N : Int) := by omega
          go_enter Try.func60, Try.ntmps60
          go_wp2_with fail
          refine h1.mono ?_
          rintro e w1 ⟨k, rfl, hk, hb1⟩
          have hk' := hk (by omega)
          subst hk'
          have HB1 := Hid.mk hb1
          have ht := Htk.out w1 hb1
          clear hb1 h1 Htk hk
          go_wp2_with fail
          refine ht.mono ?_
          rintro e w' ⟨rfl, hw⟩
          have hw' := hw.symm
          subst hw'
          clear hw ht
          go_wp2
          go_ret2
          exact ⟨_, by rw [Hno.out]; rfl, by rw [Hno.out]; exact LstIn.nil _ _, HB1.out⟩
        · have hyes : sanchor s = (M, (sbody s).drop 8) := by rw [hM]; exact sanchor_good hop (by omega) (by omega)
          have Hyes := Hid.mk hyes
          have hbig' : ¬ 9223372036854775807 < (M : Int) := by omega
          have hdl : ((sbody s).drop 8).length = slen s - 8 := by simp; omega
          have hfin : ∀ (w1 : World) (k : Nat), Below w.heap.size w w1 → (8 < slen s → k = o + 7 + 8) → LstIn w1 g (.slice (some ⟨g, k, none⟩) (slen s - 8) (slen s - 8)) ((sbody s).drop 8) := by
            intro w1 k h hk
            refine ⟨some ⟨g, k, none⟩, slen s - 8, by rw [hdl], ?_, by omega, fun x hx => by cases hx; rfl⟩
            rw [hdl]
            by_cases h9 : 8 < slen s
            · rw [hk h9]
              have := src_part (hsb w1 h) (i := 8) (m := slen s - 8) (by omega)
              rwa [List.take_of_length_le (by omega)] at this
            · exact ⟨by omega, (fun e => by cases e), fun x hx i hi => by omega⟩
          have Hfin := Hid.mk hfin
          clear hyes hs hop heq hbb hM hfin hsb hdl ht8 hbl
          generalize slen s = N at *
          have c8 : (8 : Int) ≤ (N : Int) := by omega
          by_cases h9 : N = 8
          · subst h9
            go_enter Try.func60, Try.ntmps60
            go_wp2_with fail
            refine h1.mono ?_
            rintro e w1 ⟨k, rfl, hk, hb1⟩
            have hk' := hk (by omega)
            subst hk'
            have HB1 := Hid.mk hb1
            have ht := Htk.out w1 hb1
            clear hb1 h1 Htk hk
            go_wp2_with fail
            refine ht.mono ?_
            rintro e w' ⟨rfl, hw⟩
            have hw' := hw.symm
            subst hw'
            clear hw ht
            go_wp2
            go_quiet (fail)
            go_wp2
            go_ret2
            exact ⟨_, by rw [Hyes.out]; rfl, by rw [Hyes.out]; exact Hfin.out _ _ (below_drewN HB1.out _) (fun h => by omega), below_drewN HB1.out _⟩
          · have h9' : ¬ (N : Int) = 8 := by omega
            have h9'' : (8 : Int) < (N : Int) := by omega
            go_enter Try.func60, Try.ntmps60
            go_wp2_with fail
            refine h1.mono ?_
            rintro e w1 ⟨k, rfl, hk, hb1⟩
            have hk' := hk (by omega)
            subst hk'
            have HB1 := Hid.mk hb1
            have ht := Htk.out w1 hb1
            clear hb1 h1 Htk hk
            go_wp2_with fail
            refine ht.mono ?_
            rintro e w' ⟨rfl, hw⟩
            have hw' := hw.symm
            subst hw'
            clear hw ht
            go_wp2
            go_quiet (fail)
            go_wp2
            go_ret2
            exact ⟨_, by rw [Hyes.out]; rfl, by rw [Hyes.out]; exact Hfin.out _ _ (below_drewN HB1.out _) (fun h => by omega), below_drewN HB1.out _⟩
    · have hno : sanchor s = (0, []) := sanchor_short (.inl (by unfold sopen; rw [if_neg (fun h => heq h.2.2)]))
      have Hno := Hid.mk hno
      rw [decide_eq_false heq] at h1
      clear hno hs heq hbb
      generalize slen s = N at *
      go_enter Try.func60, Try.ntmps60
      go_wp2_with fail
      refine h1.mono ?_
      rintro e w1 ⟨k, rfl, _, hb1⟩
      have HB1 := Hid.mk hb1
      clear hb1 h1
      go_wp2
      go_ret2
      exact ⟨_, by rw [Hno.out]; rfl, by rw [Hno.out]; exact LstIn.nil _ _, HB1.out⟩
end Go.Proofs.Ytodleeipefnadac
