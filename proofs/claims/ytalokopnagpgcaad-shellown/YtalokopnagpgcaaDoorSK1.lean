import Derived.Test.YtalokopnagpgcaaDoorSJ9
namespace Go.Proofs.YtalokopnagpgcaaDoor
open Go.RowKit Go.Maps

theorem told_slice {B : Nat} {w : World} {v : Value} {ws : List (List UInt8)} (h : Told B w v ws) : ∃ a c, v = .slice a ws.length c ∧ (a = none → ws.length = 0) ∧ ∀ g, a = some g → g.off = 0 ∧ g = ⟨g.block, 0, none⟩ ∧ ∀ (i : Nat) x, ws[i]? = some x → w.cell? ⟨g.block, i, none⟩ = some (.string ⟨x.toArray⟩) := by
  by_cases hv : v = .slice none 0 0
  · subst hv
    obtain ⟨_, ⟨_, hn⟩ | ⟨g, c, cur, e, _⟩⟩ := h
    · exact ⟨none, 0, by rw [hn], fun _ => hn, fun g hg => by cases hg⟩
    · cases e
  · obtain ⟨g, c, rfl, _, hr, _⟩ := RowAt.of_owns h hv
    refine ⟨some ⟨g, 0, none⟩, c, rfl, (fun e => by cases e), fun g' hg => ?_⟩
    cases hg
    exact ⟨rfl, rfl, fun i x hx => hr.cell (j := i) (by simp [strs, hx])⟩
set_option maxRecDepth 20000 in
set_option maxHeartbeats 4000000 in
theorem same_eq {B B' : Nat} {w : World} {v v' : Value} {ws : List (List UInt8)} (h : Told B w v ws) (h' : Told B' w v' ws) (hn : ws.length ≤ 100000000) :
    Calls Tryd.prog 11 #[v, v'] w fun e w' => e = .returned (.bool true) ∧ Below w.heap.size w w' := by
  obtain ⟨a, c, rfl, hnil, hcell⟩ := told_slice h
  obtain ⟨a', c', rfl, hnil', hcell'⟩ := told_slice h'
  clear h h'
  have HC := Hid.mk (And.intro hnil (And.intro hcell (And.intro hnil' hcell')))
  clear hnil hcell hnil' hcell'
  obtain ⟨n, hnn⟩ : ∃ n, n = ws.length := ⟨_, rfl⟩
  rw [← hnn] at hn ⊢
  have hne : ((n : Int) != (n : Int)) = false := by simp
  go_enter Tryd.func11, Tryd.ntmps11
  go_wp2
  go_loopw [5] (fun iv wr => ∃ k : Nat, k ≤ n ∧ iv = .int .i64 k ∧ Below w.heap.size w wr) (fun iv _ => n - (intOf iv).toNat)
  case atStart => exact ⟨0, Nat.zero_le _, rfl, Below.refl _ _⟩
  case round =>
    obtain ⟨k, hk, rfl, hbr⟩ := hrel
    by_cases hlt : k < n
    · have hlt' : (k : Int) < (n : Int) := by omega
      have hlt0 : (0 : Int) ≤ (k : Int) := by omega
      obtain ⟨x, hx⟩ : ∃ x, ws[k]? = some x := ⟨_, List.getElem?_eq_getElem (by omega)⟩
      cases a with
      | none => exact absurd (HC.out.1 rfl) (by omega)
      | some g =>
        cases a' with
        | none => exact absurd (HC.out.2.2.1 rfl) (by omega)
        | some g' =>
          obtain ⟨_, eg, hg⟩ := HC.out.2.1 g rfl
          obtain ⟨_, eg', hg'⟩ := HC.out.2.2.2 g' rfl
          have k1 : wr.drew.cell? ⟨g.block, k, none⟩ = some (.string ⟨x.toArray⟩) := cell_later (below_drew hbr) (hg k x hx)
          have k2 : wr.drew.cell? ⟨g'.block, k, none⟩ = some (.string ⟨x.toArray⟩) := cell_later (below_drew hbr) (hg' k x hx)
          rw [eg, eg']
          generalize g.block = G at *
          generalize g'.block = G' at *
          have HB := Hid.mk hbr
          clear hbr hg hg' eg eg' HC
          go_wp2
          go_region
          go_wp2
          go_roundw
          case rel => exact ⟨k + 1, by omega, by go_num, below_drew HB.out⟩
          case measure => simp [intOf]; omega
    · have hlt' : ¬ ((k : Int) < (n : Int)) := by omega
      have HB := Hid.mk hbr
      clear hbr
      go_wp2
      go_ret
      exact ⟨rfl, HB.out⟩
theorem ansW_len (l : List UInt8) : (ansW l).1.length ≤ 100000000 := by
  unfold ansW
  split
  · simp
  · have hw : ∀ (n : Nat) (l : List UInt8), l.length ≤ n → ∀ ws, wds l = some ws → ws.length ≤ n := by
      intro n
      induction n with
      | zero =>
        intro l hl ws h
        obtain rfl := List.eq_nil_of_length_eq_zero (by omega : l.length = 0)
        rw [wds_end rfl] at h
        cases h
        simp
      | succ n ih =>
        intro l hl ws h
        match hu : unb l with
        | [] => rw [wds_end hu] at h; cases h; simp
        | c :: t =>
          by_cases h35 : c = 35
          · subst h35
            rw [wds_note hu] at h
            cases h
            simp
          · cases hf : frst (c :: t) with
            | none => rw [wds_no hu h35 hf] at h; cases h
            | some mr =>
              obtain ⟨m, r⟩ := mr
              rw [wds_step hu h35 hf] at h
              have hrl := frst_lt (unb_head hu) hf
              have hlu := unb_le l
              rw [hu] at hlu
              cases hr : wds r with
              | none => rw [hr] at h; cases h
              | some ws' =>
                rw [hr] at h
                cases h
                have := ih r (by omega) ws' hr
                simp only [List.length_cons]
                omega
    cases h : wds l with
    | none => simp [ansO]
    | some ws =>
      have := hw l.length l (Nat.le_refl _) ws h
      simp only [ansO]
      omega
set_option maxRecDepth 20000 in
set_option maxHeartbeats 4000000 in
theorem shellWords_any (s : ByteArray) (w : World) (he : EV w) :
    Calls Tryd.prog 5 #[.string s] w fun e w' => e = .returned (.bool true) ∧ Below w.heap.size w w' := by
  have hA : ansW [97] = ([[97]], 0) := by
    unfold ansW
    rw [if_neg (by decide), wds_step (l := [97]) (c := 97) (t := []) (m := [97]) (r := []) rfl (by decide) rfl, wds_end rfl]
    rfl
  have h1 := words_any ⟨#[97]⟩ w he
  rw [show (⟨#[97]⟩ : ByteArray).data.toList = [97] from rfl, hA] at h1
  have hW := words_any s
  have hR := rwords_any s
  rw [ans_same] at hR
  have hlen := ansW_len s.data.toList
  have HE := Hid.mk he
  clear he hA
  generalize ansW s.data.toList = A at *
  go_enter Tryd.func5, Tryd.ntmps5
  go_wp2_with fail
  refine h1.mono ?_
  rintro e w1 ⟨v1, rfl, ht1, hb1⟩
  obtain ⟨a, c, rfl, hnil, hcell⟩ := told_slice ht1
  have hE1 := HE.out.later hb1
  obtain ⟨g, rfl, k1⟩ : ∃ g, a = some ⟨g, 0, none⟩ ∧ w1.cell? ⟨g, 0, none⟩ = some (.string ⟨#[97]⟩) := by
    cases a with
    | none => exact absurd (hnil rfl) (by decide)
    | some g => exact ⟨g.block, congrArg some (hcell g rfl).2.1, (hcell g rfl).2.2 0 [97] rfl⟩
  have hW1 := hW w1 hE1
  have HB1 := Hid.mk hb1
  have hz1 := hb1.size
  clear hb1 h1 hnil hcell ht1 hE1 hW
  rw [show [[(97 : UInt8)]].length = 1 from rfl]
  go_wp2_with fail
  refine hW1.mono ?_
  rintro e w2 ⟨v2, rfl, ht2, hb2⟩
  have hR2 := hR w2
  have HB2 := Hid.mk (HB1.out.trans (hb2.mono hz1))
  have hz2 := hb2.size
  have HT2 := Hid.mk ht2
  clear hb2 hW1 ht2 hR
  go_wp2_with fail
  refine hR2.mono ?_
  rintro e w3 ⟨v3, rfl, ht3, hb3⟩
  have ht2' : Told w1.heap.size w3 v2 A.1 := rowAgree HT2.out (fun g' hg' => hb3.block g' (rowLt HT2.out hg'))
  have hs := same_eq ht2' ht3 hlen
  have HB3 := Hid.mk (HB2.out.trans (hb3.mono (by omega)))
  have hz3 := hb3.size
  have heq : ((A.2 : Int) == (A.2 : Int)) = true := by simp
  clear hb3 hR2 ht2' ht3
  go_wp2_with fail
  refine hs.mono ?_
  rintro e w4 ⟨rfl, hb4⟩
  have HB4 := Hid.mk (HB3.out.trans (hb4.mono (by omega)))
  clear hb4 hs
  go_wp2
  go_ret
  exact ⟨rfl, HB4.out⟩
end Go.Proofs.YtalokopnagpgcaaDoor
