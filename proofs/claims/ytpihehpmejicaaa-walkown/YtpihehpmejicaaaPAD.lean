import Derived.Test.YtpihehpmejicaaaPAC
namespace Go.Proofs.Ytpihehpmejicaaa
open Go.RowKit Go.Maps

/-- What a path made of parts is. -/
structure PathTo (l : List (List UInt8)) (P : ByteArray) : Prop where
  pts : ptsOf P.data.toList = l
  head : P.data.toList.head? = some 47
  len : P.size ≤ 60 * l.length + 6

/-- So far. -/
structure PathUp (l : List (List UInt8)) (i : Nat) (P : ByteArray) : Prop where
  pts : ptsOf P.data.toList = l.take i
  nil : i = 0 → P.data.toList = []
  head : 0 < i → P.data.toList.head? = some 47
  len : P.size ≤ 60 * i
theorem PathUp.next {l : List (List UInt8)} {i : Nat} {P S X : ByteArray} {x : Int} (h : PathUp l i P) (hi : i < l.length) (hS : S.data.toList = sepOf x) (hX : X.data.toList = l[i]) (hok : OkP l[i]) : PathUp l (i + 1) (P ++ S ++ X) := by
  have e : (P ++ S ++ X).data.toList = P.data.toList ++ sepOf x ++ l[i] := by rw [← hS, ← hX]; simp
  have hx : X.size ≤ 54 := by rw [← len_size, hX]; exact hok.len
  have hsz : S.size ≤ 6 := by rw [← len_size, hS]; exact sep_len x
  refine ⟨?_, (fun h0 => by omega), (fun _ => ?_), ?_⟩
  · rw [e, pts_sep, h.pts, hok.pts, List.take_succ_eq_append_getElem hi]
  · rw [e]
    by_cases h0 : i = 0
    · rw [h.nil h0, List.nil_append]
      exact sep_head x _
    · have := h.head (by omega)
      rw [List.append_assoc]
      cases hP : P.data.toList with
      | nil => rw [hP] at this; simp at this
      | cons c t => rw [hP] at this; simpa using this
  · have := h.len
    simp only [ByteArray.size_append]
    omega
theorem PathUp.stop {l : List (List UInt8)} {P : ByteArray} (h : PathUp l l.length P) (hl : 0 < l.length) : PathTo l P :=
  ⟨by rw [h.pts, List.take_length], h.head hl, by have := h.len; omega⟩
theorem PathUp.tail {l : List (List UInt8)} {P S : ByteArray} {x : Int} (h : PathUp l l.length P) (hS : S.data.toList = sepOf x) : PathTo l (P ++ S) := by
  have e : (P ++ S).data.toList = P.data.toList ++ sepOf x := by rw [← hS]; simp
  have hsz : S.size ≤ 6 := by rw [← len_size, hS]; exact sep_len x
  refine ⟨?_, ?_, ?_⟩
  · have h1 := pts_sep P.data.toList x []
    rw [List.append_nil] at h1
    rw [e, h1, h.pts, List.take_length]
    simp [ptsOf, segs, keepP]
  · rw [e]
    by_cases h0 : l.length = 0
    · rw [h.nil h0, List.nil_append]
      have := sep_head x []
      rwa [List.append_nil] at this
    · have := h.head (by omega)
      cases hP : P.data.toList with
      | nil => rw [hP] at this; simp at this
      | cons c t => rw [hP] at this; simpa using this
  · have := h.len
    simp only [ByteArray.size_append]
    omega

set_option maxHeartbeats 4000000 in
theorem path_any (w : World) {B : Nat} {v : Value} {l : List (List UInt8)} (hv : Told B w v l) (hok : ∀ p ∈ l, OkP p) (hll : l.length ≤ 1024) {sa : Option Addr} {sn : Nat} (sc : Nat) (hs : NSrc w w.heap.size sa sn) (hsn : sn ≤ 140737488355328) :
    Calls Try.prog 10 #[v, .slice sa sn sc] w fun e w' => ∃ P, e = .returned (.string P) ∧ PathTo l P ∧ Below w.heap.size w w' := by
  have hvv : ∃ a c', v = .slice a l.length c' ∧ ∀ i (hi : i < l.length), ∃ g', a = some ⟨g', 0, none⟩ ∧ g' < w.heap.size ∧ w.cell? ⟨g', i, none⟩ = some (.string ⟨l[i].toArray⟩) := by
    rcases hv.shape with ⟨rfl, rfl⟩ | ⟨g', c', rfl, _, hg', hc'⟩
    · exact ⟨none, 0, rfl, fun i hi => absurd hi (by simp)⟩
    · exact ⟨_, c', rfl, fun i hi => ⟨g', rfl, hg', hc' i hi⟩⟩
  obtain ⟨a, c, rfl, hc⟩ := hvv
  have HC := Hid.mk (And.intro hc (And.intro hok (And.intro hll (And.intro hs hsn))))
  clear hv hc hok hll hs hsn
  go_enter Try.func10, Try.ntmps10
  go_wp2
  go_loopw [5, 6] (fun pv iv wr => ∃ (P : ByteArray) (i : Nat), pv = .string P ∧ iv = .int .i64 i ∧ i ≤ l.length ∧ PathUp l i P ∧ Below w.heap.size w wr) (fun _ iv _ => l.length - (intOf iv).toNat)
  case atStart => exact ⟨⟨#[]⟩, 0, rfl, rfl, Nat.zero_le _, ⟨by simp [ptsOf, segs, keepP], fun _ => rfl, fun h => by omega, Nat.zero_le _⟩, Below.refl _ _⟩
  case round =>
    obtain ⟨P, i, rfl, rfl, hi, hP, hb⟩ := hrel
    have hll := HC.out.2.2.1
    have hPl := hP.len
    by_cases hlt : i < l.length
    · have hlt' : (i : Int) < (l.length : Int) := by omega
      obtain ⟨g, rfl, hg, c2⟩ := HC.out.1 i hlt
      obtain ⟨x, SB, hSB, hbt⟩ := between_any sc HC.out.2.2.2.1 i (by omega) HC.out.2.2.2.2
      obtain ⟨XB, hXB⟩ : ∃ XB : ByteArray, XB = ⟨l[i].toArray⟩ := ⟨_, rfl⟩
      have hX : XB.data.toList = l[i] := by rw [hXB]
      have hokp := HC.out.2.1 l[i] (List.getElem_mem hlt)
      have q1 : wr.cell? ⟨g, i, none⟩ = some (.string XB) := by
        rw [hXB]
        exact (World.cell?_of_block (w := w) (a := ⟨g, i, none⟩) (hb.block g hg)).trans c2
      have hx : XB.size ≤ 54 := by rw [← len_size, hX]; exact hokp.len
      have hsz : SB.size ≤ 6 := by rw [← len_size, hSB]; exact sep_len x
      have k1 : (9223372036854775807 < P.size + SB.size) = False := eq_false (by omega)
      have k2 : (9223372036854775807 < P.size + SB.size + XB.size) = False := eq_false (by omega)
      have hw64 : wrap64 ((i : Int) + 1) = ((i + 1 : Nat) : Int) := by
        rw [IntWalk.wrap64_in _ (by omega)]
        rfl
      have HN := Hid.mk (And.intro (hP.next hlt hSB hX hokp) hb)
      have hbt' : ∀ k, Calls Try.prog 16 #[.slice sa sn sc, .int .i64 i] (wr.drewN k) fun e w' => e = .returned (.string SB) ∧ w' = wr.drewN k := fun k => hbt _ (below_drewN hb k)
      clear hP hb c2 hSB hX hokp hXB hx hsz hPl hll hbt
      go_wp2_with fail
      go_quiet (first | (go_at_call 16; refine Calls.quiet_of_same (hbt' _)))
      go_wp2
      go_roundw
      case rel => exact ⟨_, i + 1, rfl, (by first | go_num | rw [hw64]), by omega, HN.out.1, below_drewN HN.out.2 _⟩
      case measure => first | exact meas (S := l.length) (i := i) (k := i + 1) hlt (by omega) | (rw [hw64]; exact meas (S := l.length) (i := i) (k := i + 1) hlt (by omega))
    · have hlt' : ¬ (i : Int) < (l.length : Int) := by omega
      obtain rfl : i = l.length := by omega
      obtain ⟨x, SB, hSB, hbt⟩ := between_any sc HC.out.2.2.2.1 l.length (by omega) HC.out.2.2.2.2
      have hsz : SB.size ≤ 6 := by rw [← len_size, hSB]; exact sep_len x
      have k1 : (9223372036854775807 < P.size + SB.size) = False := eq_false (by omega)
      have hbt' := hbt wr hb
      have HN := Hid.mk (And.intro hP (And.intro hb hSB))
      clear hP hb hSB hsz hPl hll hbt hi
      by_cases h0 : l.length = 0
      · have d0 : (((l.length : Nat) : Int) == 0) = true := by rw [h0]; rfl
        clear h0
        go_wp2_with fail
        refine hbt'.mono ?_
        rintro e w1 ⟨rfl, hq⟩
        have hq' := hq.symm
        subst hq'
        go_wp2
        go_ret
        exact ⟨_, rfl, HN.out.1.tail HN.out.2.2, HN.out.2.1⟩
      · have d0 : (((l.length : Nat) : Int) == 0) = false := by
          rw [Bool.eq_false_iff, ne_eq, beq_iff_eq]
          omega
        by_cases h1 : sn = 0
        · have d1 : ¬ ((0 : Int) < (sn : Int)) := by omega
          have HS := Hid.mk (HN.out.1.stop (by omega))
          clear h1 h0
          go_wp2
          go_ret
          exact ⟨_, rfl, HS.out, HN.out.2.1⟩
        · have d1 : (0 : Int) < (sn : Int) := by omega
          obtain ⟨y, rfl⟩ : ∃ y, sa = some y := by
            cases sa with
            | none => exact absurd (HC.out.2.2.2.1.1 rfl) h1
            | some y => exact ⟨y, rfl⟩
          obtain ⟨b, o, rfl, hbb, t, c0⟩ := (HC.out.2.2.2.1.far HN.out.2.1).2 y rfl 0 (by omega)
          rw [Nat.add_zero] at c0
          have HS := Hid.mk (HN.out.1.stop (by omega))
          by_cases h3 : Int.tmod t 3 = 1
          · have d3 : (Int.tmod t 3 == 1) = true := by rw [h3]; rfl
            clear h1 h0 h3
            go_wp2_with fail
            refine hbt'.mono ?_
            rintro e w1 ⟨rfl, hq⟩
            have hq' := hq.symm
            subst hq'
            go_wp2
            go_ret
            exact ⟨_, rfl, HN.out.1.tail HN.out.2.2, HN.out.2.1⟩
          · have d3 : (Int.tmod t 3 == 1) = false := by simpa using h3
            clear h1 h0 h3
            go_wp2
            go_ret
            exact ⟨_, rfl, HS.out, HN.out.2.1⟩
end Go.Proofs.Ytpihehpmejicaaa
