import Derived.Test.YtcofkdaakkfcfabOpen
namespace Go.Proofs.Ytcofkdaakkfcfab
open Go.RowKit Go.Maps

/-- What is told of a list of numbers. -/
def TSrc (w : World) (B : Nat) (a : Option Addr) (n : Nat) : Prop := (a = none → n = 0) ∧ ∀ y, a = some y → ∀ i, i < n → ∃ b o, y = ⟨b, o, none⟩ ∧ b < B ∧ ∃ t : Int, w.cell? ⟨b, o + i, none⟩ = some (.int .i64 t)

theorem TSrc.far {w w' : World} {B : Nat} {a : Option Addr} {n : Nat} (h : TSrc w B a n) (hb : Below B w w') : TSrc w' B a n := by
  refine ⟨h.1, fun y hy i hi => ?_⟩
  obtain ⟨b, o, rfl, hbB, t, c0⟩ := h.2 y hy i hi
  exact ⟨b, o, rfl, hbB, t, (World.cell?_of_block (w := w) (a := ⟨b, _, none⟩) (hb.block b hbB)).trans c0⟩

/-- Two pairs, each in blocks of its own. -/
structure Quad (w : World) (B : Nat) (F G F' G' : Nat → Prop) (p r s p' r' s' : Nat) (S S' : DS) : Prop where
  one : Two w B F G p r s S S
  two : Two w B F' G' p' r' s' S' S'
  apart : ∀ k, F k ∨ G k → ¬ (F' k ∨ G' k)

theorem Two.keep {w w' : World} {B : Nat} {F G U : Nat → Prop} {p r s : Nat} {S T : DS} (h : Two w B F G p r s S T) (hk : Keeps U w w') (hU : ∀ k, F k ∨ G k → ¬ U k) : Two w' B F G p r s S T :=
  ⟨h.d.keep hk (fun k hf => hU k (.inl hf)), h.e.keep hk (fun k hf => hU k (.inr hf)), Nat.le_trans h.lo hk.size, h.fF, h.fG, h.dis⟩

theorem Two.lt {w : World} {B : Nat} {F G : Nat → Prop} {p r s : Nat} {S T : DS} (h : Two w B F G p r s S T) : ∀ k, F k ∨ G k → k < w.heap.size := fun k hk => by
  rcases hk with h1 | h1
  · exact h.d.lt k h1
  · exact h.e.lt k h1

theorem Quad.first {w w' : World} {B : Nat} {F G F' G' : Nat → Prop} {p r s p' r' s' N : Nat} {S S' : DS} (h : Quad w B F G F' G' p r s p' r' s' S S') (ho : StepOut w w' B p r s N (fun k => F k ∨ G k)) :
    ∃ F1 G1 S1, Quad w' B F1 G1 F' G' p r s p' r' s' S1 S' ∧ S1.puts.length ≤ N ∧ Below B w w' := by
  obtain ⟨F1, G1, S1, ht, hb, hn, hk, hf, hg⟩ := ho
  refine ⟨F1, G1, S1, ⟨ht, h.two.keep hk (fun k h2 h1 => h.apart k h1 h2), fun k h1 h2 => ?_⟩, hn, hb⟩
  have hlt := h.two.lt k h2
  rcases h1 with h1 | h1
  · rcases hf k h1 with h3 | h3
    · exact h.apart k h3 h2
    · omega
  · rcases hg k h1 with h3 | h3
    · exact h.apart k h3 h2
    · omega

theorem Quad.swap {w : World} {B : Nat} {F G F' G' : Nat → Prop} {p r s p' r' s' : Nat} {S S' : DS} (h : Quad w B F G F' G' p r s p' r' s' S S') : Quad w B F' G' F G p' r' s' p r s S' S := ⟨h.two, h.one, fun k h2 h1 => h.apart k h1 h2⟩

theorem Quad.second {w w' : World} {B : Nat} {F G F' G' : Nat → Prop} {p r s p' r' s' N : Nat} {S S' : DS} (h : Quad w B F G F' G' p r s p' r' s' S S') (ho : StepOut w w' B p' r' s' N (fun k => F' k ∨ G' k)) :
    ∃ F1 G1 S1, Quad w' B F G F1 G1 p r s p' r' s' S S1 ∧ S1.puts.length ≤ N ∧ Below B w w' := by
  obtain ⟨F1, G1, S1, hq, hn, hb⟩ := h.swap.first ho
  exact ⟨F1, G1, S1, hq.swap, hn, hb⟩

theorem OpOk.nil (w : World) (B : Nat) : OpOk w B 0 none 0 none 0 [] [] :=
  ⟨by omega, ⟨rfl, fun _ => rfl, fun x hx => by cases hx⟩, (fun x hx => by cases hx), by omega, ⟨rfl, fun _ => rfl, (fun x hx => by cases hx), fun q hq => by cases hq⟩, (fun x hx => by cases hx), by omega⟩

def QAll (w w0 : World) (N p r s p' r' s' : Nat) : Prop := ∃ F G F' G' S S', Quad w w0.heap.size F G F' G' p r s p' r' s' S S' ∧ S.puts.length ≤ N ∧ S'.puts.length ≤ N ∧ Below w0.heap.size w0 w

theorem QAll.first {w w0 : World} {N p r s p' r' s' : Nat} (h : QAll w w0 N p r s p' r' s') (hN : N + 1 ≤ 4000000000000) (kind x : Int) (a : Option Addr) (n c : Nat) (pa : Option Addr) (pn pc : Nat) (l : List Int) (pl : List P3) (ho : OpOk w w0.heap.size x a n pa pn l pl) :
    Calls Try.prog 24 #[.pointer (some ⟨p, 0, none⟩), .pointer (some ⟨r, 0, none⟩), opV kind x a n c pa pn pc] w fun e w' => e = .returned (.bool true) ∧ QAll w' w0 (N + 1) p r s p' r' s' := by
  obtain ⟨F, G, F', G', S, S', hq, h1, h2, hb⟩ := h
  refine (step_any hq.one (by omega) kind x a n c pa pn pc l pl ho).mono ?_
  rintro e w' ⟨rfl, hs⟩
  obtain ⟨F1, G1, S1, hq1, hn, hb1⟩ := hq.first hs
  exact ⟨rfl, F1, G1, F', G', S1, S', hq1, by omega, by omega, hb.trans hb1⟩
theorem QAll.second {w w0 : World} {N p r s p' r' s' : Nat} (h : QAll w w0 N p r s p' r' s') (hN : N + 1 ≤ 4000000000000) (kind x : Int) (a : Option Addr) (n c : Nat) (pa : Option Addr) (pn pc : Nat) (l : List Int) (pl : List P3) (ho : OpOk w w0.heap.size x a n pa pn l pl) :
    Calls Try.prog 24 #[.pointer (some ⟨p', 0, none⟩), .pointer (some ⟨r', 0, none⟩), opV kind x a n c pa pn pc] w fun e w' => e = .returned (.bool true) ∧ QAll w' w0 (N + 1) p r s p' r' s' := by
  obtain ⟨F, G, F', G', S, S', hq, h1, h2, hb⟩ := h
  refine (step_any hq.two (by omega) kind x a n c pa pn pc l pl ho).mono ?_
  rintro e w' ⟨rfl, hs⟩
  obtain ⟨F1, G1, S1, hq1, hn, hb1⟩ := hq.second hs
  exact ⟨rfl, F, G, F1, G1, S, S1, hq1, by omega, by omega, hb.trans hb1⟩
theorem QAll.below {w w0 : World} {N p r s p' r' s' : Nat} (h : QAll w w0 N p r s p' r' s') : Below w0.heap.size w0 w := by obtain ⟨F, G, F', G', S, S', hq, h1, h2, hb⟩ := h; exact hb

set_option maxHeartbeats 2000000 in
theorem diskApart_any (left right : Int) (a : Option Addr) (n c : Nat) (l : List Int) (sa : Option Addr) (sn sc : Nat) (ta : Option Addr) (tn tc : Nat) (w : World) (hs : Src w a n l) (hn : n ≤ 140737488355328) (hcap : n ≤ c) (hsc : Script w w.heap.size sa sn) (hsn : 64 * sn ≤ 140737488355328) (hts : TSrc w w.heap.size ta tn) (htn : tn ≤ 140737488355328) :
    Calls Try.prog 5 #[.int .i64 left, .int .i64 right, .slice a n c, .slice sa sn sc, .slice ta tn tc] w fun e w' => e = .returned (.bool true) ∧ Below w.heap.size w w' := by
  have hbg := begin_any left a n c l w w.heap.size (Nat.le_refl _) hs hn hcap
  have HS := Hid.mk hsc
  have HT := Hid.mk hts
  clear hs hsc hts
  go_enter Try.func5, Try.ntmps5
  go_wp2_with fail
  refine hbg.mono ?_
  rintro e w1 ⟨d, r, rfl, hb1, hd⟩
  clear hbg
  have hbg := begin_any right none 0 0 [] w1 w.heap.size hb1.size ⟨rfl, fun _ => rfl, fun x hx => by cases hx⟩ (by omega) (by omega)
  have Hd := Hid.mk hd
  clear hd
  go_wp2_with fail
  refine hbg.mono ?_
  rintro e w2 ⟨d2, r2, rfl, hb2, hd2⟩
  have hbw : Below w.heap.size w w2 := hb1.trans (hb2.mono hb1.size)
  clear hbg
  rcases Hd.out with ⟨rfl, rfl⟩ | ⟨F, G, p, q, s, S, rfl, rfl, ht, hz, hF, hG⟩
  · clear Hd hd2
    go_wp2
    go_ret
    exact ⟨rfl, hbw⟩
  · rcases hd2 with ⟨rfl, rfl⟩ | ⟨F', G', p', q', s', S', rfl, rfl, ht', hz', hF', hG'⟩
    · clear Hd ht hF hG hz
      go_wp2
      go_ret
      exact ⟨rfl, hbw⟩
    · have H0 : Hid (QAll w2 w 0 p q s p' q' s') := ⟨F, G, F', G', S, S', ⟨ht.later hb2, ht', fun k h1 h2 => by
        have := ht.lt k h1
        rcases h2 with h3 | h3
        · have := hF' k h3; omega
        · have := hG' k h3; omega⟩, by omega, by omega, hbw⟩
      clear Hd ht hF hG hz ht' hF' hG' hz' hbw hb1 hb2
      go_wp2
      go_loopw [17, 18, 19] (fun i _ _ wr => ∃ j : Nat, j ≤ sn ∧ i = .int .i64 (j : Int) ∧ QAll wr w j p q s p' q' s') (fun i _ _ _ => sn - (intOf i).toNat)
      case atStart => exact ⟨0, Nat.zero_le _, rfl, H0.out⟩
      case round =>
        clear H0
        obtain ⟨j, hj, rfl, hq⟩ := hrel
        by_cases hlt : j < sn
        · have hlt' : (j : Int) < (sn : Int) := by omega
          obtain ⟨y, rfl⟩ : ∃ y, sa = some y := by
            cases sa with
            | none => have := HS.out.1 rfl; omega
            | some y => exact ⟨y, rfl⟩
          obtain ⟨b, o, rfl, hbB, kind, x, a', m, c', pa, pn, pc, l', pl, c0, c1, c2, c3, ho⟩ := (HS.out.far hq.below).2 y rfl j hlt
          have hst1 := hq.first (by omega) kind x a' m c' pa pn pc l' pl ho
          have hst2 := hq.second (by omega) kind x a' m c' pa pn pc l' pl ho
          by_cases ht0 : tn = 0
          · subst ht0
            clear hq ho HS HT hst2
            go_wp2_with fail
            refine hst1.mono ?_
            rintro e w3 ⟨rfl, hq3⟩
            have Hz := Hid.mk hq3
            clear hst1 hq3 c0 c1 c2 c3
            go_wp2
            go_roundw
            case rel => exact ⟨j + 1, by omega, by go_num, Hz.out⟩
            case measure => simp [intOf]; omega
          · obtain ⟨z, rfl⟩ : ∃ z, ta = some z := by
              cases ta with
              | none => exact absurd (HT.out.1 rfl) ht0
              | some z => exact ⟨z, rfl⟩
            obtain ⟨i, hi⟩ : ∃ i : Nat, i = j % tn := ⟨_, rfl⟩
            have hitn : i < tn := by rw [hi]; exact Nat.mod_lt _ (by omega)
            obtain ⟨b2, o2, rfl, hb2B, t, c4⟩ := (HT.out.far hq.below).2 z rfl i hitn
            have ht1 : (0 : Int) < (tn : Int) := by omega
            have hmo : (j : Int) % (tn : Int) = (i : Int) := by rw [hi]; push_cast; rfl
            have hit' : (i : Int) < (tn : Int) := by omega
            clear hq ho HS HT hi
            by_cases hodd : (t.tmod 2 != 0) = true
            · clear hst1
              go_wp2_with fail
              refine hst2.mono ?_
              rintro e w3 ⟨rfl, hq3⟩
              have Hz := Hid.mk hq3
              clear hst2 hq3 c0 c1 c2 c3 c4 hmo ht1 hit' hitn
              go_wp2
              go_roundw
              case rel => exact ⟨j + 1, by omega, by go_num, Hz.out⟩
              case measure => simp [intOf]; omega
            · have hodd' : (t.tmod 2 != 0) = false := by simpa using hodd
              clear hodd
              clear hst2
              go_wp2_with fail
              refine hst1.mono ?_
              rintro e w3 ⟨rfl, hq3⟩
              have Hz := Hid.mk hq3
              clear hst1 hq3 c0 c1 c2 c3 c4 hmo ht1 hit' hitn
              go_wp2
              go_roundw
              case rel => exact ⟨j + 1, by omega, by go_num, Hz.out⟩
              case measure => simp [intOf]; omega
        · have hlt' : ¬ (j : Int) < (sn : Int) := by omega
          have hst1 := hq.first (by omega) 9 0 none 0 0 none 0 0 [] [] (OpOk.nil _ _)
          clear hq HS HT
          go_wp2_with fail
          refine hst1.mono ?_
          rintro e w3 ⟨rfl, hq3⟩
          have hst2 := hq3.second (by omega) 9 0 none 0 0 none 0 0 [] [] (OpOk.nil _ _)
          clear hst1 hq3
          go_wp2_with fail
          refine hst2.mono ?_
          rintro e w4 ⟨rfl, hq4⟩
          have hst3 := hq4.first (by omega) 10 0 none 0 0 none 0 0 [] [] (OpOk.nil _ _)
          clear hst2 hq4
          go_wp2_with fail
          refine hst3.mono ?_
          rintro e w5 ⟨rfl, hq5⟩
          have hst4 := hq5.second (by omega) 10 0 none 0 0 none 0 0 [] [] (OpOk.nil _ _)
          clear hst3 hq5
          go_wp2_with fail
          refine hst4.mono ?_
          rintro e w6 ⟨rfl, hq6⟩
          have hfin := hq6.below
          clear hst4 hq6
          go_wp2
          go_ret
          exact ⟨rfl, hfin⟩
end Go.Proofs.Ytcofkdaakkfcfab
