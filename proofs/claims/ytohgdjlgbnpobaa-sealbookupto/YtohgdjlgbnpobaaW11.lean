import Derived.Test.YtohgdjlgbnpobaaW10
import Derived.Deep.DeepCutAuto
import Derived.Deep.LoopGhost
section
namespace Go.Proofs.Ytohgdjlgbnpobaa
open Go.RowKit Go.Maps

theorem Ans.later {w w' w'' : World} {got want : Value} {l : List Int} (h : Ans w w' got want l) (hb : Below w'.heap.size w' w'') : Ans w w'' got want l := by
  obtain ⟨wm, h1, h2, h3, h4⟩ := h
  exact ⟨wm, h1, h2, h3.trans (hb.mono h3.size), h4.later hb⟩
theorem Ans.first {w0 w w' : World} {got want : Value} {l : List Int} (h : Ans w w' got want l) (hb : Below w0.heap.size w0 w) : Ans w0 w' got want l := by
  obtain ⟨wm, h1, h2, h3, h4⟩ := h
  exact ⟨wm, hb.trans (h1.mono hb.size), h2.down hb.size, h3, h4⟩
theorem Ans.below {w w' : World} {got want : Value} {l : List Int} (h : Ans w w' got want l) : Below w.heap.size w w' := by
  obtain ⟨wm, h1, h2, h3, h4⟩ := h
  exact h1.trans (h3.mono h1.size)
theorem Ans.srcs {w w' : World} {got want : Value} {l : List Int} (h : Ans w w' got want l) : ∃ a b d, got = .slice a l.length l.length ∧ want = .slice b l.length d ∧ Src w' a l.length l ∧ Src w' b l.length l := by
  obtain ⟨wm, _, ⟨a, c, rfl, h2, rfl, _⟩, h3, h4⟩ := h
  obtain ⟨b, d, rfl, h5, _⟩ := h4.src
  exact ⟨a, b, d, rfl, rfl, h2.later h3, h5⟩
theorem sanchor_bytes {s : List Int} (h : Bytes s) : Bytes (sanchor s).2 := by
  unfold sanchor
  cases hs : sopen s with
  | none => exact .nil
  | some b =>
    simp only
    split
    · obtain ⟨_, _, _, rfl⟩ := sopen_some hs
      exact ((h.drop 7).take _).drop 8
    · exact .nil
theorem splay_len (K N : Int) (a b : List Int) (ha : Bytes a) (hb : Bytes b) : (splay K N a b).length ≤ 512 ∧ Bytes (splay K N a b) := by
  unfold splay
  split
  · unfold sseal
    split
    · exact ⟨by simp, .nil⟩
    · split
      · exact ⟨by simp, .nil⟩
      · exact ⟨Nat.le_of_eq (sform_len (by omega)), sform_bytes hb (by omega) (by have := turnOf_le (a.getD 0 0) (a.getD 511 0); omega)⟩
  · split
    · refine ⟨sopens_len a, ?_⟩
      unfold sopens
      split
      · exact .nil
      · cases hs : sopen a with
        | none => exact .nil
        | some c =>
          obtain ⟨_, _, _, rfl⟩ := sopen_some hs
          exact (ha.drop 7).take _
    · split
      · unfold ssplice
        split
        · exact ⟨by simp, .nil⟩
        · split
          · exact ⟨by simp, .nil⟩
          · exact ⟨by simp only [smix, List.length_append, List.length_take, List.length_drop]; omega, smix_bytes ha hb _⟩
      · split
        · refine ⟨snewest_len a b, ?_⟩
          unfold snewest
          split
          · exact .nil
          · split
            · exact .nil
            · split
              · exact sanchor_bytes hb
              · exact sanchor_bytes ha
        · have h8 : Bytes (bytes8 N.toNat ++ b.take 40) := (bytes8_bytes _).append (hb.take _)
          unfold srenew
          split
          · exact ⟨by simp, .nil⟩
          · split
            · exact ⟨by simp, .nil⟩
            · split
              · exact ⟨by simp, .nil⟩
              · have hl8 : (bytes8 N.toNat ++ b.take 40).length ≤ 504 := by rw [List.length_append, bytes8_len]; omega
                simp only
                split
                · exact ⟨by simp, .nil⟩
                · split
                  · exact ⟨Nat.le_of_eq (sform_len hl8), sform_bytes h8 hl8 (by have := turnOf_le (b.getD 0 0) (b.getD 511 0); omega)⟩
                  · exact ⟨Nat.le_of_eq (sform_len hl8), sform_bytes h8 hl8 (by have := turnOf_le (a.getD 0 0) (a.getD 511 0); omega)⟩

set_option maxRecDepth 20000 in
set_option maxHeartbeats 8000000 in
/-- One call with lists of its own: the program's answer is the document's; what was handed in is as it was. -/
theorem answered_any (K N Z : Int) (vA vB : Value) (a0 : Option Addr) (n c0 : Nat) (l : List Int) (b0 : Option Addr) (m c1 : Nat) (r : List Int) (w : World) (hs : Src w a0 n l) (hs2 : Src w b0 m r) (hl : Bytes l) (hr : Bytes r) (hn : n ≤ 1000000000) (hm : m ≤ 1000000000) (hhi : N ≤ 9223372036854775807) :
    Calls Try.prog 8 #[.agg #[.int .i64 K, .int .i64 N, .int .i64 Z, vA, vB], .slice a0 n c0, .slice b0 m c1] w fun e w' => ∃ got want, e = .returned (.tuple #[got, want, .bool true]) ∧ Ans w w' got want (splay K N l r) := by
  obtain ⟨w0, hw0⟩ : ∃ w0, w0 = w.alloc (.cells #[.int .i64 K, .int .i64 N, .int .i64 Z, vA, vB] 31) := ⟨_, rfl⟩
  have hb0 : Below w.heap.size w w0 := by rw [hw0]; exact (Below.refl _ w).alloc (Nat.le_refl _) _
  have kb : w0.heap[w.heap.size]? = some (.cells #[.int .i64 K, .int .i64 N, .int .i64 Z, vA, vB] 31 (0, 0)) := by rw [hw0]; exact heap_alloc_new _ _
  have ht := ltwin_any a0 n c0 l w0 (by omega) (hs.later hb0)
  have hln := hs.1
  have hrn := hs2.1
  have hsl := (splay_len K N l r hl hr).1
  have H := Hid.mk (And.intro hs (And.intro hs2 (And.intro hb0 (And.intro kb (And.intro hln hrn)))))
  clear hs hs2 hb0 kb hln hrn
  go_enter Try.func8, Try.ntmps8
  go_wp2_with fail
  rw [← hw0]
  clear hw0
  refine ht.mono ?_
  rintro e w1 ⟨vx, rfl, hx, hb1⟩
  obtain ⟨hs, hs2, hb0, kb, hln, hrn⟩ := H.out
  have hB1 : Below w.heap.size w w1 := hb0.trans (hb1.mono hb0.size)
  have ht2 := ltwin_any b0 m c1 r w1 (by omega) (hs2.later hB1)
  have H1 := Hid.mk (And.intro hB1 (And.intro hx ((hb1.block _ (Array.getElem?_eq_some_iff.1 kb).1).trans kb)))
  clear ht hx hb1 hs hs2 hb0 kb hln hrn hB1
  go_wp2_with fail
  refine ht2.mono ?_
  rintro e w2 ⟨vy, rfl, hy, hb2⟩
  obtain ⟨hB1, hx, kb⟩ := H1.out
  obtain ⟨hs, hs2, _, _, hln, hrn⟩ := H.out
  have hB2 : Below w.heap.size w w2 := hB1.trans (hb2.mono hB1.size)
  have kb2 := (hb2.block _ (Array.getElem?_eq_some_iff.1 kb).1).trans kb
  have hx2 := hx.later hb2
  obtain ⟨xa, xc, hvx, sx, _, _⟩ := hx2.src
  obtain ⟨ya, yc, hvy, sy, _, _⟩ := hy.src
  rw [hln] at hvx sx
  rw [hrn] at hvy sy
  subst hvx
  subst hvy
  have q0 : w2.cell? ⟨w.heap.size, 0, none⟩ = some (.int .i64 K) := cell_of_block kb2 rfl
  have q1 : w2.cell? ⟨w.heap.size, 1, none⟩ = some (.int .i64 N) := cell_of_block kb2 rfl
  have q2 : w2.cell? ⟨w.heap.size, 2, none⟩ = some (.int .i64 Z) := cell_of_block kb2 rfl
  have q3 : w2.cell? ⟨w.heap.size, 3, none⟩ = some vA := cell_of_block kb2 rfl
  have q4 : w2.cell? ⟨w.heap.size, 4, none⟩ = some vB := cell_of_block kb2 rfl
  have hp := plays_any K N Z vA vB a0 n c0 l b0 m c1 r w2 (hs.later hB2) (hs2.later hB2) hl hr hn hm hhi
  have H2 := Hid.mk (And.intro (hs.later hB2) (And.intro (hs2.later hB2) (And.intro sx (And.intro sy hB2))))
  clear ht2 hB1 hx kb hs hs2 hln hrn hB2 kb2 hx2 hy hb2 sx sy H H1
  go_wp2_with fail
  refine hp.mono ?_
  rintro e w3 ⟨got, want, rfl, hA⟩
  obtain ⟨s1, s2, sx, sy, hB2⟩ := H2.out
  obtain ⟨P, hP⟩ : ∃ P, P = splay K N l r := ⟨_, rfl⟩
  rw [← hP] at hA hsl
  have HP := Hid.mk hP
  clear hP
  obtain ⟨ga, gb, gd, hg, hw, sg, sw⟩ := hA.srcs
  subst hg
  subst hw
  have hb3 := hA.below
  have h1 := lsame_yes ga gb P.length P.length gd P w3 (by omega) sg sw
  have H3 := Hid.mk (And.intro hA hb3)
  clear s1 s2 sx sy hB2 hA sg sw hb3 hp q0 q1 q2 q3 q4
  go_wp2_with fail
  refine h1.mono ?_
  rintro e w4 ⟨rfl, hb4⟩
  obtain ⟨s1, s2, sx, sy, hB2⟩ := H2.out
  obtain ⟨hA, hb3⟩ := H3.out
  have hb24 := hb3.trans (hb4.mono hb3.size)
  have h2 := lsame_yes a0 xa n c0 xc l w4 (by omega) (s1.later hb24) (sx.later hb24)
  have H4 := Hid.mk (And.intro (hA.later hb4) hb24)
  clear s1 s2 sx sy hB2 hA hb3 hb4 hb24 h1 H3
  go_wp2_with fail
  refine h2.mono ?_
  rintro e w5 ⟨rfl, hb5⟩
  obtain ⟨s1, s2, sx, sy, hB2⟩ := H2.out
  obtain ⟨hA, hb3⟩ := H4.out
  have hb25 := hb3.trans (hb5.mono hb3.size)
  have h3 := lsame_yes b0 ya m c1 yc r w5 (by omega) (s2.later hb25) (sy.later hb25)
  have H5 := Hid.mk (And.intro (hA.later hb5) hB2)
  clear s1 s2 sx sy hB2 hA hb3 hb5 hb25 h2 H4
  go_wp2_with fail
  refine h3.mono ?_
  rintro e w6 ⟨rfl, hb6⟩
  have HF := Hid.mk ((H5.out.1.later hb6).first H5.out.2)
  clear h3 hb6 H5
  go_wp2
  go_ret3
  exact ⟨.slice ga P.length P.length, .slice gb P.length gd, rfl, by rw [← HP.out]; exact HF.out⟩
end Go.Proofs.Ytohgdjlgbnpobaa
end

section
namespace Go.Proofs.Ytohgdjlgbnpobaa
open Go.RowKit Go.Maps

theorem cp_fill {l z : List Int} {t : Nat} (h : z.length = l.length) (ht : t < l.length) : (l.take t ++ z.drop t).set t (l.getD t 0) = l.take (t + 1) ++ z.drop (t + 1) := by
  rw [List.set_append_right _ _ (by rw [List.length_take]; omega), List.length_take, Nat.min_eq_left (by omega), Nat.sub_self, List.drop_eq_getElem_cons (by omega), List.set_cons_zero, ← take_snoc l t ht, List.append_assoc]
  rfl
/-- A copy with room behind it, or none. -/
def Roomy (w w' : World) (g c n : Nat) (l ex : List Int) : Prop := w.heap.size ≤ g ∧ RowAt w' 5 g c (bs (l ++ ex)) ∧ Below w.heap.size w w' ∧ ex.length ≤ 8 ∧ l.length = n ∧ Bytes ex

theorem Roomy.later {w w' w'' : World} {g c n : Nat} {l ex : List Int} (h : Roomy w w' g c n l ex) (hb : Below w'.heap.size w' w'') : Roomy w w'' g c n l ex :=
  ⟨h.1, h.2.1.agree (hb.block g h.2.1.lt), h.2.2.1.trans (hb.mono h.2.2.1.size), h.2.2.2⟩
set_option maxRecDepth 20000 in
set_option maxHeartbeats 4000000 in
theorem roomy_tight (a : Option Addr) (n c : Nat) (mark : Int) (l : List Int) (w : World) (hn : n ≤ 1000000000) (hs : Src w a n l) :
    Calls Try.prog 6 #[.slice a n c, .int .u8 mark, .bool true] w fun e w' => ∃ g c' ex, e = .returned (.tuple #[.slice (some ⟨g, 0, none⟩) (n + ex.length) c', .slice (some ⟨g, 0, none⟩) n c']) ∧ Roomy w w' g c' n l ex := by
  obtain ⟨i0, hi, hz0, hz1, hz2⟩ := info_parts infoU8
  have H := Hid.mk hs
  have hln := hs.1
  clear hs
  go_enter Try.func6, Try.ntmps6
  go_wp2_with (at_make; refine wpList_make_full _ rfl _ _ 25 rfl w.heap.size 5 i0 (.int .u8 0) 1 Try.underlying25 hi hz0 hz1 _ _ _ _ n rfl rfl ?c1 ?c2 ?c3 ?c4 ?c5 ?_)
  case c1 => rfl
  case c2 => rfl
  case c3 => rw [hz2]; omega
  case c4 => unfold maxLen; omega
  case c5 => exact Nat.le_refl _
  intro w1 hown hgrow
  have hr : RowAt w1 5 w.heap.size n (bs (List.replicate n 0)) := made_row hown
  have hb : Below w.heap.size w w1 := (Below.refl _ w).grown hgrow (Nat.le_refl _) (by intro k hk; cases hk)
  have G := Gro.keeps (lab := fun _ => 0) (fun _ _ => rfl) (Keeps.of_below (fun _ => False) hb) 1 (fun _ _ h => h.elim)
  generalize hL : relab (fun _ => 0) w.heap.size w1.heap.size 1 = L at G
  have hO : OR w1 L 1 5 (.slice (some ⟨w.heap.size, 0, none⟩) n n) n (bs (List.replicate n 0)) := by
    have ho := hr.owns
    have e : (bs (List.replicate n 0)).length = n := by simp
    rw [e] at ho
    refine ⟨ho, fun k hk => ?_⟩
    have e2 : k = w.heap.size := by simpa [Value.ownBlock] using hk.symm
    rw [e2, ← hL]
    exact relab_new (Nat.le_refl _) hr.lt
  have H1 := Hid.mk (And.intro hO G)
  clear hown hgrow hr hb G hO hL hi hz0 hz1 hz2
  go_wp2
  go_loopw [9] (fun i wr => ∃ t : Nat, t ≤ n ∧ i = .int .i64 (t : Int) ∧ OR wr L 1 5 (.slice (some ⟨w.heap.size, 0, none⟩) n n) n (bs (l.take t ++ (List.replicate n 0).drop t)) ∧ Gro (fun _ => 0) L w wr (fun y => y = 1)) (fun i _ => n - (intOf i).toNat)
  case atStart => exact ⟨0, Nat.zero_le _, rfl, by simpa using H1.out⟩
  case round =>
    clear H1
    obtain ⟨t, ht, rfl, hO, hG⟩ := hrel
    have hB : Below w.heap.size w wr := hG.belowB (Nat.le_refl _) (fun k hk => absurd rfl hk) (fun h => by cases h)
    by_cases hlt : t < n
    · obtain ⟨x, rfl⟩ : ∃ x, a = some x := by
        cases a with
        | none => have := H.out.2.1 rfl; omega
        | some x => exact ⟨x, rfl⟩
      obtain ⟨b, o, rfl, hc⟩ := (H.out.later hB).spot (by omega)
      have c0 := hc t hlt
      obtain ⟨g, cc, e1, c1, f1, _, G1, O1⟩ := hO.put hG.lz hlt (l.getD t 0)
      rw [cp_fill (by simp [hln]) (by omega)] at O1
      have eg : w.heap.size = g := by injection e1 with q1; injection q1 with q2; injection q2
      subst eg
      have HR := Hid.mk (And.intro O1 (hG.trans G1))
      have hlt' : (t : Int) < (n : Int) := by omega
      have ht0 : (0 : Int) ≤ (t : Int) := by omega
      clear hO hG hB hc e1 G1 O1
      generalize l.getD t 0 = x at *
      generalize (l.take t ++ (List.replicate n 0).drop t).getD t 0 = x2 at *
      go_wp2
      go_roundw
      case rel => exact ⟨t + 1, by omega, by go_num, HR.out⟩
      case measure => simp [intOf]; omega
    · obtain rfl : t = n := by omega
      have hlt' : ¬ (t : Int) < (t : Int) := by omega
      rw [List.take_of_length_le (by omega), List.drop_of_length_le (by simp), List.append_nil] at hO
      have hfin : Roomy w wr w.heap.size t t l [] := by
        obtain ⟨_, ⟨h0, _⟩ | ⟨g, cap, cur, e1, _, hbk, hnc, hmc, hcs, htk⟩⟩ := hO.1
        · cases h0
        · injection e1 with q1 q2 q3
          injection q1 with q4
          injection q4 with q5
          subst q5
          subst q3
          rw [Nat.mul_one] at htk hcs
          refine ⟨Nat.le_refl _, ⟨cur, hbk, hcs, ?_, hmc⟩, hB, Nat.zero_le _, hln, fun x hx => by cases hx⟩
          rw [List.append_nil, show (bs l).length = t by simp [hln]]
          exact htk
      have HR := Hid.mk hfin
      clear hO hG hB hfin
      go_wp2
      go_ret2
      exact ⟨w.heap.size, t, [], rfl, HR.out⟩

set_option maxRecDepth 20000 in
set_option maxHeartbeats 4000000 in
theorem roomy_wide (a : Option Addr) (n c : Nat) (mark : Int) (hmk : 0 ≤ mark ∧ mark < 256) (l : List Int) (w : World) (hn : n ≤ 1000000000) (hs : Src w a n l) :
    Calls Try.prog 6 #[.slice a n c, .int .u8 mark, .bool false] w fun e w' => ∃ g c' ex, e = .returned (.tuple #[.slice (some ⟨g, 0, none⟩) (n + ex.length) c', .slice (some ⟨g, 0, none⟩) n c']) ∧ Roomy w w' g c' n l ex := by
  obtain ⟨i0, hI, hz0, hz1, hz2⟩ := info_parts infoU8
  have hln := hs.1
  have ht := ltwin_any a n c l w (by omega) hs
  clear hs
  go_enter Try.func6, Try.ntmps6
  go_wp2_with fail
  refine ht.mono ?_
  rintro e w1 ⟨tv, rfl, hO, hb1⟩
  have H1 := Hid.mk (And.intro hO hb1)
  clear hO hb1 ht
  go_wp2
  go_loopw [10, 11] (fun b i wr => ∃ t : Nat, t ≤ 8 ∧ i = .int .i64 (t : Int) ∧ wr.ownsRow w.heap.size 5 1 b (n + t) (bs (l ++ List.replicate t mark)) ∧ Below w.heap.size w wr) (fun _ i _ => 8 - (intOf i).toNat)
  case atStart => exact ⟨0, Nat.zero_le _, rfl, by have := H1.out.1; unfold Own at this; rw [hln] at this; simpa using this, H1.out.2⟩
  case round =>
    clear H1
    obtain ⟨t, ht, rfl, hrow, hb⟩ := hrel
    obtain ⟨ba, bc, rfl⟩ := rowForm hrow
    by_cases hlt : t < 8
    · have hlt' : (t : Int) < 8 := by omega
      have hrow2 : (wr.alloc (.cells #[.int .u8 mark] 5)).ownsRow w.heap.size 5 1 (.slice ba (n + t) bc) (n + t) (bs (l ++ List.replicate t mark)) := rowAgree hrow (fun g hg => Below.heap_alloc _ _ _ (rowLt hrow hg))
      obtain ⟨g, cap, w', hr, hw, hg, hat, _⟩ := run_append_lies (P := Try.prog) (wr.alloc (.cells #[.int .u8 mark] 5)) 25 25 w.heap.size 5 i0 (.int .u8 0) 1 1 Try.underlying25 hI hz0 hz1 hz2 rfl (by decide) _ (n + t) _ hrow2 ⟨wr.heap.size, 0, none⟩ 1 1 [.int .u8 mark] rfl (World.news_of_block (cs := #[.int .u8 mark]) (t := 5) (fr := (0, 0)) (heap_alloc_new wr _)) (by simp [Value.oneCell']) (by omega) (by unfold maxLen; omega) (by omega) (by have := hb.size; simp; omega) _ rfl
      have hb2 : Below w.heap.size w w' := (hb.alloc hb.size _).grown hg (by have := hb.size; simp; omega) (fun k hk => rowLow hrow2 hk)
      have hw2 : w'.ownsRow w.heap.size 5 1 (.slice (some ⟨g, 0, none⟩) (n + t + 1) cap) (n + (t + 1)) (bs (l ++ List.replicate (t + 1) mark)) := by
        have e : bs (l ++ List.replicate (t + 1) mark) = bs (l ++ List.replicate t mark) ++ [.int .u8 mark] := by rw [List.replicate_succ', ← List.append_assoc]; simp only [bs, List.map_append, List.map_cons, List.map_nil]
        rw [e]
        exact hw
      have HR := Hid.mk (And.intro hw2 hb2)
      have HA := Hid.mk hr
      clear hrow hb hrow2 hr hw hg hat hb2 hw2 hI hz0 hz1 hz2
      generalize n + t = q at *
      go_wp2_with (at_builtin; refine swList_append_run rfl _ _ 25 rfl (.slice ba q bc) (.slice (some ⟨wr.heap.size, 0, none⟩) 1 1) _ rfl rfl HA.out ?_)
      go_roundw
      case rel => exact ⟨t + 1, by omega, by go_num, by simpa only [bs, List.map_append, List.map_replicate] using HR.out⟩
      case measure => simp [intOf]; omega
    · obtain rfl : t = 8 := by omega
      have hlt' : ¬ (8 : Int) < 8 := by omega
      have hrow' : wr.ownsRow w.heap.size 5 1 (.slice ba (n + 8) bc) (n + 8) (bs (l ++ List.replicate 8 mark)) := by simpa only [bs, List.map_append, List.map_replicate] using hrow
      obtain ⟨_, ⟨h0, h00⟩ | ⟨g, cap, cur, e1, hg, hbk, hnc, hmc, hcs, htk⟩⟩ := hrow'
      · omega
      · injection e1 with q1 q2 q3
        subst q1
        subst q3
        rw [Nat.mul_one] at htk hcs
        have hfin : Roomy w wr g bc n l (List.replicate 8 mark) := by
          refine ⟨hg, ⟨cur, hbk, hcs, ?_, hmc⟩, hb, by simp, hln, fun x hx => by rw [List.eq_of_mem_replicate hx]; exact hmk⟩
          rw [show (bs (l ++ List.replicate 8 mark)).length = n + 8 by simp [hln]]
          exact htk
        have HR := Hid.mk hfin
        have hcm : bc ≤ 9223372036854775807 := by unfold maxLen at hmc; omega
        have hn1 : n ≤ n + 8 := by omega
        have hn3 : (n : Int) ≤ (bc : Int) := by omega
        have hn4 : n ≤ bc := by omega
        clear hbk hmc hcs htk hfin hb hg hrow
        generalize hq : n + 8 = q at *
        have HQ := Hid.mk hq
        clear hq
        have hqb : q ≤ bc := by omega
        have hnq : (n : Int) ≤ (q : Int) := by omega
        go_wp2
        refine wp_region_held_drew (S := (fun _ => True)) (by kernel_rfl) (trivial) (fun hHeld => ?_)
        refine wpAnyH_take (i := 0) (oi := { dst := some 41, op := Op.move (Operand.tmp 10), type := 25, pos := "book.go:35", after := #[], guard := none }) (v := .slice (some ⟨g, 0, none⟩) q bc) rfl (by kernel_rfl) (by kernel_rfl) (by kernel_rfl) (fun _ _ _ h => h) (Or.inl ⟨by rfl, ?_⟩) (by assumption) ?_
        · intro w hSw
          (try dsimp only at hSw)
          go_simp
        try simp only [Act.put, List.setIfInBounds_toArray, List.set_cons_zero, List.set_cons_succ]
        refine wpAnyH_take (i := 1) (oi := { dst := some 42, op := Op.move (Operand.tmp 10), type := 25, pos := "book.go:35", after := #[], guard := none }) (v := .slice (some ⟨g, 0, none⟩) q bc) rfl (by kernel_rfl) (by kernel_rfl) (by kernel_rfl) (fun _ _ _ h => h) (Or.inl ⟨by rfl, ?_⟩) (by assumption) ?_
        · intro w hSw
          (try dsimp only at hSw)
          go_simp
        try simp only [Act.put, List.setIfInBounds_toArray, List.set_cons_zero, List.set_cons_succ]
        refine wpAnyH_take (i := 2) (oi := { dst := some 43, op := Op.move (Operand.tmp 0), type := 25, pos := "book.go:35", after := #[], guard := none }) (v := .slice a n c) rfl (by kernel_rfl) (by kernel_rfl) (by kernel_rfl) (fun _ _ _ h => h) (Or.inl ⟨by rfl, ?_⟩) (by assumption) ?_
        · intro w hSw
          (try dsimp only at hSw)
          go_simp
        try simp only [Act.put, List.setIfInBounds_toArray, List.set_cons_zero, List.set_cons_succ]
        refine wpAnyH_take (i := 3) (oi := { dst := some 44, op := Op.call { callee := Callee.builtin Builtin.len, args := #[Operand.tmp 43], argTypes := #[25] }, type := 3, pos := "book.go:35", after := #[{ on := 2, ground := Ground.data }], guard := none }) (v := .int .i64 (n : Int)) rfl (by kernel_rfl) (by kernel_rfl) (by kernel_rfl) (fun _ _ _ h => h) (Or.inl ⟨by rfl, ?_⟩) (by assumption) ?_
        · intro w hSw
          (try dsimp only at hSw)
          go_simp
        try simp only [Act.put, List.setIfInBounds_toArray, List.set_cons_zero, List.set_cons_succ]
        refine wpAnyH_take (i := 4) (oi := { dst := some 45, op := Op.slice 25 (Operand.tmp 42) none (some (Operand.tmp 44)) none, type := 25, pos := "book.go:35", after := #[{ on := 1, ground := Ground.data }, { on := 3, ground := Ground.data }], guard := none }) (v := .slice (some ⟨g, 0, none⟩) n bc) rfl (by kernel_rfl) (by kernel_rfl) (by kernel_rfl) (fun _ _ _ h => h) (Or.inl ⟨by rfl, ?_⟩) (by assumption) ?_
        · intro w hSw
          (try dsimp only at hSw)
          go_simp
        try simp only [Act.put, List.setIfInBounds_toArray, List.set_cons_zero, List.set_cons_succ]
        refine wpAnyH_take (i := 5) (oi := { dst := some 6, op := Op.assign (Operand.tmp 41), type := 25, pos := "book.go:35", after := #[{ on := 0, ground := Ground.data }, { on := 0, ground := Ground.phase }, { on := 1, ground := Ground.textOnly Departure.lateStores }, { on := 2, ground := Ground.textOnly Departure.lateStores }, { on := 3, ground := Ground.textOnly Departure.lateStoresUnsure }, { on := 4, ground := Ground.textOnly Departure.lateStoresUnsure }], guard := none }) (v := .slice (some ⟨g, 0, none⟩) q bc) rfl (by kernel_rfl) (by kernel_rfl) (by kernel_rfl) (fun _ _ _ h => h) (Or.inl ⟨by rfl, ?_⟩) (by assumption) ?_
        · intro w hSw
          (try dsimp only at hSw)
          go_simp
        try simp only [Act.put, List.setIfInBounds_toArray, List.set_cons_zero, List.set_cons_succ]
        refine wpAnyH_take (i := 6) (oi := { dst := some 7, op := Op.assign (Operand.tmp 45), type := 25, pos := "book.go:35", after := #[{ on := 4, ground := Ground.data }, { on := 5, ground := Ground.chain }, { on := 0, ground := Ground.phase }, { on := 1, ground := Ground.phase }, { on := 2, ground := Ground.phase }, { on := 3, ground := Ground.phase }, { on := 4, ground := Ground.phase }, { on := 5, ground := Ground.phase }], guard := none }) (v := .slice (some ⟨g, 0, none⟩) n bc) rfl (by kernel_rfl) (by kernel_rfl) (by kernel_rfl) (fun _ _ _ h => h) (Or.inl ⟨by rfl, ?_⟩) (by assumption) ?_
        · intro w hSw
          (try dsimp only at hSw)
          go_simp
        try simp only [Act.put, List.setIfInBounds_toArray, List.set_cons_zero, List.set_cons_succ]
        refine wpAnyH_done (by kernel_rfl) ?_ _
        go_wp2
        go_ret2
        refine ⟨g, bc, List.replicate 8 mark, ?_, ?_⟩
        · rw [List.length_replicate, HQ.out]
          rfl
        · exact HR.out.later ((Keeps.drew (fun _ => False) wr).below (fun _ h => h.elim) (Nat.le_refl _))

theorem roomy_any (a : Option Addr) (n c : Nat) (mark : Int) (hmk : 0 ≤ mark ∧ mark < 256) (tight : Bool) (l : List Int) (w : World) (hn : n ≤ 1000000000) (hs : Src w a n l) :
    Calls Try.prog 6 #[.slice a n c, .int .u8 mark, .bool tight] w fun e w' => ∃ g c' ex, e = .returned (.tuple #[.slice (some ⟨g, 0, none⟩) (n + ex.length) c', .slice (some ⟨g, 0, none⟩) n c']) ∧ Roomy w w' g c' n l ex := by
  cases tight
  · exact roomy_wide a n c mark hmk l w hn hs
  · exact roomy_tight a n c mark l w hn hs
end Go.Proofs.Ytohgdjlgbnpobaa
end

section
namespace Go.Proofs.Ytohgdjlgbnpobaa
open Go.RowKit Go.Maps

section
variable {w w' : World} {lab lab' : Nat → Nat} {y : Nat} {v : Value} {ys : List (Value × Value)} {X : Nat → Prop}
set_option maxRecDepth 4000 in
/-- Three more pairs. -/
theorem SQ.push3 (h : SQ w lab y 39 2 hF v ys) (hz : LZ lab w) (x1 x2 x3 : Value × Value) (h1 : ∀ u ∈ [x1.1, x1.2, x2.1, x2.2, x3.1, x3.2], u.oneCell' = true) (hn : ys.length ≤ 1000000000) :
    ∃ g' cap' w', (Builtin.append_ #[23, 23] 23 #[v, .slice (some ⟨w.heap.size, 0, none⟩) 3 3]).run Try.prog (w.alloc (.cells #[x1.1, x1.2, x2.1, x2.2, x3.1, x3.2] 39)) = .ok (.slice (some ⟨g', 0, none⟩) (ys.length + 3) cap') w' ∧ ∃ lab', Gro lab lab' w w' (fun z => z = y) ∧ SQ w' lab' y 39 2 hF (.slice (some ⟨g', 0, none⟩) (ys.length + 3) cap') (ys ++ [x1, x2, x3]) := by
  obtain ⟨i0, hi, hz0, hz1, hz2⟩ := info_parts infoH
  obtain ⟨xs, h2, h3, h4⟩ := h
  have hbx := below_box w (.cells #[x1.1, x1.2, x2.1, x2.2, x3.1, x3.2] 39)
  obtain ⟨g', cap', w', hrun, hw, hg, hat, hlt⟩ := run_append_lies (P := Try.prog) (w.alloc (.cells #[x1.1, x1.2, x2.1, x2.2, x3.1, x3.2] 39)) 23 23 0 39 i0 (.agg #[.slice none 0 0, .slice none 0 0]) 2 48 Try.underlying23 hi hz0 hz1 hz2 rfl (by decide) v ys.length xs (rowAgree h2 (fun g hg => Below.heap_alloc _ _ _ (rowLt h2 hg))) ⟨w.heap.size, 0, none⟩ 3 3 [x1.1, x1.2, x2.1, x2.2, x3.1, x3.2] rfl (World.news_of_block (cs := #[x1.1, x1.2, x2.1, x2.2, x3.1, x3.2]) (t := 39) (fr := (0, 0)) (heap_alloc_new w _)) h1 (by omega) (by unfold maxLen; omega) (by omega) (Nat.zero_le _) _ rfl
  have hk : Keeps (fun k => v.ownBlock = some k) w w' := ⟨hg.os.trans hbx.os, hg.tape.trans hbx.tape, hg.output.trans hbx.output, Nat.le_trans hbx.size hg.size, fun k hk hq => (hg.block k (Nat.lt_of_lt_of_le hk hbx.size) (fun e => hq e.symm)).trans (hbx.block k hk)⟩
  have G := Gro.keeps hz hk y (fun k _ hf => h3 k hf)
  refine ⟨g', cap', w', hrun, _, G, xs ++ [x1.1, x1.2, x2.1, x2.2, x3.1, x3.2], by rw [List.length_append]; exact hw, fun k hk' => ?_, fun i hi j u hu => ?_⟩
  · have e : k = g' := by simpa [Value.ownBlock] using hk'.symm
    subst e
    rcases hat with e | e
    · exact G.tag (rowLt h2 e) (h3 _ e)
    · exact relab_new (by simp at e; omega) hlt
  · have hxl := h2.1
    by_cases e : i < ys.length
    · rw [List.getElem_append_left e] at hu
      have h5 := h4 i e j u hu
      rw [List.getElem?_append_left (List.getElem?_eq_some_iff.1 h5).1]
      exact h5
    · have hi3 : i < ys.length + 3 := by simpa using hi
      obtain ⟨q, rfl⟩ : ∃ q, i = ys.length + q := ⟨i - ys.length, by omega⟩
      have hj : j < 2 := by have := (List.getElem?_eq_some_iff.1 hu).1; simpa using this
      rw [List.getElem?_append_right (by rw [hxl]; omega), hxl, show (ys.length + q) * 2 + j - ys.length * 2 = q * 2 + j by omega]
      rw [List.getElem_append_right (by omega)] at hu
      simp only [Nat.add_sub_cancel_left] at hu
      have hq : q = 0 ∨ q = 1 ∨ q = 2 := by omega
      have hjj : j = 0 ∨ j = 1 := by omega
      rcases hq with rfl | rfl | rfl <;> rcases hjj with rfl | rfl <;> simpa using hu
theorem AL.push3 {ls : List (List Int)} (h : AL w lab v ls) (hz : LZ lab w) {u1 u2 u3 : Value} {b1 b2 b3 : Option Addr} {d1 d2 d3 : Nat} {l1 l2 l3 : List Int} (t1 : TL w lab (yK ls.length) u1 l1) (s1 : SL w lab 0 b1 l1.length l1) (t2 : TL w lab (yK (ls.length + 1)) u2 l2) (s2 : SL w lab 0 b2 l2.length l2) (t3 : TL w lab (yK (ls.length + 2)) u3 l3) (s3 : SL w lab 0 b3 l3.length l3) (hn : ls.length ≤ 1000000000) :
    ∃ g' cap' w', (Builtin.append_ #[23, 23] 23 #[v, .slice (some ⟨w.heap.size, 0, none⟩) 3 3]).run Try.prog (w.alloc (.cells #[u1, .slice b1 l1.length d1, u2, .slice b2 l2.length d2, u3, .slice b3 l3.length d3] 39)) = .ok (.slice (some ⟨g', 0, none⟩) (ls.length + 3) cap') w' ∧ ∃ lab', Gro lab lab' w w' (fun z => z = 31) ∧ AL w' lab' (.slice (some ⟨g', 0, none⟩) (ls.length + 3) cap') (ls ++ [l1, l2, l3]) := by
  obtain ⟨ys, hl, hs, he⟩ := h
  obtain ⟨a1, rfl, _⟩ := t1.sl
  obtain ⟨a2, rfl, _⟩ := t2.sl
  obtain ⟨a3, rfl, _⟩ := t3.sl
  obtain ⟨g', cap', w', hr, lab', G, hq⟩ := hs.push3 hz (.slice a1 l1.length l1.length, .slice b1 l1.length d1) (.slice a2 l2.length l2.length, .slice b2 l2.length d2) (.slice a3 l3.length l3.length, .slice b3 l3.length d3) (by simp [Value.oneCell']) (by omega)
  rw [hl] at hr hq
  have n31 : ∀ i, ¬ ((fun z => z = 31) (yK i)) := fun i e => by have := yK_ge i; omega
  refine ⟨g', cap', w', hr, lab', G, ys ++ [(.slice a1 l1.length l1.length, .slice b1 l1.length d1), (.slice a2 l2.length l2.length, .slice b2 l2.length d2), (.slice a3 l3.length l3.length, .slice b3 l3.length d3)], by simp [hl], hq, fun i hi' => ?_⟩
  by_cases e : i < ls.length
  · obtain ⟨u, b, d, e1, e2, e3⟩ := he i e
    refine ⟨u, b, d, ?_, ?_, ?_⟩
    · rw [List.getElem?_append_left (by omega), e1, List.getElem_append_left e]
    · rw [List.getElem_append_left e]
      exact e2.gro G (n31 i)
    · rw [List.getElem_append_left e]
      exact e3.gro G (fun e => by omega)
  · have hi3 : i < ls.length + 3 := by simpa using hi'
    obtain ⟨q, rfl⟩ : ∃ q, i = ls.length + q := ⟨i - ls.length, by omega⟩
    have hq3 : q = 0 ∨ q = 1 ∨ q = 2 := by omega
    rcases hq3 with rfl | rfl | rfl
    · refine ⟨.slice a1 l1.length l1.length, b1, d1, ?_, ?_, ?_⟩
      · rw [List.getElem?_append_right (by omega), hl]
        simp
      · simpa using t1.gro G (n31 _)
      · simpa using s1.gro G (fun e => by omega)
    · refine ⟨.slice a2 l2.length l2.length, b2, d2, ?_, ?_, ?_⟩
      · rw [List.getElem?_append_right (by omega), hl]
        simp
      · simpa using t2.gro G (n31 _)
      · simpa using s2.gro G (fun e => by omega)
    · refine ⟨.slice a3 l3.length l3.length, b3, d3, ?_, ?_, ?_⟩
      · rw [List.getElem?_append_right (by omega), hl]
        simp
      · simpa using t3.gro G (n31 _)
      · simpa using s3.gro G (fun e => by omega)
/-- What a call has answered gets owners. -/
theorem Ans.own {got want : Value} {l : List Int} (h : Ans w w' got want l) (hz : LZ lab w) (y : Nat) : ∃ lab', Gro lab lab' w w' (fun x => x = y) ∧ TL w' lab' y got l ∧ ∃ b d, want = .slice b l.length d ∧ SL w' lab' 0 b l.length l := by
  obtain ⟨wm, h1, h2, h3, h4⟩ := h
  obtain ⟨lab', G, hT, hZ⟩ := h2.own (Nat.le_refl _) h1 hz y
  have GB := Gro.below hZ h3 (fun x => x = y)
  obtain ⟨b, d, rfl, hs, _⟩ := h4.sl0 hZ (Nat.le_refl _)
  exact ⟨lab', G.trans GB, hT.gro (Gro.below hZ h3 (fun _ => False)) (fun h => h), b, d, rfl, hs⟩
/-- A new copy gets an owner. -/
theorem Roomy.own {g c n : Nat} {l ex : List Int} (h : Roomy w w' g c n l ex) (hz : LZ lab w) (y : Nat) : ∃ lab', Gro lab lab' w w' (fun x => x = y) ∧ OR w' lab' y 5 (.slice (some ⟨g, 0, none⟩) (n + ex.length) c) (n + ex.length) (bs (l ++ ex)) := by
  obtain ⟨h1, h2, h3, h4, h5, _⟩ := h
  have G := Gro.keeps hz (Keeps.of_below (fun _ => False) h3) y (fun _ _ h => h.elim)
  have ho := h2.owns
  have e : (bs (l ++ ex)).length = n + ex.length := by simp [h5]
  rw [e] at ho
  refine ⟨_, G, ho, fun k hk => ?_⟩
  have e2 : k = g := by simpa [Value.ownBlock] using hk.symm
  rw [e2]
  exact relab_new h1 h2.lt
/-- The first bytes of a row. -/
theorem OR.pre {g c n m : Nat} {l ex : List Int} (h : OR w lab y 5 (.slice (some ⟨g, 0, none⟩) m c) m (bs (l ++ ex))) (hl : l.length = n) : SL w lab y (some ⟨g, 0, none⟩) n l ∧ n ≤ c ∧ m = n + ex.length := by
  obtain ⟨a, c', e, s, hc⟩ := h.src
  have ea : a = some ⟨g, 0, none⟩ := by injection e with q1; exact q1.symm
  have ec : c = c' := by injection e
  subst ea
  subst ec
  have hm : m = n + ex.length := by have := s.1.1; rw [List.length_append] at this; omega
  refine ⟨⟨⟨hl, (fun h => by cases h), fun x hx i hi => ?_⟩, fun z hz hp => s.2 z hz (by omega)⟩, by omega, hm⟩
  have h1 := s.1.2.2 x hx i (by omega)
  rw [h1]
  simp [List.getD, List.getElem?_append_left (show i < l.length by omega)]
end

/-- What lives through the calls. -/
structure Lv (w0 w : World) (L : Nat → Nat) (vb vp va : Value) (ls ps ms : List (List Int)) : Prop where
  bk : BK w L 30 yB vb ls
  pl : LX w L 32 (fun _ => 0) vp ps []
  al : AL w L va ms
  gr : Gro (fun _ => 0) L w0 w (fun y => y ≠ 0)
/-- What lives through one call: its numbers, the two lists that are handed in. -/
structure It (w : World) (L : Nat → Nat) (p : Nat) (K N Z : Int) (vA vB : Value) (gA cA : Nat) (lA eA : List Int) (gB cB : Nat) (lB eB : List Int) : Prop where
  kc : w.heap[p]? = some (.cells #[.int .i64 K, .int .i64 N, .int .i64 Z, vA, vB] 31 (0, 0))
  kp : L p = 0
  ra : OR w L 33 5 (.slice (some ⟨gA, 0, none⟩) (lA.length + eA.length) cA) (lA.length + eA.length) (bs (lA ++ eA))
  rb : OR w L 34 5 (.slice (some ⟨gB, 0, none⟩) (lB.length + eB.length) cB) (lB.length + eB.length) (bs (lB ++ eB))
section
variable {w0 w w' : World} {L L' : Nat → Nat} {vb vp va : Value} {ls ps ms : List (List Int)} {X : Nat → Prop} {p : Nat} {K N Z : Int} {vA vB : Value} {gA cA gB cB : Nat} {lA eA lB eB : List Int}
theorem Lv.gro (h : Lv w0 w L vb vp va ls ps ms) (G : Gro L L' w w' X) (h0 : ¬ X 0) (hr : ∀ y, 30 ≤ y → y ≤ 32 → ¬ X y) (hb : ∀ i, i < ls.length → ¬ X (yB i)) (hk : ∀ i, i < ms.length → ¬ X (yK i)) : Lv w0 w' L' vb vp va ls ps ms :=
  ⟨h.bk.gro G (hr 30 (by omega) (by omega)) hb h0, h.pl.gro G (hr 32 (by omega) (by omega)) (fun _ _ => h0), h.al.gro G (hr 31 (by omega) (by omega)) hk h0, h.gr.join G (fun _ h => h) (fun y hx e => h0 (e ▸ hx))⟩
theorem Lv.later (h : Lv w0 w L vb vp va ls ps ms) (hb : Below w.heap.size w w') : Lv w0 w' L vb vp va ls ps ms := h.gro (Gro.below h.gr.lz hb (fun _ => False)) (fun h => h) (fun _ _ _ h => h) (fun _ _ h => h) (fun _ _ h => h)
theorem Lv.below (h : Lv w0 w L vb vp va ls ps ms) : Below w0.heap.size w0 w := h.gr.belowB (Nat.le_refl _) (fun _ hk => absurd rfl hk) (fun h => h rfl)
theorem It.gro (h : It w L p K N Z vA vB gA cA lA eA gB cB lB eB) (G : Gro L L' w w' X) (h0 : ¬ X 0) (h1 : ¬ X 33) (h2 : ¬ X 34) : It w' L' p K N Z vA vB gA cA lA eA gB cB lB eB :=
  ⟨(G.block (Array.getElem?_eq_some_iff.1 h.kc).1 h.kp h0).trans h.kc, G.tag (Array.getElem?_eq_some_iff.1 h.kc).1 h.kp, h.ra.gro G h1, h.rb.gro G h2⟩
end

/-- A list that came in. -/
def CIn (w : World) (B : Nat) (a : Option Addr) (n : Nat) (l : List Int) : Prop := Src w a n l ∧ Bytes l ∧ n ≤ 1048576 ∧ ∀ x, a = some x → 0 < n → x.block < B
/-- The calls that came in. -/
def CallsIn (w : World) (B : Nat) (a : Option Addr) (n : Nat) : Prop :=
  (a = none → n = 0) ∧ ∀ x, a = some x → ∀ i, i < n → ∃ b o, x = ⟨b, o, none⟩ ∧ b < B ∧ ∃ (K N Z : Int) (pa : Option Addr) (pn pc : Nat) (la : List Int) (qa : Option Addr) (qn qc : Nat) (lb : List Int), w.cell? ⟨b, o + i * 5, none⟩ = some (.int .i64 K) ∧ w.cell? ⟨b, o + i * 5 + 1, none⟩ = some (.int .i64 N) ∧ w.cell? ⟨b, o + i * 5 + 2, none⟩ = some (.int .i64 Z) ∧ w.cell? ⟨b, o + i * 5 + 3, none⟩ = some (.slice pa pn pc) ∧ w.cell? ⟨b, o + i * 5 + 4, none⟩ = some (.slice qa qn qc) ∧ CIn w B pa pn la ∧ CIn w B qa qn lb ∧ N ≤ 9223372036854775807 ∧ Z ≤ 9223372036854775807
theorem CIn.far {w w' : World} {B : Nat} {a : Option Addr} {n : Nat} {l : List Int} (h : CIn w B a n l) (hb : Below B w w') : CIn w' B a n l :=
  ⟨⟨h.1.1, h.1.2.1, fun x hx i hi => by
    rw [World.cell?_of_block (w := w) (by rw [blockOf_add]; exact hb.block _ (h.2.2.2 x hx (by omega)))]
    exact h.1.2.2 x hx i hi⟩, h.2⟩
theorem CallsIn.far {w w' : World} {B : Nat} {a : Option Addr} {n : Nat} (h : CallsIn w B a n) (hb : Below B w w') : CallsIn w' B a n :=
  ⟨h.1, fun x hx i hi => by
    obtain ⟨b, o, rfl, h0, K, N, Z, pa, pn, pc, la, qa, qn, qc, lb, h1, h2, h3, h4, h5, h6, h7, h8⟩ := h.2 x hx i hi
    have e := hb.block b h0
    exact ⟨b, o, rfl, h0, K, N, Z, pa, pn, pc, la, qa, qn, qc, lb, (World.cell?_of_block (w := w) (a := ⟨b, _, none⟩) e).trans h1, (World.cell?_of_block (w := w) (a := ⟨b, _, none⟩) e).trans h2, (World.cell?_of_block (w := w) (a := ⟨b, _, none⟩) e).trans h3, (World.cell?_of_block (w := w) (a := ⟨b, _, none⟩) e).trans h4, (World.cell?_of_block (w := w) (a := ⟨b, _, none⟩) e).trans h5, h6.far hb, h7.far hb, h8⟩⟩
theorem keptL_len (m n : Nat) : (keptL m n).length = 4 := rfl
theorem keptL_small {m n : Nat} (hn : n ≤ 1000) : ∀ d ∈ keptL m n, d.length ≤ 3000 := by
  intro d hd
  simp only [keptL, List.mem_cons, List.mem_nil_iff, or_false] at hd
  rcases hd with rfl | rfl | rfl | rfl <;> simp [rw_len] <;> omega
end Go.Proofs.Ytohgdjlgbnpobaa
end

section
namespace Go.Proofs.Ytohgdjlgbnpobaa
open Go.RowKit Go.Maps

set_option maxRecDepth 20000 in
theorem ofFn305 (s : Nat → Value) : Array.ofFn (n := 305) (fun i => s i.val) = #[s 0, s 1, s 2, s 3, s 4, s 5, s 6, s 7, s 8, s 9, s 10, s 11, s 12, s 13, s 14, s 15, s 16, s 17, s 18, s 19, s 20, s 21, s 22, s 23, s 24, s 25, s 26, s 27, s 28, s 29, s 30, s 31, s 32, s 33, s 34, s 35, s 36, s 37, s 38, s 39, s 40, s 41, s 42, s 43, s 44, s 45, s 46, s 47, s 48, s 49, s 50, s 51, s 52, s 53, s 54, s 55, s 56, s 57, s 58, s 59, s 60, s 61, s 62, s 63, s 64, s 65, s 66, s 67, s 68, s 69, s 70, s 71, s 72, s 73, s 74, s 75, s 76, s 77, s 78, s 79, s 80, s 81, s 82, s 83, s 84, s 85, s 86, s 87, s 88, s 89, s 90, s 91, s 92, s 93, s 94, s 95, s 96, s 97, s 98, s 99, s 100, s 101, s 102, s 103, s 104, s 105, s 106, s 107, s 108, s 109, s 110, s 111, s 112, s 113, s 114, s 115, s 116, s 117, s 118, s 119, s 120, s 121, s 122, s 123, s 124, s 125, s 126, s 127, s 128, s 129, s 130, s 131, s 132, s 133, s 134, s 135, s 136, s 137, s 138, s 139, s 140, s 141, s 142, s 143, s 144, s 145, s 146, s 147, s 148, s 149, s 150, s 151, s 152, s 153, s 154, s 155, s 156, s 157, s 158, s 159, s 160, s 161, s 162, s 163, s 164, s 165, s 166, s 167, s 168, s 169, s 170, s 171, s 172, s 173, s 174, s 175, s 176, s 177, s 178, s 179, s 180, s 181, s 182, s 183, s 184, s 185, s 186, s 187, s 188, s 189, s 190, s 191, s 192, s 193, s 194, s 195, s 196, s 197, s 198, s 199, s 200, s 201, s 202, s 203, s 204, s 205, s 206, s 207, s 208, s 209, s 210, s 211, s 212, s 213, s 214, s 215, s 216, s 217, s 218, s 219, s 220, s 221, s 222, s 223, s 224, s 225, s 226, s 227, s 228, s 229, s 230, s 231, s 232, s 233, s 234, s 235, s 236, s 237, s 238, s 239, s 240, s 241, s 242, s 243, s 244, s 245, s 246, s 247, s 248, s 249, s 250, s 251, s 252, s 253, s 254, s 255, s 256, s 257, s 258, s 259, s 260, s 261, s 262, s 263, s 264, s 265, s 266, s 267, s 268, s 269, s 270, s 271, s 272, s 273, s 274, s 275, s 276, s 277, s 278, s 279, s 280, s 281, s 282, s 283, s 284, s 285, s 286, s 287, s 288, s 289, s 290, s 291, s 292, s 293, s 294, s 295, s 296, s 297, s 298, s 299, s 300, s 301, s 302, s 303, s 304] := by kernel_rfl
theorem arr305 (t : Array Value) (h : t.size = 305) : ∃ s : Nat → Value, (∀ j, s j = t.getD j undef) ∧ t = #[s 0, s 1, s 2, s 3, s 4, s 5, s 6, s 7, s 8, s 9, s 10, s 11, s 12, s 13, s 14, s 15, s 16, s 17, s 18, s 19, s 20, s 21, s 22, s 23, s 24, s 25, s 26, s 27, s 28, s 29, s 30, s 31, s 32, s 33, s 34, s 35, s 36, s 37, s 38, s 39, s 40, s 41, s 42, s 43, s 44, s 45, s 46, s 47, s 48, s 49, s 50, s 51, s 52, s 53, s 54, s 55, s 56, s 57, s 58, s 59, s 60, s 61, s 62, s 63, s 64, s 65, s 66, s 67, s 68, s 69, s 70, s 71, s 72, s 73, s 74, s 75, s 76, s 77, s 78, s 79, s 80, s 81, s 82, s 83, s 84, s 85, s 86, s 87, s 88, s 89, s 90, s 91, s 92, s 93, s 94, s 95, s 96, s 97, s 98, s 99, s 100, s 101, s 102, s 103, s 104, s 105, s 106, s 107, s 108, s 109, s 110, s 111, s 112, s 113, s 114, s 115, s 116, s 117, s 118, s 119, s 120, s 121, s 122, s 123, s 124, s 125, s 126, s 127, s 128, s 129, s 130, s 131, s 132, s 133, s 134, s 135, s 136, s 137, s 138, s 139, s 140, s 141, s 142, s 143, s 144, s 145, s 146, s 147, s 148, s 149, s 150, s 151, s 152, s 153, s 154, s 155, s 156, s 157, s 158, s 159, s 160, s 161, s 162, s 163, s 164, s 165, s 166, s 167, s 168, s 169, s 170, s 171, s 172, s 173, s 174, s 175, s 176, s 177, s 178, s 179, s 180, s 181, s 182, s 183, s 184, s 185, s 186, s 187, s 188, s 189, s 190, s 191, s 192, s 193, s 194, s 195, s 196, s 197, s 198, s 199, s 200, s 201, s 202, s 203, s 204, s 205, s 206, s 207, s 208, s 209, s 210, s 211, s 212, s 213, s 214, s 215, s 216, s 217, s 218, s 219, s 220, s 221, s 222, s 223, s 224, s 225, s 226, s 227, s 228, s 229, s 230, s 231, s 232, s 233, s 234, s 235, s 236, s 237, s 238, s 239, s 240, s 241, s 242, s 243, s 244, s 245, s 246, s 247, s 248, s 249, s 250, s 251, s 252, s 253, s 254, s 255, s 256, s 257, s 258, s 259, s 260, s 261, s 262, s 263, s 264, s 265, s 266, s 267, s 268, s 269, s 270, s 271, s 272, s 273, s 274, s 275, s 276, s 277, s 278, s 279, s 280, s 281, s 282, s 283, s 284, s 285, s 286, s 287, s 288, s 289, s 290, s 291, s 292, s 293, s 294, s 295, s 296, s 297, s 298, s 299, s 300, s 301, s 302, s 303, s 304] := by
  refine ⟨fun j => t.getD j undef, fun _ => rfl, ?_⟩
  rw [← ofFn305 (fun j => t.getD j undef)]
  refine Array.ext (by simp [h]) (fun i h1 h2 => ?_)
  simp [h1]
theorem i64_and31 (n : Int) : ∃ y : Nat, bits .and .i64 n 2147483647 = (y : Int) ∧ y ≤ 2147483647 := by
  have eb : (BitVec.ofInt 64 (2147483647 : Int)).toNat = 2147483647 := by decide
  have h : bits .and .i64 n 2147483647 = IntKind.i64.wrap ((BitVec.ofInt 64 n &&& BitVec.ofInt 64 (2147483647 : Int)).toNat : Int) := rfl
  rw [BitVec.toNat_and, eb] at h
  have hle : (BitVec.ofInt 64 n).toNat &&& 2147483647 ≤ 2147483647 := Nat.and_le_right
  generalize (BitVec.ofInt 64 n).toNat &&& 2147483647 = z at *
  refine ⟨z, ?_, by omega⟩
  rw [h, IntKind.wrap_i64]
  all_goals omega
theorem u8_xor_byte (x c : Int) : 0 ≤ bits .xor .u8 x c ∧ bits .xor .u8 x c < 256 := by
  have h : bits .xor .u8 x c = IntKind.u8.wrap ((BitVec.ofInt 8 x ^^^ BitVec.ofInt 8 c).toNat : Int) := rfl
  have hlt := (BitVec.ofInt 8 x ^^^ BitVec.ofInt 8 c).isLt
  rw [h, IntKind.wrap_u8]
  omega
/-- A byte of the first part of a row is written. -/
theorem OR.putPre {w : World} {lab : Nat → Nat} {y : Nat} {g c m : Nat} {l ex : List Int} (h : OR w lab y 5 (.slice (some ⟨g, 0, none⟩) m c) m (bs (l ++ ex))) (hz : LZ lab w) {i : Nat} (hi : i < l.length) (hm : m = l.length + ex.length) (x : Int) : w.cell? ⟨g, i, none⟩ = some (.int .u8 (l.getD i 0)) ∧ w.frozen? ⟨g, i, none⟩ = false ∧ Gro lab lab w (w.setCell ⟨g, i, none⟩ (.int .u8 x)) (fun z => z = y) ∧ OR (w.setCell ⟨g, i, none⟩ (.int .u8 x)) lab y 5 (.slice (some ⟨g, 0, none⟩) m c) m (bs (l.set i x ++ ex)) := by
  obtain ⟨g2, c2, e1, c1, f1, _, G, O⟩ := h.put hz (i := i) (by omega) x
  have eg : g2 = g := by injection e1 with q1; injection q1 with q2; injection q2 with q3; exact q3.symm
  subst eg
  rw [List.set_append_left _ _ hi] at O
  refine ⟨?_, f1, G, O⟩
  rw [c1]
  simp [List.getD, List.getElem?_append_left hi]
end Go.Proofs.Ytohgdjlgbnpobaa
end

section
namespace Go.Proofs.Ytohgdjlgbnpobaa
open Go.RowKit Go.Maps

section
variable {w w' : World} {lab lab' : Nat → Nat} {v : Value} {N : Nat} {D : Nat → List Int}
theorem LT.nil (w : World) (lab : Nat → Nat) (yr : Nat) (D : Nat → List Int) : LT w lab yr (.slice none 0 0) 0 D := ⟨[], rfl, OR.nil _ _ _ _, fun i hi => by omega⟩
/-- One more list. -/
theorem LT.push (h : LT w lab 37 v N D) (hz : LZ lab w) (hn : N ≤ 7000000000000) {u : Value} (hu : TL w lab (yK N) u (D N)) :
    ∃ g' cap' w', (Builtin.append_ #[24, 24] 24 #[v, .slice (some ⟨w.heap.size, 0, none⟩) 1 1]).run Try.prog (w.alloc (.cells #[u] 25)) = .ok (.slice (some ⟨g', 0, none⟩) (N + 1) cap') w' ∧ ∃ lab', Gro lab lab' w w' (fun y => y = 37) ∧ LT w' lab' 37 (.slice (some ⟨g', 0, none⟩) (N + 1) cap') (N + 1) D := by
  obtain ⟨vs, hl, ho, he⟩ := h
  have hx : u.oneCell' = true := by obtain ⟨a, rfl, _⟩ := hu.sl; rfl
  obtain ⟨g', cap', w', hrun, hw, hg, hat⟩ := app_list2 ho.1 u hx hn
  have hbx := below_box w (.cells #[u] 25)
  have hk : Keeps (fun k => v.ownBlock = some k) w w' := ⟨hg.os.trans hbx.os, hg.tape.trans hbx.tape, hg.output.trans hbx.output, Nat.le_trans hbx.size hg.size, fun k hk hq => (hg.block k (Nat.lt_of_lt_of_le hk hbx.size) (fun e => hq e.symm)).trans (hbx.block k hk)⟩
  have G := Gro.keeps hz hk 37 (fun k _ hf => ho.2 k hf)
  have y37 : ∀ i, ¬ ((fun y => y = 37) (yK i)) := fun i e => by have := yK_ge i; omega
  refine ⟨g', cap', w', hrun, _, G, vs ++ [u], by simp [hl], ⟨hw, fun k hk' => ?_⟩, fun i hi => ?_⟩
  · have e : k = g' := by simpa [Value.ownBlock] using hk'.symm
    subst e
    rcases hat with e | e
    · exact G.tag (rowLt ho.1 e) (ho.2 _ e)
    · exact relab_new (by omega) (rowLt hw rfl)
  · by_cases e : i < N
    · obtain ⟨u2, e1, e2⟩ := he i e
      exact ⟨u2, by rw [List.getElem?_append_left (by omega)]; exact e1, e2.gro G (y37 i)⟩
    · have ei : i = N := by omega
      subst ei
      exact ⟨u, by rw [List.getElem?_append_right (by omega), hl]; simp, hu.gro G (y37 _)⟩
theorem AL.at {ls : List (List Int)} (h : AL w lab v ls) {i : Nat} (hi : i < ls.length) : ∃ g cap u, v = .slice (some ⟨g, 0, none⟩) ls.length cap ∧ w.cell? ⟨g, i * 2, none⟩ = some u ∧ TL w lab (yK i) u ls[i] := by
  obtain ⟨ys, hl, hs, he⟩ := h
  obtain ⟨u, b, d, e1, e2, e3⟩ := he i hi
  obtain ⟨g, cap, rfl, hr⟩ := hs.at (i := i) (by omega)
  have e4 : ys[i]'(by omega) = (u, .slice b (ls[i]).length d) := by
    have h1 : i < ys.length := by omega
    simpa [h1] using e1
  rw [e4] at hr
  exact ⟨g, cap, u, by rw [hl], by simpa using hr 0 _ rfl, e2⟩
end
theorem kX_not {j y : Nat} (h : y < 40) (h2 : y ≠ 30) : ¬ kX j y := by
  rintro (e | e | e | e | e)
  · exact h2 e
  all_goals
    have h3 : 40 ≤ y := by
      rw [e]
      exact yB_ge _
    omega
theorem kX_yK (j i : Nat) : ¬ kX j (yK i) := by
  rintro (e | e | e | e | e)
  · have := yK_ge i; omega
  all_goals exact yBK _ _ e.symm
theorem kX_old {j i : Nat} (h : i < j) : ¬ kX j (yB i) := by
  rintro (e | e | e | e | e)
  · have := yB_ge i; omega
  all_goals exact absurd e (yB_ne (by omega))
end Go.Proofs.Ytohgdjlgbnpobaa
end

section
namespace Go.Proofs.Ytohgdjlgbnpobaa
open Go.RowKit Go.Maps

theorem fill_three {cells : Array Value} (x0 x1 y0 y1 z0 z1 : Value) (hc : cells.size = 6) : Instr.fill (fun i => some (i * 2, 2)) cells [(0, .agg #[x0, x1]), (1, .agg #[y0, y1]), (2, .agg #[z0, z1])] = some #[x0, x1, y0, y1, z0, z1] := by
  obtain ⟨r, h1, h2, h3⟩ := Great.fill_dense (s := 2) (by decide) [.agg #[x0, x1], .agg #[y0, y1], .agg #[z0, z1]] 0 cells (by
    intro v hv
    simp only [List.mem_cons, List.mem_nil_iff, or_false] at hv
    rcases hv with rfl | rfl | rfl <;> rfl) (by simp [hc])
  have e : r = #[x0, x1, y0, y1, z0, z1] := by
    refine Array.ext_getElem? (fun k => ?_)
    rw [h3 k]
    by_cases hk : k < 6
    · rw [if_pos (by simpa using hk)]
      have hq : k = 0 ∨ k = 1 ∨ k = 2 ∨ k = 3 ∨ k = 4 ∨ k = 5 := by omega
      rcases hq with rfl | rfl | rfl | rfl | rfl | rfl <;> rfl
    · rw [if_neg (by simp; omega), Array.getElem?_eq_none (by omega), Array.getElem?_eq_none (by simp; omega)]
  subst e
  exact h1
/-- A slice of three structs of two cells is made. -/
theorem wpList_build3 {ops : Array Oper} {rest : List Oper} {o : Oper} {a : Act} {w : World} {Q : Exit → Act → World → Prop} (hg : o.guard = none) (t e : TypeId) (x y z : Operand) (ho : o.op = .buildSlice t 3 #[(0, x), (1, y), (2, z)]) (x0 x1 y0 y1 z0 z1 : Value) (hx : a.eval x = .agg #[x0, x1]) (hy : a.eval y = .agg #[y0, y1]) (hz' : a.eval z = .agg #[z0, z1])
    (hu : Try.prog.underlying t = some (.slice e)) {ie : TypeInfo} {zz : Value} (hie : Try.prog.info? e = some ie) (hz : ie.zero = some zz) (hs : ie.size = 2)
    (h : wpList Try.prog ops Q rest (a.put o.dst (.slice (some ⟨w.heap.size, 0, none⟩) 3 3)) (w.alloc (.cells #[x0, x1, y0, y1, z0, z1] e))) : wpList Try.prog ops Q (o :: rest) a w := by
  refine wpList_buildSlice hg t e 3 #[(0, x), (1, y), (2, z)] ho #[x0, x1, y0, y1, z0, z1] ie zz hu hie hz (by rw [hs]; omega) (by rw [hs]; omega) ?_ h
  rw [hs]
  simp only [List.map_toArray, List.map_cons, List.map_nil, hx, hy, hz']
  exact fill_three x0 x1 y0 y1 z0 z1 (by simp)

end Go.Proofs.Ytohgdjlgbnpobaa
end
