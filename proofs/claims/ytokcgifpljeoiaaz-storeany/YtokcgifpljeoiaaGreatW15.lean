import Derived.Test.YtokcgifpljeoiaaGreatW14
section
namespace Go.Proofs.YtokcgifpljeoiaaGreat
open Go.RowKit Go.Maps

theorem over_mem : ∀ {ns ms : CM} {x : Nat × List Int}, x ∈ CM.over ms ns → x ∈ ms ∨ x ∈ ns
  | [], _, _, h => .inl h
  | q :: qs, ms, x, h => by
    rcases over_mem (ns := qs) (ms := CM.put ms q.1 q.2) h with h | h
    · rcases CM.put_key h with e | h
      · exact .inr (e ▸ List.mem_cons_self)
      · exact .inl h
    · exact .inr (List.mem_cons_of_mem _ h)
theorem append_lk {L : LG} {s : Nat} (h : L.Ok s) (S : DS) (d : List Int) : (L.append S s d).2.2.Ok s ∧ (L.append S s d).2.2.begun = L.begun := by
  unfold LG.append
  split
  · exact ⟨h, rfl⟩
  · rename_i hr
    obtain ⟨_, _, _, r1, r2⟩ := refuses_zero (Decidable.byContradiction hr)
    split
    · exact ⟨h, rfl⟩
    · have := h.th
      exact ⟨⟨h.s, h.n1, h.n2, h.ep, h.top, by show L.tail ≤ L.head + _; omega, by show L.head + _ ≤ L.tail + L.n; omega, by show L.head + _ ≤ 1073742080; omega, fun _ => by show L.head + _ ≤ 1073741824; omega⟩, rfl⟩
theorem recOf_bytes {ms : CM} (h : ∀ q ∈ ms, Bytes q.2) : Bytes (recOf ms) := by
  unfold recOf
  refine (leb_bytes _ _).append (Bytes.append ?_ ?_)
  · intro v hv
    obtain ⟨q, _, hq⟩ := List.mem_flatMap.1 hv
    exact leb_bytes _ _ v hq
  · intro v hv
    obtain ⟨q, hm, hq⟩ := List.mem_flatMap.1 hv
    exact h q hm v hq
/-- A row of bytes that is answered, as a slice. -/
theorem RowOut.form {B : Nat} {w : World} {l : List Int} {e : Ending} (h : RowOut B w l e) (hl : 0 < l.length) : ∃ g c, e = .returned (.slice (some ⟨g, 0, none⟩) l.length c) ∧ B ≤ g ∧ Src w (some ⟨g, 0, none⟩) l.length l ∧ l.length ≤ c := by
  obtain ⟨v, rfl, h⟩ := h
  have h0 := h
  obtain ⟨hll, ⟨e, h3⟩ | ⟨g, cap, cur, rfl, hg, hb, h4⟩⟩ := h
  · omega
  · obtain ⟨g', c', hv, hg', hr, _⟩ := RowAt.of_owns h0 (by intro e; cases e)
    cases hv
    refine ⟨g, cap, rfl, hg, ?_, ?_⟩
    · exact hr.src
    · have := hr.le
      simpa [bs] using this

theorem fl_putsS (S : DS) (s : Nat) : (S.fl s).2.puts.length ≤ S.puts.length := by
  unfold DS.fl
  split
  · exact Nat.le_refl _
  · exact Nat.zero_le _
theorem anew_putsS (S : DS) (s f : Nat) (x : Int) : (anew S s f x).2.puts.length ≤ S.puts.length + 1 := by
  unfold anew
  split
  · exact Nat.le_succ _
  · split
    · exact Nat.le_succ _
    · split
      · exact wr_puts _ _ _ _ _
      · exact Nat.le_trans (fl_putsS _ _) (wr_puts _ _ _ _ _)
theorem trim_putsS (L : LG) (S : DS) (s : Nat) : (L.trim S s).2.1.puts.length ≤ S.puts.length + 2 := by
  have h1 := sync_puts L S s
  unfold LG.trim
  split
  · show (L.sync S s).2.puts.length ≤ _; omega
  · split
    · show (L.sync S s).2.puts.length ≤ _; omega
    · have h2 := anew_putsS (L.sync S s).2 s L.f ((L.ep : Int) * 4294967296 + (L.head : Int))
      split
      · show (anew _ _ _ _).2.puts.length ≤ _; omega
      · show (anew _ _ _ _).2.puts.length ≤ _; omega
theorem check_puts (G : SG) (S : DS) (s : Nat) : (G.check S s).2.1.puts.length ≤ S.puts.length + G.ov.length + 3 := by
  have h1 := sync_puts G.L S s
  have h2 := sbring_puts (G.L.sync S s).2 s G.y.home G.ov
  have h3 := trim_putsS G.L (sbring (G.L.sync S s).2 s G.y.home G.ov).2 s
  unfold SG.check
  split
  · show (G.L.sync S s).2.puts.length ≤ _; omega
  · split
    · show (sbring _ _ _ _).2.puts.length ≤ _; omega
    · split
      · show (LG.trim _ _ _).2.1.puts.length ≤ _; omega
      · show (LG.trim _ _ _).2.1.puts.length ≤ _; omega
theorem StW.reF {w : World} {F F2 : Nat → Prop} {p s c q l m : Nat} {S : DS} {G : SG} (h : StW w F p s c q l m S G) (hF : ∀ k, F k → F2 k) (hlt : ∀ k, F2 k → k < w.heap.size) (nq : ¬ F2 q) (nl : ¬ F2 l) (nm : ¬ F2 m) : StW w F2 p s c q l m S G :=
  ⟨h.d.mono hF hlt, h.st, h.lp, h.ch, nq, nl, nm, h.ql, h.qm, h.lm, h.lk, h.bg, h.hs, h.kb⟩
theorem check_keeps (G : SG) (S : DS) (s : Nat) : (G.check S s).2.2.y = G.y := by
  unfold SG.check
  split
  · rfl
  · split
    · rfl
    · split <;> rfl

section
variable {w w' : World} {F : Nat → Prop} {p s cR q l m n : Nat} {S : DS} {G : SG} {cs : CM}

set_option maxRecDepth 20000 in
set_option maxHeartbeats 8000000 in
theorem commit_any (h : StW w F p s cR q l m S G) (hc : Ch w n cs) (hnF : ¬ F n) (_hnq : n ≠ q) (hnl : n ≠ l) (hnm : n ≠ m) (hkb : ∀ x ∈ cs, x.1 < G.y.blocks) (h16 : cs.length ≤ 16) (hby : S.Byt) (hbig : S.puts.length + 5000 ≤ 4000000000000) :
    Calls Tryz.prog 60 #[.pointer (some ⟨q, 0, none⟩), .map (some n)] w fun e w' => e = .returned (.int .i64 (G.commit S s cs).1) ∧ StW w' (more F w w') p s (cR + 19) q l m (G.commit S s cs).2.1 (G.commit S s cs).2.2 ∧ Ch w' n cs ∧ Keeps (fun k => F k ∨ k = l ∨ k = m) w w' := by
  have hlen := recOf_len (fun x hx => (hc.len x hx).2.1)
  have hrb := recOf_bytes (fun x hx => (hc.len x hx).2.2)
  have h1 := record_any hc
  have h2 := fun (w1 : World) (hb1 : Below w.heap.size w w1) => Room_any (h.later hb1).d.old (h.later hb1).lp h.lk
  have c1 := h.st.c1
  have H := h
  have HC := hc
  have HLt := h.d.lt
  have hqw := h.st.lt
  have hlw := h.lp.lt
  have hmw := h.ch.lt
  have hnw := hc.lt
  have hql := h.ql
  have hqm := h.qm
  have hlm := h.lm
  obtain ⟨R, hR⟩ : ∃ R, R = G.commit S s cs := ⟨_, rfl⟩
  rw [← hR]
  unfold SG.commit at hR
  obtain ⟨D, hD⟩ : ∃ D, D = recOf cs := ⟨_, rfl⟩
  rw [← hD] at hR hlen hrb h1
  clear hD
  have HCk := (fun (w2 : World) (h2 : StW w2 F p s cR q l m S G) => check_any h2 hby (by omega))
  have hpos : 0 < D.length := by omega
  have hsec := fun (w1 : World) (a : Option Addr) (c : Nat) => ssectors_any a D.length c w1 (by omega)
  have hcnt : (D.length + 491) / 492 = cntOf D.length := rfl
  rw [hcnt] at hsec
  have hl16 : D.length ≤ 8258 := by omega
  clear hcnt hlen
  go_enter Tryz.func60, Tryz.ntmps60
  go_wp2_with fail
  by_cases k1 : (G.L.room S).2 = 0
  · rw [if_neg (fun h => h k1)] at hR
    rw [k1] at h2
    clear k1
    have hro : G.roomy S D.length = decide ((cntOf D.length : Int) ≤ (G.L.room S).1) := rfl
    refine h1.mono ?_
    rintro e w1 ⟨⟨B1, hB1, hro⟩, hb1⟩
    obtain ⟨g, c, rfl, hg, hsr, hlc⟩ := hro.form hpos
    have c1 := (H.later hb1).st.c1
    have hr := h2 w1 hb1
    have HB1 := hb1
    have HSr := hsr
    have hgw : w.heap.size ≤ g := by omega
    have hg1 : g < w1.heap.size := hsr.old _ rfl hpos
    clear h1 h2 hro hsr hb1
    go_wp2_with fail
    refine hr.mono ?_
    rintro e w2 ⟨rfl, hb2⟩
    have hz2 := hb2.size
    have HB2 := HB1.trans (hb2.mono HB1.size)
    have HSr2 := (HSr.later hb2)
    clear hr hb2 HSr
    go_wp2_with fail
    refine (hsec w2 _ _).mono ?_
    by_cases k2 : G.roomy S D.length = true
    · have k2' : ¬ (G.L.room S).1 < (cntOf D.length : Int) := by rw [hro] at k2; have := of_decide_eq_true k2; omega
      have hmade : G.made S s D.length = (0, S, G) := by unfold SG.made; rw [if_pos k2]
      rw [hmade] at hR
      rw [if_neg (fun h => h rfl)] at hR
      clear h hc k2 hro hmade HCk
      generalize (G.L.room S).1 = E1 at *
      rintro e wz ⟨rfl, hw2⟩
      have HWZ := hw2.symm
      subst HWZ
      clear hw2 hsec
      have HSt := (H.later HB2)
      have HC2 := (HC.later HB2)
      have hgF2 : ¬ F g := fun hf => by have := HLt _ hf; omega
      have hF2 : ∀ k, F k → F k ∨ (w.heap.size ≤ k ∧ k < w2.heap.size) := fun k hk => .inl hk
      have HK2 := (Keeps.of_below (fun k => F k ∨ k = l ∨ k = m) HB2)
      have hap := B.Append_any HSt.d HSt.lp HSt.lk HSt.nl (some ⟨g, 0, none⟩) D.length c D HSr2 (fun y hy _ hf => by
        cases hy
        exact hgF2 hf) hrb hlc (by omega) (by omega)
      have hak := append_lk HSt.lk S D
      have cA := HSt.st.c1
      obtain ⟨A, hA⟩ : ∃ A, A = G.L.append S s D := ⟨_, rfl⟩
      rw [← hA] at hap hak hR
      clear hA
      by_cases kA : A.1 = 0
      · rw [if_neg (fun h => h kA)] at hR
        have dA : (A.1 != 0) = false := by rw [kA]; rfl
        have HR := hR
        clear hR kA
        go_wp2_with fail
        refine hap.mono ?_
        rintro e w3 ⟨rfl, hd3, hl3, hk3⟩
        have hz3 := hk3.size
        have hs3 := HSt.st.keep hk3 (fun e => e.elim HSt.nq hql)
        have hm3 := HSt.ch.keep hk3 (fun e => e.elim HSt.nm (fun e => hlm e.symm))
        have hc3 := HC2.keep hk3 (fun e => e.elim hnF hnl)
        have hmc := mcopy_any hm3 hc3 (fun e => hnm e.symm)
        have c7 := hs3.c7
        have H3 := (And.intro hd3 (And.intro hl3 (And.intro hk3 (And.intro hs3 hc3))))
        clear hap hd3 hl3 hk3 hs3 hm3 hc3
        go_wp2_with fail
        refine hmc.mono ?_
        rintro e w4 ⟨rfl, hm4, hk4⟩
        have hz4 := hk4.size
        have HN : (StW w4 (more F w w4) p s (cR + 19) q l m A.2.1 { G with L := A.2.2, ov := CM.over G.ov cs } ∧ Ch w4 n cs ∧ Keeps (fun k => F k ∨ k = l ∨ k = m) w w4) := by
          refine ⟨⟨((H3.1.le (by omega : cR + 17 ≤ cR + 19)).keep hk4 (fun k hk e => ?_)).mono (fun k hk => ?_) (more_lt (F := F) (w := w) HLt (by omega)), H3.2.2.2.1.keep hk4 hqm, H3.2.1.keep hk4 hlm, hm4, fun e => e.elim H.nq (fun e => by omega), fun e => e.elim H.nl (fun e => by omega), fun e => e.elim H.nm (fun e => by omega), hql, hqm, hlm, hak.1, hak.2.trans HSt.bg, HSt.hs, fun x hx => ?_⟩, H3.2.2.2.2.keep hk4 hnm, (HK2.trans H3.2.2.1 (fun k hk => ?_)).trans hk4 (fun _ e => .inl (.inr (.inr e)))⟩
          · subst e
            exact hk.elim HSt.nm (fun h => by omega)
          · rcases hk with hk | hk
            · exact (hF2 k hk).elim .inl (fun h => .inr ⟨h.1, by omega⟩)
            · exact .inr ⟨by omega, by omega⟩
          · rcases over_mem hx with hx | hx
            · exact HSt.kb x hx
            · exact hkb x hx
          · rcases hk with hk | hk
            · exact (hF2 k hk).elim (fun h => .inl (.inl h)) (fun h => .inr h.1)
            · exact .inl (.inr (.inl hk))
        clear hmc hm4 hk4
        go_wp2
        go_ret
        rw [HR]
        exact ⟨rfl, HN⟩
      · rw [if_pos kA] at hR
        have dA : (A.1 != 0) = true := by rw [bne_iff_ne]; exact kA
        have HR := hR
        clear hR kA
        go_wp2_with fail
        refine hap.mono ?_
        rintro e w3 ⟨rfl, hd3, hl3, hk3⟩
        have hz3 := hk3.size
        have HN : (StW w3 (more F w w3) p s (cR + 19) q l m A.2.1 { G with L := A.2.2 } ∧ Ch w3 n cs ∧ Keeps (fun k => F k ∨ k = l ∨ k = m) w w3) := by
          refine ⟨⟨(hd3.le (by omega : cR + 17 ≤ cR + 19)).mono (fun k hk => ?_) (more_lt (F := F) (w := w) HLt (by omega)), HSt.st.keep hk3 (fun e => e.elim HSt.nq hql), hl3, HSt.ch.keep hk3 (fun e => e.elim HSt.nm (fun e => hlm e.symm)), fun e => e.elim H.nq (fun e => by omega), fun e => e.elim H.nl (fun e => by omega), fun e => e.elim H.nm (fun e => by omega), hql, hqm, hlm, hak.1, hak.2.trans HSt.bg, HSt.hs, HSt.kb⟩, HC2.keep hk3 (fun e => e.elim hnF hnl), HK2.trans hk3 (fun k hk => ?_)⟩
          · rcases hk with hk | hk
            · exact (hF2 k hk).elim .inl (fun h => .inr ⟨h.1, by omega⟩)
            · exact .inr ⟨by omega, hk.2⟩
          · rcases hk with hk | hk
            · exact (hF2 k hk).elim (fun h => .inl (.inl h)) (fun h => .inr h.1)
            · exact .inl (.inr (.inl hk))
        clear hap hd3 hl3 hk3
        go_wp2
        go_ret
        rw [HR]
        exact ⟨rfl, HN⟩
    · have k2' : (G.L.room S).1 < (cntOf D.length : Int) := by rw [hro] at k2; exact Decidable.byContradiction (fun h => k2 (decide_eq_true (by omega)))
      have hmade : G.made S s D.length = G.check S s := by unfold SG.made; rw [if_neg k2]
      rw [hmade] at hR
      have hcp := check_puts G S s
      have hcy := check_keeps G S s
      have hom := h.ch.small
      obtain ⟨K, hK⟩ : ∃ K, K = G.check S s := ⟨_, rfl⟩
      rw [← hK] at hR hcp hcy HCk
      clear h hc k2 hro hmade hK
      generalize (G.L.room S).1 = E1 at *
      rintro e w2 ⟨rfl, hw2⟩
      have HWZ := hw2.symm
      subst HWZ
      clear hw2 hsec
      have hck := HCk w2 (H.later HB2)
      by_cases kK : K.1 = 0
      · rw [if_neg (fun h => h kK)] at hR
        have dK : (K.1 != 0) = false := by rw [kK]; rfl
        clear kK
        go_wp2_with fail
        refine hck.mono ?_
        rintro e w5 ⟨rfl, hSt5, hk5⟩
        have hz5 := hk5.size
        have HSt := hSt5
        have hgF3 : ¬ more F w2 w5 g := fun hf => hf.elim (fun hf => by have := HLt _ hf; omega) (fun hf => by omega)
        have HSr3 := (HSr2.avoid hk5 (fun y hy _ e => by
          cases hy
          rcases e with e | e | e
          · have : g < w.heap.size := HLt _ e
            omega
          · have : g = l := e
            omega
          · have : g = m := e
            omega))
        have HC3 := ((HC.later HB2).keep hk5 (fun e => by
          rcases e with e | e | e
          · exact hnF e
          · exact hnl e
          · exact hnm e))
        have hnF3 : ¬ more F w2 w5 n := fun e => e.elim hnF (fun e => by omega)
        have hF3 : ∀ k, more F w2 w5 k → F k ∨ (w.heap.size ≤ k ∧ k < w5.heap.size) := fun k hk => hk.elim .inl (fun h => .inr ⟨by omega, h.2⟩)
        have HK3 := ((Keeps.of_below (fun k => F k ∨ k = l ∨ k = m) HB2).trans hk5 (fun _ h => .inl h))
        have hkb3 : ∀ x ∈ cs, x.1 < K.2.2.y.blocks := by rw [hcy]; exact hkb
        clear hck hSt5 hk5
        have hap := B.Append_any HSt.d HSt.lp HSt.lk HSt.nl (some ⟨g, 0, none⟩) D.length c D HSr3 (fun y hy _ hf => by
          cases hy
          exact hgF3 hf) hrb hlc (by omega) (by omega)
        have hak := append_lk HSt.lk K.2.1 D
        have cA := HSt.st.c1
        obtain ⟨A, hA⟩ : ∃ A, A = K.2.2.L.append K.2.1 s D := ⟨_, rfl⟩
        rw [← hA] at hap hak hR
        clear hA
        by_cases kA : A.1 = 0
        · rw [if_neg (fun h => h kA)] at hR
          have dA : (A.1 != 0) = false := by rw [kA]; rfl
          have HR := hR
          clear hR kA
          go_wp2_with fail
          refine hap.mono ?_
          rintro e w6 ⟨rfl, hd3, hl3, hk3⟩
          have hz3 := hk3.size
          have hs3 := HSt.st.keep hk3 (fun e => e.elim HSt.nq hql)
          have hm3 := HSt.ch.keep hk3 (fun e => e.elim HSt.nm (fun e => hlm e.symm))
          have hc3 := HC3.keep hk3 (fun e => e.elim hnF3 hnl)
          have hmc := mcopy_any hm3 hc3 (fun e => hnm e.symm)
          have c7 := hs3.c7
          have H3 := (And.intro hd3 (And.intro hl3 (And.intro hk3 (And.intro hs3 hc3))))
          clear hap hd3 hl3 hk3 hs3 hm3 hc3
          go_wp2_with fail
          refine hmc.mono ?_
          rintro e w7 ⟨rfl, hm4, hk4⟩
          have hz4 := hk4.size
          have HN : (StW w7 (more F w w7) p s (cR + 19) q l m A.2.1 { K.2.2 with L := A.2.2, ov := CM.over K.2.2.ov cs } ∧ Ch w7 n cs ∧ Keeps (fun k => F k ∨ k = l ∨ k = m) w w7) := by
            refine ⟨⟨((H3.1.le (by omega : (cR + 2) + 17 ≤ cR + 19)).keep hk4 (fun k hk e => ?_)).mono (fun k hk => ?_) (more_lt (F := F) (w := w) HLt (by omega)), H3.2.2.2.1.keep hk4 hqm, H3.2.1.keep hk4 hlm, hm4, fun e => e.elim H.nq (fun e => by omega), fun e => e.elim H.nl (fun e => by omega), fun e => e.elim H.nm (fun e => by omega), hql, hqm, hlm, hak.1, hak.2.trans HSt.bg, HSt.hs, fun x hx => ?_⟩, H3.2.2.2.2.keep hk4 hnm, (HK3.trans H3.2.2.1 (fun k hk => ?_)).trans hk4 (fun _ e => .inl (.inr (.inr e)))⟩
            · subst e
              exact hk.elim HSt.nm (fun h => by omega)
            · rcases hk with hk | hk
              · exact (hF3 k hk).elim .inl (fun h => .inr ⟨h.1, by omega⟩)
              · exact .inr ⟨by omega, by omega⟩
            · rcases over_mem hx with hx | hx
              · exact HSt.kb x hx
              · exact hkb3 x hx
            · rcases hk with hk | hk
              · exact (hF3 k hk).elim (fun h => .inl (.inl h)) (fun h => .inr h.1)
              · exact .inl (.inr (.inl hk))
          clear hmc hm4 hk4
          go_wp2
          go_ret
          rw [HR]
          exact ⟨rfl, HN⟩
        · rw [if_pos kA] at hR
          have dA : (A.1 != 0) = true := by rw [bne_iff_ne]; exact kA
          have HR := hR
          clear hR kA
          go_wp2_with fail
          refine hap.mono ?_
          rintro e w6 ⟨rfl, hd3, hl3, hk3⟩
          have hz3 := hk3.size
          have HN : (StW w6 (more F w w6) p s (cR + 19) q l m A.2.1 { K.2.2 with L := A.2.2 } ∧ Ch w6 n cs ∧ Keeps (fun k => F k ∨ k = l ∨ k = m) w w6) := by
            refine ⟨⟨(hd3.le (by omega : (cR + 2) + 17 ≤ cR + 19)).mono (fun k hk => ?_) (more_lt (F := F) (w := w) HLt (by omega)), HSt.st.keep hk3 (fun e => e.elim HSt.nq hql), hl3, HSt.ch.keep hk3 (fun e => e.elim HSt.nm (fun e => hlm e.symm)), fun e => e.elim H.nq (fun e => by omega), fun e => e.elim H.nl (fun e => by omega), fun e => e.elim H.nm (fun e => by omega), hql, hqm, hlm, hak.1, hak.2.trans HSt.bg, HSt.hs, HSt.kb⟩, HC3.keep hk3 (fun e => e.elim hnF3 hnl), HK3.trans hk3 (fun k hk => ?_)⟩
            · rcases hk with hk | hk
              · exact (hF3 k hk).elim .inl (fun h => .inr ⟨h.1, by omega⟩)
              · exact .inr ⟨by omega, hk.2⟩
            · rcases hk with hk | hk
              · exact (hF3 k hk).elim (fun h => .inl (.inl h)) (fun h => .inr h.1)
              · exact .inl (.inr (.inl hk))
          clear hap hd3 hl3 hk3
          go_wp2
          go_ret
          rw [HR]
          exact ⟨rfl, HN⟩
      · rw [if_pos kK] at hR
        have dK : (K.1 != 0) = true := by rw [bne_iff_ne]; exact kK
        have HR := hR
        clear kK hR
        go_wp2_with fail
        refine hck.mono ?_
        rintro e w5 ⟨rfl, hSt5, hk5⟩
        have hz5 := hk5.size
        have HN : (StW w5 (more F w w5) p s (cR + 19) q l m K.2.1 K.2.2 ∧ Ch w5 n cs ∧ Keeps (fun k => F k ∨ k = l ∨ k = m) w w5) := by
          have h9 := hSt5.reF (F2 := more F w w5) (fun k hk => hk.elim .inl (fun h => .inr ⟨by omega, h.2⟩)) (more_lt (F := F) (w := w) HLt (by omega)) (fun e => e.elim H.nq (fun e => by omega)) (fun e => e.elim H.nl (fun e => by omega)) (fun e => e.elim H.nm (fun e => by omega))
          refine ⟨⟨h9.d.le (by omega), h9.st, h9.lp, h9.ch, h9.nq, h9.nl, h9.nm, h9.ql, h9.qm, h9.lm, h9.lk, h9.bg, h9.hs, h9.kb⟩, (HC.later HB2).keep hk5 (fun e => ?_), (Keeps.of_below (fun k => F k ∨ k = l ∨ k = m) HB2).trans hk5 (fun _ h => .inl h)⟩
          rcases e with e | e | e
          · exact hnF e
          · exact hnl e
          · exact hnm e
        clear hck hSt5 hk5
        go_wp2
        go_ret
        rw [HR]
        exact ⟨rfl, HN⟩
  · rw [if_pos k1] at hR
    have d1 : ((G.L.room S).2 != 0) = true := by rw [bne_iff_ne]; exact k1
    have HR := hR
    clear k1 hR h hc hsec hrb
    generalize (G.L.room S).2 = E at *
    generalize (G.L.room S).1 = E1 at *
    refine h1.mono ?_
    rintro e w1 ⟨⟨B1, hB1, hro⟩, hb1⟩
    obtain ⟨g, c, rfl, hg, hsr, hlc⟩ := hro.form hpos
    have c1 := (H.later hb1).st.c1
    have hr := h2 w1 hb1
    have HB1 := hb1
    clear h1 h2 hro hsr hb1
    go_wp2_with fail
    refine hr.mono ?_
    rintro e w2 ⟨rfl, hb2⟩
    have hB := HB1.trans (hb2.mono HB1.size)
    have HN : (StW w2 (more F w w2) p s (cR + 19) q l m S G ∧ Ch w2 n cs ∧ Keeps (fun k => F k ∨ k = l ∨ k = m) w w2) := ⟨H.moved ((H.d.later hB).more.le (by omega)) (H.st.later hB) (H.lp.later hB) (H.ch.later hB) H.lk H.bg H.kb, HC.later hB, Keeps.of_below _ hB⟩
    clear hr hb2 hB
    go_wp2
    go_ret
    rw [HR]
    exact ⟨rfl, HN⟩
end
end Go.Proofs.YtokcgifpljeoiaaGreat
end

section
namespace Go.Proofs.YtokcgifpljeoiaaGreat
open Go.RowKit Go.Maps

section
variable {w w' : World} {F : Nat → Prop} {p s cR q l m t n : Nat} {S : DS} {G : SG} {T : TG}

set_option maxRecDepth 20000 in
/-- Sync: the log is made ready, and nothing else changes. -/
theorem ssync_any (h : StW w F p s cR q l m S G) (hbig : S.puts.length + 1 ≤ 4000000000000) :
    Calls Tryz.prog 25 #[.pointer (some ⟨q, 0, none⟩)] w fun e w' => e = .returned (.int .i64 (G.L.sync S s).1) ∧ StW w' F p s cR q l m (G.L.sync S s).2 G ∧ Keeps F w w' := by
  have h1 := B.Sync_any h.d h.lp h.nl hbig
  have c1 := h.st.c1
  generalize G.L.sync S s = Z at *
  go_enter Tryz.func25, Tryz.ntmps25
  go_wp2_with fail
  refine h1.mono ?_
  rintro e w1 ⟨rfl, hd, hl, hk⟩
  have HN : (StW w1 F p s cR q l m Z.2 G ∧ Keeps F w w1) := ⟨⟨hd, h.st.keep hk h.nq, hl, h.ch.keep hk h.nm, h.nq, h.nl, h.nm, h.ql, h.qm, h.lm, h.lk, h.bg, h.hs, h.kb⟩, hk⟩
  go_wp2
  go_ret
  exact ⟨rfl, HN⟩

/-- What a transaction has put and not put back. -/
def TG.news (T : TG) (G : SG) (S : DS) : CM := T.puts.filter fun x => !decide (x.2 = G.block S x.1)
/-- Commit. -/
def TG.commit (T : TG) (G : SG) (S : DS) (s : Nat) : Int × DS × SG × TG :=
  if T.state G S ≠ 0 then (T.state G S, S, G, T) else
  if T.news G S = [] then (0, S, { G with busy := false }, T.close) else
  if (G.commit S s (T.news G S)).1 ≠ 0 then ((G.commit S s (T.news G S)).1, (G.commit S s (T.news G S)).2.1, (G.commit S s (T.news G S)).2.2, T)
  else (0, (G.commit S s (T.news G S)).2.1, { (G.commit S s (T.news G S)).2.2 with busy := false }, T.close)
end
end Go.Proofs.YtokcgifpljeoiaaGreat
end

section
namespace Go.Proofs.YtokcgifpljeoiaaGreat
open Go.RowKit Go.Maps

theorem CM.ok_filter {ms : CM} (h : CM.Ok ms) (P : Nat × List Int → Bool) : CM.Ok (ms.filter P) := List.Pairwise.filter P h
theorem CM.get_filter {ms : CM} (h : CM.Ok ms) (P : Nat × List Int → Bool) (k : Nat) : CM.get (ms.filter P) k = (CM.get ms k).filter (fun c => P (k, c)) := by
  induction ms with
  | nil => rfl
  | cons x xs ih =>
    have hx := List.pairwise_cons.1 h
    obtain ⟨j, c⟩ := x
    rw [CM.get_cons]
    by_cases e : j = k
    · subst e
      rw [if_pos rfl]
      cases hp : P (j, c)
      · rw [List.filter_cons_of_neg (by rw [hp]; decide), ih hx.2, CM.get_none_of (fun y hy e => by have := hx.1 y hy; simp only at this; omega)]
        simp [hp, Option.filter]
      · rw [List.filter_cons_of_pos hp, CM.get_cons, if_pos rfl]
        simp [hp, Option.filter]
    · rw [if_neg e]
      cases hp : P (j, c)
      · rw [List.filter_cons_of_neg (by rw [hp]; decide), ih hx.2]
      · rw [List.filter_cons_of_pos hp, CM.get_cons, if_neg e, ih hx.2]
/-- What has come already and is not what was: the rest is still to come. -/
def NewsTo (ms X : CM) (was : Nat → List Int) (left : Lit → Bool) : Prop := ∀ k, CM.get X k = if left (kk k) = false then (CM.get ms k).filter (fun c => !decide (c = was k)) else none
theorem NewsTo.start {ms : CM} {was : Nat → List Int} {left : Lit → Bool} (h : ∀ k c, CM.get ms k = some c → left (kk k) = true) : NewsTo ms [] was left := fun k => by
  show none = _
  split
  · rename_i e
    cases hg : CM.get ms k with
    | none => rfl
    | some c => rw [h k c hg] at e; cases e
  · rfl
theorem NewsTo.done {ms X : CM} {was : Nat → List Int} {left : Lit → Bool} (h : NewsTo ms X was left) (hX : CM.Ok X) (hm : CM.Ok ms) (hl : ∀ kl, left kl = false) : X = ms.filter (fun x => !decide (x.2 = was x.1)) := by
  refine CM.ext hX (CM.ok_filter hm _) (fun k => ?_)
  rw [h k, if_pos (hl _), CM.get_filter hm]
theorem NewsTo.keep {ms X : CM} {was : Nat → List Int} {left : Lit → Bool} {k : Nat} {c : List Int} (h : NewsTo ms X was left) (hg : CM.get ms k = some c) (hl : left (kk k) = true) (hc : c = was k) : NewsTo ms X was (fun z => left z && !z.sameKey (kk k)) := fun j => by
  rw [h j]
  show _ = if (left (kk j) && !(kk j).sameKey (kk k)) = false then _ else _
  rw [same_kk]
  by_cases e : j = k
  · subst e
    simp [hg, hl, hc, Option.filter]
  · simp [e]
theorem NewsTo.put {ms X : CM} {was : Nat → List Int} {left : Lit → Bool} {k : Nat} {c : List Int} (h : NewsTo ms X was left) (hX : CM.Ok X) (hg : CM.get ms k = some c) (hc : c ≠ was k) : NewsTo ms (CM.put X k c) was (fun z => left z && !z.sameKey (kk k)) := fun j => by
  rw [CM.get_put _ _ _ _ hX, h j]
  show _ = if (left (kk j) && !(kk j).sameKey (kk k)) = false then _ else _
  rw [same_kk]
  by_cases e : j = k
  · subst e
    simp [hg, hc, Option.filter]
  · simp [e]
end Go.Proofs.YtokcgifpljeoiaaGreat
end

section
namespace Go.Proofs.YtokcgifpljeoiaaGreat
open Go.RowKit Go.Maps

/-- A range under way looks at two blocks alone. -/
theorem ranges_agree {P : Program} {k : TypeId} {R : Value → Option (DataW Value × List MemPlace)} {w w' : World} {b r n : Nat} {D : DataW Value} {left : Lit → Bool} {cnt : Nat} (h : w.ranges P k R b r n D left cnt) (h1 : w'.heap[b]? = w.heap[b]?) (h2 : w'.heap[r]? = w.heap[r]?) : w'.ranges P k R b r n D left cnt := by
  obtain ⟨es, clock, since, seen, c0, hb, hF, hs, hD, hr, rest⟩ := h
  exact ⟨es, clock, since, seen, c0, h1.trans hb, hF, hs, hD, h2.trans hr, rest⟩

section
variable {w w' : World} {F : Nat → Prop} {p s cR q l m t n : Nat} {S : DS} {G : SG} {T : TG}

set_option maxRecDepth 20000 in
set_option maxHeartbeats 8000000 in
theorem changed_low {D : DataW Value} (h : StW w F p s cR q l m S G) (ht : TxW w F q l m t n G T) (hn : ChAt w n T.puts D) (hf : S.fuse ≠ 0) (hbig : S.puts.length + 1 ≤ 4000000000000) :
    Calls Tryz.prog 59 #[.pointer (some ⟨t, 0, none⟩)] w fun e w' => e = .returned (.tuple #[.map (some w.heap.size), .int .i64 0]) ∧ Ch w' w.heap.size (T.news G S) ∧ B.DiskR w' F p s S (cR + T.puts.length) ∧ Keeps F w w' := by
  have hnl := hn.lt
  have hzc := zeroCon
  have HS := Hid.mk h
  have HT := Hid.mk ht
  have H := Hid.mk hn
  have HLt := Hid.mk h.d.lt
  have hmm := @run_makeMap Tryz.prog
  have hm := Ch.made w
  obtain ⟨wM, hwM⟩ : ∃ wM, wM = w.alloc (.map #[] 0) := ⟨_, rfl⟩
  rw [← hwM] at hm
  have hbM : Below w.heap.size w wM := by rw [hwM]; exact below_box _ _
  have hzM : wM.heap.size = w.heap.size + 1 := by rw [hwM, World.size_alloc]
  have c1 := (ht.later hbM).c1
  have HwM := Hid.mk hwM
  have HM := Hid.mk hm
  have HBM := Hid.mk hbM
  subst hwM
  clear h ht hn hm hbM
  go_enter Tryz.func59, Tryz.ntmps59
  go_wp2_with (at_range; refine wpList_range_own _ rfl _ 102 rfl 3 118 keyInt Tryz.underlying102 Ra n T.puts.length D rfl (H.out.agree (HBM.out.block n hnl)).own ?_; intro w0 hrg0 hg0 hs0; go_frame)
  have HB0 : Hid (Below w.heap.size w w0) := HBM.out.trans (((Below.refl _ _).grown hg0 (Nat.le_refl _) (fun j hj => by cases hj)).mono (by omega))
  have HM0 := Hid.mk (HM.out.agree (hg0.block _ HM.out.lt (fun e => by cases e)))
  rw [hzM] at hrg0 hs0
  clear hg0 c1 hmm HM HBM hzM HwM
  go_loopw [5] (fun _ wr => ∃ (left : Lit → Bool) (cnt u : Nat) (X : CM), wr.ranges Tryz.prog 3 Ra n (w.heap.size + 1) T.puts.length D left cnt ∧ Ch wr w.heap.size X ∧ NewsTo T.puts X (G.block S) left ∧ B.DiskR wr F p s S (cR + u) ∧ u + cnt ≤ T.puts.length ∧ Keeps F w wr ∧ w.heap.size + 2 ≤ wr.heap.size)
    (fun _ wr => wr.rangeLeft n (w.heap.size + 1))
  case atStart =>
    exact ⟨_, _, 0, [], hrg0, HM0.out, NewsTo.start (fun k c hk => (H.out.at' k c hk).1), HS.out.d.later HB0.out, by rw [H.out.siz]; omega, Keeps.of_below _ HB0.out, by omega⟩
  case round =>
    clear hrg0 HB0 HM0 hs0
    obtain ⟨left, cnt, u, X, hrg, hX, hnt, hd, hu, hkp, hsz⟩ := hrel
    go_wp2_with (at_next; refine wpList_next_ranges _ rfl _ rfl 3 keyInt Ra (Value.int .i64) Value.agg (fun key kl hkey => by obtain ⟨x, rfl, _⟩ := Maps.keyOf_int_inv Tryz.underlying3 hkey; exact ⟨x, rfl⟩) Ra_agg n (w.heap.size + 1) T.puts.length _ _ _ rfl hrg ?_ ?_)
    · intro _ hl0
      have hXo : X = T.news G S := hnt.done hX.ok H.out.ok hl0
      have HN := Hid.mk (And.intro (hXo ▸ hX) (And.intro (hd.le (by omega : cR + u ≤ cR + T.puts.length)) hkp))
      clear hrg hX hnt hd hkp H HS HT hXo
      go_wp2
      go_ret2
      exact ⟨rfl, HN.out⟩
    · intro x ca kl yd yp w2 cnt2 hkey hlk hv hat hrg2 hlt hg2 hs2 hen
      obtain ⟨k, c, rfl, rfl, hgc, hca⟩ := H.out.meets hkey hv hat
      have hq5 := H.out.len _ (CM.get_mem hgc)
      have hkb : k < G.y.blocks := HT.out.kb _ (CM.get_mem hgc)
      have hlenC := block_len HS.out k hkb
      injection hca with hca
      have hst := con_stored w2 hq5.2.1
      have hinfo := infoConL hq5.2.1
      have hone := bs_one c
      obtain ⟨A, hA⟩ : ∃ A, A = bs c := ⟨_, rfl⟩
      rw [← hA] at hca hst hinfo hone
      have hF5 : A.length = 512 := by rw [hA, bs, List.length_map, hq5.2.1]
      have hall := all_oneCell_toArray hone
      subst hca
      have hkr : Keeps (fun j => j = w.heap.size + 1) wr w2 := ⟨hg2.os, hg2.tape, hg2.output, hg2.size, fun j hj hne => hg2.block j hj (fun e => hne (by injection e))⟩
      have hd2 := hd.keep hkr (fun j hj e => by have := HLt.out _ hj; omega)
      have hX2 := hX.keep hkr (fun e => by omega)
      obtain ⟨wS, hwS⟩ : ∃ wS, wS = (w2.alloc (.cells zsec 118)).setCells w2.heap.size 0 A := ⟨_, rfl⟩
      have hth := hst.2.2
      have hbS : Below w2.heap.size w2 wS := by rw [hwS]; exact hst.2.1
      have hblkS : Blk wS 118 w2.heap.size c := by rw [hwS]; exact hst.1
      have hkpS := (hkp.trans hkr (fun j e => .inr (by omega))).trans (Keeps.of_below (fun _ => False) hbS) (fun _ h => h.elim)
      have c0 := (HT.out.asked hkpS).c0
      have h2 := committed_any (HS.out.asked (hd2.later hbS) hkpS) k hkb hf hbig
      have hzS := hbS.size
      have HS2 := Hid.mk (And.intro (ranges_agree hrg2 (hbS.block _ hrg2.owns.lt) (hbS.block _ hrg2.lt)) (And.intro (hX2.later hbS) (And.intro hkpS hblkS)))
      have HwS := Hid.mk hwS
      have HA := Hid.mk hA
      have HG := Hid.mk (And.intro hgc (And.intro hlk (And.intro hnt hq5)))
      have hsz2 : w.heap.size + 2 ≤ w2.heap.size := by omega
      clear hkey hv hat hg2 hX hX2 hkp hkr hd hd2 hbS hblkS hkpS hone hgc hrg2 hst hnt hlk hs2 hA hwS
      have hlS := HS2.out.2.2.2.lt
      go_upto_region 5 with (refine wpList_store_mid rfl 118 _ _ rfl w2.heap.size 0 A.toArray rfl rfl ?h1 ?h2 hall ?_)
      case h1 => first | simpa using hth | (rw [hF5] at hth; simpa using hth)
      have hwS' := HwS.out
      subst hwS'
      generalize hww : (w2.alloc (.cells zsec 118)).setCells w2.heap.size 0 A = wS at *
      clear hww hth HwS hen
      unfold cV at h2
      obtain ⟨C, hC⟩ : ∃ C, C = bs (G.block S k) := ⟨_, rfl⟩
      rw [← hC] at h2
      have HC := Hid.mk hC
      clear hC
      go_wp2_with fail
      refine h2.mono ?_
      rintro e w3 ⟨rfl, hd3, hk3⟩
      have hz3 := hk3.size
      have hst := con_stored w3 hlenC
      have hinfoC := infoConL hlenC
      have honeC := bs_one (G.block S k)
      rw [← HC.out] at hst hinfoC honeC
      have hC5 : C.length = 512 := by rw [HC.out, bs, List.length_map, hlenC]
      have hallC := all_oneCell_toArray honeC
      have hth := hst.2.2
      obtain ⟨wD, hwD⟩ : ∃ wD, wD = (w3.alloc (.cells zsec 118)).setCells w3.heap.size 0 C := ⟨_, rfl⟩
      have hbD : Below w3.heap.size w3 wD := by rw [hwD]; exact hst.2.1
      have hzD := hbD.size
      have hblkC : Blk wD 118 w3.heap.size (G.block S k) := by rw [hwD]; exact hst.1
      have hnA : ∀ j, w.heap.size ≤ j → ¬ F j := fun j hj hf => by have := HLt.out _ hf; omega
      have hblkA := (HS2.out.2.2.2.keep (hk3.block _ hlS (hnA _ (by omega)))).keep (hbD.block _ (by omega))
      have raA : wD.rangeAt w2.heap.size 0 A := fun j v hv => by
        have := hblkA.news j v (by rw [← HA.out]; exact hv)
        rwa [addr_add] at this
      have raC : wD.rangeAt w3.heap.size 0 C := fun j v hv => by
        have := hblkC.news j v (by rw [← HC.out]; exact hv)
        rwa [addr_add] at this
      have hrgD := ranges_agree (ranges_agree HS2.out.1 (hk3.block _ (by omega) HT.out.nn) (hk3.block _ HS2.out.1.lt (hnA _ (by omega)))) (hbD.block _ (by omega)) (hbD.block _ (by omega))
      have hXD := (HS2.out.2.1.keep hk3 (hnA _ (by omega))).later hbD
      have hkpD := (HS2.out.2.2.1.trans hk3 (fun _ h => .inl h)).trans (Keeps.of_below (fun _ => False) hbD) (fun _ h => h.elim)
      have hdD : B.DiskR wD F p s S (cR + (u + 1)) := hd3.later hbD
      by_cases ke : c = G.block S k
      · have dv : (!decide (c = G.block S k)) = false := by rw [decide_eq_true ke]; rfl
        have HN : Hid (wD.ranges Tryz.prog 3 Ra n (w.heap.size + 1) T.puts.length D (fun z => left z && !z.sameKey (kk k)) cnt2 ∧ Ch wD w.heap.size X ∧ NewsTo T.puts X (G.block S) (fun z => left z && !z.sameKey (kk k)) ∧ B.DiskR wD F p s S (cR + (u + 1)) ∧ (u + 1) + cnt2 ≤ T.puts.length ∧ Keeps F w wD ∧ w.heap.size + 2 ≤ wD.heap.size) := ⟨hrgD, hXD, HG.out.2.2.1.keep HG.out.1 HG.out.2.1 ke, hdD, by omega, hkpD, by omega⟩
        have hlq := HG.out.2.2.2.2.1
        clear h2 hd3 hk3 hst honeC hbD hblkC hblkA hrgD hXD hkpD hdD ke hnA
        subst hwD
        go_upto_region 6 with (refine wpList_store_mid rfl 118 _ _ rfl w3.heap.size 0 C.toArray rfl rfl ?h3 ?h4 hallC ?_)
        case h3 => first | simpa using hth | (rw [hC5] at hth; simpa using hth)
        case h4 => simpa using hinfoC
        go_wp2_with (first | refine wpList_load_mid rfl 118 _ rfl w2.heap.size 0 rfl A _ raA Tryz.underlying118 rfl hinfo ?_ | refine wpList_load_mid rfl 118 _ rfl w3.heap.size 0 rfl C _ raC Tryz.underlying118 rfl hinfoC ?_ | refine wpList_ne_con rfl _ _ _ rfl A C c (G.block S k) HA.out HC.out rfl rfl hlq hlenC false dv ?_)
        go_frame
        go_roundw
        case rel => exact ⟨_, cnt2, u + 1, X, HN.out⟩
        case measure => rw [HN.out.1.left_eq, hrg.left_eq]; exact hlt
      · have dv : (!decide (c = G.block S k)) = true := by rw [decide_eq_false ke]; rfl
        obtain ⟨wU, hrun, hch, hkU, hszU⟩ := hXD.store k HG.out.2.2.2.1 c HG.out.2.2.2.2.1 HG.out.2.2.2.2.2
        have hrun' : (Instr.mapUpdate 102 (.map (some w.heap.size)) (.int .i64 (k : Int)) (.agg A.toArray)).run Tryz.prog wD = .ok () wU := by rw [HA.out]; exact hrun
        have HN : Hid (wU.ranges Tryz.prog 3 Ra n (w.heap.size + 1) T.puts.length D (fun z => left z && !z.sameKey (kk k)) cnt2 ∧ Ch wU w.heap.size (CM.put X k c) ∧ NewsTo T.puts (CM.put X k c) (G.block S) (fun z => left z && !z.sameKey (kk k)) ∧ B.DiskR wU F p s S (cR + (u + 1)) ∧ (u + 1) + cnt2 ≤ T.puts.length ∧ Keeps F w wU ∧ w.heap.size + 2 ≤ wU.heap.size) := ⟨ranges_agree hrgD (hkU.block _ (by omega) (fun e => by omega)) (hkU.block _ hrgD.lt (fun e => by omega)), hch, HG.out.2.2.1.put hXD.ok HG.out.1 ke, hdD.keep hkU (fun j hj e => hnA _ (Nat.le_of_eq e.symm) hj), by omega, hkpD.trans hkU (fun j e => .inr (by omega)), by have := hkU.size; omega⟩
        have hlq := HG.out.2.2.2.2.1
        clear h2 hd3 hk3 hst honeC hbD hblkC hblkA hrgD hXD hkpD hdD ke hnA hrun hch hkU hszU
        subst hwD
        go_upto_region 6 with (refine wpList_store_mid rfl 118 _ _ rfl w3.heap.size 0 C.toArray rfl rfl ?h3 ?h4 hallC ?_)
        case h3 => first | simpa using hth | (rw [hC5] at hth; simpa using hth)
        case h4 => simpa using hinfoC
        go_wp2_with (first | refine wpList_load_mid rfl 118 _ rfl w2.heap.size 0 rfl A _ raA Tryz.underlying118 rfl hinfo ?_ | refine wpList_load_mid rfl 118 _ rfl w3.heap.size 0 rfl C _ raC Tryz.underlying118 rfl hinfoC ?_ | refine wpList_ne_con rfl _ _ _ rfl A C c (G.block S k) HA.out HC.out rfl rfl hlq hlenC true dv ?_)
        go_roundw
        case rel => exact ⟨_, cnt2, u + 1, _, HN.out⟩
        case measure => rw [HN.out.1.left_eq, hrg.left_eq]; exact hlt
theorem changed_any (h : StW w F p s cR q l m S G) (ht : TxW w F q l m t n G T) (hf : S.fuse ≠ 0) (hbig : S.puts.length + 1 ≤ 4000000000000) :
    Calls Tryz.prog 59 #[.pointer (some ⟨t, 0, none⟩)] w fun e w' => e = .returned (.tuple #[.map (some w.heap.size), .int .i64 0]) ∧ Ch w' w.heap.size (T.news G S) ∧ B.DiskR w' F p s S (cR + T.puts.length) ∧ Keeps F w w' := by
  obtain ⟨D, hn⟩ := ht.ch
  exact changed_low h ht hn hf hbig
end
end Go.Proofs.YtokcgifpljeoiaaGreat
end

section
namespace Go.Proofs.YtokcgifpljeoiaaGreat
open Go.RowKit Go.Maps

theorem commit_y (G : SG) (S : DS) (s : Nat) (c : CM) : (G.commit S s c).2.2.y = G.y := by
  have hm : ∀ x, (G.made S s x).2.2.y = G.y := fun x => by
    unfold SG.made
    split
    · rfl
    · exact check_keeps G S s
  unfold SG.commit
  split
  · rfl
  · split
    · exact hm _
    · split
      · exact hm _
      · exact hm _
theorem state_zero {T : TG} {G : SG} {S : DS} (h : T.state G S = 0) : G.L.dead S = false := by
  cases hd : G.L.dead S
  · rfl
  · exfalso
    have : T.over G S = 3 := by unfold TG.over; rw [hd]; rfl
    unfold TG.state at h
    rw [this, if_pos (by decide)] at h
    revert h
    decide
theorem news_sub {T : TG} {G : SG} {S : DS} {x : Nat × List Int} (h : x ∈ T.news G S) : x ∈ T.puts := (List.mem_filter.1 h).1
theorem news_le (T : TG) (G : SG) (S : DS) : (T.news G S).length ≤ T.puts.length := List.length_filter_le _ _

section
variable {w w' : World} {F : Nat → Prop} {p s cR q l m t n : Nat} {S : DS} {G : SG} {T : TG}
theorem StW.le {c' : Nat} (h : StW w F p s cR q l m S G) (hc : cR ≤ c') : StW w F p s c' q l m S G :=
  ⟨h.d.le hc, h.st, h.lp, h.ch, h.nq, h.nl, h.nm, h.ql, h.qm, h.lm, h.lk, h.bg, h.hs, h.kb⟩
theorem TxW.re {F2 H : Nat → Prop} {G' : SG} (h : TxW w F q l m t n G T) (hk : Keeps H w w') (ht : ¬ H t) (hn : ¬ H n) (h1 : ¬ F2 t) (h2 : ¬ F2 n) (hy : G'.y = G.y) : TxW w' F2 q l m t n G' T :=
  ⟨(hk.block t (lt_there h.tx) ht).trans h.tx, h.ch.keep hk hn, h1, h2, h.tq, h.tl, h.tm, h.tn, h.nq, h.nl, h.nm, fun x hx => by rw [hy]; exact h.kb x hx⟩
theorem end_st (h : StW w F p s cR q l m S G) (ht : TxW w F q l m t n G T) :
    Calls Tryz.prog 61 #[.pointer (some ⟨t, 0, none⟩)] w fun e w' => e = .returned (.tuple #[]) ∧ StW w' F p s cR q l m S { G with busy := false } ∧ TxW w' F q l m t n { G with busy := false } T.close ∧ Keeps (fun k => k = t ∨ k = n ∨ k = q) w w' := by
  refine (end_any h.st ht).mono ?_
  rintro e w1 ⟨rfl, h1, h2, h3, hk⟩
  refine ⟨rfl, ⟨h.d.keep hk (fun k hf e => ?_), h3, h.lp.keep hk (fun e => ?_), h.ch.keep hk (fun e => ?_), h.nq, h.nl, h.nm, h.ql, h.qm, h.lm, h.lk, h.bg, h.hs, h.kb⟩, ⟨h1, h2, ht.nt, ht.nn, ht.tq, ht.tl, ht.tm, ht.tn, ht.nq, ht.nl, ht.nm, fun x hx => by cases hx⟩, hk⟩
  · rcases e with e | e | e
    · exact ht.nt (e ▸ hf)
    · exact ht.nn (e ▸ hf)
    · exact h.nq (e ▸ hf)
  · rcases e with e | e | e
    · exact ht.tl e.symm
    · exact ht.nl e.symm
    · exact h.ql e.symm
  · rcases e with e | e | e
    · exact ht.tm e.symm
    · exact ht.nm e.symm
    · exact h.qm e.symm
/-- What Commit answers and leaves. -/
def CmtOut (w w' : World) (F : Nat → Prop) (p s c q l m t n : Nat) (r : Int × DS × SG × TG) (e : Ending) : Prop :=
  e = .returned (.int .i64 r.1) ∧ (StW w' (more F w w') p s c q l m r.2.1 r.2.2.1 ∧ TxW w' (more F w w') q l m t n r.2.2.1 r.2.2.2) ∧ Keeps (fun k => F k ∨ k = l ∨ k = m ∨ k = t ∨ k = n ∨ k = q) w w'
theorem fin_st {w3 : World} {F3 : Nat → Prop} {c c' : Nat} {S3 : DS} {G3 : SG} {T3 : TG} (h0 : StW w F p s cR q l m S G) (ht0 : TxW w F q l m t n G T) (h : StW w3 F3 p s c q l m S3 G3) (ht : TxW w3 F3 q l m t n G3 T3) (hF : ∀ k, F3 k → F k ∨ (w.heap.size ≤ k ∧ k < w3.heap.size)) (hz : w.heap.size ≤ w3.heap.size) (hc : c ≤ c') : StW w3 (more F w w3) p s c' q l m S3 G3 ∧ TxW w3 (more F w w3) q l m t n G3 T3 := by
  have h1 := h0.st.lt
  have h2 := h0.lp.lt
  have h3 := h0.ch.lt
  have h4 := lt_there ht0.tx
  have h5 := ht0.ch.lt
  exact ⟨(h.reF hF (more_lt h0.d.lt hz) (fun e => e.elim h0.nq (fun e => by omega)) (fun e => e.elim h0.nl (fun e => by omega)) (fun e => e.elim h0.nm (fun e => by omega))).le hc, ⟨ht.tx, ht.ch, fun e => e.elim ht0.nt (fun e => by omega), fun e => e.elim ht0.nn (fun e => by omega), ht.tq, ht.tl, ht.tm, ht.tn, ht.nq, ht.nl, ht.nm, ht.kb⟩⟩

set_option maxRecDepth 20000 in
set_option maxHeartbeats 8000000 in
theorem Commit_any (h : StW w F p s cR q l m S G) (ht : TxW w F q l m t n G T) (h16 : T.puts.length ≤ 16) (hby : S.Byt) (hbig : S.puts.length + 5000 ≤ 4000000000000) :
    Calls Tryz.prog 24 #[.pointer (some ⟨t, 0, none⟩)] w fun e w' => CmtOut w w' F p s (cR + 40) q l m t n (T.commit G S s) e := by
  have h1 := state_any h ht
  have HS := Hid.mk h
  have HT := Hid.mk ht
  have HLt := Hid.mk h.d.lt
  have hqw := h.st.lt
  have hlw := h.lp.lt
  have hmw := h.ch.lt
  have htw := lt_there ht.tx
  have hnw := ht.ch.lt
  have hnl := news_le T G S
  have HC := Hid.mk (commit_y G S s (T.news G S))
  obtain ⟨R, hR⟩ : ∃ R, R = T.commit G S s := ⟨_, rfl⟩
  rw [← hR]
  unfold TG.commit at hR
  go_enter Tryz.func24, Tryz.ntmps24
  go_wp2_with fail
  by_cases k : T.state G S = 0
  · rw [if_neg (fun h => h k)] at hR
    have hfu := dead_fuse (state_zero k)
    rw [k] at h1
    clear k h ht
    refine h1.mono ?_
    rintro e w1 ⟨rfl, hb1⟩
    have h2 := changed_any (HS.out.later hb1) (HT.out.later hb1) hfu (by omega)
    by_cases k2 : T.news G S = []
    · rw [if_pos k2] at hR
      have HR := Hid.mk hR
      clear hR
      have hz1 := hb1.size
      have HB1 := Hid.mk hb1
      clear h1 hb1
      go_wp2_with fail
      refine h2.mono ?_
      rintro e w2 ⟨rfl, hch2, hd2, hk2⟩
      have hz2 := hk2.size
      rw [k2] at hch2
      have hlen := fun ty => hch2.length ty
      have h3 := end_st ((HS.out.later HB1.out).asked hd2 hk2) ((HT.out.later HB1.out).asked hk2)
      have HK2 := Hid.mk (((Keeps.of_below F HB1.out).trans hk2 (fun _ h => .inl h)).mono (fun k hk => .inl hk : ∀ k, F k → F k ∨ k = l ∨ k = m ∨ k = t ∨ k = n ∨ k = q))
      clear h2 hch2 hd2 hk2
      go_wp2_with fail
      refine h3.mono ?_
      rintro e w3 ⟨rfl, hS3, hT3, hk3⟩
      have HN := Hid.mk (And.intro (fin_st (c' := cR + 40) HS.out HT.out hS3 hT3 (fun k hk => .inl hk) (by have := hk3.size; omega) (by omega)) (HK2.out.trans hk3 (fun k hk => .inl (.inr (.inr (.inr hk))))))
      clear h3 hS3 hT3 hk3
      go_wp2
      go_ret
      rw [HR.out]
      exact ⟨rfl, HN.out⟩
    · rw [if_neg k2] at hR
      have hpos := List.length_pos_iff.2 k2
      obtain ⟨N, hN⟩ : ∃ N, N = T.news G S := ⟨_, rfl⟩
      have HNs := Hid.mk (fun x (hx : x ∈ N) => (news_sub (T := T) (G := G) (S := S) (hN ▸ hx)))
      rw [← hN] at hR hpos hnl HC
      have HNe := Hid.mk hN
      obtain ⟨K, hK⟩ : ∃ K, K = G.commit S s N := ⟨_, rfl⟩
      rw [← hK] at hR HC
      have HK := Hid.mk hK
      clear hK hN k2
      rw [← HNe.out] at h2
      have hz1 := hb1.size
      have HB1 := Hid.mk hb1
      clear h1 hb1
      go_wp2_with fail
      refine h2.mono ?_
      rintro e w2 ⟨rfl, hch2, hd2, hk2⟩
      have hz2 := hk2.size
      have hg2 := hch2.lt
      have hT2 := (HT.out.later HB1.out).asked hk2
      have hlen := fun ty => hch2.length ty
      have h3 := commit_any ((HS.out.later HB1.out).asked hd2 hk2) hch2 (fun hf => by have := HLt.out _ hf; omega) (by omega) (by omega) (by omega) (fun x hx => HT.out.kb x (HNs.out x hx)) (by omega) hby hbig
      rw [← HK.out] at h3
      have c0 := hT2.c0
      have HT2 := Hid.mk hT2
      have HK2 := Hid.mk (((Keeps.of_below F HB1.out).trans hk2 (fun _ h => .inl h)).mono (fun k hk => .inl hk : ∀ k, F k → F k ∨ k = l ∨ k = m ∨ k = t ∨ k = n ∨ k = q))
      clear h2 hch2 hd2 hk2 hT2
      go_wp2_with fail
      refine h3.mono ?_
      rintro e w3 ⟨rfl, hS3, _, hk3⟩
      have hz3 := hk3.size
      have hT3 : TxW w3 (more F w2 w3) q l m t n K.2.2 T := HT2.out.re hk3 (fun e => by
        rcases e with e | e | e
        · exact HT.out.nt e
        · exact HT.out.tl e
        · exact HT.out.tm e) (fun e => by
        rcases e with e | e | e
        · exact HT.out.nn e
        · exact HT.out.nl e
        · exact HT.out.nm e) (fun e => e.elim HT.out.nt (fun e => by omega)) (fun e => e.elim HT.out.nn (fun e => by omega)) HC.out
      have HK3 := Hid.mk (HK2.out.trans hk3 (fun k hk => .inl (hk.elim .inl (fun h => .inr (h.elim .inl (fun h => .inr (.inl h)))))))
      by_cases kK : K.1 = 0
      · rw [if_neg (fun h => h kK)] at hR
        have dK : (K.1 != 0) = false := by rw [kK]; rfl
        have HR := Hid.mk hR
        clear hR kK
        have h4 := end_st hS3 hT3
        clear h3 hS3 hT3 hk3
        go_wp2_with fail
        refine h4.mono ?_
        rintro e w4 ⟨rfl, hS4, hT4, hk4⟩
        have hz4 := hk4.size
        have HN := Hid.mk (And.intro (fin_st (c' := cR + 40) HS.out HT.out hS4 hT4 (fun k hk => hk.elim .inl (fun h => .inr ⟨by omega, by omega⟩)) (by omega) (by omega)) (HK3.out.trans hk4 (fun k hk => .inl (.inr (.inr (.inr hk))))))
        clear h4 hS4 hT4 hk4
        go_wp2
        go_ret
        rw [HR.out]
        exact ⟨rfl, HN.out⟩
      · rw [if_pos kK] at hR
        have dK : (K.1 != 0) = true := by rw [bne_iff_ne]; exact kK
        have HR := Hid.mk hR
        clear hR kK
        have HN := Hid.mk (And.intro (fin_st (c' := cR + 40) HS.out HT.out hS3 hT3 (fun k hk => hk.elim .inl (fun h => .inr ⟨by omega, h.2⟩)) (by omega) (by omega)) HK3.out)
        clear h3 hS3 hT3 hk3
        go_wp2
        go_ret
        rw [HR.out]
        exact ⟨rfl, HN.out⟩
  · rw [if_pos k] at hR
    generalize T.state G S = E at *
    have d : (E != 0) = true := by rw [bne_iff_ne]; exact k
    have HR := Hid.mk hR
    clear k hR h ht
    refine h1.mono ?_
    rintro e w1 ⟨rfl, hb1⟩
    have HN := Hid.mk (And.intro (fin_st (c' := cR + 40) HS.out HT.out (HS.out.later hb1) (HT.out.later hb1) (fun k hk => .inl hk) hb1.size (by omega)) (Keeps.of_below (fun k => F k ∨ k = l ∨ k = m ∨ k = t ∨ k = n ∨ k = q) hb1))
    clear h1 hb1
    go_wp2
    go_ret
    rw [HR.out]
    exact ⟨rfl, HN.out⟩
end
end Go.Proofs.YtokcgifpljeoiaaGreat
end

section
namespace Go.Proofs.YtokcgifpljeoiaaGreat
open Go.RowKit Go.Maps

/-- So many blocks of zeros, one behind the other. -/
def zrow (n : Nat) : CM := (List.range n).map fun i => (i, zs 512)
theorem zrow_len (n : Nat) : (zrow n).length = n := by simp [zrow]
theorem zrow_succ (n : Nat) : zrow (n + 1) = zrow n ++ [(n, zs 512)] := by simp [zrow, List.range_succ]
theorem zrow_more {j n : Nat} (h : j ≤ n) : ∃ r, zrow n = zrow j ++ r := by
  refine ⟨(zrow n).drop j, ?_⟩
  have : zrow j = (zrow n).take j := by
    unfold zrow
    rw [← List.map_take, List.take_range, Nat.min_eq_left h]
  rw [this, List.take_append_drop]
/-- Zeros are written to a row of sectors, and made durable. -/
def swipe (S : DS) (s a n : Nat) : Int × DS := if (sbring S s a (zrow n)).1 ≠ 0 then sbring S s a (zrow n) else (sbring S s a (zrow n)).2.fl s
theorem swipe_puts (S : DS) (s a n : Nat) : (swipe S s a n).2.puts.length ≤ S.puts.length + n := by
  have h := sbring_puts S s a (zrow n)
  rw [zrow_len] at h
  unfold swipe
  split
  · exact h
  · exact Nat.le_trans (fl_putsS _ _) h

set_option maxRecDepth 20000 in
set_option maxHeartbeats 4000000 in
theorem swipe_any {w : World} {F : Nat → Prop} {p s c : Nat} {S : DS} (hd : B.DiskR w F p s S c) (a b : Nat) (hab : a ≤ b) (hb : b ≤ 4000000000) (hbig : S.puts.length + (b - a) + 1 ≤ 4000000000000) :
    Calls Tryz.prog 76 #[.pointer (some ⟨p, 0, none⟩), .int .i64 (a : Int), .int .i64 (b : Int)] w fun e w' => e = .returned (.int .i64 (swipe S s a (b - a)).1) ∧ B.DiskR w' (more F w w') p s (swipe S s a (b - a)).2 c ∧ Keeps F w w' := by
  obtain ⟨n, rfl⟩ : ∃ n, b = a + n := ⟨b - a, by omega⟩
  rw [Nat.add_sub_cancel_left] at hbig ⊢
  clear hab
  obtain ⟨R, hR⟩ : ∃ R, R = swipe S s a n := ⟨_, rfl⟩
  rw [← hR]
  unfold swipe at hR
  have HLt := Hid.mk hd.lt
  have HD := Hid.mk hd
  have HR := Hid.mk hR
  clear hd hR
  go_enter Tryz.func76, Tryz.ntmps76
  go_wp2_with (at_make; refine wpList_make_part _ rfl _ _ rfl _ 512 512 rfl rfl rfl (Nat.le_refl _) (by omega) ?_; intro w1 hblk hb1)
  have hlb := hblk.lt
  have hsrc : Src w1 (some ⟨w.heap.size, 0, none⟩) 512 (zs 512) := by
    have := hblk.src (o := 0) (n := 512) (by rw [zs_len]; omega)
    rwa [List.drop_zero, List.take_of_length_le (by rw [zs_len]; omega)] at this
  have HSr := Hid.mk hsrc
  have HD1 := Hid.mk (HD.out.later hb1)
  have HB1 := Hid.mk hb1
  clear hblk hb1 hsrc
  have hbc : ((a + n : Nat) : Int) ≤ 4000000000 := by omega
  go_loopw [8] (fun i wr => ∃ j : Nat, j ≤ n ∧ i = .int .i64 ((a + j : Nat) : Int) ∧ (sbring S s a (zrow j)).1 = 0 ∧ B.DiskR wr (more F w1 wr) p s (sbring S s a (zrow j)).2 c ∧ Keeps F w1 wr) (fun i _ => a + n - (intOf i).toNat)
  case atStart => exact ⟨0, Nat.zero_le _, rfl, rfl, HD1.out.more, Keeps.refl _ _⟩
  case round =>
    clear HD1
    obtain ⟨j, hj, rfl, hz, hd, hkp⟩ := hrel
    have hkz := hkp.size
    have hpu := sbring_puts S s a (zrow j)
    rw [zrow_len] at hpu
    have HLr : Hid (∀ k, F k → k < w1.heap.size) := fun k hf => by have := HLt.out k hf; omega
    have hgF : ¬ F w.heap.size := fun hf => by have := HLt.out _ hf; omega
    by_cases hlt : j < n
    · have hlt' : ((a + j : Nat) : Int) < ((a + n : Nat) : Int) := by omega
      have hsr := HSr.out.avoid hkp (fun y hy _ e => by
        cases hy
        exact hgF e)
      have hsn : sbring S s a (zrow (j + 1)) = (sbring S s a (zrow j)).2.wr s ((a + j : Nat) : Int) 512 (zs 512) := by
        rw [zrow_succ, sbring_append, if_neg (fun h => h hz)]
        simp only [sbring]
        split
        · rfl
        · rename_i h
          generalize DS.wr _ _ _ _ _ = Z at *
          rw [← (Decidable.byContradiction h)]
      have hw := B.dwrite hd ((a + j : Nat) : Int) (some ⟨w.heap.size, 0, none⟩) 512 512 (zs 512) hsr (by omega)
      rw [← hsn] at hw
      obtain ⟨r, hr⟩ := zrow_more (Nat.succ_le_of_lt hlt)
      have hend : sbring S s a (zrow n) = if (sbring S s a (zrow (j + 1))).1 ≠ 0 then sbring S s a (zrow (j + 1)) else sbring (sbring S s a (zrow (j + 1))).2 s a r := by
        rw [hr]
        exact sbring_append S s a _ _
      obtain ⟨Y, hY⟩ : ∃ Y, Y = sbring S s a (zrow (j + 1)) := ⟨_, rfl⟩
      rw [← hY] at hw hend
      have HY := Hid.mk hY
      have HE := Hid.mk hend
      have HK := Hid.mk hkp
      clear hY hend hsn hr hd hkp hsr hz hpu
      by_cases kY : Y.1 = 0
      · have dY : (Y.1 != 0) = false := by rw [kY]; rfl
        have HKY := Hid.mk kY
        clear kY
        go_wp2_with fail
        refine hw.mono ?_
        rintro e w5 ⟨rfl, hd5, hk5⟩
        have hz5 := hk5.size
        have HN : Hid (B.DiskR w5 (more F w1 w5) p s Y.2 c ∧ Keeps F w1 w5) := ⟨hd5.mono (more_more hkz hz5) (more_lt (F := F) (w := w1) HLr.out (by omega)), HK.out.trans hk5 (fun k hk => hk.elim .inl (fun h => .inr h.1))⟩
        clear hw hd5 hk5
        go_wp2
        go_roundw
        case rel => exact ⟨j + 1, by omega, by go_num, by rw [← HY.out]; exact HKY.out, by rw [← HY.out]; exact HN.out.1, HN.out.2⟩
        case measure => simp [intOf]; omega
      · have dY : (Y.1 != 0) = true := by rw [bne_iff_ne]; exact kY
        have HKY := Hid.mk kY
        clear kY
        go_wp2_with fail
        refine hw.mono ?_
        rintro e w5 ⟨rfl, hd5, hk5⟩
        have hz5 := hk5.size
        have HN : Hid (B.DiskR w5 (more F w w5) p s Y.2 c ∧ Keeps F w w5) := ⟨hd5.mono (fun k hk => by
          rcases hk with (hk | hk) | hk
          · exact .inl hk
          · exact .inr ⟨by omega, by omega⟩
          · exact .inr ⟨by omega, hk.2⟩) (more_lt (F := F) (w := w) HLt.out (by omega)), ((Keeps.of_below F HB1.out).trans HK.out (fun _ h => .inl h)).trans hk5 (fun k hk => hk.elim .inl (fun h => .inr (by omega)))⟩
        clear hw hd5 hk5
        go_wp2
        go_ret
        have hRY : R = Y := by rw [HR.out, HE.out, if_pos HKY.out, if_pos HKY.out]
        rw [hRY]
        exact ⟨rfl, HN.out⟩
    · obtain rfl : j = n := by omega
      have hw := B.dflush hd (by omega)
      have HK := Hid.mk hkp
      have hRZ : R = (sbring S s a (zrow j)).2.fl s := by rw [HR.out, if_neg (fun h => h hz)]
      rw [← hRZ] at hw
      clear hd hkp hRZ hz hpu hlt
      go_wp2_with fail
      refine hw.mono ?_
      rintro e w5 ⟨rfl, hd5, hk5⟩
      have hz5 := hk5.size
      have HN : Hid (B.DiskR w5 (more F w w5) p s R.2 c ∧ Keeps F w w5) := ⟨hd5.mono (fun k hk => by
        rcases hk with hk | hk
        · exact .inl hk
        · exact .inr ⟨by omega, by omega⟩) (more_lt (F := F) (w := w) HLt.out (by omega)), ((Keeps.of_below F HB1.out).trans HK.out (fun _ h => .inl h)).trans hk5 (fun k hk => hk.elim .inl (fun h => .inr (by omega)))⟩
      clear hw hd5 hk5
      go_wp2
      go_ret
      exact ⟨rfl, HN.out⟩
end Go.Proofs.YtokcgifpljeoiaaGreat
end
