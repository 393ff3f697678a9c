import Derived.Test.YtokcgifpljeoiaaGreatW02
import Derived.Test.YtokcgifpljeoiaaGreatW23
import Derived.Deep.OwnRows
import Derived.Lib.AppendZeros
section
namespace Go.Proofs.YtokcgifpljeoiaaGreat
open Go.RowKit

theorem rtop_ge {R : Nat → PC} : ∀ {n i : Nat}, i < n → (R i).e ≤ 1073741824 → (R i).e ≤ rtop R n
  | 0, i, hi, _ => by omega
  | n + 1, i, hi, he => by
    unfold rtop
    by_cases e : i = n
    · subst e
      rw [if_pos he]
      omega
    · have := rtop_ge (R := R) (n := n) (i := i) (by omega) he
      split <;> omega
section
variable {S S1 : DS} {s : Nat} {x : Int}
theorem anew_flat {f : Nat} {num : Int} (h0 : (anew S s f num).1 = 0) : (anew S s f num).2.puts = [] := by
  unfold anew at *
  split at h0
  · cases h0
  · rename_i h1
    rw [if_neg h1]
    split at h0
    · rename_i h2
      exact absurd (by simpa using h0) h2
    · rename_i h2
      rw [if_neg h2]
      split at h0
      · rename_i h3
        exact absurd h0 h3
      · rename_i h3
        rw [if_neg h3]
        exact fl_zero h0
theorem sredo_calm {y : LY} {ov : CM} {rs : List (List Int)} (hf : S.fuse = -1) : (sredo S s y ov rs).2.fuse = -1 := by
  unfold sredo
  split
  · exact hf
  · split
    · exact sbring_calm hf
    · exact fl_calm (sbring_calm hf) s
/-- What the sectors hold behind a redo. -/
theorem sredo_now {y : LY} {ov : CM} {rs : List (List Int)} (hok : S.Ok s) (ho : CM.Ok ov) (hM : ∀ q ∈ ov, y.home + q.1 < s ∧ q.2.length = 512) (hnil : rs = [] → ov = []) (h0 : (sredo S s y ov rs).1 = 0) :
    (∀ b, y.home + b < s → (sredo S s y ov rs).2.now (y.home + b) = (CM.get ov b).getD (S.now (y.home + b))) ∧ ∀ j, j < y.home → j < s → (sredo S s y ov rs).2.now j = S.now j := by
  obtain ⟨b1, b2, b3, b4, b5⟩ := sbring_facts (h0 := y.home) (ms := ov) hok hM
  unfold sredo at *
  split at h0
  · rename_i hr
    rw [if_pos hr]
    rw [hnil hr]
    exact ⟨fun b _ => rfl, fun j _ _ => rfl⟩
  · rename_i hr
    rw [if_neg hr]
    split at h0
    · rename_i h1
      exact absurd h0 h1
    · rename_i h1
      rw [if_neg h1]
      have h1' : (sbring S s y.home ov).1 = 0 := Decidable.byContradiction h1
      refine ⟨fun b hb => ?_, fun j hj hjs => ?_⟩
      · rw [fl_now b3 hb]
        cases hg : CM.get ov b with
        | some c => exact sbring_at hok ho hM h1' hg
        | none =>
          refine b5 _ (fun q hq e => ?_)
          have : CM.get ov b = some q.2 := CM.get_of_mem ho (by rw [show b = q.1 by omega]; exact hq)
          rw [hg] at this
          cases this
      · rw [fl_now b3 hjs]
        exact b5 j (fun q hq e => by omega)
theorem lnewest_code (l r : List Int) : (lnewest l r).2.2 = 0 ∨ (lnewest l r).2.2 = 6 := by
  unfold lnewest
  split
  · exact .inr rfl
  · exact .inl rfl
theorem take_writes (S : DS) (s : Nat) : (S.take.fl s).2.writes = S.writes := by
  unfold DS.fl
  split <;> rfl

/-- What an Open of a disk on which nothing pends makes of it. -/
theorem SOut.clean (hok : S.Ok s) (hby : S.Byt) (hf : S.fuse = -1) (hp : S.puts = []) (hl0 : 0 ≤ S.life) (hl1 : S.life ≤ 1000) (h : SOut S s x S1) :
    (x ≠ 0 → ((x = 6 ∧ (¬ SupAt (S.now 0) s ∨ (oNew S 1).2.2 ≠ 0 ∨ ∃ rs hd, TellsAt S 1 (lyOf (S.now 0)).log rs hd ∧ rdAll (lyOf (S.now 0)).blocks [] rs = none)) ∨ x = 41) ∧ S1.writes = S.writes) ∧
    (x = 0 → ∀ L, SLog S s L → Clean S1 s (lyOf (S.now 0)) L ∧ ∃ rs hd ov, TellsAt S 1 (lyOf (S.now 0)).log rs hd ∧ rdAll (lyOf (S.now 0)).blocks [] rs = some ov ∧ ∀ b, b < (lyOf (S.now 0)).blocks → S1.now ((lyOf (S.now 0)).home + b) = (CM.get ov b).getD (S.now ((lyOf (S.now 0)).home + b))) := by
  have hinv : V.Inv S s [] 1000 := V.Inv.zero hok hby (by rw [hp]; rfl) hl0 (by omega)
  have hsop := hinv.sopen (by omega) h
  have hlife : x = 0 → ∀ L, SLog S s L → L.life = S1.life := fun h0 L hL => by
    rw [hL.life]
    rcases h.life with ⟨_, h9⟩ | h9
    · exact absurd h0 h9
    · exact h9.symm
  have hf0 : S.fuse ≠ 0 := by omega
  have htk : S.take.Ok s := ⟨hok.len, hok.lo, hok.hi, hok.puts, hok.fuse⟩
  rcases h with ⟨hl, n1, rfl⟩ | ⟨hsup, _, k⟩
  · refine ⟨fun _ => ⟨?_, rfl⟩, fun h0 => absurd h0 n1⟩
    rcases hl with ⟨a1, _, _⟩ | ⟨_, _, _, e⟩ | ⟨_, a2, _, e⟩
    · exact absurd a1 hf0
    · exact absurd e n1
    · exact .inl ⟨e, .inl a2⟩
  · have hgeo := stOpen_geo hsup
    have hhome : (lyOf (S.now 0)).home = 3 + (lyOf (S.now 0)).log := rfl
    obtain ⟨y, hy⟩ : ∃ y, y = lyOf (S.now 0) := ⟨_, rfl⟩
    unfold SLog at hsop hlife ⊢
    rw [← hy] at hgeo hhome k hsop hlife ⊢
    rcases k with ⟨e1, m1, rfl⟩ | ⟨z1, rs, hd, hta, k⟩
    · refine ⟨fun _ => ?_, fun h0 => absurd h0 m1⟩
      have hrf : lrefuse S s 1 (y.log : Int) = 0 := by
        unfold lrefuse
        rw [if_neg hf0, if_neg (by omega), if_neg (by omega), if_neg (by omega)]
      unfold lopen at e1 ⊢
      rw [if_neg (by rw [hrf]; exact fun h => h rfl)] at e1 ⊢
      split at e1
      · rename_i q
        rw [if_pos q]
        refine ⟨.inl ⟨?_, .inr (.inl q)⟩, rfl⟩
        rcases lnewest_code (S.now (1 : Int).toNat) (S.now ((1 : Int).toNat + 1)) with h9 | h9
        · exact absurd h9 q
        · rw [← e1]
          show (((oNew S (1 : Int).toNat).2.2 : Nat) : Int) = 6
          unfold oNew
          rw [h9]; rfl
      · rename_i q
        rw [if_neg q]
        split at e1
        · rename_i q2
          rw [if_pos q2]
          exact ⟨.inr e1.symm, rfl⟩
        · exfalso
          apply m1
          rw [← e1]
          show (S.take.fl s).1 = 0
          exact fl_done (S := S.take) hf
    · obtain ⟨hlz1, hlz2, hlz3, hlz4⟩ := lopen_zero (f := 1) z1
      have hlo : lopen S s 1 (y.log : Int) = S.take.fl s := hlz4
      rw [hlo] at k hsop hlife ⊢
      have hz9 : (S.take.fl s).1 = 0 := by rw [← hlo]; exact z1
      rcases k with ⟨a1, rfl, rfl⟩ | ⟨ov, hov, k⟩
      · exact ⟨fun _ => ⟨.inl ⟨rfl, .inr (.inr ⟨rs, hd, hta, a1⟩)⟩, take_writes S s⟩, fun h0 => absurd h0 (by decide)⟩
      · have hp1 := fl_zero hz9
        have hok1 := fl_ok (s := s) htk
        have hfP := fl_calm (S := S.take) hf s
        have hwl : wrap64 (S.life + 1) = S.life + 1 := wrap_life hl0 (t := 1000) (by omega) (by omega)
        have hl1' : (S.take.fl s).2.life = S.life + 1 := (fl_life _ _).trans hwl
        have hn1 : ∀ i, i < s → (S.take.fl s).2.now i = S.now i := fun i hi => fl_now (S := S.take) htk hi
        have hnt : S.num 1 < ((lgOf S 1 y.log hd).top + 1) * 4294967296 := num_top hlz2
        have hlgl : (lgOf S 1 y.log hd).life = S.life + 1 := hwl
        have h512 := rdAll_512 hov (fun q hq => by cases hq)
        have hMk : ∀ q ∈ ov, y.home + q.1 < s ∧ q.2.length = 512 := fun q hq => ⟨by have := (h512 q hq).1; omega, (h512 q hq).2⟩
        have hovo : CM.Ok ov := rdAll_ok hov nilOk
        have hovl : ov.length ≤ 2048 := by
          have := hok.hi
          rcases CM.length_le (n := 2048) hovo (fun q hq => by have := (hMk q hq).1; omega) 0 (fun _ _ => Nat.zero_le _) with h1 | h1
          · omega
          · rw [h1]; simp
        have hnil : rs = [] → ov = [] := fun e => by
          rw [e] at hov
          exact (Option.some.inj hov).symm
        have hlok := lgOf_ok (s := s) hta hby hlz2 hlz3 (by omega) (by omega) (by omega)
        generalize S.take.fl s = P at *
        obtain ⟨r1, r2, r3, r4, r5, r6⟩ := sredo_facts (y := y) (rs := rs) hok1 hp1 hMk hovl (by omega) (by omega)
        have hrc := sredo_calm (s := s) (y := y) (ov := ov) (rs := rs) hfP
        have hrn := sredo_now (y := y) (ov := ov) (rs := rs) hok1 hovo hMk hnil
        rcases k with ⟨a1, a2, _⟩ | ⟨hz0, a2, rfl⟩
        · exfalso
          have := r3 (by rw [a1]; exact a2)
          omega
        · have hlogs : ∀ L, (∃ rs' hd' ov', TellsAt S 1 y.log rs' hd' ∧ rdAll y.blocks [] rs' = some ov' ∧ L = ((lgOf S 1 y.log hd').start (sredo P.2 s y ov' rs').2 s).2.2) → L = ((lgOf S 1 y.log hd).start (sredo P.2 s y ov rs).2 s).2.2 := fun L hL => by
            obtain ⟨rs', hd', ov', t2, o2, rfl⟩ := hL
            obtain ⟨rfl, rfl⟩ := hta.same t2
            obtain rfl : ov = ov' := Option.some.inj (hov.symm.trans o2)
            rfl
          obtain ⟨hr1, hr2⟩ := hrn hz0
          generalize sredo P.2 s y ov rs = Rd at *
          have hnumR : Rd.2.num (lgOf S 1 y.log hd).f < ((lgOf S 1 y.log hd).top + 1) * 4294967296 := by
            show Rd.2.num 1 < _
            rw [num_eq (S := S) (S' := Rd.2) ((r6 1 (by omega)).trans (hn1 1 (by omega))) ((r6 2 (by omega)).trans (hn1 2 (by omega)))]
            exact hnt
          have hlal : (lgOf S 1 y.log hd).life = Rd.2.life := by rw [hlgl, r2, hl1']
          have hfu := start_calm5 (s := s) (L := lgOf S 1 y.log hd) hrc
          have hx0 : x = 0 := Decidable.byContradiction (fun e => by
            have := (start_err r1 hlok rfl hlal hnumR (by rw [a2]; exact e)).1
            omega)
          refine ⟨fun e => absurd hx0 e, fun _ L hL => ?_⟩
          have hI := hsop.2 hx0 L hL
          have hlf := hlife hx0 L hL
          clear hsop hlife
          obtain rfl := hlogs L hL
          have htop : (lgOf S 1 y.log hd).top < 1073741824 := hlok.top
          have hs0 : ((lgOf S 1 y.log hd).start Rd.2 s).1 = 0 := a2.trans hx0
          have hnd : ¬ (lgOf S 1 y.log hd).dead Rd.2 = true := by
            unfold LG.dead
            rw [hlal, hrc]
            simp
          have eN : ((((lgOf S 1 y.log hd).top + 1 : Nat) : Int) * 4294967296 + ((0 : Nat) : Int)) = ((((lgOf S 1 y.log hd).top + 1) * 4294967296 : Nat) : Int) := by omega
          have hst : (lgOf S 1 y.log hd).start Rd.2 s = if (anew Rd.2 s 1 ((((lgOf S 1 y.log hd).top + 1) * 4294967296 : Nat) : Int)).1 ≠ 0 then ((anew Rd.2 s 1 ((((lgOf S 1 y.log hd).top + 1) * 4294967296 : Nat) : Int)).1, (anew Rd.2 s 1 ((((lgOf S 1 y.log hd).top + 1) * 4294967296 : Nat) : Int)).2, lgOf S 1 y.log hd) else (0, (anew Rd.2 s 1 ((((lgOf S 1 y.log hd).top + 1) * 4294967296 : Nat) : Int)).2, { lgOf S 1 y.log hd with begun := true, ep := (lgOf S 1 y.log hd).top + 1, tail := 0, head := 0 }) := by
            unfold LG.start
            rw [if_neg hnd, if_neg (by exact fun h => by cases h), eN]
            rfl
          have hring : ∀ i, i < y.log → (oRing S 1 i).e ≤ 1073741824 → (oRing S 1 i).e ≤ (lgOf S 1 y.log hd).top := fun i hi he => Nat.le_trans (rtop_ge hi he) (Nat.le_max_right _ _)
          generalize hLG : lgOf S 1 y.log hd = LL at *
          have hLf : LL.f = 1 := by rw [← hLG]; rfl
          have hLn : LL.n = y.log := by rw [← hLG]; rfl
          have ha0 : (anew Rd.2 s 1 (((LL.top + 1) * 4294967296 : Nat) : Int)).1 = 0 := by
            rw [hst] at hs0
            split at hs0
            · rename_i q; exact absurd hs0 q
            · rename_i q; exact Decidable.byContradiction q
          rw [if_neg (by rw [ha0]; exact fun h => h rfl)] at hst
          obtain ⟨w1, w2⟩ := anew_whole r1 (by omega) (by omega) (by omega) (by rw [hLf] at hnumR; exact hnumR) ha0
          have w3 := anew_flat ha0
          rw [hst] at hI hfu hlf ⊢
          generalize anew Rd.2 s 1 (((LL.top + 1) * 4294967296 : Nat) : Int) = A at *
          have hlow : ∀ j, j < y.home → j < s → Rd.2.now j = S.now j := fun j h1 h2 => (hr2 j h1 h2).trans (hn1 j h2)
          have h00 : A.2.now 0 = S.now 0 := (w2 0 (by omega) (by omega) (by omega)).trans (hlow 0 (by omega) (by omega))
          refine ⟨⟨hI.ok, hI.byt, hfu, w3, by show SupAt (A.2.now 0) s; rw [h00]; exact hsup, by show lyOf (A.2.now 0) = y; rw [h00]; exact hy.symm, w1, Nat.le_add_left 1 _, by show LL.top + 1 ≤ _; omega, fun i hi => ?_, hLf, hLn, rfl, rfl, rfl, ?_⟩, rs, hd, ov, hta, hov, fun b hb => ?_⟩
          · show (pcOf (A.2.now (1 + 2 + i))).e ≠ LL.top + 1
            rw [w2 _ (by omega) (by omega) (by omega), hlow _ (by omega) (by omega)]
            intro e
            have h9 := hring i hi (by show (pcOf (S.now (1 + 2 + i))).e ≤ _; omega)
            have h8 : (oRing S 1 i).e = LL.top + 1 := e
            omega
          · exact hlf
          · show A.2.now (y.home + b) = _
            rw [w2 _ (by omega) (by omega) (by omega), hr1 b (by omega), hn1 _ (by omega)]
end
end Go.Proofs.YtokcgifpljeoiaaGreat
end

section
namespace Go.Proofs.YtokcgifpljeoiaaGreat
open Go.RowKit

section
variable {S S' S1 S2 : DS} {s : Nat} {y : LY} {L L' : LG} {x : Int} {c : CM} {busy : Bool}
theorem Clean.ready (h : Clean S s y L) : L.dead S = false ∧ L.unready S = 0 := by
  have h1 : L.dead S = false := by
    unfold LG.dead
    rw [h.lf, h.fu]
    simp
  refine ⟨h1, ?_⟩
  unfold LG.unready
  rw [h1, h.bg]
  rfl
/-- What a commit of changes leaves that lay nowhere yet. -/
structure Done (S S2 : DS) (s : Nat) (y : LY) (L L2 : LG) (c : CM) : Prop where
  ok : S2.Ok s
  byt : S2.Byt
  fu : S2.fuse = -1
  lf : L2.life = S2.life
  bg : L2.begun = true
  pu : S2.puts.length ≤ 17
  far : ∀ j, j < s → (j < 3 ∨ 3 + y.log ≤ j) → S2.now j = S.now j
  only : ∀ i, i < y.log → (pcOf (S2.now (1 + 2 + i))).e = L.ep → ∃ m : Nat, (pcsOf L.ep 0 (if c = [] then [] else [recOf c]))[m]? = some (pcOf (S2.now (1 + 2 + i)))
  all : ∀ (m : Nat) (X : PC), (pcsOf L.ep 0 (if c = [] then [] else [recOf c]))[m]? = some X → pcOf (S2.now (1 + 2 + m % y.log)) = X
theorem Clean.none (h : Clean S s y L) : Done S S s y L L [] :=
  ⟨h.ok, h.byt, h.fu, h.lf, h.bg, by rw [h.p]; exact Nat.zero_le _, fun _ _ _ => rfl, fun i hi e => absurd e (h.ri i hi), fun m X hX => by rw [if_pos rfl] at hX; cases hX⟩
theorem Clean.commit (h : Clean S s y L) (h1 : 1 ≤ c.length) (h16 : c.length ≤ 16) (hk : ∀ q ∈ c, q.1 < y.blocks ∧ q.2.length = 512) (hb : ∀ q ∈ c, Bytes q.2) :
    ((⟨y, L, [], busy⟩ : SG).commit S s c).1 = 0 ∧ ((⟨y, L, [], busy⟩ : SG).commit S s c).2.2.busy = busy ∧ ((⟨y, L, [], busy⟩ : SG).commit S s c).2.2.y = y ∧ Done S ((⟨y, L, [], busy⟩ : SG).commit S s c).2.1 s y L ((⟨y, L, [], busy⟩ : SG).commit S s c).2.2.L c := by
  obtain ⟨hd, hu⟩ := h.ready
  obtain ⟨g1, g2, g3, g4, g5, g6⟩ := h.geo
  have hl := recOf_len (fun q hq => (hk q hq).2)
  have hcb : cntOf (recOf c).length ≤ 17 ∧ 1 ≤ cntOf (recOf c).length := by unfold cntOf; omega
  have hroom : L.room S = ((L.n : Int), 0) := by
    unfold LG.room
    rw [if_neg (by rw [hu]; exact fun h => h rfl), h.hd, h.tl]
    simp
  have hr : (⟨y, L, [], busy⟩ : SG).roomy S (recOf c).length = true := by
    unfold SG.roomy
    show decide ((cntOf (recOf c).length : Int) ≤ (L.room S).1) = true
    rw [hroom, h.n1]
    simp only [decide_eq_true_eq]
    omega
  have hc := commit_roomy (G := ⟨y, L, [], busy⟩) (s := s) (c := c) (show (L.room S).2 = 0 by rw [hroom]) hr
  have hrf : L.refuses S (recOf c).length = 0 := by
    unfold LG.refuses
    rw [if_neg (by rw [hu]; exact fun h => h rfl), if_neg (by omega), if_neg (by omega), if_neg (by rw [h.hd]; omega), if_neg (by rw [h.hd, h.tl, h.n1]; omega)]
  have e2 := h.e2
  obtain ⟨a1, a2, a3, a4⟩ := appTo_laid (L := L) (d := recOf c) h.ok h.fu (by rw [h.n1]; omega) (by rw [h.f1, h.n1]; omega) (by omega) hcb.1 (by rw [h.hd]; omega) (cntOf (recOf c).length) (Nat.le_refl _) (by rw [h.n1]; omega)
  have hap : L.append S s (recOf c) = (0, (appTo L S s (recOf c) (cntOf (recOf c).length)).2, { L with head := L.head + cntOf (recOf c).length }) := by
    unfold LG.append
    rw [if_neg (by rw [hrf]; exact fun h => h rfl), if_neg (by rw [a1]; exact fun h => h rfl)]
  have hokA := (appTo_far h.ok (by rw [h.n1]; omega) (by rw [h.f1, h.n1]; omega) (d := recOf c) (cntOf (recOf c).length)).1
  have hcb2 : ∀ q ∈ c, Bytes q.2 := hb
  have hbyA : (appTo L S s (recOf c) (cntOf (recOf c).length)).2.Byt := appTo_byt h.byt (recOf_bytes hcb2) _
  have hlfA : (appTo L S s (recOf c) (cntOf (recOf c).length)).2.life = S.life := stepsTo_lf (fun j T => by
    unfold aput
    split
    · rfl
    · exact wr_life _ _ _ _ _) _
  have hpuA : (appTo L S s (recOf c) (cntOf (recOf c).length)).2.puts.length ≤ S.puts.length + cntOf (recOf c).length := stepsTo_puts (fun _ _ => aput_puts _ _ _ _ _ _ _ _ _) _
  rw [h.p] at hpuA
  rw [hc, hap]
  rw [if_neg (fun h => h rfl)]
  rw [h.f1, h.n1, h.hd] at a3
  rw [h.f1, h.n1, h.hd] at a4
  generalize (appTo L S s (recOf c) (cntOf (recOf c).length)).2 = T at *
  have hmod : ∀ m, m < cntOf (recOf c).length → (0 + m) % y.log = m := fun m hm => by rw [Nat.zero_add]; exact Nat.mod_eq_of_lt (by omega)
  have hne : c ≠ [] := fun e => by rw [e] at h1; simp at h1
  have hpc : pcsOf L.ep 0 (if c = [] then [] else [recOf c]) = recPcs L.ep 0 (recOf c) := by
    rw [if_neg hne]
    show recPcs L.ep 0 (recOf c) ++ [] = _
    rw [List.append_nil]
  refine ⟨rfl, rfl, rfl, ⟨hokA, hbyA, a2, by rw [hlfA]; exact h.lf, h.bg, by show T.puts.length ≤ 17; simp at hpuA; omega, fun j hj hcase => ?_, fun i hi he => ?_, fun m X hX => ?_⟩⟩
  · refine a4 j (fun i hi e => ?_)
    rw [hmod i hi] at e
    omega
  · rw [hpc]
    by_cases hi2 : i < cntOf (recOf c).length
    · have := a3 i hi2
      rw [hmod i hi2] at this
      refine ⟨i, ?_⟩
      rw [recPcs_at hi2]
      refine congrArg some ?_
      exact this.symm
    · exfalso
      refine h.ri i hi ?_
      rw [a4 (1 + 2 + i) (fun m hm e => by rw [hmod m hm] at e; omega)] at he
      exact he
  · rw [hpc] at hX
    have hm : m < cntOf (recOf c).length := by
      have := (List.getElem?_eq_some_iff.1 hX).1
      rwa [recPcs_len] at this
    rw [recPcs_at hm] at hX
    have h9 := a3 m hm
    rw [hmod m hm] at h9
    rw [Nat.mod_eq_of_lt (show m < y.log by omega), h9]
    exact Option.some.inj hX
/-- What an Open makes of a disk that holds just these sectors. -/
theorem Done.open {L2 : LG} (h : Clean S s y L) (hdn : Done S S2 s y L L2 c) (ho : CM.Ok c) (h16 : c.length ≤ 16) (hk : ∀ q ∈ c, q.1 < y.blocks ∧ q.2.length = 512)
    (hok : S'.Ok s) (hby : S'.Byt) (hf : S'.fuse = -1) (hp : S'.puts = []) (hl0 : 0 ≤ S'.life) (hl1 : S'.life ≤ 1000) (hsame : ∀ j, j < s → S'.now j = S2.now j) (ho' : SOut S' s x S1) :
    lyOf (S'.now 0) = y ∧ (x ≠ 0 → x = 41) ∧ (x = 0 → ∀ L', SLog S' s L' → Clean S1 s y L' ∧ ∀ b, b < y.blocks → S1.now (y.home + b) = (CM.get c b).getD (S.now (y.home + b))) := by
  obtain ⟨g1, g2, g3, g4, g5, g6⟩ := h.geo
  have h00 : S'.now 0 = S.now 0 := (hsame 0 (by omega)).trans (hdn.far 0 (by omega) (.inl (by omega)))
  have hy : lyOf (S'.now 0) = y := by rw [h00]; exact h.y'
  have hsup : SupAt (S'.now 0) s := by rw [h00]; exact h.sup
  have hsz : ∀ d ∈ (if c = [] then [] else [recOf c] : List (List Int)), 1 ≤ d.length ∧ d.length ≤ 8364 := fun d hd => by
    have hl := recOf_len (fun q hq => (hk q hq).2)
    by_cases e : c = []
    · rw [if_pos e] at hd; cases hd
    · rw [if_neg e] at hd
      rw [List.mem_singleton.1 hd]
      omega
  have han : (snewest (S'.now 1) (S'.now (1 + 1))).2 = (L.ep * 4294967296, [], 0) := by
    rw [hsame 1 (by omega), hsame (1 + 1) (by omega), hdn.far 1 (by omega) (.inl (by omega)), hdn.far (1 + 1) (by omega) (.inl (by omega))]
    exact h.an
  obtain ⟨hnew, hd, htell⟩ := tells_all (n := y.log) (ds := if c = [] then [] else [recOf c]) (by omega) han h.e1 h.e2 hsz
    (fun i hi he => by rw [hsame _ (by omega)] at he ⊢; exact hdn.only i hi he) (fun m X hX => by
      have := Nat.mod_lt m (show 0 < y.log by omega)
      rw [hsame _ (by omega)]; exact hdn.all m X hX)
  have hov : rdAll y.blocks [] (if c = [] then [] else [recOf c]) = some (CM.over [] c) := by
    by_cases e : c = []
    · rw [if_pos e, e]; rfl
    · rw [if_neg e, rdAll_cons, rdRec_recOf ho (by cases c with | nil => exact absurd rfl e | cons a b => simp) h16 hk (by omega)]
      rfl
  obtain ⟨c1, c2⟩ := ho'.clean hok hby hf hp hl0 hl1
  refine ⟨hy, fun hx => ?_, fun hx L' hL' => ?_⟩
  · rcases (c1 hx).1 with ⟨_, e | e | ⟨rs, hd', hta, a1⟩⟩ | e
    · exact absurd hsup e
    · rw [hnew] at e
      exact absurd rfl e
    · rw [hy] at hta a1
      obtain ⟨rfl, rfl⟩ := hta.same htell
      rw [hov] at a1
      cases a1
    · exact e
  · obtain ⟨d1, rs, hd', ov, hta, hov', d2⟩ := c2 hx L' hL'
    rw [hy] at d1 hta hov' d2
    obtain ⟨rfl, rfl⟩ := hta.same htell
    obtain rfl : CM.over [] c = ov := Option.some.inj (hov.symm.trans hov')
    refine ⟨d1, fun b hb => ?_⟩
    rw [d2 b hb, over_self ho, hsame _ (by omega), hdn.far _ (by omega) (.inr (by omega))]
end
end Go.Proofs.YtokcgifpljeoiaaGreat
end

section
namespace Go.Proofs.YtokcgifpljeoiaaGreat
open Go.RowKit Go.Maps

theorem fresh_now {s j : Nat} (hj : j < s) : (DS.fresh (List.replicate (s * 512) 0)).now j = zs 512 := by
  show dsec (List.replicate (s * 512) 0) j = zs 512
  unfold dsec zs
  rw [List.drop_replicate, List.take_replicate]
  congr 1
  omega
/-- What a new disk of 30 sectors is once it has been formatted. -/
structure Made30 (S : DS) : Prop where
  c : (sformat S 30 30 18 4).1 = 0
  f : (sformat S 30 30 18 4).2.fuse = -1
  i : V.Inv (sformat S 30 30 18 4).2 30 [] 3
  u : SupAt ((sformat S 30 30 18 4).2.now 0) 30
  l : (lyOf ((sformat S 30 30 18 4).2.now 0)).log = 18
  h : (lyOf ((sformat S 30 30 18 4).2.now 0)).home = 21
  b : (lyOf ((sformat S 30 30 18 4).2.now 0)).blocks = 9
  n : oNew (sformat S 30 30 18 4).2 1 = (1, 0, 0)
  z : ∀ j, 3 ≤ j → j < 30 → (sformat S 30 30 18 4).2.now j = zs 512
theorem made_30 {S : DS} (hok : S.Ok 30) (hby : S.Byt) (hp : S.puts.length = 0) (hf : S.fuse = -1) (hl : S.life = 1) (hz : ∀ j, j < 30 → S.now j = zs 512) : Made30 S := by
  have hg : Geo (30 : Nat) (18 : Nat) (4 : Nat) := by unfold Geo; decide
  obtain ⟨a1, a2, a3, a4, a5, a6, a7⟩ := sformat_calm (a := 30) (b := 18) (c := 4) hok hby hf (by omega) (by omega) hg hz
  obtain ⟨b1, b2, b3, b4⟩ := sup_read hg
  have hi : V.Inv S 30 [] 1 := V.Inv.zero hok hby hp (by omega) (by omega)
  have a5 : (sformat S 30 30 18 4).2.now 0 = supOf 30 18 4 := a5
  exact ⟨a1, a2, hi.sfmt (by omega) 30 18 4, by rw [a5]; exact b1, by rw [a5]; exact b2, by rw [a5]; exact b3, by rw [a5]; exact b4, a6, a7⟩
theorem begin_free0 {G : SG} {S : DS} (hd : G.L.dead S = false) (hb : G.busy = false) : G.begin S = 0 := by
  unfold SG.begin
  rw [hd, hb]
  rfl
theorem refusal_none {G : SG} {S : DS} {b : Int} (hd : G.L.dead S = false) (h0 : 0 ≤ b) (h1 : b < (G.y.blocks : Int)) : (⟨[], 0, false⟩ : TG).refusal G S b = 0 := by
  have e1 : (⟨[], 0, false⟩ : TG).over G S = 0 := by unfold TG.over; rw [hd]; rfl
  have e2 : (⟨[], 0, false⟩ : TG).state G S = 0 := by unfold TG.state; rw [e1]; rfl
  unfold TG.refusal
  rw [e2, if_neg (fun h => h rfl), if_neg (by omega)]
set_option maxRecDepth 20000 in
set_option maxHeartbeats 8000000 in
theorem made5_any (w : World) : Calls Tryz.prog 10 #[] w fun e w' => e = .returned (.bool true) ∧ Below w.heap.size w w' := by
  have k1 := new_ok 30 w (by omega) (by omega)
  rw [show ((30 : Nat) : Int) = 30 from rfl] at k1
  go_enter Tryz.func10, Tryz.ntmps10
  go_wp2_with fail
  refine k1.mono ?_
  rintro e w1 ⟨p, rfl, hd1, hb1⟩
  have hd1' : B.DiskR w1 (fun k => w.heap.size ≤ k ∧ k < w1.heap.size) p 30 (DS.fresh (List.replicate (30 * 512) 0)) 0 := ⟨0, hd1, fun _ => ⟨Int.le_refl _, Int.le_refl _⟩⟩
  have hm := made_30 hd1.ok ⟨Bytes.zeros _, fun q hq => by cases hq⟩ rfl rfl rfl (fun j hj => fresh_now hj)
  have hby : (DS.fresh (List.replicate (30 * 512) 0)).Byt := ⟨Bytes.zeros _, fun q hq => by cases hq⟩
  have hpu : (DS.fresh (List.replicate (30 * 512) 0)).puts.length = 0 := rfl
  generalize DS.fresh (List.replicate (30 * 512) 0) = S0 at *
  have hlo1 : ∀ k, (fun k => w.heap.size ≤ k ∧ k < w1.heap.size) k → w.heap.size ≤ k := fun k hk => hk.1
  have hlt1 : ∀ k, (fun k => w.heap.size ≤ k ∧ k < w1.heap.size) k → k < w1.heap.size := fun k hk => hk.2
  generalize (fun k => w.heap.size ≤ k ∧ k < w1.heap.size) = F1 at *
  have k2 := sformat_any hd1' hby 30 18 4 (by omega)
  obtain ⟨m1, m2, m3, m4, m5, m6, m7, m8, m9⟩ := hm
  rw [m1] at k2
  generalize (sformat S0 30 30 18 4).2 = S1 at *
  have HB1 := hb1
  have HI := m3
  have HZ := m9
  have HLo1 := hlo1
  have zz1 := hb1.size
  clear k1 hd1 hd1' hb1 hby hpu m1 m3 m9 hlo1
  go_wp2_with fail
  refine k2.mono ?_
  rintro e w2 ⟨rfl, hd2, hk2⟩
  have k3 := stOpen_any hd2 HI.byt (by have := HI.p6; omega)
  have HD2lt := hd2.lt
  have HK2 := hk2
  have zz2 := hk2.size
  clear k2 hd2 hk2
  go_wp2_with fail
  refine k3.mono ?_
  rintro e w3 ⟨x, S2, cR, _, hso, hk3, hcase⟩
  obtain ⟨n1, n2, n3⟩ := sopen_calm HI.ok HI.byt m2 m4 m8 (fun j hj => HZ (1 + 2 + j) (by omega) (by omega)) hso
  rcases hcase with ⟨hx, _⟩ | ⟨_, q, l, m, L, F', hsl, rfl, hF', hq, hl, hm', hst⟩
  · exact absurd n1 hx
  · have hlf : L.life = S2.life := by
      rw [hsl.life]
      rcases hso.life with ⟨_, h9⟩ | h9
      · exact absurd n1 h9
      · exact h9.symm
    have hdead : L.dead S2 = false := by
      unfold LG.dead
      rw [hlf, n2]
      simp
    have k4 := (sbegin_any hst).mono (fun e w' h => by unfold BegOut at h; rw [if_neg (fun h => h (begin_free0 hdead rfl))] at h; exact h)
    have hp2 := ((HI.sopen (by omega) hso).2 n1 L hsl).p6
    have HSt := hst
    have HSo := hso
    have HK3 := hk3
    have HF' := hF'
    have zz3 := hk3.size
    clear k3 hst hso hk3 hF' hsl n1
    go_wp2_with fail
    refine k4.mono ?_
    rintro e w4 ⟨t, n, rfl, hn4, ht4, htn, htx4, hch4, hst4, hk4⟩
    have hstW : StW w4 F' p 30 cR q l m S2 ⟨lyOf (S1.now 0), L, [], true⟩ := ⟨HSt.d.keep hk4 (fun g hg e => HSt.nq (e ▸ hg)), hst4, HSt.lp.keep hk4 (fun e => HSt.ql e.symm), HSt.ch.keep hk4 (fun e => HSt.qm e.symm), HSt.nq, HSt.nl, HSt.nm, HSt.ql, HSt.qm, HSt.lm, HSt.lk, HSt.bg, HSt.hs, HSt.kb⟩
    have hFl := HSt.d.lt
    have hql := HSt.st.lt
    have hll := HSt.lp.lt
    have hml := HSt.ch.lt
    have htW : TxW w4 F' q l m t n ⟨lyOf (S1.now 0), L, [], true⟩ ⟨[], 0, false⟩ := ⟨htx4, hch4, fun hx => by have := hFl _ hx; omega, fun hx => by have := hFl _ hx; omega, by omega, by omega, by omega, htn, by omega, by omega, by omega, fun x hx => by cases hx⟩
    have hrz : (⟨[], 0, false⟩ : TG).refusal ⟨lyOf (S1.now 0), L, [], true⟩ S2 8 = 0 := refusal_none hdead (by omega) (by show 8 < ((lyOf (S1.now 0)).blocks : Int); omega)
    have hse : (⟨[], 0, false⟩ : TG).sees ⟨lyOf (S1.now 0), L, [], true⟩ S2 (8 : Int).toNat = zs 512 := by
      show S2.now ((lyOf (S1.now 0)).home + 8) = zs 512
      rw [m6, n3 29 (by omega) (by omega)]
      exact HZ 29 (by omega) (by omega)
    have k5 := (Get_any hstW htW 8 (by omega)).mono (fun e w' h => by rw [hse] at h; unfold GetOut at h; rw [if_neg (fun h => h hrz)] at h; exact h)
    have HK4 := hk4
    have zz4 := hk4.size
    clear k4 htx4 hch4 hst4 hk4 hstW htW hrz hse
    go_wp2_with fail
    refine k5.mono ?_
    rintro e w5 ⟨⟨g5, rfl, hg5, hblk⟩, hd5, hk5⟩
    have HBk := hblk
    have hb5 : Below w.heap.size w w5 := by
      have f2 : ∀ g, more F1 w1 w2 g → w.heap.size ≤ g := fun g hg => hg.elim (HLo1 g) (fun h => by omega)
      have f3 := fun g hg => (HF' g hg).elim (f2 g) (fun h => by omega)
      exact (((HB1.trans (HK2.below HLo1 zz1)).trans (HK3.below f2 (by omega))).trans (HK4.below (fun g hg => by omega) (by omega))).trans (hk5.below f3 (by omega))
    have HB5 := hb5
    have zz5 := hk5.size
    clear k5 hblk hd5 hk5 hb5
    have hmk : (Instr.makeSlice 22 (.int .i64 512) (.int .i64 512)).run Tryz.prog w5 = .ok (.slice (some ⟨w5.heap.size, 0, none⟩) 512 512) (w5.alloc (.cells (madeCells #[.int .u8 0] 512) 5)) := run_make_row' (P := Tryz.prog) 22 5 (.int .u8 0) 1 Tryz.underlying22 infoU8 rfl .i64 .i64 512 (by omega) (by omega) w5
    obtain ⟨w6, hw6⟩ : ∃ w6, w6 = w5.alloc (.cells (madeCells #[.int .u8 0] 512) 5) := ⟨_, rfl⟩
    rw [← hw6] at hmk
    have hb6 : Below w5.heap.size w5 w6 := by rw [hw6]; exact below_box _ _
    have hr' : RowAt w6 5 w5.heap.size 512 (bs (zs 512)) := by
      rw [hw6]
      exact made_row (World.ownsRow_lit (base := w5.heap.size) w5 (madeCells #[.int .u8 0] 512) 512 (Nat.le_refl _) (by unfold maxLen; omega) (by simp [madeCells]))
    have hs6 : Src w6 (some ⟨w5.heap.size, 0, none⟩) 512 (zs 512) := by have := hr'.src; rwa [zs_len] at this
    have k6 := same_any (some ⟨g5, 0, none⟩) (some ⟨w5.heap.size, 0, none⟩) 512 512 512 (zs 512) w6 (by omega) (by
        have h9 := (HBk.keep (hb6.block g5 HBk.lt)).src (o := 0) (n := 512) (by have := zs_len 512; omega)
        rwa [List.drop_zero, List.take_of_length_le (by rw [zs_len]; omega)] at h9) hs6
    have HB6 := (HB5.trans (hb6.mono (by omega)))
    have zz6 := hb6.size
    clear hr' hb6 hs6 hw6
    go_wp2_with fail
    refine k6.mono ?_
    rintro e w7 ⟨rfl, hb7⟩
    have HB7 := (HB6.trans (hb7.mono (by omega)))
    clear k6 hb7
    go_wp2
    go_ret
    exact ⟨rfl, HB7⟩
end Go.Proofs.YtokcgifpljeoiaaGreat
end

section
namespace Go.Proofs.YtokcgifpljeoiaaGreat
open Go.RowKit Go.Maps

theorem wrapS {z : Int} (h0 : -4611686018427387904 ≤ z) (h1 : z ≤ 4611686018427387904) : wrap64 z = z := by
  unfold wrap64
  omega
/-- n turned into lo to hi. -/
def wthn (n : Int) (lo hi : Nat) : Nat := lo + (n.emod (hi - lo + 1 : Nat)).toNat
theorem wthn_in (n : Int) {lo hi : Nat} (h : lo ≤ hi) : lo ≤ wthn n lo hi ∧ wthn n lo hi ≤ hi := by
  unfold wthn
  have h1 : (0 : Int) < ((hi - lo + 1 : Nat) : Int) := by omega
  have h2 := Int.emod_nonneg n (by omega : ((hi - lo + 1 : Nat) : Int) ≠ 0)
  have h3 := Int.emod_lt_of_pos n h1
  have h4 : n.emod ((hi - lo + 1 : Nat) : Int) = n % ((hi - lo + 1 : Nat) : Int) := rfl
  omega
theorem tmod_emod {n : Int} {m : Nat} (hm : 0 < m) : (0 ≤ n.tmod m → n.tmod m = n % m) ∧ (n.tmod m < 0 → n.tmod m + m = n % m) := by
  have h0 : (m : Int) ≠ 0 := by omega
  have h1 := Int.emod_nonneg n h0
  have h2 := Int.emod_lt_of_pos n (by omega : (0 : Int) < m)
  have h3 := Int.tmod_add_mul_tdiv n m
  have h4 := Int.emod_add_mul_ediv n m
  have h5 : n.tmod m < m := Int.tmod_lt_of_pos n (by omega)
  have h6 : -(m : Int) < n.tmod m := Int.neg_lt_of_neg_lt (by
    have := Int.lt_tmod_of_pos n (by omega : (0 : Int) < m)
    omega)
  have key : ∀ r : Int, 0 ≤ r → r < m → ∀ q : Int, r + m * q = n → r = n % m := fun r hr0 hr1 q hq => by
    rw [← hq, Int.add_mul_emod_self_left, Int.emod_eq_of_lt hr0 hr1]
  refine ⟨fun h => key _ h h5 _ h3, fun h => key _ (by omega) (by omega) (n.tdiv m - 1) ?_⟩
  rw [Int.mul_sub]
  omega
set_option maxRecDepth 20000 in
theorem within5_any (n : Int) (lo hi : Nat) (h : lo ≤ hi) (hh : hi ≤ 1000000) (_hn : -9223372036854775808 ≤ n ∧ n ≤ 9223372036854775807) (w : World) : Calls Tryz.prog 15 #[.int .i64 n, .int .i64 (lo : Int), .int .i64 (hi : Int)] w fun e w' => e = .returned (.int .i64 (wthn n lo hi : Int)) ∧ w' = w := by
  obtain ⟨m, hm⟩ : ∃ m : Nat, m = hi - lo + 1 := ⟨_, rfl⟩
  have hr : (wthn n lo hi : Int) = (lo : Int) + n % (m : Int) := by
    have h2 := Int.emod_nonneg n (by omega : (m : Int) ≠ 0)
    unfold wthn
    rw [← hm]
    have h4 : n.emod (m : Int) = n % (m : Int) := rfl
    omega
  obtain ⟨t1, t2⟩ := tmod_emod (n := n) (m := m) (by omega)
  have h2 := Int.emod_nonneg n (by omega : (m : Int) ≠ 0)
  have h3 := Int.emod_lt_of_pos n (by omega : (0 : Int) < m)
  have hmi : (hi : Int) - (lo : Int) + 1 = (m : Int) := by omega
  have e4 : ((hi : Int) - (lo : Int) + 1 == 0) = false := by rw [hmi]; simpa using (by omega : (m : Int) ≠ 0)
  obtain ⟨R, hR⟩ : ∃ R : Int, R = n.tmod m := ⟨_, rfl⟩
  have e5 : n.tmod ((hi : Int) - (lo : Int) + 1) = R := by rw [hmi]; exact hR.symm
  rw [hr]
  rw [← hR] at t1 t2
  have hRb : -1000002 ≤ R ∧ R ≤ 1000002 := by
    by_cases q : 0 ≤ R
    · have := t1 q; omega
    · have := t2 (by omega); omega
  obtain ⟨V, hV⟩ : ∃ V : Int, V = (lo : Int) + n % (m : Int) := ⟨_, rfl⟩
  rw [← hV]
  by_cases q : 0 ≤ R
  · have q1 : ¬ R < 0 := by omega
    have e7 : (lo : Int) + R = V := by have := t1 q; omega
    have e8 : wrap64 V = V := wrapS (by omega) (by omega)
    clear hr t1 t2 h2 h3 hR hV q hm hmi
    go_enter Tryz.func15, Tryz.ntmps15
    go_wp2
    go_ret
    exact ⟨rfl, rfl⟩
  · have q1 : R < 0 := by omega
    obtain ⟨R2, hR2⟩ : ∃ R2 : Int, R + ((hi : Int) - (lo : Int) + 1) = R2 := ⟨_, rfl⟩
    have e6 : wrap64 R2 = R2 := wrapS (by omega) (by omega)
    have e7 : (lo : Int) + R2 = V := by have := t2 q1; omega
    have e8 : wrap64 V = V := wrapS (by omega) (by omega)
    clear hr t1 t2 h2 h3 hR hV q hm hmi
    go_enter Tryz.func15, Tryz.ntmps15
    go_wp2
    go_ret
    exact ⟨rfl, rfl⟩
/-- The i-th byte of Fill(n). -/
def filB (n : Int) (i : Nat) : Int := if i % 7 = 3 then IntKind.u8.wrap (n / 256) else IntKind.u8.wrap n
def filL (n : Int) : List Int := (List.range 512).map (filB n)
theorem filL_len (n : Int) : (filL n).length = 512 := by simp [filL]
/-- k bytes of it are there. -/
def filK (n : Int) (k : Nat) : List Int := (List.range k).map (filB n) ++ List.replicate (512 - k) 0
theorem filK_len (n : Int) {k : Nat} (h : k ≤ 512) : (filK n k).length = 512 := by simp [filK]; omega
theorem filK_set (n : Int) {k : Nat} (h : k < 512) : (filK n k).set k (filB n k) = filK n (k + 1) := by
  unfold filK
  rw [List.set_append_right _ _ (by simp), List.range_succ, List.map_append, List.append_assoc]
  congr 1
  simp only [List.length_map, List.length_range, Nat.sub_self]
  rw [show 512 - k = (512 - (k + 1)) + 1 by omega, List.replicate_succ]
  rfl
theorem filK_all (n : Int) : filK n 512 = filL n := by simp [filK, filL]
set_option maxRecDepth 20000 in
set_option maxHeartbeats 4000000 in
theorem fill_any5 (n : Int) (w : World) :
    Calls Tryz.prog 22 #[.int .i64 n] w fun e w' => e = .returned (.slice (some ⟨w.heap.size, 0, none⟩) 512 512) ∧ RowAt w' 5 w.heap.size 512 (bs (filL n)) ∧ Below w.heap.size w w' := by
  obtain ⟨i0, hi, hz0, hz1, hz2⟩ := info_parts infoU8
  go_enter Tryz.func22, Tryz.ntmps22
  go_wp2_with (at_make; refine wpList_make_full _ rfl _ _ 22 rfl w.heap.size 5 i0 (.int .u8 0) 1 Tryz.underlying22 hi hz0 hz1 _ _ _ _ 512 rfl rfl (by omega) (by omega) (by rw [hz2]; omega) (by unfold maxLen; omega) (Nat.le_refl _) ?_)
  intro w1 hown hgrow
  have hb := (Below.refl _ w).grown hgrow (Nat.le_refl _) (by intro k hk; cases hk)
  have hf : Full w1 w.heap.size (filK n 0) := (made_row hown).full (by simp [bs])
  have HF := hf
  have HB := hb
  clear hown hgrow hf hb
  go_wp2
  go_loopw [4] (fun i wr => ∃ k : Nat, k ≤ 512 ∧ i = .int .i64 (k : Int) ∧ Full wr w.heap.size (filK n k) ∧ Below w.heap.size w wr) (fun i _ => 512 - (intOf i).toNat)
  case atStart => exact ⟨0, by omega, rfl, HF, HB⟩
  case round =>
    obtain ⟨k, hk, rfl, hfr, hbr⟩ := hrel
    by_cases q : k < 512
    · have q1 : (k : Int) < 512 := by omega
      have hc := hfr.cell (i := k) (by rw [filK_len n hk]; exact q)
      have hz := hfr.frozen k
      have hm : (k : Int).tmod 7 = ((k % 7 : Nat) : Int) := by rw [Int.tmod_eq_emod_of_nonneg (by omega)]; omega
      have HFr := hfr
      have HBr := hbr
      have HS := filK_set n q
      clear hfr hbr
      by_cases q3 : k % 7 = 3
      · have d3 : (((k % 7 : Nat) : Int) == 3) = true := by rw [q3]; rfl
        have hfb : filB n k = IntKind.u8.wrap (n / 256) := by unfold filB; rw [if_pos q3]
        have HFb := hfb
        clear hfb q3
        go_wp2
        go_roundw
        case rel => exact ⟨k + 1, by omega, by go_num, by rw [← HS, HFb, ← set_twice (filK n k) k (n % 256)]; exact (HFr.set k _).set k _, (HBr.setCell (Nat.le_refl _) _).setCell (Nat.le_refl _) _⟩
        case measure => simp [intOf]; omega
      · have d3 : (((k % 7 : Nat) : Int) == 3) = false := by rw [beq_eq_false_iff_ne]; omega
        have hfb : filB n k = IntKind.u8.wrap n := by unfold filB; rw [if_neg q3]
        have HFb := hfb
        clear hfb q3
        go_wp2
        go_roundw
        case rel => exact ⟨k + 1, by omega, by go_num, by rw [← HS, HFb]; exact HFr.set k _, HBr.setCell (Nat.le_refl _) _⟩
        case measure => simp [intOf]; omega
    · have q1 : ¬ (k : Int) < 512 := by omega
      obtain rfl : k = 512 := by omega
      rw [filK_all] at hfr
      have HFr := hfr
      have HBr := hbr
      clear hfr hbr
      go_wp2
      go_ret
      exact ⟨rfl, by have := RowAt.of_list HFr (by rw [filL_len]; omega); rwa [filL_len] at this, HBr⟩
end Go.Proofs.YtokcgifpljeoiaaGreat
end

section
namespace Go.Proofs.YtokcgifpljeoiaaGreat
open Go.RowKit Go.Maps

theorem app_rec2 {W : World} {B k : Nat} {v : Value} {vs : List Value} (hrow : W.ownsRow B 22 1 v k vs) (x : Value) (hx : x.oneCell' = true) (hk : k ≤ 1000000) (hB : B ≤ W.heap.size) :
    ∃ g cap w', (Builtin.append_ #[33, 33] 33 #[v, .slice (some ⟨W.heap.size, 0, none⟩) 1 1]).run Tryz.prog (W.alloc (.cells #[x] 22)) = .ok (.slice (some ⟨g, 0, none⟩) (k + 1) cap) w' ∧ w'.ownsRow B 22 1 (.slice (some ⟨g, 0, none⟩) (k + 1) cap) (k + 1) (vs ++ [x]) ∧ (W.alloc (.cells #[x] 22)).grownBy w' v.ownBlock ∧ (v.ownBlock = some g ∨ g = W.heap.size + 1) := by
  obtain ⟨i0, hi, hz0, hz1, hz2⟩ := info_parts infoRow
  obtain ⟨g, cap, w', h1, h2, h3, h4, _⟩ := run_append_lies (P := Tryz.prog) (W.alloc (.cells #[x] 22)) 33 33 B 22 i0 (.slice none 0 0) 1 24 Tryz.underlying33 hi hz0 hz1 hz2 rfl (by decide) v k vs (owns_agree hrow (fun g hg => by
      obtain ⟨cur, hc⟩ := owns_block hrow hg
      exact Below.heap_alloc _ _ _ (lt_there hc))) ⟨W.heap.size, 0, none⟩ 1 1 [x] rfl (World.news_of_block (cs := #[x]) (t := 22) (fr := (0, 0)) (heap_alloc_new W _)) (by simpa using hx) (by omega) (by unfold maxLen; omega) (by omega) (by simp; omega) _ rfl
  exact ⟨g, cap, w', h1, h2, h3, h4.imp (fun e => e) (fun e => e.trans (by simp))⟩

/-- A list of contents of blocks in memory: its row and all contents lie in blocks of X. -/
def HL (w : World) (X : Nat → Prop) (v : Value) (cs : List (List Int)) : Prop :=
  ∃ vs, w.ownsRow 0 22 1 v cs.length vs ∧ (∀ g, v.ownBlock = some g → X g) ∧ ∀ i (hi : i < cs.length), ∃ g c t, vs[i]? = some (.slice (some ⟨g, 0, none⟩) 512 c) ∧ X g ∧ Src w (some ⟨g, 0, none⟩) 512 cs[i] ∧ (∃ cur, w.heap[g]? = some (.cells cur t (0, 0))) ∧ t ≠ 22
section
variable {w w' : World} {X Y G : Nat → Prop} {v u : Value} {cs : List (List Int)}
theorem HL.nil (w : World) (X : Nat → Prop) : HL w X (.slice none 0 0) [] := ⟨[], World.ownsRow_nil _ _ _ _, (fun g h => by simp [Value.ownBlock] at h), fun i hi => by cases hi⟩
theorem HL.mono (h : HL w X v cs) (hX : ∀ k, X k → Y k) : HL w Y v cs := by
  obtain ⟨vs, h1, h2, h3⟩ := h
  exact ⟨vs, h1, fun g e => hX _ (h2 g e), fun i hi => by
    obtain ⟨g, c, t, a, b, d⟩ := h3 i hi
    exact ⟨g, c, t, a, hX _ b, d⟩⟩
theorem HL.keep (h : HL w X v cs) (hk : Keeps G w w') (hX : ∀ k, X k → ¬ G k) : HL w' X v cs := by
  obtain ⟨vs, h1, h2, h3⟩ := h
  refine ⟨vs, owns_agree h1 (fun g hg => ?_), h2, fun i hi => ?_⟩
  · obtain ⟨cur, hc⟩ := owns_block h1 hg
    exact hk.block g (lt_there hc) (hX _ (h2 g hg))
  · obtain ⟨g, c, t, a, b, d, ⟨cur, e⟩, f⟩ := h3 i hi
    exact ⟨g, c, t, a, b, d.avoid hk (fun y hy _ => by cases hy; exact hX _ b), ⟨cur, (hk.block g (lt_there e) (hX _ b)).trans e⟩, f⟩
theorem HL.later (h : HL w X v cs) (hb : Below w.heap.size w w') : HL w' X v cs := h.keep (Keeps.of_below (fun _ => False) hb) (fun _ _ h => h)
theorem HL.lt (h : HL w X v cs) {g : Nat} (hv : v.ownBlock = some g) : g < w.heap.size := by
  obtain ⟨vs, h1, _⟩ := h
  obtain ⟨cur, hc⟩ := owns_block h1 hv
  exact lt_there hc
/-- What is read of it. -/
theorem HL.form (h : HL w X v cs) : ∃ a c, v = .slice a cs.length c ∧ ∀ i (hi : i < cs.length), ∃ gr g cg, a = some ⟨gr, 0, none⟩ ∧ w.cell? ⟨gr, i, none⟩ = some (.slice (some ⟨g, 0, none⟩) 512 cg) ∧ w.frozen? ⟨gr, i, none⟩ = false ∧ Src w (some ⟨g, 0, none⟩) 512 cs[i] := by
  obtain ⟨vs, h1, h2, h3⟩ := h
  have ho' := h1
  obtain ⟨hl, ⟨rfl, h0⟩ | ⟨g, cap, cur, rfl, hg, hb, _⟩⟩ := h1
  · exact ⟨none, 0, by rw [h0], fun i hi => by omega⟩
  · refine ⟨_, cap, rfl, fun i hi => ?_⟩
    obtain ⟨g', c, t, a, b, d, _⟩ := h3 i hi
    have := ho'.cells (g := g) rfl i _ a
    rw [addr_add, Nat.zero_add] at this
    exact ⟨g, g', c, rfl, this, frozen_of_block hb i, d⟩
/-- A content is put in another's place. -/
theorem HL.set (h : HL w X v cs) {i : Nat} (hi : i < cs.length) {gr g c cap n t : Nat} {d : List Int} {cur : Array Value} (hv : v = .slice (some ⟨gr, 0, none⟩) n cap) (hs : Src w (some ⟨g, 0, none⟩) 512 d) (hb : w.heap[g]? = some (.cells cur t (0, 0))) (ht : t ≠ 22) :
    HL (w.setCell ⟨gr, i, none⟩ (.slice (some ⟨g, 0, none⟩) 512 c)) (fun k => X k ∨ k = g) v (cs.set i d) := by
  subst hv
  obtain ⟨vs, h1, h2, h3⟩ := h
  have hrow := h1
  obtain ⟨hl, ⟨e, _⟩ | ⟨g0, cap0, cur0, e, hg, hb0, h5, h6, h7, h8⟩⟩ := h1
  · cases e
  · cases e
    have hk := Keeps.setCell (F := fun k => k = gr) w (p := ⟨gr, i, none⟩) rfl (.slice (some ⟨g, 0, none⟩) 512 c)
    have hvl : vs.length = cs.length := by have := hrow.1; simpa using this
    have hne : ∀ k cur' t', w.heap[k]? = some (.cells cur' t' (0, 0)) → t' ≠ 22 → k ≠ gr := fun k cur' t' hkk ht' e => by
      subst e
      rw [hb0] at hkk
      cases hkk
      exact ht' rfl
    refine ⟨vs.set i (.slice (some ⟨g, 0, none⟩) 512 c), ?_, fun k e => .inl (h2 k e), fun j hj => ?_⟩
    · refine ⟨by rw [List.length_set, List.length_set]; exact hl, .inr ⟨gr, cap, cur0.setIfInBounds i (.slice (some ⟨g, 0, none⟩) 512 c), by rw [List.length_set], hg, heap_setCell_same _ _ _ _ _ _ hb0, by rw [List.length_set]; exact h5, h6, by rw [Array.size_setIfInBounds]; exact h7, ?_⟩⟩
      rw [List.length_set, Array.toList_setIfInBounds, List.take_set, h8]
    · rw [List.length_set] at hj
      by_cases e : j = i
      · subst e
        refine ⟨g, c, t, by rw [List.getElem?_set_self (by omega)], .inr rfl, ?_, ⟨cur, (hk.block g (lt_there hb) (hne _ _ _ hb ht)).trans hb⟩, ht⟩
        rw [List.getElem_set_self]
        exact hs.avoid hk (fun y hy _ e => by cases hy; exact hne _ _ _ hb ht e)
      · obtain ⟨g', c', t', a, b, d', ⟨cur', e'⟩, f⟩ := h3 j hj
        refine ⟨g', c', t', by rw [List.getElem?_set_ne (fun h => e h.symm)]; exact a, .inl b, ?_, ⟨cur', (hk.block g' (lt_there e') (hne _ _ _ e' f)).trans e'⟩, f⟩
        rw [List.getElem_set_ne (fun h => e h.symm)]
        exact d'.avoid hk (fun y hy _ e2 => by cases hy; exact hne _ _ _ e' f e2)
/-- One content more. -/
theorem HL.push (h : HL w X v cs) (hn : cs.length ≤ 1000000) {g c t : Nat} {d : List Int} {cur : Array Value} (hx : X g) (hs : Src w (some ⟨g, 0, none⟩) 512 d) (hb : w.heap[g]? = some (.cells cur t (0, 0))) (ht : t ≠ 22) :
    ∃ g' cap' w', (Builtin.append_ #[33, 33] 33 #[v, .slice (some ⟨w.heap.size, 0, none⟩) 1 1]).run Tryz.prog (w.alloc (.cells #[.slice (some ⟨g, 0, none⟩) 512 c] 22)) = .ok (.slice (some ⟨g', 0, none⟩) (cs.length + 1) cap') w' ∧ HL w' (fun k => X k ∨ k = w.heap.size + 1) (.slice (some ⟨g', 0, none⟩) (cs.length + 1) cap') (cs ++ [d]) ∧ Keeps (fun k => v.ownBlock = some k) w w' ∧ w.heap.size ≤ w'.heap.size := by
  obtain ⟨vs, h1, h2, h3⟩ := h
  obtain ⟨g', cap', w', hrun, ho, hg, hat⟩ := app_rec2 h1 (.slice (some ⟨g, 0, none⟩) 512 c) rfl hn (Nat.zero_le _)
  have hbx := below_box w (.cells #[.slice (some ⟨g, 0, none⟩) 512 c] 22)
  have hvl : vs.length = cs.length := by have := h1.1; simpa using this
  have hk : Keeps (fun k => v.ownBlock = some k) w w' := ⟨hg.os.trans hbx.os, hg.tape.trans hbx.tape, hg.output.trans hbx.output, Nat.le_trans hbx.size hg.size, fun k hk hq => (hg.block k (Nat.lt_of_lt_of_le hk hbx.size) (fun e => hq e.symm)).trans (hbx.block k hk)⟩
  have hne : ∀ k cur' t', w.heap[k]? = some (.cells cur' t' (0, 0)) → t' ≠ 22 → ¬ v.ownBlock = some k := fun k cur' t' hk' ht' e => by
    obtain ⟨cur2, hc⟩ := owns_block h1 e
    rw [hk'] at hc
    cases hc
    exact ht' rfl
  refine ⟨g', cap', w', hrun, ⟨vs ++ [.slice (some ⟨g, 0, none⟩) 512 c], by rw [List.length_append]; exact ho, fun k hq => ?_, fun i hi => ?_⟩, hk, hk.size⟩
  · have eg : g' = k := by simpa [Value.ownBlock] using hq
    subst eg
    rcases hat with e | e
    · exact .inl (h2 _ e)
    · exact .inr e
  · by_cases e : i < cs.length
    · obtain ⟨g2, c2, t2, e1, e2, e3, ⟨cur2, e4⟩, e5⟩ := h3 i e
      refine ⟨g2, c2, t2, ?_, .inl e2, ?_, ⟨cur2, (hk.block _ (lt_there e4) (hne _ _ _ e4 e5)).trans e4⟩, e5⟩
      · rw [List.getElem?_append_left (by omega), e1]
      · rw [List.getElem_append_left e]
        exact e3.avoid hk (fun y ey _ => by cases ey; exact hne _ _ _ e4 e5)
    · have ei : i = cs.length := by simp at hi; omega
      subst ei
      refine ⟨g, c, t, ?_, .inl hx, ?_, ⟨cur, (hk.block _ (lt_there hb) (hne _ _ _ hb ht)).trans hb⟩, ht⟩
      · rw [List.getElem?_append_right (by omega), hvl]
        simp
      · simp only [List.getElem_append_right (Nat.le_refl _), Nat.sub_self, List.getElem_cons_zero]
        exact hs.avoid hk (fun y ey _ => by cases ey; exact hne _ _ _ hb ht)

theorem HL.inside (h : HL w X v cs) : HL w (fun k => X k ∧ k < w.heap.size) v cs := by
  have hl : ∀ {g}, v.ownBlock = some g → g < w.heap.size := fun e => h.lt e
  obtain ⟨vs, h1, h2, h3⟩ := h
  exact ⟨vs, h1, fun g e => ⟨h2 g e, hl e⟩, fun i hi => by
    obtain ⟨g, c, t, a, b, d, ⟨cur, e⟩, f⟩ := h3 i hi
    exact ⟨g, c, t, a, ⟨b, lt_there e⟩, d, ⟨cur, e⟩, f⟩⟩

set_option maxRecDepth 20000 in
set_option maxHeartbeats 4000000 in
theorem alike5_any {X' : Nat → Prop} (h1 : HL w X v cs) (h2 : HL w X' u cs) (hn : cs.length ≤ 1000000) :
    Calls Tryz.prog 18 #[v, u] w fun e w' => e = .returned (.bool true) ∧ Below w.heap.size w w' := by
  obtain ⟨a, c, rfl, hf⟩ := h1.form
  obtain ⟨a', c', rfl, hf'⟩ := h2.form
  have H1 := Hid.mk hf
  have H2 := Hid.mk hf'
  have hne : (((cs.length : Nat) : Int) != ((cs.length : Nat) : Int)) = false := by simp
  clear h1 h2 hf hf'
  go_enter Tryz.func18, Tryz.ntmps18
  go_wp2
  go_loopw [5] (fun i wr => ∃ j : Nat, j ≤ cs.length ∧ i = .int .i64 (j : Int) ∧ Below w.heap.size w wr) (fun i _ => cs.length - (intOf i).toNat)
  case atStart => exact ⟨0, Nat.zero_le _, rfl, Below.refl _ _⟩
  case round =>
    obtain ⟨j, hj, rfl, hbr⟩ := hrel
    have HB := Hid.mk hbr
    have hz := hbr.size
    by_cases hlt : j < cs.length
    · have hlt' : (j : Int) < (cs.length : Int) := by omega
      obtain ⟨b, x, y, rfl, c1, _, s1⟩ := H1.out j hlt
      obtain ⟨b', x', y', rfl, c2, _, s2⟩ := H2.out j hlt
      have c1 := cell_later hbr c1
      have c2 := cell_later hbr c2
      have h3 := same_any (some ⟨x, 0, none⟩) (some ⟨x', 0, none⟩) 512 y y' cs[j] wr.drew (by omega) ((s1.later hbr).later (below_drew (Below.refl wr.heap.size wr))) ((s2.later hbr).later (below_drew (Below.refl wr.heap.size wr)))
      clear hbr s1 s2
      go_wp2_with fail
      go_region_held3 (fun w' => w'.cell? ⟨b, j, none⟩ = some (.slice (some ⟨x, 0, none⟩) 512 y) ∧ w'.cell? ⟨b', j, none⟩ = some (.slice (some ⟨x', 0, none⟩) 512 y'))
        (first | exact ⟨c1, c2⟩ | exact ⟨cell_later hw1 c1, cell_later hw1 c2⟩)
        ((go_at_call 45; refine h3.mono ?_; rintro e w1 ⟨rfl, hw1⟩))
      have HB1 : Hid (Below w.heap.size w w1) := HB.out.trans ((below_drew (Below.refl wr.heap.size wr)).trans hw1 |>.mono hz)
      clear h3 hw1
      go_wp2
      go_roundw
      case rel => exact ⟨j + 1, by omega, by go_num, HB1.out⟩
      case measure => simp [intOf]; omega
    · obtain rfl : j = cs.length := by omega
      have hge : ¬ (cs.length : Int) < (cs.length : Int) := by omega
      go_wp2
      go_ret
      exact ⟨rfl, HB.out⟩
end

/-- All blocks of a store. -/
def blks (G : SG) (S : DS) (n : Nat) : List (List Int) := (List.range n).map (G.block S)
theorem blks_len (G : SG) (S : DS) (n : Nat) : (blks G S n).length = n := by simp [blks]
theorem blks_succ (G : SG) (S : DS) (n : Nat) : blks G S (n + 1) = blks G S n ++ [G.block S n] := by
  unfold blks
  rw [List.range_succ, List.map_append]
  rfl
theorem blk_src {w : World} {T : TypeId} {g : Nat} {l : List Int} (h : Blk w T g l) (hl : l.length = 512) : Src w (some ⟨g, 0, none⟩) 512 l := by
  have h9 := h.src (o := 0) (n := 512) (by omega)
  rwa [List.drop_zero, List.take_of_length_le (by omega)] at h9
/-- What all answers. -/
def AllOut (w w' : World) (F : Nat → Prop) (p s c q l m : Nat) (S : DS) (G : SG) (n : Nat) (e : Ending) : Prop :=
  ∃ v, e = .returned (.tuple #[v, .bool true]) ∧ HL w' (fun k => w.heap.size ≤ k ∧ k < w'.heap.size) v (blks G S n) ∧ StW w' F p s c q l m S G ∧ Keeps (fun k => F k ∨ k = q) w w'
theorem blk_len {w : World} {F : Nat → Prop} {p s cR q l m : Nat} {S : DS} {G : SG} (h : StW w F p s cR q l m S G) {b : Nat} (hb : b < G.y.blocks) : (G.block S b).length = 512 := by
  unfold SG.block
  cases hg : CM.get G.ov b with
  | none => exact now_len h.d.ok _ (by have := h.hs; show G.y.home + b < s; omega)
  | some c =>
    obtain ⟨D, hch⟩ := h.ch
    exact (hch.len (b, c) (CM.get_mem hg)).2.1
set_option maxRecDepth 20000 in
set_option maxHeartbeats 8000000 in
theorem all5_any {w : World} {F : Nat → Prop} {p s cR q l m : Nat} {S : DS} {G : SG} (h : StW w F p s cR q l m S G) (hd : G.L.dead S = false) (hb : G.busy = false) (hbig : S.puts.length + 1 ≤ 4000000000000) (hn : G.y.blocks ≤ 2048) :
    Calls Tryz.prog 12 #[.pointer (some ⟨q, 0, none⟩), .int .i64 (G.y.blocks : Int)] w fun e w' => AllOut w w' F p s (cR + G.y.blocks + 1) q l m S G G.y.blocks e := by
  have k1 := (sbegin_any h).mono (fun e w' h => by unfold BegOut at h; rw [if_neg (fun h => h (begin_free0 hd hb))] at h; exact h)
  have HG : Hid (∀ b : Bool, b = false → ({ G with busy := b } : SG) = G) := fun b hb2 => by subst hb2; rw [← hb]
  have HS := Hid.mk h
  have hdl := h.d.lt
  have hq := h.st.lt
  have hl := h.lp.lt
  have hm := h.ch.lt
  clear h
  go_enter Tryz.func12, Tryz.ntmps12
  go_wp2_with fail
  refine k1.mono ?_
  rintro e w1 ⟨t, n, rfl, hn4, ht4, htn, htx4, hch4, hst4, hk4⟩
  have hz1 := hk4.size
  have hstW : StW w1 F p s cR q l m S { G with busy := true } := ⟨HS.out.d.keep hk4 (fun g hg e => HS.out.nq (e ▸ hg)), hst4, HS.out.lp.keep hk4 (fun e => HS.out.ql e.symm), HS.out.ch.keep hk4 (fun e => HS.out.qm e.symm), HS.out.nq, HS.out.nl, HS.out.nm, HS.out.ql, HS.out.qm, HS.out.lm, HS.out.lk, HS.out.bg, HS.out.hs, HS.out.kb⟩
  have htW : TxW w1 F q l m t n { G with busy := true } ⟨[], 0, false⟩ := ⟨htx4, hch4, fun hx => by have := hdl _ hx; omega, fun hx => by have := hdl _ hx; omega, by omega, by omega, by omega, htn, by omega, by omega, by omega, fun x hx => by cases hx⟩
  have HW := Hid.mk (And.intro hstW (And.intro htW hk4))
  have htl := lt_there htx4
  have hnl := hch4.lt
  have hdead : ({ G with busy := true } : SG).L.dead S = false := hd
  have hfu : S.fuse ≠ 0 := dead_fuse hd
  clear k1 htx4 hch4 hst4 hk4 hstW htW
  go_wp2
  go_loopw [8, 9] (fun lv iv wr => ∃ i : Nat, iv = .int .i64 i ∧ i ≤ G.y.blocks ∧ HL wr (fun k => w1.heap.size ≤ k) lv (blks G S i) ∧ B.DiskR wr F p s S (cR + i) ∧ Keeps F w1 wr) (fun _ iv _ => G.y.blocks - (intOf iv).toNat)
  case atStart => exact ⟨0, rfl, Nat.zero_le _, HL.nil _ _, HW.out.1.d, Keeps.refl _ _⟩
  case round =>
    obtain ⟨i, rfl, hi, hll, hdr, hkr⟩ := hrel
    have hst := HW.out.1.asked hdr hkr
    have htx := HW.out.2.1.asked hkr
    have hzr := hkr.size
    by_cases hlt : i < G.y.blocks
    · have hlt' : (i : Int) < (G.y.blocks : Int) := by omega
      have hrz : (⟨[], 0, false⟩ : TG).refusal { G with busy := true } S (i : Int) = 0 := refusal_none hdead (by omega) (by show (i : Int) < (G.y.blocks : Int); omega)
      have hse : (⟨[], 0, false⟩ : TG).sees { G with busy := true } S ((i : Nat) : Int).toNat = G.block S i := rfl
      have k5 := (Get_any hst htx (i : Int) hbig).mono (fun e w' h => by rw [hse] at h; unfold GetOut at h; rw [if_neg (fun h => h hrz)] at h; exact h)
      have hbl := blk_len HS.out hlt
      have HI := Hid.mk (And.intro hll (And.intro hkr hbl))
      clear hll hdr hkr hst htx hrz hse hbl
      go_wp2_with fail
      refine k5.mono ?_
      rintro e w5 ⟨⟨g5, rfl, hg5, hblk⟩, hd5, hk5⟩
      have hz5 := hk5.size
      have hll5 := HI.out.1.keep hk5 (fun k hX hF => by have := hdl k hF; omega)
      have hs5 := blk_src hblk HI.out.2.2
      obtain ⟨g', cap', w6, hrun, hll6, hk6, hz6⟩ := hll5.push (by rw [blks_len]; omega) (c := 512) (show w1.heap.size ≤ g5 by omega) hs5 hblk (by decide)
      rw [blks_len] at hrun
      have hown : ∀ k, u8.ownBlock = some k → w1.heap.size ≤ k := fun k e => by
        obtain ⟨vs, _, h2, _⟩ := hll5
        exact h2 k e
      have HE : Hid (HL w6 (fun k => w1.heap.size ≤ k) (.slice (some ⟨g', 0, none⟩) (i + 1) cap') (blks G S (i + 1)) ∧ B.DiskR w6 F p s S (cR + (i + 1)) ∧ Keeps F w1 w6) := ⟨by
          rw [blks_succ]
          rw [blks_len] at hll6
          exact hll6.mono (fun k hk => hk.elim id (fun e => by omega)), hd5.keep hk6 (fun k hF e => by have := hown k e; have := hdl k hF; omega), (HI.out.2.1.trans hk5 (fun _ h => .inl h)).trans hk6 (fun k e => .inr (hown k e))⟩
      clear k5 hblk hd5 hk5 hll5 hs5 hll6 hk6 hown HI hz5 hz6 hzr hg5
      have HRun := Hid.mk hrun
      clear hrun
      go_wp2_with (at_builtin; refine Lib.wpList_append_run _ rfl _ _ _ _ rfl _ _ rfl rfl _ _ HRun.out ?_)
      go_roundw
      case rel => exact ⟨i + 1, by go_num, by omega, HE.out⟩
      case measure => simp [intOf]; omega
    · have hlt' : ¬ (i : Int) < (G.y.blocks : Int) := by omega
      obtain rfl : i = G.y.blocks := by omega
      have hrz : (⟨[], 0, false⟩ : TG).refusal { G with busy := true } S (G.y.blocks : Int) = 11 := by
        have e1 : (⟨[], 0, false⟩ : TG).over { G with busy := true } S = 0 := by unfold TG.over; rw [hdead]; rfl
        have e2 : (⟨[], 0, false⟩ : TG).state { G with busy := true } S = 0 := by unfold TG.state; rw [e1]; rfl
        unfold TG.refusal
        rw [e2, if_neg (fun h => h rfl), if_pos (.inr (Int.le_refl _))]
      have k5 := (Get_any hst htx (G.y.blocks : Int) hbig).mono (fun e w' h => by unfold GetOut at h; rw [hrz, if_pos (by decide)] at h; exact h)
      have HI := Hid.mk (And.intro hll (And.intro hkr (And.intro hst htx)))
      clear hll hdr hkr hst htx hrz
      go_wp2_with fail
      refine k5.mono ?_
      rintro e w5 ⟨rfl, hd5, hk5⟩
      have hst5 := HI.out.2.2.1.asked hd5 hk5
      have htx5 := HI.out.2.2.2.asked hk5
      have hll5 := HI.out.1.keep hk5 (fun k hX hF => by have := hdl k hF; omega)
      have hab : (⟨[], 0, false⟩ : TG).abort { G with busy := true } S = (0, ⟨[], 0, true⟩, { G with busy := false }) := by
        unfold TG.abort
        have e1 : (⟨[], 0, false⟩ : TG).over { G with busy := true } S = 0 := by unfold TG.over; rw [hdead]; rfl
        rw [e1, if_neg (fun h => h rfl)]
        rfl
      have k6 := abort_any hst5 htx5
      rw [hab] at k6
      have HJ := Hid.mk (And.intro hst5 (And.intro hll5 (HI.out.2.1.trans hk5 (fun _ h => .inl h))))
      clear k5 hd5 hk5 hst5 htx5 hll5 HI hab
      go_wp2_with fail
      refine k6.mono ?_
      rintro e w6 ⟨rfl, _, _, hst6, hk6⟩
      clear k6
      have hnX : ∀ k, w1.heap.size ≤ k → ¬ (k = t ∨ k = n ∨ k = q) := fun k hk e => by omega
      have hkF : ∀ k, F k → ¬ (k = t ∨ k = n ∨ k = q) := fun k hF e => by
        have := hdl k hF
        rcases e with e | e | e
        · omega
        · omega
        · exact HS.out.nq (e ▸ hF)
      have hz6 := hk6.size
      have hz5 := HJ.out.2.2.size
      have hfin : AllOut w w6 F p s (cR + G.y.blocks + 1) q l m S G G.y.blocks (.returned (.tuple #[u8, .bool true])) := by
        refine ⟨_, rfl, ((HJ.out.2.1.keep hk6 hnX).inside).mono (fun k hk => ⟨by have := hk.1; omega, hk.2⟩), ?_, ?_⟩
        · have h9 := HJ.out.1
          have := HG.out false rfl
          have h8 : StW w6 F p s (cR + G.y.blocks + 1) q l m S { G with busy := false } := ⟨h9.d.keep hk6 hkF, hst6, h9.lp.keep hk6 (fun e => by rcases e with e | e | e; omega; omega; exact h9.ql e.symm), h9.ch.keep hk6 (fun e => by rcases e with e | e | e; omega; omega; exact h9.qm e.symm), h9.nq, h9.nl, h9.nm, h9.ql, h9.qm, h9.lm, h9.lk, h9.bg, h9.hs, h9.kb⟩
          rwa [this] at h8
        · refine ((HW.out.2.2.mono (G := fun k => F k ∨ k = q) (fun k e => .inr e)).trans HJ.out.2.2 (fun _ h => .inl (.inl h))).trans hk6 (fun k e => ?_)
          rcases e with e | e | e
          · exact .inr (by omega)
          · exact .inr (by omega)
          · exact .inl (.inr e)
      have HF := Hid.mk hfin
      clear hfin hst6 hk6 HJ
      go_wp2
      go_ret2
      exact HF.out
end Go.Proofs.YtokcgifpljeoiaaGreat
end
