import Derived.Test.YtokcgifpljeoiaaGreatW03
import Derived.Test.YtokcgifpljeoiaaGreatW24
import Derived.Deep.DeepCutAuto
import Derived.ProofKit
import Derived.OpenShut
import Derived.ChangeOld
import Derived.Deep.Slices
section
namespace Go.Proofs.YtokcgifpljeoiaaGreat
open Go.RowKit Go.Maps

/-- A list of puts that is only read, of each its block's number. -/
def PutsIn (w : World) (B : Nat) (sa : Option Addr) (n : Nat) : Prop :=
  (sa = none → n = 0) ∧ ∀ y, sa = some y → ∀ i, i < n → ∃ b o, y = ⟨b, o, none⟩ ∧ b < B ∧ ∃ x : Int, w.cell? ⟨b, o + i * 2, none⟩ = some (.int .i64 x) ∧ -9223372036854775808 ≤ x ∧ x ≤ 9223372036854775807
theorem PSrc.nil5 (w : World) : PSrc w none 0 [] := ⟨rfl, fun _ => rfl, (fun x hx => by cases hx), fun q hq => by cases hq⟩

set_option maxRecDepth 20000 in
set_option maxHeartbeats 1000000 in
theorem sany_bad (a : Option Addr) (n c : Nat) (l : List Int) (v : Value) (w : World) (hn : n ≤ 140737488355328) (hs : Src w a n l) (h : n % 512 ≠ 0) :
    Calls Tryz.prog 4 #[.slice a n c, v] w fun e w' => e = .returned (.bool true) ∧ Below w.heap.size w w' := by
  have h' : (((n : Int) % 512) != 0) = true := by rw [bne_iff_ne]; omega
  have ht := twin_any a n c l w hn hs
  have km := made5_any
  clear hs
  go_enter Tryz.func4, Tryz.ntmps4
  go_wp2_with fail
  refine ht.mono ?_
  rintro e w1 ⟨g, rfl, _, _, hb⟩
  have hl := load_bad (some ⟨g, 0, none⟩) n n w1 h hn
  go_wp2_with fail
  refine hl.mono ?_
  rintro e w2 ⟨rfl, hw2⟩
  subst hw2
  go_wp2_with fail
  refine (km _).mono ?_
  rintro e w3 ⟨rfl, hb3⟩
  have HB := Hid.mk (hb.trans (hb3.mono hb.size))
  clear hb hb3 km
  go_wp2
  go_ret
  exact ⟨rfl, HB.out⟩
set_option maxRecDepth 20000 in
set_option maxHeartbeats 1000000 in
theorem sany_no (a : Option Addr) (n c : Nat) (l : List Int) (v : Value) (w : World) (hn : n ≤ 140737488355328) (hs : Src w a n l) (h : n % 512 = 0) (h0 : n = 0 ∨ 1048576 < n) :
    Calls Tryz.prog 4 #[.slice a n c, v] w fun e w' => e = .returned (.bool true) ∧ Below w.heap.size w w' := by
  have h' : (((n : Int) % 512) != 0) = false := by rw [Bool.eq_false_iff, ne_eq, bne_iff_ne]; omega
  have key : ((n : Int) == 0) = true ∨ (((n : Int) == 0) = false ∧ (1048576 : Int) < (n : Int)) := by
    rw [Bool.eq_false_iff, ne_eq, beq_iff_eq]
    omega
  have ht := twin_any a n c l w hn hs
  have km := made5_any
  have kl := fun g w1 => load_no (some ⟨g, 0, none⟩) n n w1 h h0 hn
  clear hs h0 h
  rcases key with h1 | ⟨h1, h2⟩
  all_goals
    go_enter Tryz.func4, Tryz.ntmps4
    go_wp2_with fail
    refine ht.mono ?_
    rintro e w1 ⟨g, rfl, _, _, hb⟩
    have hl := kl g w1
    go_wp2_with fail
    refine hl.mono ?_
    rintro e w2 ⟨rfl, hw2⟩
    subst hw2
    go_wp2_with fail
    refine (km _).mono ?_
    rintro e w3 ⟨rfl, hb3⟩
    have HB := Hid.mk (hb.trans (hb3.mono hb.size))
    clear hb hb3 km
    go_wp2
    go_ret
    exact ⟨rfl, HB.out⟩
end Go.Proofs.YtokcgifpljeoiaaGreat
end

section
namespace Go.Proofs.YtokcgifpljeoiaaGreat
open Go.RowKit

theorem sup_blocks {l : List Int} {s : Nat} (h : SupAt l s) : 1 ≤ (lyOf l).blocks := by
  have h1 := h.1.geo
  have h2 := h.2
  unfold Geo at h1
  unfold lyOf
  show 1 ≤ u32 l 8 - (3 + u32 l 12)
  omega
theorem cput_len : ∀ (ms : CM) (k : Nat) (c : List Int), (CM.put ms k c).length ≤ ms.length + 1
  | [], k, c => by simp [CM.put]
  | q :: qs, k, c => by
    unfold CM.put
    split
    · simp
    · split
      · simp
      · have := cput_len qs k c
        simp only [List.length_cons]
        omega
section
variable {S S2 : DS} {s : Nat} {y : LY} {L L2 : LG} {T : TG} {G : SG}
theorem tstate_zero (hd : G.L.dead S = false) (hb : T.bad = 0) (he : T.ended = false) : T.state G S = 0 := by
  have e1 : T.over G S = 0 := by unfold TG.over; rw [hd, he]; rfl
  unfold TG.state
  rw [e1, if_neg (fun h => h rfl)]
  exact hb
theorem put_done (hd : G.L.dead S = false) (hb : T.bad = 0) (he : T.ended = false) {b : Nat} (hbb : b < G.y.blocks) {d : List Int} (hl : d.length = 512) (h16 : T.puts.length < 16) (ho : CM.Ok T.puts) :
    (T.put G S (b : Int) d).1 = 0 ∧ (T.put G S (b : Int) d).2.bad = 0 ∧ (T.put G S (b : Int) d).2.ended = false ∧ (T.put G S (b : Int) d).2.puts.length ≤ T.puts.length + 1 ∧ ∀ k, (T.put G S (b : Int) d).2.sees G S k = if k = b then d else T.sees G S k := by
  have hr : T.refusal G S (b : Int) = 0 := by
    unfold TG.refusal
    rw [tstate_zero hd hb he, if_neg (fun h => h rfl), if_neg (by omega)]
  unfold TG.put
  rw [hr, if_neg (fun h => h rfl), if_neg (by omega), Int.toNat_natCast]
  by_cases e : d = T.sees G S b
  · rw [if_pos e]
    refine ⟨rfl, hb, he, Nat.le_succ _, fun k => ?_⟩
    by_cases ek : k = b
    · rw [if_pos ek, ek]; exact e.symm
    · rw [if_neg ek]
  · rw [if_neg e, if_neg (by omega)]
    refine ⟨rfl, hb, he, cput_len _ _ _, fun k => ?_⟩
    show (CM.get (CM.put T.puts b d) k).getD (G.block S k) = _
    rw [CM.get_put _ _ _ _ ho]
    by_cases ek : k = b
    · rw [if_pos ek, if_pos ek]; rfl
    · rw [if_neg ek, if_neg ek]; rfl
/-- What is committed is what was seen. -/
theorem news_sees (ho : CM.Ok T.puts) (b : Nat) : (CM.get (T.news G S) b).getD (G.block S b) = T.sees G S b := by
  unfold TG.news TG.sees
  rw [CM.get_filter ho]
  cases hg : CM.get T.puts b with
  | none => rfl
  | some c =>
    by_cases e : c = G.block S b
    · simp [Option.filter, e]
    · simp [Option.filter, e]
theorem Clean.commits (h : Clean S s y L) (hb : T.bad = 0) (he : T.ended = false) (_ho : CM.Ok T.puts) (h16 : T.puts.length ≤ 16) (hk : ∀ q ∈ T.puts, q.1 < y.blocks ∧ q.2.length = 512 ∧ Bytes q.2) :
    (T.commit ⟨y, L, [], true⟩ S s).1 = 0 ∧ Done S (T.commit ⟨y, L, [], true⟩ S s).2.1 s y L (T.commit ⟨y, L, [], true⟩ S s).2.2.1.L (T.news ⟨y, L, [], true⟩ S) := by
  have hst : T.state ⟨y, L, [], true⟩ S = 0 := tstate_zero h.ready.1 hb he
  unfold TG.commit
  rw [hst, if_neg (fun h => h rfl)]
  by_cases hn : T.news ⟨y, L, [], true⟩ S = []
  · rw [if_pos hn, hn]
    exact ⟨rfl, h.none⟩
  · rw [if_neg hn]
    have hsub : ∀ q ∈ T.news ⟨y, L, [], true⟩ S, q ∈ T.puts := fun q hq => news_sub hq
    obtain ⟨c1, c2, c3, c4⟩ := h.commit (busy := true) (c := T.news ⟨y, L, [], true⟩ S) (by
        cases hx : T.news ⟨y, L, [], true⟩ S with
        | nil => exact absurd hx hn
        | cons a b => simp) (Nat.le_trans (news_le _ _ _) h16) (fun q hq => ⟨(hk q (hsub q hq)).1, (hk q (hsub q hq)).2.1⟩) (fun q hq => (hk q (hsub q hq)).2.2)
    rw [if_neg (by rw [c1]; exact fun h => h rfl)]
    exact ⟨rfl, c4⟩
theorem crash_now5 (hok : S.Ok s) (hp : S.puts = []) (l : List P3) {j : Nat} (hj : j < s) : (S.crash s l).now j = S.now j := by
  have e1 : S.now j = dsec S.im j := now_none _ _ (by rw [hp]; rfl)
  rw [now_none _ _ rfl]
  show dsec (imOf s (cutOf S l)) j = S.now j
  rw [sec_imOf s (cutOf S l) (fun k hk => cut_len hok l k hk) j hj, e1]
  unfold cutOf
  rw [if_pos (by rw [hp]; rfl)]
/-- What a disk is that is loaded from the image behind a Sync and a cut. -/
theorem Done.again {c : CM} (h : Done S S2 s y L L2 c) : (L2.sync S2 s).1 = 0 ∧ (L2.sync S2 s).2.puts = [] ∧ (L2.sync S2 s).2.Ok s ∧ ((L2.sync S2 s).2.crash s []).Byt ∧ ∀ j, j < s → (DS.fresh ((L2.sync S2 s).2.crash s []).im).now j = S2.now j := by
  have hu : L2.unready S2 = 0 := by
    have h1 : L2.dead S2 = false := by
      unfold LG.dead
      rw [h.lf, h.fu]
      simp
    unfold LG.unready
    rw [h1, h.bg]
    rfl
  have e : L2.sync S2 s = S2.fl s := by
    unfold LG.sync
    rw [if_neg (by rw [hu]; exact fun h => h rfl)]
  rw [e]
  have h0 := fl_done (S := S2) (s := s) h.fu
  have hp := fl_zero h0
  have hok := fl_ok (s := s) h.ok
  refine ⟨h0, hp, hok, (h.byt.fl s).crash s [], fun j hj => ?_⟩
  show dsec ((S2.fl s).2.crash s []).im j = S2.now j
  have e1 : ((S2.fl s).2.crash s []).now j = dsec ((S2.fl s).2.crash s []).im j := now_none _ _ rfl
  rw [← e1, crash_now5 hok hp [] hj]
  exact fl_now h.ok hj
end
end Go.Proofs.YtokcgifpljeoiaaGreat
end

section
namespace Go.Proofs.YtokcgifpljeoiaaGreat
open Go.RowKit Go.Maps

section
variable {w w' : World} {F H : Nat → Prop} {p s c c' q l m t n : Nat} {S : DS} {G : SG} {T : TG}
theorem StW.over (h : StW w F p s c q l m S G) (hk : Keeps H w w') (hd : B.DiskR w' F p s S c') (hq : ¬ H q) (hl : ¬ H l) (hm : ¬ H m) : StW w' F p s c' q l m S G :=
  ⟨hd, h.st.keep hk hq, h.lp.keep hk hl, h.ch.keep hk hm, h.nq, h.nl, h.nm, h.ql, h.qm, h.lm, h.lk, h.bg, h.hs, h.kb⟩
end
theorem filL_bytes (n : Int) : Bytes (filL n) := fun x hx => by
  obtain ⟨i, _, rfl⟩ := List.mem_map.1 hx
  unfold filB
  split <;> (rw [IntKind.wrap_u8]; omega)
/-- What holds between the puts of StoreAny. -/
structure LpI (w wr : World) (F : Nat → Prop) (p s c q l m t n : Nat) (S : DS) (y : LY) (L : LG) (T : TG) (Bq : Nat) (X : Nat → Prop) (v : Value) (cs : List (List Int)) : Prop where
  st : StW wr F p s c q l m S ⟨y, L, [], true⟩
  tx : TxW wr F q l m t n ⟨y, L, [], true⟩ T
  hl : HL wr X v cs
  hx : ∀ k, X k → Bq ≤ k ∧ k ≠ t ∧ k ≠ n ∧ k < wr.heap.size
  be : Below w.heap.size w wr
  ba : T.bad = 0
  en : T.ended = false
  ln : cs.length = y.blocks
  se : ∀ b (hb : b < cs.length), cs[b] = T.sees ⟨y, L, [], true⟩ S b
section
variable {w wr wt wp : World} {F X : Nat → Prop} {p s c q l m t n Bq : Nat} {S : DS} {y : LY} {L : LG} {T : TG} {v : Value} {cs : List (List Int)}
theorem LpI.ok (h : LpI w wr F p s c q l m t n S y L T Bq X v cs) : CM.Ok T.puts ∧ ∀ x ∈ T.puts, x.1 < y.blocks ∧ x.2.length = 512 ∧ Bytes x.2 := by
  obtain ⟨D, hch⟩ := h.tx.ch
  exact ⟨hch.ok, fun x hx => ⟨h.tx.kb x hx, (hch.len x hx).2⟩⟩
/-- A Put, and the content in the list besides. -/
theorem LpI.step (h : LpI w wr F p s c q l m t n S y L T Bq X v cs) (hF : ∀ k, F k → k < Bq) (hq : q < Bq) (hl : l < Bq) (hm : m < Bq) (_hB : w.heap.size ≤ Bq) (hw : w.heap.size ≤ q ∧ w.heap.size ≤ l ∧ w.heap.size ≤ m) (hFw : ∀ k, F k → w.heap.size ≤ k) (htn : w.heap.size ≤ t ∧ w.heap.size ≤ n) (hd : L.dead S = false) (h16 : T.puts.length < 16) {b : Nat} (hb : b < y.blocks) {d : List Int} (hdl : d.length = 512) (hbt : Below wr.heap.size wr wt)
    (hrow : RowAt wt 5 wr.heap.size 512 (bs d)) {e : Ending} (hp : PutOut wt wp F p s (c + 1) q t n S (T.put ⟨y, L, [], true⟩ S (b : Int) d) e) {gr nn cap : Nat} (hv : v = .slice (some ⟨gr, 0, none⟩) nn cap) :
    e = .returned (.int .i64 0) ∧ (∃ u, wp.cell? ⟨gr, b, none⟩ = some u) ∧ wp.frozen? ⟨gr, b, none⟩ = false ∧ LpI w (wp.setCell ⟨gr, b, none⟩ (.slice (some ⟨wr.heap.size, 0, none⟩) 512 512)) F p s (c + 1) q l m t n S y L (T.put ⟨y, L, [], true⟩ S (b : Int) d).2 Bq (fun k => X k ∨ k = wr.heap.size) v (cs.set b d) ∧ (T.put ⟨y, L, [], true⟩ S (b : Int) d).2.puts.length ≤ T.puts.length + 1 := by
  obtain ⟨o1, o2⟩ := h.ok
  obtain ⟨q1, q2, q3, q4, q5⟩ := put_done (G := ⟨y, L, [], true⟩) (S := S) hd h.ba h.en (b := b) hb hdl h16 o1
  obtain ⟨rfl, hpt, hpc, hpd, hpk⟩ := hp
  have hst := h.st.later hbt
  have htx := h.tx.later hbt
  have hzt := hbt.size
  have hzp := hpk.size
  have hkb : ∀ x ∈ (T.put ⟨y, L, [], true⟩ S (b : Int) d).2.puts, x.1 < y.blocks := by
    intro x hx
    unfold TG.put at hx
    split at hx
    · exact h.tx.kb x hx
    · split at hx
      · exact h.tx.kb x hx
      · split at hx
        · exact h.tx.kb x hx
        · split at hx
          · exact h.tx.kb x hx
          · rcases CM.put_key hx with rfl | e
            · show (b : Int).toNat < y.blocks
              rw [Int.toNat_natCast]
              exact hb
            · exact h.tx.kb x e
  rw [q1]
  generalize (T.put ⟨y, L, [], true⟩ S (b : Int) d).2 = T' at *
  have hstp : StW wp F p s (c + 1) q l m S ⟨y, L, [], true⟩ := hst.over hpk hpd (by rintro (h9 | h9 | h9); exact hst.nq h9; exact htx.tq h9.symm; exact htx.nq h9.symm) (by rintro (h9 | h9 | h9); exact hst.nl h9; exact htx.tl h9.symm; exact htx.nl h9.symm) (by rintro (h9 | h9 | h9); exact hst.nm h9; exact htx.tm h9.symm; exact htx.nm h9.symm)
  have htxp : TxW wp F q l m t n ⟨y, L, [], true⟩ T' := ⟨hpt, hpc, htx.nt, htx.nn, htx.tq, htx.tl, htx.tm, htx.tn, htx.nq, htx.nl, htx.nm, hkb⟩
  have hXn : ∀ k, X k → ¬ (F k ∨ k = t ∨ k = n) := fun k hk => by
    have := h.hx k hk
    rintro (h9 | h9 | h9)
    · have := hF k h9; omega
    · omega
    · omega
  have hHp : HL wp X v cs := (h.hl.later hbt).keep hpk hXn
  have hnew : ¬ (F wr.heap.size ∨ wr.heap.size = t ∨ wr.heap.size = n) := by
    have h7 := lt_there h.tx.tx
    have h8 := h.tx.ch.lt
    rintro (h9 | h9 | h9)
    · have := h.st.d.lt _ h9; omega
    · omega
    · omega
  have hrowp := hrow.agree (hpk.block _ hrow.lt hnew)
  obtain ⟨cur, hc1, _⟩ := hrowp
  have hsrc : Src wp (some ⟨wr.heap.size, 0, none⟩) 512 d := by
    have := (hrow.agree (hpk.block _ hrow.lt hnew)).src
    rwa [hdl] at this
  have hbl : b < cs.length := by rw [h.ln]; exact hb
  have hset := hHp.set hbl (c := 512) hv hsrc hc1 (by decide)
  have hgX : X gr := by
    obtain ⟨vs, _, h2, _⟩ := hHp
    exact h2 gr (by rw [hv]; rfl)
  obtain ⟨a2, c2, e2, hform⟩ := hHp.form
  obtain ⟨gr2, g2, cg2, e3, e4, e5, _⟩ := hform b hbl
  rw [hv] at e2
  cases e2
  cases e3
  have hgx := h.hx gr hgX
  have hks := Keeps.setCell (F := fun k => k = gr) wp (p := ⟨gr, b, none⟩) rfl (.slice (some ⟨wr.heap.size, 0, none⟩) 512 512)
  have hFg : ¬ F gr := fun h9 => by have := hF gr h9; omega
  have hbw : Below w.heap.size w wt := h.be.trans (hbt.mono h.be.size)
  have hbp : Below w.heap.size w wp := hbw.trans (hpk.below (by
    rintro k (h9 | h9 | h9)
    · exact hFw k h9
    · omega
    · omega) hbw.size)
  refine ⟨rfl, ⟨_, e4⟩, e5, ⟨hstp.over hks (hstp.d.keep hks (fun k hk e => hFg (e ▸ hk))) (by omega) (by omega) (by omega), htxp.re hks (by omega) (by omega) htx.nt htx.nn rfl, hset, ?_, hbp.trans (hks.below (fun k e => by omega) hbp.size), q2, q3, by rw [List.length_set]; exact h.ln, ?_⟩, q4⟩
  · have hkz := hks.size
    rintro k (hk | hk)
    · have := h.hx k hk
      exact ⟨this.1, this.2.1, this.2.2.1, by omega⟩
    · have h7 := lt_there h.tx.tx
      have h8 := h.tx.ch.lt
      have h9 := hrow.lt
      have h10 := h.hx gr hgX
      exact ⟨by omega, by omega, by omega, by omega⟩
  · intro k hk
    rw [List.length_set] at hk
    rw [q5 k]
    by_cases e : k = b
    · subst e
      rw [if_pos rfl, List.getElem_set_self]
    · rw [if_neg e, List.getElem_set_ne (fun h => e h.symm)]
      exact h.se k hk
end
end Go.Proofs.YtokcgifpljeoiaaGreat
end

section
namespace Go.Proofs.YtokcgifpljeoiaaGreat
open Go.RowKit Go.Maps

/-- An Open, with how often it reads. -/
def OpenedR (w : World) (F : Nat → Prop) (p s c : Nat) (S : DS) (e : Ending) (w' : World) : Prop := ∃ x S' cR, cR ≤ c + 2 * s + 16 ∧ SOut S s x S' ∧ Keeps F w w' ∧ ((x ≠ 0 ∧ e = .returned (.tuple #[.pointer none, .int .i64 x]) ∧ B.DiskR w' (more F w w') p s S' cR) ∨ (x = 0 ∧ ∃ q l m L F', SLog S s L ∧ e = .returned (.tuple #[.pointer (some ⟨q, 0, none⟩), .int .i64 0]) ∧ (∀ k, F' k → more F w w' k) ∧ w.heap.size ≤ q ∧ w.heap.size ≤ l ∧ w.heap.size ≤ m ∧ StW w' F' p s cR q l m S' ⟨lyOf (S.now 0), L, [], false⟩))
theorem openR_any {w : World} {F : Nat → Prop} {p s c : Nat} {S : DS} (h : B.DiskR w F p s S c) (hby : S.Byt) (hf : S.fuse ≠ 0) (hbig : S.puts.length + 6000 ≤ 4000000000000) :
    Calls Tryz.prog 11 #[.pointer (some ⟨p, 0, none⟩)] w fun e w' => OpenedR w F p s c S e w' := by
  by_cases hsup : SupAt (S.now 0) s
  · refine (stOpen_ok h hby hbig hf hsup).mono ?_
    rintro e w' ⟨x, S', cR, h1, h2, h3, h4⟩
    have := stOpen_geo hsup
    exact ⟨x, S', cR, by omega, h2, h3, h4⟩
  · refine (stOpen_no h hby (by omega) (.inr hsup)).mono ?_
    rintro e w' ⟨x, rfl, h2, h3, h4⟩
    refine ⟨x, S, c + 1, by omega, h2, h4, .inl ⟨?_, rfl, h3.more⟩⟩
    rcases h2 with ⟨_, h5, _⟩ | ⟨h5, _⟩
    · exact h5
    · exact absurd h5 hsup

set_option maxRecDepth 20000 in
set_option maxHeartbeats 16000000 in
theorem sany_ok (a : Option Addr) (n c s : Nat) (l : List Int) (sa : Option Addr) (pn pc : Nat) (w : World) (hn : n = s * 512) (h1 : 1 ≤ s) (h2 : s ≤ 2048) (hs : Src w a n l) (hbl : Bytes l) (hpi : PutsIn w w.heap.size sa pn) (_hpn : pn ≤ 140737488355328) :
    Calls Tryz.prog 4 #[.slice a n c, .slice sa pn pc] w fun e w' => e = .returned (.bool true) ∧ Below w.heap.size w w' := by
  have hn47 : n ≤ 140737488355328 := by omega
  have ht := twin_any a n c l w hn47 hs
  have hll := hs.1
  have km := made5_any
  have HN := Hid.mk hn
  have HPi := Hid.mk hpi
  clear hs hn hpi
  go_enter Tryz.func4, Tryz.ntmps4
  go_wp2_with fail
  refine ht.mono ?_
  rintro e w1 ⟨g, rfl, hg, hr, hb1⟩
  have hl := load_ok ⟨g, 0, none⟩ n n s l w1 HN.out h1 h2 hll (fun i hi => hr.byte (by omega))
  clear hr ht hg
  go_wp2_with fail
  refine hl.mono ?_
  rintro e w2 ⟨p, rfl, hd, hb2⟩
  have hb : Below w.heap.size w w2 := hb1.trans (hb2.mono hb1.size)
  have hz1 := hb1.size
  obtain ⟨F, hd, hFl⟩ : ∃ F, DiskAt w2 F p s (DS.fresh l) ∧ ∀ k, F k → w.heap.size ≤ k := ⟨_, hd, fun k h => by omega⟩
  have hdB : B.DiskR w2 F p s (DS.fresh l) 0 := ⟨0, hd, fun _ => ⟨Int.le_refl _, Int.le_refl _⟩⟩
  have hS0 : (DS.fresh l).puts = [] ∧ (DS.fresh l).fuse = -1 ∧ (DS.fresh l).life = 1 ∧ (DS.fresh l).writes = 0 ∧ (DS.fresh l).refused = 0 ∧ (DS.fresh l).Byt := ⟨rfl, rfl, rfl, rfl, rfl, hbl, fun q hq => by cases hq⟩
  generalize DS.fresh l = S at *
  obtain ⟨hp, hf, hlf, hwr, hrf, hby⟩ := hS0
  have HB2 := Hid.mk (And.intro hb (And.intro hdB (And.intro hFl hdB.lt)))
  have HP := Hid.mk (And.intro hp (And.intro hf (And.intro hlf (And.intro hwr (And.intro hrf (And.intro hby hdB.ok))))))
  clear hl hd hb hb1 hb2 hFl hp hf hlf hwr hrf hby hdB hbl hll hn47 hz1 HN
  go_wp2_with fail
  refine (km _).mono ?_
  rintro e w3 ⟨rfl, hb3⟩
  have hb3' := HB2.out.1.trans (hb3.mono HB2.out.1.size)
  have hd3 := HB2.out.2.1.later hb3
  have k3 := openR_any hd3 HP.out.2.2.2.2.2.1 (by rw [HP.out.2.1]; decide) (by rw [HP.out.1]; simp)
  have HB3 := Hid.mk (And.intro hb3' (And.intro hd3.lt HB2.out.2.2.1))
  clear hb3 hb3' hd3 km
  go_wp2_with fail
  refine k3.mono ?_
  rintro e w4 ⟨x, S1, cR, hcR, hso, hk4, hcase⟩
  have hinv : V.Inv S s [] 1000 := V.Inv.zero HP.out.2.2.2.2.2.2 HP.out.2.2.2.2.2.1 (by rw [HP.out.1]; rfl) (by rw [HP.out.2.2.1]; decide) (by rw [HP.out.2.2.1]; decide)
  have hsop := hinv.sopen (by omega) hso
  have hcln := hso.clean HP.out.2.2.2.2.2.2 HP.out.2.2.2.2.2.1 HP.out.2.1 HP.out.1 (by rw [HP.out.2.2.1]; decide) (by rw [HP.out.2.2.1]; decide)
  have hrf1 : S1.refused = 0 := hso.rf.trans HP.out.2.2.2.2.1
  clear k3 hinv
  rcases hcase with ⟨hx, rfl, hd4⟩ | ⟨hx, q, ll, m, L, F', hsl, rfl, hF', hq, hl, hm, hst⟩
  · obtain ⟨hxc, hwr1⟩ := hcln.1 hx
    have hpu := (hsop.1 hx).p6
    have kc := B.dcounts hd4 (by omega) (by omega)
    rw [hrf1, hwr1, HP.out.2.2.2.1] at kc
    have hxx : x = 6 ∨ x = 41 := hxc.imp (fun h => h.1) id
    have HB4 := Hid.mk (HB3.out.1.trans (hk4.below (fun k hF => HB3.out.2.2 k hF) HB3.out.1.size))
    clear hcln hsop hso hxc hwr1 hd4 hk4 hrf1 HB3 hpu
    go_wp2_with fail
    refine kc.mono ?_
    rintro e w5 ⟨r, rfl, hr, hd5, hb5⟩
    have HB5 := Hid.mk (And.intro (HB4.out.trans (hb5.mono HB4.out.size)) (hd5.later (below_box w5 (.cells #[.int .i64 (r : Int), .int .i64 0, .int .i64 S1.flushes, .int .i64 0, .int .i64 (S1.puts.length : Int)] 50))))
    clear kc hb5 hd5 HB4
    go_wp2_with fail
    obtain ⟨W6, hW6⟩ : ∃ W6, W6 = w5.alloc (.cells #[.int .i64 (r : Int), .int .i64 0, .int .i64 S1.flushes, .int .i64 0, .int .i64 (S1.puts.length : Int)] 50) := ⟨_, rfl⟩
    have hbx : W6.heap[w5.heap.size]? = some (.cells #[.int .i64 (r : Int), .int .i64 0, .int .i64 S1.flushes, .int .i64 0, .int .i64 (S1.puts.length : Int)] 50 (0, 0)) := by rw [hW6]; exact heap_alloc_new _ _
    have hb6 : Below w.heap.size w W6 := HB5.out.1.trans (by rw [hW6]; exact (below_box _ _).mono HB5.out.1.size)
    have hd6 := HB5.out.2
    rw [← hW6] at hd6 ⊢
    have c0 := cell_of_block hbx (j := 0) rfl
    have c1 := cell_of_block hbx (j := 1) rfl
    have c3 := cell_of_block hbx (j := 3) rfl
    have ks := B.dsectors (hd6.later (below_drew (Below.refl _ _)))
    have e1 : decide (2 * (s : Int) + 16 < (r : Int)) = false := decide_eq_false (by omega)
    have hw2 : IntKind.i64.wrap (2 * (s : Int)) = 2 * (s : Int) := by rw [IntKind.wrap_i64]; omega
    have hw16 : IntKind.i64.wrap (2 * (s : Int) + 16) = 2 * (s : Int) + 16 := by rw [IntKind.wrap_i64]; omega
    have HB6 := Hid.mk hb6
    clear hb6 hd6 HB5 hW6 hbx
    refine wp_region_held_drew (S := fun w' => w'.cell? ⟨w5.heap.size, 0, none⟩ = some (.int .i64 (r : Int)) ∧ w'.cell? ⟨w5.heap.size, 3, none⟩ = some (.int .i64 0)) (by kernel_rfl) (⟨c0, c3⟩) (fun hHeld => ?_)
    refine wpAnyH_take (i := 0) (oi := { dst := some 56, op := Op.fieldAddr 50 (Operand.tmp 9) 0, type := 0, pos := "outright.go:446", after := #[], guard := none }) (v := .pointer (some ⟨w5.heap.size, 0, none⟩)) rfl (by kernel_rfl) (by kernel_rfl) (by kernel_rfl) (fun _ _ _ h => h) (Or.inl ⟨by rfl, ?_⟩) (by assumption) ?_
    · intro w hSw
      (try dsimp only at hSw)
      go_simp
    try simp only [Act.put, List.setIfInBounds_toArray, List.set_cons_zero, List.set_cons_succ]
    refine wpAnyH_take (i := 1) (oi := { dst := some 57, op := Op.load 3 (Operand.tmp 56), type := 3, pos := "outright.go:446", after := #[{ on := 0, ground := Ground.data }], guard := none }) (v := .int .i64 (r : Int)) rfl (by kernel_rfl) (by kernel_rfl) (by kernel_rfl) (fun _ _ _ h => h) (Or.inl ⟨by rfl, ?_⟩) (by assumption) ?_
    · intro w hSw
      (try dsimp only at hSw)
      go_simp
    try simp only [Act.put, List.setIfInBounds_toArray, List.set_cons_zero, List.set_cons_succ]
    refine wpAnyH_take (i := 2) (oi := { dst := some 58, op := Op.move (Operand.tmp 5), type := 24, pos := "outright.go:446", after := #[], guard := none }) (v := .pointer (some ⟨p, 0, none⟩)) rfl (by kernel_rfl) (by kernel_rfl) (by kernel_rfl) (fun _ _ _ h => h) (Or.inl ⟨by rfl, ?_⟩) (by assumption) ?_
    · intro w hSw
      (try dsimp only at hSw)
      go_simp
    try simp only [Act.put, List.setIfInBounds_toArray, List.set_cons_zero, List.set_cons_succ]
    refine wpAnyH_ready (rs := [3]) (by kernel_rfl) (by simp) ?_
    refine AllReadyH.cons (o := { dst := some 59, op := Op.call { callee := Callee.value (Operand.func 20), args := #[Operand.tmp 58], argTypes := #[24] }, type := 3, pos := "outright.go:446", after := #[{ on := 2, ground := Ground.data }], guard := none }) rfl (fun K hK => ?_) AllReadyH.nil
    go_simp
    refine ks.mono ?_
    rintro e wy ⟨rfl, hwy⟩
    have hwy' := hwy.symm
    subst hwy'
    clear hwy
    refine hK.out _ _ ?_ (fun hHeld => ?_)
    · exact ⟨c0, c3⟩
    clear hK K
    try simp only [Act.put, List.setIfInBounds_toArray, List.set_cons_zero, List.set_cons_succ]
    refine wpAnyH_take (i := 4) (oi := { dst := some 60, op := Op.binOp BinOp.mul 3 (Operand.const (Value.int IntKind.i64 2)) (Operand.tmp 59) 3, type := 3, pos := "outright.go:446", after := #[{ on := 3, ground := Ground.data }], guard := none }) (v := .int .i64 (2 * (s : Int))) rfl (by kernel_rfl) (by kernel_rfl) (by kernel_rfl) (fun _ _ _ h => h) (Or.inl ⟨by rfl, ?_⟩) (by assumption) ?_
    · intro w hSw
      (try dsimp only at hSw)
      go_simp
    try simp only [Act.put, List.setIfInBounds_toArray, List.set_cons_zero, List.set_cons_succ]
    refine wpAnyH_take (i := 5) (oi := { dst := some 61, op := Op.binOp BinOp.add 3 (Operand.tmp 60) (Operand.const (Value.int IntKind.i64 16)) 3, type := 3, pos := "outright.go:446", after := #[{ on := 4, ground := Ground.data }], guard := none }) (v := .int .i64 (2 * (s : Int) + 16)) rfl (by kernel_rfl) (by kernel_rfl) (by kernel_rfl) (fun _ _ _ h => h) (Or.inl ⟨by rfl, ?_⟩) (by assumption) ?_
    · intro w hSw
      (try dsimp only at hSw)
      go_simp
    try simp only [Act.put, List.setIfInBounds_toArray, List.set_cons_zero, List.set_cons_succ]
    refine wpAnyH_take (i := 6) (oi := { dst := some 62, op := Op.binOp BinOp.gtr 3 (Operand.tmp 57) (Operand.tmp 61) 3, type := 4, pos := "outright.go:446", after := #[{ on := 1, ground := Ground.data }, { on := 5, ground := Ground.data }], guard := none }) (v := .bool false) rfl (by kernel_rfl) (by kernel_rfl) (by kernel_rfl) (fun _ _ _ h => h) (Or.inl ⟨by rfl, ?_⟩) (by assumption) ?_
    · intro w hSw
      (try dsimp only at hSw)
      go_simp
    try simp only [Act.put, List.setIfInBounds_toArray, List.set_cons_zero, List.set_cons_succ]
    refine wpAnyH_take (i := 7) (oi := { dst := some 63, op := Op.move (Operand.tmp 62), type := 4, pos := "outright.go:446", after := #[{ on := 6, ground := Ground.data }, { on := 3, ground := Ground.chain }], guard := none }) (v := .bool false) rfl (by kernel_rfl) (by kernel_rfl) (by kernel_rfl) (fun _ _ _ h => h) (Or.inl ⟨by rfl, ?_⟩) (by assumption) ?_
    · intro w hSw
      (try dsimp only at hSw)
      go_simp
    try simp only [Act.put, List.setIfInBounds_toArray, List.set_cons_zero, List.set_cons_succ]
    refine wpAnyH_take (i := 8) (oi := { dst := some 64, op := Op.fieldAddr 50 (Operand.tmp 9) 3, type := 0, pos := "outright.go:446", after := #[{ on := 7, ground := Ground.guard }], guard := some (7, false) }) (v := .pointer (some ⟨w5.heap.size, 3, none⟩)) rfl (by kernel_rfl) (by kernel_rfl) (by kernel_rfl) (fun _ _ _ h => h) (Or.inl ⟨by rfl, ?_⟩) (by assumption) ?_
    · intro w hSw
      (try dsimp only at hSw)
      go_simp
    try simp only [Act.put, List.setIfInBounds_toArray, List.set_cons_zero, List.set_cons_succ]
    refine wpAnyH_take (i := 9) (oi := { dst := some 65, op := Op.load 3 (Operand.tmp 64), type := 3, pos := "outright.go:446", after := #[{ on := 8, ground := Ground.data }, { on := 7, ground := Ground.guard }], guard := some (7, false) }) (v := .int .i64 0) rfl (by kernel_rfl) (by kernel_rfl) (by kernel_rfl) (fun _ _ _ h => h) (Or.inl ⟨by rfl, ?_⟩) (by assumption) ?_
    · intro w hSw
      (try dsimp only at hSw)
      go_simp
    try simp only [Act.put, List.setIfInBounds_toArray, List.set_cons_zero, List.set_cons_succ]
    refine wpAnyH_take (i := 10) (oi := { dst := some 66, op := Op.binOp BinOp.neq 3 (Operand.tmp 65) (Operand.const (Value.int IntKind.i64 0)) 3, type := 4, pos := "outright.go:446", after := #[{ on := 9, ground := Ground.data }, { on := 7, ground := Ground.guard }], guard := some (7, false) }) (v := .bool false) rfl (by kernel_rfl) (by kernel_rfl) (by kernel_rfl) (fun _ _ _ h => h) (Or.inl ⟨by rfl, ?_⟩) (by assumption) ?_
    · intro w hSw
      (try dsimp only at hSw)
      go_simp
    try simp only [Act.put, List.setIfInBounds_toArray, List.set_cons_zero, List.set_cons_succ]
    refine wpAnyH_take (i := 11) (oi := { dst := some 67, op := Op.pick (Operand.tmp 63) (Operand.const (Value.bool true)) (Operand.tmp 66), type := 4, pos := "outright.go:446", after := #[{ on := 7, ground := Ground.data }, { on := 10, ground := Ground.data }], guard := none }) (v := .bool false) rfl (by kernel_rfl) (by kernel_rfl) (by kernel_rfl) (fun _ _ _ h => h) (Or.inl ⟨by rfl, ?_⟩) (by assumption) ?_
    · intro w hSw
      (try dsimp only at hSw)
      go_simp
    try simp only [Act.put, List.setIfInBounds_toArray, List.set_cons_zero, List.set_cons_succ]
    refine wpAnyH_done (by kernel_rfl) ?_ _
    have HB7 := Hid.mk (HB6.out.trans (below_drew (Below.refl W6.heap.size W6) |>.mono HB6.out.size))
    clear HB6 ks
    rcases hxx with hx6 | hx41
    · have d6 : (x == 6) = true := by rw [beq_iff_eq]; exact hx6
      clear hx hx6
      go_wp2
      go_ret
      exact ⟨rfl, HB7.out⟩
    · have d6 : (x == 6) = false := by rw [beq_eq_false_iff_ne]; omega
      have d41 : (x == 41) = true := by rw [beq_iff_eq]; exact hx41
      clear hx hx41
      go_wp2
      go_ret
      exact ⟨rfl, HB7.out⟩
  · have hC := (hcln.2 hx L hsl).1
    have hbk := sup_blocks hC.sup
    rw [hC.y'] at hbk
    obtain ⟨y, hy⟩ : ∃ y, y = lyOf (S.now 0) := ⟨_, rfl⟩
    rw [← hy] at hC hbk hst
    have hgeo := hC.geo
    have hp1 := hC.p
    have kc := B.dcounts hst.d (by rw [hp1]; simp) (by omega)
    rw [hrf1] at kc
    have hFlo : ∀ k, F' k → w.heap.size ≤ k := fun k hF => by
      have h3 := HB3.out.1.size
      rcases hF' k hF with h | h
      · exact HB3.out.2.2 k h
      · omega
    have HB4 := Hid.mk (And.intro (HB3.out.1.trans (hk4.below (fun k hF => HB3.out.2.2 k hF) HB3.out.1.size)) (And.intro hst hC))
    have hbq := HB3.out.1.size
    have hqw : w.heap.size ≤ q ∧ w.heap.size ≤ ll ∧ w.heap.size ≤ m := by omega
    have hql : q < w4.heap.size ∧ ll < w4.heap.size ∧ m < w4.heap.size := ⟨hst.st.lt, hst.lp.lt, hst.ch.lt⟩
    have hFlt := hst.d.lt
    have HRf := Hid.mk hrf1
    clear hcln hsop hk4 hrf1 HB3 hsl hF' hq hl hm hy hbq hso hst hC hp1
    go_wp2_with fail
    refine kc.mono ?_
    rintro e w5 ⟨r, rfl, hr, hd5, hb5⟩
    obtain ⟨W6, hW6⟩ : ∃ W6, W6 = w5.alloc (.cells #[.int .i64 (r : Int), .int .i64 S1.writes, .int .i64 S1.flushes, .int .i64 0, .int .i64 (S1.puts.length : Int)] 50) := ⟨_, rfl⟩
    have hbx : W6.heap[w5.heap.size]? = some (.cells #[.int .i64 (r : Int), .int .i64 S1.writes, .int .i64 S1.flushes, .int .i64 0, .int .i64 (S1.puts.length : Int)] 50 (0, 0)) := by rw [hW6]; exact heap_alloc_new _ _
    have hb46 : Below w4.heap.size w4 W6 := hb5.trans (by rw [hW6]; exact (below_box _ _).mono hb5.size)
    have hz46 := hb46.size
    have hb6 : Below w.heap.size w W6 := HB4.out.1.trans (hb46.mono HB4.out.1.size)
    have hst6 := HB4.out.2.1.later hb46
    have c0 := cell_of_block hbx (j := 0) rfl
    have c3 := cell_of_block hbx (j := 3) rfl
    have ks := B.dsectors (hst6.d.later (below_drew (Below.refl _ _)))
    have kl := layout_any (hst6.later (below_drew (Below.refl _ _))).st
    have hfld : ∀ wx, (Instr.field 37 (.agg #[.int .i64 (y.log : Int), .int .i64 (y.home : Int), .int .i64 (y.blocks : Int), .int .i64 (y.nodes : Int), .int .i64 (y.data : Int)]) 2).run Tryz.prog wx = .ok (.int .i64 (y.blocks : Int)) wx := fun wx => by kernel_rfl
    have e1 : decide (2 * (s : Int) + 16 < (r : Int)) = false := decide_eq_false (by omega)
    have hw2 : IntKind.i64.wrap (2 * (s : Int)) = 2 * (s : Int) := by rw [IntKind.wrap_i64]; omega
    have hw16 : IntKind.i64.wrap (2 * (s : Int) + 16) = 2 * (s : Int) + 16 := by rw [IntKind.wrap_i64]; omega
    have HB6 := Hid.mk (And.intro hb6 (And.intro hst6 HB4.out.2.2))
    clear kc hd5 hb5 hb46 hb6 hst6 HB4 hbx
    go_wp2_with fail
    rw [← hW6]
    clear hW6
    refine wp_region_held_drew (S := fun w' => w'.cell? ⟨w5.heap.size, 0, none⟩ = some (.int .i64 (r : Int)) ∧ w'.cell? ⟨w5.heap.size, 3, none⟩ = some (.int .i64 0)) (by kernel_rfl) (⟨c0, c3⟩) (fun hHeld => ?_)
    refine wpAnyH_take (i := 0) (oi := { dst := some 56, op := Op.fieldAddr 50 (Operand.tmp 9) 0, type := 0, pos := "outright.go:446", after := #[], guard := none }) (v := .pointer (some ⟨w5.heap.size, 0, none⟩)) rfl (by kernel_rfl) (by kernel_rfl) (by kernel_rfl) (fun _ _ _ h => h) (Or.inl ⟨by rfl, ?_⟩) (by assumption) ?_
    · intro w hSw
      (try dsimp only at hSw)
      go_simp
    try simp only [Act.put, List.setIfInBounds_toArray, List.set_cons_zero, List.set_cons_succ]
    refine wpAnyH_take (i := 1) (oi := { dst := some 57, op := Op.load 3 (Operand.tmp 56), type := 3, pos := "outright.go:446", after := #[{ on := 0, ground := Ground.data }], guard := none }) (v := .int .i64 (r : Int)) rfl (by kernel_rfl) (by kernel_rfl) (by kernel_rfl) (fun _ _ _ h => h) (Or.inl ⟨by rfl, ?_⟩) (by assumption) ?_
    · intro w hSw
      (try dsimp only at hSw)
      go_simp
    try simp only [Act.put, List.setIfInBounds_toArray, List.set_cons_zero, List.set_cons_succ]
    refine wpAnyH_take (i := 2) (oi := { dst := some 58, op := Op.move (Operand.tmp 5), type := 24, pos := "outright.go:446", after := #[], guard := none }) (v := .pointer (some ⟨p, 0, none⟩)) rfl (by kernel_rfl) (by kernel_rfl) (by kernel_rfl) (fun _ _ _ h => h) (Or.inl ⟨by rfl, ?_⟩) (by assumption) ?_
    · intro w hSw
      (try dsimp only at hSw)
      go_simp
    try simp only [Act.put, List.setIfInBounds_toArray, List.set_cons_zero, List.set_cons_succ]
    refine wpAnyH_ready (rs := [3]) (by kernel_rfl) (by simp) ?_
    refine AllReadyH.cons (o := { dst := some 59, op := Op.call { callee := Callee.value (Operand.func 20), args := #[Operand.tmp 58], argTypes := #[24] }, type := 3, pos := "outright.go:446", after := #[{ on := 2, ground := Ground.data }], guard := none }) rfl (fun K hK => ?_) AllReadyH.nil
    go_simp
    refine ks.mono ?_
    rintro e wy ⟨rfl, hwy⟩
    have hwy' := hwy.symm
    subst hwy'
    clear hwy
    refine hK.out _ _ ?_ (fun hHeld => ?_)
    · exact ⟨c0, c3⟩
    clear hK K
    try simp only [Act.put, List.setIfInBounds_toArray, List.set_cons_zero, List.set_cons_succ]
    refine wpAnyH_take (i := 4) (oi := { dst := some 60, op := Op.binOp BinOp.mul 3 (Operand.const (Value.int IntKind.i64 2)) (Operand.tmp 59) 3, type := 3, pos := "outright.go:446", after := #[{ on := 3, ground := Ground.data }], guard := none }) (v := .int .i64 (2 * (s : Int))) rfl (by kernel_rfl) (by kernel_rfl) (by kernel_rfl) (fun _ _ _ h => h) (Or.inl ⟨by rfl, ?_⟩) (by assumption) ?_
    · intro w hSw
      (try dsimp only at hSw)
      go_simp
    try simp only [Act.put, List.setIfInBounds_toArray, List.set_cons_zero, List.set_cons_succ]
    refine wpAnyH_take (i := 5) (oi := { dst := some 61, op := Op.binOp BinOp.add 3 (Operand.tmp 60) (Operand.const (Value.int IntKind.i64 16)) 3, type := 3, pos := "outright.go:446", after := #[{ on := 4, ground := Ground.data }], guard := none }) (v := .int .i64 (2 * (s : Int) + 16)) rfl (by kernel_rfl) (by kernel_rfl) (by kernel_rfl) (fun _ _ _ h => h) (Or.inl ⟨by rfl, ?_⟩) (by assumption) ?_
    · intro w hSw
      (try dsimp only at hSw)
      go_simp
    try simp only [Act.put, List.setIfInBounds_toArray, List.set_cons_zero, List.set_cons_succ]
    refine wpAnyH_take (i := 6) (oi := { dst := some 62, op := Op.binOp BinOp.gtr 3 (Operand.tmp 57) (Operand.tmp 61) 3, type := 4, pos := "outright.go:446", after := #[{ on := 1, ground := Ground.data }, { on := 5, ground := Ground.data }], guard := none }) (v := .bool false) rfl (by kernel_rfl) (by kernel_rfl) (by kernel_rfl) (fun _ _ _ h => h) (Or.inl ⟨by rfl, ?_⟩) (by assumption) ?_
    · intro w hSw
      (try dsimp only at hSw)
      go_simp
    try simp only [Act.put, List.setIfInBounds_toArray, List.set_cons_zero, List.set_cons_succ]
    refine wpAnyH_take (i := 7) (oi := { dst := some 63, op := Op.move (Operand.tmp 62), type := 4, pos := "outright.go:446", after := #[{ on := 6, ground := Ground.data }, { on := 3, ground := Ground.chain }], guard := none }) (v := .bool false) rfl (by kernel_rfl) (by kernel_rfl) (by kernel_rfl) (fun _ _ _ h => h) (Or.inl ⟨by rfl, ?_⟩) (by assumption) ?_
    · intro w hSw
      (try dsimp only at hSw)
      go_simp
    try simp only [Act.put, List.setIfInBounds_toArray, List.set_cons_zero, List.set_cons_succ]
    refine wpAnyH_take (i := 8) (oi := { dst := some 64, op := Op.fieldAddr 50 (Operand.tmp 9) 3, type := 0, pos := "outright.go:446", after := #[{ on := 7, ground := Ground.guard }], guard := some (7, false) }) (v := .pointer (some ⟨w5.heap.size, 3, none⟩)) rfl (by kernel_rfl) (by kernel_rfl) (by kernel_rfl) (fun _ _ _ h => h) (Or.inl ⟨by rfl, ?_⟩) (by assumption) ?_
    · intro w hSw
      (try dsimp only at hSw)
      go_simp
    try simp only [Act.put, List.setIfInBounds_toArray, List.set_cons_zero, List.set_cons_succ]
    refine wpAnyH_take (i := 9) (oi := { dst := some 65, op := Op.load 3 (Operand.tmp 64), type := 3, pos := "outright.go:446", after := #[{ on := 8, ground := Ground.data }, { on := 7, ground := Ground.guard }], guard := some (7, false) }) (v := .int .i64 0) rfl (by kernel_rfl) (by kernel_rfl) (by kernel_rfl) (fun _ _ _ h => h) (Or.inl ⟨by rfl, ?_⟩) (by assumption) ?_
    · intro w hSw
      (try dsimp only at hSw)
      go_simp
    try simp only [Act.put, List.setIfInBounds_toArray, List.set_cons_zero, List.set_cons_succ]
    refine wpAnyH_take (i := 10) (oi := { dst := some 66, op := Op.binOp BinOp.neq 3 (Operand.tmp 65) (Operand.const (Value.int IntKind.i64 0)) 3, type := 4, pos := "outright.go:446", after := #[{ on := 9, ground := Ground.data }, { on := 7, ground := Ground.guard }], guard := some (7, false) }) (v := .bool false) rfl (by kernel_rfl) (by kernel_rfl) (by kernel_rfl) (fun _ _ _ h => h) (Or.inl ⟨by rfl, ?_⟩) (by assumption) ?_
    · intro w hSw
      (try dsimp only at hSw)
      go_simp
    try simp only [Act.put, List.setIfInBounds_toArray, List.set_cons_zero, List.set_cons_succ]
    refine wpAnyH_take (i := 11) (oi := { dst := some 67, op := Op.pick (Operand.tmp 63) (Operand.const (Value.bool true)) (Operand.tmp 66), type := 4, pos := "outright.go:446", after := #[{ on := 7, ground := Ground.data }, { on := 10, ground := Ground.data }], guard := none }) (v := .bool false) rfl (by kernel_rfl) (by kernel_rfl) (by kernel_rfl) (fun _ _ _ h => h) (Or.inl ⟨by rfl, ?_⟩) (by assumption) ?_
    · intro w hSw
      (try dsimp only at hSw)
      go_simp
    try simp only [Act.put, List.setIfInBounds_toArray, List.set_cons_zero, List.set_cons_succ]
    refine wpAnyH_done (by kernel_rfl) ?_ _
    have hbk' : ¬ (y.blocks : Int) < 1 := by omega
    clear hw2 hw16 e1 ks c0 c3
    go_wp2_with fail
    refine kl.mono ?_
    rintro e w8 ⟨rfl, hb8⟩
    have hb8' : Below W6.heap.size W6 w8 := (below_drew (Below.refl W6.heap.size W6)).trans hb8
    have hst8 := HB6.out.2.1.later hb8'
    have hz8 := hb8'.size
    have ka := all5_any hst8 HB6.out.2.2.ready.1 rfl (by rw [HB6.out.2.2.p]; simp) (by show y.blocks ≤ 2048; exact hgeo.2.2.2.2.1)
    have HB8 := Hid.mk (And.intro (HB6.out.1.trans (hb8'.mono HB6.out.1.size)) HB6.out.2.2)
    clear hb8 hb8' hst8 HB6 kl
    go_wp2_with fail
    refine ka.mono ?_
    rintro e w9 ⟨v, rfl, hHL, hst9, hk9⟩
    have hz9 := hk9.size
    have hdead : L.dead S1 = false := HB8.out.2.ready.1
    have kb := (sbegin_any hst9).mono (fun e w' h => by unfold BegOut at h; rw [if_neg (fun h => h (begin_free0 hdead rfl))] at h; exact h)
    have hb9 : Below w.heap.size w w9 := HB8.out.1.trans (hk9.below (by
      rintro k (h9 | h9)
      · exact hFlo k h9
      · omega) HB8.out.1.size)
    have HB9 := Hid.mk (And.intro hb9 (And.intro HB8.out.2 (And.intro hHL hst9)))
    clear ka hk9 HB8 hHL hst9 hb9
    go_wp2_with fail
    refine kb.mono ?_
    rintro e w10 ⟨t, nn, rfl, hn10, ht10, htn, htx10, hch10, hst10, hk10⟩
    have hz10 := hk10.size
    have hFB : ∀ k, F' k → k < w8.heap.size := fun k hF => by have := hFlt k hF; omega
    have hI0 : LpI w w10 F' p s (cR + y.blocks + 1) q ll m t nn S1 y L ⟨[], 0, false⟩ w8.heap.size (fun k => w8.heap.size ≤ k ∧ k < w9.heap.size) v (blks ⟨y, L, [], false⟩ S1 y.blocks) := by
      have h9 := HB9.out.2.2.2
      refine ⟨⟨h9.d.keep hk10 (fun g hg e => h9.nq (e ▸ hg)), hst10, h9.lp.keep hk10 (fun e => h9.ql e.symm), h9.ch.keep hk10 (fun e => h9.qm e.symm), h9.nq, h9.nl, h9.nm, h9.ql, h9.qm, h9.lm, h9.lk, h9.bg, h9.hs, h9.kb⟩,
        ⟨htx10, hch10, fun hx => by have := hFB _ hx; omega, fun hx => by have := hFB _ hx; omega, by omega, by omega, by omega, htn, by omega, by omega, by omega, fun x hx => by cases hx⟩, HB9.out.2.2.1.keep hk10 (fun k hk e => by omega), fun k hk => ⟨hk.1, by omega, by omega, by omega⟩, HB9.out.1.trans (hk10.below (fun k e => by omega) HB9.out.1.size), rfl, rfl, blks_len _ _ _, fun b hb => ?_⟩
      simp only [blks, List.getElem_map, List.getElem_range]
      rfl
    have hI0' := Hid.mk hI0
    have htw : w.heap.size ≤ t ∧ w.heap.size ≤ nn := by have := HB9.out.1.size; omega
    have HC := Hid.mk HB9.out.2.1
    have hzw := HB9.out.1.size
    obtain ⟨va, vc, hv, _⟩ := hI0.hl.form
    rw [blks_len] at hv
    obtain ⟨C0, hC0⟩ : ∃ C0, C0 = cR + y.blocks + 1 := ⟨_, rfl⟩
    rw [← hC0] at hI0 hI0'
    have hC0b : C0 ≤ 10000 := by have := hgeo.2.2.2.2.1; omega
    obtain ⟨vg, rfl⟩ : ∃ vg, va = some ⟨vg, 0, none⟩ := by
      obtain ⟨_, _, h5, h6⟩ := hI0.hl.form
      obtain ⟨gr, _, _, h7, _⟩ := h6 0 (by rw [blks_len]; omega)
      rw [hv, blks_len] at h5
      cases h5
      exact ⟨gr, h7⟩
    have hbk1 : ((y.blocks - 1 : Nat) : Int) = (y.blocks : Int) - 1 := by omega
    clear kb hk10 htx10 hch10 hst10 hI0 HB9 hC0
    subst hv
    go_wp2
    go_loopw [15] (fun iv wr => ∃ (i c' : Nat) (T : TG) (X : Nat → Prop) (cs : List (List Int)), iv = .int .i64 i ∧ i ≤ pn ∧ i ≤ 16 ∧ c' ≤ C0 + i ∧ T.puts.length ≤ i ∧ LpI w wr F' p s c' q ll m t nn S1 y L T w8.heap.size X (.slice (some ⟨vg, 0, none⟩) y.blocks vc) cs) (fun iv _ => 16 - (intOf iv).toNat)
    case atStart => exact ⟨0, C0, _, _, _, rfl, Nat.zero_le _, by omega, Nat.le_refl _, Nat.zero_le _, hI0'.out⟩
    case round =>
      obtain ⟨i, c', T, X, cs, rfl, hi1, hi2, hc', hTl, hI⟩ := hrel
      have HI := Hid.mk hI
      clear hI hI0'
      by_cases hlt : i < pn ∧ i < 16
      · have hlt1 : (i : Int) < (pn : Int) := by omega
        have hlt2 : (i : Int) < 16 := by omega
        obtain ⟨sy, rfl⟩ : ∃ sy, sa = some sy := by
          cases hsa : sa with
          | none => have := HPi.out.1 hsa; omega
          | some sy => exact ⟨sy, rfl⟩
        obtain ⟨pb, po, rfl, hpb, x, cx, hx1, hx2⟩ := HPi.out.2 sy rfl i hlt.1
        have cx' : wr.cell? ⟨pb, po + i * 2, none⟩ = some (.int .i64 x) := (World.cell?_of_block (w := w) (a := ⟨pb, _, none⟩) (HI.out.be.block pb hpb)).trans cx
        have kw := within5_any x 0 (y.blocks - 1) (by omega) (by omega) ⟨hx1, hx2⟩ wr
        have hwb := (wthn_in x (lo := 0) (hi := y.blocks - 1) (by omega)).2
        rw [hbk1] at kw
        have hbB : wthn x 0 (y.blocks - 1) < y.blocks := by omega
        generalize wthn x 0 (y.blocks - 1) = b at *
        have kf := fill_any5 x wr
        clear hwb cx
        go_wp2_with fail
        refine kw.mono ?_
        rintro e wy ⟨rfl, hwy⟩
        have hwy' := hwy.symm
        subst hwy'
        clear hwy kw
        go_wp2_with fail
        refine kf.mono ?_
        rintro e wf ⟨rfl, hrf, hbf⟩
        have hsf : Src wf (some ⟨wr.heap.size, 0, none⟩) 512 (filL x) := by have := hrf.src; rwa [filL_len] at this
        have kt := twin_any (some ⟨wr.heap.size, 0, none⟩) 512 512 (filL x) wf (by omega) hsf
        have HFf := Hid.mk (And.intro hrf hbf)
        clear kf hrf hbf hsf
        go_wp2_with fail
        refine kt.mono ?_
        rintro e wt ⟨g2, rfl, hg2, hr2, hbt⟩
        have hbt' : Below wr.heap.size wr wt := HFf.out.2.trans (hbt.mono HFf.out.2.size)
        have hs2 : Src wt (some ⟨g2, 0, none⟩) 512 (filL x) := by have := hr2.src; rwa [filL_len] at this
        have kp := Put_any (HI.out.st.later hbt') (HI.out.tx.later hbt') (b : Int) (some ⟨g2, 0, none⟩) 512 512 (filL x) hs2 (by omega) (filL_bytes x) (by rw [HC.out.p]; simp)
        have HT := Hid.mk (And.intro hbt' (HFf.out.1.agree (hbt.block _ HFf.out.1.lt)))
        clear kt hr2 hbt hbt' hs2 HFf
        go_wp2_with fail
        refine kp.mono ?_
        rintro e wp hput
        obtain ⟨rfl, ⟨u, hu⟩, hfz, hI2, hln2⟩ := HI.out.step hFB (by omega) (by omega) (by omega) (by omega) hqw hFlo htw hdead (by omega) hbB (filL_len x) HT.out.1 HT.out.2 hput rfl
        have HI2 := Hid.mk (And.intro hI2 hln2)
        have hbB' : (b : Int) < (y.blocks : Int) := by omega
        have hb0' : (0 : Int) ≤ (b : Int) := by omega
        clear kp hput hI2 hln2 HI HT cx'
        go_wp2
        go_roundw
        case rel => exact ⟨i + 1, c' + 1, _, _, _, by go_num, by omega, by omega, by omega, by have := HI2.out.2; omega, HI2.out.1⟩
        case measure => simp [intOf]; omega
      · have key : (¬ (i : Int) < (pn : Int)) ∨ ((i : Int) < (pn : Int) ∧ ¬ (i : Int) < 16) := by omega
        obtain ⟨o1, o2⟩ := HI.out.ok
        obtain ⟨m1, m2⟩ := HC.out.commits HI.out.ba HI.out.en o1 (by omega) o2
        have hsee := fun b => news_sees (T := T) (G := ⟨y, L, [], true⟩) (S := S1) o1 b
        have hnok : CM.Ok (T.news ⟨y, L, [], true⟩ S1) := CM.ok_filter o1 _
        have hn16 : (T.news ⟨y, L, [], true⟩ S1).length ≤ 16 := Nat.le_trans (news_le _ _ _) (by omega)
        have hnk : ∀ q ∈ T.news ⟨y, L, [], true⟩ S1, q.1 < y.blocks ∧ q.2.length = 512 := fun q hq => ⟨(o2 q (news_sub hq)).1, (o2 q (news_sub hq)).2.1⟩
        have kcm := Commit_any HI.out.st HI.out.tx (by omega) HC.out.byt (by rw [HC.out.p]; simp)
        have hrf2 : (T.commit ⟨y, L, [], true⟩ S1 s).2.1.refused = 0 := (tcommit_rf (G := ⟨y, L, [], true⟩) (T := T) (fun x hx => by cases hx) (by show 1 ≤ L.n; rw [HC.out.n1]; omega) (by show L.f + 2 + L.n ≤ s; rw [HC.out.f1, HC.out.n1]; omega)).trans HRf.out
        have HD := Hid.mk (And.intro m2 (And.intro hsee (And.intro hnok (And.intro hn16 (And.intro hnk hrf2)))))
        clear o1 o2 m2 hsee hnok hn16 hnk hrf2
        rcases key with k1 | ⟨k1, k2⟩
        all_goals
          go_wp2_with fail
          refine kcm.mono ?_
          rintro e w11 ⟨rfl, ⟨hst11, _⟩, hk11⟩
          rw [m1]
          have hz11 := hk11.size
          have hXF : ∀ k, X k → ¬ (F' k ∨ k = ll ∨ k = m ∨ k = t ∨ k = nn ∨ k = q) := fun k hk => by
            have h7 := HI.out.hx k hk
            rintro (h9 | h9 | h9 | h9 | h9 | h9)
            · have := hFB k h9; omega
            all_goals omega
          have hX2 : ∀ k, X k → ¬ more F' wr w11 k := fun k hk h9 => by
            have h7 := HI.out.hx k hk
            rcases h9 with h9 | h9
            · have := hFB k h9; omega
            · omega
          have hF2w : ∀ k, more F' wr w11 k → w.heap.size ≤ k := fun k h9 => by
            have := HI.out.be.size
            rcases h9 with h9 | h9
            · exact hFlo k h9
            · omega
          have hHL11 := HI.out.hl.keep hk11 hXF
          have hb11 : Below w.heap.size w w11 := HI.out.be.trans (hk11.below (by
            rintro k (h9 | h9 | h9 | h9 | h9 | h9)
            · exact hFlo k h9
            all_goals omega) HI.out.be.size)
          have hXl : ∀ k, X k → k < w11.heap.size := fun k hk => by have := HI.out.hx k hk; omega
          have hsee2 := HI.out.se
          have hcl := HI.out.ln
          obtain ⟨a1, a2, a3, a4, a5⟩ := HD.out.1.again
          obtain ⟨n5, n6⟩ := (fun (x5 : Int) (S6 : DS) => Done.open (x := x5) (S1 := S6) (S' := DS.fresh (((T.commit ⟨y, L, [], true⟩ S1 s).2.2.1.L.sync (T.commit ⟨y, L, [], true⟩ S1 s).2.1 s).2.crash s []).im) HC.out HD.out.1 HD.out.2.2.1 HD.out.2.2.2.1 HD.out.2.2.2.2.1) |> fun h => (⟨h, trivial⟩ : _ ∧ True)
          have hpu2 := HD.out.1.pu
          have hrf2 := HD.out.2.2.2.2.2
          have hsee3 := HD.out.2.1
          generalize hr : T.commit ⟨y, L, [], true⟩ S1 s = R5 at *
          have ky := ssync_any hst11 (by omega)
          rw [a1] at ky
          have hrf3 : (R5.2.2.1.L.sync R5.2.1 s).2.refused = 0 := (sync_rf _ _ _).trans hrf2
          generalize (R5.2.2.1.L.sync R5.2.1 s).2 = S3 at *
          have HE := Hid.mk (And.intro hX2 (And.intro hF2w (And.intro hHL11 (And.intro hb11 (And.intro hXl (And.intro hsee2 (And.intro hcl (And.intro a2 (And.intro a3 (And.intro a4 (And.intro a5 (And.intro n5 (And.intro hrf3 hsee3)))))))))))))
          clear kcm hst11 hk11 hXF hX2 hF2w hHL11 hb11 hXl hsee2 hcl a1 a2 a3 a4 a5 n5 n6 hpu2 hrf2 hrf3 hsee3 hr HI HD
          go_wp2_with fail
          refine ky.mono ?_
          rintro e w12 ⟨rfl, hst12, hk12⟩
          have hz12 := hk12.size
          generalize more F' wr w11 = F2 at *
          have kr := B.dcrash hst12.d (by rw [HE.out.2.2.2.2.2.2.2.1]; simp) none 0 0 [] (PSrc.nil5 _) (by omega) (fun _ h => by cases h)
          have HE2 := Hid.mk (And.intro (HE.out.2.2.1.keep hk12 HE.out.1) (HE.out.2.2.2.1.trans (hk12.below HE.out.2.1 HE.out.2.2.2.1.size)))
          clear ky hst12 hk12
          go_wp2_with fail
          refine kr.mono ?_
          rintro e w13 ⟨rfl, hd13, hk13⟩
          have hz13 := hk13.size
          have hrf4 : (S3.crash s []).refused = 0 := HE.out.2.2.2.2.2.2.2.2.2.2.2.2.1
          have hpu4 : (S3.crash s []).puts = [] := rfl
          have hby4 := HE.out.2.2.2.2.2.2.2.2.2.1
          have hnow4 := HE.out.2.2.2.2.2.2.2.2.2.2.1
          have hop4 := HE.out.2.2.2.2.2.2.2.2.2.2.2.1
          generalize S3.crash s [] = S4 at *
          have ki := B.dimage hd13
          have HE3 := Hid.mk (And.intro (HE2.out.1.keep hk13 HE.out.1) (And.intro (HE2.out.2.trans (hk13.below HE.out.2.1 HE2.out.2.size)) (And.intro hd13 (And.intro hby4 (And.intro hnow4 (And.intro hop4 (And.intro HE.out.2.2.2.2.1 (And.intro HE.out.2.2.2.2.2.1 (And.intro HE.out.2.2.2.2.2.2.1 HE.out.2.2.2.2.2.2.2.2.2.2.2.2.2)))))))))
          have hlen4 := hd13.ok.len
          clear kr hd13 hk13 hby4 hnow4 hop4 HE HE2
          go_wp2_with fail
          refine ki.mono ?_
          rintro e w14 ⟨g4, c4, rfl, hg4, hr4, hb14⟩
          have hz14 := hb14.size
          have hw14 : w.heap.size ≤ w14.heap.size := by have := HE3.out.2.1.size; omega
          have kl2 := load_ok ⟨g4, 0, none⟩ (s * 512) c4 s S4.im w14 rfl h1 h2 hlen4 (fun i hi => hr4.byte (by omega))
          clear ki hr4 hlen4
          go_wp2_with fail
          refine kl2.mono ?_
          rintro e w15 ⟨p2, rfl, hd15, hb15⟩
          have hz15 := hb15.size
          have hb135 : Below w13.heap.size w13 w15 := hb14.trans (hb15.mono hb14.size)
          have kc3 := B.dcounts (HE3.out.2.2.1.later hb135) (by rw [hpu4]; simp) (by omega)
          rw [hrf4] at kc3
          have hfl3 : ∀ (x1 x2 x3 x4 x5 : Value) (wx : World), (Instr.field 50 (.agg #[x1, x2, x3, x4, x5]) 3).run Tryz.prog wx = .ok x4 wx := fun _ _ _ _ _ _ => by kernel_rfl
          have HE4 := Hid.mk (And.intro (HE3.out.1.later hb135) (And.intro (HE3.out.2.1.trans (hb135.mono HE3.out.2.1.size)) hd15))
          clear kl2 hd15 hb15 hb14 hb135 hrf4 hpu4
          go_wp2_with fail
          refine kc3.mono ?_
          rintro e w16 ⟨r3, rfl, _, _, hb16⟩
          have hz16 := hb16.size
          have hd16 : B.DiskR w16 (fun k => w14.heap.size ≤ k ∧ k < w15.heap.size) p2 s (DS.fresh S4.im) 0 := B.DiskR.later ⟨0, HE4.out.2.2, fun _ => ⟨Int.le_refl _, Int.le_refl _⟩⟩ hb16
          have hby5 : (DS.fresh S4.im).Byt := ⟨HE3.out.2.2.2.1.1, fun q hq => by cases hq⟩
          have hop5 := fun x5 S6 => HE3.out.2.2.2.2.2.1 x5 S6 hd16.ok hby5 rfl rfl (show (0 : Int) ≤ 1 by decide) (show (1 : Int) ≤ 1000 by decide) HE3.out.2.2.2.2.1
          have hrf5 : (DS.fresh S4.im).refused = 0 := rfl
          have ko := openR_any hd16 hby5 (show (-1 : Int) ≠ 0 by decide) (show 0 + 6000 ≤ 4000000000000 by decide)
          have HE5 := Hid.mk (And.intro (HE4.out.1.later hb16) (And.intro (HE4.out.2.1.trans (hb16.mono HE4.out.2.1.size)) (And.intro HE3.out.2.2.2.2.2.2 (And.intro hop5 hrf5))))
          clear kc3 hb16 hd16 hby5 hop5 hrf5 HE3 HE4
          go_wp2_with fail
          refine ko.mono ?_
          rintro e w17 ⟨x5, S6, cR5, hcR5, hso5, hk17, hcase5⟩
          have hz17 := hk17.size
          obtain ⟨z1, z2, z3⟩ := HE5.out.2.2.2.1 x5 S6 hso5
          have hb17 : Below w.heap.size w w17 := HE5.out.2.1.trans (hk17.below (fun k hk => by have := hk.1; omega) HE5.out.2.1.size)
          have hrf6 : S6.refused = 0 := hso5.rf.trans HE5.out.2.2.2.2
          rcases hcase5 with ⟨hx5, rfl, _⟩ | ⟨hx5, q5, l5, m5, L5, F5, hsl5, rfl, hF5, hq5, hl5, hm5, hst17⟩
          · have d41 : (x5 == 41) = true := by rw [beq_iff_eq]; exact z2 hx5
            have HBF := Hid.mk hb17
            clear ko hx5 z1 z2 z3 hso5 hk17 hb17 hrf6 HE5
            go_wp2
            go_ret
            exact ⟨rfl, HBF.out⟩
          · obtain ⟨v1, v2⟩ := z3 hx5 L5 hsl5
            rw [z1] at hst17
            have ka5 := all5_any hst17 v1.ready.1 rfl (by rw [v1.p]; simp) (by show y.blocks ≤ 2048; exact hgeo.2.2.2.2.1)
            have hF5lo : ∀ k, F5 k → w14.heap.size ≤ k := fun k hk => by
              rcases hF5 k hk with h9 | h9
              · exact h9.1
              · omega
            have hXl := HE5.out.2.2.1.1
            have hHv := HE5.out.1.keep hk17 (fun k hk h9 => by have := hXl k hk; have := h9.1; omega)
            have hblk : blks ⟨y, L5, [], false⟩ S6 y.blocks = cs := by
              refine List.ext_getElem (by rw [blks_len]; exact HE5.out.2.2.1.2.2.1.symm) (fun b hb1 hb2 => ?_)
              rw [HE5.out.2.2.1.2.1 b hb2]
              have hbb : b < y.blocks := by rw [← HE5.out.2.2.1.2.2.1]; exact hb2
              simp only [blks, List.getElem_map, List.getElem_range]
              show S6.now (y.home + b) = _
              rw [v2 b hbb, ← HE5.out.2.2.1.2.2.2 b]
              rfl
            have hq5b : w14.heap.size ≤ q5 := by omega
            have HE6 := Hid.mk (And.intro hb17 (And.intro hHv (And.intro hF5lo (And.intro hXl (And.intro hrf6 (And.intro v1.p (And.intro HE5.out.2.2.1.2.2.1 hblk)))))))
            clear ko hso5 z1 z2 z3 hk17 hb17 hrf6 v1 v2 hst17 hHv hblk hXl hF5 hF5lo HE5 hsl5 hx5
            go_wp2_with fail
            refine ka5.mono ?_
            rintro e w18 ⟨v5, rfl, hHL5, hst18, hk18⟩
            have hz18 := hk18.size
            have hHL6 : HL w18 (fun k => w17.heap.size ≤ k ∧ k < w18.heap.size) v5 cs := by
              have h9 := hHL5
              rw [show blks ⟨y, L5, [], false⟩ S6 (⟨y, L5, [], false⟩ : SG).y.blocks = cs from HE6.out.2.2.2.2.2.2.2] at h9
              exact h9
            have hHv8 := HE6.out.2.1.keep hk18 (by
              rintro k hk (h9 | h9)
              · have := HE6.out.2.2.2.1 k hk
                have := HE6.out.2.2.1 k h9
                omega
              · have := HE6.out.2.2.2.1 k hk
                omega)
            have hb18 : Below w.heap.size w w18 := HE6.out.1.trans (hk18.below (by
              rintro k (h9 | h9)
              · have := HE6.out.2.2.1 k h9; omega
              · omega) HE6.out.1.size)
            have kal := alike5_any hHL6 hHv8 (by rw [HE6.out.2.2.2.2.2.2.1]; have := hgeo.2.2.2.2.1; omega)
            have kc8 := fun (wx : World) (hb : Below w18.heap.size w18 wx) => B.dcounts (hst18.d.later hb) (by rw [HE6.out.2.2.2.2.2.1]; simp) (by have := hgeo.2.2.2.2.1; show cR5 + y.blocks + 1 < _; omega)
            rw [HE6.out.2.2.2.2.1] at kc8
            have HE8 := Hid.mk hb18
            clear ka5 hHL5 hHL6 hst18 hk18 hHv8 hb18 HE6
            go_wp2_with fail
            refine kal.mono ?_
            rintro e w19 ⟨rfl, hb19⟩
            have kc9 := kc8 w19 hb19
            have HE9 := Hid.mk (HE8.out.trans (hb19.mono HE8.out.size))
            clear kal kc8 hb19 HE8
            go_wp2_with fail
            refine kc9.mono ?_
            rintro e w20 ⟨r9, rfl, _, _, hb20⟩
            have HEF := Hid.mk (HE9.out.trans (hb20.mono HE9.out.size))
            clear kc9 hb20 HE9
            go_wp2
            go_ret
            exact ⟨rfl, HEF.out⟩

theorem storeAny_any (a : Option Addr) (n c : Nat) (l : List Int) (sa : Option Addr) (pn pc : Nat) (w : World) (hn : n ≤ 140737488355328) (hs : Src w a n l) (hbl : Bytes l) (hpi : PutsIn w w.heap.size sa pn) (hpn : pn ≤ 140737488355328) :
    Calls Tryz.prog 4 #[.slice a n c, .slice sa pn pc] w fun e w' => e = .returned (.bool true) ∧ Below w.heap.size w w' := by
  by_cases h : n % 512 = 0
  · by_cases h0 : n = 0 ∨ 1048576 < n
    · exact sany_no a n c l _ w hn hs h h0
    · exact sany_ok a n c (n / 512) l sa pn pc w (by omega) (by omega) (by omega) hs hbl hpi hpn
  · exact sany_bad a n c l _ w hn hs h
end Go.Proofs.YtokcgifpljeoiaaGreat
end

section
namespace Go.Proofs.YtokcgifpljeoiaaGreat
open Go.ChangeShapes Go.WideShapes Go.ChangeAt Go.RowKit Go.Deep

theorem cellsPut5 : Tryz.prog.cellsOf 57 = 2 := by kernel_rfl
theorem bytesPut5 : Tryz.prog.bytesOf 57 = 32 := by kernel_rfl
theorem cellsI5 : Tryz.prog.cellsOf 3 = 1 := by kernel_rfl
theorem cellsB5 : Tryz.prog.cellsOf 22 = 1 := by kernel_rfl
section
variable {H : Type} {enc : TypeId × Value → H} {W : World} {base : Nat} {spare : Nat → Bool} {held : Bool}
theorem trodP2 {P : Program} {e : TypeId} {f0 f1 : Field} {n : Nat} {cs : List Value} {x : DataW H × List MemPlace} (he : P.underlying e = some (.struct #[f0, f1])) (ce : P.cellsOf e = 2) (o0 : f0.offset = 0) (_o1 : f1.offset = 1)
    (c0 : P.cellsOf f0.type = 1) (_c1 : P.cellsOf f1.type = 1) (h : DataW.trod enc P W base spare held n e cs = some x) :
    ∃ v0 v1 y0 k, cs = [v0, v1] ∧ DataW.trod enc P W base spare held k f0.type [v0] = some y0 := by
  obtain ⟨xs, k, _, hxy, hlen, hxl, hf⟩ := DataW.trod_struct he h
  rw [ce] at hlen
  match xs, hxl, cs, hlen with
  | [y0, y1], _, [v0, v1], _ =>
    have g0 := hf 0 f0 rfl
    simp [o0, c0] at g0
    exact ⟨v0, v1, y0, k, rfl, g0⟩
theorem open_puts {fuel : Nat} {v : Value} {d : DataW H} {pl : List MemPlace} (h : DataW.trod enc Tryz.prog W base spare held fuel 48 [v] = some (d, pl)) (hw : ∀ n ∈ d.weights Tryz.prog 48, n ≤ reachBytes) :
    ∃ a n c, v = .slice a n c ∧ PutsIn W W.heap.size a n ∧ n ≤ 140737488355328 := by
  rcases open_slice Tryz.underlying48 h with ⟨hcs, _⟩ | ⟨x, len, cap, m, k, D, Pl, hcs, _, hl, hm, hmm, hd, hx⟩
  · simp only [List.cons.injEq, and_true] at hcs
    exact ⟨none, 0, 0, hcs, ⟨fun _ => rfl, (fun x hx => by cases hx)⟩, Nat.zero_le _⟩
  · simp only [List.cons.injEq, and_true] at hcs
    simp only [Prod.mk.injEq] at hd
    replace hd := hd.1
    subst hd
    have hlm : len ≤ m := by rw [hmm]; split <;> omega
    have h1 := hw ((((List.range len).map D).length + ((List.range (m - len)).map fun j => D (len + j)).length) * Tryz.prog.bytesOf 57) (by simp [DataW.weights, Tryz.underlying48])
    rw [bytesPut5] at h1
    simp only [List.length_map, List.length_range, reachBytes] at h1
    have hlen : len ≤ 140737488355328 := by omega
    rw [cellsPut5] at hx
    refine ⟨some x, len, cap, hcs, ⟨(fun h => by cases h), fun y hy i hi => ?_⟩, hlen⟩
    cases hy
    obtain ⟨cs', e1, e2⟩ := hx i (by omega)
    obtain ⟨_, hlen', hcell⟩ := World.cells?_some e1
    obtain ⟨v0, v1, y0, k', rfl, g0⟩ := trodP2 Tryz.underlying57 cellsPut5 rfl rfl cellsI5 cellsB5 e2
    obtain ⟨n0, q0, _, w0⟩ := DataW.trod_int Tryz.underlying3 g0
    simp only [List.cons.injEq, and_true] at q0
    subst q0
    have c0 := hcell 0 (by omega)
    rw [add_add] at c0
    obtain ⟨b, o, spot⟩ := x
    obtain ⟨cs0, z1, z2⟩ := hx 0 (by omega)
    obtain ⟨b0, b1, _, _, rfl, _⟩ := trodP2 Tryz.underlying57 cellsPut5 rfl rfl cellsI5 cellsB5 z2
    obtain ⟨_, _, zcell⟩ := World.cells?_some z1
    have z0 := zcell 0 (by omega)
    rw [add_add] at z0
    have hspot : spot = none := by simpa [Addr.add] using World.cell?_spot z0
    subst hspot
    rw [addr_add] at c0
    simp at c0
    exact ⟨b, o, rfl, World.block_lt_of_cell? _ _ c0, n0, c0, by have := int_wf w0; exact this.1, by have := int_wf w0; exact this.2⟩
end
end Go.Proofs.YtokcgifpljeoiaaGreat
end
