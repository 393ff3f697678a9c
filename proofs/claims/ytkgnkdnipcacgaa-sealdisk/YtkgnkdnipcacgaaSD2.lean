import Derived.Test.YtkgnkdnipcacgaaSD1
namespace Go.Proofs.Ytkgnkdnipcacgaa
open Go.RowKit

/-- A list that is read alone stays, where its block is not among those written. -/
theorem Src.stays {w w' : World} {F : Nat → Prop} {a : Option Addr} {n : Nat} {l : List Int} (h : Src w a n l) (hk : Keeps F w w') (ha : ∀ x, a = some x → 0 < n → ¬ F x.block) : Src w' a n l :=
  ⟨h.1, h.2.1, fun x hx i hi => by
    have h0 := h.2.2 x hx i hi
    rw [World.cell?_of_block (w := w) (hk.block _ (World.block_lt_of_cell? _ _ h0) (by rw [blockOf_add]; exact ha x hx (by omega)))]
    exact h0⟩

/-- The bench's cells. -/
abbrev bnC (p : Nat) (su ma : NwT) (sp mp : Option Addr) (sc mc : Nat) (op : Bool) : Array Value :=
  #[.pointer (some ⟨p, 0, none⟩), .int .i64 (su.1 : Int), .int .i64 (su.2.1 : Int), .slice sp su.2.2.1.length sc, .int .i64 (su.2.2.2 : Int), .int .i64 (ma.1 : Int), .int .i64 (ma.2.1 : Int), .slice mp ma.2.2.1.length mc, .int .i64 (ma.2.2.2 : Int), .bool op]

/-- The bench in memory. -/
structure BenchAt (w0 w : World) (F : Nat → Prop) (kb p : Nat) (S : DS) (su ma : NwT) (op : Bool) (n : Nat) (sp mp : Option Addr) (sc mc : Nat) : Prop where
  dk : DiskAt w F p 5 S
  lo : ∀ k, F k → w0.heap.size ≤ k
  bel : Below w0.heap.size w0 w
  kb0 : w0.heap.size ≤ kb
  nf : ¬ F kb
  kn : S.fuse = -1 ∧ S.Byt
  pu : S.puts.length ≤ n
  bl : w.heap[kb]? = some (.cells (bnC p su ma sp mp sc mc op) 78 (0, 0))
  ss : Src w sp su.2.2.1.length su.2.2.1
  ms : Src w mp ma.2.2.1.length ma.2.2.1
  sa : ∀ x, sp = some x → 0 < su.2.2.1.length → ¬ F x.block ∧ x.block ≠ kb
  mq : ∀ x, mp = some x → 0 < ma.2.2.1.length → ¬ F x.block ∧ x.block ≠ kb

section
variable {w0 w w' : World} {F : Nat → Prop} {kb p n m : Nat} {S S' : DS} {su ma nw : NwT} {op : Bool} {sp mp : Option Addr} {sc mc : Nat}

theorem BenchAt.kbl (h : BenchAt w0 w F kb p S su ma op n sp mp sc mc) : kb < w.heap.size := (Array.getElem?_eq_some_iff.1 h.bl).1
theorem BenchAt.step (h : BenchAt w0 w F kb p S su ma op n sp mp sc mc) (hd : DiskAt w' (more F w w') p 5 S') (hk : Keeps F w w') (kn : S'.fuse = -1 ∧ S'.Byt) (pu : S'.puts.length ≤ m) : BenchAt w0 w' (more F w w') kb p S' su ma op m sp mp sc mc := by
  have hkl := h.kbl
  refine ⟨hd, fun k hk' => ?_, h.bel.trans (hk.below h.lo h.bel.size), h.kb0, fun hf => ?_, kn, pu, (hk.block kb hkl h.nf).trans h.bl, h.ss.stays hk (fun x e hx => (h.sa x e hx).1), h.ms.stays hk (fun x e hx => (h.mq x e hx).1), fun x e hx => ⟨fun hf => ?_, (h.sa x e hx).2⟩, fun x e hx => ⟨fun hf => ?_, (h.mq x e hx).2⟩⟩
  · rcases hk' with h1 | h1
    · exact h.lo k h1
    · have := h.bel.size; omega
  · rcases hf with h1 | h1
    · exact h.nf h1
    · omega
  · rcases hf with h1 | h1
    · exact (h.sa x e hx).1 h1
    · have := h.ss.old x e hx; omega
  · rcases hf with h1 | h1
    · exact (h.mq x e hx).1 h1
    · have := h.ms.old x e hx; omega
theorem BenchAt.same (h : BenchAt w0 w F kb p S su ma op n sp mp sc mc) (hd : DiskAt w' F p 5 S') (hk : Keeps F w w') (kn : S'.fuse = -1 ∧ S'.Byt) (pu : S'.puts.length ≤ m) : BenchAt w0 w' F kb p S' su ma op m sp mp sc mc :=
  ⟨hd, h.lo, h.bel.trans (hk.below h.lo h.bel.size), h.kb0, h.nf, kn, pu, (hk.block kb h.kbl h.nf).trans h.bl, h.ss.stays hk (fun x e hx => (h.sa x e hx).1), h.ms.stays hk (fun x e hx => (h.mq x e hx).1), h.sa, h.mq⟩
theorem BenchAt.later (h : BenchAt w0 w F kb p S su ma op n sp mp sc mc) (hb : Below w.heap.size w w') : BenchAt w0 w' F kb p S su ma op n sp mp sc mc :=
  h.same (h.dk.keep (Keeps.of_below (fun _ => False) hb) (fun _ _ h => h)) (Keeps.of_below F hb) h.kn h.pu
theorem BenchAt.up (h : BenchAt w0 w F kb p S su ma op n sp mp sc mc) (hm : n ≤ m) : BenchAt w0 w F kb p S su ma op m sp mp sc mc :=
  ⟨h.dk, h.lo, h.bel, h.kb0, h.nf, h.kn, Nat.le_trans h.pu hm, h.bl, h.ss, h.ms, h.sa, h.mq⟩
/-- The bench's own cells are written. -/
theorem BenchAt.set {su' ma' : NwT} {op' : Bool} {sp' mp' : Option Addr} {sc' mc' : Nat} (h : BenchAt w0 w F kb p S su ma op n sp mp sc mc) (hk : Keeps (fun j => j = kb) w w') (bl : w'.heap[kb]? = some (.cells (bnC p su' ma' sp' mp' sc' mc' op') 78 (0, 0))) 
    (ss : Src w sp' su'.2.2.1.length su'.2.2.1) (ms : Src w mp' ma'.2.2.1.length ma'.2.2.1) (sa : ∀ x, sp' = some x → 0 < su'.2.2.1.length → ¬ F x.block ∧ x.block ≠ kb) (mk : ∀ x, mp' = some x → 0 < ma'.2.2.1.length → ¬ F x.block ∧ x.block ≠ kb) : BenchAt w0 w' F kb p S su' ma' op' n sp' mp' sc' mc' :=
  ⟨h.dk.keep hk (fun k hf e => by rw [e] at hf; exact h.nf hf), h.lo, h.bel.trans (hk.below (fun k e => by rw [e]; exact h.kb0) h.bel.size), h.kb0, h.nf, h.kn, h.pu, bl, ss.stays hk (fun x e hx => (sa x e hx).2), ms.stays hk (fun x e hx => (mk x e hx).2), sa, mk⟩

theorem BenchAt.aside {G : Nat → Prop} (h : BenchAt w0 w F kb p S su ma op n sp mp sc mc) (hk : Keeps G w w') (hG : ∀ j, G j → w0.heap.size ≤ j ∧ ¬ F j ∧ j ≠ kb) (h1 : ∀ x, sp = some x → 0 < su.2.2.1.length → ¬ G x.block) (h2 : ∀ x, mp = some x → 0 < ma.2.2.1.length → ¬ G x.block) : BenchAt w0 w' F kb p S su ma op n sp mp sc mc :=
  ⟨h.dk.keep hk (fun k hf hg => (hG k hg).2.1 hf), h.lo, h.bel.trans (hk.below (fun k hg => (hG k hg).1) h.bel.size), h.kb0, h.nf, h.kn, h.pu, (hk.block kb h.kbl (fun hg => (hG kb hg).2.2 rfl)).trans h.bl, h.ss.stays hk h1, h.ms.stays hk h2, h.sa, h.mq⟩
/-- What look leaves. -/
def LookOut (w0 w : World) (F : Nat → Prop) (kb p : Nat) (S : DS) (su ma nw : NwT) (op : Bool) (n : Nat) (sp mp : Option Addr) (sc mc : Nat) (e : Ending) (w' : World) : Prop :=
  ∃ pa pc gl cl gr cr S', e = .returned (.tuple #[.agg #[.int .i64 (nw.1 : Int), .int .i64 (nw.2.1 : Int), .slice pa nw.2.2.1.length pc, .int .i64 (nw.2.2.2 : Int)], .slice gl 512 cl, .slice gr 512 cr]) ∧
      Src w' pa nw.2.2.1.length nw.2.2.1 ∧ (∀ x, pa = some x → w.heap.size ≤ x.block) ∧ Src w' gl 512 (S.now 1) ∧ Src w' gr 512 (S.now 3) ∧ (S'.im = S.im ∧ S'.puts = S.puts ∧ S'.fuse = S.fuse) ∧ BenchAt w0 w' F kb p S' su ma op n sp mp sc mc ∧ Keeps F w w'
theorem results_cell_tmp2 {P : Program} {fn : Func} {p q r : Tmp} {ty : TypeId} (h : fn.results = #[.cell p ty, .tmp q, .tmp r]) (tmps : Array Value) (w : World) (g : Nat) (cs : List Value) (d : TypeDesc) (v u : Value)
    (hp : tmps.getD p undef = .pointer (some ⟨g, 0, none⟩)) (hq : tmps.getD q undef = v) (hr : tmps.getD r undef = u) (hg : w.rangeAt g 0 cs) (hu : P.underlying ty = some d) (hd : d.isRow = true) (hi : (P.info? ty).map (·.size) = some cs.length) :
    (results fn tmps).run P w = .ok (.tuple #[.agg cs.toArray, v, u]) w := by
  have hp' : tmps[p]?.getD undef = .pointer (some ⟨g, 0, none⟩) := by simpa using hp
  have hq' : tmps[q]?.getD undef = v := by simpa using hq
  have hr' : tmps[r]?.getD undef = u := by simpa using hr
  simp [results, h, hp', hq', hr', asAddr, run_loadVar_mid w g 0 ty cs d hg hu hd hi]

theorem infoBench : (Try.prog.info? 78).map (·.size) = some 10 := by kernel_rfl

set_option maxRecDepth 20000 in
set_option maxHeartbeats 4000000 in
/-- What the pair on the disk tells. -/
theorem look_any (h : BenchAt w0 w F kb p S su ma op n sp mp sc mc) (hma : nw = snewest (S.now 1) (S.now 3)) (hn : n + 5 ≤ 4000000000000) :
    Calls Try.prog 45 #[.pointer (some ⟨kb, 0, none⟩)] w (LookOut w0 w F kb p S su ma nw op n sp mp sc mc) := by
  have hok := h.dk.ok
  have hpu := h.pu
  have hf : S.fuse ≠ 0 := by rw [h.kn.1]; decide
  have hl1 := now_len hok 1 (by omega)
  have hl3 := now_len hok 3 (by omega)
  have hy1 := h.kn.2.now 1
  have hy3 := h.kn.2.now 3
  have hB0 : Below w.heap.size w (w.alloc (.cells #[.int .i64 0, .int .i64 0, .slice none 0 0, .int .i64 0] 75)) := (Below.refl _ w).alloc (Nat.le_refl _) _
  have hq0 : (w.alloc (.cells #[.int .i64 0, .int .i64 0, .slice none 0 0, .int .i64 0] 75)).heap[w.heap.size]? = some (.cells #[.int .i64 0, .int .i64 0, .slice none 0 0, .int .i64 0] 75 (0, 0)) := heap_alloc_new _ _
  have h0 := h.later hB0
  have hr1 := read_all h0.dk ((1 : Nat) : Int) (by omega)
  rw [rd_in hf (by omega)] at hr1
  have kc := cell_of_block h0.bl (j := 0) rfl
  have kd := cell_of_block h.bl (j := 0) rfl
  have HB := Hid.mk h0
  have HQ := Hid.mk hq0
  have hnF : ¬ F w.heap.size := fun hf => by have := h.dk.lt _ hf; omega
  have hkl := h.kbl
  have hFl := h.dk.lt
  have hso := h.ss.old
  have hmo := h.ms.old
  have h0w := h.bel.size
  clear h h0 hq0
  go_enter Try.func45, Try.ntmps45
  go_wp2_with fail
  refine hr1.mono ?_
  rintro e w1 ⟨v1, rfl, ho1, hd1, hk1⟩
  have hB1 := HB.out.same hd1 hk1 HB.out.kn HB.out.pu
  obtain ⟨a1, c1, rfl, hs1, hx1⟩ := ho1
  have hr2 := read_all hB1.dk ((3 : Nat) : Int) (by show S.puts.length + 1 ≤ _; omega)
  rw [rd_in (S := S.read) hf (by omega)] at hr2
  have kc1 := cell_of_block hB1.bl (j := 0) rfl
  have hq1 := (hk1.block w.heap.size (Array.getElem?_eq_some_iff.1 HQ.out).1 hnF).trans HQ.out
  have HB1 := Hid.mk hB1
  have HKA := Hid.mk ((Keeps.alloc F w _).trans hk1 (fun j h => .inl h))
  have HQ1 := Hid.mk hq1
  have HS1 := Hid.mk hs1
  have HX1 := Hid.mk hx1
  have hz1 : w.heap.size < w1.heap.size := (Array.getElem?_eq_some_iff.1 hq1).1
  clear hr1 hd1 hk1 hB1 hq1 hs1 hx1 kc
  go_wp2_with fail
  refine hr2.mono ?_
  rintro e w2 ⟨v2, rfl, ho2, hd2, hk2⟩
  have hB2 := HB1.out.same hd2 hk2 HB1.out.kn HB1.out.pu
  obtain ⟨a2, c2, rfl, hs2, hx2⟩ := ho2
  have hn3 : S.read.now 3 = S.now 3 := rfl
  rw [hn3] at hs2
  have hs1' := HS1.out.stays hk2 (fun x e _ hf => by have := hFl _ hf; have := HX1.out x e; simp at this; omega)
  have hq2 := (hk2.block w.heap.size (Array.getElem?_eq_some_iff.1 HQ1.out).1 hnF).trans HQ1.out
  have h3 := ask_any a1 (S.now 1).length c1 (S.now 1) a2 (S.now 3).length c2 (S.now 3) w2 hs1' hs2 hy1 hy3 (by omega) (by omega)
  rw [← hma, hl1, hl3] at h3
  rw [hl1] at hs1'
  rw [hl3] at hs2
  have HB2 := Hid.mk hB2
  have HKB := Hid.mk (HKA.out.trans hk2 (fun j h => .inl h))
  have HQ2 := Hid.mk hq2
  have HXX : Hid ((∀ x, a1 = some x → w.heap.size + 1 ≤ Addr.block x) ∧ (∀ x, a2 = some x → w.heap.size + 1 ≤ Addr.block x)) := ⟨fun x hx => by have := HX1.out x hx; simpa using this, fun x hx => by have := hx2 x hx; omega⟩
  have HS := Hid.mk (And.intro hs1' hs2)
  have hz2 : w1.heap.size ≤ w2.heap.size := hk2.size
  clear hr2 hd2 hk2 hB2 hq2 hs1' hs2 HS1 HX1 hx2 HB HB1 HQ HQ1 kc1 hma
  rw [hn3, hl3]
  go_wp2_with fail
  refine (lnum_any _ _).mono ?_
  rintro e w' ⟨rfl, hw⟩
  have hw' := hw.symm
  subst hw'
  clear hw
  go_wp2_with fail
  refine (lnum_any _ _).mono ?_
  rintro e w' ⟨rfl, hw⟩
  have hw' := hw.symm
  subst hw'
  clear hw
  obtain ⟨A, B, D, E⟩ := nw
  simp only at *
  go_wp2_with fail
  refine h3.mono ?_
  rintro e w3 ⟨p3, c3, rfl, hs3, hb3, hx3⟩
  have hB3 := HB2.out.later hb3
  have hq3 := (hb3.block _ (Array.getElem?_eq_some_iff.1 HQ2.out).1).trans HQ2.out
  have e0 : w3.cell? ⟨w.heap.size, 0, none⟩ = some (.int .i64 0) := cell_of_block hq3 (j := 0) rfl
  have e1 : w3.cell? ⟨w.heap.size, 1, none⟩ = some (.int .i64 0) := cell_of_block hq3 (j := 1) rfl
  have e2 : w3.cell? ⟨w.heap.size, 2, none⟩ = some (.slice none 0 0) := cell_of_block hq3 (j := 2) rfl
  have e3 : w3.cell? ⟨w.heap.size, 3, none⟩ = some (.int .i64 0) := cell_of_block hq3 (j := 3) rfl
  have f0 := frozen_of_block hq3 0
  have f1 := frozen_of_block hq3 1
  have f2 := frozen_of_block hq3 2
  have f3 := frozen_of_block hq3 3
  have hset := set4 (x := .int .i64 (A : Int)) (y := .int .i64 (B : Int)) (z := .slice p3 D.length c3) (u := .int .i64 (E : Int)) hq3
  have hkp := keeps4 w3 w.heap.size (.int .i64 (A : Int)) (.int .i64 (B : Int)) (.slice p3 D.length c3) (.int .i64 (E : Int))
  have hr4 := Hid.mk (range4 hset)
  have hs4 := hs3.ne hkp (fun x hx => by have := hx3 x hx; omega)
  have HF := Hid.mk (And.intro hs4 (fun x hx => show w.heap.size ≤ Addr.block x by have := hx3 x hx; omega))
  have HL := Hid.mk (And.intro ((HS.out.1.later hb3).ne hkp (fun x hx => by have := HXX.out.1 x hx; omega)) ((HS.out.2.later hb3).ne hkp (fun x hx => by have := HXX.out.2 x hx; omega)))
  have HKC := Hid.mk ((HKB.out.trans (Keeps.of_below F hb3) (fun j h => .inl h)).trans hkp (fun j hj => .inr (by omega)))
  have HB3 := Hid.mk (hB3.aside hkp (fun j hj => ⟨by omega, by rw [hj]; exact hnF, by omega⟩) (fun x e hx hj => by have := hso x e hx; omega) (fun x e hx hj => by have := hmo x e hx; omega))
  clear h3 hb3 hs3 hx3 hq3 hB3 hset hkp hs4 HB2 HQ2 HS
  go_wp2
  exact bodyPost_ret (results_cell_tmp2 (P := Try.prog) rfl _ _ w.heap.size _ _ _ _ rfl rfl rfl hr4.out Try.underlying75 rfl infoNewest4) rfl ⟨p3, c3, a1, c1, a2, c2, S.read.read, rfl, HF.out.1, HF.out.2, HL.out.1, HL.out.2, ⟨rfl, rfl, rfl⟩, HB3.out, HKC.out⟩
end
end Go.Proofs.Ytkgnkdnipcacgaa
