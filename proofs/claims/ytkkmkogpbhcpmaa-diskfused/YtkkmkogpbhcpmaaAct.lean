import Derived.Test.YtkkmkogpbhcpmaaPairD
import Derived.Deep.RegionLaw
import Derived.BigRegion
namespace Go.Proofs.Ytkkmkogpbhcpmaa
open Go.RowKit Go.Maps

/-- What a step whose answers are let go makes of a disk. -/
def DS.act (S : DS) (s : Nat) (kind x : Int) (n : Nat) (l : List Int) (pl : List P3) : DS :=
  if kind = 1 then (S.rd s x).2.1 else if kind = 2 then (S.wr s x n l).2 else if kind = 3 then (S.fl s).2 else if kind = 4 then S.lay x else if kind = 6 then S.crash s pl else if kind = 7 then S.take else S

theorem act_puts (S : DS) (s : Nat) (kind x : Int) (n : Nat) (l : List Int) (pl : List P3) : (S.act s kind x n l pl).puts.length ≤ S.puts.length + 1 := by
  unfold DS.act
  split
  · exact rd_puts S s x
  · split
    · exact wr_puts S s x n l
    · split
      · exact fl_puts S s
      · split
        · exact lay_puts S x
        · split
          · simp [DS.crash]
          · split <;> simp [DS.take]

theorem act_fin {w w0 w1 : World} {F : Nat → Prop} {p s : Nat} {S : DS} (hb0 : Below w.heap.size w w0) (hd : DiskAt w1 (more F w0 w1) p s S) (hk : Keeps F w0 w1) : DiskAt w1 (more F w w1) p s S ∧ Keeps F w w1 := by
  have h0 := hb0.size
  refine ⟨hd.mono (fun k hk' => by rcases hk' with h | h; exact .inl h; exact .inr ⟨by omega, h.2⟩) (fun k hk' => ?_), (Keeps.of_below F hb0).trans hk (fun j hj => .inl hj)⟩
  rcases hk' with h | h
  · exact hd.lt k (.inl h)
  · exact h.2

theorem act_same {w w1 : World} {F : Nat → Prop} {p s : Nat} {S : DS} (h : DiskAt w F p s S) (hb : Below w.heap.size w w1) : DiskAt w1 (more F w w1) p s S ∧ Keeps F w w1 :=
  ⟨(h.keep (Keeps.of_below (fun _ => False) hb) (fun _ _ h => h)).more, Keeps.of_below F hb⟩

/-- What Twin gives, of any length. -/
def TwA (w : World) (n : Nat) (l : List Int) (v : Value) (w' : World) : Prop := ∃ g, v = .slice (some ⟨g, 0, none⟩) n n ∧ w.heap.size ≤ g ∧ RowAt w' 5 g n (bs l) ∧ Below w.heap.size w w'

/-- A call of a Go function at a step of a region that draws its order. -/
theorem stepA_call {P : Program} {w : World} {ops : Array Oper} {o : Oper} {a : Act} {K : Act → World → Prop} {Q : Exit → Act → World → Prop} {E : Prop} (hgd : o.guard = none) (f : FuncId) (args : Array Value)
    (hen : (execOp a.eval o).run P w = .ok (.enter f args) w) (R : Value → World → Prop) (hc : Calls P f args w fun e w' => ∃ v, e = .returned v ∧ R v w') (h : ∀ v w', R v w' → K (a.put o.dst v) w') :
    if Region.wanted o (yielded ops a.tmps) = true then Oper.wp P o a w K Q else E := by
  have hw : Region.wanted o (yielded ops a.tmps) = true := by simp [Region.wanted, hgd]
  rw [if_pos hw]
  unfold Oper.wp
  rw [hen, Oper.upon_enter]
  refine hc.mono ?_
  rintro e w' ⟨v, rfl, hr⟩
  exact h v w' hr

section
variable {w : World} {F : Nat → Prop} {p s : Nat} {S : DS}

set_option maxHeartbeats 2000000 in
set_option maxRecDepth 100000 in
theorem act_read (h : DiskAt w F p s S) (hbig : S.puts.length + 1 ≤ 4000000000000) (x : Int) (a : Option Addr) (n c : Nat) (pa : Option Addr) (pn pc : Nat) :
    Calls Try.prog 16 #[.pointer (some ⟨p, 0, none⟩), opV 1 x a n c pa pn pc] w fun e w' => e = .returned (.tuple #[]) ∧ DiskAt w' (more F w w') p s (S.rd s x).2.1 ∧ Keeps F w w' := by
  obtain ⟨w0, hw0⟩ : ∃ w0, w0 = w.alloc (.cells (opC 1 x a n c pa pn pc) 30) := ⟨_, rfl⟩
  have hb0 : Below w.heap.size w w0 := hw0 ▸ below_box _ _
  have h0 := h.keep (Keeps.of_below (fun _ => False) hb0) (fun _ _ h => h)
  have hd := read_all h0 x hbig
  clear h h0
  go_enter Try.func16, Try.ntmps16
  go_wp2_with fail
  rw [← hw0]
  clear hw0
  refine hd.mono ?_
  rintro e w1 ⟨v, rfl, ho, hd1, hk1⟩
  have HF := Hid.mk (act_fin hb0 hd1.more hk1)
  clear hd ho hd1 hk1 hb0
  go_wp2
  go_end0
  exact ⟨rfl, HF.out⟩

set_option maxHeartbeats 2000000 in
set_option maxRecDepth 100000 in
theorem act_flush (h : DiskAt w F p s S) (hbig : S.puts.length + 1 ≤ 4000000000000) (x : Int) (a : Option Addr) (n c : Nat) (pa : Option Addr) (pn pc : Nat) :
    Calls Try.prog 16 #[.pointer (some ⟨p, 0, none⟩), opV 3 x a n c pa pn pc] w fun e w' => e = .returned (.tuple #[]) ∧ DiskAt w' (more F w w') p s (S.fl s).2 ∧ Keeps F w w' := by
  obtain ⟨w0, hw0⟩ : ∃ w0, w0 = w.alloc (.cells (opC 3 x a n c pa pn pc) 30) := ⟨_, rfl⟩
  have hb0 : Below w.heap.size w w0 := hw0 ▸ below_box _ _
  have h0 := h.keep (Keeps.of_below (fun _ => False) hb0) (fun _ _ h => h)
  have hd := flush_all h0 hbig
  clear h h0
  go_enter Try.func16, Try.ntmps16
  go_wp2_with fail
  rw [← hw0]
  clear hw0
  refine hd.mono ?_
  rintro e w1 ⟨rfl, hd1, hk1⟩
  have HF := Hid.mk (act_fin hb0 hd1.more hk1)
  clear hd hd1 hk1 hb0
  go_wp2
  go_end0
  exact ⟨rfl, HF.out⟩

set_option maxHeartbeats 2000000 in
set_option maxRecDepth 100000 in
theorem act_fuse (h : DiskAt w F p s S) (x : Int) (hx : x ≤ 9223372036854775807) (a : Option Addr) (n c : Nat) (pa : Option Addr) (pn pc : Nat) :
    Calls Try.prog 16 #[.pointer (some ⟨p, 0, none⟩), opV 4 x a n c pa pn pc] w fun e w' => e = .returned (.tuple #[]) ∧ DiskAt w' (more F w w') p s (S.lay x) ∧ Keeps F w w' := by
  obtain ⟨w0, hw0⟩ : ∃ w0, w0 = w.alloc (.cells (opC 4 x a n c pa pn pc) 30) := ⟨_, rfl⟩
  have hb0 : Below w.heap.size w w0 := hw0 ▸ below_box _ _
  have h0 := h.keep (Keeps.of_below (fun _ => False) hb0) (fun _ _ h => h)
  have hd := fuse_at h0 x hx
  clear h h0
  go_enter Try.func16, Try.ntmps16
  go_wp2_with fail
  rw [← hw0]
  clear hw0
  refine hd.mono ?_
  rintro e w1 ⟨rfl, hd1, hk1⟩
  have HF := Hid.mk (act_fin hb0 hd1.more hk1)
  clear hd hd1 hk1 hb0
  go_wp2
  go_end0
  exact ⟨rfl, HF.out⟩

set_option maxHeartbeats 2000000 in
set_option maxRecDepth 100000 in
theorem act_take (h : DiskAt w F p s S) (x : Int) (a : Option Addr) (n c : Nat) (pa : Option Addr) (pn pc : Nat) :
    Calls Try.prog 16 #[.pointer (some ⟨p, 0, none⟩), opV 7 x a n c pa pn pc] w fun e w' => e = .returned (.tuple #[]) ∧ DiskAt w' (more F w w') p s S.take ∧ Keeps F w w' := by
  obtain ⟨w0, hw0⟩ : ∃ w0, w0 = w.alloc (.cells (opC 7 x a n c pa pn pc) 30) := ⟨_, rfl⟩
  have hb0 : Below w.heap.size w w0 := hw0 ▸ below_box _ _
  have h0 := h.keep (Keeps.of_below (fun _ => False) hb0) (fun _ _ h => h)
  have hd := take_at h0
  clear h h0
  go_enter Try.func16, Try.ntmps16
  go_wp2_with fail
  rw [← hw0]
  clear hw0
  refine hd.mono ?_
  rintro e w1 ⟨rfl, hd1, hk1⟩
  have HF := Hid.mk (act_fin hb0 hd1.more hk1)
  clear hd hd1 hk1 hb0
  go_wp2
  go_end0
  exact ⟨rfl, HF.out⟩

set_option maxHeartbeats 2000000 in
set_option maxRecDepth 100000 in
theorem act_burnt (h : DiskAt w F p s S) (x : Int) (a : Option Addr) (n c : Nat) (pa : Option Addr) (pn pc : Nat) :
    Calls Try.prog 16 #[.pointer (some ⟨p, 0, none⟩), opV 5 x a n c pa pn pc] w fun e w' => e = .returned (.tuple #[]) ∧ DiskAt w' (more F w w') p s S ∧ Keeps F w w' := by
  obtain ⟨w0, hw0⟩ : ∃ w0, w0 = w.alloc (.cells (opC 5 x a n c pa pn pc) 30) := ⟨_, rfl⟩
  have hb0 : Below w.heap.size w w0 := hw0 ▸ below_box _ _
  have h0 := h.keep (Keeps.of_below (fun _ => False) hb0) (fun _ _ h => h)
  have hd := burnt_at h0
  have HF := Hid.mk (act_same h hb0)
  clear h h0
  go_enter Try.func16, Try.ntmps16
  go_wp2_with fail
  rw [← hw0]
  clear hw0
  refine hd.mono ?_
  rintro e w1 ⟨rfl, hw⟩
  have hw' := hw.symm
  subst hw'
  clear hd
  go_wp2
  go_end0
  exact ⟨rfl, HF.out⟩

set_option maxHeartbeats 2000000 in
set_option maxRecDepth 100000 in
theorem act_life (h : DiskAt w F p s S) (x : Int) (a : Option Addr) (n c : Nat) (pa : Option Addr) (pn pc : Nat) :
    Calls Try.prog 16 #[.pointer (some ⟨p, 0, none⟩), opV 8 x a n c pa pn pc] w fun e w' => e = .returned (.tuple #[]) ∧ DiskAt w' (more F w w') p s S ∧ Keeps F w w' := by
  obtain ⟨w0, hw0⟩ : ∃ w0, w0 = w.alloc (.cells (opC 8 x a n c pa pn pc) 30) := ⟨_, rfl⟩
  have hb0 : Below w.heap.size w w0 := hw0 ▸ below_box _ _
  have h0 := h.keep (Keeps.of_below (fun _ => False) hb0) (fun _ _ h => h)
  have hd := life_at h0
  have HF := Hid.mk (act_same h hb0)
  clear h h0
  go_enter Try.func16, Try.ntmps16
  go_wp2_with fail
  rw [← hw0]
  clear hw0
  refine hd.mono ?_
  rintro e w1 ⟨rfl, hw⟩
  have hw' := hw.symm
  subst hw'
  clear hd
  go_wp2
  go_end0
  exact ⟨rfl, HF.out⟩

set_option maxHeartbeats 2000000 in
set_option maxRecDepth 100000 in
theorem act_sectors (h : DiskAt w F p s S) (x : Int) (a : Option Addr) (n c : Nat) (pa : Option Addr) (pn pc : Nat) :
    Calls Try.prog 16 #[.pointer (some ⟨p, 0, none⟩), opV 11 x a n c pa pn pc] w fun e w' => e = .returned (.tuple #[]) ∧ DiskAt w' (more F w w') p s S ∧ Keeps F w w' := by
  obtain ⟨w0, hw0⟩ : ∃ w0, w0 = w.alloc (.cells (opC 11 x a n c pa pn pc) 30) := ⟨_, rfl⟩
  have hb0 : Below w.heap.size w w0 := hw0 ▸ below_box _ _
  have h0 := h.keep (Keeps.of_below (fun _ => False) hb0) (fun _ _ h => h)
  have hd := sectors_at h0
  have HF := Hid.mk (act_same h hb0)
  clear h h0
  go_enter Try.func16, Try.ntmps16
  go_wp2_with fail
  rw [← hw0]
  clear hw0
  refine hd.mono ?_
  rintro e w1 ⟨rfl, hw⟩
  have hw' := hw.symm
  subst hw'
  clear hd
  go_wp2
  go_end0
  exact ⟨rfl, HF.out⟩

set_option maxHeartbeats 2000000 in
set_option maxRecDepth 100000 in
theorem act_image (h : DiskAt w F p s S) (x : Int) (a : Option Addr) (n c : Nat) (pa : Option Addr) (pn pc : Nat) :
    Calls Try.prog 16 #[.pointer (some ⟨p, 0, none⟩), opV 9 x a n c pa pn pc] w fun e w' => e = .returned (.tuple #[]) ∧ DiskAt w' (more F w w') p s S ∧ Keeps F w w' := by
  obtain ⟨w0, hw0⟩ : ∃ w0, w0 = w.alloc (.cells (opC 9 x a n c pa pn pc) 30) := ⟨_, rfl⟩
  have hb0 : Below w.heap.size w w0 := hw0 ▸ below_box _ _
  have h0 := h.keep (Keeps.of_below (fun _ => False) hb0) (fun _ _ h => h)
  have hd := image_any _ _ _ _ _ h0
  have H := Hid.mk h
  clear h h0
  go_enter Try.func16, Try.ntmps16
  go_wp2_with fail
  rw [← hw0]
  clear hw0
  refine hd.mono ?_
  rintro e w1 ⟨g1, c1, rfl, _, _, hb1⟩
  have HF := Hid.mk (act_same H.out (hb0.trans (hb1.mono hb0.size)))
  clear hd H
  go_wp2
  go_end0
  exact ⟨rfl, HF.out⟩

set_option maxHeartbeats 2000000 in
set_option maxRecDepth 100000 in
theorem act_counts (h : DiskAt w F p s S) (hbig : S.puts.length + 1 ≤ 4000000000000) (x : Int) (a : Option Addr) (n c : Nat) (pa : Option Addr) (pn pc : Nat) :
    Calls Try.prog 16 #[.pointer (some ⟨p, 0, none⟩), opV 10 x a n c pa pn pc] w fun e w' => e = .returned (.tuple #[]) ∧ DiskAt w' (more F w w') p s S ∧ Keeps F w w' := by
  obtain ⟨w0, hw0⟩ : ∃ w0, w0 = w.alloc (.cells (opC 10 x a n c pa pn pc) 30) := ⟨_, rfl⟩
  have hb0 : Below w.heap.size w w0 := hw0 ▸ below_box _ _
  have h0 := h.keep (Keeps.of_below (fun _ => False) hb0) (fun _ _ h => h)
  have hd := counts_any _ _ _ _ _ h0 (by omega)
  have H := Hid.mk h
  clear h h0
  go_enter Try.func16, Try.ntmps16
  go_wp2_with fail
  rw [← hw0]
  clear hw0
  refine hd.mono ?_
  rintro e w1 ⟨rfl, hb1⟩
  have HF := Hid.mk (act_same H.out (hb0.trans (hb1.mono hb0.size)))
  clear hd H
  go_wp2
  go_end0
  exact ⟨rfl, HF.out⟩

set_option maxHeartbeats 2000000 in
set_option maxRecDepth 100000 in
theorem act_crash (h : DiskAt w F p s S) (hbig : S.puts.length + 1 ≤ 4000000000000) (x : Int) (a : Option Addr) (n c : Nat) (pa : Option Addr) (pn pc : Nat) (pl : List P3) (hp : PSrc w pa pn pl) (hpn : 24 * pn ≤ 140737488355328) :
    Calls Try.prog 16 #[.pointer (some ⟨p, 0, none⟩), opV 6 x a n c pa pn pc] w fun e w' => e = .returned (.tuple #[]) ∧ DiskAt w' (more F w w') p s (S.crash s pl) ∧ Keeps F w w' := by
  obtain ⟨w0, hw0⟩ : ∃ w0, w0 = w.alloc (.cells (opC 6 x a n c pa pn pc) 30) := ⟨_, rfl⟩
  have hb0 : Below w.heap.size w w0 := hw0 ▸ below_box _ _
  have h0 := h.keep (Keeps.of_below (fun _ => False) hb0) (fun _ _ h => h)
  have htw := twinp_any pa pn pc pl w0 hpn (hp.later hb0)
  have H := Hid.mk h0
  clear h h0 hp
  go_enter Try.func16, Try.ntmps16
  go_wp2_with fail
  rw [← hw0]
  clear hw0
  refine htw.mono ?_
  rintro e w1 ⟨g, rfl, hg, hps, hb1⟩
  have h1 := H.out.keep (Keeps.of_below (fun _ => False) hb1) (fun _ _ h => h)
  have hd := crash_ok sorts sortn h1 (by omega) (some ⟨g, 0, none⟩) pn pn pl hps (by omega) (fun x hx hf => by cases hx; have h9 : g < w0.heap.size := H.out.lt _ hf; omega)
  have hbw1 : Below w.heap.size w w1 := hb0.trans (hb1.mono hb0.size)
  clear htw hps hb1 h1 H hg hb0
  go_wp2_with fail
  refine hd.mono ?_
  rintro e w2 ⟨rfl, hd1, hk1⟩
  have HF := Hid.mk (act_fin hbw1 hd1.more hk1)
  clear hd hd1 hk1 hbw1
  go_wp2
  go_end0
  exact ⟨rfl, HF.out⟩

set_option maxHeartbeats 2000000 in
set_option maxRecDepth 100000 in
theorem act_write (h : DiskAt w F p s S) (hbig : S.puts.length + 1 ≤ 4000000000000) (x : Int) (a : Option Addr) (n c : Nat) (pa : Option Addr) (pn pc : Nat) (l : List Int) (hs : Src w a n l) (hn : n ≤ 140737488355328) :
    Calls Try.prog 16 #[.pointer (some ⟨p, 0, none⟩), opV 2 x a n c pa pn pc] w fun e w' => e = .returned (.tuple #[]) ∧ DiskAt w' (more F w w') p s (S.wr s x n l).2 ∧ Keeps F w w' := by
  obtain ⟨w0, hw0⟩ : ∃ w0, w0 = w.alloc (.cells (opC 2 x a n c pa pn pc) 30) := ⟨_, rfl⟩
  have hb0 : Below w.heap.size w w0 := hw0 ▸ below_box _ _
  have h0 := h.keep (Keeps.of_below (fun _ => False) hb0) (fun _ _ h => h)
  have htw : Calls Try.prog 13 #[.slice a n c] w0.drew fun e w' => ∃ v, e = .returned v ∧ TwA w0 n l v w' :=
    (twin_any a n c l w0.drew hn (show Src w0 a n l from hs.later hb0)).mono (by rintro e w' ⟨g, rfl, h1, h2, h3⟩; exact ⟨_, rfl, g, rfl, h1, h2, ⟨h3.os, h3.tape, h3.output, h3.size, h3.block⟩⟩)
  have hbx : w0.heap[w.heap.size]? = some (.cells (opC 2 x a n c pa pn pc) 30 (0, 0)) := hw0 ▸ heap_alloc_new _ _
  have c1 := cell_of_block hbx (j := 1) rfl
  have c2 := cell_of_block hbx (j := 2) rfl
  have hbl := (Array.getElem?_eq_some_iff.1 hbx).1
  have hl := hs.1
  have H := Hid.mk h0
  have Htw := Hid.mk htw
  have Hbx := Hid.mk hbx
  have Hb0 := Hid.mk hb0
  clear h h0 hs htw hbx hb0
  go_enter Try.func16, Try.ntmps16
  go_wp2_with fail
  rw [← hw0]
  clear hw0
  obtain ⟨q, hq⟩ : ∃ q, q = w.heap.size := ⟨_, rfl⟩
  rw [← hq] at c1 c2 hbl
  have Hbx' : Hid (w0.heap[q]? = some (.cells (opC 2 x a n c pa pn pc) 30 (0, 0))) := by rw [hq]; exact Hbx.out
  rw [← hq]
  clear Hbx hq
  go_region_law
    (first
      | (refine stepA_call (by rfl) 13 #[.slice a n c] (by simp [go_sem]) (TwA w0 n l) Htw.out ?_; rintro _ w1 ⟨g, rfl, hg, hr, hb1⟩; have h1 := H.out.keep (Keeps.of_below (fun _ => False) hb1) (fun _ _ h => h); have k1 := cell_of_block ((hb1.block q hbl).trans Hbx'.out) (j := 1) rfl)
      | (refine stepA_call (by rfl) 12 #[.pointer (some ⟨p, 0, none⟩), .int .i64 x, .slice (some ⟨g, 0, none⟩) n n] (by simp [go_sem]) (fun v w' => v = .int .i64 (S.wr s x n l).1 ∧ DiskAt w' (more F w1 w') p s (S.wr s x n l).2 ∧ Keeps F w1 w') ((write_all h1 x (some ⟨g, 0, none⟩) n n l (hl ▸ hr.src) hbig).mono (by rintro e w' ⟨rfl, h1, h2⟩; exact ⟨_, rfl, rfl, h1, h2⟩)) ?_; rintro _ w2 ⟨rfl, hd2, hk2⟩))
  all_goals
    have HF := Hid.mk (act_fin (Hb0.out.trans (hb1.mono Hb0.out.size)) hd2 hk2)
    clear hd2 hk2 h1 hr hb1 k1 hg H Htw c1 c2 Hbx' Hb0
    go_wp2
    go_end0
    exact ⟨rfl, HF.out⟩

set_option maxHeartbeats 2000000 in
theorem act_none (h : DiskAt w F p s S) (kind : Int) (hk : ¬ (kind = 1 ∨ kind = 2 ∨ kind = 3 ∨ kind = 4 ∨ kind = 5 ∨ kind = 6 ∨ kind = 7 ∨ kind = 8 ∨ kind = 9 ∨ kind = 10 ∨ kind = 11)) (x : Int) (a : Option Addr) (n c : Nat) (pa : Option Addr) (pn pc : Nat) :
    Calls Try.prog 16 #[.pointer (some ⟨p, 0, none⟩), opV kind x a n c pa pn pc] w fun e w' => e = .returned (.tuple #[]) ∧ DiskAt w' (more F w w') p s S ∧ Keeps F w w' := by
  have e1 : (kind == 1) = false := by rw [Bool.eq_false_iff, ne_eq, beq_iff_eq]; omega
  have e2 : (kind == 2) = false := by rw [Bool.eq_false_iff, ne_eq, beq_iff_eq]; omega
  have e3 : (kind == 3) = false := by rw [Bool.eq_false_iff, ne_eq, beq_iff_eq]; omega
  have e4 : (kind == 4) = false := by rw [Bool.eq_false_iff, ne_eq, beq_iff_eq]; omega
  have e5 : (kind == 5) = false := by rw [Bool.eq_false_iff, ne_eq, beq_iff_eq]; omega
  have e6 : (kind == 6) = false := by rw [Bool.eq_false_iff, ne_eq, beq_iff_eq]; omega
  have e7 : (kind == 7) = false := by rw [Bool.eq_false_iff, ne_eq, beq_iff_eq]; omega
  have e8 : (kind == 8) = false := by rw [Bool.eq_false_iff, ne_eq, beq_iff_eq]; omega
  have e9 : (kind == 9) = false := by rw [Bool.eq_false_iff, ne_eq, beq_iff_eq]; omega
  have e10 : (kind == 10) = false := by rw [Bool.eq_false_iff, ne_eq, beq_iff_eq]; omega
  have e11 : (kind == 11) = false := by rw [Bool.eq_false_iff, ne_eq, beq_iff_eq]; omega
  have HF := Hid.mk (act_same h (below_box w (.cells (opC kind x a n c pa pn pc) 30)))
  clear h hk
  go_enter Try.func16, Try.ntmps16
  go_wp2
  go_end0
  exact ⟨rfl, HF.out⟩

theorem act_any (h : DiskAt w F p s S) (hbig : S.puts.length + 1 ≤ 4000000000000) (kind x : Int) (a : Option Addr) (n c : Nat) (pa : Option Addr) (pn pc : Nat) (l : List Int) (pl : List P3) {B : Nat} (ho : OpOk w B x a n pa pn l pl) :
    Calls Try.prog 16 #[.pointer (some ⟨p, 0, none⟩), opV kind x a n c pa pn pc] w fun e w' => e = .returned (.tuple #[]) ∧ DiskAt w' (more F w w') p s (S.act s kind x n l pl) ∧ Keeps F w w' := by
  by_cases k1 : kind = 1
  · subst k1; exact act_read h hbig x a n c pa pn pc
  by_cases k2 : kind = 2
  · subst k2; exact act_write h hbig x a n c pa pn pc l ho.s ho.n
  by_cases k3 : kind = 3
  · subst k3; exact act_flush h hbig x a n c pa pn pc
  by_cases k4 : kind = 4
  · subst k4; exact act_fuse h x ho.x a n c pa pn pc
  by_cases k6 : kind = 6
  · subst k6; exact act_crash h hbig x a n c pa pn pc pl ho.p ho.pn
  by_cases k7 : kind = 7
  · subst k7; exact act_take h x a n c pa pn pc
  have e : S.act s kind x n l pl = S := by simp only [DS.act, k1, k2, k3, k4, k6, k7, if_false]
  rw [e]
  by_cases k5 : kind = 5
  · subst k5; exact act_burnt h x a n c pa pn pc
  by_cases k8 : kind = 8
  · subst k8; exact act_life h x a n c pa pn pc
  by_cases k9 : kind = 9
  · subst k9; exact act_image h x a n c pa pn pc
  by_cases k10 : kind = 10
  · subst k10; exact act_counts h hbig x a n c pa pn pc
  by_cases k11 : kind = 11
  · subst k11; exact act_sectors h x a n c pa pn pc
  exact act_none h kind (by omega) x a n c pa pn pc

end
end Go.Proofs.Ytkkmkogpbhcpmaa
