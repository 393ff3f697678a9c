import Derived.Test.YtcofkdaakkfcfabStep1
namespace Go.Proofs.Ytcofkdaakkfcfab
open Go.RowKit Go.Maps

/-- What Twin gives, of any length. -/
def TwN (w : World) (n : Nat) (l : List Int) (v : Value) (w' : World) : Prop := ∃ g, v = .slice (some ⟨g, 0, none⟩) n n ∧ w.heap.size ≤ g ∧ RowAt w' 5 g n (bs l) ∧ Below w.heap.size w w'

section
variable {w : World} {B : Nat} {F G : Nat → Prop} {p r s : Nat} {S : DS}

set_option maxHeartbeats 4000000 in
set_option maxRecDepth 100000 in
theorem step_write (h : Two w B F G p r s S S) (hbig : S.puts.length + 1 ≤ 4000000000000) (x : Int) (a : Option Addr) (n c : Nat) (l : List Int) (hs : Src w a n l) (hsB : ∀ x, a = some x → 0 < n → x.block < B) (hn : n ≤ 140737488355328) (pa : Option Addr) (pn pc : Nat) :
    Calls Try.prog 24 #[.pointer (some ⟨p, 0, none⟩), .pointer (some ⟨r, 0, none⟩), opV 2 x a n c pa pn pc] w fun e w' => e = .returned (.bool true) ∧ StepOut w w' B p r s (S.puts.length + 1) (fun k => F k ∨ G k) := by
  obtain ⟨w0, hw0⟩ : ∃ w0, w0 = w.alloc (.cells (opC 2 x a n c pa pn pc) 32) := ⟨_, rfl⟩
  have M0 : Mid w w0 B w.heap.size (fun k => F k ∨ G k) F G p r s S S (opC 2 x a n c pa pn pc) := hw0 ▸ Mid.start h _
  have htw : Calls Try.prog 13 #[.slice a n c] w0.drew fun e w' => ∃ v, e = .returned v ∧ TwN w0 n l v w' :=
    (twin_any a n c l w0.drew hn (show Src w0 a n l from hs.far M0.bel hsB)).mono (by rintro e w' ⟨g, rfl, h1, h2, h3⟩; exact ⟨_, rfl, g, rfl, h1, h2, ⟨h3.os, h3.tape, h3.output, h3.size, h3.block⟩⟩)
  have c1 := cell_of_block M0.box (j := 1) rfl
  have c2 := cell_of_block M0.box (j := 2) rfl
  have hl := hs.1
  have M := Hid.mk M0
  have Hs := Hid.mk hs
  have Htw := Hid.mk htw
  clear h M0 hs htw
  go_enter Try.func24, Try.ntmps24
  go_wp2_with fail
  rw [← hw0]
  clear hw0
  generalize w.heap.size = q at *
  go_region_law
    (first
      | (refine step_call (by rfl) 13 #[.slice a n c] (by simp [go_sem]) (TwN w0 n l) Htw.out ?_; rintro _ w1 ⟨g, rfl, hg, hr, hb1⟩; have M1 := M.out.later hb1; have k1 := cell_of_block M1.box (j := 1) rfl)
      | (refine step_call (by rfl) 12 #[.pointer (some ⟨p, 0, none⟩), .int .i64 x, .slice (some ⟨g, 0, none⟩) n n] (by simp [go_sem]) (fun v w' => v = .int .i64 (S.wr s x n l).1 ∧ DiskAt w' (more F w1 w') p s (S.wr s x n l).2 ∧ Keeps F w1 w') ((write_all M1.two.d x (some ⟨g, 0, none⟩) n n l (hl ▸ hr.src) hbig).mono (by rintro e w' ⟨rfl, h1, h2⟩; exact ⟨_, rfl, rfl, h1, h2⟩)) ?_; rintro _ w2 ⟨rfl, hd2, hk2⟩; have M2 := M1.left hd2 hk2))
  all_goals
    have hr2 := rwrite_all M2.two.e x a n c l (Hs.out.far M2.bel hsB) hbig
    have e1 := cell_of_block M2.box (j := 1) rfl
    have e2 := cell_of_block M2.box (j := 2) rfl
    have HM2 := Hid.mk M2
    clear hd2 hk2 M2 M1 hr hb1 k1 hg M Htw c1 c2 Hs
    generalize hcode : (S.wr s x n l).1 = code at *
    go_wp2_with fail
    refine hr2.mono ?_
    rintro e w3 ⟨rfl, hd3, hk3⟩
    have HF := Hid.mk ((HM2.out.right hd3 hk3).out (wr_puts S s x n l))
    have hee : (code == code) = true := by simp
    clear hr2 hd3 hk3 HM2 e1 e2
    go_wp2
    go_ret
    exact ⟨rfl, HF.out⟩

set_option maxHeartbeats 2000000 in
theorem step_ask (h : Two w B F G p r s S S) (hbig : S.puts.length + 1 ≤ 4000000000000) (kind : Int) (h1 : kind ≠ 1) (h2 : kind ≠ 2) (h3 : kind ≠ 3) (h4 : kind ≠ 4) (h6 : kind ≠ 6) (h7 : kind ≠ 7) (x : Int) (a : Option Addr) (n c : Nat) (pa : Option Addr) (pn pc : Nat) :
    Calls Try.prog 24 #[.pointer (some ⟨p, 0, none⟩), .pointer (some ⟨r, 0, none⟩), opV kind x a n c pa pn pc] w fun e w' => e = .returned (.bool true) ∧ StepOut w w' B p r s (S.puts.length + 1) (fun k => F k ∨ G k) := by
  obtain ⟨w0, hw0⟩ : ∃ w0, w0 = w.alloc (.cells (opC kind x a n c pa pn pc) 32) := ⟨_, rfl⟩
  have M0 : Mid w w0 B w.heap.size (fun k => F k ∨ G k) F G p r s S S (opC kind x a n c pa pn pc) := hw0 ▸ Mid.start h _
  have ha : Calls Try.prog 52 #[.pointer (some ⟨p, 0, none⟩), .pointer (some ⟨r, 0, none⟩), opV kind x a n c pa pn pc] w0 fun e w' => e = .returned (.bool true) ∧ Below w0.heap.size w0 w' := by
    by_cases k5 : kind = 5
    · subst k5; exact asked_burnt M0.two x a n c pa pn pc
    by_cases k8 : kind = 8
    · subst k8; exact asked_life M0.two x a n c pa pn pc
    by_cases k9 : kind = 9
    · subst k9; exact asked_image M0.two x a n c pa pn pc
    by_cases k10 : kind = 10
    · subst k10; exact asked_counts M0.two hbig x a n c pa pn pc
    by_cases k11 : kind = 11
    · subst k11; exact asked_sectors M0.two x a n c pa pn pc
    exact asked_none kind k5 k8 k9 k10 k11 x a n c pa pn pc
  have e1 : (kind == 1) = false := by simp [h1]
  have e2 : (kind == 2) = false := by simp [h2]
  have e3 : (kind == 3) = false := by simp [h3]
  have e4 : (kind == 4) = false := by simp [h4]
  have e6 : (kind == 6) = false := by simp [h6]
  have e7 : (kind == 7) = false := by simp [h7]
  have M := Hid.mk M0
  clear h M0 h1 h2 h3 h4 h6 h7
  go_enter Try.func24, Try.ntmps24
  go_wp2_with fail
  rw [← hw0]
  clear hw0
  refine ha.mono ?_
  rintro e w1 ⟨rfl, hb1⟩
  have HF := Hid.mk ((M.out.later hb1).out (Nat.le_succ S.puts.length))
  clear M ha hb1
  go_wp2
  go_ret
  exact ⟨rfl, HF.out⟩

/-- What is told of an operation of the script: the lists that it holds lie below B. -/
structure OpOk (w : World) (B : Nat) (x : Int) (a : Option Addr) (n : Nat) (pa : Option Addr) (pn : Nat) (l : List Int) (pl : List P3) : Prop where
  x : x ≤ 9223372036854775807
  s : Src w a n l
  sB : ∀ x, a = some x → 0 < n → x.block < B
  n : n ≤ 140737488355328
  p : PSrc w pa pn pl
  pB : ∀ x, pa = some x → 0 < pn → x.block < B
  pn : 24 * pn ≤ 140737488355328

theorem OpOk.far {w w' : World} {B : Nat} {x : Int} {a : Option Addr} {n : Nat} {pa : Option Addr} {pn : Nat} {l : List Int} {pl : List P3} (h : OpOk w B x a n pa pn l pl) (hb : Below B w w') : OpOk w' B x a n pa pn l pl :=
  ⟨h.x, h.s.far hb h.sB, h.sB, h.n, h.p.far hb h.pB, h.pB, h.pn⟩

theorem step_any (h : Two w B F G p r s S S) (hbig : S.puts.length + 1 ≤ 4000000000000) (kind x : Int) (a : Option Addr) (n c : Nat) (pa : Option Addr) (pn pc : Nat) (l : List Int) (pl : List P3) (ho : OpOk w B x a n pa pn l pl) :
    Calls Try.prog 24 #[.pointer (some ⟨p, 0, none⟩), .pointer (some ⟨r, 0, none⟩), opV kind x a n c pa pn pc] w fun e w' => e = .returned (.bool true) ∧ StepOut w w' B p r s (S.puts.length + 1) (fun k => F k ∨ G k) := by
  by_cases k1 : kind = 1
  · subst k1; exact step_read h hbig x a n c pa pn pc
  by_cases k2 : kind = 2
  · subst k2; exact step_write h hbig x a n c l ho.s ho.sB ho.n pa pn pc
  by_cases k3 : kind = 3
  · subst k3; exact step_flush h hbig x a n c pa pn pc
  by_cases k4 : kind = 4
  · subst k4; exact step_fuse h x ho.x a n c pa pn pc
  by_cases k6 : kind = 6
  · subst k6; exact step_crash h hbig x a n c pa pn pc pl ho.p ho.pB ho.pn
  by_cases k7 : kind = 7
  · subst k7; exact step_take h x a n c pa pn pc
  exact step_ask h hbig kind k1 k2 k3 k4 k6 k7 x a n c pa pn pc

end
end Go.Proofs.Ytcofkdaakkfcfab
