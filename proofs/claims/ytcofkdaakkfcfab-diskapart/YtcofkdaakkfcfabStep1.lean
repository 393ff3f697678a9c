import Derived.Test.YtcofkdaakkfcfabAsked
import Derived.Deep.RegionLaw
import Derived.BigRegion
namespace Go.Proofs.Ytcofkdaakkfcfab
open Go.RowKit Go.Maps

/-- Inside a step: both disks, and the step's own copy of the operation. U: the blocks that the two had. -/
structure Mid (w0 w : World) (B q : Nat) (U F G : Nat → Prop) (p r s : Nat) (S T : DS) (C : Array Value) : Prop where
  two : Two w B F G p r s S T
  box : w.heap[q]? = some (.cells C 32 (0, 0))
  qF : ¬ F q
  qG : ¬ G q
  bel : Below B w0 w
  kp : Keeps U w0 w
  fU : ∀ k, F k → U k ∨ w0.heap.size ≤ k
  gU : ∀ k, G k → U k ∨ w0.heap.size ≤ k

theorem Mid.lt {w0 w : World} {B q : Nat} {U F G : Nat → Prop} {p r s : Nat} {S T : DS} {C : Array Value} (h : Mid w0 w B q U F G p r s S T C) : q < w.heap.size := (Array.getElem?_eq_some_iff.1 h.box).1
theorem Mid.start {w : World} {B : Nat} {F G : Nat → Prop} {p r s : Nat} {S T : DS} (h : Two w B F G p r s S T) (C : Array Value) : Mid w (w.alloc (.cells C 32)) B w.heap.size (fun k => F k ∨ G k) F G p r s S T C :=
  ⟨h.later (below_box _ _), heap_alloc_new _ _, fun hf => by have := h.d.lt _ hf; omega, fun hf => by have := h.e.lt _ hf; omega, (below_box w _).mono h.lo, Keeps.of_below _ (below_box w _), fun _ hk => .inl (.inl hk), fun _ hk => .inl (.inr hk)⟩
theorem Mid.left {w0 w w' : World} {B q : Nat} {U F G : Nat → Prop} {p r s : Nat} {S S' T : DS} {C : Array Value} (h : Mid w0 w B q U F G p r s S T C) (hd : DiskAt w' (more F w w') p s S') (hk : Keeps F w w') : Mid w0 w' B q U (more F w w') G p r s S' T C :=
  ⟨h.two.left hd hk, (hk.block q h.lt h.qF).trans h.box, fun hf => by rcases hf with h1 | h1; exact h.qF h1; have := h.lt; omega, h.qG, h.bel.trans (h.two.leftBelow hk), h.kp.trans hk h.fU, fun k hf => by rcases hf with h1 | h1; exact h.fU k h1; have := h.kp.size; exact .inr (by omega), h.gU⟩
theorem Mid.right {w0 w w' : World} {B q : Nat} {U F G : Nat → Prop} {p r s : Nat} {S T T' : DS} {C : Array Value} (h : Mid w0 w B q U F G p r s S T C) (hd : RefAt w' (more G w w') r s T') (hk : Keeps G w w') : Mid w0 w' B q U F (more G w w') p r s S T' C :=
  ⟨h.two.right hd hk, (hk.block q h.lt h.qG).trans h.box, h.qF, fun hf => by rcases hf with h1 | h1; exact h.qG h1; have := h.lt; omega, h.bel.trans (h.two.rightBelow hk), h.kp.trans hk h.gU, h.fU, fun k hf => by rcases hf with h1 | h1; exact h.gU k h1; have := h.kp.size; exact .inr (by omega)⟩
theorem Mid.later {w0 w w' : World} {B q : Nat} {U F G : Nat → Prop} {p r s : Nat} {S T : DS} {C : Array Value} (h : Mid w0 w B q U F G p r s S T C) (hb : Below w.heap.size w w') : Mid w0 w' B q U F G p r s S T C :=
  ⟨h.two.later hb, (hb.block q h.lt).trans h.box, h.qF, h.qG, h.bel.trans (hb.mono h.two.lo), h.kp.trans (Keeps.of_below (fun _ => False) hb) (fun _ h => h.elim), h.fU, h.gU⟩

/-- What a step leaves. -/
def StepOut (w w' : World) (B p r s N : Nat) (U : Nat → Prop) : Prop := ∃ F G S, Two w' B F G p r s S S ∧ Below B w w' ∧ S.puts.length ≤ N ∧ Keeps U w w' ∧ (∀ k, F k → U k ∨ w.heap.size ≤ k) ∧ ∀ k, G k → U k ∨ w.heap.size ≤ k

theorem Mid.out {w0 w : World} {B q : Nat} {U F G : Nat → Prop} {p r s : Nat} {S : DS} {C : Array Value} (h : Mid w0 w B q U F G p r s S S C) {N : Nat} (hn : S.puts.length ≤ N) : StepOut w0 w B p r s N U := ⟨F, G, S, h.two, h.bel, hn, h.kp, h.fU, h.gU⟩

theorem wr_puts (S : DS) (s : Nat) (x : Int) (n : Nat) (l : List Int) : (S.wr s x n l).2.puts.length ≤ S.puts.length + 1 := by
  unfold DS.wr
  split
  · simp
  · split
    · simp [DS.refuse]
    · split
      · simp [DS.refuse]
      · simp [DS.put, DS.wrote, DS.spend]
theorem rd_puts (S : DS) (s : Nat) (x : Int) : (S.rd s x).2.1.puts.length ≤ S.puts.length + 1 := by
  unfold DS.rd
  split
  · simp
  · split
    · simp [DS.refuse]
    · simp [DS.read]
theorem fl_puts (S : DS) (s : Nat) : (S.fl s).2.puts.length ≤ S.puts.length + 1 := by
  unfold DS.fl
  split
  · simp
  · simp [DS.flush, DS.spend]
theorem lay_puts (S : DS) (x : Int) : (S.lay x).puts.length ≤ S.puts.length + 1 := by
  unfold DS.lay
  split <;> simp

section
variable {w : World} {B : Nat} {F G : Nat → Prop} {p r s : Nat} {S : DS}

set_option maxHeartbeats 2000000 in
theorem step_read (h : Two w B F G p r s S S) (hbig : S.puts.length + 1 ≤ 4000000000000) (x : Int) (a : Option Addr) (n c : Nat) (pa : Option Addr) (pn pc : Nat) :
    Calls Try.prog 24 #[.pointer (some ⟨p, 0, none⟩), .pointer (some ⟨r, 0, none⟩), opV 1 x a n c pa pn pc] w fun e w' => e = .returned (.bool true) ∧ StepOut w w' B p r s (S.puts.length + 1) (fun k => F k ∨ G k) := by
  obtain ⟨w0, hw0⟩ : ∃ w0, w0 = w.alloc (.cells (opC 1 x a n c pa pn pc) 32) := ⟨_, rfl⟩
  have M0 : Mid w w0 B w.heap.size (fun k => F k ∨ G k) F G p r s S S (opC 1 x a n c pa pn pc) := hw0 ▸ Mid.start h _
  have hd := read_all M0.two.d x hbig
  have hrl := rd_len M0.two.d.ok x
  have M := Hid.mk M0
  clear h M0
  go_enter Try.func24, Try.ntmps24
  go_wp2_with fail
  rw [← hw0]
  clear hw0
  refine hd.mono ?_
  rintro e w1 ⟨v, rfl, ho, hd1, hk1⟩
  have M1 := M.out.left hd1.more hk1
  have hr := rread_all M1.two.e x hbig
  have c1 := cell_of_block M1.box (j := 1) rfl
  obtain ⟨a1, ca, rfl, hs1, hl1⟩ := ho
  have Ho : Hid (Out w0.heap.size w1 (S.rd s x).2.2 (.slice a1 (S.rd s x).2.2.length ca)) := ⟨a1, ca, rfl, hs1, hl1⟩
  have HM1 := Hid.mk M1
  clear hd hd1 hk1 hs1 hl1 M1
  generalize hcode : (S.rd s x).1 = code at *
  generalize hlen : (S.rd s x).2.2.length = ln at *
  go_wp2_with fail
  refine hr.mono ?_
  rintro e w2 ⟨v, rfl, ho2, hd2, hk2⟩
  have M2 := HM1.out.right hd2.more hk2
  have Ho2 := Ho.out.keeps hk2 (fun k hk => M.out.two.e.lt k hk)
  have hsa := same_out Ho2 ho2 (by omega)
  have hee : (code == code) = true := by simp
  have Hfin := Hid.mk (fun w3 (hb : Below w2.heap.size w2 w3) => (M2.later hb).out (rd_puts S s x))
  clear hr c1 Ho Ho2 HM1 hd2 hk2 M2 M
  obtain ⟨a2, ca2, rfl, hs2, hl2⟩ := ho2
  rw [hlen] at hsa
  clear hs2 hl2
  rw [hlen]
  go_wp2_with fail
  refine hsa.mono ?_
  rintro e w3 ⟨rfl, hb3⟩
  have hfin := Hfin.out w3 hb3
  have HF := Hid.mk hfin
  clear hsa hb3 hfin Hfin
  go_wp2
  go_ret
  exact ⟨rfl, HF.out⟩

set_option maxHeartbeats 2000000 in
theorem step_flush (h : Two w B F G p r s S S) (hbig : S.puts.length + 1 ≤ 4000000000000) (x : Int) (a : Option Addr) (n c : Nat) (pa : Option Addr) (pn pc : Nat) :
    Calls Try.prog 24 #[.pointer (some ⟨p, 0, none⟩), .pointer (some ⟨r, 0, none⟩), opV 3 x a n c pa pn pc] w fun e w' => e = .returned (.bool true) ∧ StepOut w w' B p r s (S.puts.length + 1) (fun k => F k ∨ G k) := by
  obtain ⟨w0, hw0⟩ : ∃ w0, w0 = w.alloc (.cells (opC 3 x a n c pa pn pc) 32) := ⟨_, rfl⟩
  have M0 : Mid w w0 B w.heap.size (fun k => F k ∨ G k) F G p r s S S (opC 3 x a n c pa pn pc) := hw0 ▸ Mid.start h _
  have hd := flush_all M0.two.d hbig
  have M := Hid.mk M0
  clear h M0
  go_enter Try.func24, Try.ntmps24
  go_wp2_with fail
  rw [← hw0]
  clear hw0
  refine hd.mono ?_
  rintro e w1 ⟨rfl, hd1, hk1⟩
  have M1 := M.out.left hd1.more hk1
  have hr := rflush_all M1.two.e hbig
  have HM1 := Hid.mk M1
  clear hd hd1 hk1 M1 M
  generalize hcode : (S.fl s).1 = code at *
  go_wp2_with fail
  refine hr.mono ?_
  rintro e w2 ⟨rfl, hd2, hk2⟩
  have M2 := HM1.out.right hd2.more hk2
  have hee : (code == code) = true := by simp
  have HF := Hid.mk (M2.out (fl_puts S s))
  clear hr HM1 hd2 hk2 M2
  go_wp2
  go_ret
  exact ⟨rfl, HF.out⟩

set_option maxHeartbeats 2000000 in
theorem step_fuse (h : Two w B F G p r s S S) (x : Int) (hx : x ≤ 9223372036854775807) (a : Option Addr) (n c : Nat) (pa : Option Addr) (pn pc : Nat) :
    Calls Try.prog 24 #[.pointer (some ⟨p, 0, none⟩), .pointer (some ⟨r, 0, none⟩), opV 4 x a n c pa pn pc] w fun e w' => e = .returned (.bool true) ∧ StepOut w w' B p r s (S.puts.length + 1) (fun k => F k ∨ G k) := by
  obtain ⟨w0, hw0⟩ : ∃ w0, w0 = w.alloc (.cells (opC 4 x a n c pa pn pc) 32) := ⟨_, rfl⟩
  have M0 : Mid w w0 B w.heap.size (fun k => F k ∨ G k) F G p r s S S (opC 4 x a n c pa pn pc) := hw0 ▸ Mid.start h _
  have hd := fuse_at M0.two.d x hx
  have M := Hid.mk M0
  clear h M0
  go_enter Try.func24, Try.ntmps24
  go_wp2_with fail
  rw [← hw0]
  clear hw0
  refine hd.mono ?_
  rintro e w1 ⟨rfl, hd1, hk1⟩
  have M1 := M.out.left hd1.more hk1
  have hr := rfuse_at M1.two.e x hx
  have c1 := cell_of_block M1.box (j := 1) rfl
  have HM1 := Hid.mk M1
  clear hd hd1 hk1 M1 M
  go_wp2_with fail
  refine hr.mono ?_
  rintro e w2 ⟨rfl, hd2, hk2⟩
  have M2 := HM1.out.right hd2.more hk2
  have HF := Hid.mk (M2.out (lay_puts S x))
  clear hr HM1 hd2 hk2 M2
  go_wp2
  go_ret
  exact ⟨rfl, HF.out⟩

set_option maxHeartbeats 2000000 in
theorem step_take (h : Two w B F G p r s S S) (x : Int) (a : Option Addr) (n c : Nat) (pa : Option Addr) (pn pc : Nat) :
    Calls Try.prog 24 #[.pointer (some ⟨p, 0, none⟩), .pointer (some ⟨r, 0, none⟩), opV 7 x a n c pa pn pc] w fun e w' => e = .returned (.bool true) ∧ StepOut w w' B p r s (S.puts.length + 1) (fun k => F k ∨ G k) := by
  obtain ⟨w0, hw0⟩ : ∃ w0, w0 = w.alloc (.cells (opC 7 x a n c pa pn pc) 32) := ⟨_, rfl⟩
  have M0 : Mid w w0 B w.heap.size (fun k => F k ∨ G k) F G p r s S S (opC 7 x a n c pa pn pc) := hw0 ▸ Mid.start h _
  have hd := take_at M0.two.d
  have M := Hid.mk M0
  clear h M0
  go_enter Try.func24, Try.ntmps24
  go_wp2_with fail
  rw [← hw0]
  clear hw0
  refine hd.mono ?_
  rintro e w1 ⟨rfl, hd1, hk1⟩
  have M1 := M.out.left hd1.more hk1
  have hr := rtake_at M1.two.e
  have HM1 := Hid.mk M1
  clear hd hd1 hk1 M1 M
  generalize hcode : wrap64 (S.life + 1) = code at *
  go_wp2_with fail
  refine hr.mono ?_
  rintro e w2 ⟨rfl, hd2, hk2⟩
  have M2 := HM1.out.right hd2.more hk2
  have hee : (code == code) = true := by simp
  have HF := Hid.mk (M2.out (N := S.puts.length + 1) (by simp [DS.take]))
  clear hr HM1 hd2 hk2 M2
  go_wp2
  go_ret
  exact ⟨rfl, HF.out⟩

set_option maxHeartbeats 2000000 in
theorem step_crash (h : Two w B F G p r s S S) (hbig : S.puts.length + 1 ≤ 4000000000000) (x : Int) (a : Option Addr) (n c : Nat) (pa : Option Addr) (pn pc : Nat) (pl : List P3) (hp : PSrc w pa pn pl) (hpB : ∀ x, pa = some x → 0 < pn → x.block < B) (hpn : 24 * pn ≤ 140737488355328) :
    Calls Try.prog 24 #[.pointer (some ⟨p, 0, none⟩), .pointer (some ⟨r, 0, none⟩), opV 6 x a n c pa pn pc] w fun e w' => e = .returned (.bool true) ∧ StepOut w w' B p r s (S.puts.length + 1) (fun k => F k ∨ G k) := by
  obtain ⟨w0, hw0⟩ : ∃ w0, w0 = w.alloc (.cells (opC 6 x a n c pa pn pc) 32) := ⟨_, rfl⟩
  have M0 : Mid w w0 B w.heap.size (fun k => F k ∨ G k) F G p r s S S (opC 6 x a n c pa pn pc) := hw0 ▸ Mid.start h _
  have htw := twinp_any pa pn pc pl w0 hpn (hp.far M0.bel hpB)
  have M := Hid.mk M0
  have Hp := Hid.mk hp
  clear h M0 hp
  go_enter Try.func24, Try.ntmps24
  go_wp2_with fail
  rw [← hw0]
  clear hw0
  refine htw.mono ?_
  rintro e w1 ⟨g, rfl, hg, hps, hb1⟩
  have M1 := M.out.later hb1
  have hd := crash_ok sorts sortn M1.two.d (by omega) (some ⟨g, 0, none⟩) pn pn pl hps (by omega) (fun x hx hf => by cases hx; have h9 : g < w0.heap.size := M.out.two.d.lt _ hf; omega)
  have HM1 := Hid.mk M1
  clear htw hps hb1 M1 M hg
  go_wp2_with fail
  refine hd.mono ?_
  rintro e w2 ⟨rfl, hd1, hk1⟩
  have M2 := HM1.out.left hd1.more hk1
  have hr := rcrash_all M2.two.e hbig pa pn pc pl (Hp.out.far M2.bel hpB) (by omega)
  have c3 := cell_of_block M2.box (j := 3) rfl
  have HM2 := Hid.mk M2
  clear hd hd1 hk1 M2 HM1
  go_wp2_with fail
  refine hr.mono ?_
  rintro e w3 ⟨rfl, hd2, hk2⟩
  have M3 := HM2.out.right hd2 hk2
  have HF := Hid.mk (M3.out (N := S.puts.length + 1) (by simp [DS.crash]))
  clear hr HM2 hd2 hk2 M3
  go_wp2
  go_ret
  exact ⟨rfl, HF.out⟩

end
end Go.Proofs.Ytcofkdaakkfcfab
