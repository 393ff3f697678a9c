import Derived.Test.YtcofkdaakkfcfabPair
namespace Go.Proofs.Ytcofkdaakkfcfab
open Go.RowKit Go.Maps

abbrev opV (kind x : Int) (a : Option Addr) (n c : Nat) (pa : Option Addr) (pn pc : Nat) : Value := .agg #[.int .i64 kind, .int .i64 x, .slice a n c, .slice pa pn pc]
abbrev opC (kind x : Int) (a : Option Addr) (n c : Nat) (pa : Option Addr) (pn pc : Nat) : Array Value := #[.int .i64 kind, .int .i64 x, .slice a n c, .slice pa pn pc]

theorem below_box (w : World) (o : Obj) : Below w.heap.size w (w.alloc o) := (Below.refl _ _).alloc (Nat.le_refl _) _

section
variable {w : World} {B : Nat} {F G : Nat → Prop} {p r s : Nat} {S : DS}

set_option maxHeartbeats 2000000 in
theorem asked_burnt (h : Two w B F G p r s S S) (x : Int) (a : Option Addr) (n c : Nat) (pa : Option Addr) (pn pc : Nat) :
    Calls Try.prog 52 #[.pointer (some ⟨p, 0, none⟩), .pointer (some ⟨r, 0, none⟩), opV 5 x a n c pa pn pc] w fun e w' => e = .returned (.bool true) ∧ Below w.heap.size w w' := by
  obtain ⟨w0, hw0⟩ : ∃ w0, w0 = w.alloc (.cells (opC 5 x a n c pa pn pc) 32) := ⟨_, rfl⟩
  have hb0 : Below w.heap.size w w0 := hw0 ▸ below_box _ _
  have h0 := h.later hb0
  have hb := burnt_at h0.d
  have hr := rburnt_at h0.e
  have hee : ((S.fuse == 0) == (S.fuse == 0)) = true := by simp
  clear h h0
  go_enter Try.func52, Try.ntmps52
  go_wp2_with fail
  rw [← hw0]
  clear hw0
  refine hb.mono ?_
  rintro e w1 ⟨rfl, hw⟩
  have hw' := hw.symm
  subst hw'
  generalize (S.fuse == 0) = fz at *
  go_wp2_with fail
  refine hr.mono ?_
  rintro e w1 ⟨rfl, hw⟩
  have hw' := hw.symm
  subst hw'
  clear hb hr
  go_wp2
  go_ret
  exact ⟨by simp, hb0⟩

set_option maxHeartbeats 2000000 in
theorem asked_life (h : Two w B F G p r s S S) (x : Int) (a : Option Addr) (n c : Nat) (pa : Option Addr) (pn pc : Nat) :
    Calls Try.prog 52 #[.pointer (some ⟨p, 0, none⟩), .pointer (some ⟨r, 0, none⟩), opV 8 x a n c pa pn pc] w fun e w' => e = .returned (.bool true) ∧ Below w.heap.size w w' := by
  obtain ⟨w0, hw0⟩ : ∃ w0, w0 = w.alloc (.cells (opC 8 x a n c pa pn pc) 32) := ⟨_, rfl⟩
  have hb0 : Below w.heap.size w w0 := hw0 ▸ below_box _ _
  have h0 := h.later hb0
  have hb := life_at h0.d
  have hr := rlife_at h0.e
  clear h h0
  go_enter Try.func52, Try.ntmps52
  go_wp2_with fail
  rw [← hw0]
  clear hw0
  refine hb.mono ?_
  rintro e w1 ⟨rfl, hw⟩
  have hw' := hw.symm
  subst hw'
  have hee : (S.life == S.life) = true := by simp
  go_wp2_with fail
  refine hr.mono ?_
  rintro e w1 ⟨rfl, hw⟩
  have hw' := hw.symm
  subst hw'
  clear hb hr
  go_wp2
  go_ret
  exact ⟨by first | rfl | simp, hb0⟩

set_option maxHeartbeats 2000000 in
theorem asked_sectors (h : Two w B F G p r s S S) (x : Int) (a : Option Addr) (n c : Nat) (pa : Option Addr) (pn pc : Nat) :
    Calls Try.prog 52 #[.pointer (some ⟨p, 0, none⟩), .pointer (some ⟨r, 0, none⟩), opV 11 x a n c pa pn pc] w fun e w' => e = .returned (.bool true) ∧ Below w.heap.size w w' := by
  obtain ⟨w0, hw0⟩ : ∃ w0, w0 = w.alloc (.cells (opC 11 x a n c pa pn pc) 32) := ⟨_, rfl⟩
  have hb0 : Below w.heap.size w w0 := hw0 ▸ below_box _ _
  have h0 := h.later hb0
  have hb := sectors_at h0.d
  have hr := rsectors_at h0.e
  clear h h0
  go_enter Try.func52, Try.ntmps52
  go_wp2_with fail
  rw [← hw0]
  clear hw0
  refine hb.mono ?_
  rintro e w1 ⟨rfl, hw⟩
  have hw' := hw.symm
  subst hw'
  have hee : ((s : Int) == (s : Int)) = true := by simp
  go_wp2_with fail
  refine hr.mono ?_
  rintro e w1 ⟨rfl, hw⟩
  have hw' := hw.symm
  subst hw'
  clear hb hr
  go_wp2
  go_ret
  exact ⟨by first | rfl | simp, hb0⟩

set_option maxHeartbeats 2000000 in
theorem asked_image (h : Two w B F G p r s S S) (x : Int) (a : Option Addr) (n c : Nat) (pa : Option Addr) (pn pc : Nat) :
    Calls Try.prog 52 #[.pointer (some ⟨p, 0, none⟩), .pointer (some ⟨r, 0, none⟩), opV 9 x a n c pa pn pc] w fun e w' => e = .returned (.bool true) ∧ Below w.heap.size w w' := by
  obtain ⟨w0, hw0⟩ : ∃ w0, w0 = w.alloc (.cells (opC 9 x a n c pa pn pc) 32) := ⟨_, rfl⟩
  have hb0 : Below w.heap.size w w0 := hw0 ▸ below_box _ _
  have h0 := h.later hb0
  have hb := image_any _ _ _ _ _ h0.d
  have hlen := h0.d.ok.len
  have hhi := h0.d.ok.hi
  have H0 := Hid.mk h0
  clear h h0
  go_enter Try.func52, Try.ntmps52
  go_wp2_with fail
  rw [← hw0]
  clear hw0
  refine hb.mono ?_
  rintro e w1 ⟨g1, c1, rfl, hg1, hr1, hb1⟩
  have h1 := H0.out.later hb1
  have hr := rimage_any h1.e
  have Hr1 := Hid.mk hr1
  have hbw1 : Below w.heap.size w w1 := hb0.trans (hb1.mono hb0.size)
  clear H0 h1 hb hr1 hb1 hb0
  go_wp2_with fail
  refine hr.mono ?_
  rintro e w2 ⟨g2, c2, rfl, hg2, hr2, hb2⟩
  have hbw2 : Below w.heap.size w w2 := hbw1.trans (hb2.mono hbw1.size)
  have hs1 := Hr1.out.src.later hb2
  have hs2 := hr2.src
  rw [hlen] at hs1 hs2
  have hsa := same_any (some ⟨g1, 0, none⟩) (some ⟨g2, 0, none⟩) (s * 512) c1 c2 S.im w2 (by omega) hs1 hs2
  clear hs1 hs2 hr2 Hr1 hb2 hbw1 hr
  go_wp2_with fail
  refine hsa.mono ?_
  rintro e w3 ⟨rfl, hb3⟩
  have hbw3 : Below w.heap.size w w3 := hbw2.trans (hb3.mono hbw2.size)
  clear hsa hb3 hbw2
  go_wp2
  go_ret
  exact ⟨rfl, hbw3⟩

theorem asked_none (kind : Int) (h1 : kind ≠ 5) (h2 : kind ≠ 8) (h3 : kind ≠ 9) (h4 : kind ≠ 10) (h5 : kind ≠ 11) (x : Int) (a : Option Addr) (n c : Nat) (pa : Option Addr) (pn pc : Nat) :
    Calls Try.prog 52 #[.pointer (some ⟨p, 0, none⟩), .pointer (some ⟨r, 0, none⟩), opV kind x a n c pa pn pc] w fun e w' => e = .returned (.bool true) ∧ Below w.heap.size w w' := by
  have e1 : (kind == 5) = false := by simp [h1]
  have e2 : (kind == 8) = false := by simp [h2]
  have e3 : (kind == 9) = false := by simp [h3]
  have e4 : (kind == 10) = false := by simp [h4]
  have e5 : (kind == 11) = false := by simp [h5]
  clear h1 h2 h3 h4 h5
  have hb0 := below_box w (.cells (opC kind x a n c pa pn pc) 32)
  go_enter Try.func52, Try.ntmps52
  go_wp2
  go_ret
  exact ⟨rfl, hb0⟩

set_option maxHeartbeats 4000000 in
theorem asked_counts (h : Two w B F G p r s S S) (hbig : S.puts.length + 1 ≤ 4000000000000) (x : Int) (a : Option Addr) (n c : Nat) (pa : Option Addr) (pn pc : Nat) :
    Calls Try.prog 52 #[.pointer (some ⟨p, 0, none⟩), .pointer (some ⟨r, 0, none⟩), opV 10 x a n c pa pn pc] w fun e w' => e = .returned (.bool true) ∧ Below w.heap.size w w' := by
  obtain ⟨w0, hw0⟩ : ∃ w0, w0 = w.alloc (.cells (opC 10 x a n c pa pn pc) 32) := ⟨_, rfl⟩
  have hb0 : Below w.heap.size w w0 := hw0 ▸ below_box _ _
  have h0 := h.later hb0
  have hb := counts_any _ _ _ _ _ h0.d (by omega)
  have H0 := Hid.mk h0
  clear h h0
  go_enter Try.func52, Try.ntmps52
  go_wp2_with fail
  rw [← hw0]
  clear hw0
  refine hb.mono ?_
  rintro e w1 ⟨rfl, hb1⟩
  have h1 := H0.out.later hb1
  have hbw1 : Below w.heap.size w w1 := hb0.trans (hb1.mono hb0.size)
  have H1 := Hid.mk h1
  clear H0 h1 hb hb1 hb0
  obtain ⟨w2, hw2⟩ : ∃ w2, w2 = w1.alloc (.cells (cnCells S.reads S.writes S.flushes S.refused S.puts.length) 61) := ⟨_, rfl⟩
  have hb2 : Below w1.heap.size w1 w2 := hw2 ▸ below_box _ _
  have hbx : w2.heap[w1.heap.size]? = some (.cells (cnCells S.reads S.writes S.flushes S.refused S.puts.length) 61 (0, 0)) := hw2 ▸ heap_alloc_new _ _
  have hr := rcounts_at (H1.out.later hb2).e
  have hbw2 : Below w.heap.size w w2 := hbw1.trans (hb2.mono hbw1.size)
  clear H1 hbw1
  simp only [cnCells]
  go_wp2_with fail
  rw [← hw2]
  clear hw2
  refine hr.mono ?_
  rintro e w3 ⟨rfl, hb3⟩
  have hlt := (Array.getElem?_eq_some_iff.1 hbx).1
  have hbx3 := (hb3.block _ hlt).trans hbx
  have c0 := cell_of_block hbx3 (j := 0) rfl
  have c1 := cell_of_block hbx3 (j := 1) rfl
  have c2 := cell_of_block hbx3 (j := 2) rfl
  have c3 := cell_of_block hbx3 (j := 3) rfl
  have c4 := cell_of_block hbx3 (j := 4) rfl
  have hlt3 : w1.heap.size < w3.heap.size := Nat.lt_of_lt_of_le hlt hb3.size
  have hbw3 : Below w.heap.size w w3 := hbw2.trans (hb3.mono hbw2.size)
  have hfin := Hid.mk (fun o => hbw3.alloc hbw3.size o)
  clear hr hbx hbx3 hb3 hbw2 hbw3 hb2 hlt
  simp only [cnCells]
  go_wp2
  go_ret
  exact ⟨by first | rfl | simp, hfin.out _⟩

end
end Go.Proofs.Ytcofkdaakkfcfab
