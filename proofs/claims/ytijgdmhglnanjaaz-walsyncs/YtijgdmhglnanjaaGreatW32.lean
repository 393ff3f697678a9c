import Derived.Test.YtijgdmhglnanjaaGreatW31
section
namespace Go.Proofs.YtijgdmhglnanjaaGreat
open Go.RowKit

abbrev opD (kd A B : Int) (da : Option Addr) (dn dc : Nat) (pa : Option Addr) (pn pc : Nat) : Array Value := #[.int .i64 kd, .int .i64 A, .int .i64 B, .slice da dn dc, .slice pa pn pc]
/-- What is told of an operation. -/
structure OpOk4 (w : World) (lab : Nat → Nat) (A : Int) (da : Option Addr) (dn dc : Nat) (pa : Option Addr) (pn : Nat) (d : List Int) (pl : List P3) : Prop where
  A : A ≤ 9223372036854775807
  s : Src w da dn d
  b : Bytes d
  c : dn ≤ dc
  n : dn ≤ 140737488355328
  l : ∀ y, da = some y → 0 < dn → lab y.block = 0
  p : PSrc w pa pn pl
  pq : ∀ y, pa = some y → 0 < pn → lab y.block = 0
  pn : 24 * pn ≤ 140737488355328

theorem Src.block_lt {w : World} {a : Option Addr} {n : Nat} {l : List Int} (h : Src w a n l) {y : Addr} (e : a = some y) (hp : 0 < n) : y.block < w.heap.size := by
  have h0 := h.2.2 y e 0 hp
  have hb : (y.add 0).block = y.block := by unfold Addr.add; split <;> rfl
  rw [← hb]
  exact World.block_lt_of_cell? _ _ h0

section
variable {w : World} {q p r s t : Nat} {lab : Nat → Nat} {S : DS} {v u : Value} {ps rs : List Nat} {ls : List LG} {A B : Int} {da pa : Option Addr} {dn dc pn pc : Nat} {d : List Int} {pl : List P3}

theorem Inv.big {L : LG} (h : Inv S s ls t) {i : Nat} (hi : ls[i]? = some L) : (L.dead S = false → L.begun = false → S.num L.f < (L.top + 1) * 4294967296) ∧ (L.unready S = 0 → S.num L.f ≤ L.ep * 4294967296 + L.tail) := by
  refine ⟨fun h1 h2 => ?_, fun h1 => ?_⟩
  · obtain ⟨ha, hf⟩ := dead_no h1
    exact ((h.al L (List.mem_of_getElem? hi) ha hf).2 h2).2
  · obtain ⟨h2, h3⟩ := unready_no h1
    obtain ⟨ha, hf⟩ := dead_no h2
    exact ((h.al L (List.mem_of_getElem? hi) ha hf).1 h3).2
theorem Wd.stepOut {w1 : World} {lab1 : Nat → Nat} {S1 : DS} {v1 u1 : Value} {ps1 rs1 : List Nat} {ls1 : List LG} {m : Nat} (h : Wd w1 q lab1 p r s S1 S1 v1 u1 ps1 rs1 ls1 ls1) (hi : Inv S1 s ls1 t) (hm : ls1.length ≤ m) (hk : Kept w w1 lab lab1) : StepOut w w1 q lab p r s m t := ⟨_, _, _, _, _, _, _, h, hi, hm, hk⟩

set_option maxRecDepth 20000 in
set_option maxHeartbeats 4000000 in
theorem onLog_start (h : Wd w q lab p r s S S v u ps rs ls ls) (hi : Inv S s ls t) (ho : OpOk4 w lab A da dn dc pa pn d pl) (hlen : ls.length ≤ 140737488355328) :
    Calls Tryz.prog 27 #[ptrL q, .agg (opD 3 A B da dn dc pa pn pc)] w fun e w' => e = .returned (.bool true) ∧ StepOut w w' q lab p r s (ls.length + 1) (t + 1) := by
  obtain ⟨va, vc, rfl, _⟩ := h.vform
  obtain ⟨ua, uc, rfl, _⟩ := h.uform
  have hb0 := below_box w (.cells (opD 3 A B da dn dc pa pn pc) 37)
  have h0 := h.later hb0
  have hn0 : (w.alloc (.cells (opD 3 A B da dn dc pa pn pc) 37)).heap[w.heap.size]? = some (.cells (opD 3 A B da dn dc pa pn pc) 37 (0, 0)) := heap_alloc_new _ _
  have hlz := h.lz w.heap.size (Nat.le_refl _)
  have kA := cell_of_block hn0 (j := 1) rfl
  have h1 := age_any _ q va ls.length vc h0.c2 A ho.A hlen
  have HO := Hid.mk ho
  have HI := Hid.mk hi
  clear h ho hi
  go_enter Tryz.func27, Tryz.ntmps27
  go_wp2_with fail
  refine h1.mono ?_
  rintro e w1 ⟨hag, hw1⟩
  have hw1' := hw1.symm
  clear hw1
  subst hw1'
  have HB0 := Hid.mk hb0
  have HN0 := Hid.mk hn0
  have HW0 := Hid.mk h0
  have c2 := h0.c2
  have c3 := h0.c3
  have k0 := cell_of_block hn0 (j := 0) rfl
  have k3 := cell_of_block hn0 (j := 3) rfl
  have hz0 := hb0.size
  have hsz : w.heap.size < (w.alloc (.cells (opD 3 A B da dn dc pa pn pc) 37)).heap.size := lt_there hn0
  clear h1 kA hn0 hb0 h0
  generalize w.alloc (.cells (opD 3 A B da dn dc pa pn pc) 37) = w0 at *
  rcases hag with ⟨hnil, rfl⟩ | ⟨i, hilt, rfl⟩
  · have HF : Hid (StepOut w w0 q lab p r s (ls.length + 1) (t + 1)) := HW0.out.stepOut HI.out.step (Nat.le_succ _) (Kept.later lab HB0.out)
    go_wp2
    go_ret
    exact ⟨rfl, HF.out⟩
  · obtain ⟨L, hL⟩ : ∃ L, ls[i]? = some L := ⟨ls[i], List.getElem?_eq_getElem hilt⟩
    obtain ⟨va', vc', e1, hvf⟩ := HW0.out.vform
    obtain ⟨ua', uc', e2, huf⟩ := HW0.out.uform
    cases e1
    cases e2
    obtain ⟨g, l, rfl, cg, hpl⟩ := hvf i L hL
    obtain ⟨g', k, rfl, cg', hrl⟩ := huf i L hL
    have hLok := (HI.out.at hL).1
    have hlti : (i : Int) < (ls.length : Int) := by omega
    have hge : ¬ (i : Int) < 0 := by omega
    clear hvf huf
    have h2 := wStart HW0.out hL hpl hLok HI.out.byt HI.out.p6
    go_wp2_with fail
    refine h2.mono ?_
    rintro e w2 ⟨rfl, hw2, hk2⟩
    have h3 := rwStart hw2 hL hrl hLok HI.out.byt HI.out.p6 (HI.out.big hL).1
    have HK2 := Hid.mk hk2
    have HW2 := Hid.mk hw2
    have hz2 := hk2.k.size
    clear h2 hw2 hk2
    go_wp2_with fail
    refine h3.mono ?_
    rintro e w3 ⟨rfl, hw3, hk3⟩
    have HF : Hid (StepOut w w3 q lab p r s (ls.length + 1) (t + 1)) := hw3.stepOut ((HI.out.start hL hw3.d.ok).step) (by rw [List.length_set]; omega) ((Kept.later lab HB0.out).trans (HK2.out.trans hk3))
    clear h3 hw3 hk3
    go_wp2
    go_ret
    exact ⟨by simp, HF.out⟩

set_option maxRecDepth 20000 in
set_option maxHeartbeats 4000000 in
theorem onLog_sync (h : Wd w q lab p r s S S v u ps rs ls ls) (hi : Inv S s ls t) (ho : OpOk4 w lab A da dn dc pa pn d pl) (hlen : ls.length ≤ 140737488355328) :
    Calls Tryz.prog 27 #[ptrL q, .agg (opD 5 A B da dn dc pa pn pc)] w fun e w' => e = .returned (.bool true) ∧ StepOut w w' q lab p r s (ls.length + 1) (t + 1) := by
  obtain ⟨va, vc, rfl, _⟩ := h.vform
  obtain ⟨ua, uc, rfl, _⟩ := h.uform
  have hb0 := below_box w (.cells (opD 5 A B da dn dc pa pn pc) 37)
  have h0 := h.later hb0
  have hn0 : (w.alloc (.cells (opD 5 A B da dn dc pa pn pc) 37)).heap[w.heap.size]? = some (.cells (opD 5 A B da dn dc pa pn pc) 37 (0, 0)) := heap_alloc_new _ _
  have hlz := h.lz w.heap.size (Nat.le_refl _)
  have kA := cell_of_block hn0 (j := 1) rfl
  have h1 := age_any _ q va ls.length vc h0.c2 A ho.A hlen
  have HO := Hid.mk ho
  have HI := Hid.mk hi
  clear h ho hi
  go_enter Tryz.func27, Tryz.ntmps27
  go_wp2_with fail
  refine h1.mono ?_
  rintro e w1 ⟨hag, hw1⟩
  have hw1' := hw1.symm
  clear hw1
  subst hw1'
  have HB0 := Hid.mk hb0
  have HN0 := Hid.mk hn0
  have HW0 := Hid.mk h0
  have c2 := h0.c2
  have c3 := h0.c3
  have k0 := cell_of_block hn0 (j := 0) rfl
  have k3 := cell_of_block hn0 (j := 3) rfl
  have hz0 := hb0.size
  have hsz : w.heap.size < (w.alloc (.cells (opD 5 A B da dn dc pa pn pc) 37)).heap.size := lt_there hn0
  clear h1 kA hn0 hb0 h0
  generalize w.alloc (.cells (opD 5 A B da dn dc pa pn pc) 37) = w0 at *
  rcases hag with ⟨hnil, rfl⟩ | ⟨i, hilt, rfl⟩
  · have HF : Hid (StepOut w w0 q lab p r s (ls.length + 1) (t + 1)) := HW0.out.stepOut HI.out.step (Nat.le_succ _) (Kept.later lab HB0.out)
    go_wp2
    go_ret
    exact ⟨rfl, HF.out⟩
  · obtain ⟨L, hL⟩ : ∃ L, ls[i]? = some L := ⟨ls[i], List.getElem?_eq_getElem hilt⟩
    obtain ⟨va', vc', e1, hvf⟩ := HW0.out.vform
    obtain ⟨ua', uc', e2, huf⟩ := HW0.out.uform
    cases e1
    cases e2
    obtain ⟨g, l, rfl, cg, hpl⟩ := hvf i L hL
    obtain ⟨g', k, rfl, cg', hrl⟩ := huf i L hL
    have hLok := (HI.out.at hL).1
    have hlti : (i : Int) < (ls.length : Int) := by omega
    have hge : ¬ (i : Int) < 0 := by omega
    clear hvf huf
    have h2 := wSync HW0.out hL hpl HI.out.p6
    go_wp2_with fail
    refine h2.mono ?_
    rintro e w2 ⟨rfl, hw2, hk2⟩
    have h3 := rwSync hw2 hL hrl HI.out.p6
    have HK2 := Hid.mk hk2
    have HW2 := Hid.mk hw2
    have hz2 := hk2.k.size
    clear h2 hw2 hk2
    go_wp2_with fail
    refine h3.mono ?_
    rintro e w3 ⟨rfl, hw3, hk3⟩
    have HF : Hid (StepOut w w3 q lab p r s (ls.length + 1) (t + 1)) := hw3.stepOut ((HI.out.sync hL).step) (by rw [List.length_set]; omega) ((Kept.later lab HB0.out).trans (HK2.out.trans hk3))
    clear h3 hw3 hk3
    go_wp2
    go_ret
    exact ⟨by simp, HF.out⟩

set_option maxRecDepth 20000 in
set_option maxHeartbeats 4000000 in
theorem onLog_trim (h : Wd w q lab p r s S S v u ps rs ls ls) (hi : Inv S s ls t) (ho : OpOk4 w lab A da dn dc pa pn d pl) (hlen : ls.length ≤ 140737488355328) :
    Calls Tryz.prog 27 #[ptrL q, .agg (opD 6 A B da dn dc pa pn pc)] w fun e w' => e = .returned (.bool true) ∧ StepOut w w' q lab p r s (ls.length + 1) (t + 1) := by
  obtain ⟨va, vc, rfl, _⟩ := h.vform
  obtain ⟨ua, uc, rfl, _⟩ := h.uform
  have hb0 := below_box w (.cells (opD 6 A B da dn dc pa pn pc) 37)
  have h0 := h.later hb0
  have hn0 : (w.alloc (.cells (opD 6 A B da dn dc pa pn pc) 37)).heap[w.heap.size]? = some (.cells (opD 6 A B da dn dc pa pn pc) 37 (0, 0)) := heap_alloc_new _ _
  have hlz := h.lz w.heap.size (Nat.le_refl _)
  have kA := cell_of_block hn0 (j := 1) rfl
  have h1 := age_any _ q va ls.length vc h0.c2 A ho.A hlen
  have HO := Hid.mk ho
  have HI := Hid.mk hi
  clear h ho hi
  go_enter Tryz.func27, Tryz.ntmps27
  go_wp2_with fail
  refine h1.mono ?_
  rintro e w1 ⟨hag, hw1⟩
  have hw1' := hw1.symm
  clear hw1
  subst hw1'
  have HB0 := Hid.mk hb0
  have HN0 := Hid.mk hn0
  have HW0 := Hid.mk h0
  have c2 := h0.c2
  have c3 := h0.c3
  have k0 := cell_of_block hn0 (j := 0) rfl
  have k3 := cell_of_block hn0 (j := 3) rfl
  have hz0 := hb0.size
  have hsz : w.heap.size < (w.alloc (.cells (opD 6 A B da dn dc pa pn pc) 37)).heap.size := lt_there hn0
  clear h1 kA hn0 hb0 h0
  generalize w.alloc (.cells (opD 6 A B da dn dc pa pn pc) 37) = w0 at *
  rcases hag with ⟨hnil, rfl⟩ | ⟨i, hilt, rfl⟩
  · have HF : Hid (StepOut w w0 q lab p r s (ls.length + 1) (t + 1)) := HW0.out.stepOut HI.out.step (Nat.le_succ _) (Kept.later lab HB0.out)
    go_wp2
    go_ret
    exact ⟨rfl, HF.out⟩
  · obtain ⟨L, hL⟩ : ∃ L, ls[i]? = some L := ⟨ls[i], List.getElem?_eq_getElem hilt⟩
    obtain ⟨va', vc', e1, hvf⟩ := HW0.out.vform
    obtain ⟨ua', uc', e2, huf⟩ := HW0.out.uform
    cases e1
    cases e2
    obtain ⟨g, l, rfl, cg, hpl⟩ := hvf i L hL
    obtain ⟨g', k, rfl, cg', hrl⟩ := huf i L hL
    have hLok := (HI.out.at hL).1
    have hlti : (i : Int) < (ls.length : Int) := by omega
    have hge : ¬ (i : Int) < 0 := by omega
    clear hvf huf
    have h2 := wTrim HW0.out hL hpl hLok HI.out.byt HI.out.p6
    go_wp2_with fail
    refine h2.mono ?_
    rintro e w2 ⟨rfl, hw2, hk2⟩
    have h3 := rwTrim hw2 hL hrl hLok HI.out.byt HI.out.p6 (HI.out.big hL).2
    have HK2 := Hid.mk hk2
    have HW2 := Hid.mk hw2
    have hz2 := hk2.k.size
    clear h2 hw2 hk2
    go_wp2_with fail
    refine h3.mono ?_
    rintro e w3 ⟨rfl, hw3, hk3⟩
    have HF : Hid (StepOut w w3 q lab p r s (ls.length + 1) (t + 1)) := hw3.stepOut ((HI.out.trim hL hw3.d.ok).step) (by rw [List.length_set]; omega) ((Kept.later lab HB0.out).trans (HK2.out.trans hk3))
    clear h3 hw3 hk3
    go_wp2
    go_ret
    exact ⟨by simp, HF.out⟩

set_option maxRecDepth 20000 in
set_option maxHeartbeats 4000000 in
theorem onLog_append (h : Wd w q lab p r s S S v u ps rs ls ls) (hi : Inv S s ls t) (ho : OpOk4 w lab A da dn dc pa pn d pl) (hlen : ls.length ≤ 140737488355328) :
    Calls Tryz.prog 27 #[ptrL q, .agg (opD 4 A B da dn dc pa pn pc)] w fun e w' => e = .returned (.bool true) ∧ StepOut w w' q lab p r s (ls.length + 1) (t + 1) := by
  obtain ⟨va, vc, rfl, _⟩ := h.vform
  obtain ⟨ua, uc, rfl, _⟩ := h.uform
  have hb0 := below_box w (.cells (opD 4 A B da dn dc pa pn pc) 37)
  have h0 := h.later hb0
  have hn0 : (w.alloc (.cells (opD 4 A B da dn dc pa pn pc) 37)).heap[w.heap.size]? = some (.cells (opD 4 A B da dn dc pa pn pc) 37 (0, 0)) := heap_alloc_new _ _
  have hlz := h.lz w.heap.size (Nat.le_refl _)
  have kA := cell_of_block hn0 (j := 1) rfl
  have h1 := age_any _ q va ls.length vc h0.c2 A ho.A hlen
  have HO := Hid.mk ho
  have HI := Hid.mk hi
  clear h ho hi
  go_enter Tryz.func27, Tryz.ntmps27
  go_wp2_with fail
  refine h1.mono ?_
  rintro e w1 ⟨hag, hw1⟩
  have hw1' := hw1.symm
  clear hw1
  subst hw1'
  have HB0 := Hid.mk hb0
  have HN0 := Hid.mk hn0
  have HW0 := Hid.mk h0
  have c2 := h0.c2
  have c3 := h0.c3
  have k0 := cell_of_block hn0 (j := 0) rfl
  have k3 := cell_of_block hn0 (j := 3) rfl
  have hz0 := hb0.size
  have hsz : w.heap.size < (w.alloc (.cells (opD 4 A B da dn dc pa pn pc) 37)).heap.size := lt_there hn0
  clear h1 kA hn0 hb0 h0
  generalize w.alloc (.cells (opD 4 A B da dn dc pa pn pc) 37) = w0 at *
  rcases hag with ⟨hnil, rfl⟩ | ⟨i, hilt, rfl⟩
  · have HF : Hid (StepOut w w0 q lab p r s (ls.length + 1) (t + 1)) := HW0.out.stepOut HI.out.step (Nat.le_succ _) (Kept.later lab HB0.out)
    go_wp2
    go_ret
    exact ⟨rfl, HF.out⟩
  · obtain ⟨L, hL⟩ : ∃ L, ls[i]? = some L := ⟨ls[i], List.getElem?_eq_getElem hilt⟩
    obtain ⟨va', vc', e1, hvf⟩ := HW0.out.vform
    obtain ⟨ua', uc', e2, huf⟩ := HW0.out.uform
    cases e1
    cases e2
    obtain ⟨g, l, rfl, cg, hpl⟩ := hvf i L hL
    obtain ⟨g', k, rfl, cg', hrl⟩ := huf i L hL
    have hLok := (HI.out.at hL).1
    have hlti : (i : Int) < (ls.length : Int) := by omega
    have hge : ¬ (i : Int) < 0 := by omega
    clear hvf huf
    have hsd := HO.out.s.later HB0.out
    have h2 := twin_any da dn dc d w0 HO.out.n hsd
    have HSd := Hid.mk hsd
    clear hsd
    go_wp2_with fail
    refine h2.mono ?_
    rintro e w1 ⟨g1, rfl, hg1, hr1, hb1⟩
    have hw1 := HW0.out.later hb1
    have hs1 := hr1.src
    rw [HSd.out.1] at hs1
    have h3 := wAppend hw1 hL hpl hLok (some ⟨g1, 0, none⟩) dn dn d hs1 (fun y e _ => by cases e; exact HW0.out.lz g1 hg1) HO.out.b (Nat.le_refl _) HO.out.n HI.out.p6
    have HB1 := Hid.mk hb1
    have hz1 := hb1.size
    clear h2 hb1 hw1 hs1 hr1
    go_wp2_with fail
    refine h3.mono ?_
    rintro e w2 ⟨rfl, hw2, hk2⟩
    have hz2 := hk2.k.size
    have hlt1 : w.heap.size < w1.heap.size := Nat.lt_of_lt_of_le hsz hz1
    have hn2 := (hk2.k.block w.heap.size hlt1 (fun h => h hlz)).trans ((HB1.out.block w.heap.size hsz).trans HN0.out)
    have k3' := cell_of_block hn2 (j := 3) rfl
    have hs2 : Src w2 da dn d := (HSd.out.later HB1.out).avoid hk2.k (fun y e hp h => h (HO.out.l y e hp))
    have h4 := rwAppend hw2 hL hrl hLok HI.out.byt da dn dc d hs2 (fun y e hp => by
      have e1 := HO.out.l y e hp
      have e2 := hk2.o y.block (Nat.lt_of_lt_of_le (HO.out.s.block_lt e hp) (Nat.le_trans hz0 hz1))
      rw [e2]
      exact e1) HO.out.b HO.out.c HO.out.n HI.out.p6
    have HK2 := Hid.mk hk2
    clear h3 hw2 hk2 hn2 hs2 k3
    go_wp2_with fail
    refine h4.mono ?_
    rintro e w3 ⟨rfl, hw3, hk3⟩
    have HF : Hid (StepOut w w3 q lab p r s (ls.length + 1) (t + 1)) := hw3.stepOut ((HI.out.append hL HO.out.b hw3.d.ok).step) (by rw [List.length_set]; omega) ((Kept.later lab HB0.out).trans ((Kept.later lab HB1.out).trans (HK2.out.trans hk3)))
    clear h4 hw3 hk3
    go_wp2
    go_ret
    exact ⟨by simp, HF.out⟩

set_option maxRecDepth 20000 in
set_option maxHeartbeats 4000000 in
theorem onLog_room (h : Wd w q lab p r s S S v u ps rs ls ls) (hi : Inv S s ls t) (ho : OpOk4 w lab A da dn dc pa pn d pl) (hlen : ls.length ≤ 140737488355328) :
    Calls Tryz.prog 27 #[ptrL q, .agg (opD 7 A B da dn dc pa pn pc)] w fun e w' => e = .returned (.bool true) ∧ StepOut w w' q lab p r s (ls.length + 1) (t + 1) := by
  obtain ⟨va, vc, rfl, _⟩ := h.vform
  obtain ⟨ua, uc, rfl, _⟩ := h.uform
  have hb0 := below_box w (.cells (opD 7 A B da dn dc pa pn pc) 37)
  have h0 := h.later hb0
  have hn0 : (w.alloc (.cells (opD 7 A B da dn dc pa pn pc) 37)).heap[w.heap.size]? = some (.cells (opD 7 A B da dn dc pa pn pc) 37 (0, 0)) := heap_alloc_new _ _
  have hlz := h.lz w.heap.size (Nat.le_refl _)
  have kA := cell_of_block hn0 (j := 1) rfl
  have h1 := age_any _ q va ls.length vc h0.c2 A ho.A hlen
  have HO := Hid.mk ho
  have HI := Hid.mk hi
  clear h ho hi
  go_enter Tryz.func27, Tryz.ntmps27
  go_wp2_with fail
  refine h1.mono ?_
  rintro e w1 ⟨hag, hw1⟩
  have hw1' := hw1.symm
  clear hw1
  subst hw1'
  have HB0 := Hid.mk hb0
  have HN0 := Hid.mk hn0
  have HW0 := Hid.mk h0
  have c2 := h0.c2
  have c3 := h0.c3
  have k0 := cell_of_block hn0 (j := 0) rfl
  have k3 := cell_of_block hn0 (j := 3) rfl
  have hz0 := hb0.size
  have hsz : w.heap.size < (w.alloc (.cells (opD 7 A B da dn dc pa pn pc) 37)).heap.size := lt_there hn0
  clear h1 kA hn0 hb0 h0
  generalize w.alloc (.cells (opD 7 A B da dn dc pa pn pc) 37) = w0 at *
  rcases hag with ⟨hnil, rfl⟩ | ⟨i, hilt, rfl⟩
  · have HF : Hid (StepOut w w0 q lab p r s (ls.length + 1) (t + 1)) := HW0.out.stepOut HI.out.step (Nat.le_succ _) (Kept.later lab HB0.out)
    go_wp2
    go_ret
    exact ⟨rfl, HF.out⟩
  · obtain ⟨L, hL⟩ : ∃ L, ls[i]? = some L := ⟨ls[i], List.getElem?_eq_getElem hilt⟩
    obtain ⟨va', vc', e1, hvf⟩ := HW0.out.vform
    obtain ⟨ua', uc', e2, huf⟩ := HW0.out.uform
    cases e1
    cases e2
    obtain ⟨g, l, rfl, cg, hpl⟩ := hvf i L hL
    obtain ⟨g', k, rfl, cg', hrl⟩ := huf i L hL
    have hLok := (HI.out.at hL).1
    have hlti : (i : Int) < (ls.length : Int) := by omega
    have hge : ¬ (i : Int) < 0 := by omega
    clear hvf huf
    have h2 := Room_any HW0.out.d (HW0.out.lpAt hL hpl).1 hLok
    go_wp2_with fail
    refine h2.mono ?_
    rintro e w2 ⟨rfl, hb2⟩
    have hw2 := HW0.out.later hb2
    have h3 := rRoom_any hw2.e (hw2.lrAt hL hrl).1 hLok
    have HB2 := Hid.mk hb2
    have HW2 := Hid.mk hw2
    clear h2 hb2 hw2
    go_wp2_with fail
    refine h3.mono ?_
    rintro e w3 ⟨rfl, hb3⟩
    have HF : Hid (StepOut w w3 q lab p r s (ls.length + 1) (t + 1)) := (HW2.out.later hb3).stepOut HI.out.step (Nat.le_succ _) ((Kept.later lab HB0.out).trans ((Kept.later lab HB2.out).trans (Kept.later lab hb3)))
    clear h3 hb3
    go_wp2
    go_ret
    exact ⟨by simp, HF.out⟩

set_option maxRecDepth 20000 in
set_option maxHeartbeats 4000000 in
theorem onLog_marks (h : Wd w q lab p r s S S v u ps rs ls ls) (hi : Inv S s ls t) (ho : OpOk4 w lab A da dn dc pa pn d pl) (hlen : ls.length ≤ 140737488355328) :
    Calls Tryz.prog 27 #[ptrL q, .agg (opD 8 A B da dn dc pa pn pc)] w fun e w' => e = .returned (.bool true) ∧ StepOut w w' q lab p r s (ls.length + 1) (t + 1) := by
  obtain ⟨va, vc, rfl, _⟩ := h.vform
  obtain ⟨ua, uc, rfl, _⟩ := h.uform
  have hb0 := below_box w (.cells (opD 8 A B da dn dc pa pn pc) 37)
  have h0 := h.later hb0
  have hn0 : (w.alloc (.cells (opD 8 A B da dn dc pa pn pc) 37)).heap[w.heap.size]? = some (.cells (opD 8 A B da dn dc pa pn pc) 37 (0, 0)) := heap_alloc_new _ _
  have hlz := h.lz w.heap.size (Nat.le_refl _)
  have kA := cell_of_block hn0 (j := 1) rfl
  have h1 := age_any _ q va ls.length vc h0.c2 A ho.A hlen
  have HO := Hid.mk ho
  have HI := Hid.mk hi
  clear h ho hi
  go_enter Tryz.func27, Tryz.ntmps27
  go_wp2_with fail
  refine h1.mono ?_
  rintro e w1 ⟨hag, hw1⟩
  have hw1' := hw1.symm
  clear hw1
  subst hw1'
  have HB0 := Hid.mk hb0
  have HN0 := Hid.mk hn0
  have HW0 := Hid.mk h0
  have c2 := h0.c2
  have c3 := h0.c3
  have k0 := cell_of_block hn0 (j := 0) rfl
  have k3 := cell_of_block hn0 (j := 3) rfl
  have hz0 := hb0.size
  have hsz : w.heap.size < (w.alloc (.cells (opD 8 A B da dn dc pa pn pc) 37)).heap.size := lt_there hn0
  clear h1 kA hn0 hb0 h0
  generalize w.alloc (.cells (opD 8 A B da dn dc pa pn pc) 37) = w0 at *
  rcases hag with ⟨hnil, rfl⟩ | ⟨i, hilt, rfl⟩
  · have HF : Hid (StepOut w w0 q lab p r s (ls.length + 1) (t + 1)) := HW0.out.stepOut HI.out.step (Nat.le_succ _) (Kept.later lab HB0.out)
    go_wp2
    go_ret
    exact ⟨rfl, HF.out⟩
  · obtain ⟨L, hL⟩ : ∃ L, ls[i]? = some L := ⟨ls[i], List.getElem?_eq_getElem hilt⟩
    obtain ⟨va', vc', e1, hvf⟩ := HW0.out.vform
    obtain ⟨ua', uc', e2, huf⟩ := HW0.out.uform
    cases e1
    cases e2
    obtain ⟨g, l, rfl, cg, hpl⟩ := hvf i L hL
    obtain ⟨g', k, rfl, cg', hrl⟩ := huf i L hL
    have hLok := (HI.out.at hL).1
    have hlti : (i : Int) < (ls.length : Int) := by omega
    have hge : ¬ (i : Int) < 0 := by omega
    clear hvf huf
    have h2 := Marks_any HW0.out.d (HW0.out.lpAt hL hpl).1
    by_cases hdd : L.dead S = true
    · rw [if_pos hdd] at h2
      go_wp2_with fail
      refine h2.mono ?_
      rintro e w2 ⟨rfl, hb2⟩
      have hw2 := HW0.out.later hb2
      have h3 := rMarks_any hw2.e (hw2.lrAt hL hrl).1
      rw [if_pos hdd] at h3
      have HB2 := Hid.mk hb2
      have HW2 := Hid.mk hw2
      clear h2 hb2 hw2
      go_wp2_with fail
      refine h3.mono ?_
      rintro e w3 ⟨rfl, hb3⟩
      have HF : Hid (StepOut w w3 q lab p r s (ls.length + 1) (t + 1)) := (HW2.out.later hb3).stepOut HI.out.step (Nat.le_succ _) ((Kept.later lab HB0.out).trans ((Kept.later lab HB2.out).trans (Kept.later lab hb3)))
      clear h3 hb3
      go_wp2
      go_ret
      exact ⟨by simp, HF.out⟩
    · rw [if_neg hdd] at h2
      go_wp2_with fail
      refine h2.mono ?_
      rintro e w2 ⟨rfl, hb2⟩
      have hw2 := HW0.out.later hb2
      have h3 := rMarks_any hw2.e (hw2.lrAt hL hrl).1
      rw [if_neg hdd] at h3
      have HB2 := Hid.mk hb2
      have HW2 := Hid.mk hw2
      clear h2 hb2 hw2
      go_wp2_with fail
      refine h3.mono ?_
      rintro e w3 ⟨rfl, hb3⟩
      have HF : Hid (StepOut w w3 q lab p r s (ls.length + 1) (t + 1)) := (HW2.out.later hb3).stepOut HI.out.step (Nat.le_succ _) ((Kept.later lab HB0.out).trans ((Kept.later lab HB2.out).trans (Kept.later lab hb3)))
      clear h3 hb3
      go_wp2
      go_ret
      exact ⟨by simp, HF.out⟩

set_option maxRecDepth 20000 in
set_option maxHeartbeats 4000000 in
theorem onLog_other (kd : Int) (h : Wd w q lab p r s S S v u ps rs ls ls) (hi : Inv S s ls t) (ho : OpOk4 w lab A da dn dc pa pn d pl) (hlen : ls.length ≤ 140737488355328) (hkd : kd ≠ 3 ∧ kd ≠ 4 ∧ kd ≠ 5 ∧ kd ≠ 6 ∧ kd ≠ 7 ∧ kd ≠ 8) :
    Calls Tryz.prog 27 #[ptrL q, .agg (opD kd A B da dn dc pa pn pc)] w fun e w' => e = .returned (.bool true) ∧ StepOut w w' q lab p r s (ls.length + 1) (t + 1) := by
  obtain ⟨va, vc, rfl, _⟩ := h.vform
  obtain ⟨ua, uc, rfl, _⟩ := h.uform
  have hb0 := below_box w (.cells (opD kd A B da dn dc pa pn pc) 37)
  have h0 := h.later hb0
  have hn0 : (w.alloc (.cells (opD kd A B da dn dc pa pn pc) 37)).heap[w.heap.size]? = some (.cells (opD kd A B da dn dc pa pn pc) 37 (0, 0)) := heap_alloc_new _ _
  have hlz := h.lz w.heap.size (Nat.le_refl _)
  have kA := cell_of_block hn0 (j := 1) rfl
  have h1 := age_any _ q va ls.length vc h0.c2 A ho.A hlen
  have HO := Hid.mk ho
  have HI := Hid.mk hi
  clear h ho hi
  go_enter Tryz.func27, Tryz.ntmps27
  go_wp2_with fail
  refine h1.mono ?_
  rintro e w1 ⟨hag, hw1⟩
  have hw1' := hw1.symm
  clear hw1
  subst hw1'
  have HB0 := Hid.mk hb0
  have HN0 := Hid.mk hn0
  have HW0 := Hid.mk h0
  have c2 := h0.c2
  have c3 := h0.c3
  have k0 := cell_of_block hn0 (j := 0) rfl
  have k3 := cell_of_block hn0 (j := 3) rfl
  have hz0 := hb0.size
  have hsz : w.heap.size < (w.alloc (.cells (opD kd A B da dn dc pa pn pc) 37)).heap.size := lt_there hn0
  clear h1 kA hn0 hb0 h0
  generalize w.alloc (.cells (opD kd A B da dn dc pa pn pc) 37) = w0 at *
  rcases hag with ⟨hnil, rfl⟩ | ⟨i, hilt, rfl⟩
  · have HF : Hid (StepOut w w0 q lab p r s (ls.length + 1) (t + 1)) := HW0.out.stepOut HI.out.step (Nat.le_succ _) (Kept.later lab HB0.out)
    go_wp2
    go_ret
    exact ⟨rfl, HF.out⟩
  · obtain ⟨L, hL⟩ : ∃ L, ls[i]? = some L := ⟨ls[i], List.getElem?_eq_getElem hilt⟩
    obtain ⟨va', vc', e1, hvf⟩ := HW0.out.vform
    obtain ⟨ua', uc', e2, huf⟩ := HW0.out.uform
    cases e1
    cases e2
    obtain ⟨g, l, rfl, cg, hpl⟩ := hvf i L hL
    obtain ⟨g', k, rfl, cg', hrl⟩ := huf i L hL
    have hLok := (HI.out.at hL).1
    have hlti : (i : Int) < (ls.length : Int) := by omega
    have hge : ¬ (i : Int) < 0 := by omega
    clear hvf huf
    have d3 : (kd == 3) = false := by rw [beq_eq_false_iff_ne]; exact hkd.1
    have d4 : (kd == 4) = false := by rw [beq_eq_false_iff_ne]; exact hkd.2.1
    have d5 : (kd == 5) = false := by rw [beq_eq_false_iff_ne]; exact hkd.2.2.1
    have d6 : (kd == 6) = false := by rw [beq_eq_false_iff_ne]; exact hkd.2.2.2.1
    have d7 : (kd == 7) = false := by rw [beq_eq_false_iff_ne]; exact hkd.2.2.2.2.1
    have d8 : (kd == 8) = false := by rw [beq_eq_false_iff_ne]; exact hkd.2.2.2.2.2
    have HF : Hid (StepOut w w0 q lab p r s (ls.length + 1) (t + 1)) := HW0.out.stepOut HI.out.step (Nat.le_succ _) (Kept.later lab HB0.out)
    clear hkd
    go_wp2
    go_ret
    exact ⟨rfl, HF.out⟩

theorem onLog_any (kd : Int) (h : Wd w q lab p r s S S v u ps rs ls ls) (hi : Inv S s ls t) (ho : OpOk4 w lab A da dn dc pa pn d pl) (hlen : ls.length ≤ 140737488355328) :
    Calls Tryz.prog 27 #[ptrL q, .agg (opD kd A B da dn dc pa pn pc)] w fun e w' => e = .returned (.bool true) ∧ StepOut w w' q lab p r s (ls.length + 1) (t + 1) := by
  by_cases k3 : kd = 3
  · subst k3; exact onLog_start h hi ho hlen
  · by_cases k4 : kd = 4
    · subst k4; exact onLog_append h hi ho hlen
    · by_cases k5 : kd = 5
      · subst k5; exact onLog_sync h hi ho hlen
      · by_cases k6 : kd = 6
        · subst k6; exact onLog_trim h hi ho hlen
        · by_cases k7 : kd = 7
          · subst k7; exact onLog_room h hi ho hlen
          · by_cases k8 : kd = 8
            · subst k8; exact onLog_marks h hi ho hlen
            · exact onLog_other kd h hi ho hlen ⟨k3, k4, k5, k6, k7, k8⟩
end
end Go.Proofs.YtijgdmhglnanjaaGreat
end

section
namespace Go.Proofs.YtijgdmhglnanjaaGreat
open Go.RowKit

theorem infoPL : (Tryz.prog.info? 80).map (fun i => (i.zero, i.size, i.bytes)) = some (some (.pointer none), 1, 8) := by kernel_rfl
theorem infoPR : (Tryz.prog.info? 83).map (fun i => (i.zero, i.size, i.bytes)) = some (some (.pointer none), 1, 8) := by kernel_rfl

theorem app_log {W : World} {B k : Nat} {v : Value} {vs : List Value} (hrow : W.ownsRow B 80 1 v k vs) (x : Value) (hx : x.oneCell' = true) (hk : (k + 1) * 8 ≤ 140737488355328) (hB : B ≤ W.heap.size) :
    ∃ g cap w', (Builtin.append_ #[29, 29] 29 #[v, .slice (some ⟨W.heap.size, 0, none⟩) 1 1]).run Tryz.prog (W.alloc (.cells #[x] 80)) = .ok (.slice (some ⟨g, 0, none⟩) (k + 1) cap) w' ∧ w'.ownsRow B 80 1 (.slice (some ⟨g, 0, none⟩) (k + 1) cap) (k + 1) (vs ++ [x]) ∧ (W.alloc (.cells #[x] 80)).grownBy w' v.ownBlock ∧ (v.ownBlock = some g ∨ g = W.heap.size + 1) ∧ g < w'.heap.size := by
  obtain ⟨i0, hi, hz0, hz1, hz2⟩ := info_parts infoPL
  exact run_append_lies (P := Tryz.prog) (W.alloc (.cells #[x] 80)) 29 29 B 80 i0 (.pointer none) 1 8 Tryz.underlying29 hi hz0 hz1 hz2 rfl (by decide) v k vs (owns_agree hrow (fun g hg => by
      obtain ⟨cur, hc⟩ := owns_block hrow hg
      exact Below.heap_alloc _ _ _ (lt_there hc))) ⟨W.heap.size, 0, none⟩ 1 1 [x] rfl (World.news_of_block (cs := #[x]) (t := 80) (fr := (0, 0)) (heap_alloc_new W _)) (by simpa using hx) (by omega) (by unfold maxLen; omega) (by omega) (by simp; omega) _ (by simp)

/-- A log more. -/
theorem Wd.push {w : World} {q p r s l : Nat} {lab : Nat → Nat} {S T : DS} {v u : Value} {ps rs : List Nat} {ls ms : List LG} {L : LG} (h : Wd w q lab p r s S T v u ps rs ls ms) (hl : LogP w l p L) (h0 : lab l = 0) (hk : (ls.length + 1) * 8 ≤ 140737488355328) :
    ∃ g cap w1 lab', (Builtin.append_ #[29, 29] 29 #[v, .slice (some ⟨w.heap.size, 0, none⟩) 1 1]).run Tryz.prog (w.alloc (.cells #[ptrL l] 80)) = .ok (.slice (some ⟨g, 0, none⟩) (ls.length + 1) cap) w1 ∧ w1.heap[q]? = some (.cells (wdC p r v u) 32 (0, 0)) ∧
      Wd (w1.setCell ⟨q, 2, none⟩ (.slice (some ⟨g, 0, none⟩) (ls.length + 1) cap)) q lab' p r s S T (.slice (some ⟨g, 0, none⟩) (ls.length + 1) cap) u (ps ++ [l]) rs (ls ++ [L]) ms ∧ Keeps (fun k => lab k ≠ 0) w (w1.setCell ⟨q, 2, none⟩ (.slice (some ⟨g, 0, none⟩) (ls.length + 1) cap)) ∧ ∀ k, k < w.heap.size → k ≠ l → lab' k = lab k := by
  obtain ⟨g, cap, w1, hrun, ho, hg, hat, hgl⟩ := app_log h.vs (ptrL l) rfl hk (Nat.zero_le _)
  have hlen : ps.length = ls.length := by have := h.vs.1; simpa using this
  have hsz : (w.alloc (.cells #[ptrL l] 80)).heap.size = w.heap.size + 1 := by simp
  have hbx := below_box w (.cells #[ptrL l] 80)
  have hz1 : w.heap.size + 1 ≤ w1.heap.size := by have := hg.size; omega
  have hll := hl.lt
  have hk1 : Keeps (fun k => lab k = 4) w w1 := by
    refine ⟨hg.os.trans hbx.os, hg.tape.trans hbx.tape, hg.output.trans hbx.output, by omega, fun k hk hn => ?_⟩
    exact (hg.block k (by omega) (fun e => hn (h.vb k e.symm))).trans (hbx.block k hk)
  have hq1 : w1.heap[q]? = some (.cells (wdC p r v u) 32 (0, 0)) := (hk1.block q h.qlt (by have := h.bq; omega)).trans h.box
  have hks : Keeps (fun k => k = q) w1 (w1.setCell ⟨q, 2, none⟩ (.slice (some ⟨g, 0, none⟩) (ls.length + 1) cap)) := keeps_set (F := fun k => k = q) w1 rfl 2 _
  have hqq := h.bq
  have hk2 : Keeps (fun k => lab k = 4 ∨ lab k = 3) w (w1.setCell ⟨q, 2, none⟩ (.slice (some ⟨g, 0, none⟩) (ls.length + 1) cap)) := (hk1.mono (fun _ h => .inl h)).trans hks (fun j hj => by left; right; rw [hj]; exact hqq)
  have hz2 : (w1.setCell ⟨q, 2, none⟩ (.slice (some ⟨g, 0, none⟩) (ls.length + 1) cap)).heap.size = w1.heap.size := by simp
  have old : ∀ {k : Nat}, k < w.heap.size → k ≠ l → (fun k => if k = l then 6 + 2 * ls.length else relab lab w.heap.size w1.heap.size 4 k) k = lab k := fun {k} hk hne => by
    show (if k = l then _ else _) = _
    rw [if_neg hne]
    exact relab_old hk
  have nel : ∀ {k : Nat}, lab k ≠ 0 → k ≠ l := fun {k} hk e => by subst e; exact hk h0
  refine ⟨g, cap, w1, fun k => if k = l then 6 + 2 * ls.length else relab lab w.heap.size w1.heap.size 4 k, hrun, hq1, ⟨?_, (old h.qlt (nel (by omega))).trans h.bq, fun k hk' => ?_, ?_, ?_, ?_, ?_, ?_, ?_, ?_, ?_⟩, hk2.mono (fun k hk => by omega), fun k hk hne => old hk hne⟩
  · exact (heap_setCell_same _ _ 2 _ _ _ hq1).trans (by simp)
  · show (if k = l then _ else _) = _
    rw [if_neg (by omega), relab_far (by omega)]
    exact h.lz k (by omega)
  · refine (h.d.keep hk2 (fun k hf hx => by have : lab k = 1 := hf; omega)).mono (fun k hf => ?_) (fun k hf => ?_)
    · have hf : lab k = 1 := hf
      exact (old (h.d.lt k hf) (nel (by omega))).trans hf
    · apply Decidable.byContradiction
      intro hn
      have hf : (if k = l then _ else _) = 1 := hf
      rw [if_neg (by omega), relab_far (by omega), h.lz k (by omega)] at hf
      omega
  · refine (h.e.keep hk2 (fun k hf hx => by have : lab k = 2 := hf; omega)).mono (fun k hf => ?_) (fun k hf => ?_)
    · have hf : lab k = 2 := hf
      exact (old (h.e.lt k hf) (nel (by omega))).trans hf
    · apply Decidable.byContradiction
      intro hn
      have hf : (if k = l then _ else _) = 2 := hf
      rw [if_neg (by omega), relab_far (by omega), h.lz k (by omega)] at hf
      omega
  · have hne : g ≠ q := fun e => by
      rcases hat with hat | hat
      · have := h.vb g hat; rw [e] at this; omega
      · have := h.qlt; omega
    rw [List.length_append]
    have := owns_agree ho (fun x hx => by
      have : x = g := by simpa [Value.ownBlock] using hx.symm
      subst this
      exact hks.block x hgl hne)
    simpa using this
  · intro x hx
    have : x = g := by simpa [Value.ownBlock] using hx.symm
    subst this
    rcases hat with hat | hat
    · have e1 := h.vb x hat
      exact (old (owns_lt h.vs hat) (nel (by omega))).trans e1
    · show (if x = l then _ else _) = _
      rw [if_neg (by omega)]
      exact relab_new (by omega) hgl
  · exact owns_agree h.us (fun x hx => hk2.block x (owns_lt h.us hx) (by have := h.ub x hx; omega))
  · intro x hx
    have e1 := h.ub x hx
    exact (old (owns_lt h.us hx) (nel (by omega))).trans e1
  · intro i M hi
    by_cases e : i < ls.length
    · rw [List.getElem?_append_left e] at hi
      obtain ⟨a, e1, e2, e3⟩ := h.lp i M hi
      exact ⟨a, by rw [List.getElem?_append_left (by omega)]; exact e1, e2.keep hk2 (by omega), (old e2.lt (nel (by omega))).trans e3⟩
    · have hi' := (List.getElem?_eq_some_iff.1 hi).1
      have ei : i = ls.length := by simp at hi'; omega
      subst ei
      rw [List.getElem?_append_right (Nat.le_refl _), Nat.sub_self] at hi
      obtain rfl : L = M := by simpa using hi
      refine ⟨l, by rw [List.getElem?_append_right (by omega), hlen, Nat.sub_self]; rfl, hl.keep hk2 (by omega), ?_⟩
      show (if l = l then _ else _) = _
      rw [if_pos rfl]
  · intro i M hi
    obtain ⟨a, e1, e2, e3⟩ := h.lr i M hi
    exact ⟨a, e1, e2.keep hk2 (by omega), (old e2.lt (nel (by omega))).trans e3⟩

theorem app_rlog {W : World} {B k : Nat} {v : Value} {vs : List Value} (hrow : W.ownsRow B 83 1 v k vs) (x : Value) (hx : x.oneCell' = true) (hk : (k + 1) * 8 ≤ 140737488355328) (hB : B ≤ W.heap.size) :
    ∃ g cap w', (Builtin.append_ #[30, 30] 30 #[v, .slice (some ⟨W.heap.size, 0, none⟩) 1 1]).run Tryz.prog (W.alloc (.cells #[x] 83)) = .ok (.slice (some ⟨g, 0, none⟩) (k + 1) cap) w' ∧ w'.ownsRow B 83 1 (.slice (some ⟨g, 0, none⟩) (k + 1) cap) (k + 1) (vs ++ [x]) ∧ (W.alloc (.cells #[x] 83)).grownBy w' v.ownBlock ∧ (v.ownBlock = some g ∨ g = W.heap.size + 1) ∧ g < w'.heap.size := by
  obtain ⟨i0, hi, hz0, hz1, hz2⟩ := info_parts infoPR
  exact run_append_lies (P := Tryz.prog) (W.alloc (.cells #[x] 83)) 30 30 B 83 i0 (.pointer none) 1 8 Tryz.underlying30 hi hz0 hz1 hz2 rfl (by decide) v k vs (owns_agree hrow (fun g hg => by
      obtain ⟨cur, hc⟩ := owns_block hrow hg
      exact Below.heap_alloc _ _ _ (lt_there hc))) ⟨W.heap.size, 0, none⟩ 1 1 [x] rfl (World.news_of_block (cs := #[x]) (t := 83) (fr := (0, 0)) (heap_alloc_new W _)) (by simpa using hx) (by omega) (by unfold maxLen; omega) (by omega) (by simp; omega) _ (by simp)

/-- A log more. -/
theorem Wd.rpush {w : World} {q p r s l : Nat} {lab : Nat → Nat} {S T : DS} {v u : Value} {ps rs : List Nat} {ls ms : List LG} {L : LG} (h : Wd w q lab p r s S T v u ps rs ls ms) (hl : LogR w l r L) (h0 : lab l = 0) (hk : (ms.length + 1) * 8 ≤ 140737488355328) :
    ∃ g cap w1 lab', (Builtin.append_ #[30, 30] 30 #[u, .slice (some ⟨w.heap.size, 0, none⟩) 1 1]).run Tryz.prog (w.alloc (.cells #[ptrL l] 83)) = .ok (.slice (some ⟨g, 0, none⟩) (ms.length + 1) cap) w1 ∧ w1.heap[q]? = some (.cells (wdC p r v u) 32 (0, 0)) ∧
      Wd (w1.setCell ⟨q, 3, none⟩ (.slice (some ⟨g, 0, none⟩) (ms.length + 1) cap)) q lab' p r s S T v (.slice (some ⟨g, 0, none⟩) (ms.length + 1) cap) ps (rs ++ [l]) ls (ms ++ [L]) ∧ Keeps (fun k => lab k ≠ 0) w (w1.setCell ⟨q, 3, none⟩ (.slice (some ⟨g, 0, none⟩) (ms.length + 1) cap)) ∧ ∀ k, k < w.heap.size → k ≠ l → lab' k = lab k := by
  obtain ⟨g, cap, w1, hrun, ho, hg, hat, hgl⟩ := app_rlog h.us (ptrL l) rfl hk (Nat.zero_le _)
  have hlen : rs.length = ms.length := by have := h.us.1; simpa using this
  have hsz : (w.alloc (.cells #[ptrL l] 83)).heap.size = w.heap.size + 1 := by simp
  have hbx := below_box w (.cells #[ptrL l] 83)
  have hz1 : w.heap.size + 1 ≤ w1.heap.size := by have := hg.size; omega
  have hll := hl.lt
  have hk1 : Keeps (fun k => lab k = 5) w w1 := by
    refine ⟨hg.os.trans hbx.os, hg.tape.trans hbx.tape, hg.output.trans hbx.output, by omega, fun k hk hn => ?_⟩
    exact (hg.block k (by omega) (fun e => hn (h.ub k e.symm))).trans (hbx.block k hk)
  have hq1 : w1.heap[q]? = some (.cells (wdC p r v u) 32 (0, 0)) := (hk1.block q h.qlt (by have := h.bq; omega)).trans h.box
  have hks : Keeps (fun k => k = q) w1 (w1.setCell ⟨q, 3, none⟩ (.slice (some ⟨g, 0, none⟩) (ms.length + 1) cap)) := keeps_set (F := fun k => k = q) w1 rfl 3 _
  have hqq := h.bq
  have hk2 : Keeps (fun k => lab k = 5 ∨ lab k = 3) w (w1.setCell ⟨q, 3, none⟩ (.slice (some ⟨g, 0, none⟩) (ms.length + 1) cap)) := (hk1.mono (fun _ h => .inl h)).trans hks (fun j hj => by left; right; rw [hj]; exact hqq)
  have hz2 : (w1.setCell ⟨q, 3, none⟩ (.slice (some ⟨g, 0, none⟩) (ms.length + 1) cap)).heap.size = w1.heap.size := by simp
  have old : ∀ {k : Nat}, k < w.heap.size → k ≠ l → (fun k => if k = l then 7 + 2 * ms.length else relab lab w.heap.size w1.heap.size 5 k) k = lab k := fun {k} hk hne => by
    show (if k = l then _ else _) = _
    rw [if_neg hne]
    exact relab_old hk
  have nel : ∀ {k : Nat}, lab k ≠ 0 → k ≠ l := fun {k} hk e => by subst e; exact hk h0
  refine ⟨g, cap, w1, fun k => if k = l then 7 + 2 * ms.length else relab lab w.heap.size w1.heap.size 5 k, hrun, hq1, ⟨?_, (old h.qlt (nel (by omega))).trans h.bq, fun k hk' => ?_, ?_, ?_, ?_, ?_, ?_, ?_, ?_, ?_⟩, hk2.mono (fun k hk => by omega), fun k hk hne => old hk hne⟩
  · exact (heap_setCell_same _ _ 3 _ _ _ hq1).trans (by simp)
  · show (if k = l then _ else _) = _
    rw [if_neg (by omega), relab_far (by omega)]
    exact h.lz k (by omega)
  · refine (h.d.keep hk2 (fun k hf hx => by have : lab k = 1 := hf; omega)).mono (fun k hf => ?_) (fun k hf => ?_)
    · have hf : lab k = 1 := hf
      exact (old (h.d.lt k hf) (nel (by omega))).trans hf
    · apply Decidable.byContradiction
      intro hn
      have hf : (if k = l then _ else _) = 1 := hf
      rw [if_neg (by omega), relab_far (by omega), h.lz k (by omega)] at hf
      omega
  · refine (h.e.keep hk2 (fun k hf hx => by have : lab k = 2 := hf; omega)).mono (fun k hf => ?_) (fun k hf => ?_)
    · have hf : lab k = 2 := hf
      exact (old (h.e.lt k hf) (nel (by omega))).trans hf
    · apply Decidable.byContradiction
      intro hn
      have hf : (if k = l then _ else _) = 2 := hf
      rw [if_neg (by omega), relab_far (by omega), h.lz k (by omega)] at hf
      omega
  · exact owns_agree h.vs (fun x hx => hk2.block x (owns_lt h.vs hx) (by have := h.vb x hx; omega))
  · intro x hx
    have e1 := h.vb x hx
    exact (old (owns_lt h.vs hx) (nel (by omega))).trans e1
  · have hne : g ≠ q := fun e => by
      rcases hat with hat | hat
      · have := h.ub g hat; rw [e] at this; omega
      · have := h.qlt; omega
    rw [List.length_append]
    have := owns_agree ho (fun x hx => by
      have : x = g := by simpa [Value.ownBlock] using hx.symm
      subst this
      exact hks.block x hgl hne)
    simpa using this
  · intro x hx
    have : x = g := by simpa [Value.ownBlock] using hx.symm
    subst this
    rcases hat with hat | hat
    · have e1 := h.ub x hat
      exact (old (owns_lt h.us hat) (nel (by omega))).trans e1
    · show (if x = l then _ else _) = _
      rw [if_neg (by omega)]
      exact relab_new (by omega) hgl
  · intro i M hi
    obtain ⟨a, e1, e2, e3⟩ := h.lp i M hi
    exact ⟨a, e1, e2.keep hk2 (by omega), (old e2.lt (nel (by omega))).trans e3⟩
  · intro i M hi
    by_cases e : i < ms.length
    · rw [List.getElem?_append_left e] at hi
      obtain ⟨a, e1, e2, e3⟩ := h.lr i M hi
      exact ⟨a, by rw [List.getElem?_append_left (by omega)]; exact e1, e2.keep hk2 (by omega), (old e2.lt (nel (by omega))).trans e3⟩
    · have hi' := (List.getElem?_eq_some_iff.1 hi).1
      have ei : i = ms.length := by simp at hi'; omega
      subst ei
      rw [List.getElem?_append_right (Nat.le_refl _), Nat.sub_self] at hi
      obtain rfl : L = M := by simpa using hi
      refine ⟨l, by rw [List.getElem?_append_right (by omega), hlen, Nat.sub_self]; rfl, hl.keep hk2 (by omega), ?_⟩
      show (if l = l then _ else _) = _
      rw [if_pos rfl]
end Go.Proofs.YtijgdmhglnanjaaGreat
end
