import Derived.Test.YtokcgifpljeoiaaGreatV10
import Derived.Test.YtokcgifpljeoiaaGreatV16
section
namespace Go.Proofs.YtokcgifpljeoiaaGreat
open Go.RowKit Go.Maps

theorem ocatch_panic (g1 g2 : Nat) (a0 : Value) (x : Value) (w : World) (h1 : w.heap[g1]? = some (.cells #[a0] 30 (0, 0))) (h2 : w.heap[g2]? = some (.cells #[x] 25 (0, 0))) (hne : g1 ≠ g2) :
    CallsD Tryz.prog 46 #[.pointer (some ⟨g1, 0, none⟩), .pointer (some ⟨g2, 0, none⟩)] (.panicking sGave) w fun e u' w' =>
      e = .returned (.tuple #[]) ∧ u' = .panicking [{ v := .iface 25 (.int .i64 6), recovered := true }] ∧ w' = (w.setCell ⟨g1, 0, none⟩ (.pointer none)).setCell ⟨g2, 0, none⟩ (.int .i64 6) := by
  have hne' : ¬ g2 = g1 := fun e => hne e.symm
  refine callsD_of_wpS Tryz.func46 rfl fun c₀ cs hu => ?_
  apply wpS_seq
  apply wpS_region
  simp [wpOpsS, go_sem, recoverD, hu, Tryz.ntmps46, Exit.thenS]
  refine wpS_cond (t := true) (by simp [Act.eval, Array.replicate]) ?_
  simp only [if_true]
  apply wpS_region
  simp [wpOpsS, go_sem, (cell_of_block h1 (j := 0) rfl), (frozen_of_block h1 0), (cell_of_block h2 (j := 0) rfl), (frozen_of_block h2 0), bodyPostS, results, Tryz.results46]

theorem ocatch_idle (g1 g2 : Nat) (w : World) :
    CallsD Tryz.prog 46 #[.pointer (some ⟨g1, 0, none⟩), .pointer (some ⟨g2, 0, none⟩)] .returning w fun e u' w' => e = .returned (.tuple #[]) ∧ u' = .returning ∧ w' = w := by
  refine callsD_of_wpS Tryz.func46 rfl fun c₀ cs hu => ?_
  apply wpS_seq
  apply wpS_region
  simp [wpOpsS, go_sem, recoverD, hu, Tryz.ntmps46, Exit.thenS]
  refine wpS_cond (t := false) (by simp [Act.eval, Array.replicate]) ?_
  simp only [Bool.false_eq_true, if_false]
  refine wpS_of_wp (wp_skip ?_)
  cases c₀
  simp_all [bodyPostS, results, Tryz.results46]

/-- What Open answers, and the disk it leaves. -/
def SOut (S : DS) (s : Nat) (x : Int) (S' : DS) : Prop :=
  (LayOut S s ly0 x ∧ x ≠ 0 ∧ S' = S) ∨
  (SupAt (S.now 0) s ∧ S.fuse ≠ 0 ∧ (((lopen S s 1 ((lyOf (S.now 0)).log : Nat)).1 = x ∧ x ≠ 0 ∧ S' = (lopen S s 1 ((lyOf (S.now 0)).log : Nat)).2) ∨
    ((lopen S s 1 ((lyOf (S.now 0)).log : Nat)).1 = 0 ∧ ∃ rs hd, TellsAt S 1 (lyOf (S.now 0)).log rs hd ∧
      ((rdAll (lyOf (S.now 0)).blocks [] rs = none ∧ x = 6 ∧ S' = (lopen S s 1 ((lyOf (S.now 0)).log : Nat)).2) ∨
        ∃ ov, rdAll (lyOf (S.now 0)).blocks [] rs = some ov ∧
          (((sredo (lopen S s 1 ((lyOf (S.now 0)).log : Nat)).2 s (lyOf (S.now 0)) ov rs).1 = x ∧ x ≠ 0 ∧ S' = (sredo (lopen S s 1 ((lyOf (S.now 0)).log : Nat)).2 s (lyOf (S.now 0)) ov rs).2) ∨
            ((sredo (lopen S s 1 ((lyOf (S.now 0)).log : Nat)).2 s (lyOf (S.now 0)) ov rs).1 = 0 ∧ ((lgOf S 1 (lyOf (S.now 0)).log hd).start (sredo (lopen S s 1 ((lyOf (S.now 0)).log : Nat)).2 s (lyOf (S.now 0)) ov rs).2 s).1 = x ∧ S' = ((lgOf S 1 (lyOf (S.now 0)).log hd).start (sredo (lopen S s 1 ((lyOf (S.now 0)).log : Nat)).2 s (lyOf (S.now 0)) ov rs).2 s).2.1))))))

/-- The result's boxes and the layout's, behind layoutOf. -/
theorem obox {w w2 : World} {F : Nat → Prop} {p s c : Nat} {S : DS} (hlt : ∀ k, F k → k < w.heap.size) (hl2 : w.heap.size + 1 < w2.heap.size) (hg1 : w2.heap[w.heap.size]? = some (.cells #[.pointer none] 30 (0, 0))) (hg2 : w2.heap[w.heap.size + 1]? = some (.cells #[.int .i64 0] 25 (0, 0))) (hd : B.DiskR w2 F p s S c) (hk : Keeps F w w2) (x : Int) (o : Obj) :
    ((w2.setCell ⟨w.heap.size + 1, 0, none⟩ (.int .i64 x)).alloc o).heap[w.heap.size]? = some (.cells #[.pointer none] 30 (0, 0)) ∧ ((w2.setCell ⟨w.heap.size + 1, 0, none⟩ (.int .i64 x)).alloc o).heap[w.heap.size + 1]? = some (.cells #[.int .i64 x] 25 (0, 0)) ∧ ((w2.setCell ⟨w.heap.size + 1, 0, none⟩ (.int .i64 x)).alloc o).heap[w2.heap.size]? = some o ∧ B.DiskR ((w2.setCell ⟨w.heap.size + 1, 0, none⟩ (.int .i64 x)).alloc o) F p s S c ∧ Keeps F w ((w2.setCell ⟨w.heap.size + 1, 0, none⟩ (.int .i64 x)).alloc o) ∧ ((w2.setCell ⟨w.heap.size + 1, 0, none⟩ (.int .i64 x)).alloc o).heap.size = w2.heap.size + 1 := by
  have k1 := Keeps.setCell (F := fun k => k = w.heap.size + 1) w2 (p := ⟨w.heap.size + 1, 0, none⟩) rfl (.int .i64 x)
  have hs := size_setCell w2 ⟨w.heap.size + 1, 0, none⟩ (.int .i64 x)
  have b1 := Below.heap_alloc (w2.setCell ⟨w.heap.size + 1, 0, none⟩ (.int .i64 x)) o
  refine ⟨(b1 _ (by omega)).trans ((k1.block _ (by omega) (by omega)).trans hg1), (b1 _ (by omega)).trans ?_, ?_, ?_, ?_, by rw [World.size_alloc, hs]⟩
  · rw [heap_setCell_same _ _ _ _ _ _ hg2]
    rfl
  · rw [← hs]
    exact heap_alloc_new _ _
  · exact (hd.keep k1 (fun k hF e => by have := hlt _ hF; omega)).boxed o
  · exact (hk.trans k1 (fun k e => .inr (by omega))).trans (Keeps.alloc (fun _ => False) _ o) (fun _ h => h.elim)

/-- The result is laid into its boxes. -/
theorem oset {w w3 : World} {F : Nat → Prop} {p s c : Nat} {S : DS} {u v : Value} {y x : Int} (hlt : ∀ k, F k → k < w.heap.size ∨ w.heap.size + 2 ≤ k) (hg1 : w3.heap[w.heap.size]? = some (.cells #[u] 30 (0, 0))) (hg2 : w3.heap[w.heap.size + 1]? = some (.cells #[.int .i64 y] 25 (0, 0))) (hd : B.DiskR w3 F p s S c) :
    ((w3.setCell ⟨w.heap.size, 0, none⟩ v).setCell ⟨w.heap.size + 1, 0, none⟩ (.int .i64 x)).heap[w.heap.size]? = some (.cells #[v] 30 (0, 0)) ∧ ((w3.setCell ⟨w.heap.size, 0, none⟩ v).setCell ⟨w.heap.size + 1, 0, none⟩ (.int .i64 x)).heap[w.heap.size + 1]? = some (.cells #[.int .i64 x] 25 (0, 0)) ∧ B.DiskR ((w3.setCell ⟨w.heap.size, 0, none⟩ v).setCell ⟨w.heap.size + 1, 0, none⟩ (.int .i64 x)) F p s S c ∧ Keeps (fun k => k = w.heap.size ∨ k = w.heap.size + 1) w3 ((w3.setCell ⟨w.heap.size, 0, none⟩ v).setCell ⟨w.heap.size + 1, 0, none⟩ (.int .i64 x)) := by
  have k1 := Keeps.setCell (F := fun k => k = w.heap.size ∨ k = w.heap.size + 1) w3 (p := ⟨w.heap.size, 0, none⟩) (.inl rfl) v
  have k2 := Keeps.setCell (F := fun k => k = w.heap.size ∨ k = w.heap.size + 1) (w3.setCell ⟨w.heap.size, 0, none⟩ v) (p := ⟨w.heap.size + 1, 0, none⟩) (.inr rfl) (.int .i64 x)
  have h1 : (w3.setCell ⟨w.heap.size, 0, none⟩ v).heap[w.heap.size]? = some (.cells #[v] 30 (0, 0)) := by
    rw [heap_setCell_same _ _ _ _ _ _ hg1]
    rfl
  have h2 : (w3.setCell ⟨w.heap.size, 0, none⟩ v).heap[w.heap.size + 1]? = some (.cells #[.int .i64 y] 25 (0, 0)) := (Below.heap_setCell _ _ _ _ (by simp)).trans hg2
  refine ⟨(Below.heap_setCell _ _ _ _ (by simp)).trans h1, ?_, ?_, k1.trans k2 (fun _ h => .inl h)⟩
  · rw [heap_setCell_same _ _ _ _ _ _ h2]
    rfl
  · exact hd.keep (k1.trans k2 (fun _ h => .inl h)) (fun k hF e => by have := hlt _ hF; omega)

set_option maxRecDepth 20000 in
set_option maxHeartbeats 8000000 in
/-- No superblock, or a dead disk. -/
theorem stOpen_no {w : World} {F : Nat → Prop} {p s c : Nat} {S : DS} (h : B.DiskR w F p s S c) (hby : S.Byt) (hbig : S.puts.length + 1 ≤ 4000000000000) (hno : S.fuse = 0 ∨ ¬ SupAt (S.now 0) s) :
    Calls Tryz.prog 11 #[.pointer (some ⟨p, 0, none⟩)] w fun e w' => ∃ x, e = .returned (.tuple #[.pointer none, .int .i64 x]) ∧ SOut S s x S ∧ B.DiskR w' F p s S (c + 1) ∧ Keeps F w w' := by
  obtain ⟨w1, hw1⟩ : ∃ w1, w1 = (w.alloc (.cells #[.pointer none] 30)).alloc (.cells #[.int .i64 0] 25) := ⟨_, rfl⟩
  have hB1 : Below w.heap.size w w1 := by rw [hw1]; exact cbelow_two w _ _
  have hsz1 : w1.heap.size = w.heap.size + 2 := by rw [hw1]; simp
  have hg1 : w1.heap[w.heap.size]? = some (.cells #[.pointer none] 30 (0, 0)) := by rw [hw1]; exact heap_alloc2_old _ _ _
  have hg2 : w1.heap[w.heap.size + 1]? = some (.cells #[.int .i64 0] 25 (0, 0)) := by rw [hw1]; exact heap_alloc2_new _ _ _
  have hlt := h.lt
  go_enter_defers Tryz.func11, Tryz.ntmps11
  go_wp2_with fail
  rw [← hw1]
  refine (layoutOf_any (h.later hB1) hby hbig).mono ?_
  rintro e w2 ⟨y, x, rfl, hlo, hd2, hk2⟩
  have hz2 := hk2.size
  have hx0 : x ≠ 0 ∧ y = ly0 := by
    rcases hlo with ⟨_, h2, h3⟩ | ⟨h1, h2, _⟩ | ⟨_, _, h2, h3⟩
    · exact ⟨by omega, h2⟩
    · rcases hno with h | h
      · exact absurd h h1
      · exact absurd h2 h
    · exact ⟨by omega, h2⟩
  obtain ⟨hx, rfl⟩ := hx0
  have HO : (SOut S s x S) := .inl ⟨hlo, hx, rfl⟩
  have hgg1 := (hk2.block w.heap.size (by omega) (fun hF => by have := hlt _ hF; omega)).trans hg1
  have hgg2 := (hk2.block (w.heap.size + 1) (by omega) (fun hF => by have := hlt _ hF; omega)).trans hg2
  have HK : (B.DiskR w2 F p s S (c + 1) ∧ Keeps F w w2) := ⟨hd2, (Keeps.of_below F hB1).trans hk2 (fun _ h => .inl h)⟩
  have d0 := cell_of_block hgg2 (j := 0) rfl
  have e0 := frozen_of_block hgg2 0
  have dx2 : (x != 0) = true := by simp [hx]
  have hl2 : w.heap.size + 1 < w2.heap.size := by omega
  obtain ⟨o1, o2, _, o4, o5, _⟩ := obox hlt hl2 hgg1 hgg2 HK.1 HK.2 x (.cells #[.int .i64 0, .int .i64 0, .int .i64 0, .int .i64 0, .int .i64 0] 37)
  dsimp only [lyV]
  go_upto_region 3 with fail
  generalize (w2.setCell ⟨w.heap.size + 1, 0, none⟩ (.int .i64 x)).alloc (.cells #[.int .i64 0, .int .i64 0, .int .i64 0, .int .i64 0, .int .i64 0] 37) = w3 at *
  have HW := (And.intro o1 (And.intro o2 (And.intro o4 o5)))
  have c1 := cell_of_block o1 (j := 0) rfl
  have f1 := frozen_of_block o1 0
  have c2 := cell_of_block o2 (j := 0) (u := .int .i64 x) rfl
  have f2 := frozen_of_block o2 0
  go_upto_region 4 with fail
  go_region
  obtain ⟨p1, p2, p3, p4⟩ := oset (w := w) (v := .pointer none) (x := x) (fun k hF => .inl (hlt k hF)) HW.1 HW.2.1 HW.2.2.1
  generalize (w3.setCell ⟨w.heap.size, 0, none⟩ (.pointer none)).setCell ⟨w.heap.size + 1, 0, none⟩ (.int .i64 x) = w4 at *
  have hdw : Below w4.heap.size w4 w4.drew := below_drew (Below.refl _ _)
  have HF : (B.DiskR w4.drew F p s S (c + 1) ∧ Keeps F w w4.drew) := ⟨p3.later hdw, (HW.2.2.2.trans p4 (fun k e => .inr (by omega))).trans (Keeps.of_below (fun _ => False) hdw) (fun _ h => h.elim)⟩
  have q1 := cell_of_block ((hdw.block _ (lt_there p1)).trans p1) (j := 0) (u := .pointer none) rfl
  have q2 := cell_of_block ((hdw.block _ (lt_there p2)).trans p2) (j := 0) (u := .int .i64 x) rfl
  generalize w4.drew = w5 at *
  go_wp2
  refine leaves_cons (f := 46) (args := #[.pointer (some ⟨w.heap.size, 0, none⟩), .pointer (some ⟨w.heap.size + 1, 0, none⟩)]) (by simp) (by simp [go_sem]) ?_
  refine (ocatch_idle _ _ _).mono ?_
  rintro e u' w'' ⟨rfl, rfl, rfl⟩
  simp [Leaves, settle, results, Tryz.results11, go_sem, q1, q2]
  exact ⟨HO, HF⟩
end Go.Proofs.YtokcgifpljeoiaaGreat
end

section
namespace Go.Proofs.YtokcgifpljeoiaaGreat

theorem now_put (S : DS) (k : Nat) (l : List Int) (j : Nat) : (S.put k l).now j = if j = k then l else S.now j := by
  have e : pendOf (S.put k l).puts j = if j = k then pendOf S.puts k ++ [l] else pendOf S.puts j := pendOf_snoc _ _ _ _
  by_cases h : j = k
  · subst h
    simp [DS.now, DS.cand, e]
  · have e2 : pendOf (S.put k l).puts j = pendOf S.puts j := by rw [e, if_neg h]
    have e3 : (S.put k l).im = S.im := rfl
    simp [DS.now, DS.cand, e2, e3, h]
theorem wr_now {S : DS} {s k : Nat} (hf : S.fuse ≠ 0) (hk : k < s) (l : List Int) (j : Nat) : (S.wr s (k : Int) 512 l).2.now j = if j = k then l else S.now j := by
  rw [wr_in hf hk]
  exact now_put S k l j
theorem wr_ok {S : DS} {s k : Nat} (h : S.Ok s) (hf : S.fuse ≠ 0) (hk : k < s) {l : List Int} (hl : l.length = 512) : (S.wr s (k : Int) 512 l).2.Ok s := by
  rw [wr_in hf hk]
  refine ⟨h.len, h.lo, h.hi, fun q hq => ?_, ?_⟩
  · have hq' : q ∈ S.puts ++ [(k, l)] := hq
    rcases List.mem_append.1 hq' with hq | hq
    · exact h.puts q hq
    · rw [List.mem_singleton.1 hq]; exact ⟨hk, hl⟩
  · have := h.fuse
    show -1 ≤ (if 0 < S.fuse then S.fuse - 1 else S.fuse) ∧ (if 0 < S.fuse then S.fuse - 1 else S.fuse) ≤ _
    split <;> omega
theorem fl_now {S : DS} {s : Nat} (h : S.Ok s) {j : Nat} (hj : j < s) : (S.fl s).2.now j = S.now j := by
  unfold DS.fl
  split
  · rfl
  · show (S.flush s).now j = S.now j
    rw [now_none _ _ rfl]
    exact sec_imOf s S.now (fun k hk => now_len h k hk) j hj
theorem fl_ok {S : DS} {s : Nat} (h : S.Ok s) : (S.fl s).2.Ok s := by
  unfold DS.fl
  split
  · exact h
  · refine ⟨imOf_len s _ (fun k hk => now_len h k hk), h.lo, h.hi, (fun q hq => by cases hq), ?_⟩
    have := h.fuse
    show -1 ≤ (if 0 < S.fuse then S.fuse - 1 else S.fuse) ∧ (if 0 < S.fuse then S.fuse - 1 else S.fuse) ≤ _
    split <;> omega
theorem wr_life (S : DS) (s : Nat) (x : Int) (n : Nat) (l : List Int) : (S.wr s x n l).2.life = S.life := by
  unfold DS.wr
  split
  · rfl
  · split
    · rfl
    · split <;> rfl
theorem fl_life (S : DS) (s : Nat) : (S.fl s).2.life = S.life := by
  unfold DS.fl
  split <;> rfl
theorem fl_zero {S : DS} {s : Nat} (h : (S.fl s).1 = 0) : (S.fl s).2.puts = [] := by
  unfold DS.fl at *
  split at h
  · simp at h
  · rename_i q; rw [if_neg q]; rfl
theorem fl_err {S : DS} {s : Nat} (h : (S.fl s).1 ≠ 0) : (S.fl s).2 = S ∧ S.fuse = 0 ∧ (S.fl s).1 = 3 := by
  unfold DS.fl at *
  split at h
  · rename_i q; rw [if_pos q]; exact ⟨rfl, q, rfl⟩
  · exact absurd rfl h
theorem wr_err {S : DS} {s k : Nat} {l : List Int} (hk : k < s) (h : (S.wr s (k : Int) 512 l).1 ≠ 0) : (S.wr s (k : Int) 512 l).2 = S ∧ S.fuse = 0 := by
  by_cases hf : S.fuse = 0
  · unfold DS.wr
    rw [if_pos hf]
    exact ⟨rfl, hf⟩
  · rw [wr_in hf hk] at h
    exact absurd rfl h
theorem wr_zero {S : DS} {s k : Nat} {l : List Int} (h : (S.wr s (k : Int) 512 l).1 = 0) : S.fuse ≠ 0 := fun hf => by
  unfold DS.wr at h
  rw [if_pos hf] at h
  simp at h

/-- A greater number can always be laid. -/
theorem renew_ok {l r : List Int} (hl : l.length = 512) (hr : r.length = 512) {N : Nat} (h1 : 1 ≤ N) (h : (snewest l r).2.1 < N) : (srenew l r (N : Int) []).2.2 = 0 := by
  unfold srenew
  rw [if_neg (by omega), if_neg (by omega), if_neg (by simp)]
  simp only
  rw [if_neg (by omega)]
  split <;> rfl
theorem renew_pair {l r : List Int} (hl : l.length = 512) (hr : r.length = 512) {N : Nat} (h1 : 1 ≤ N) (hN : N < 9223372036854775808) (h : (snewest l r).2.1 < N) :
    (snewest (sput l r (srenew l r (N : Int) []).1 (srenew l r (N : Int) []).2.1).1 (sput l r (srenew l r (N : Int) []).1 (srenew l r (N : Int) []).2.1).2).2.1 = N := by
  have e : (srenew l r (N : Int) []) = if (snewest l r).2.2.2 = 0 ∧ (snewest l r).1 = 0 then (1, sform (turnOf (r.getD 0 0) (r.getD 511 0)) (bytes8 N ++ []), 0) else (0, sform (turnOf (l.getD 0 0) (l.getD 511 0)) (bytes8 N ++ []), 0) := by
    unfold srenew
    rw [if_neg (by omega), if_neg (by omega), if_neg (by simp)]
    simp only
    rw [if_neg (by omega), Int.toNat_natCast]
  rw [e]
  by_cases q : (snewest l r).2.2.2 = 0 ∧ (snewest l r).1 = 0
  · rw [if_pos q]
    have := pair_new (data := []) hl hr hN h1 (by simp) h (t := turnOf (r.getD 0 0) (r.getD 511 0)) (by have := turnOf_le (r.getD 0 0) (r.getD 511 0); omega) 1 (by rw [if_pos q])
    simp only
    rw [this]
  · rw [if_neg q]
    have := pair_new (data := []) hl hr hN h1 (by simp) h (t := turnOf (l.getD 0 0) (l.getD 511 0)) (by have := turnOf_le (l.getD 0 0) (l.getD 511 0); omega) 0 (by rw [if_neg q])
    simp only
    rw [this]
theorem anew_life (S : DS) (s f : Nat) (num : Int) : (anew S s f num).2.life = S.life := by
  unfold anew
  split
  · rfl
  · split
    · rfl
    · split
      · exact wr_life _ _ _ _ _
      · rw [fl_life, wr_life]
/-- The newest anchor's number. -/
def DS.num (S : DS) (f : Nat) : Nat := (snewest (S.now f) (S.now (f + 1))).2.1
theorem anew_num {S : DS} {s f N : Nat} (h : S.Ok s) (hf : f + 1 < s) (h1 : 1 ≤ N) (hN : N < 9223372036854775808) (hlt : S.num f < N) (h0 : (anew S s f (N : Int)).1 = 0) : (anew S s f (N : Int)).2.num f = N ∧ (anew S s f (N : Int)).2.puts = [] := by
  have hl := now_len h f (by omega)
  have hr := now_len h (f + 1) hf
  have hok := renew_ok hl hr h1 hlt
  have hp := renew_pair hl hr h1 hN hlt
  have hsl := srenew_slot (S.now f) (S.now (f + 1)) (N : Int) []
  have hfu := srenew_full (S.now f) (S.now (f + 1)) (N : Int) [] hok
  unfold anew at *
  split at h0
  · simp at h0
  · rename_i hfz
    rw [if_neg hfz]
    rw [if_neg (by omega)] at h0 ⊢
    generalize srenew (S.now f) (S.now (f + 1)) (N : Int) [] = Y at *
    rw [show (f : Int) + (Y.1 : Int) = ((f + Y.1 : Nat) : Int) by omega] at h0 ⊢
    have hw0 : (S.wr s ((f + Y.1 : Nat) : Int) 512 Y.2.1).1 = 0 := by rw [wr_in hfz (by omega)]
    rw [if_neg (by omega)] at h0 ⊢
    have hwo := wr_ok h hfz (show f + Y.1 < s by omega) hfu
    refine ⟨?_, fl_zero h0⟩
    unfold DS.num
    rw [fl_now hwo (by omega), fl_now hwo hf, wr_now hfz (by omega), wr_now hfz (by omega)]
    unfold sput at hp
    by_cases q : Y.1 = 0
    · rw [q] at hp ⊢
      rw [if_pos (by omega), if_neg (by omega)]
      rw [if_pos rfl] at hp
      exact hp
    · have q1 : Y.1 = 1 := by omega
      rw [q1] at hp ⊢
      rw [if_neg (by omega), if_pos rfl]
      rw [if_neg (by omega)] at hp
      exact hp
theorem anew_err {S : DS} {s f : Nat} {num : Int} (hf : f + 1 < s) (hok : (srenew (S.now f) (S.now (f + 1)) num []).2.2 = 0) (h0 : (anew S s f num).1 ≠ 0) : (anew S s f num).2.fuse = 0 ∧ (anew S s f num).2.puts.length ≤ S.puts.length + 1 := by
  have hsl := srenew_slot (S.now f) (S.now (f + 1)) num []
  unfold anew at *
  split at h0
  · rename_i hfz; rw [if_pos hfz]; exact ⟨hfz, Nat.le_succ _⟩
  · rename_i hfz
    rw [if_neg hfz]
    rw [if_neg (by omega)] at h0 ⊢
    generalize srenew (S.now f) (S.now (f + 1)) num [] = Y at *
    rw [show (f : Int) + (Y.1 : Int) = ((f + Y.1 : Nat) : Int) by omega] at h0 ⊢
    have hw0 : (S.wr s ((f + Y.1 : Nat) : Int) 512 Y.2.1).1 = 0 := by rw [wr_in hfz (by omega)]
    rw [if_neg (by omega)] at h0 ⊢
    obtain ⟨e1, e2, _⟩ := fl_err h0
    rw [e1]
    exact ⟨e2, wr_puts _ _ _ _ _⟩
theorem aput_life (S : DS) (s f n E P i c : Nat) (l : List Int) : (aput S s f n E P i c l).2.life = S.life := by
  unfold aput
  split
  · rfl
  · exact wr_life _ _ _ _ _
theorem aput_now {S : DS} {s f n E P i c : Nat} {l : List Int} (hn : 1 ≤ n) (hs : f + 2 + n ≤ s) {j : Nat} (hj : j < f + 2) : (aput S s f n E P i c l).2.now j = S.now j := by
  have := Nat.mod_lt P hn
  unfold aput
  split
  · rfl
  · rename_i hf
    rw [wr_now hf (by omega), if_neg (by omega)]
theorem aput_err {S : DS} {s f n E P i c : Nat} {l : List Int} (hn : 1 ≤ n) (hs : f + 2 + n ≤ s) (h : (aput S s f n E P i c l).1 ≠ 0) : (aput S s f n E P i c l).2.fuse = 0 := by
  have := Nat.mod_lt P hn
  unfold aput at *
  split at h
  · rename_i hf; rw [if_pos hf]; exact hf
  · rename_i hf
    rw [wr_in hf (by omega)] at h
    exact absurd rfl h
theorem appTo_keeps {L : LG} {S : DS} {s : Nat} {d : List Int} (hn : 1 ≤ L.n) (hs : L.f + 2 + L.n ≤ s) : ∀ k, (appTo L S s d k).2.life = S.life ∧ (∀ j, j < L.f + 2 → (appTo L S s d k).2.now j = S.now j) ∧ ((appTo L S s d k).1 ≠ 0 → (appTo L S s d k).2.fuse = 0) ∧ (appTo L S s d k).2.puts.length ≤ S.puts.length + k
  | 0 => ⟨rfl, fun _ _ => rfl, fun h => absurd rfl h, Nat.le_refl _⟩
  | k + 1 => by
    obtain ⟨h1, h2, h3, h4⟩ := appTo_keeps (L := L) (S := S) (d := d) hn hs k
    by_cases e : (appTo L S s d k).1 = 0
    · have : appTo L S s d (k + 1) = aput (appTo L S s d k).2 s L.f L.n L.ep (L.head + k) k (cntOf d.length) (partOf d k) := stepsTo_ok e
      rw [this]
      refine ⟨(aput_life _ _ _ _ _ _ _ _ _).trans h1, fun j hj => (aput_now hn hs hj).trans (h2 j hj), fun h => aput_err hn hs h, ?_⟩
      have := aput_puts (appTo L S s d k).2 s L.f L.n L.ep (L.head + k) k (cntOf d.length) (partOf d k)
      omega
    · have : appTo L S s d (k + 1) = appTo L S s d k := stepsTo_err e (k + 1) (by omega)
      rw [this]
      exact ⟨h1, h2, h3, by omega⟩

/-- What wiping does to the sectors. -/
theorem wipeTo_keeps {S : DS} {s f n : Nat} (h : S.Ok s) (hs : f + n ≤ s) : ∀ k, k ≤ n → (wipeTo S s f k).2.life = S.life ∧ (wipeTo S s f k).2.Ok s ∧ ((wipeTo S s f k).1 ≠ 0 → (wipeTo S s f k).2.fuse = 0) ∧ ((wipeTo S s f k).1 = 0 → ∀ j, j < k → (wipeTo S s f k).2.now (f + j) = zs 512)
  | 0, _ => ⟨rfl, h, fun h => absurd rfl h, fun _ j hj => by omega⟩
  | k + 1, hk => by
    obtain ⟨h1, h2, h3, h4⟩ := wipeTo_keeps h hs k (by omega)
    by_cases e : (wipeTo S s f k).1 = 0
    · have e1 : wipeTo S s f (k + 1) = (wipeTo S s f k).2.wr s ((f + k : Nat) : Int) 512 (zs 512) := stepsTo_ok e
      rw [e1]
      by_cases hf : (wipeTo S s f k).2.fuse = 0
      · have e2 : (wipeTo S s f k).2.wr s ((f + k : Nat) : Int) 512 (zs 512) = (3, (wipeTo S s f k).2) := by unfold DS.wr; rw [if_pos hf]
        rw [e2]
        exact ⟨h1, h2, fun _ => hf, fun h => by simp at h⟩
      · refine ⟨(wr_life _ _ _ _ _).trans h1, wr_ok h2 hf (by omega) (zs_len 512), fun h => ?_, fun _ j hj => ?_⟩
        · rw [wr_in hf (by omega)] at h; exact absurd rfl h
        · rw [wr_now hf (by omega)]
          by_cases q : j = k
          · rw [if_pos (by omega)]
          · rw [if_neg (by omega)]; exact h4 e j (by omega)
    · have e1 : wipeTo S s f (k + 1) = wipeTo S s f k := stepsTo_err e (k + 1) (by omega)
      rw [e1]
      exact ⟨h1, h2, h3, fun h => absurd h e⟩
theorem sanchor_zero : (sanchor (zs 512)).1 = 0 := by
  have hb : sbody (zs 512) = [] := by
    unfold sbody
    rw [show slen (zs 512) = 0 from by unfold slen; rw [show (zs 512).getD 1 0 = 0 from rfl, show (zs 512).getD 2 0 = 0 from rfl]; rfl]
    exact List.take_zero
  have hs : sanchor (zs 512) = (0, []) := by
    refine sanchor_short ?_
    unfold sopen
    split
    · exact .inr ⟨_, rfl, .inl (by rw [hb]; decide)⟩
    · exact .inl rfl
  rw [hs]
theorem snewest_zero : (snewest (zs 512) (zs 512)).2.1 = 0 := by
  rw [snewest_eq (zs_len 512) (zs_len 512), if_pos ⟨sanchor_zero, sanchor_zero⟩]
theorem awipe_keeps {S : DS} {s f n : Nat} (h : S.Ok s) (hs : f + 2 + n ≤ s) : (awipe S s f n).2.life = S.life ∧ (awipe S s f n).2.Ok s ∧ ((awipe S s f n).1 ≠ 0 → (awipe S s f n).2.fuse = 0) ∧ ((awipe S s f n).1 = 0 → (awipe S s f n).2.num f = 0 ∧ (awipe S s f n).2.puts = []) := by
  obtain ⟨h1, h2, h3, h4⟩ := wipeTo_keeps (f := f) h (n := n + 2) (by omega) (n + 2) (Nat.le_refl _)
  unfold awipe
  by_cases e : (wipeTo S s f (n + 2)).1 = 0
  · rw [if_neg (by omega)]
    refine ⟨(fl_life _ _).trans h1, fl_ok h2, fun h => ?_, fun h => ⟨?_, fl_zero h⟩⟩
    · obtain ⟨e1, e2, _⟩ := fl_err h
      rw [e1]; exact e2
    · unfold DS.num
      have z0 : (wipeTo S s f (n + 2)).2.now f = zs 512 := h4 e 0 (by omega)
      rw [fl_now h2 (by omega), fl_now h2 (by omega), z0, (h4 e 1 (by omega))]
      exact snewest_zero
  · rw [if_pos e]
    exact ⟨h1, h2, h3, fun h => absurd h e⟩
end Go.Proofs.YtokcgifpljeoiaaGreat
end

section
namespace Go.Proofs.YtokcgifpljeoiaaGreat
open Go.RowKit Go.Maps

theorem start_good {L : LG} {S : DS} {s : Nat} (h : L.Ok s) (h0 : (L.start S s).1 = 0) : (L.start S s).2.2.Ok s ∧ (L.start S s).2.2.begun = true := by
  unfold LG.start at *
  split
  · rename_i k; rw [if_pos k] at h0; cases h0
  · rename_i k
    rw [if_neg k] at h0
    split
    · rename_i k2; rw [if_pos k2] at h0; cases h0
    · rename_i k2
      rw [if_neg k2] at h0
      split
      · rename_i k3; rw [if_pos k3] at h0; exact absurd h0 k3
      · have ht := h.top
        exact ⟨⟨h.s, h.n1, h.n2, by show L.top + 1 ≤ _; omega, h.top, Nat.le_refl _, by show 0 ≤ _; omega, by show 0 ≤ _; omega, fun _ => by show 0 ≤ _; omega⟩, rfl⟩
theorem rdCons_bytes : ∀ {ks : List Nat} {l r : List Int} {cs : CM}, rdCons ks l = some (cs, r) → Bytes l → ∀ x ∈ cs, Bytes x.2
  | [], l, r, cs, h, _ => by
    simp only [rdCons, Option.some.injEq, Prod.mk.injEq] at h
    obtain ⟨rfl, _⟩ := h
    simp
  | k :: ks, l, r, cs, h, hb => by
    rw [rdCons_cons] at h
    split at h
    · cases h
    · cases hr : rdCons ks (l.drop 512) with
      | none => rw [hr] at h; cases h
      | some x =>
        rw [hr] at h
        simp only [Option.map_some, Option.some.injEq, Prod.mk.injEq] at h
        obtain ⟨rfl, rfl⟩ := h
        intro z hz
        rcases List.mem_cons.1 hz with rfl | hz
        · exact hb.take 512
        · exact rdCons_bytes (cs := x.1) (r := x.2) hr (hb.drop 512) z hz
theorem rdNums_bytes {blocks : Nat} : ∀ {n lo : Nat} {l r : List Int} {ks : List Nat}, rdNums blocks n lo l = some (ks, r) → Bytes l → Bytes r
  | 0, lo, l, r, ks, h, hb => by
    simp only [rdNums, Option.some.injEq, Prod.mk.injEq] at h
    obtain ⟨_, rfl⟩ := h
    exact hb
  | n + 1, lo, l, r, ks, h, hb => by
    rw [rdNums_succ] at h
    split at h
    · cases h
    · split at h
      · cases hr : rdNums blocks n (le (l.take 4) + 1) (l.drop 4) with
        | none => rw [hr] at h; cases h
        | some x =>
          rw [hr] at h
          simp only [Option.map_some, Option.some.injEq, Prod.mk.injEq] at h
          obtain ⟨_, rfl⟩ := h
          exact rdNums_bytes (ks := x.1) (r := x.2) hr (hb.drop 4)
      · cases h
theorem rdRec_bytes {blocks : Nat} {d : List Int} {cs : CM} (h : rdRec blocks d = some cs) (hb : Bytes d) : ∀ x ∈ cs, Bytes x.2 := by
  unfold rdRec at h
  split at h
  · cases h
  · split at h
    · split at h
      · cases h
      · rename_i ks r hn
        cases hc : rdCons ks r with
        | none => rw [hc] at h; cases h
        | some x =>
          obtain ⟨x1, x2⟩ := x
          rw [hc] at h
          cases x2 with
          | nil =>
            simp only [rdTail, Option.some.injEq] at h
            subst h
            exact rdCons_bytes hc (rdNums_bytes hn (hb.drop 2))
          | cons a t => cases h
    · cases h
theorem over_bytes {ms : CM} : ∀ {cs : CM}, (∀ x ∈ ms, Bytes x.2) → (∀ x ∈ cs, Bytes x.2) → ∀ x ∈ CM.over ms cs, Bytes x.2 := by
  intro cs
  induction cs generalizing ms with
  | nil => intro h _ x hx; exact h x hx
  | cons q qs ih =>
    intro h1 h2
    have e : CM.over ms (q :: qs) = CM.over (CM.put ms q.1 q.2) qs := rfl
    rw [e]
    refine ih (fun x hx => ?_) (fun x hx => h2 x (List.mem_cons_of_mem _ hx))
    rcases CM.put_key hx with rfl | hx
    · exact h2 q (by simp)
    · exact h1 x hx
theorem rdAll_bytes {blocks : Nat} : ∀ {rs : List (List Int)} {ms ov : CM}, rdAll blocks ms rs = some ov → (∀ x ∈ ms, Bytes x.2) → (∀ r ∈ rs, Bytes r) → ∀ x ∈ ov, Bytes x.2
  | [], ms, ov, h, hm, _ => by
    simp only [rdAll, Option.some.injEq] at h
    subst h
    exact hm
  | r :: rs, ms, ov, h, hm, hr => by
    unfold rdAll at h
    cases hc : rdRec blocks r with
    | none => rw [hc] at h; cases h
    | some cs =>
      rw [hc] at h
      exact rdAll_bytes h (over_bytes hm (rdRec_bytes hc (hr r (by simp)))) (fun x hx => hr x (List.mem_cons_of_mem _ hx))
theorem sredo_byt {S : DS} {s : Nat} {y : LY} {ov : CM} {rs : List (List Int)} (h : S.Byt) (ho : ∀ x ∈ ov, Bytes x.2) : (sredo S s y ov rs).2.Byt := by
  unfold sredo
  split
  · exact h
  · have h1 := sbring_byt h s y.home (ms := ov) ho
    split
    · exact h1
    · exact h1.fl s
theorem sredo_puts {S : DS} {s : Nat} {y : LY} {ov : CM} {rs : List (List Int)} (h0 : (sredo S s y ov rs).1 = 0) : (sredo S s y ov rs).2.puts.length ≤ S.puts.length := by
  unfold sredo at *
  split
  · exact Nat.le_refl _
  · rename_i k
    rw [if_neg k] at h0
    split
    · rename_i k2; rw [if_pos k2] at h0; exact absurd h0 k2
    · rename_i k2
      rw [if_neg k2] at h0
      rw [fl_zero h0]
      exact Nat.zero_le _

/-- What holds behind layoutOf, where there is a superblock. -/
theorem stOpen_geo {S : DS} {s : Nat} (h : SupAt (S.now 0) s) : (lyOf (S.now 0)).home + (lyOf (S.now 0)).blocks ≤ s ∧ 1 + 2 + (lyOf (S.now 0)).log ≤ s ∧ 18 ≤ (lyOf (S.now 0)).log ∧ (lyOf (S.now 0)).log ≤ 256 ∧ (lyOf (S.now 0)).blocks ≤ 2048 := by
  have hg := h.1.geo
  have hs := h.2
  unfold Geo at hg
  unfold lyOf
  simp only
  generalize u32 (S.now 0) 8 = a at *
  generalize u32 (S.now 0) 12 = b at *
  generalize u32 (S.now 0) 16 = c at *
  omega

/-- The log of a store that is open. -/
def SLog (S : DS) (s : Nat) (L : LG) : Prop := ∃ rs hd ov, TellsAt S 1 (lyOf (S.now 0)).log rs hd ∧ rdAll (lyOf (S.now 0)).blocks [] rs = some ov ∧ L = ((lgOf S 1 (lyOf (S.now 0)).log hd).start (sredo (lopen S s 1 ((lyOf (S.now 0)).log : Nat)).2 s (lyOf (S.now 0)) ov rs).2 s).2.2
/-- What Open comes to. -/
def StOpened (w : World) (F : Nat → Prop) (p s c : Nat) (S : DS) (e : Ending) (w' : World) : Prop := ∃ x S' cR, cR ≤ c + 5 + (lyOf (S.now 0)).log ∧ SOut S s x S' ∧ Keeps F w w' ∧ ((x ≠ 0 ∧ e = .returned (.tuple #[.pointer none, .int .i64 x]) ∧ B.DiskR w' (more F w w') p s S' cR) ∨ (x = 0 ∧ ∃ q l m L F', SLog S s L ∧ e = .returned (.tuple #[.pointer (some ⟨q, 0, none⟩), .int .i64 0]) ∧ (∀ k, F' k → more F w w' k) ∧ w.heap.size ≤ q ∧ w.heap.size ≤ l ∧ w.heap.size ≤ m ∧ StW w' F' p s cR q l m S' ⟨lyOf (S.now 0), L, [], false⟩))
/-- An error is laid into its box. -/
theorem oerr {w w4 : World} {F : Nat → Prop} {p s c : Nat} {S : DS} {u : Value} {y : Int} (x : Int) (hlt : ∀ k, F k → k < w.heap.size ∨ w.heap.size + 2 ≤ k) (hg1 : w4.heap[w.heap.size]? = some (.cells #[u] 30 (0, 0))) (hg2 : w4.heap[w.heap.size + 1]? = some (.cells #[.int .i64 y] 25 (0, 0))) (hd : B.DiskR w4 F p s S c) :
    (w4.setCell ⟨w.heap.size + 1, 0, none⟩ (.int .i64 x)).heap[w.heap.size]? = some (.cells #[u] 30 (0, 0)) ∧ (w4.setCell ⟨w.heap.size + 1, 0, none⟩ (.int .i64 x)).heap[w.heap.size + 1]? = some (.cells #[.int .i64 x] 25 (0, 0)) ∧ B.DiskR (w4.setCell ⟨w.heap.size + 1, 0, none⟩ (.int .i64 x)) F p s S c ∧ Keeps (fun k => k = w.heap.size + 1) w4 (w4.setCell ⟨w.heap.size + 1, 0, none⟩ (.int .i64 x)) := by
  have k1 := Keeps.setCell (F := fun k => k = w.heap.size + 1) w4 (p := ⟨w.heap.size + 1, 0, none⟩) rfl (.int .i64 x)
  refine ⟨(Below.heap_setCell _ _ _ _ (by simp)).trans hg1, ?_, hd.keep k1 (fun k hF e => by have := hlt _ hF; omega), k1⟩
  rw [heap_setCell_same _ _ _ _ _ _ hg2]
  rfl
theorem oRd_le (S : DS) (s n : Nat) : B.oRd S s 1 (n : Int) ≤ n + 2 := by
  unfold B.oRd
  split <;> simp

/-- The store is made. -/
theorem omade {w w5 : World} {F : Nat → Prop} {p s c l : Nat} {S : DS} {y : LY} (hlt : ∀ k, F k → k < w.heap.size) (hg1 : w5.heap[w.heap.size]? = some (.cells #[.pointer none] 30 (0, 0))) (hg2 : w5.heap[w.heap.size + 1]? = some (.cells #[.int .i64 0] 25 (0, 0))) (hd : B.DiskR w5 F p s S c) {w6 : World} (hw6 : w6 = ((w5.setCell ⟨w.heap.size, 0, none⟩ (.pointer (some ⟨w5.heap.size + 1, 0, none⟩))).alloc (.map #[] 0)).alloc (.cells (stC p l w5.heap.size y false) 104)) :
    w6.heap[w.heap.size]? = some (.cells #[.pointer (some ⟨w5.heap.size + 1, 0, none⟩)] 30 (0, 0)) ∧ w6.heap[w.heap.size + 1]? = some (.cells #[.int .i64 0] 25 (0, 0)) ∧ StP w6 (w5.heap.size + 1) p l w5.heap.size y false ∧ Ch w6 w5.heap.size [] ∧ B.DiskR w6 F p s S c ∧ Keeps (fun k => k = w.heap.size) w5 w6 ∧ w6.heap.size = w5.heap.size + 2 := by
  have k1 := Keeps.setCell (F := fun k => k = w.heap.size) w5 (p := ⟨w.heap.size, 0, none⟩) rfl (.pointer (some ⟨w5.heap.size + 1, 0, none⟩))
  have hs := size_setCell w5 ⟨w.heap.size, 0, none⟩ (.pointer (some ⟨w5.heap.size + 1, 0, none⟩))
  have h1 : (w5.setCell ⟨w.heap.size, 0, none⟩ (.pointer (some ⟨w5.heap.size + 1, 0, none⟩))).heap[w.heap.size]? = some (.cells #[.pointer (some ⟨w5.heap.size + 1, 0, none⟩)] 30 (0, 0)) := by
    rw [heap_setCell_same _ _ _ _ _ _ hg1]
    rfl
  have h2 : (w5.setCell ⟨w.heap.size, 0, none⟩ (.pointer (some ⟨w5.heap.size + 1, 0, none⟩))).heap[w.heap.size + 1]? = some (.cells #[.int .i64 0] 25 (0, 0)) := (Below.heap_setCell _ _ _ _ (by simp)).trans hg2
  generalize w5.setCell ⟨w.heap.size, 0, none⟩ (.pointer (some ⟨w5.heap.size + 1, 0, none⟩)) = wa at *
  have hb := cbelow_two wa (.map #[] 0) (.cells (stC p l w5.heap.size y false) 104)
  have hch := (Ch.made wa).later (below_box (wa.alloc (.map #[] 0)) (.cells (stC p l w5.heap.size y false) 104))
  have hst : ((wa.alloc (.map #[] 0)).alloc (.cells (stC p l w5.heap.size y false) 104)).heap[wa.heap.size + 1]? = some (.cells (stC p l w5.heap.size y false) 104 (0, 0)) := by
    have := heap_alloc_new (wa.alloc (.map #[] 0)) (.cells (stC p l w5.heap.size y false) 104)
    rwa [World.size_alloc] at this
  rw [hs] at hch hst
  have hz : ((wa.alloc (.map #[] 0)).alloc (.cells (stC p l w5.heap.size y false) 104)).heap.size = w5.heap.size + 2 := by rw [World.size_alloc, World.size_alloc, hs]
  rw [← hw6] at hb hch hst hz
  exact ⟨(hb.block _ (lt_there h1)).trans h1, (hb.block _ (lt_there h2)).trans h2, hst, hch, (hd.keep k1 (fun k hF e => by have := hlt _ hF; omega)).later hb, k1.trans (Keeps.of_below (fun _ => False) hb) (fun _ h => h.elim), hz⟩
theorem RecsAt.recs {w : World} {B : Nat} {v : Value} {rs : List (List Int)} {X : Nat → Prop} (h : RecsAt w B v rs X) : Recs w v rs := by
  obtain ⟨vs, ho, hr⟩ := h
  refine ⟨vs, ?_, fun i hi => ?_⟩
  · obtain ⟨hl, h | ⟨g, cap, cur, rfl, hg, hbk, h1⟩⟩ := ho
    · exact ⟨hl, .inl h⟩
    · exact ⟨hl, .inr ⟨g, cap, cur, rfl, Nat.zero_le _, hbk, h1⟩⟩
  · obtain ⟨g, c, h1, h2, _⟩ := hr i hi
    exact ⟨g, c, h1, h2⟩
end Go.Proofs.YtokcgifpljeoiaaGreat
end

section
namespace Go.Proofs.YtokcgifpljeoiaaGreat
open Go.RowKit Go.Maps

set_option maxRecDepth 20000 in
set_option maxHeartbeats 8000000 in
theorem stOpen_ok {w : World} {F : Nat → Prop} {p s c : Nat} {S : DS} (h : B.DiskR w F p s S c) (hby : S.Byt) (hbig : S.puts.length + 6000 ≤ 4000000000000) (hf : S.fuse ≠ 0) (hsup : SupAt (S.now 0) s) :
    Calls Tryz.prog 11 #[.pointer (some ⟨p, 0, none⟩)] w fun e w' => StOpened w F p s c S e w' := by
  obtain ⟨w1, hw1⟩ : ∃ w1, w1 = (w.alloc (.cells #[.pointer none] 30)).alloc (.cells #[.int .i64 0] 25) := ⟨_, rfl⟩
  have hB1 : Below w.heap.size w w1 := by rw [hw1]; exact cbelow_two w _ _
  have hsz1 : w1.heap.size = w.heap.size + 2 := by rw [hw1]; simp
  have hg1 : w1.heap[w.heap.size]? = some (.cells #[.pointer none] 30 (0, 0)) := by rw [hw1]; exact heap_alloc2_old _ _ _
  have hg2 : w1.heap[w.heap.size + 1]? = some (.cells #[.int .i64 0] 25 (0, 0)) := by rw [hw1]; exact heap_alloc2_new _ _ _
  have hlt := h.lt
  have hly := layoutOf_any (h.later hB1) hby (by omega)
  have hgeo := stOpen_geo hsup
  clear h
  go_enter_defers Tryz.func11, Tryz.ntmps11
  go_wp2_with fail
  rw [← hw1]
  clear hw1
  refine hly.mono ?_
  rintro e w2 ⟨y, x, rfl, hlo, hd2, hk2⟩
  have hz2 := hk2.size
  have hx0 : x = 0 ∧ y = lyOf (S.now 0) := by
    rcases hlo with ⟨h1, _⟩ | ⟨_, _, h2, h3⟩ | ⟨_, h1, _⟩
    · exact absurd h1 hf
    · exact ⟨h3, h2⟩
    · exact absurd hsup h1
  obtain ⟨rfl, hyy⟩ := hx0
  rw [← hyy] at hgeo
  have HY := Hid.mk hyy
  have hgg1 := (hk2.block w.heap.size (by omega) (fun hF => by have := hlt _ hF; omega)).trans hg1
  have hgg2 := (hk2.block (w.heap.size + 1) (by omega) (fun hF => by have := hlt _ hF; omega)).trans hg2
  have HK : Hid (B.DiskR w2 F p s S (c + 1) ∧ Keeps F w w2) := ⟨hd2, (Keeps.of_below F hB1).trans hk2 (fun _ h => .inl h)⟩
  have d0 := cell_of_block hgg2 (j := 0) rfl
  have e0 := frozen_of_block hgg2 0
  have hl2 : w.heap.size + 1 < w2.heap.size := by omega
  obtain ⟨o1, o2, o3, o4, o5, o6⟩ := obox hlt hl2 hgg1 hgg2 HK.out.1 HK.out.2 0 (.cells #[.int .i64 (y.log : Int), .int .i64 (y.home : Int), .int .i64 (y.blocks : Int), .int .i64 (y.nodes : Int), .int .i64 (y.data : Int)] 37)
  clear hly hlo hd2 hk2 hyy
  dsimp only [lyV]
  go_upto_region 3 with fail
  generalize (w2.setCell ⟨w.heap.size + 1, 0, none⟩ (.int .i64 0)).alloc (.cells #[.int .i64 (y.log : Int), .int .i64 (y.home : Int), .int .i64 (y.blocks : Int), .int .i64 (y.nodes : Int), .int .i64 (y.data : Int)] 37) = w3 at *
  have HW := Hid.mk (And.intro o1 (And.intro o2 (And.intro o3 (And.intro o4 o5))))
  have c2 := cell_of_block o2 (j := 0) (u := .int .i64 0) rfl
  have l0 := cell_of_block o3 (j := 0) rfl
  have hop := B.Open_any o4 hby 1 (y.log : Int) (by omega)
  clear o1 o2 o3 o4 o5 d0 e0 hgg1 hgg2 HK hg1 hg2 hB1
  go_wp2_with fail
  refine hop.mono ?_
  rintro e w4 ⟨hopd, hd4, hk4⟩
  clear hop c2 l0
  have hz4 := hk4.size
  have hb1 := (hk4.block w.heap.size (by omega) (fun hF => by have := hlt _ hF; omega)).trans HW.out.1
  have hb2 := (hk4.block (w.heap.size + 1) (by omega) (fun hF => by have := hlt _ hF; omega)).trans HW.out.2.1
  have hb3 := (hk4.block w2.heap.size (by omega) (fun hF => by have := hlt _ hF; omega)).trans HW.out.2.2.1
  have hkw4 := HW.out.2.2.2.2.trans hk4 (fun _ h => .inl h)
  have hrd := oRd_le S s y.log
  unfold Opened at hopd
  by_cases ke : (lopen S s 1 (y.log : Int)).1 = 0
  · rw [if_neg (fun h => h ke)] at hopd
    obtain ⟨l, v, rs, hd, rfl, hll, htold⟩ := hopd
    obtain ⟨o1, o2, o3, o4⟩ := oerr 0 (fun k hF => .inl (hlt k hF)) hb1 hb2 hd4
    have c2 := cell_of_block hb2 (j := 0) (u := .int .i64 0) rfl
    have f2 := frozen_of_block hb2 0
    have hll4 := htold.p.lt
    have hlb5 := (o4.block w2.heap.size (by omega) (by omega)).trans hb3
    have HT := Hid.mk htold
    have HKE := Hid.mk ke
    clear hk4 hb1 hb2 hb3 hd4 HW htold ke
    go_upto_region 6 with fail
    generalize hw5 : w4.setCell ⟨w.heap.size + 1, 0, none⟩ (.int .i64 0) = w5 at *
    have hz5 : w5.heap.size = w4.heap.size := by rw [← hw5, size_setCell]
    clear c2 f2 hw5
    have c1 := cell_of_block o1 (j := 0) rfl
    have f1 := frozen_of_block o1 0
    have c2 := cell_of_block o2 (j := 0) (u := .int .i64 0) rfl
    have l0 := cell_of_block hlb5 (j := 0) rfl
    have l1 := cell_of_block hlb5 (j := 1) rfl
    have l2 := cell_of_block hlb5 (j := 2) rfl
    have l3 := cell_of_block hlb5 (j := 3) rfl
    have l4 := cell_of_block hlb5 (j := 4) rfl
    have hlw5 : w.heap.size < w5.heap.size := by omega
    have HX := Hid.mk (And.intro o1 (And.intro o2 (And.intro o3 o4)))
    have HZ5 := Hid.mk hz5
    have hbN := cbelow_two w5 (.map #[] 0) (.cells (stC p l w5.heap.size y false) 104)
    have c1N := cell_of_block ((hbN.block _ (lt_there o1)).trans o1) (j := 0) (u := .pointer none) rfl
    have f1N := frozen_of_block ((hbN.block _ (lt_there o1)).trans o1) 0
    clear o1 o2 o3 hlb5 hz5 hbN
    have hmm := @run_makeMap Tryz.prog
    go_upto_region 9 with fail
    obtain ⟨w6, hw6⟩ : ∃ w6, w6 = ((w5.setCell ⟨w.heap.size, 0, none⟩ (.pointer (some ⟨w5.heap.size + 1, 0, none⟩))).alloc (.map #[] 0)).alloc (.cells (stC p l w5.heap.size y false) 104) := ⟨_, rfl⟩
    rw [← hw6]
    obtain ⟨r1, r2, r3, r4, r5, r6, r7⟩ := omade (l := l) (y := y) hlt HX.out.1 HX.out.2.1 HX.out.2.2.1 hw6
    have ht6 := (HT.out.keep HX.out.2.2.2 (fun k e => by omega) (by omega)).keep r6 (fun k e => by omega) (by omega)
    have hta : TellsAt S 1 y.log rs hd := ⟨ht6.t, ht6.x⟩
    obtain ⟨hlz1, hlz2, hlz3, hlz4⟩ := lopen_zero (f := 1) HKE.out
    obtain ⟨hn1, hn2, hn3, hn4⟩ := hta.small hby (by omega)
    have hS1 : (lopen S s 1 (y.log : Int)).2.puts = [] := by
      have := HKE.out
      rw [show lopen S s 1 (y.log : Int) = S.take.fl s from hlz4] at this ⊢
      exact fl_zero this
    have hbS1 : (lopen S s 1 (y.log : Int)).2.Byt := by
      rw [show lopen S s 1 (y.log : Int) = S.take.fl s from hlz4]
      exact hby.take.fl s
    obtain ⟨S1, hS1e⟩ : ∃ S1, S1 = (lopen S s 1 (y.log : Int)).2 := ⟨_, rfl⟩
    rw [← hS1e] at r5 hS1 hbS1
    have hkq : ¬ F (w5.heap.size + 1) := fun hF => by have := hlt _ hF; omega
    have hkm : ¬ F w5.heap.size := fun hF => by have := hlt _ hF; omega
    have hre := redo_any r5 r3 r4 hkq hkm hgeo.1 ht6.r.recs hn2 (by omega) (by rw [hS1]; simp)
    have HM := Hid.mk (And.intro r1 (And.intro r2 (And.intro r3 (And.intro r5 (And.intro ht6 (And.intro hta (And.intro hS1 (And.intro hbS1 (And.intro hS1e (And.intro hn2 (And.intro r6 (And.intro hlz2 hlz3))))))))))))
    have cq1 := cell_of_block r1 (j := 0) rfl
    clear r1 r2 r3 r4 r5 ht6 hta hS1 hbS1 hS1e hn1 hn2 hn3 hn4 hlz1 hlz2 hlz3 hlz4 hw6 HT HX c1 c2 f1 c1N f1N l0 l1 l2 l3 l4 hmm
    have hz6 := r7
    clear r7 r6
    go_wp2_with fail
    refine hre.mono ?_
    rintro e w7 hpost
    clear hre cq1
    have hkw6 := (hkw4.trans o4 (fun k e => .inr (by omega))).trans HM.out.2.2.2.2.2.2.2.2.2.2.1 (fun k e => .inr (by omega))
    have hz5 := HZ5.out
    clear hkw4 o4
    rcases hpost with ⟨hn, rfl, hd7, hk7⟩ | ⟨ov, hov, rfl, hd7, hk7, hch7⟩
    · have hz7 := hk7.size
      have g1 := (hk7.block w.heap.size (by omega) (by omega)).trans HM.out.1
      have g2 := (hk7.block (w.heap.size + 1) (by omega) (by omega)).trans HM.out.2.1
      obtain ⟨p1, p2, p3, p4⟩ := oset (w := w) (v := .pointer none) (x := 6) (fun k hF => .inl (hlt k hF)) g1 g2 hd7
      have HG := Hid.mk (And.intro g1 g2)
      have HO : Hid (SOut S s 6 S1) := by
        unfold SOut
        rw [← HY.out]
        exact .inr ⟨hsup, hf, .inr ⟨HKE.out, rs, hd, HM.out.2.2.2.2.2.1, .inl ⟨hn, rfl, HM.out.2.2.2.2.2.2.2.2.1⟩⟩⟩
      have HP := Hid.mk (And.intro p1 (And.intro p2 (And.intro p3 ((hkw6.trans hk7 (fun k e => .inr (by omega))).trans p4 (fun k e => .inr (by omega)) : Keeps F w _))))
      clear p1 p2 p3 p4 hd7 hk7 g1 g2 hn hkw6
      go_wp2
      refine leaves_cons (f := 46) (args := #[.pointer (some ⟨w.heap.size, 0, none⟩), .pointer (some ⟨w.heap.size + 1, 0, none⟩)]) (by simp) (by simp [go_sem]) ?_
      refine (ocatch_panic w.heap.size (w.heap.size + 1) _ _ _ HG.out.1 HG.out.2 (by omega)).mono ?_
      rintro e u' w'' ⟨rfl, rfl, hw''⟩
      rw [← hw''] at HP
      have q1 := cell_of_block HP.out.1 (j := 0) (u := .pointer none) rfl
      have q2 := cell_of_block HP.out.2.1 (j := 0) (u := .int .i64 6) rfl
      clear hw''
      simp [Leaves, settle, results, Tryz.results11, go_sem, q1, q2]
      exact ⟨6, S1, _, by have := HY.out; rw [← this]; omega, HO.out, HP.out.2.2.2, .inl ⟨by decide, rfl, HP.out.2.2.1.more⟩⟩
    · obtain ⟨R, hR⟩ : ∃ R, R = sredo S1 s y ov rs := ⟨_, rfl⟩
      rw [← hR] at hd7 hch7
      rw [← hR]
      have hz7 := hk7.size
      have g1 := (hk7.block w.heap.size (by omega) (fun e => by rcases e with e | e; omega; have := hlt _ e; omega)).trans HM.out.1
      have g2 := (hk7.block (w.heap.size + 1) (by omega) (fun e => by rcases e with e | e; omega; have := hlt _ e; omega)).trans HM.out.2.1
      have c1 := cell_of_block g1 (j := 0) rfl
      have f1 := frozen_of_block g1 0
      have c2 := cell_of_block g2 (j := 0) (u := .int .i64 0) rfl
      have f2 := frozen_of_block g2 0
      have hltF : ∀ k, more F w6 w7 k → k < w.heap.size ∨ w.heap.size + 2 ≤ k := fun k h => by
        rcases h with h | h
        · exact .inl (hlt k h)
        · exact .inr (by omega)
      have hkw7 := hkw6.trans hk7 (fun k e => by rcases e with e | e; exact .inr (by omega); exact .inl e)
      by_cases z0 : R.1 = 0
      · have dz : (R.1 == 0) = true := by rw [z0]; rfl
        have dz2 : (R.1 != 0) = false := by simp [z0]
        obtain ⟨L, hL⟩ : ∃ L, L = lgOf S 1 y.log hd := ⟨_, rfl⟩
        have hlp6 : LogP w6 l p L := by rw [hL]; exact HM.out.2.2.2.2.1.p
        have hlok : L.Ok s := by rw [hL]; exact lgOf_ok HM.out.2.2.2.2.2.1 hby HM.out.2.2.2.2.2.2.2.2.2.2.2.1 HM.out.2.2.2.2.2.2.2.2.2.2.2.2 hgeo.2.1 hgeo.2.2.1 hgeo.2.2.2.1
        have hlm : l ≠ w5.heap.size := by omega
        have hlF : ¬ F l := fun e => by have := hlt _ e; omega
        have hlF7 : ¬ more F w6 w7 l := fun e => by
          rcases e with e | e
          · exact hlF e
          · omega
        have hlp7 := hlp6.keep hk7 (fun e => by rcases e with e | e; exact hlm e; exact hlF e)
        have hst7 := HM.out.2.2.1.keep hk7 (fun e => by rcases e with e | e; omega; exact hkq e)
        have hRb : R.2.Byt := by rw [hR]; exact sredo_byt HM.out.2.2.2.2.2.2.2.1 (rdAll_bytes hov (fun x hx => by cases hx) (fun r hr => (HM.out.2.2.2.2.2.2.2.2.2.1 r hr).1))
        have hRp : R.2.puts.length ≤ 0 := by
          have h1 := sredo_puts (S := S1) (s := s) (y := y) (ov := ov) (rs := rs) (by rw [← hR]; exact z0)
          rw [← hR, HM.out.2.2.2.2.2.2.1] at h1
          exact h1
        have hsta := B.Start_any hd7 hlp7 hlok hlF7 hRb (by omega)
        obtain ⟨T, hT⟩ : ∃ T, T = L.start R.2 s := ⟨_, rfl⟩
        rw [← hT] at hsta
        have HO : Hid (SOut S s T.1 T.2.1) := by
          unfold SOut
          rw [← HY.out]
          exact .inr ⟨hsup, hf, .inr ⟨HKE.out, rs, hd, HM.out.2.2.2.2.2.1, .inr ⟨ov, hov, .inr ⟨by rw [← HM.out.2.2.2.2.2.2.2.2.1, ← hR]; exact z0, by rw [← HM.out.2.2.2.2.2.2.2.2.1, ← hR, ← hL, ← hT], by rw [← HM.out.2.2.2.2.2.2.2.2.1, ← hR, ← hL, ← hT]⟩⟩⟩⟩
        have HSL : Hid (SLog S s T.2.2) := by
          unfold SLog
          rw [← HY.out]
          exact ⟨rs, hd, ov, HM.out.2.2.2.2.2.1, hov, by rw [← HM.out.2.2.2.2.2.2.2.2.1, ← hR, ← hL, ← hT]⟩
        have hgood : T.1 = 0 → T.2.2.Ok s ∧ T.2.2.begun = true := by rw [hT]; exact start_good hlok
        have HQ := Hid.mk (And.intro g1 (And.intro g2 (And.intro hst7 (And.intro (hch7 z0) (And.intro hkw7 hgood)))))
        clear hd7 hk7 g1 g2 hkw6 hkw7 hR hch7 z0 hL hlp6 hlok hlp7 hst7 hRb hRp hT hgood hov c1 c2 f1 f2 hz5
        generalize R.1 = z at *
        go_wp2_with fail
        refine hsta.mono ?_
        rintro e w8 ⟨rfl, hd8, hlp8, hk8⟩
        clear hsta
        have hz5 := HZ5.out
        have hz8 := hk8.size
        have g1 := (hk8.block w.heap.size (by omega) (fun e => by rcases e with e | e; rcases hltF _ e with e | e <;> omega; omega)).trans HQ.out.1
        have g2 := (hk8.block (w.heap.size + 1) (by omega) (fun e => by rcases e with e | e; rcases hltF _ e with e | e <;> omega; omega)).trans HQ.out.2.1
        have c1 := cell_of_block g1 (j := 0) (u := .pointer (some ⟨w5.heap.size + 1, 0, none⟩)) rfl
        have f1 := frozen_of_block g1 0
        have c2 := cell_of_block g2 (j := 0) (u := .int .i64 0) rfl
        have f2 := frozen_of_block g2 0
        have hltF8 : ∀ k, more (more F w6 w7) w7 w8 k → k < w.heap.size ∨ w.heap.size + 2 ≤ k := fun k h => by
          rcases h with h | h
          · exact hltF k h
          · exact .inr (by omega)
        have hkw8 := HQ.out.2.2.2.2.1.trans hk8 (fun k e => by
          rcases e with (e | e) | e
          · exact .inl e
          · exact .inr (by omega)
          · exact .inr (by omega))
        have hmw : ∀ (w9 : World), w8.heap.size ≤ w9.heap.size → ∀ k, more (more F w6 w7) w7 w8 k → more F w w9 k := fun w9 hz k h => by
          rcases h with (h | h) | h
          · exact .inl h
          · exact .inr (by omega)
          · exact .inr (by omega)
        by_cases t0 : T.1 = 0
        · have dt : (T.1 == 0) = true := by rw [t0]; rfl
          have dt2 : (T.1 != 0) = false := by simp [t0]
          obtain ⟨p1, p2, p3, p4⟩ := oset (w := w) (v := .pointer (some ⟨w5.heap.size + 1, 0, none⟩)) (x := 0) hltF8 g1 g2 hd8
          have hq8 : ¬ more (more F w6 w7) w7 w8 (w5.heap.size + 1) := fun e => by
            rcases e with (e | e) | e
            · exact hkq e
            · omega
            · omega
          have hm8 : ¬ more (more F w6 w7) w7 w8 w5.heap.size := fun e => by
            rcases e with (e | e) | e
            · exact hkm e
            · omega
            · omega
          have hl8 : ¬ more (more F w6 w7) w7 w8 l := fun e => by
            rcases e with (e | e) | e
            · exact hlF e
            · omega
            · omega
          have hst8 := (HQ.out.2.2.1.keep hk8 (fun e => by rcases e with e | e; exact hq8 (.inl e); omega)).keep p4 (by omega)
          have hch8 := (HQ.out.2.2.2.1.keep hk8 (fun e => by rcases e with e | e; exact hm8 (.inl e); omega)).keep p4 (by omega)
          have hlp9 := hlp8.keep p4 (by omega)
          have hgd := HQ.out.2.2.2.2.2 t0
          have hSt : StW ((w8.setCell ⟨w.heap.size, 0, none⟩ (.pointer (some ⟨w5.heap.size + 1, 0, none⟩))).setCell ⟨w.heap.size + 1, 0, none⟩ (.int .i64 0)) (more (more F w6 w7) w7 w8) p s (c + 1 + B.oRd S s 1 (y.log : Int) + 2) (w5.heap.size + 1) l w5.heap.size T.2.1 ⟨y, T.2.2, [], false⟩ :=
            ⟨p3, hst8, hlp9, hch8, hq8, hl8, hm8, by omega, by omega, hlm, hgd.1, hgd.2, hgeo.1, (fun x hx => by cases hx)⟩
          have HP := Hid.mk (And.intro p1 (And.intro p2 (And.intro hSt (And.intro (hkw8.trans p4 (fun k e => .inr (by omega)) : Keeps F w _) (hmw _ p4.size)))))
          have HT0 := Hid.mk t0
          have HW5 := Hid.mk (And.intro (by omega : w.heap.size ≤ w5.heap.size + 1) (And.intro (by omega : w.heap.size ≤ l) (by omega : w.heap.size ≤ w5.heap.size)))
          clear p1 p2 p3 p4 hd8 hlp8 hk8 g1 g2 hkw8 hmw hst8 hch8 hlp9 hgd hSt HQ t0 hz5
          go_wp2
          generalize (w8.setCell ⟨w.heap.size, 0, none⟩ (.pointer (some ⟨w5.heap.size + 1, 0, none⟩))).setCell ⟨w.heap.size + 1, 0, none⟩ (.int .i64 0) = w9 at *
          have q1 := cell_of_block HP.out.1 (j := 0) (u := .pointer (some ⟨w5.heap.size + 1, 0, none⟩)) rfl
          have q2 := cell_of_block HP.out.2.1 (j := 0) (u := .int .i64 0) rfl
          refine leaves_cons (f := 46) (args := #[.pointer (some ⟨w.heap.size, 0, none⟩), .pointer (some ⟨w.heap.size + 1, 0, none⟩)]) (by simp) (by simp [go_sem]) ?_
          refine (ocatch_idle _ _ _).mono ?_
          rintro e u' w'' ⟨rfl, rfl, rfl⟩
          simp [Leaves, settle, results, Tryz.results11, go_sem, q1, q2]
          have hst := HP.out.2.2.1
          rw [HY.out] at hst
          have ho := HO.out
          rw [HT0.out] at ho
          exact ⟨0, T.2.1, _, by have := HY.out; rw [← this]; omega, ho, HP.out.2.2.2.1, .inr ⟨rfl, w5.heap.size + 1, l, w5.heap.size, T.2.2, _, HSL.out, rfl, HP.out.2.2.2.2, HW5.out.1, HW5.out.2.1, HW5.out.2.2, hst⟩⟩
        · have dt : (T.1 == 0) = false := by simpa using t0
          have dt2 : (T.1 != 0) = true := by simp [t0]
          obtain ⟨p1, p2, p3, p4⟩ := oset (w := w) (v := .pointer none) (x := T.1) hltF8 g1 g2 hd8
          have hlt9 : ∀ k, more F w ((w8.setCell ⟨w.heap.size, 0, none⟩ (.pointer none)).setCell ⟨w.heap.size + 1, 0, none⟩ (.int .i64 T.1)) k → k < ((w8.setCell ⟨w.heap.size, 0, none⟩ (.pointer none)).setCell ⟨w.heap.size + 1, 0, none⟩ (.int .i64 T.1)).heap.size := fun k h => by
            have hzz := p4.size
            rcases h with h | h
            · have := hlt k h; omega
            · omega
          have HP := Hid.mk (And.intro p1 (And.intro p2 (And.intro (p3.mono (hmw _ p4.size) hlt9) (hkw8.trans p4 (fun k e => .inr (by omega)) : Keeps F w _))))
          have HT0 := Hid.mk t0
          clear p1 p2 p3 p4 hd8 hlp8 hk8 g1 g2 hkw8 hmw hlt9 HQ t0
          generalize T.1 = t at *
          go_wp2
          generalize (w8.setCell ⟨w.heap.size, 0, none⟩ (.pointer none)).setCell ⟨w.heap.size + 1, 0, none⟩ (.int .i64 t) = w9 at *
          have q1 := cell_of_block HP.out.1 (j := 0) (u := .pointer none) rfl
          have q2 := cell_of_block HP.out.2.1 (j := 0) (u := .int .i64 t) rfl
          refine leaves_cons (f := 46) (args := #[.pointer (some ⟨w.heap.size, 0, none⟩), .pointer (some ⟨w.heap.size + 1, 0, none⟩)]) (by simp) (by simp [go_sem]) ?_
          refine (ocatch_idle _ _ _).mono ?_
          rintro e u' w'' ⟨rfl, rfl, rfl⟩
          simp [Leaves, settle, results, Tryz.results11, go_sem, q1, q2]
          exact ⟨t, T.2.1, _, by have := HY.out; rw [← this]; omega, HO.out, HP.out.2.2.2, .inl ⟨HT0.out, rfl, HP.out.2.2.1⟩⟩
      · have dz : (R.1 == 0) = false := by simpa using z0
        have dz2 : (R.1 != 0) = true := by simp [z0]
        obtain ⟨p1, p2, p3, p4⟩ := oset (w := w) (v := .pointer none) (x := R.1) hltF g1 g2 hd7
        have HO : Hid (SOut S s R.1 R.2) := by
          unfold SOut
          rw [← HY.out]
          exact .inr ⟨hsup, hf, .inr ⟨HKE.out, rs, hd, HM.out.2.2.2.2.2.1, .inr ⟨ov, hov, .inl ⟨by rw [hR, HM.out.2.2.2.2.2.2.2.2.1], z0, by rw [hR, HM.out.2.2.2.2.2.2.2.2.1]⟩⟩⟩⟩
        have hm2 : B.DiskR ((w7.setCell ⟨w.heap.size, 0, none⟩ (.pointer none)).setCell ⟨w.heap.size + 1, 0, none⟩ (.int .i64 R.1)) (more F w ((w7.setCell ⟨w.heap.size, 0, none⟩ (.pointer none)).setCell ⟨w.heap.size + 1, 0, none⟩ (.int .i64 R.1))) p s R.2 (c + 1 + B.oRd S s 1 (y.log : Int)) := by
          have hzz := p4.size
          refine p3.mono (fun k h => ?_) (fun k h => ?_)
          · rcases h with h | h
            · exact .inl h
            · exact .inr (by omega)
          · rcases h with h | h
            · have := hlt k h; omega
            · omega
        have HP := Hid.mk (And.intro p1 (And.intro p2 (And.intro hm2 (hkw7.trans p4 (fun k e => .inr (by omega)) : Keeps F w _))))
        have HZ0 := Hid.mk z0
        clear p1 p2 p3 p4 hd7 hk7 g1 g2 hkw6 hkw7 hm2 hR hch7 z0
        generalize R.1 = z at *
        go_wp2
        generalize (w7.setCell ⟨w.heap.size, 0, none⟩ (.pointer none)).setCell ⟨w.heap.size + 1, 0, none⟩ (.int .i64 z) = w8 at *
        have q1 := cell_of_block HP.out.1 (j := 0) (u := .pointer none) rfl
        have q2 := cell_of_block HP.out.2.1 (j := 0) (u := .int .i64 z) rfl
        refine leaves_cons (f := 46) (args := #[.pointer (some ⟨w.heap.size, 0, none⟩), .pointer (some ⟨w.heap.size + 1, 0, none⟩)]) (by simp) (by simp [go_sem]) ?_
        refine (ocatch_idle _ _ _).mono ?_
        rintro e u' w'' ⟨rfl, rfl, rfl⟩
        simp [Leaves, settle, results, Tryz.results11, go_sem, q1, q2]
        exact ⟨z, R.2, _, by have := HY.out; rw [← this]; omega, HO.out, HP.out.2.2.2, .inl ⟨HZ0.out, rfl, HP.out.2.2.1⟩⟩
  · rw [if_pos ke] at hopd
    subst hopd
    have HO : Hid (SOut S s (lopen S s 1 (y.log : Int)).1 (lopen S s 1 (y.log : Int)).2) := .inr ⟨hsup, hf, .inl ⟨by rw [← HY.out], ke, by rw [← HY.out]⟩⟩
    obtain ⟨S', hS'⟩ : ∃ S', S' = (lopen S s 1 (y.log : Int)).2 := ⟨_, rfl⟩
    rw [← hS'] at HO hd4
    obtain ⟨x, hx⟩ : ∃ x, x = (lopen S s 1 (y.log : Int)).1 := ⟨_, rfl⟩
    rw [← hx] at HO ke
    rw [← hx]
    have dx2 : (x != 0) = true := by simp [ke]
    obtain ⟨o1, o2, o3, o4⟩ := oerr x (fun k hF => .inl (hlt k hF)) hb1 hb2 hd4
    have c2 := cell_of_block hb2 (j := 0) (u := .int .i64 0) rfl
    have f2 := frozen_of_block hb2 0
    clear hx hS' hk4 hb1 hb2 hb3 hd4 HW
    go_upto_region 6 with fail
    generalize w4.setCell ⟨w.heap.size + 1, 0, none⟩ (.int .i64 x) = w5 at *
    clear c2 f2
    have c1 := cell_of_block o1 (j := 0) rfl
    have f1 := frozen_of_block o1 0
    have c2 := cell_of_block o2 (j := 0) (u := .int .i64 x) rfl
    have f2 := frozen_of_block o2 0
    obtain ⟨p1, p2, p3, p4⟩ := oset (w := w) (v := .pointer none) (x := x) (fun k hF => .inl (hlt k hF)) o1 o2 o3
    clear o1 o2 o3
    go_upto_region 7 with fail
    go_region
    have hkw := hkw4.trans o4 (fun k e => .inr (by omega))
    generalize (w5.setCell ⟨w.heap.size, 0, none⟩ (.pointer none)).setCell ⟨w.heap.size + 1, 0, none⟩ (.int .i64 x) = w6 at *
    have hdw : Below w6.heap.size w6 w6.drew := below_drew (Below.refl _ _)
    have HF : Hid (B.DiskR w6.drew F p s S' (c + 1 + B.oRd S s 1 (y.log : Int)) ∧ Keeps F w w6.drew) := ⟨p3.later hdw, (hkw.trans p4 (fun k e => .inr (by omega))).trans (Keeps.of_below (fun _ => False) hdw) (fun _ h => h.elim)⟩
    have q1 := cell_of_block ((hdw.block _ (lt_there p1)).trans p1) (j := 0) (u := .pointer none) rfl
    have q2 := cell_of_block ((hdw.block _ (lt_there p2)).trans p2) (j := 0) (u := .int .i64 x) rfl
    clear p1 p2 p3 p4 hdw c1 c2 f1 f2 o4 hkw hkw4
    generalize w6.drew = w7 at *
    go_wp2
    refine leaves_cons (f := 46) (args := #[.pointer (some ⟨w.heap.size, 0, none⟩), .pointer (some ⟨w.heap.size + 1, 0, none⟩)]) (by simp) (by simp [go_sem]) ?_
    refine (ocatch_idle _ _ _).mono ?_
    rintro e u' w'' ⟨rfl, rfl, rfl⟩
    simp [Leaves, settle, results, Tryz.results11, go_sem, q1, q2]
    exact ⟨x, S', _, by have := HY.out; rw [← this]; omega, HO.out, HF.out.2, .inl ⟨ke, rfl, HF.out.1.more⟩⟩
end Go.Proofs.YtokcgifpljeoiaaGreat
end

section
namespace Go.Proofs.YtokcgifpljeoiaaGreat
open Go.RowKit

/-- What holds of a disk and a log on it that lives. -/
def LG.Fit (L : LG) (S : DS) : Prop :=
  (L.begun = true → S.puts.length ≤ L.head - L.tail ∧ S.num L.f ≤ L.ep * 4294967296 + L.tail) ∧ (L.begun = false → S.puts.length = 0 ∧ S.num L.f < (L.top + 1) * 4294967296)
theorem wrap_life {x : Int} {t : Nat} (h0 : 0 ≤ x) (h1 : x ≤ t) (ht : t ≤ 1000000000000000000) : wrap64 (x + 1) = x + 1 := by
  unfold wrap64
  omega

section
variable {S S' : DS} {s t i : Nat} {ls : List LG} {L L' : LG}

/-- The log that an Open gives. -/
def LG.opened (S : DS) (f n hd : Nat) : LG := { LG.new S f n with ep := (oNew S f).1, tail := (oNew S f).2.1, head := hd, top := oTop S f n }
end
end Go.Proofs.YtokcgifpljeoiaaGreat
end
