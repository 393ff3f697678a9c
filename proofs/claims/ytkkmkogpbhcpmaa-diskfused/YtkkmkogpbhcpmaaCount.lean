import Derived.Test.YtkkmkogpbhcpmaaSame
namespace Go.Proofs.Ytkkmkogpbhcpmaa
open Go.RowKit Go.Maps

/-- How many of the pending writes lie in sectors that have been met. -/
def metIn (left : Lit → Bool) (puts : List (Nat × List Int)) : Nat := (puts.filter (fun q => !left (kk q.1))).length

theorem same_kk (a b : Nat) : (kk a).sameKey (kk b) = (a == b) := by
  by_cases h : a = b
  · subst h
    simp [WideAt.sameKey_self (show WideAt.IsKeyLit (kk a) from trivial)]
  · rw [Maps.sameKey_ne (by intro e; simp [kk] at e; omega)]
    simp [h]

theorem metIn_step (left : Lit → Bool) (k : Nat) (hk : left (kk k) = true) : ∀ puts : List (Nat × List Int), metIn (fun z => left z && !z.sameKey (kk k)) puts = metIn left puts + (pendOf puts k).length
  | [] => by simp [metIn, pendOf]
  | q :: r => by
    have ih := metIn_step left k hk r
    unfold metIn pendOf at *
    by_cases h : q.1 = k
    · simp [h, hk, same_kk] at *
      omega
    · by_cases hl : left (kk q.1) = true
      · simp [h, hl, same_kk] at *
        omega
      · simp [h, hl, same_kk] at *
        omega

theorem metIn_start {D : DataW Value} {puts : List (Nat × List Int)} (h : ∀ q ∈ puts, has D (kk q.1) = true) : metIn (has D) puts = 0 := by
  unfold metIn
  rw [List.length_eq_zero_iff, List.filter_eq_nil_iff]
  intro q hq
  simp [h q hq]

theorem metIn_end {left : Lit → Bool} {puts : List (Nat × List Int)} (h : ∀ kl, left kl = false) : metIn left puts = puts.length := by
  unfold metIn
  rw [List.filter_eq_self.2 (fun q _ => by simp [h])]

theorem metIn_le (left : Lit → Bool) (puts : List (Nat × List Int)) : metIn left puts ≤ puts.length := List.length_filter_le _ _

theorem pend_mem {puts : List (Nat × List Int)} {q : Nat × List Int} (h : q ∈ puts) : pendOf puts q.1 ≠ [] := by
  unfold pendOf
  intro e
  rw [List.map_eq_nil_iff, List.filter_eq_nil_iff] at e
  exact e q h (by simp)

theorem PendAt.has {w : World} {F : Nat → Prop} {gi : Nat} {D : DataW Value} {gr cr : Nat → Nat} {pend : Nat → List (List Int)} (h : PendAt w F gi D gr cr pend) {k : Nat} (hk : pend k ≠ []) : Maps.has D (kk k) = true :=
  Maps.has_true_of_atKey (h.look k hk)

abbrev mkS (c : Option Addr × Nat × Nat) : Value := .slice c.1 c.2.1 c.2.2
theorem Rs_inv (v : Value) (y : DataW Value × List MemPlace) (h : Rs v = some y) : ∃ c, v = mkS c := by
  unfold Rs at h
  split at h
  · exact ⟨(_, _, _), rfl⟩
  · cases h
theorem Rs_mk (c : Option Addr × Nat × Nat) : Rs (mkS c) = some (.held (mkS c), []) := rfl

/-- What comes out of the map at a step: a key of a sector with pending writes, and its list. -/
theorem PendAt.met {w : World} {F : Nat → Prop} {gi : Nat} {D : DataW Value} {gr cr : Nat → Nat} {pend : Nat → List (List Int)} (h : PendAt w F gi D gr cr pend) {x : Int} {c : Option Addr × Nat × Nat} {kl : Lit} {y : DataW Value × List MemPlace}
    (hkey : keyOf Try.prog 3 (.int .i64 x) = some kl) (hv : Rs (mkS c) = some y) (hat : ∀ zd, D.atKey kl zd = y.1) :
    ∃ k : Nat, x = (k : Int) ∧ kl = kk k ∧ pend k ≠ [] ∧ c = (some ⟨gr k, 0, none⟩, (pend k).length, cr k) := by
  obtain ⟨k, rfl, hp⟩ := h.keys kl (Maps.has_true_of_atKey hat)
  obtain ⟨x', ex, ek, _⟩ := Maps.keyOf_int_inv Try.underlying3 hkey
  have hx : x = (k : Int) := by cases ex; simpa [kk] using ek.symm
  rw [Rs_mk] at hv
  cases hv
  have h1 := hat .nil
  rw [h.look k hp] at h1
  obtain ⟨a, n, cc⟩ := c
  simp [mkS] at h1
  exact ⟨k, hx, rfl, hp, by simp [h1]⟩

theorem set5 {w : World} {b : Nat} {t : TypeId} {a0 a1 a2 a3 a4 : Value} (v0 v1 v2 v3 v4 : Value) (h : w.heap[b]? = some (.cells #[a0, a1, a2, a3, a4] t (0, 0))) :
    (((((w.setCell ⟨b, 0, none⟩ v0).setCell ⟨b, 1, none⟩ v1).setCell ⟨b, 2, none⟩ v2).setCell ⟨b, 3, none⟩ v3).setCell ⟨b, 4, none⟩ v4).heap[b]? = some (.cells #[v0, v1, v2, v3, v4] t (0, 0)) := by
  have h0 := heap_setCell_same w b 0 _ t v0 h
  have h1 := heap_setCell_same _ b 1 _ t v1 h0
  have h2 := heap_setCell_same _ b 2 _ t v2 h1
  have h3 := heap_setCell_same _ b 3 _ t v3 h2
  have h4 := heap_setCell_same _ b 4 _ t v4 h3
  simpa using h4

abbrev cnCells (r wr fl rf pe : Int) : Array Value := #[.int .i64 r, .int .i64 wr, .int .i64 fl, .int .i64 rf, .int .i64 pe]

set_option maxHeartbeats 2000000 in
theorem counts_any (p s : Nat) (F : Nat → Prop) (S : DS) (w : World) (h : DiskAt w F p s S) (hbig : S.puts.length ≤ 140737488355328) :
    Calls Try.prog 67 #[.pointer (some ⟨p, 0, none⟩)] w fun e w' => e = .returned (.agg (cnCells S.reads S.writes S.flushes S.refused S.puts.length)) ∧ Below w.heap.size w w' := by
  obtain ⟨gi, ci, m, D, gr, cr, h1, h2, h3, h4, h5, h6, h7, h8, h9⟩ := h
  have c1 := cell_of_block h5 (j := 1) rfl
  have c4 := cell_of_block h5 (j := 4) rfl
  have c5 := cell_of_block h5 (j := 5) rfl
  have c6 := cell_of_block h5 (j := 6) rfl
  have c7 := cell_of_block h5 (j := 7) rfl
  have c8 := cell_of_block h5 (j := 8) rfl
  have hpl := h4 p h1
  have hml := h4 m h3
  have H8 := Hid.mk h8
  have H7 := Hid.mk h7
  clear h8 h7 h6 h9 h5
  go_enter Try.func67, Try.ntmps67
  go_wp2_with (at_range; refine wpList_range_own _ rfl _ 96 rfl 3 42 keyInt Try.underlying96 Rs m S.puts.length D rfl ((H7.out.alloc _).alloc _) ?_; intro w0 hrg0 hg0 hs0; go_frame)
  have e2 : ((w.alloc (Obj.cells (cnCells 0 0 0 0 0) 98)).alloc (Obj.cells (cnCells S.reads S.writes S.flushes S.refused 0) 98)).heap.size = w.heap.size + 2 := by simp
  rw [e2] at hrg0 hs0 ⊢
  have hB0 := (hg0.block w.heap.size (by rw [e2]; omega) (by simp)).trans ((Below.heap_alloc _ _ _ (by simp)).trans (heap_alloc_new w (Obj.cells (cnCells 0 0 0 0 0) 98)))
  have hB1 : w0.heap[w.heap.size + 1]? = some (Obj.cells (cnCells S.reads S.writes S.flushes S.refused 0) 98 (0, 0)) := by
    refine (hg0.block (w.heap.size + 1) (by rw [e2]; omega) (by simp)).trans ?_
    have := heap_alloc_new (w.alloc (Obj.cells (cnCells 0 0 0 0 0) 98)) (Obj.cells (cnCells S.reads S.writes S.flushes S.refused 0) 98)
    have e1 : (w.alloc (Obj.cells (cnCells 0 0 0 0 0) 98)).heap.size = w.heap.size + 1 := by simp
    rw [e1] at this
    exact this
  have hbl : Below w.heap.size w w0 := (((Below.refl _ w).alloc (Nat.le_refl _) _).alloc (by simp) _).grown hg0 (by rw [e2]; omega) (fun j hj => by cases hj)
  have h0 : metIn (has D) S.puts = 0 := metIn_start (fun q hq => H8.out.has (pend_mem hq))
  clear hg0 hs0 c1 c4 c5 c6 c7 c8 e2
  go_loopw [5] (fun _ wr => ∃ (left : Lit → Bool) (cnt : Nat), wr.ranges Try.prog 3 Rs m (w.heap.size + 2) S.puts.length D left cnt ∧
      wr.heap[w.heap.size]? = some (Obj.cells (cnCells 0 0 0 0 0) 98 (0, 0)) ∧
      wr.heap[w.heap.size + 1]? = some (Obj.cells (cnCells S.reads S.writes S.flushes S.refused (metIn left S.puts : Nat)) 98 (0, 0)) ∧ Below w.heap.size w wr)
    (fun _ wr => wr.rangeLeft m (w.heap.size + 2))
  case atStart => exact ⟨_, _, hrg0, hB0, by rw [h0]; exact hB1, hbl⟩
  case round =>
    clear hrg0 hB0 hB1 hbl h0
    obtain ⟨left, cnt, hrg, hB0, hB1, hb⟩ := hrel
    have hle := metIn_le left S.puts
    go_wp2_with (at_next; refine wpList_next_ranges _ rfl _ rfl 3 keyInt Rs (Value.int .i64) mkS (fun key kl hkey => by obtain ⟨x, rfl, _⟩ := Maps.keyOf_int_inv Try.underlying3 hkey; exact ⟨x, rfl⟩) Rs_inv m (w.heap.size + 2) S.puts.length _ _ _ rfl hrg ?_ ?_)
    · intro _ hl0
      rw [metIn_end hl0] at hB1
      have k0 := cell_of_block hB1 (j := 0) rfl
      have k1 := cell_of_block hB1 (j := 1) rfl
      have k2 := cell_of_block hB1 (j := 2) rfl
      have k3 := cell_of_block hB1 (j := 3) rfl
      have k4 := cell_of_block hB1 (j := 4) rfl
      have r0 := cell_of_block hB0 (j := 0) rfl
      have r1 := cell_of_block hB0 (j := 1) rfl
      have r2 := cell_of_block hB0 (j := 2) rfl
      have r3 := cell_of_block hB0 (j := 3) rfl
      have r4 := cell_of_block hB0 (j := 4) rfl
      have g0 := frozen_of_block hB0 0
      have g1 := frozen_of_block hB0 1
      have g2 := frozen_of_block hB0 2
      have g3 := frozen_of_block hB0 3
      have g4 := frozen_of_block hB0 4
      go_wp2
      have h5 := set5 (.int .i64 S.reads) (.int .i64 S.writes) (.int .i64 S.flushes) (.int .i64 S.refused) (.int .i64 S.puts.length) hB0
      have q0 := cell_of_block h5 (j := 0) rfl
      have q1 := cell_of_block h5 (j := 1) rfl
      have q2 := cell_of_block h5 (j := 2) rfl
      have q3 := cell_of_block h5 (j := 3) rfl
      have q4 := cell_of_block h5 (j := 4) rfl
      refine bodyPost_ret (v := .agg (cnCells S.reads S.writes S.flushes S.refused S.puts.length)) (by simp [results, Try.results67, go_sem, cnCells, q0, q1, q2, q3, q4]) rfl ⟨rfl, ?_⟩
      exact ((((hb.setCell (Nat.le_refl _) _).setCell (Nat.le_refl _) _).setCell (Nat.le_refl _) _).setCell (Nat.le_refl _) _).setCell (Nat.le_refl _) _
    · intro x ca cn cc kl yd yp w2 cnt2 hkey hlk hv hat hrg2 hlt hg2 hs2 hen
      obtain ⟨k, rfl, rfl, hp, hc⟩ := H8.out.met hkey hv hat
      obtain ⟨rfl, rfl, rfl⟩ : ca = _ ∧ cn = _ ∧ cc = _ := by simpa using hc
      clear hc
      have hst := Hid.mk (metIn_step left k hlk S.puts)
      have hpl2 : metIn left S.puts + (pendOf S.puts k).length ≤ S.puts.length := by have := metIn_le (fun z => left z && !z.sameKey (kk k)) S.puts; rw [hst.out] at this; exact this
      have hsz := hb.size
      have hB0' := (hg2.block w.heap.size (by have := (Array.getElem?_eq_some_iff.1 hB0).1; omega) (by simp)).trans hB0
      have hB1' := (hg2.block (w.heap.size + 1) (by have := (Array.getElem?_eq_some_iff.1 hB1).1; omega) (by simp)).trans hB1
      have hb' : Below w.heap.size w w2 := hb.grown hg2 hb.size (fun j hj => by cases hj; omega)
      have k4 := cell_of_block hB1' (j := 4) rfl
      have g4 := frozen_of_block hB1' 4
      clear hkey hv hat hs2 hg2 hB0 hB1
      go_wp2
      go_roundw
      case rel =>
        refine ⟨_, cnt2, hrg2.kept (grown_setCell _ _ _) (fun e => by have := Option.some.inj e; simp only at this; omega) (fun e => by have := Option.some.inj e; simp only at this; omega), ?_, ?_, hb'.setCell (Nat.le_succ _) _⟩
        · rw [Below.heap_setCell _ _ _ _ (by simp)]; exact hB0'
        · rw [hst.out, heap_setCell_same _ _ _ _ _ _ hB1']
          simp [cnCells]
      case measure =>
        rw [(hrg2.kept (grown_setCell _ _ _) (fun e => by have := Option.some.inj e; simp only at this; omega) (fun e => by have := Option.some.inj e; simp only at this; omega)).left_eq, hrg.left_eq]
        exact hlt
end Go.Proofs.Ytkkmkogpbhcpmaa
