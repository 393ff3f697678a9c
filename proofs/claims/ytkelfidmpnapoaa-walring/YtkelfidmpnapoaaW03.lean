import Derived.Test.YtkelfidmpnapoaaW02
section
namespace Go.Proofs.Ytkelfidmpnapoaa
open Go.RowKit Go.Maps

/-- An image out of its sectors. -/
def imOf (s : Nat) (f : Nat → List Int) : List Int := (List.range s).flatMap f

theorem imOf_succ (s : Nat) (f : Nat → List Int) : imOf (s + 1) f = imOf s f ++ f s := by simp [imOf, List.range_succ]

theorem imOf_len (s : Nat) (f : Nat → List Int) (h : ∀ k, k < s → (f k).length = 512) : (imOf s f).length = s * 512 := by
  induction s with
  | zero => simp [imOf]
  | succ s ih => rw [imOf_succ, List.length_append, ih (fun k hk => h k (by omega)), h s (by omega)]; omega

theorem dsec_len {im : List Int} {s k : Nat} (h : im.length = s * 512) (hk : k < s) : (dsec im k).length = 512 := by simp [dsec]; omega

theorem sec_app_left (a b : List Int) {s k : Nat} (ha : a.length = s * 512) (hk : k < s) : dsec (a ++ b) k = dsec a k := by
  unfold dsec
  rw [List.drop_append_of_le_length (by omega), List.take_append_of_le_length (by simp; omega)]

theorem sec_app_right (a b : List Int) {s : Nat} (ha : a.length = s * 512) (hb : b.length = 512) : dsec (a ++ b) s = b := by
  unfold dsec
  rw [← ha, List.drop_left, List.take_of_length_le (by omega)]

theorem sec_imOf (s : Nat) (f : Nat → List Int) (h : ∀ k, k < s → (f k).length = 512) (k : Nat) (hk : k < s) : dsec (imOf s f) k = f k := by
  induction s with
  | zero => omega
  | succ s ih =>
    have hl := imOf_len s f (fun k hk => h k (by omega))
    rw [imOf_succ]
    by_cases e : k = s
    · subst e
      exact sec_app_right _ _ hl (h k (by omega))
    · rw [sec_app_left _ _ hl (by omega)]
      exact ih (fun k hk => h k (by omega)) (by omega)

/-- Two images with the same sectors are one. -/
theorem im_ext : ∀ (s : Nat) {a b : List Int}, a.length = s * 512 → b.length = s * 512 → (∀ k, k < s → dsec a k = dsec b k) → a = b
  | 0, a, b, ha, hb, _ => by
    rw [List.eq_nil_of_length_eq_zero (by omega : a.length = 0), List.eq_nil_of_length_eq_zero (by omega : b.length = 0)]
  | s + 1, a, b, ha, hb, h => by
    have h0 := h 0 (by omega)
    simp [dsec] at h0
    have ih := im_ext s (a := a.drop 512) (b := b.drop 512) (by simp; omega) (by simp; omega) (fun k hk => by
      have := h (k + 1) (by omega)
      simp only [dsec, List.drop_drop] at this ⊢
      rw [show 512 + k * 512 = (k + 1) * 512 by omega]
      exact this)
    rw [← List.take_append_drop 512 a, ← List.take_append_drop 512 b, h0, ih]

theorem splice_len {α : Type} (L : List α) (o : Nat) (cs : List α) (h : o + cs.length ≤ L.length) : (splice L o cs).length = L.length := by simp [splice]; omega

theorem bs_splice (im l : List Int) (o : Nat) : splice (bs im) o (bs l) = bs (splice im o l) := by simp [splice, bs]

theorem getElem_splice (L : List Int) (o : Nat) (cs : List Int) (h : o + cs.length ≤ L.length) (i : Nat) : (splice L o cs)[i]? = if o ≤ i ∧ i < o + cs.length then cs[i - o]? else L[i]? := by
  unfold splice
  by_cases h1 : i < o
  · rw [List.getElem?_append_left (by simp; omega), List.getElem?_take, if_pos h1, if_neg (by omega)]
  · rw [List.getElem?_append_right (by simp; omega)]
    have e : (L.take o).length = o := by simp; omega
    rw [e]
    by_cases h2 : i < o + cs.length
    · rw [List.getElem?_append_left (by omega), if_pos ⟨by omega, h2⟩]
    · rw [List.getElem?_append_right (by omega), List.getElem?_drop, if_neg (by omega)]
      congr 1
      omega

theorem getElem_sec (im : List Int) (k i : Nat) : (dsec im k)[i]? = if i < 512 then im[k * 512 + i]? else none := by
  unfold dsec
  rw [List.getElem?_take]
  split
  · rw [List.getElem?_drop]
  · rfl

/-- One sector written anew. -/
theorem sec_splice {im l : List Int} {s k j : Nat} (him : im.length = s * 512) (hl : l.length = 512) (hk : k < s) : dsec (splice im (k * 512) l) j = if j = k then l else dsec im j := by
  apply List.ext_getElem?
  intro i
  rw [getElem_sec]
  by_cases hi : i < 512
  · rw [if_pos hi, getElem_splice _ _ _ (by omega)]
    by_cases e : j = k
    · subst e
      rw [if_pos (by omega), if_pos rfl]
      congr 1
      omega
    · rw [if_neg (by omega), if_neg e, getElem_sec, if_pos hi]
  · rw [if_neg hi]
    split
    · rw [List.getElem?_eq_none (by omega)]
    · rw [getElem_sec, if_neg hi]

theorem take_splice {α : Type} (L : List α) (o n : Nat) (cs : List α) (h : o + cs.length ≤ n) (hn : n ≤ L.length) : (splice L o cs).take n = splice (L.take n) o cs := by
  have e1 : (L.take o).length = o := by rw [List.length_take]; omega
  unfold splice
  rw [List.take_append, List.take_append, e1, List.take_of_length_le (l := L.take o) (by omega), List.take_of_length_le (l := cs) (by omega), List.drop_take, List.take_take, Nat.min_eq_left (by omega : o ≤ n), Nat.sub_sub]

/-- copy of bytes into a row. -/
theorem RowAt.copied {w : World} {g c : Nat} {im : List Int} (h : RowAt w 5 g c (bs im)) (ty : TypeId) (dp : Option Addr) (off dLen dCap : Nat) (a : Option Addr) (sLen sCap : Nat) (l : List Int) (hs : Src w a sLen l)
    (hd : 0 < dLen → dp = some ⟨g, off, none⟩) (hfit : off + dLen ≤ im.length) :
    ∃ w2, (Builtin.copy_ #[32, 32] ty #[.slice dp dLen dCap, .slice a sLen sCap]).run Try.prog w = .ok (goInt (Nat.min sLen dLen)) w2 ∧
      RowAt w2 5 g c (bs (splice im off (l.take dLen))) ∧ Keeps (fun k => k = g) w w2 ∧ w2.heap.size = w.heap.size := by
  have hle := h.le
  obtain ⟨cur, hb, hc, ht, hm⟩ := h
  have hlen : (bs im).length = im.length := by simp [bs]
  rw [hlen] at hle ht
  obtain ⟨w2, hrun, hh, hk, hsz⟩ := copy_run w ty dp g off dLen dCap a sLen sCap cur.toList l (by simpa using hb) hs hd (by simp; omega)
  have hl2 : (bs (l.take dLen)).length ≤ dLen := by simp [bs]; omega
  have hlb : (bs (l.take dLen)).length = (l.take dLen).length := by simp [bs]
  refine ⟨w2, hrun, ⟨_, hh, ?_, ?_, hm⟩, hk, hsz⟩
  · rw [List.size_toArray, splice_len _ _ _ (by simp only [Array.length_toList]; omega)]
    simpa using hc
  · have e : (bs (splice im off (l.take dLen))).length = im.length := by
      rw [← bs_splice, splice_len _ _ _ (by rw [hlen]; omega), hlen]
    rw [e, List.toList_toArray, take_splice _ _ _ _ (by omega) (by simp; omega), ht, bs_splice]

end Go.Proofs.Ytkelfidmpnapoaa
end

section
namespace Go.Proofs.Ytkelfidmpnapoaa
open Go.RowKit Go.Maps
open Go.ChangeMaps (setBlock heap_setBlock_same heap_setBlock_other)

theorem clear_run {w : World} {m n : Nat} {D : DataW Value} (h : w.ownsMap Try.prog 3 Rs m n D) :
    ∃ w', (∀ ty, (Builtin.clear_ #[73] ty #[.map (some m)]).run Try.prog w = .ok (.tuple #[]) w') ∧ w'.ownsMap Try.prog 3 Rs m 0 (.map []) ∧ Keeps (fun k => k = m) w w' ∧ w'.heap.size = w.heap.size := by
  obtain ⟨es, clock, hb, F, _, _⟩ := h
  refine ⟨setBlock w m (.map #[] clock), ?_, ⟨#[], clock, heap_setBlock_same hb _, ⟨by simp, ?_, by simp⟩, by simp, by simp⟩, ⟨rfl, rfl, rfl, by simp [setBlock], fun k _ hk => heap_setBlock_other hb _ hk⟩, by simp [setBlock]⟩
  · intro ty
    simp [Builtin.clear_, go_sem, MapKept.run_getObj_map hb, MapKept.run_setObj_map _ hb, setBlock]
  · exact MapKept.stamped_empty _
theorem DiskRaw.cleared {w w' : World} {F : Nat → Prop} {p s : Nat} {S : DS} {gi ci m : Nat} {D : DataW Value} {gr cr : Nat → Nat} (h : DiskRaw w F p s S gi ci m D gr cr) (hm : w'.ownsMap Try.prog 3 Rs m 0 (.map [])) (hk : Keeps (fun k => k = m) w w') :
    DiskRaw w' F p s { S with puts := [] } gi ci m (.map []) gr cr := by
  have hne : ∀ (b : Nat) (cur : Array Value) (e : TypeId) (fz : Nat × Nat), w.heap[b]? = some (Obj.cells cur e fz) → w'.heap[b]? = w.heap[b]? := fun b cur e fz hb =>
    hk.block b (Array.getElem?_eq_some_iff.1 hb).1 (fun e1 => ownsMap_ne h.map (e1 ▸ hb) rfl)
  refine ⟨h.fp, h.fgi, h.fm, fun k hf => Nat.lt_of_lt_of_le (h.lt k hf) hk.size, (hne p _ _ _ h.blk).trans h.blk, ?_, hm, PendAt.empty _ _ _ _ _, ⟨h.ok.len, h.ok.lo, h.ok.hi, by simp, h.ok.fuse⟩⟩
  have hi := h.img
  obtain ⟨cur, hb, _⟩ := hi
  exact h.img.agree (hne gi _ _ _ hb)

theorem DiskRaw.agree {w w' : World} {F : Nat → Prop} {p s : Nat} {S : DS} {gi ci m : Nat} {D : DataW Value} {gr cr : Nat → Nat} (h : DiskRaw w F p s S gi ci m D gr cr) (hs : w.heap.size ≤ w'.heap.size) (hb : ∀ k, F k → w'.heap[k]? = w.heap[k]?) :
    DiskRaw w' F p s S gi ci m D gr cr :=
  ⟨h.fp, h.fgi, h.fm, fun k hk => Nat.lt_of_lt_of_le (h.lt k hk) hs, (hb p h.fp).trans h.blk, h.img.agree (hb gi h.fgi), ownsMap_agree h.map (hb m h.fm), h.pend.agree hb, h.ok⟩

theorem DiskRaw.flushed {w : World} {F : Nat → Prop} {p s : Nat} {S : DS} {gi ci m : Nat} {D : DataW Value} {gr cr : Nat → Nat} (h : DiskRaw w F p s S gi ci m D gr cr) :
    DiskRaw (w.setCell ⟨p, 6, none⟩ (.int .i64 (wrap64 (S.flushes + 1)))) F p s { S with flushes := wrap64 (S.flushes + 1) } gi ci m D gr cr :=
  h.turn (h.set 6 _).2 ((h.set 6 _).1.trans (by simp [dkCells])) rfl rfl h.ok.fuse

/-- Where the image's bytes alone have turned. -/
theorem DiskRaw.imaged {w w' : World} {F : Nat → Prop} {p s : Nat} {S : DS} {gi ci m : Nat} {D : DataW Value} {gr cr : Nat → Nat} (h : DiskRaw w F p s S gi ci m D gr cr) {im : List Int} (hr : RowAt w' 5 gi ci (bs im)) (hl : im.length = s * 512) (hk : Keeps (fun k => k = gi) w w') :
    DiskRaw w' F p s { S with im := im } gi ci m D gr cr := by
  have hi := h.img
  obtain ⟨cur, hb, _⟩ := hi
  refine ⟨h.fp, h.fgi, h.fm, fun k hf => Nat.lt_of_lt_of_le (h.lt k hf) hk.size, (hk.block p (h.lt p h.fp) (fun e => (h.img.ne h.blk (by decide)) e.symm)).trans h.blk, hr, ownsMap_agree h.map (hk.block m (h.lt m h.fm) (ownsMap_ne h.map hb)),
    h.pend.carry (fun g c xs _ hne hr => hr.agree (hk.block g hr.lt hne)) (fun g c xs _ hr => hr.other hk hb (by decide)), ⟨hl, h.ok.lo, h.ok.hi, h.ok.puts, h.ok.fuse⟩⟩

end Go.Proofs.Ytkelfidmpnapoaa
end

section
namespace Go.Proofs.Ytkelfidmpnapoaa
open Go.RowKit Go.Maps

def DS.flush (S : DS) (s : Nat) : DS := { S with im := imOf s S.now, puts := [], flushes := wrap64 (S.flushes + 1) }

theorem flush_dead {w : World} {F : Nat → Prop} {p s : Nat} {S : DS} (h : DiskAt w F p s S) (hf : S.fuse = 0) :
    Calls Try.prog 27 #[.pointer (some ⟨p, 0, none⟩)] w fun e w' => e = .returned (.int .i64 3) ∧ w' = w := by
  have hb := burnt_at h
  rw [hf] at hb
  go_enter Try.func27, Try.ntmps27
  go_wp2_with (go_at_call 36; refine hb.mono ?_; rintro e w' ⟨rfl, rfl⟩)
  go_ret
  exact ⟨rfl, rfl⟩

/-- One sector is written home. -/
theorem flush_step {w : World} {F : Nat → Prop} {p s : Nat} {S : DS} {gi ci m : Nat} {D : DataW Value} {gr cr : Nat → Nat} (h : DiskRaw w F p s S gi ci m D gr cr) {k : Nat} (hp : pendOf S.puts k ≠ []) :
    k < s ∧ ∃ g cg, w.cell? ⟨gr k, (pendOf S.puts k).length - 1, none⟩ = some (.slice (some ⟨g, 0, none⟩) 512 cg) ∧
      ∃ w2, (Builtin.copy_ #[32, 32] 3 #[.slice (some ⟨gi, k * 512, none⟩) 512 512, .slice (some ⟨g, 0, none⟩) 512 cg]).run Try.prog w = .ok (goInt 512) w2 ∧
        DiskRaw w2 F p s { S with im := splice S.im (k * 512) (S.now k) } gi ci m D gr cr ∧ Keeps (fun b => b = gi) w w2 ∧ w2.heap.size = w.heap.size := by
  have hks : k < s := by
    obtain ⟨l, hl⟩ := List.exists_mem_of_ne_nil _ hp
    unfold pendOf at hl
    obtain ⟨q, hq, _⟩ := List.mem_map.1 hl
    obtain ⟨hq1, hq2⟩ := List.mem_filter.1 hq
    have := (h.ok.puts q hq1).1
    simp at hq2
    omega
  have hn : 0 < (pendOf S.puts k).length := List.length_pos_iff.2 hp
  obtain ⟨_, xs, hrow, hrows⟩ := h.pend.row k hp
  obtain ⟨g, cg, hx, hF, hne, hr⟩ := hrows.get ((pendOf S.puts k).length - 1) (by omega)
  have hl := pend_len h.ok (k := k) (j := (pendOf S.puts k).length - 1) (by omega)
  have hnow : S.now k = (pendOf S.puts k)[(pendOf S.puts k).length - 1] := by
    simp [DS.now, DS.cand, List.getD, show ¬ (pendOf S.puts k).length = 0 by omega, List.getElem?_eq_getElem (show (pendOf S.puts k).length - 1 < (pendOf S.puts k).length by omega)]
  have hsrc := hr.src
  rw [hl] at hsrc
  have hlen := h.ok.len
  obtain ⟨w2, hrun, hr2, hk2, hsz⟩ := h.img.copied 3 (some ⟨gi, k * 512, none⟩) (k * 512) 512 512 (some ⟨g, 0, none⟩) 512 cg _ hsrc (fun _ => rfl) (by omega)
  rw [List.take_of_length_le (by omega), ← hnow] at hr2
  exact ⟨hks, g, cg, hrow.cell hx, w2, hrun, h.imaged hr2 (by rw [splice_len _ _ _ (by rw [hnow]; omega)]; exact hlen) hk2, hk2, hsz⟩

theorem now_im (S : DS) (im : List Int) (k : Nat) (hp : pendOf S.puts k ≠ []) : DS.now { S with im := im } k = S.now k := by
  have hn : 0 < (pendOf S.puts k).length := List.length_pos_iff.2 hp
  simp [DS.now, DS.cand, show ¬ (pendOf S.puts k).length = 0 by omega]

theorem now_none (S : DS) (k : Nat) (hp : pendOf S.puts k = []) : S.now k = dsec S.im k := by simp [DS.now, DS.cand, hp]

theorem now_len {S : DS} {s : Nat} (h : S.Ok s) : ∀ k, k < s → (S.now k).length = 512 := fun _ hk => DS.cand_len h hk (Nat.le_refl _)

theorem flush_end {w wr w3 : World} {F : Nat → Prop} {p s : Nat} {S : DS} {gi ci m : Nat} {D : DataW Value} {gr cr : Nat → Nat} {im : List Int} (h : DiskRaw w F p s S gi ci m D gr cr) (hd : DiskRaw wr F p s { S with im := im } gi ci m D gr cr)
    (hl : ∀ k, k < s → dsec im k = S.now k) (hk : Keeps F w wr) (hm3 : w3.ownsMap Try.prog 3 Rs m 0 (.map [])) (hk3 : Keeps (fun k => k = m) wr w3) :
    w3.cell? ⟨p, 6, none⟩ = some (.int .i64 S.flushes) ∧ w3.frozen? ⟨p, 6, none⟩ = false ∧
    Calls Try.prog 45 #[.pointer (some ⟨p, 0, none⟩)] (w3.setCell ⟨p, 6, none⟩ (.int .i64 (wrap64 (S.flushes + 1)))) fun e w' => e = .returned (.tuple #[]) ∧ DiskAt w' F p s ((S.flush s).spend) ∧ Keeps F w w' := by
  have e : im = imOf s S.now := im_ext s hd.ok.len (imOf_len s _ (now_len h.ok)) (fun k hk => by
    rw [hl k hk, sec_imOf s _ (now_len h.ok) k hk])
  subst e
  have hd3 := hd.cleared hm3 hk3
  have hd4 := hd3.flushed
  have hk4 : Keeps F w (w3.setCell ⟨p, 6, none⟩ (.int .i64 (wrap64 (S.flushes + 1)))) := (hk.trans hk3 (fun j hj => .inl (hj ▸ h.fm))).trans (Keeps.setCell (F := fun k => k = p) w3 (p := ⟨p, 6, none⟩) rfl _) (fun j hj => .inl (hj ▸ h.fp))
  refine ⟨cell_of_block hd3.blk (j := 6) rfl, frozen_of_block hd3.blk 6, (spend_low p S.fuse _ (cell_of_block hd4.blk (j := 2) rfl) (frozen_of_block hd4.blk 2) hd4.ok.fuse.1).mono ?_⟩
  rintro e w' ⟨rfl, rfl⟩
  have h5 := hd4.spends
  exact ⟨rfl, ⟨gi, ci, m, _, gr, cr, h5.1⟩, hk4.trans h5.2 (fun j hj => .inl hj)⟩

set_option maxHeartbeats 4000000 in
set_option maxRecDepth 100000 in
theorem flush_ok {w : World} {F : Nat → Prop} {p s : Nat} {S : DS} (hd : DiskAt w F p s S) (hf : S.fuse ≠ 0) (hbig : S.puts.length + 1 ≤ 5000000000000) :
    Calls Try.prog 27 #[.pointer (some ⟨p, 0, none⟩)] w fun e w' => e = .returned (.int .i64 0) ∧ DiskAt w' F p s ((S.flush s).spend) ∧ Keeps F w w' := by
  have hb := burnt_at hd
  rw [show (S.fuse == 0) = false by simp [hf]] at hb
  obtain ⟨gi, ci, m, D, gr, cr, h⟩ := hd
  have c1 := cell_of_block h.blk (j := 1) rfl
  have H := Hid.mk h
  clear h
  go_enter Try.func27, Try.ntmps27
  go_wp2_with (first | (go_at_call 36; refine hb.mono ?_; rintro e w' ⟨rfl, hw⟩; have hw' := hw.symm; subst hw') | (at_range; refine wpList_range_own _ rfl _ 73 rfl 3 39 keyInt Try.underlying73 Rs m S.puts.length D rfl H.out.map ?_; intro w0 hrg0 hg0 hs0; go_frame))
  have hk0 : Keeps F w w0 := ⟨hg0.os, hg0.tape, hg0.output, hg0.size, fun k hk _ => hg0.block k hk (by simp)⟩
  have hd0 : DiskRaw w0 F p s { S with im := S.im } gi ci m D gr cr := H.out.agree hg0.size (fun k hk => hg0.block k (H.out.lt k hk) (by simp))
  have hl0 : ∀ k, k < s → dsec S.im k = if has D (kk k) then dsec S.im k else S.now k := fun k _ => by
    by_cases hp : pendOf S.puts k = []
    · rw [H.out.pend.nope k hp]; simp [now_none S k hp]
    · rw [H.out.pend.has hp]; simp
  clear hg0 hs0 c1 hb
  go_loopw [3, 4] (fun _ _ wr => ∃ (left : Lit → Bool) (cnt : Nat) (im : List Int), wr.ranges Try.prog 3 Rs m w.heap.size S.puts.length D left cnt ∧ DiskRaw wr F p s { S with im := im } gi ci m D gr cr ∧
      (∀ k, k < s → dsec im k = if left (kk k) then dsec S.im k else S.now k) ∧ Keeps F w wr)
    (fun _ _ wr => wr.rangeLeft m w.heap.size)
  case atStart => exact ⟨_, _, S.im, hrg0, hd0, hl0, hk0⟩
  case round =>
    clear hrg0 hd0 hl0 hk0
    obtain ⟨left, cnt, im, hrg, hd, hl, hk⟩ := hrel
    have Hd := Hid.mk hd
    have Hl := Hid.mk hl
    clear hd hl
    go_wp2_with (at_next; refine wpList_next_ranges _ rfl _ rfl 3 keyInt Rs (Value.int .i64) mkS (fun key kl hkey => by obtain ⟨x, rfl, _⟩ := Maps.keyOf_int_inv Try.underlying3 hkey; exact ⟨x, rfl⟩) Rs_inv m w.heap.size S.puts.length _ _ _ rfl hrg ?_ ?_)
    · intro _ hl0
      obtain ⟨w3, hrun3, hm3, hk3, _⟩ := clear_run Hd.out.map
      have c1 := cell_of_block Hd.out.blk (j := 1) rfl
      obtain ⟨c6, f6, hs2⟩ := flush_end H.out Hd.out (fun k hk => by rw [Hl.out k hk, hl0]; simp) hk hm3 hk3
      clear hk3 hm3 Hd Hl H hk hrg hl0
      go_wp2_with (go_at_call 45; refine hs2.mono ?_; rintro e w5 ⟨rfl, hd5, hk5⟩)
      go_ret
      exact ⟨rfl, hd5, hk5⟩
    · intro x ca cn cc kl yd yp w2 cnt2 hkey hlk hv hat hrg2 hlt hg2 hs2 hen
      obtain ⟨k, rfl, rfl, hp0, hc⟩ := Hd.out.pend.met hkey hv hat
      have hp : pendOf S.puts k ≠ [] := hp0
      obtain ⟨n', hn'⟩ : ∃ n', (pendOf S.puts k).length = n' + 1 := ⟨(pendOf S.puts k).length - 1, by have := List.length_pos_iff.2 hp; omega⟩
      have hnot : ∀ j, F j → j ≠ w.heap.size := fun j hj e => by have := H.out.lt j hj; omega
      have hd2 : DiskRaw w2.drew F p s { S with im := im } gi ci m D gr cr := Hd.out.agree hg2.size (fun j hj => hg2.block j (Hd.out.lt j hj) (by simpa using hnot j hj))
      obtain ⟨hks, g, cg, hcell, w3, hrun, hd3, hk3, hsz3⟩ := flush_step hd2 hp
      have hs := hd2.ok.hi
      have hlim := hd2.img.le
      have hdu := durable_low p gi (s * 512) ci s k k w2.drew (cell_of_block hd2.blk (j := 0) rfl) rfl hks rfl hs (by simp [bs, hd2.ok.len] at hlim; omega)
      obtain ⟨rfl, rfl, rfl⟩ : ca = _ ∧ cn = _ ∧ cc = _ := by simpa using hc
      simp only [hn'] at hen hcell
      have hcell' : w2.cell? ⟨gr k, n', none⟩ = some (.slice (some ⟨g, 0, none⟩) 512 cg) := by simpa using hcell
      have hn2 : n' + 1 ≤ S.puts.length := by rw [← hn']; exact pendOf_len S.puts k
      have hrow2 := (hd2.pend.row k hp).2
      have hb3 : w3.cell? ⟨gr k, n', none⟩ = some (.slice (some ⟨g, 0, none⟩) 512 cg) := by
        obtain ⟨xs, hrow, _⟩ := hrow2
        have hi := hd2.img
        obtain ⟨cur, hbi, _⟩ := hi
        exact (World.cell?_of_block (w := w2.drew) (a := ⟨gr k, n', none⟩) (hk3.block (gr k) hrow.lt (hrow.ne hbi (by decide)))).trans hcell'
      have hnow : DS.now { S with im := im } k = S.now k := now_im S im k hp
      rw [hnow] at hd3
      have hl3 : ∀ j, j < s → dsec (splice im (k * 512) (S.now k)) j = if (left (kk j) && !(kk j).sameKey (kk k)) then dsec S.im j else S.now j := fun j hj => by
        rw [sec_splice Hd.out.ok.len (now_len H.out.ok k hks) hks, same_kk]
        by_cases e : j = k
        · subst e; simp
        · rw [if_neg e, Hl.out j hj]; simp [e]
      have hgi := H.out.lt gi H.out.fgi
      have hg3 : w2.grownBy w3 (some gi) := ⟨hk3.os, hk3.tape, hk3.output, hk3.size, fun j hj hne => hk3.block j hj (fun e => hne (by rw [e]))⟩
      have hmi : m ≠ gi := by
        have hi := H.out.img
        obtain ⟨cur, hbi, _⟩ := hi
        exact ownsMap_ne H.out.map hbi
      have hrg3 := hrg2.kept hg3 (by simpa using hmi) (by simp; omega)
      have hk23 : Keeps F w w3 := (hk.trans (G := fun j => j = w.heap.size) ⟨hg2.os, hg2.tape, hg2.output, hg2.size, fun j hj hne => hg2.block j hj (by simpa using hne)⟩ (fun j hj => .inr (by omega))).trans (b := w2) (G := fun j => j = gi) ⟨hk3.os, hk3.tape, hk3.output, hk3.size, hk3.block⟩ (fun j hj => .inl (hj ▸ H.out.fgi))
      have Hd3 := Hid.mk hd3
      have Hl3 := Hid.mk hl3
      have Hrg3 := Hid.mk hrg3
      have hcd : w2.drew.cell? ⟨gr k, n', none⟩ = some (.slice (some ⟨g, 0, none⟩) 512 cg) := hcell'
      clear hn' hc hkey hv hat hs2 hcell hd3 hl3 hrg3 hg3 hrow2 hg2 hk3 hd2 hk
      dsimp only [mkS] at hen ⊢
      have hi0 : (0 : Int) ≤ (n' : Int) := by omega
      have hi1 : (n' : Int) < (n' : Int) + 1 := by omega
      have hi2 : IntKind.i64.wrap (n' : Int) = (n' : Int) := by rw [IntKind.wrap_i64]; omega
      go_wp2_with fail
      go_region_held3 (fun w' => w'.cell? ⟨gr k, n', none⟩ = some (.slice (some ⟨g, 0, none⟩) 512 cg)) (assumption) (first | (go_at_call 44; refine hdu.mono ?_; rintro e w' ⟨rfl, rfl⟩))
      all_goals
        go_wp2
        go_roundw
        case rel => exact ⟨_, cnt2, _, Hrg3.out, Hd3.out, Hl3.out, hk23⟩
        case measure => rw [Hrg3.out.left_eq, hrg.left_eq]; exact hlt
end Go.Proofs.Ytkelfidmpnapoaa
end

section
namespace Go.Proofs.Ytkelfidmpnapoaa
open Go.RowKit Go.Maps

theorem write_dead {w : World} {F : Nat → Prop} {p s : Nat} {S : DS} (h : DiskAt w F p s S) (at_ : Int) (a : Option Addr) (n c : Nat) (hf : S.fuse = 0) :
    Calls Try.prog 30 #[.pointer (some ⟨p, 0, none⟩), .int .i64 at_, .slice a n c] w fun e w' => e = .returned (.int .i64 3) ∧ w' = w := by
  have hb := burnt_at h
  rw [hf] at hb
  go_enter Try.func30, Try.ntmps30
  go_wp2_with (go_at_call 36; refine hb.mono ?_; rintro e w' ⟨rfl, rfl⟩)
  go_ret
  exact ⟨rfl, rfl⟩

theorem write_range {w : World} {F : Nat → Prop} {p s : Nat} {S : DS} (h : DiskAt w F p s S) (at_ : Int) (a0 : Option Addr) (n c : Nat) (hf : S.fuse ≠ 0) (ha : at_ < 0 ∨ (s : Int) ≤ at_) :
    Calls Try.prog 30 #[.pointer (some ⟨p, 0, none⟩), .int .i64 at_, .slice a0 n c] w fun e w' => e = .returned (.int .i64 11) ∧ DiskAt w' F p s S.refuse ∧ Keeps F w w' := by
  have hb := burnt_at h
  rw [show (S.fuse == 0) = false by simp [hf]] at hb
  obtain ⟨gi, ci, m, D, gr, cr, h⟩ := h
  have hs := h.ok.hi
  have hh := has_low p _ (s * 512) ci at_ w (by omega) (cell_of_block h.blk (j := 0) rfl)
  rw [show s * 512 / 512 = s by omega, show (decide (0 ≤ at_) && decide (at_ < (s : Int))) = false by simp; omega] at hh
  have hr := refuse_low p S.refused 11 w (cell_of_block h.blk (j := 7) rfl) (frozen_of_block h.blk 7)
  have hr2 : Calls Try.prog 53 #[.pointer (some ⟨p, 0, none⟩), .int .i64 11] w fun e w' => e = .returned (.int .i64 11) ∧ DiskAt w' F p s S.refuse ∧ Keeps F w w' :=
    hr.mono (by rintro e w' ⟨rfl, rfl⟩; exact ⟨rfl, ⟨gi, ci, m, D, gr, cr, h.refused⟩, Keeps.setCell w h.fp _⟩)
  clear h ha hr
  go_enter Try.func30, Try.ntmps30
  go_wp2_with (first | (go_at_call 36; refine hb.mono ?_; rintro e w' ⟨rfl, hw⟩; have hw' := hw.symm; subst hw') | (go_at_call 52; refine hh.mono ?_; rintro e w' ⟨rfl, hw⟩; have hw' := hw.symm; subst hw') | (go_at_call 53; refine hr2.mono ?_; rintro e w' ⟨rfl, hd, hk⟩))
  go_ret
  exact ⟨rfl, hd, hk⟩

theorem write_length {w : World} {F : Nat → Prop} {p s : Nat} {S : DS} (h : DiskAt w F p s S) (k : Nat) (a0 : Option Addr) (n c : Nat) (hf : S.fuse ≠ 0) (hk : k < s) (hn : n ≠ 512) :
    Calls Try.prog 30 #[.pointer (some ⟨p, 0, none⟩), .int .i64 (k : Int), .slice a0 n c] w fun e w' => e = .returned (.int .i64 2) ∧ DiskAt w' F p s S.refuse ∧ Keeps F w w' := by
  have hb := burnt_at h
  rw [show (S.fuse == 0) = false by simp [hf]] at hb
  obtain ⟨gi, ci, m, D, gr, cr, h⟩ := h
  have hs := h.ok.hi
  have hh := has_low p _ (s * 512) ci k w (by omega) (cell_of_block h.blk (j := 0) rfl)
  rw [show s * 512 / 512 = s by omega, show (decide (0 ≤ (k : Int)) && decide ((k : Int) < (s : Int))) = true by simp; omega] at hh
  have hr := refuse_low p S.refused 2 w (cell_of_block h.blk (j := 7) rfl) (frozen_of_block h.blk 7)
  have hr2 : Calls Try.prog 53 #[.pointer (some ⟨p, 0, none⟩), .int .i64 2] w fun e w' => e = .returned (.int .i64 2) ∧ DiskAt w' F p s S.refuse ∧ Keeps F w w' :=
    hr.mono (by rintro e w' ⟨rfl, rfl⟩; exact ⟨rfl, ⟨gi, ci, m, D, gr, cr, h.refused⟩, Keeps.setCell w h.fp _⟩)
  have hne : ((n : Int) != 512) = true := by rw [bne_iff_ne]; omega
  clear h hr
  go_enter Try.func30, Try.ntmps30
  go_wp2_with (first | (go_at_call 36; refine hb.mono ?_; rintro e w' ⟨rfl, hw⟩; have hw' := hw.symm; subst hw') | (go_at_call 52; refine hh.mono ?_; rintro e w' ⟨rfl, hw⟩; have hw' := hw.symm; subst hw') | (go_at_call 53; refine hr2.mono ?_; rintro e w' ⟨rfl, hd, hk⟩))
  go_ret
  exact ⟨rfl, hd, hk⟩

def DS.lay (S : DS) (calls : Int) : DS := if S.fuse = 0 then S else { S with fuse := max calls (-1) }
def DS.take (S : DS) : DS := { S with life := wrap64 (S.life + 1) }

theorem take_at {w : World} {F : Nat → Prop} {p s : Nat} {S : DS} (h : DiskAt w F p s S) :
    Calls Try.prog 24 #[.pointer (some ⟨p, 0, none⟩)] w fun e w' => e = .returned (.int .i64 (wrap64 (S.life + 1))) ∧ DiskAt w' F p s S.take ∧ Keeps F w w' := by
  obtain ⟨gi, ci, m, D, gr, cr, h⟩ := h
  refine (take_low p S.life w (cell_of_block h.blk (j := 3) rfl) (frozen_of_block h.blk 3)).mono ?_
  rintro e w' ⟨rfl, rfl⟩
  exact ⟨rfl, ⟨gi, ci, m, D, gr, cr, h.turn (h.set 3 _).2 ((h.set 3 _).1.trans (by simp [dkCells, DS.take])) rfl rfl h.ok.fuse⟩, Keeps.setCell w h.fp _⟩

end Go.Proofs.Ytkelfidmpnapoaa
end

section
namespace Go.Proofs.Ytkelfidmpnapoaa
open Go.RowKit Go.Maps

/-- What a pick makes of a sector. -/
def tornOf (S : DS) (k : Nat) (A B C : Nat) : List Int :=
  (S.cand k (A % ((pendOf S.puts k).length + 1))).take (C % 513) ++ (S.cand k (B % ((pendOf S.puts k).length + 1))).drop (C % 513)

theorem cand_int {w : World} {F : Nat → Prop} {p s : Nat} {S : DS} {gi ci m : Nat} {D : DataW Value} {gr cr : Nat → Nat} (h : DiskRaw w F p s S gi ci m D gr cr) (k : Nat) (hk : k < s) (j : Nat) (jj : Int) (hjj : jj = (j : Int)) (hj : j ≤ (pendOf S.puts k).length) (hbig : S.puts.length ≤ 140737488355328) :
    Calls Try.prog 55 #[.pointer (some ⟨p, 0, none⟩), .int .i64 (k : Int), .int .i64 jj] w fun e w' => ∃ g o c, e = .returned (.slice (some ⟨g, o, none⟩) 512 c) ∧ F g ∧ 512 ≤ c ∧ (g = gi → o = k * 512 ∧ S.cand k j = dsec S.im k) ∧ Src w (some ⟨g, o, none⟩) 512 (S.cand k j) ∧ w' = w := by
  subst hjj
  exact cand_any h k hk j hj hbig

theorem run_max (x : Int) (y : Nat) (h : max x 0 = (y : Int)) (w : World) : (Builtin.max_ #[3, 3] 3 #[.int .i64 x, .int .i64 0]).run Try.prog w = .ok (.int .i64 (y : Int)) w := by
  rw [← h]
  by_cases hx : x < 0
  · simp [Builtin.max_, Builtin.max2, hx, show max x 0 = 0 by omega]
  · simp [Builtin.max_, Builtin.max2, hx, show max x 0 = x by omega]

theorem Src.front {w : World} {x : Addr} {n j : Nat} {l : List Int} (h : Src w (some x) n l) (hj : j ≤ n) : Src w (some x) j (l.take j) := by
  have hl := h.1
  refine ⟨by rw [List.length_take]; omega, (fun h => by cases h), fun y hy i hi => ?_⟩
  rw [h.2.2 y hy i (by omega)]
  simp [List.getD, hi]

theorem splice_two (im la lb : List Int) (o cut n : Nat) (hn : cut ≤ n) (hla : la.length = n) (hlb : lb.length = n) (hl : o + n ≤ im.length) :
    splice (splice im o (la.take cut)) (o + cut) (lb.drop cut) = splice im o (la.take cut ++ lb.drop cut) := by
  have e1 : (la.take cut).length = cut := by rw [List.length_take]; omega
  have e2 : (lb.drop cut).length = n - cut := by rw [List.length_drop]; omega
  have e3 : (la.take cut ++ lb.drop cut).length = n := by rw [List.length_append, e1, e2]; omega
  have e4 : (splice im o (la.take cut)).length = im.length := splice_len _ _ _ (by omega)
  apply List.ext_getElem?
  intro i
  rw [getElem_splice _ _ _ (by omega), getElem_splice _ _ _ (by omega), getElem_splice _ _ _ (by omega), e1, e2, e3]
  by_cases h1 : o ≤ i ∧ i < o + cut
  · rw [if_neg (by omega), if_pos (by omega), if_pos (by omega), List.getElem?_append_left (by omega)]
  · by_cases h2 : o + cut ≤ i ∧ i < o + n
    · rw [if_pos (by omega), if_pos (by omega), List.getElem?_append_right (by omega), e1, show i - (o + cut) = i - o - cut by omega]
    · rw [if_neg (by omega), if_neg (by omega), if_neg (by omega)]

theorem getD_behind (im la : List Int) (k cut i : Nat) (hla : (la.take cut).length = cut) (hl : k * 512 + cut ≤ im.length) (hi : cut + i < 512) :
    (splice im (k * 512) (la.take cut)).getD (k * 512 + (cut + i)) 0 = (dsec im k).getD (cut + i) 0 := by
  rw [List.getD, List.getD, getElem_splice _ _ _ (by omega), if_neg (by omega), getElem_sec, if_pos hi]

/-- The two copies of a torn sector. -/
theorem tear_run {w : World} {F : Nat → Prop} {p s : Nat} {S : DS} {gi ci m : Nat} {D : DataW Value} {gr cr : Nat → Nat} (h : DiskRaw w F p s S gi ci m D gr cr) {k : Nat} (hk : k < s) {cut : Nat} (hcut : cut ≤ 512) {la lb : List Int}
    {ga oa ca gb ob : Nat} (hsa : Src w (some ⟨ga, oa, none⟩) 512 la) (hsb : Src w (some ⟨gb, ob, none⟩) 512 lb) (hgb : gb = gi → ob = k * 512 ∧ lb = dsec S.im k) :
    ∃ w2, (Builtin.copy_ #[32, 32] 3 #[.slice (some ⟨gi, k * 512, none⟩) cut 512, .slice (some ⟨ga, oa, none⟩) cut ca]).run Try.prog w = .ok (goInt (Nat.min cut cut)) w2 ∧ w2.heap.size = w.heap.size ∧
      (∀ dp sp c1 c2, (cut < 512 → dp = some ⟨gi, k * 512 + cut, none⟩ ∧ sp = some ⟨gb, ob + cut, none⟩) →
        ∃ w3, (Builtin.copy_ #[32, 32] 3 #[.slice dp (512 - cut) c1, .slice sp (512 - cut) c2]).run Try.prog w2.drew = .ok (goInt (Nat.min (512 - cut) (512 - cut))) w3 ∧
          DiskRaw w3 F p s { S with im := splice S.im (k * 512) (la.take cut ++ lb.drop cut) } gi ci m D gr cr ∧ Keeps F w w3) := by
  have hlen := h.ok.len
  have hla := hsa.1
  have hlb := hsb.1
  obtain ⟨w2, hrun, hr2, hk2, hsz⟩ := h.img.copied 3 (some ⟨gi, k * 512, none⟩) (k * 512) cut 512 (some ⟨ga, oa, none⟩) cut ca (la.take cut) (hsa.front hcut) (fun _ => rfl) (by omega)
  rw [List.take_take, Nat.min_self] at hr2
  have hl2 : (splice S.im (k * 512) (la.take cut)).length = s * 512 := by rw [splice_len _ _ _ (by rw [List.length_take]; omega)]; exact hlen
  refine ⟨w2, hrun, hsz, fun dp sp c1 c2 hdp => ?_⟩
  have hr2' : RowAt w2.drew 5 gi ci (bs (splice S.im (k * 512) (la.take cut))) := hr2
  have hsrc : Src w2.drew sp (512 - cut) (lb.drop cut) := by
    refine ⟨by rw [List.length_drop]; omega, fun e => ?_, fun y hy i hi => ?_⟩
    · by_cases h5 : cut < 512
      · rw [(hdp h5).2] at e; cases e
      · omega
    · have h5 : cut < 512 := by omega
      rw [(hdp h5).2] at hy
      cases hy
      rw [addr_add]
      have h0 := hsb.2.2 _ rfl (cut + i) (by omega)
      rw [addr_add] at h0
      have hv : (lb.drop cut).getD i 0 = lb.getD (cut + i) 0 := by simp [List.getD]
      rw [hv]
      by_cases hg : gb = gi
      · obtain ⟨rfl, rfl⟩ := hgb hg
        subst hg
        have h1 := hr2'.byte (i := k * 512 + (cut + i)) (by omega)
        rw [addr_add, Nat.zero_add] at h1
        rw [Nat.add_assoc, h1, getD_behind _ _ _ _ _ (by rw [List.length_take]; omega) (by omega) (by omega)]
      · have := World.cell?_of_block (w := w) (w' := w2) (a := ⟨gb, ob + (cut + i), none⟩) (hk2.block gb (World.block_lt_of_cell? _ _ h0) hg)
        rw [Nat.add_assoc]
        exact this.trans h0
  obtain ⟨w3, hrun3, hr3, hk3, _⟩ := hr2'.copied 3 dp (k * 512 + cut) (512 - cut) c1 sp (512 - cut) c2 (lb.drop cut) hsrc (fun h5 => (hdp (by omega)).1) (by omega)
  rw [List.take_of_length_le (l := lb.drop cut) (by rw [List.length_drop]; omega)] at hr3
  have e := splice_two S.im la lb (k * 512) cut 512 hcut hla hlb (by omega)
  rw [e] at hr3
  have hk23 : Keeps (fun b => b = gi) w w3 := hk2.trans (b := w2) (G := fun b => b = gi) ⟨hk3.os, hk3.tape, hk3.output, hk3.size, hk3.block⟩ (fun j hj => .inl hj)
  exact ⟨w3, hrun3, h.imaged hr3 (by rw [splice_len _ _ _ (by rw [List.length_append, List.length_take, List.length_drop]; omega)]; exact hlen) hk23, hk23.mono (fun b hb => hb ▸ h.fgi)⟩

end Go.Proofs.Ytkelfidmpnapoaa
end

section
namespace Go.Proofs.Ytkelfidmpnapoaa
open Go.RowKit Go.Maps

/-- Numbers as cells. -/
abbrev is_ (l : List Nat) : List Value := l.map (fun k : Nat => Value.int .i64 (k : Int))

/-- The sectors with pending writes, in rising order. -/
def keysOf (S : DS) (s : Nat) : List Nat := (List.range s).filter (fun k => !(pendOf S.puts k).isEmpty)

theorem mem_keysOf {S : DS} {s k : Nat} : k ∈ keysOf S s ↔ k < s ∧ pendOf S.puts k ≠ [] := by
  simp [keysOf, List.mem_filter]

theorem is_eq (l : List Nat) : (l.map (fun k : Nat => (k : Int))).map (Value.int .i64) = is_ l := by rw [List.map_map]; rfl

theorem sorted_keys {S : DS} {s : Nat} (hok : S.Ok s) {ks : List Nat} (hn : ks.Nodup) (hm : ∀ k, k ∈ ks ↔ pendOf S.puts k ≠ []) :
    ((ks.map (fun k : Nat => (k : Int))).mergeSort fun x y => decide (x ≤ y)) = (keysOf S s).map (fun k : Nat => (k : Int)) := by
  have hlt : ∀ k, pendOf S.puts k ≠ [] → k < s := fun k hp => by
    obtain ⟨l, hl⟩ := List.exists_mem_of_ne_nil _ hp
    unfold pendOf at hl
    obtain ⟨q, hq, _⟩ := List.mem_map.1 hl
    obtain ⟨hq1, hq2⟩ := List.mem_filter.1 hq
    have := (hok.puts q hq1).1
    simp at hq2
    omega
  have hn2 : (keysOf S s).Nodup := List.Pairwise.filter _ List.nodup_range
  have hperm : ks.Perm (keysOf S s) := (List.perm_ext_iff_of_nodup hn hn2).2 (fun k => by
    rw [hm, mem_keysOf]
    exact ⟨fun h => ⟨hlt k h, h⟩, fun h => h.2⟩)
  have hs2 : ((keysOf S s).map (fun k : Nat => (k : Int))).Pairwise (fun x y => decide (x ≤ y) = true) := by
    refine List.pairwise_map.2 ?_
    have : (keysOf S s).Pairwise (fun x y => x < y) := List.Pairwise.filter _ List.pairwise_lt_range
    exact this.imp (fun h => by simp; omega)
  have tr : ∀ a b c : Int, decide (a ≤ b) = true → decide (b ≤ c) = true → decide (a ≤ c) = true := fun a b c h1 h2 => by simp only [decide_eq_true_eq] at *; omega
  have to : ∀ a b : Int, (decide (a ≤ b) || decide (b ≤ a)) = true := fun a b => by simp only [Bool.or_eq_true, decide_eq_true_eq]; omega
  refine List.Perm.eq_of_pairwise (le := fun a b => decide (a ≤ b) = true) (fun a b _ _ h1 h2 => ?_) (List.pairwise_mergeSort tr to _) hs2 ((List.mergeSort_perm _ _).trans (hperm.map _))
  simp only [decide_eq_true_eq] at h1 h2
  omega

end Go.Proofs.Ytkelfidmpnapoaa
end

section
namespace Go.Proofs.Ytkelfidmpnapoaa
open Go.RowKit Go.Maps

abbrev P3 := Int × Int × Int

/-- What is told of a list of picks. -/
def PSrc (w : World) (a : Option Addr) (n : Nat) (l : List P3) : Prop :=
  l.length = n ∧ (a = none → n = 0) ∧ (∀ x, a = some x → ∀ i (hi : i < l.length), ∃ b o, x = ⟨b, o, none⟩ ∧ w.cell? ⟨b, o + i * 3, none⟩ = some (.int .i64 l[i].1) ∧ w.cell? ⟨b, o + i * 3 + 1, none⟩ = some (.int .i64 l[i].2.1) ∧ w.cell? ⟨b, o + i * 3 + 2, none⟩ = some (.int .i64 l[i].2.2)) ∧
    ∀ q ∈ l, q.1 ≤ 9223372036854775807 ∧ q.2.1 ≤ 9223372036854775807 ∧ q.2.2 ≤ 9223372036854775807

/-- The pick that the i-th sector takes. -/
def pickN (l : List P3) (i : Nat) : P3 := if h : 0 < l.length then l[i % l.length]'(Nat.mod_lt _ h) else (0, 0, 0)

def tornBy (S : DS) (k : Nat) (q : P3) : List Int := tornOf S k (max q.1 0).toNat (max q.2.1 0).toNat (max q.2.2 0).toNat

/-- What a sector holds behind the cut. -/
def cutOf (S : DS) (l : List P3) (k : Nat) : List Int := if pendOf S.puts k = [] then dsec S.im k else tornBy S k (pickN l (keysOf S k).length)

def DS.crash (S : DS) (s : Nat) (l : List P3) : DS := { S with im := imOf s (cutOf S l), puts := [], fuse := -1, life := wrap64 (S.life + 1) }

theorem keysOf_succ (S : DS) (s : Nat) : keysOf S (s + 1) = keysOf S s ++ (if pendOf S.puts s = [] then [] else [s]) := by
  unfold keysOf
  rw [List.range_succ, List.filter_append]
  congr 1
  by_cases h : pendOf S.puts s = [] <;> simp [h]

theorem keysOf_idx (S : DS) : ∀ (s j k : Nat), (keysOf S s)[j]? = some k → (keysOf S k).length = j
  | 0, j, k, h => by simp [keysOf] at h
  | s + 1, j, k, h => by
    rw [keysOf_succ] at h
    by_cases hj : j < (keysOf S s).length
    · rw [List.getElem?_append_left hj] at h
      exact keysOf_idx S s j k h
    · rw [List.getElem?_append_right (by omega)] at h
      split at h
      · simp at h
      · have hj0 : j - (keysOf S s).length = 0 := by
          have := (List.getElem?_eq_some_iff.1 h).1
          simp at this
          omega
        rw [hj0] at h
        simp at h
        subst h
        omega

theorem torn_len {S : DS} {s : Nat} (h : S.Ok s) {k : Nat} (hk : k < s) (A B C : Nat) : (tornOf S k A B C).length = 512 := by
  have h1 := DS.cand_len h hk (j := A % ((pendOf S.puts k).length + 1)) (Nat.le_of_lt_succ (Nat.mod_lt _ (by omega)))
  have h2 := DS.cand_len h hk (j := B % ((pendOf S.puts k).length + 1)) (Nat.le_of_lt_succ (Nat.mod_lt _ (by omega)))
  unfold tornOf
  rw [List.length_append, List.length_take, List.length_drop, h1, h2]
  omega

theorem cut_len {S : DS} {s : Nat} (h : S.Ok s) (l : List P3) : ∀ k, k < s → (cutOf S l k).length = 512 := fun k hk => by
  unfold cutOf
  split
  · exact dsec_len h.len hk
  · exact torn_len h hk _ _ _

/-- A sector that has not been torn yet. -/
theorem torn_im (S : DS) (im : List Int) (k A B C : Nat) (h : dsec im k = dsec S.im k) : tornOf { S with im := im } k A B C = tornOf S k A B C := by
  have e : ∀ j, DS.cand { S with im := im } k j = S.cand k j := fun j => by
    unfold DS.cand
    split
    · exact h
    · rfl
  unfold tornOf
  rw [e, e]

theorem mem_take_succ {ks : List Nat} {j k0 : Nat} (h : ks[j]? = some k0) (k : Nat) : k ∈ ks.take (j + 1) ↔ k ∈ ks.take j ∨ k = k0 := by
  rw [List.take_add_one, h]
  simp

theorem not_mem_take {ks : List Nat} (hn : ks.Nodup) {j k0 : Nat} (h : ks[j]? = some k0) : k0 ∉ ks.take j := by
  obtain ⟨hj, e⟩ := List.getElem?_eq_some_iff.1 h
  intro hm
  obtain ⟨i, hi, e2⟩ := List.mem_iff_getElem.1 hm
  rw [List.getElem_take] at e2
  have := List.getElem_inj (h₀ := by simp at hi; omega) (h₁ := hj) hn |>.1 (e2.trans e.symm)
  simp at hi
  omega

/-- One round of a power cut. -/
theorem crash_step {S : DS} {s : Nat} (hok : S.Ok s) (l : List P3) {im : List Int} {j k : Nat} (him : im.length = s * 512) (hk : (keysOf S s)[j]? = some k)
    (hs : ∀ i, i < s → dsec im i = if i ∈ (keysOf S s).take j then cutOf S l i else dsec S.im i) :
    k < s ∧ pendOf S.puts k ≠ [] ∧ tornBy { S with im := im } k (pickN l j) = cutOf S l k ∧ ∀ i, i < s → dsec (splice im (k * 512) (cutOf S l k)) i = if i ∈ (keysOf S s).take (j + 1) then cutOf S l i else dsec S.im i := by
  obtain ⟨hks, hp⟩ := mem_keysOf.1 (List.mem_of_getElem? hk)
  have hnd : (keysOf S s).Nodup := List.Pairwise.filter _ List.nodup_range
  have hni := not_mem_take hnd hk
  have hsk := hs k hks
  rw [if_neg hni] at hsk
  have e : tornBy { S with im := im } k (pickN l j) = cutOf S l k := by
    unfold tornBy cutOf
    rw [if_neg hp, keysOf_idx S s j k hk, torn_im S im k _ _ _ hsk]
    rfl
  refine ⟨hks, hp, e, fun i hi => ?_⟩
  rw [sec_splice him (cut_len hok l k hks) hks]
  by_cases ei : i = k
  · subst ei
    rw [if_pos rfl, if_pos ((mem_take_succ hk i).2 (.inr rfl))]
  · rw [if_neg ei, hs i hi]
    by_cases hm : i ∈ (keysOf S s).take j
    · rw [if_pos hm, if_pos ((mem_take_succ hk i).2 (.inl hm))]
    · rw [if_neg hm, if_neg (fun h => by rcases (mem_take_succ hk i).1 h with h | h; exact hm h; exact ei h)]

theorem crash_all {S : DS} {s : Nat} (hok : S.Ok s) (l : List P3) {im : List Int} (him : im.length = s * 512) (hs : ∀ i, i < s → dsec im i = if i ∈ (keysOf S s).take (keysOf S s).length then cutOf S l i else dsec S.im i) : im = imOf s (cutOf S l) := by
  refine im_ext s him (imOf_len s _ (cut_len hok l)) (fun k hk => ?_)
  rw [hs k hk, sec_imOf s _ (cut_len hok l) k hk, List.take_length]
  by_cases hp : pendOf S.puts k = []
  · rw [if_neg (fun h => (mem_keysOf.1 h).2 hp)]
    simp [cutOf, hp]
  · rw [if_pos (mem_keysOf.2 ⟨hk, hp⟩)]

theorem PSrc.keeps {w w' : World} {a : Option Addr} {n : Nat} {l : List P3} {F : Nat → Prop} (h : PSrc w a n l) (hk : Keeps F w w') (hF : ∀ x, a = some x → ¬ F x.block) : PSrc w' a n l := by
  refine ⟨h.1, h.2.1, fun x hx i hi => ?_, h.2.2.2⟩
  obtain ⟨b, o, rfl, h1, h2, h3⟩ := h.2.2.1 x hx i hi
  have hb := World.block_lt_of_cell? _ _ h1
  have e := hk.block b hb (hF _ hx)
  exact ⟨b, o, rfl, (World.cell?_of_block (w := w) (a := ⟨b, _, none⟩) e).trans h1, (World.cell?_of_block (w := w) (a := ⟨b, _, none⟩) e).trans h2, (World.cell?_of_block (w := w) (a := ⟨b, _, none⟩) e).trans h3⟩

theorem crash_end {w wr w3 : World} {F : Nat → Prop} {p s : Nat} {S : DS} {gi ci m : Nat} {D : DataW Value} {gr cr : Nat → Nat} {im : List Int} {l : List P3} (h : DiskRaw w F p s S gi ci m D gr cr) (hd : DiskRaw wr F p s { S with im := im } gi ci m D gr cr)
    (he : im = imOf s (cutOf S l)) (hk : Keeps F w wr) (hm3 : w3.ownsMap Try.prog 3 Rs m 0 (.map [])) (hk3 : Keeps (fun k => k = m) wr w3) :
    w3.cell? ⟨p, 2, none⟩ = some (.int .i64 S.fuse) ∧ w3.frozen? ⟨p, 2, none⟩ = false ∧ w3.cell? ⟨p, 3, none⟩ = some (.int .i64 S.life) ∧ w3.frozen? ⟨p, 3, none⟩ = false ∧
    DiskAt ((w3.setCell ⟨p, 2, none⟩ (.int .i64 (-1))).setCell ⟨p, 3, none⟩ (.int .i64 (wrap64 (S.life + 1)))) F p s (S.crash s l) ∧ Keeps F w ((w3.setCell ⟨p, 2, none⟩ (.int .i64 (-1))).setCell ⟨p, 3, none⟩ (.int .i64 (wrap64 (S.life + 1)))) := by
  subst he
  have hd3 := hd.cleared hm3 hk3
  have hd4 : DiskRaw (w3.setCell ⟨p, 2, none⟩ (.int .i64 (-1))) F p s { S with im := imOf s (cutOf S l), puts := [], fuse := -1 } gi ci m (.map []) gr cr :=
    hd3.turn (hd3.set 2 _).2 ((hd3.set 2 _).1.trans (by simp [dkCells])) rfl rfl (by simp)
  have hd5 : DiskRaw ((w3.setCell ⟨p, 2, none⟩ (.int .i64 (-1))).setCell ⟨p, 3, none⟩ (.int .i64 (wrap64 (S.life + 1)))) F p s (S.crash s l) gi ci m (.map []) gr cr :=
    hd4.turn (hd4.set 3 _).2 ((hd4.set 3 _).1.trans (by simp [dkCells, DS.crash])) rfl rfl (by simp [DS.crash])
  refine ⟨cell_of_block hd3.blk (j := 2) rfl, frozen_of_block hd3.blk 2, cell_of_block hd3.blk (j := 3) rfl, frozen_of_block hd3.blk 3, ⟨gi, ci, m, _, gr, cr, hd5⟩, ?_⟩
  exact ((hk.trans hk3 (fun j hj => .inl (hj ▸ h.fm))).trans (Keeps.setCell (F := fun k => k = p) w3 (p := ⟨p, 2, none⟩) rfl _) (fun j hj => .inl (hj ▸ h.fp))).trans (Keeps.setCell (F := fun k => k = p) _ (p := ⟨p, 3, none⟩) rfl _) (fun j hj => .inl (hj ▸ h.fp))

end Go.Proofs.Ytkelfidmpnapoaa
end
