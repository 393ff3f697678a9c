import Derived.Test.YtkkmkogpbhcpmaaSecs
namespace Go.Proofs.Ytkkmkogpbhcpmaa
open Go.RowKit Go.Maps
open Go.ChangeMaps (setBlock heap_setBlock_same heap_setBlock_other)

theorem clear_run {w : World} {m n : Nat} {D : DataW Value} (h : w.ownsMap Try.prog 3 Rs m n D) :
    ∃ w', (∀ ty, (Builtin.clear_ #[96] ty #[.map (some m)]).run Try.prog w = .ok (.tuple #[]) w') ∧ w'.ownsMap Try.prog 3 Rs m 0 (.map []) ∧ Keeps (fun k => k = m) w w' ∧ w'.heap.size = w.heap.size := by
  obtain ⟨es, clock, hb, F, _, _⟩ := h
  refine ⟨setBlock w m (.map #[] clock), ?_, ⟨#[], clock, heap_setBlock_same hb _, ⟨by simp, ?_, by simp⟩, by simp, by simp⟩, ⟨rfl, rfl, rfl, by simp [setBlock], fun k _ hk => heap_setBlock_other hb _ hk⟩, by simp [setBlock]⟩
  · intro ty
    simp [Builtin.clear_, go_sem, MapKept.run_getObj_map hb, MapKept.run_setObj_map _ hb, setBlock]
  · exact MapKept.stamped_empty _
theorem DiskRaw.cleared {w w' : World} {F : Nat → Prop} {p s : Nat} {S : DS} {gi ci m : Nat} {D : DataW Value} {gr cr : Nat → Nat} (h : DiskRaw w F p s S gi ci m D gr cr) (hm : w'.ownsMap Try.prog 3 Rs m 0 (.map [])) (hk : Keeps (fun k => k = m) w w') :
    DiskRaw w' F p s { S with puts := [] } gi ci m (.map []) gr cr := by
  have hne : ∀ (b : Nat) (cur : Array Value) (e : TypeId) (fz : Nat × Nat), w.heap[b]? = some (Obj.cells cur e fz) → w'.heap[b]? = w.heap[b]? := fun b cur e fz hb =>
    hk.block b (Array.getElem?_eq_some_iff.1 hb).1 (fun e1 => ownsMap_ne h.map (e1 ▸ hb) rfl)
  refine ⟨h.fp, h.fgi, h.fm, fun k hf => Nat.lt_of_lt_of_le (h.lt k hf) hk.size, (hne p _ _ _ h.blk).trans h.blk, ?_, hm, PendAt.empty _ _ _ _ _, ⟨h.ok.len, h.ok.lo, h.ok.hi, by simp, h.ok.fuse⟩⟩
  have hi := h.img
  obtain ⟨cur, hb, _⟩ := hi
  exact h.img.agree (hne gi _ _ _ hb)

theorem DiskRaw.agree {w w' : World} {F : Nat → Prop} {p s : Nat} {S : DS} {gi ci m : Nat} {D : DataW Value} {gr cr : Nat → Nat} (h : DiskRaw w F p s S gi ci m D gr cr) (hs : w.heap.size ≤ w'.heap.size) (hb : ∀ k, F k → w'.heap[k]? = w.heap[k]?) :
    DiskRaw w' F p s S gi ci m D gr cr :=
  ⟨h.fp, h.fgi, h.fm, fun k hk => Nat.lt_of_lt_of_le (h.lt k hk) hs, (hb p h.fp).trans h.blk, h.img.agree (hb gi h.fgi), ownsMap_agree h.map (hb m h.fm), h.pend.agree hb, h.ok⟩

theorem DiskRaw.flushed {w : World} {F : Nat → Prop} {p s : Nat} {S : DS} {gi ci m : Nat} {D : DataW Value} {gr cr : Nat → Nat} (h : DiskRaw w F p s S gi ci m D gr cr) :
    DiskRaw (w.setCell ⟨p, 6, none⟩ (.int .i64 (wrap64 (S.flushes + 1)))) F p s { S with flushes := wrap64 (S.flushes + 1) } gi ci m D gr cr :=
  h.turn (h.set 6 _).2 ((h.set 6 _).1.trans (by simp [dkCells])) rfl rfl h.ok.fuse

/-- Where the image's bytes alone have turned. -/
theorem DiskRaw.imaged {w w' : World} {F : Nat → Prop} {p s : Nat} {S : DS} {gi ci m : Nat} {D : DataW Value} {gr cr : Nat → Nat} (h : DiskRaw w F p s S gi ci m D gr cr) {im : List Int} (hr : RowAt w' 5 gi ci (bs im)) (hl : im.length = s * 512) (hk : Keeps (fun k => k = gi) w w') :
    DiskRaw w' F p s { S with im := im } gi ci m D gr cr := by
  have hi := h.img
  obtain ⟨cur, hb, _⟩ := hi
  refine ⟨h.fp, h.fgi, h.fm, fun k hf => Nat.lt_of_lt_of_le (h.lt k hf) hk.size, (hk.block p (h.lt p h.fp) (fun e => (h.img.ne h.blk (by decide)) e.symm)).trans h.blk, hr, ownsMap_agree h.map (hk.block m (h.lt m h.fm) (ownsMap_ne h.map hb)),
    h.pend.carry (fun g c xs _ hne hr => hr.agree (hk.block g hr.lt hne)) (fun g c xs _ hr => hr.other hk hb (by decide)), ⟨hl, h.ok.lo, h.ok.hi, h.ok.puts, h.ok.fuse⟩⟩

end Go.Proofs.Ytkkmkogpbhcpmaa
