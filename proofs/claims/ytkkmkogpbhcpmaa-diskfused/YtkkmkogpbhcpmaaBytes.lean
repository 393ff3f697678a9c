import Derived.Test.YtkkmkogpbhcpmaaRep
import Derived.Laws.CopyOwn
import Derived.Lib.SliceRun
import Derived.Deep.QuietTactic
import Derived.BigQuiet
namespace Go.Proofs.Ytkkmkogpbhcpmaa
open Go.RowKit Go.Maps

/-- What is told of a list of bytes that is only read: n bytes at whatever address. -/
def Src (w : World) (a : Option Addr) (n : Nat) (l : List Int) : Prop :=
  l.length = n ∧ (a = none → n = 0) ∧ ∀ x, a = some x → ∀ i, i < n → w.cell? (x.add i) = some (.int .u8 (l.getD i 0))

set_option maxHeartbeats 2000000 in
theorem clone_low (a : Addr) (n c : Nat) (l : List Int) (w : World) (hx : l.length = n) (hbig : n ≤ 140737488355328) (hc : ∀ i, i < n → w.cell? (a.add i) = some (.int .u8 (l.getD i 0))) :
    Calls Try.prog 61 #[.slice (some a) n c] w fun e w' => ∃ g c', e = .returned (.slice (some ⟨g, 0, none⟩) n c') ∧ w.heap.size ≤ g ∧ RowAt w' 5 g c' (bs l) ∧ Below w.heap.size w w' := by
  obtain ⟨i0, hi, hz0, hz1, hz2⟩ := info_parts infoU8
  have q22 : ∀ (w : World) (a : Option Addr) (n c n' c' : Nat), (binOp .eql 27 (.slice a n c) (.slice none n' c')).run Try.prog w = .ok (.bool a.isNone) w := fun w a n c n' c' => Lib.run_eql_slice_nil w _ _ a n c n' c' Try.underlying27
  have H : Hid (∀ i, i < n → w.cell? (a.add i) = some (.int .u8 (l.getD i 0))) := hc
  clear hc
  go_enter Try.func61, Try.ntmps61
  go_wp2_with (at_builtin; refine wpList_append_own _ rfl _ _ 27 rfl w.heap.size 5 i0 (.int .u8 0) 1 1 Try.underlying27 hi hz0 hz1 hz2 rfl (by decide) _ _ _ rfl (World.ownsRow_made w #[] 0 (Nat.le_refl _) (Nat.zero_le _) rfl) a n c (bs l) rfl ?qc1 ?qc2 ?qc3 ?qc4 ?qc5 ?qc6 ?_)
  case qc1 => simp; omega
  case qc2 =>
    intro j u hj
    have hjn : j < n := by
      have := (List.getElem?_eq_some_iff.1 hj).1
      simp at this
      omega
    refine Lib.cell?_alloc_some _ ?_
    rw [H.out j hjn]
    have e : (bs l)[j]? = some (Value.int .u8 (l.getD j 0)) := by simp [bs, List.getD, List.getElem?_eq_getElem (show j < l.length by omega)]
    rw [e] at hj
    exact hj
  case qc3 => intro u hu; obtain ⟨x, _, rfl⟩ := List.mem_map.1 hu; rfl
  case qc4 => unfold maxLen; omega
  case qc5 => omega
  case qc6 => simp
  intro v' w1 hown hgrow hnil
  have hb : Below w.heap.size w w1 := ((Below.refl _ w).alloc (Nat.le_refl _) _).grown hgrow (by simp) (by intro k hk; simp [Value.ownBlock] at hk; omega)
  have hv : v' ≠ .slice none 0 0 := by first | exact hnil | (intro e; exact absurd (hnil.1 e).1 (by simp))
  have hown' : w1.ownsRow w.heap.size 5 1 v' n (bs l) := by simpa using hown
  obtain ⟨g, c', rfl, hg, hr, _⟩ := RowAt.of_owns hown' hv
  clear hown hown' hgrow hnil hv
  go_wp2
  go_ret
  exact ⟨g, c', rfl, hg, hr, hb⟩

set_option maxHeartbeats 1000000 in
theorem clone_nil (n c : Nat) (w : World) :
    Calls Try.prog 61 #[.slice none n c] w fun e w' => e = .returned (.slice none 0 0) ∧ w' = w := by
  have q22 : ∀ (w : World) (a : Option Addr) (n c n' c' : Nat), (binOp .eql 27 (.slice a n c) (.slice none n' c')).run Try.prog w = .ok (.bool a.isNone) w := fun w a n c n' c' => Lib.run_eql_slice_nil w _ _ a n c n' c' Try.underlying27
  go_enter Try.func61, Try.ntmps61
  go_wp2
  go_ret
  exact ⟨rfl, rfl⟩

/-- What New and Load make: a disk of its own. -/
def DS.fresh (l : List Int) : DS := { im := l, puts := [], fuse := -1, life := 1, reads := 0, writes := 0, flushes := 0, refused := 0 }

theorem fresh_at {w0 w1 : World} {g c s : Nat} {l : List Int} (hb : Below w0.heap.size w0 w1) (hg : w0.heap.size ≤ g) (hr : RowAt w1 5 g c (bs l)) (hl : l.length = s * 512) (h1 : 1 ≤ s) (h2 : s ≤ 2048) :
    let w' := (w1.alloc (.map #[] 0)).alloc (.cells (dkCells (.slice (some ⟨g, 0, none⟩) (s * 512) c) (.map (some w1.heap.size)) (-1) 1 0 0 0 0) 100)
    DiskAt w' (fun k => w0.heap.size ≤ k ∧ k < w'.heap.size) (w1.heap.size + 1) s (DS.fresh l) ∧ Below w0.heap.size w0 w' := by
  intro w'
  have hgl := hr.lt
  have hz := hb.size
  have hsz : w'.heap.size = w1.heap.size + 2 := by simp [w']
  have e0 : ∀ k, k < w1.heap.size → w'.heap[k]? = w1.heap[k]? := fun k hk => by
    rw [Below.heap_alloc _ _ _ (by simp; omega), Below.heap_alloc _ _ _ hk]
  have e1 : w'.heap[w1.heap.size]? = some (.map #[] 0) := by
    rw [Below.heap_alloc _ _ _ (by simp)]; exact heap_alloc_new _ _
  have e2 : w'.heap[w1.heap.size + 1]? = some (.cells (dkCells (.slice (some ⟨g, 0, none⟩) (s * 512) c) (.map (some w1.heap.size)) (-1) 1 0 0 0 0) 100 (0, 0)) := by
    have := heap_alloc_new (w1.alloc (.map #[] 0)) (.cells (dkCells (.slice (some ⟨g, 0, none⟩) (s * 512) c) (.map (some w1.heap.size)) (-1) 1 0 0 0 0) 100)
    have hs1 : (w1.alloc (.map #[] 0)).heap.size = w1.heap.size + 1 := by simp
    rw [hs1] at this
    exact this
  refine ⟨⟨g, c, w1.heap.size, .map [], fun _ => 0, fun _ => 0, ⟨by omega, by omega⟩, ⟨by omega, by omega⟩, ⟨by omega, by omega⟩, fun k hk => hk.2, e2, hr.agree (e0 g hgl), ?_, PendAt.empty _ _ _ _ _, ⟨hl, h1, h2, by simp [DS.fresh], by simp [DS.fresh]⟩⟩, ?_⟩
  · have := World.ownsMap_made w1 Try.prog 3 Rs
    exact ownsMap_agree this (by rw [e1]; exact (heap_alloc_new _ _).symm)
  · exact (hb.alloc (by omega) _).alloc (by simp; omega) _

end Go.Proofs.Ytkkmkogpbhcpmaa
