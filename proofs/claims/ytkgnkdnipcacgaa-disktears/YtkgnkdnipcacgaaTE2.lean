import Derived.Test.YtkgnkdnipcacgaaW06
namespace Go.Proofs.Ytkgnkdnipcacgaa
open Go.RowKit Go.Maps

theorem infoRows : (Try.prog.info? 28).map (fun i => (i.zero, i.size, i.bytes)) = some (some (.slice none 0 0), 1, 24) := by kernel_rfl
/-- The rows' slices: one in each. -/
def headsOf (rs : List Nat) : List Value := rs.map fun r => .slice (some ⟨r, 0, none⟩) 1 1
theorem headsOf_snoc (rs : List Nat) (r : Nat) : headsOf rs ++ [.slice (some ⟨r, 0, none⟩) 1 1] = headsOf (rs ++ [r]) := by simp [headsOf]

theorem cutsOf_at (g c : Nat) {j s : Nat} (h : j < s) : (cutsOf g c s)[j]? = some (.slice (some ⟨g, j * 512, none⟩) 512 (c - j * 512)) := by
  simp [cutsOf, List.getElem?_map, List.getElem?_range h]
/-- So many rows are made. -/
def BRun (w1 wr : World) (g c j : Nat) (v : Value) : Prop := ∃ rs : List Nat, rs.length = j ∧ wr.ownsRow w1.heap.size 28 1 v j (headsOf rs) ∧ rs.Nodup ∧ (∀ k r, rs[k]? = some r → w1.heap.size ≤ r ∧ RowAt wr 22 r 1 [.slice (some ⟨g, k * 512, none⟩) 512 (c - k * 512)]) ∧ Below w1.heap.size w1 wr
theorem BRun.zero (w1 : World) (g c : Nat) : BRun w1 w1 g c 0 (.slice none 0 0) := ⟨[], rfl, World.ownsRow_nil _ _ _ _, List.nodup_nil, fun k r h => by simp at h, Below.refl _ _⟩

theorem BRun.step {w1 wr w3 : World} {g c j : Nat} {v v' : Value} {rs : List Nat} (hl : rs.length = j) (hown : wr.ownsRow w1.heap.size 28 1 v j (headsOf rs)) (hnd : rs.Nodup) (hrs : ∀ k r, rs[k]? = some r → w1.heap.size ≤ r ∧ RowAt wr 22 r 1 [.slice (some ⟨g, k * 512, none⟩) 512 (c - k * 512)]) (hb : Below w1.heap.size w1 wr) {o2 : Obj}
    (hown' : w3.ownsRow w1.heap.size 28 1 v' (j + 1) (headsOf rs ++ [.slice (some ⟨wr.heap.size, 0, none⟩) 1 1]))
    (hg : ((wr.alloc (.cells #[.slice (some ⟨g, j * 512, none⟩) 512 (c - j * 512)] 22)).alloc o2).grownBy w3 v.ownBlock) : BRun w1 w3 g c (j + 1) v' := by
  have hwz := hb.size
  have hob : ∀ k, v.ownBlock = some k → w1.heap.size ≤ k ∧ k < wr.heap.size ∧ ∃ cur, wr.heap[k]? = some (.cells cur 28 (0, 0)) := by
    intro k e
    rcases hown.2 with ⟨rfl, _⟩ | ⟨g0, cap, cur, rfl, hg0, hc0, _⟩
    · cases e
    · cases e
      exact ⟨hg0, (Array.getElem?_eq_some_iff.1 hc0).1, cur, hc0⟩
  have hold : ∀ r, r < wr.heap.size → some r ≠ v.ownBlock → w3.heap[r]? = wr.heap[r]? := fun r hr hne => by
    rw [hg.block r (by simp; omega) hne, heap_alloc_old _ _ (by simp; omega), heap_alloc_old _ _ hr]
  refine ⟨rs ++ [wr.heap.size], by simp [hl], by rw [← headsOf_snoc]; exact hown', ?_, fun k r hk => ?_, ((hb.alloc hwz _).alloc (by simp; omega) _).grown hg (by simp; omega) (fun k e => (hob k e).1)⟩
  · rw [List.nodup_append]
    refine ⟨hnd, by simp, fun a ha b hb' e => ?_⟩
    simp at hb'
    obtain ⟨k, hk⟩ := List.getElem?_of_mem ha
    have := (hrs k a hk).2.lt
    omega
  · by_cases hkj : k < j
    · rw [List.getElem?_append_left (by omega)] at hk
      obtain ⟨e1, e2⟩ := hrs k r hk
      refine ⟨e1, e2.agree (hold r e2.lt (fun e => ?_))⟩
      obtain ⟨_, _, cur, hc⟩ := hob r e.symm
      obtain ⟨cur', hc', _⟩ := e2
      rw [hc] at hc'
      injection hc' with hc'
      injection hc' with _ hc'
      exact absurd hc' (by decide)
    · rw [List.getElem?_append_right (by omega)] at hk
      have hk0 : k = j := by
        have := (List.getElem?_eq_some_iff.1 hk).1
        simp at this
        omega
      subst hk0
      simp [hl] at hk
      subst hk
      refine ⟨hwz, RowAt.agree (w := (wr.alloc (.cells #[.slice (some ⟨g, k * 512, none⟩) 512 (c - k * 512)] 22)).alloc o2) ?_ (hg.block _ (by simp; omega) (fun e => ?_))⟩
      · refine ⟨#[.slice (some ⟨g, k * 512, none⟩) 512 (c - k * 512)], by rw [heap_alloc_old _ _ (by simp)]; exact heap_alloc_new _ _, rfl, rfl, by unfold maxLen; omega⟩
      · have := (hob _ e.symm).2.1
        omega

set_option maxRecDepth 100000 in
set_option maxHeartbeats 8000000 in
theorem begin_any (g c s : Nat) (w : World) (hc : s * 512 ≤ c) (h1 : 1 ≤ s) (h2 : s ≤ 2048) :
    Calls Try.prog 19 #[.slice (some ⟨g, 0, none⟩) (s * 512) c] w fun e w' => ∃ q cq rs, e = .returned (.slice (some ⟨q, 0, none⟩) s cq) ∧ w.heap.size ≤ q ∧ RowAt w' 28 q cq (headsOf rs) ∧ rs.length = s ∧ rs.Nodup ∧ (∀ k r, rs[k]? = some r → w.heap.size ≤ r ∧ r ≠ q ∧ RowAt w' 22 r 1 [.slice (some ⟨g, k * 512, none⟩) 512 (c - k * 512)]) ∧ Below w.heap.size w w' := by
  have hcut := cut_any g c s w hc h1 h2
  go_enter Try.func19, Try.ntmps19
  go_wp2_with fail
  refine hcut.mono ?_
  rintro e w1 ⟨q0, cq0, rfl, hq0, hr1, hb1⟩
  clear hcut
  obtain ⟨i0, hi0, hz0, hz1, hz2⟩ := info_parts infoRows
  have hz := hb1.size
  have Hq := Hid.mk hr1
  have HB1 := Hid.mk hb1
  clear hr1 hb1
  go_wp2
  go_loopw [4, 5] (fun v i wr => ∃ j : Nat, j ≤ s ∧ i = .int .i64 (j : Int) ∧ BRun w1 wr g c j v) (fun _ i _ => s - (intOf i).toNat)
  case atStart => exact ⟨0, Nat.zero_le _, rfl, BRun.zero _ _ _⟩
  case round =>
    obtain ⟨j, hj, rfl, rs, hl, hown, hnd, hrs, hb⟩ := hrel
    by_cases hlt : j < s
    · have hlt' : (j : Int) < (s : Int) := by omega
      have hwz := hb.size
      have hq1 := Hq.out.lt
      have kq : wr.cell? ⟨q0, j, none⟩ = some (.slice (some ⟨g, j * 512, none⟩) 512 (c - j * 512)) := (Hq.out.agree (hb.block q0 hq1)).cell (cutsOf_at g c hlt)
      have x1 : (q0 : Nat) < wr.heap.size := by omega
      have hnew := headsOf_snoc rs wr.heap.size
      have Hnew := Hid.mk hnew
      have Hown := Hid.mk hown
      have Hl := Hid.mk hl
      have Hnd := Hid.mk hnd
      have Hrs := Hid.mk hrs
      have Hb := Hid.mk hb
      obtain ⟨av, cv, hv⟩ : ∃ a c, u4 = .slice a j c := by
        obtain ⟨_, ⟨e, hn⟩ | ⟨g, cap, cur, e, _⟩⟩ := hown
        · exact ⟨none, 0, by rw [e, hn]⟩
        · exact ⟨_, _, e⟩
      subst hv
      clear hown hnew hl hnd hrs hb
      go_wp2_with (at_builtin; refine wpList_append_own _ rfl _ _ 44 rfl w1.heap.size 28 i0 (.slice none 0 0) 1 24 Try.underlying44 hi0 hz0 hz1 hz2 rfl (by decide) _ _ _ rfl ((Hown.out.alloc _).alloc _) ⟨wr.heap.size + 1, 0, none⟩ 1 1 [.slice (some ⟨wr.heap.size, 0, none⟩) 1 1] rfl rfl ?qa (by intro u hu; simp at hu; subst hu; rfl) (by unfold maxLen; omega) (by omega) (by simp; omega) ?_)
      case qa =>
        have e := cell_one_new (wr.alloc (.cells #[.slice (some ⟨g, j * 512, none⟩) 512 (c - j * 512)] 22)) (.slice (some ⟨wr.heap.size, 0, none⟩) 1 1) 28
        simpa using e
      intro v' w3 hown' hgrow hnil
      have HZ : Hid (BRun w1 w3 g c (j + 1) v') := Hid.mk (BRun.step Hl.out Hown.out Hnd.out Hrs.out Hb.out hown' hgrow)
      clear hown' hgrow hnil Hown Hnew Hl Hnd Hrs Hb kq
      go_wp2
      go_roundw
      case rel => exact ⟨j + 1, by omega, by simp, HZ.out⟩
      case measure => simp [intOf]; omega
    · have ej : j = s := by omega
      subst ej
      obtain ⟨g2, cap2, hv, hg2, hr2, _⟩ := RowAt.of_owns hown (by rintro rfl; rcases hown.2 with ⟨_, h⟩ | ⟨_, _, _, h, _⟩; omega; cases h)
      have HQ := Hid.mk (And.intro hg2 (And.intro hr2 (And.intro hl (And.intro hnd (And.intro hrs hb)))))
      subst hv
      clear hown hr2 hb hg2 hrs hnd hl
      go_wp2
      go_ret
      obtain ⟨q1, q2, q3, q4, q5, q6⟩ := HQ.out
      refine ⟨_, _, rs, rfl, by omega, q2, q3, q4, fun k r h => ⟨by have := (q5 k r h).1; omega, fun e => ?_, (q5 k r h).2⟩, HB1.out.trans (q6.mono hz)⟩
      subst e
      obtain ⟨cur, hc, _⟩ := q2
      obtain ⟨cur', hc', _⟩ := (q5 k r h).2
      rw [hc] at hc'
      injection hc' with hc'
      injection hc' with _ hc'
      exact absurd hc' (by decide)
end Go.Proofs.Ytkgnkdnipcacgaa
