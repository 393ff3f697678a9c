import Derived.Test.YtkkmkogpbhcpmaaTear
namespace Go.Proofs.Ytkkmkogpbhcpmaa
open Go.RowKit Go.Maps

/-- Numbers as cells. -/
abbrev is_ (l : List Nat) : List Value := l.map (fun k : Nat => Value.int .i64 (k : Int))

/-- The sectors with pending writes, in rising order. -/
def keysOf (S : DS) (s : Nat) : List Nat := (List.range s).filter (fun k => !(pendOf S.puts k).isEmpty)

theorem mem_keysOf {S : DS} {s k : Nat} : k ∈ keysOf S s ↔ k < s ∧ pendOf S.puts k ≠ [] := by
  simp [keysOf, List.mem_filter]

theorem is_eq (l : List Nat) : (l.map (fun k : Nat => (k : Int))).map (Value.int .i64) = is_ l := by rw [List.map_map]; rfl

/-- What slices.Sort does to a row of numbers. -/
def SortSaid : Prop := ∀ (g cap : Nat) (zs : List Int) (w : World), RowAt w 3 g cap (zs.map (Value.int .i64)) → zs.length < 4611686018427387904 →
  Calls Try.prog 103 #[.slice (some ⟨g, 0, none⟩) zs.length cap] w fun e w' => e = .returned (.tuple #[]) ∧ RowAt w' 3 g cap ((zs.mergeSort fun x y => decide (x ≤ y)).map (Value.int .i64)) ∧ Keeps (fun k => k = g) w w'

/-- .. and to none. -/
def SortNil : Prop := ∀ (w : World), Calls Try.prog 103 #[.slice none 0 0] w fun e w' => e = .returned (.tuple #[]) ∧ Below w.heap.size w w'

theorem sorted_keys {S : DS} {s : Nat} (hok : S.Ok s) {ks : List Nat} (hn : ks.Nodup) (hm : ∀ k, k ∈ ks ↔ pendOf S.puts k ≠ []) :
    ((ks.map (fun k : Nat => (k : Int))).mergeSort fun x y => decide (x ≤ y)) = (keysOf S s).map (fun k : Nat => (k : Int)) := by
  have hlt : ∀ k, pendOf S.puts k ≠ [] → k < s := fun k hp => by
    obtain ⟨l, hl⟩ := List.exists_mem_of_ne_nil _ hp
    unfold pendOf at hl
    obtain ⟨q, hq, _⟩ := List.mem_map.1 hl
    obtain ⟨hq1, hq2⟩ := List.mem_filter.1 hq
    have := (hok.puts q hq1).1
    simp at hq2
    omega
  have hn2 : (keysOf S s).Nodup := List.Pairwise.filter _ List.nodup_range
  have hperm : ks.Perm (keysOf S s) := (List.perm_ext_iff_of_nodup hn hn2).2 (fun k => by
    rw [hm, mem_keysOf]
    exact ⟨fun h => ⟨hlt k h, h⟩, fun h => h.2⟩)
  have hs2 : ((keysOf S s).map (fun k : Nat => (k : Int))).Pairwise (fun x y => decide (x ≤ y) = true) := by
    refine List.pairwise_map.2 ?_
    have : (keysOf S s).Pairwise (fun x y => x < y) := List.Pairwise.filter _ List.pairwise_lt_range
    exact this.imp (fun h => by simp; omega)
  have tr : ∀ a b c : Int, decide (a ≤ b) = true → decide (b ≤ c) = true → decide (a ≤ c) = true := fun a b c h1 h2 => by simp only [decide_eq_true_eq] at *; omega
  have to : ∀ a b : Int, (decide (a ≤ b) || decide (b ≤ a)) = true := fun a b => by simp only [Bool.or_eq_true, decide_eq_true_eq]; omega
  refine List.Perm.eq_of_pairwise (le := fun a b => decide (a ≤ b) = true) (fun a b _ _ h1 h2 => ?_) (List.pairwise_mergeSort tr to _) hs2 ((List.mergeSort_perm _ _).trans (hperm.map _))
  simp only [decide_eq_true_eq] at h1 h2
  omega

set_option maxHeartbeats 4000000 in
theorem unfl_ok (sorts : SortSaid) (sortn : SortNil) {w : World} {F : Nat → Prop} {p s : Nat} {S : DS} {gi ci m : Nat} {D : DataW Value} {gr cr : Nat → Nat} (h : DiskRaw w F p s S gi ci m D gr cr) (hbig : S.puts.length + 1 ≤ 5000000000000) :
    Calls Try.prog 68 #[.pointer (some ⟨p, 0, none⟩)] w fun e w' => ∃ a c, e = .returned (.slice a (keysOf S s).length c) ∧ (keysOf S s ≠ [] → ∃ g, a = some ⟨g, 0, none⟩ ∧ w.heap.size ≤ g ∧ RowAt w' 3 g c (is_ (keysOf S s))) ∧ Below w.heap.size w w' := by
  obtain ⟨i0, hi0, hz0, hz1, hz2⟩ := info_parts infoInt
  have c1 := cell_of_block h.blk (j := 1) rfl
  have hml := h.lt m h.fm
  have H := Hid.mk h
  clear h
  go_enter Try.func68, Try.ntmps68
  go_wp2_with (at_range; refine wpList_range_own _ rfl _ 96 rfl 3 42 keyInt Try.underlying96 Rs m S.puts.length D rfl H.out.map ?_; intro w0 hrg0 hg0 hs0; go_frame)
  have hb0 : Below w.heap.size w w0 := (Below.refl _ w).grown hg0 (Nat.le_refl _) (fun j hj => by cases hj)
  have hsz0 : Maps.size D ≤ S.puts.length := H.out.map.size_le
  clear hg0
  go_loopw [3, 4] (fun v _ wr => ∃ (left : Lit → Bool) (cnt : Nat) (ks : List Nat), wr.ranges Try.prog 3 Rs m w.heap.size S.puts.length D left cnt ∧ wr.ownsRow (w.heap.size + 1) 3 1 v ks.length (is_ ks) ∧
      ks.Nodup ∧ (∀ k, k ∈ ks ↔ pendOf S.puts k ≠ [] ∧ left (kk k) = false) ∧ Below w.heap.size w wr ∧ ks.length + cnt ≤ S.puts.length ∧ w.heap.size + 1 ≤ wr.heap.size)
    (fun _ _ wr => wr.rangeLeft m w.heap.size)
  case atStart => 
    refine ⟨_, _, [], hrg0, World.ownsRow_nil _ _ _ _, List.nodup_nil, fun k => ?_, hb0, by simpa using hsz0, by omega⟩
    constructor
    · intro hk; cases hk
    · rintro ⟨hp, hl⟩; rw [H.out.pend.has hp] at hl; cases hl
  case round =>
    clear hrg0 hb0 hs0 hsz0
    obtain ⟨left, cnt, ks, hrg, hrow, hnd, hmem, hb, hcs, hsz⟩ := hrel
    go_wp2_with (at_next; refine wpList_next_ranges _ rfl _ rfl 3 keyInt Rs (Value.int .i64) mkS (fun key kl hkey => by obtain ⟨x, rfl, _⟩ := Maps.keyOf_int_inv Try.underlying3 hkey; exact ⟨x, rfl⟩) Rs_inv m w.heap.size S.puts.length _ _ _ rfl hrg ?_ ?_)
    · intro _ hl0
      have hmem' : ∀ k, k ∈ ks ↔ pendOf S.puts k ≠ [] := fun k => by rw [hmem, hl0]; simp
      have hsk := sorted_keys H.out.ok hnd hmem'
      have hlen : ks.length = (keysOf S s).length := by
        have := congrArg List.length hsk
        rw [List.length_mergeSort] at this
        simpa using this
      have hnil2 : ks = [] → keysOf S s = [] := fun e => by rw [e] at hlen; exact List.eq_nil_of_length_eq_zero hlen.symm
      rcases hrow.2 with ⟨rfl, hz⟩ | ⟨g, cap, cur, rfl, hg, hbk, h1, h2, h3, h4⟩
      · have hks : keysOf S s = [] := hnil2 (List.eq_nil_of_length_eq_zero hz)
        have hsn := sortn wr
        clear hrow hmem hmem' hsk hrg H sorts sortn
        go_wp2_with (go_at_call 103; refine hsn.mono ?_; rintro e w9 ⟨rfl, hb9⟩)
        go_ret
        exact ⟨none, 0, by simp [hks], fun h => absurd hks h, hb.trans (hb9.mono hb.size)⟩
      · have hr9 : RowAt wr 3 g cap ((ks.map (fun k : Nat => (k : Int))).map (Value.int .i64)) := by
          rw [is_eq]
          refine ⟨cur, hbk, by simpa using h3, ?_, h2⟩
          simp only [Nat.mul_one] at h4
          rw [show (is_ ks).length = ks.length by simp [is_]]
          exact h4
        have hso := sorts g cap _ wr hr9 (by simp; omega)
        simp only [List.length_map] at hso
        rw [hsk] at hso
        have Hlen := Hid.mk hlen
        clear hrow hmem hmem' hsk hrg H sorts sortn hr9 hlen h4
        go_wp2_with (go_at_call 103; refine hso.mono ?_; rintro e w9 ⟨rfl, hr10, hk9⟩)
        go_ret
        refine ⟨some ⟨g, 0, none⟩, cap, ?_, fun _ => ⟨g, rfl, by omega, ?_⟩, hb.trans (hk9.below (fun j hj => by omega) hb.size)⟩
        · rw [← Hlen.out]; rfl
        · rw [← is_eq]; exact hr10
    · intro x ca cn cc kl yd yp w2 cnt2 hkey hlk hv hat hrg2 hlt hg2 hs2 hen
      obtain ⟨k, rfl, rfl, hp, hc⟩ := H.out.pend.met hkey hv hat
      have hnk : k ∉ ks := fun hk => by rw [((hmem k).1 hk).2] at hlk; cases hlk
      have hrow2 := hrow.kept hg2 (.inr (fun e => by have := hrow.lt _ e; omega))
      have hb2 : Below w.heap.size w w2 := hb.grown hg2 hb.size (fun j hj => by cases hj; exact Nat.le_refl _)
      have hsz2 : w.heap.size + 1 ≤ w2.heap.size := by omega
      have hmem2 : ∀ j, j ∈ ks ++ [k] ↔ pendOf S.puts j ≠ [] ∧ (left (kk j) && !(kk j).sameKey (kk k)) = false := fun j => by
        rw [List.mem_append, List.mem_singleton, hmem, same_kk]
        by_cases e : j = k
        · subst e; simp [hp]
        · simp [e]
      have hlen : ks.length + 1 ≤ 5000000000000 := by omega
      have Hmem2 := Hid.mk hmem2
      have Hrow2 := Hid.mk hrow2
      clear hkey hv hat hs2 hg2 hc hmem hmem2 hrow2
      go_wp2_with (at_builtin; refine wpList_append_own _ rfl _ _ 106 rfl (w.heap.size + 1) 3 i0 (.int .i64 0) 1 8 Try.underlying106 hi0 hz0 hz1 hz2 rfl (by decide) _ _ _ rfl (Hrow2.out.alloc _) ⟨w2.heap.size, 0, none⟩ 1 1 [.int .i64 (k : Int)] rfl rfl (cell_one_new _ _ _) (ints_oneCell .i64 [(k : Int)]) (by unfold maxLen; omega) (by omega) (by simp; omega) ?_)
      intro v' w3 hown' hgrow hnil
      have hgr2 : ∀ j, u3.ownBlock = some j → w.heap.size + 1 ≤ j := fun j e => (hrow.lt j e).1
      have hrg3 := (hrg2.alloc (.cells #[.int .i64 (k : Int)] 3)).kept hgrow (fun e => by have := hgr2 m e.symm; omega) (fun e => by have := hgr2 _ e.symm; omega)
      have hb3 : Below w.heap.size w w3 := (hb2.alloc (by omega) _).grown hgrow (by simp; omega) (fun j e => by have := hgr2 j e; omega)
      have hsz3 : w.heap.size + 1 ≤ w3.heap.size := by have := hgrow.size; simp at this; omega
      have hnd2 : (ks ++ [k]).Nodup := List.nodup_append.2 ⟨hnd, by simp, by intro a ha b hb' e; simp at hb'; subst hb'; exact hnk (e ▸ ha)⟩
      have hown2 : w3.ownsRow (w.heap.size + 1) 3 1 v' (ks ++ [k]).length (is_ (ks ++ [k])) := by simpa [is_] using hown'
      have Hown2 := Hid.mk hown2
      have Hrg3 := Hid.mk hrg3
      clear hown' hgrow hnil hown2 hrg3 hrow Hrow2 hrg2 hen
      go_wp2
      go_roundw
      case rel => exact ⟨_, cnt2, ks ++ [k], Hrg3.out, Hown2.out, hnd2, Hmem2.out, hb3, by simp; omega, hsz3⟩
      case measure => rw [Hrg3.out.left_eq, hrg.left_eq]; exact hlt
end Go.Proofs.Ytkkmkogpbhcpmaa
