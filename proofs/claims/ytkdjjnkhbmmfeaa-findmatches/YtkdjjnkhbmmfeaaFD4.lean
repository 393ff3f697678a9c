import Derived.Test.YtkdjjnkhbmmfeaaFD3
namespace Go.Proofs.Ytkdjjnkhbmmfeaa
open Go.RowKit Go.Maps

/-- A piece of a pattern. -/
structure Pc where
  mem : List (Int × Int)
  oth : Bool
  sl : Bool
  many : Bool
/-- The cells of members. -/
def mcs (ms : List (Int × Int)) : List Value := ms.flatMap (fun p => [.int .u8 p.1, .int .u8 p.2])
/-- A piece as a value. -/
def PCv (w : World) (B : Nat) (v : Value) (p : Pc) : Prop := ∃ mv, v = .agg #[mv, .bool p.oth, .bool p.sl, .bool p.many] ∧ w.ownsRow B 83 2 mv p.mem.length (mcs p.mem)
def onlyP (b : Int) : Pc := ⟨[(b, b)], false, true, false⟩
def starsL : List Int → Bool × List Int
  | [] => (false, [])
  | b :: l => if b = 42 then (true, (starsL l).2) else (false, b :: l)
section
variable {w w' : World} {r g : Nat} {b : Int} {l m : List Int} {G : Nat → Prop}
theorem four_cells {B : Nat} {t : TypeId} {u0 u1 u2 u3 : Value} (h : w.heap[B]? = some (.cells #[u0, u1, u2, u3] t (0, 0))) (a b c d : Value) : (w.cell? ⟨B, 0, none⟩ = some u0 ∧ (w.setCell ⟨B, 0, none⟩ a).cell? ⟨B, 1, none⟩ = some u1 ∧ ((w.setCell ⟨B, 0, none⟩ a).setCell ⟨B, 1, none⟩ b).cell? ⟨B, 2, none⟩ = some u2 ∧ (((w.setCell ⟨B, 0, none⟩ a).setCell ⟨B, 1, none⟩ b).setCell ⟨B, 2, none⟩ c).cell? ⟨B, 3, none⟩ = some u3) ∧
    (w.frozen? ⟨B, 0, none⟩ = false ∧ (w.setCell ⟨B, 0, none⟩ a).frozen? ⟨B, 1, none⟩ = false ∧ ((w.setCell ⟨B, 0, none⟩ a).setCell ⟨B, 1, none⟩ b).frozen? ⟨B, 2, none⟩ = false ∧ (((w.setCell ⟨B, 0, none⟩ a).setCell ⟨B, 1, none⟩ b).setCell ⟨B, 2, none⟩ c).frozen? ⟨B, 3, none⟩ = false) ∧
    ((((w.setCell ⟨B, 0, none⟩ a).setCell ⟨B, 1, none⟩ b).setCell ⟨B, 2, none⟩ c).setCell ⟨B, 3, none⟩ d).heap[B]? = some (.cells #[a, b, c, d] t (0, 0)) ∧ Keeps (fun k => k = B) w ((((w.setCell ⟨B, 0, none⟩ a).setCell ⟨B, 1, none⟩ b).setCell ⟨B, 2, none⟩ c).setCell ⟨B, 3, none⟩ d) := by
  have h1 := heap_setCell_same _ _ 0 _ _ a h
  have h2 := heap_setCell_same _ _ 1 _ _ b h1
  have h3 := heap_setCell_same _ _ 2 _ _ c h2
  have h4 := heap_setCell_same _ _ 3 _ _ d h3
  exact ⟨⟨cell_of_block h (j := 0) rfl, cell_of_block h1 (j := 1) (by simp), cell_of_block h2 (j := 2) (by simp), cell_of_block h3 (j := 3) (by simp)⟩, ⟨frozen_of_block h 0, frozen_of_block h1 1, frozen_of_block h2 2, frozen_of_block h3 3⟩, h4.trans (by simp), (((Keeps.setCell (F := fun k => k = B) w (p := ⟨B, 0, none⟩) rfl a).trans (Keeps.setCell (F := fun k => k = B) _ (p := ⟨B, 1, none⟩) rfl b) (fun k e => .inl e)).trans (Keeps.setCell (F := fun k => k = B) _ (p := ⟨B, 2, none⟩) rfl c) (fun k e => .inl e)).trans (Keeps.setCell (F := fun k => k = B) _ (p := ⟨B, 3, none⟩) rfl d) (fun k e => .inl e)⟩
theorem rowL {B n sz : Nat} {t : TypeId} {v : Value} {xs : List Value} (h : w.ownsRow B t sz v n xs) {g : Nat} (hv : v.ownBlock = some g) : g < w.heap.size ∧ B ≤ g ∧ ∃ cur, w.heap[g]? = some (.cells cur t (0, 0)) := by
  obtain ⟨_, ⟨rfl, _⟩ | ⟨g', cap, cur, rfl, hg, hb, _⟩⟩ := h
  · cases hv
  · cases hv
    exact ⟨lt_there hb, hg, cur, hb⟩
theorem rowA {B n sz : Nat} {t : TypeId} {v : Value} {xs : List Value} (h : w.ownsRow B t sz v n xs) (ha : ∀ g, v.ownBlock = some g → w'.heap[g]? = w.heap[g]?) : w'.ownsRow B t sz v n xs := by
  obtain ⟨h1, h2 | ⟨g', cap, cur, rfl, hg, hb, h3⟩⟩ := h
  · exact ⟨h1, .inl h2⟩
  · exact ⟨h1, .inr ⟨g', cap, cur, rfl, hg, (ha g' rfl).trans hb, h3⟩⟩
theorem rowLower {B B' n sz : Nat} {t : TypeId} {v : Value} {xs : List Value} (h : w.ownsRow B t sz v n xs) (hB : B' ≤ B) : w.ownsRow B' t sz v n xs := by
  obtain ⟨h1, h2 | ⟨g', cap, cur, e, hg, h3⟩⟩ := h
  · exact ⟨h1, .inl h2⟩
  · exact ⟨h1, .inr ⟨g', cap, cur, e, by omega, h3⟩⟩
theorem PCv.keep {B : Nat} {v : Value} {p : Pc} (h : PCv w B v p) (hk : Keeps G w w') (hG : ∀ k, B ≤ k → k < w.heap.size → ¬ G k) : PCv w' B v p := by
  obtain ⟨mv, rfl, ho⟩ := h
  exact ⟨mv, rfl, rowA ho (fun g hg => hk.block g (rowL ho hg).1 (hG g (rowL ho hg).2.1 (rowL ho hg).1))⟩
theorem PCv.lower {B B' : Nat} {v : Value} {p : Pc} (h : PCv w B v p) (hB : B' ≤ B) : PCv w B' v p := by
  obtain ⟨mv, rfl, ho⟩ := h
  exact ⟨mv, rfl, rowLower ho hB⟩
set_option maxRecDepth 20000 in
set_option maxHeartbeats 4000000 in
theorem only_any (b : Int) (w : World) : Calls Try.prog 27 #[.int .u8 b] w fun e w' => (∃ v, e = .returned v ∧ PCv w' w.heap.size v (onlyP b)) ∧ Below w.heap.size w w' := by
  have hB1 : Below w.heap.size w ((w.alloc (.cells #[.slice (some ⟨w.heap.size + 1, 0, none⟩) 1 1, .bool false, .bool true, .bool false] 68)).alloc (.cells #[.int .u8 b, .int .u8 b] 83)) := ((Below.refl _ _).alloc (Nat.le_refl _) _).alloc (by simp) _
  have hg2 := heap_alloc_new (w.alloc (.cells #[.slice (some ⟨w.heap.size + 1, 0, none⟩) 1 1, .bool false, .bool true, .bool false] 68)) (.cells #[.int .u8 b, .int .u8 b] 83)
  have hg1 := (Below.heap_alloc (w.alloc (.cells #[.slice (some ⟨w.heap.size + 1, 0, none⟩) 1 1, .bool false, .bool true, .bool false] 68)) (.cells #[.int .u8 b, .int .u8 b] 83) w.heap.size (by simp)).trans (heap_alloc_new w (.cells #[.slice (some ⟨w.heap.size + 1, 0, none⟩) 1 1, .bool false, .bool true, .bool false] 68))
  have hz : (w.alloc (.cells #[.slice (some ⟨w.heap.size + 1, 0, none⟩) 1 1, .bool false, .bool true, .bool false] 68)).heap.size = w.heap.size + 1 := World.size_alloc _ _
  rw [hz] at hg2
  have HH := Hid.mk (And.intro hB1 (And.intro hg1 hg2))
  clear hB1 hg1 hg2 hz
  go_enter Try.func27, Try.ntmps27
  go_wp2
  refine bodyPost_ret (results_agg (P := Try.prog) rfl _ _ w.heap.size [.slice (some ⟨w.heap.size + 1, 0, none⟩) 1 1, .bool false, .bool true, .bool false] _ rfl (range_block HH.out.2.1) Try.underlying68 rfl (by kernel_rfl)) rfl ⟨⟨_, rfl, _, rfl, ⟨rfl, .inr ⟨w.heap.size + 1, 1, _, rfl, by omega, HH.out.2.2, by simp [onlyP], by unfold maxLen; omega, rfl, rfl⟩⟩⟩, HH.out.1⟩
theorem took_true {x : Int} (h : (tookP m x).1 = true) : m = x :: (tookP m x).2 := by
  match m, h with
  | [], h => cases h
  | b :: m, h =>
    by_cases e : b = x
    · simp [tookP, e]
    · simp [tookP, e] at h
theorem took_false {x : Int} (h : (tookP m x).1 = false) : (tookP m x).2 = m := by
  match m, h with
  | [], h => rfl
  | b :: m, h =>
    by_cases e : b = x
    · simp [tookP, e] at h
    · simp [tookP, e]
theorem stars_true (h : (tookP m 42).1 = true) : starsL m = (true, (starsL (tookP m 42).2).2) := by
  have e := took_true h
  obtain ⟨n, hn⟩ : ∃ n, n = (tookP m 42).2 := ⟨_, rfl⟩
  rw [← hn] at e ⊢
  rw [e]
  simp [starsL]
theorem stars_false (h : (tookP m 42).1 = false) : starsL m = (false, m) := by
  match m, h with
  | [], h => rfl
  | b :: m, h =>
    by_cases e : b = 42
    · simp [tookP, e] at h
    · simp [starsL, e]
/-- How much is left. -/
def leftN (w : World) (r : Nat) : Nat := match w.cell? ⟨r, 0, none⟩ with | some (.slice _ n _) => n | _ => 0
theorem RD.left (h : RD w r g l) : leftN w r = l.length := by
  obtain ⟨a, c, h1, _⟩ := h
  unfold leftN
  rw [cell_of_block h1 (j := 0) (u := .slice a l.length c) rfl]
set_option maxRecDepth 20000 in
set_option maxHeartbeats 4000000 in
theorem stars_any (h : RD w r g l) : Calls Try.prog 28 #[.pointer (some ⟨r, 0, none⟩)] w fun e w' => e = .returned (.agg #[.slice none 0 0, .bool true, .bool (starsL l).1, .bool true]) ∧ RD w' r g (starsL l).2 ∧ Keeps (fun k => k = r) w w' := by
  obtain ⟨W0, hW0⟩ : ∃ W0, W0 = (w.alloc (.cells #[.slice none 0 0, .bool false, .bool false, .bool false] 68)).alloc (.cells #[.slice none 0 0, .bool true, .bool false, .bool true] 68) := ⟨_, rfl⟩
  have hB1 : Below w.heap.size w W0 := by rw [hW0]; exact ((Below.refl _ _).alloc (Nat.le_refl _) _).alloc (by simp) _
  have hz : (w.alloc (.cells #[.slice none 0 0, .bool false, .bool false, .bool false] 68)).heap.size = w.heap.size + 1 := World.size_alloc _ _
  have hg1 : W0.heap[w.heap.size]? = some (.cells #[.slice none 0 0, .bool false, .bool false, .bool false] 68 (0, 0)) := by rw [hW0]; exact (Below.heap_alloc _ _ w.heap.size (by simp)).trans (heap_alloc_new w _)
  have hg2 : W0.heap[w.heap.size + 1]? = some (.cells #[.slice none 0 0, .bool true, .bool false, .bool true] 68 (0, 0)) := by
    have := heap_alloc_new (w.alloc (.cells #[.slice none 0 0, .bool false, .bool false, .bool false] 68)) (.cells #[.slice none 0 0, .bool true, .bool false, .bool true] 68)
    rw [hz] at this
    rw [hW0]
    exact this
  have hrl := h.lt
  have hgl := h.glt
  have HH := Hid.mk (And.intro (h.later hB1) (And.intro hg1 (And.intro hg2 (Keeps.of_below (fun k => k = r) hB1))))
  have hsz := hB1.size
  clear h hB1 hg1 hg2 hz
  go_enter Try.func28, Try.ntmps28
  go_wp2
  rw [← hW0]
  clear hW0
  go_loopw [] (fun wr => ∃ m sl, RD wr r g m ∧ starsL l = ((sl || (starsL m).1), (starsL m).2) ∧ wr.heap[w.heap.size]? = some (.cells #[.slice none 0 0, .bool false, .bool false, .bool false] 68 (0, 0)) ∧ wr.heap[w.heap.size + 1]? = some (.cells #[.slice none 0 0, .bool true, .bool sl, .bool true] 68 (0, 0)) ∧ Keeps (fun k => k = r) w wr) (fun wr => leftN wr r)
  case atStart => exact ⟨l, false, HH.out.1, by simp, HH.out.2.1, HH.out.2.2.1, HH.out.2.2.2⟩
  case round =>
    obtain ⟨m, sl, hr, hst, b1, b2, hk⟩ := hrel
    have kt := took_any hr 42
    have hlf := hr.left
    have hl9 : r ≠ w.heap.size + 1 := by omega
    have HI := Hid.mk (And.intro hr (And.intro b1 (And.intro b2 hk)))
    clear hr b1 b2 hk
    cases ht : (tookP m 42).1 with
    | true =>
      rw [ht] at kt
      have hst' := hst.trans (by rw [stars_true ht] : _ = ((sl || true), (starsL (tookP m 42).2).2))
      have hlen : m.length = (tookP m 42).2.length + 1 := by
        have := congrArg List.length (took_true ht)
        simpa using this
      have HST := Hid.mk (And.intro hst' hlen)
      clear hst hst' hlen
      go_wp2_with fail
      refine kt.mono ?_
      rintro e w1 ⟨rfl, hr1, hk1⟩
      have b1 := (hk1.block _ (lt_there HI.out.2.1) (by omega)).trans HI.out.2.1
      have b2 := (hk1.block _ (lt_there HI.out.2.2.1) (by omega)).trans HI.out.2.2.1
      have q2 : w1.cell? ⟨w.heap.size + 1, 2, none⟩ = some (.bool sl) := cell_of_block b2 (j := 2) rfl
      have f2 : w1.frozen? ⟨w.heap.size + 1, 2, none⟩ = false := frozen_of_block b2 2
      have hk2 := Keeps.setCell (F := fun k => k = w.heap.size + 1) w1 (p := ⟨w.heap.size + 1, 2, none⟩) rfl (.bool true)
      have HE : Hid (RD (w1.setCell ⟨w.heap.size + 1, 2, none⟩ (.bool true)) r g (tookP m 42).2 ∧ (w1.setCell ⟨w.heap.size + 1, 2, none⟩ (.bool true)).heap[w.heap.size]? = some (.cells #[.slice none 0 0, .bool false, .bool false, .bool false] 68 (0, 0)) ∧ (w1.setCell ⟨w.heap.size + 1, 2, none⟩ (.bool true)).heap[w.heap.size + 1]? = some (.cells #[.slice none 0 0, .bool true, .bool true, .bool true] 68 (0, 0)) ∧ Keeps (fun k => k = r) w (w1.setCell ⟨w.heap.size + 1, 2, none⟩ (.bool true))) :=
        ⟨hr1.keep hk2 (by omega) (by omega), (hk2.block _ (lt_there b1) (by omega)).trans b1, (heap_setCell_same _ _ 2 _ _ (.bool true) b2).trans (by simp), (HI.out.2.2.2.trans hk1 (fun k e => .inl e)).trans hk2 (fun k e => .inr (by omega))⟩
      clear kt hr1 hk1 b1 b2 hk2 HI
      go_wp2
      go_roundw
      case rel => exact ⟨_, true, HE.out.1, by rw [HST.out.1]; simp, HE.out.2.1, HE.out.2.2.1, HE.out.2.2.2⟩
      case measure => rw [HE.out.1.left, hlf, HST.out.2]; omega
    | false =>
      rw [ht] at kt
      have hm2 := took_false ht
      have hst' : Hid (starsL l = (sl, m)) := hst.trans (by rw [stars_false ht]; simp)
      rw [hm2] at kt
      clear hst hm2
      go_wp2_with fail
      refine kt.mono ?_
      rintro e w1 ⟨rfl, hr1, hk1⟩
      have b1 := (hk1.block _ (lt_there HI.out.2.1) (by omega)).trans HI.out.2.1
      have b2 := (hk1.block _ (lt_there HI.out.2.2.1) (by omega)).trans HI.out.2.2.1
      have p0 : w1.cell? ⟨w.heap.size + 1, 0, none⟩ = some (.slice none 0 0) := cell_of_block b2 (j := 0) rfl
      have p1 : w1.cell? ⟨w.heap.size + 1, 1, none⟩ = some (.bool true) := cell_of_block b2 (j := 1) rfl
      have p2 : w1.cell? ⟨w.heap.size + 1, 2, none⟩ = some (.bool sl) := cell_of_block b2 (j := 2) rfl
      have p3 : w1.cell? ⟨w.heap.size + 1, 3, none⟩ = some (.bool true) := cell_of_block b2 (j := 3) rfl
      obtain ⟨⟨q0, q1, q2, q3⟩, ⟨f0, f1, f2, f3⟩, hb4, hk4⟩ := four_cells b1 (.slice none 0 0) (.bool true) (.bool sl) (.bool true)
      have HE := Hid.mk (And.intro (range_block hb4) (And.intro (hr1.keep hk4 (by omega) (by omega)) ((HI.out.2.2.2.trans hk1 (fun k e => .inl e)).trans hk4 (fun k e => .inr (by omega)))))
      clear kt hr1 hk1 b1 b2 HI hb4 hk4
      go_wp2
      refine bodyPost_ret (results_agg (P := Try.prog) rfl _ _ w.heap.size [.slice none 0 0, .bool true, .bool sl, .bool true] _ rfl HE.out.1 Try.underlying68 rfl (by kernel_rfl)) rfl ⟨by rw [hst'.out], by rw [hst'.out]; exact HE.out.2.1, HE.out.2.2⟩
end
end Go.Proofs.Ytkdjjnkhbmmfeaa
