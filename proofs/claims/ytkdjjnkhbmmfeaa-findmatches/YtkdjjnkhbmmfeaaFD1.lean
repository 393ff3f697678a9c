import Derived.Test.YtkdjjnkhbmmfeaaSHB
import Derived.Test.YtkdjjnkhbmmfeaaSH1
namespace Go.Proofs.Ytkdjjnkhbmmfeaa
open Go.RowKit Go.Maps

/-- How a reading of a pattern gives up. -/
abbrev gave (x : Int) : List PanicEntry := [{ v := .iface 26 (.int .i64 x), recovered := false }]
theorem haltIf_f (w : World) (x : Int) : Calls Try.prog 15 #[.bool false, .int .i64 x] w fun e w' => e = .returned (.tuple #[]) ∧ w' = w := by
  go_enter Try.func15, Try.ntmps15
  go_wp2
  go_end0
  exact ⟨rfl, rfl⟩
theorem haltIf_t (w : World) (x : Int) : Calls Try.prog 15 #[.bool true, .int .i64 x] w fun e w' => e = .panicked (gave x) ∧ w' = w := by
  go_enter Try.func15, Try.ntmps15
  go_wp2
  exact ⟨rfl, rfl, rfl⟩
theorem haltIf_fb (w : World) (x : Int) {c : Bool} (hc : c = false) : Calls Try.prog 15 #[.bool c, .int .i64 x] w fun e w' => e = .returned (.tuple #[]) ∧ w' = w := by subst hc; exact haltIf_f w x
theorem haltIf_tb (w : World) (x : Int) {c : Bool} (hc : c = true) : Calls Try.prog 15 #[.bool c, .int .i64 x] w fun e w' => e = .panicked (gave x) ∧ w' = w := by subst hc; exact haltIf_t w x
theorem lt_there {w : World} {k : Nat} {o : Obj} (h : w.heap[k]? = some o) : k < w.heap.size := (Array.getElem?_eq_some_iff.1 h).1
theorem cell_keep {w w' : World} {G : Nat → Prop} (hk : Keeps G w w') {g j : Nat} (hn : ¬ G g) {u : Value} (hc : w.cell? ⟨g, j, none⟩ = some u) : w'.cell? ⟨g, j, none⟩ = some u := by
  have hl : g < w.heap.size := by
    unfold World.cell? at hc
    cases hh : w.heap[g]? with
    | none => rw [hh] at hc; simp at hc
    | some o => exact lt_there hh
  unfold World.cell? at hc ⊢
  rw [hk.block g hl hn]
  exact hc
theorem Src.avoid {w w' : World} {a : Option Addr} {n : Nat} {l : List Int} {F : Nat → Prop} (h : Src w a n l) (hk : Keeps F w w') (ha : ∀ y, a = some y → 0 < n → ¬ F y.block) : Src w' a n l := by
  refine ⟨h.1, h.2.1, fun x hx i hi => ?_⟩
  subst hx
  obtain ⟨b, o, rfl, hat⟩ := h.spot (by omega)
  rw [addr_add]
  exact cell_keep hk (ha _ rfl (by omega)) (hat i hi)
/-- The reader in memory: what is left lies in block g. -/
def RD (w : World) (r g : Nat) (l : List Int) : Prop :=
  ∃ a c, w.heap[r]? = some (.cells #[.slice a l.length c, .int .i64 190] 65 (0, 0)) ∧ Src w a l.length l ∧ l.length ≤ c ∧ (∀ x, a = some x → x.block = g) ∧ g ≠ r ∧ g < w.heap.size
section
variable {w w' : World} {r g : Nat} {b : Int} {l : List Int} {G : Nat → Prop}
theorem RD.lt (h : RD w r g l) : r < w.heap.size := by
  obtain ⟨a, c, h1, _⟩ := h
  exact lt_there h1
theorem RD.glt (h : RD w r g l) : g < w.heap.size := by
  obtain ⟨a, c, _, _, _, _, _, h6⟩ := h
  exact h6
theorem RD.keep (h : RD w r g l) (hk : Keeps G w w') (hr : ¬ G r) (hg : ¬ G g) : RD w' r g l := by
  obtain ⟨a, c, h1, h2, h3, h4, h5⟩ := h
  exact ⟨a, c, (hk.block r (lt_there h1) hr).trans h1, h2.avoid hk (fun y hy _ => by rw [h4 y hy]; exact hg), h3, h4, h5.1, by have := hk.size; have := h5.2; omega⟩
theorem RD.later (h : RD w r g l) (hb : Below w.heap.size w w') : RD w' r g l := h.keep (Keeps.of_below (fun _ => False) hb) (fun h => h) (fun h => h)
theorem rd_set {u : Value} {o c : Nat} (h1 : w.heap[r]? = some (.cells #[u, .int .i64 190] 65 (0, 0))) (hs : Src w (some ⟨g, o, none⟩) l.length l) (hc : l.length ≤ c) (hg : g ≠ r) (hg2 : g < w.heap.size) :
    RD (w.setCell ⟨r, 0, none⟩ (.slice (some ⟨g, o, none⟩) l.length c)) r g l ∧ Keeps (fun k => k = r) w (w.setCell ⟨r, 0, none⟩ (.slice (some ⟨g, o, none⟩) l.length c)) := by
  have hk := Keeps.setCell (F := fun k => k = r) w (p := ⟨r, 0, none⟩) rfl (.slice (some ⟨g, o, none⟩) l.length c)
  refine ⟨⟨_, c, (heap_setCell_same _ _ 0 _ _ _ h1).trans (by simp), hs.avoid hk (fun y hy _ e => by cases hy; exact hg e), hc, fun x hx => by cases hx; rfl, hg, by have := hk.size; omega⟩, hk⟩
set_option maxRecDepth 20000 in
theorem ended_no (h : RD w r g (b :: l)) : Calls Try.prog 20 #[.pointer (some ⟨r, 0, none⟩)] w fun e w' => e = .returned (.bool false) ∧ w' = w := by
  obtain ⟨a, c, h1, _⟩ := h
  have c0 : w.cell? ⟨r, 0, none⟩ = some (.slice a (l.length + 1) c) := cell_of_block h1 (j := 0) rfl
  have hz : (((l.length + 1 : Nat) : Int) == 0) = false := by rw [beq_eq_false_iff_ne]; omega
  clear h1
  go_enter Try.func20, Try.ntmps20
  go_wp2
  go_ret
  first | exact ⟨rfl, rfl⟩ | exact ⟨by simp; omega, rfl⟩
set_option maxRecDepth 20000 in
theorem ended_yes (h : RD w r g []) : Calls Try.prog 20 #[.pointer (some ⟨r, 0, none⟩)] w fun e w' => e = .returned (.bool true) ∧ w' = w := by
  obtain ⟨a, c, h1, _⟩ := h
  have c0 : w.cell? ⟨r, 0, none⟩ = some (.slice a 0 c) := cell_of_block h1 (j := 0) rfl
  clear h1
  go_enter Try.func20, Try.ntmps20
  go_wp2
  go_ret
  exact ⟨rfl, rfl⟩
set_option maxRecDepth 20000 in
set_option maxHeartbeats 4000000 in
theorem next_no (h : RD w r g []) : Calls Try.prog 26 #[.pointer (some ⟨r, 0, none⟩)] w fun e w' => e = .panicked (gave 190) ∧ Keeps (fun k => k = r) w w' := by
  have hbd := below_drew (Below.refl w.heap.size w)
  have ke := ended_yes (h.later hbd)
  obtain ⟨a, c, h1, _⟩ := h
  have c1 : w.drew.cell? ⟨r, 1, none⟩ = some (.int .i64 190) := cell_later hbd (cell_of_block h1 (j := 1) rfl)
  have HB : Hid (Keeps (fun k => k = r) w w.drew) := Keeps.of_below _ hbd
  clear h1 hbd
  go_enter Try.func26, Try.ntmps26
  go_wp2_with fail
  refine wp_region_held_drew (S := fun w' => w'.cell? ⟨r, 1, none⟩ = some (.int .i64 190)) (by kernel_rfl) (c1) (fun hHeld => ?_)
  refine wpAnyH_take (i := 0) (oi := { dst := some 4, op := Op.move (Operand.tmp 0), type := 76, pos := "row.go:17", after := #[], guard := none }) (v := .pointer (some ⟨r, 0, none⟩)) rfl (by kernel_rfl) (by kernel_rfl) (by kernel_rfl) (fun _ _ _ h => h) (Or.inl ⟨by rfl, ?_⟩) (by assumption) ?_
  · intro w hSw
    (try dsimp only at hSw)
    go_simp
  try simp only [Act.put, List.setIfInBounds_toArray, List.set_cons_zero, List.set_cons_succ]
  refine wpAnyH_take (i := 2) (oi := { dst := some 6, op := Op.move (Operand.tmp 0), type := 76, pos := "row.go:17", after := #[], guard := none }) (v := .pointer (some ⟨r, 0, none⟩)) rfl (by kernel_rfl) (by kernel_rfl) (by kernel_rfl) (fun _ _ _ h => h) (Or.inl ⟨by rfl, ?_⟩) (by assumption) ?_
  · intro w hSw
    (try dsimp only at hSw)
    go_simp
  try simp only [Act.put, List.setIfInBounds_toArray, List.set_cons_zero, List.set_cons_succ]
  refine wpAnyH_take (i := 3) (oi := { dst := some 7, op := Op.nilCheck (Operand.tmp 6), type := 0, pos := "row.go:17", after := #[{ on := 2, ground := Ground.data }], guard := none }) (v := .pointer (some ⟨r, 0, none⟩)) rfl (by kernel_rfl) (by kernel_rfl) (by kernel_rfl) (fun _ _ _ h => h) (Or.inl ⟨by rfl, ?_⟩) (by assumption) ?_
  · intro w hSw
    (try dsimp only at hSw)
    go_simp
  try simp only [Act.put, List.setIfInBounds_toArray, List.set_cons_zero, List.set_cons_succ]
  refine wpAnyH_take (i := 4) (oi := { dst := some 8, op := Op.fieldAddr 63 (Operand.tmp 7) 1, type := 0, pos := "row.go:17", after := #[{ on := 3, ground := Ground.data }], guard := none }) (v := .pointer (some ⟨r, 1, none⟩)) rfl (by kernel_rfl) (by kernel_rfl) (by kernel_rfl) (fun _ _ _ h => h) (Or.inl ⟨by rfl, ?_⟩) (by assumption) ?_
  · intro w hSw
    (try dsimp only at hSw)
    go_simp
  try simp only [Act.put, List.setIfInBounds_toArray, List.set_cons_zero, List.set_cons_succ]
  refine wpAnyH_take (i := 5) (oi := { dst := some 9, op := Op.load 26 (Operand.tmp 8), type := 26, pos := "row.go:17", after := #[{ on := 4, ground := Ground.data }], guard := none }) (v := .int .i64 190) rfl (by kernel_rfl) (by kernel_rfl) (by kernel_rfl) (fun _ _ _ h => h) (Or.inl ⟨by rfl, ?_⟩) (by assumption) ?_
  · intro w hSw
    (try dsimp only at hSw)
    go_simp
  try simp only [Act.put, List.setIfInBounds_toArray, List.set_cons_zero, List.set_cons_succ]
  refine wpAnyH_ready (rs := [1]) (by kernel_rfl) (by simp) ?_
  refine AllReadyH.cons (o := { dst := some 5, op := Op.call { callee := Callee.value (Operand.func 20), args := #[Operand.tmp 4], argTypes := #[76] }, type := 4, pos := "row.go:17", after := #[{ on := 0, ground := Ground.data }], guard := none }) rfl (fun K hK => ?_) AllReadyH.nil
  go_simp
  refine ke.mono ?_
  rintro e w2 ⟨rfl, hw2⟩
  have hw2' := hw2.symm
  subst hw2'
  refine hK.out _ _ (c1) (fun hHeld => ?_)
  clear hK K
  try simp only [Act.put, List.setIfInBounds_toArray, List.set_cons_zero, List.set_cons_succ]
  refine wpAnyH_ready (rs := [6]) (by kernel_rfl) (by simp) ?_
  refine AllReadyH.cons (o := { dst := some 10, op := Op.call { callee := Callee.value (Operand.func 15), args := #[Operand.tmp 5, Operand.tmp 9], argTypes := #[4, 26] }, type := 0, pos := "row.go:17", after := #[{ on := 1, ground := Ground.data }, { on := 5, ground := Ground.data }, { on := 1, ground := Ground.chain }], guard := none }) rfl (fun K hK => ?_) AllReadyH.nil
  go_simp
  refine (haltIf_t _ 190).mono ?_
  rintro e w3 ⟨rfl, hw3⟩
  have hw3' := hw3.symm
  subst hw3'
  exact ⟨rfl, rfl, HB.out⟩
set_option maxRecDepth 20000 in
set_option maxHeartbeats 4000000 in
theorem next_ok (h : RD w r g (b :: l)) : Calls Try.prog 26 #[.pointer (some ⟨r, 0, none⟩)] w fun e w' => e = .returned (.int .u8 b) ∧ RD w' r g l ∧ Keeps (fun k => k = r) w w' := by
  have hbd := below_drew (Below.refl w.heap.size w)
  have hd := h.later hbd
  have ke := ended_no hd
  obtain ⟨a, c, h1, h2, h3, h4, h5⟩ := hd
  have c1 : w.drew.cell? ⟨r, 1, none⟩ = some (.int .i64 190) := cell_of_block h1 (j := 1) rfl
  have c0 : w.drew.cell? ⟨r, 0, none⟩ = some (.slice a (l.length + 1) c) := cell_of_block h1 (j := 0) rfl
  have hfr : w.drew.frozen? ⟨r, 0, none⟩ = false := frozen_of_block h1 0
  obtain ⟨x, rfl⟩ : ∃ x, a = some x := by
    cases a with
    | none => have := h2.2.1 rfl; simp at this
    | some x => exact ⟨x, rfl⟩
  obtain ⟨b', o, rfl, hat⟩ := h2.spot (by simp)
  obtain rfl : b' = g := h4 _ rfl
  have a0 : w.drew.cell? ⟨b', o, none⟩ = some (.int .u8 b) := by
    have := hat 0 (by simp)
    simpa using this
  have hl1 : (1 : Int) ≤ ((l.length + 1 : Nat) : Int) := by omega
  have hl0 : (0 : Int) < ((l.length + 1 : Nat) : Int) := by omega
  have hlc : ((l.length + 1 : Nat) : Int) ≤ (c : Int) := by simp at h3; omega
  have HB : Hid (Keeps (fun k => k = r) w w.drew) := Keeps.of_below _ hbd
  have hs1 : Src w.drew (some ⟨b', o + 1, none⟩) l.length l := ⟨rfl, (fun h => by cases h), fun x hx i hi => by
    cases hx
    have := hat (i + 1) (by simp; omega)
    rw [addr_add, show o + 1 + i = o + (i + 1) by omega]
    simpa using this⟩
  have hs0 : c = 1 → Src w.drew (some ⟨b', o, none⟩) l.length l := fun e => by
    have e0 : l.length = 0 := by simp at h3; omega
    obtain rfl := List.eq_nil_of_length_eq_zero e0
    exact ⟨rfl, (fun h => by cases h), fun x hx i hi => by simp at hi⟩
  have hfin : ∀ o' c', Src w.drew (some ⟨b', o', none⟩) l.length l → l.length ≤ c' → Hid (RD (w.drew.setCell ⟨r, 0, none⟩ (.slice (some ⟨b', o', none⟩) l.length c')) r b' l ∧ Keeps (fun k => k = r) w (w.drew.setCell ⟨r, 0, none⟩ (.slice (some ⟨b', o', none⟩) l.length c'))) := fun o' c' hs' hc' => by
    have h9 := rd_set h1 hs' hc' h5.1 h5.2
    exact ⟨h9.1, HB.out.trans h9.2 (fun k e => .inl e)⟩
  have HC : Hid (l.length + 1 ≤ c) := h3
  by_cases hc1 : c = 1
  · have HF := hfin o (c - 1) (hs0 hc1) (by have := HC.out; omega)
    subst hc1
    clear hs0 hs1 hfin h h1 h2 hbd hat h3 h4 h5
    go_enter Try.func26, Try.ntmps26
    go_wp2_with fail
    refine wp_region_held_drew (S := fun w' => w'.cell? ⟨r, 1, none⟩ = some (.int .i64 190)) (by kernel_rfl) (c1) (fun hHeld => ?_)
    refine wpAnyH_take (i := 0) (oi := { dst := some 4, op := Op.move (Operand.tmp 0), type := 76, pos := "row.go:17", after := #[], guard := none }) (v := .pointer (some ⟨r, 0, none⟩)) rfl (by kernel_rfl) (by kernel_rfl) (by kernel_rfl) (fun _ _ _ h => h) (Or.inl ⟨by rfl, ?_⟩) (by assumption) ?_
    · intro w hSw
      (try dsimp only at hSw)
      go_simp
    try simp only [Act.put, List.setIfInBounds_toArray, List.set_cons_zero, List.set_cons_succ]
    refine wpAnyH_take (i := 2) (oi := { dst := some 6, op := Op.move (Operand.tmp 0), type := 76, pos := "row.go:17", after := #[], guard := none }) (v := .pointer (some ⟨r, 0, none⟩)) rfl (by kernel_rfl) (by kernel_rfl) (by kernel_rfl) (fun _ _ _ h => h) (Or.inl ⟨by rfl, ?_⟩) (by assumption) ?_
    · intro w hSw
      (try dsimp only at hSw)
      go_simp
    try simp only [Act.put, List.setIfInBounds_toArray, List.set_cons_zero, List.set_cons_succ]
    refine wpAnyH_take (i := 3) (oi := { dst := some 7, op := Op.nilCheck (Operand.tmp 6), type := 0, pos := "row.go:17", after := #[{ on := 2, ground := Ground.data }], guard := none }) (v := .pointer (some ⟨r, 0, none⟩)) rfl (by kernel_rfl) (by kernel_rfl) (by kernel_rfl) (fun _ _ _ h => h) (Or.inl ⟨by rfl, ?_⟩) (by assumption) ?_
    · intro w hSw
      (try dsimp only at hSw)
      go_simp
    try simp only [Act.put, List.setIfInBounds_toArray, List.set_cons_zero, List.set_cons_succ]
    refine wpAnyH_take (i := 4) (oi := { dst := some 8, op := Op.fieldAddr 63 (Operand.tmp 7) 1, type := 0, pos := "row.go:17", after := #[{ on := 3, ground := Ground.data }], guard := none }) (v := .pointer (some ⟨r, 1, none⟩)) rfl (by kernel_rfl) (by kernel_rfl) (by kernel_rfl) (fun _ _ _ h => h) (Or.inl ⟨by rfl, ?_⟩) (by assumption) ?_
    · intro w hSw
      (try dsimp only at hSw)
      go_simp
    try simp only [Act.put, List.setIfInBounds_toArray, List.set_cons_zero, List.set_cons_succ]
    refine wpAnyH_take (i := 5) (oi := { dst := some 9, op := Op.load 26 (Operand.tmp 8), type := 26, pos := "row.go:17", after := #[{ on := 4, ground := Ground.data }], guard := none }) (v := .int .i64 190) rfl (by kernel_rfl) (by kernel_rfl) (by kernel_rfl) (fun _ _ _ h => h) (Or.inl ⟨by rfl, ?_⟩) (by assumption) ?_
    · intro w hSw
      (try dsimp only at hSw)
      go_simp
    try simp only [Act.put, List.setIfInBounds_toArray, List.set_cons_zero, List.set_cons_succ]
    refine wpAnyH_ready (rs := [1]) (by kernel_rfl) (by simp) ?_
    refine AllReadyH.cons (o := { dst := some 5, op := Op.call { callee := Callee.value (Operand.func 20), args := #[Operand.tmp 4], argTypes := #[76] }, type := 4, pos := "row.go:17", after := #[{ on := 0, ground := Ground.data }], guard := none }) rfl (fun K hK => ?_) AllReadyH.nil
    go_simp
    refine ke.mono ?_
    rintro e w2 ⟨rfl, hw2⟩
    have hw2' := hw2.symm
    subst hw2'
    refine hK.out _ _ (c1) (fun hHeld => ?_)
    clear hK K
    try simp only [Act.put, List.setIfInBounds_toArray, List.set_cons_zero, List.set_cons_succ]
    refine wpAnyH_ready (rs := [6]) (by kernel_rfl) (by simp) ?_
    refine AllReadyH.cons (o := { dst := some 10, op := Op.call { callee := Callee.value (Operand.func 15), args := #[Operand.tmp 5, Operand.tmp 9], argTypes := #[4, 26] }, type := 0, pos := "row.go:17", after := #[{ on := 1, ground := Ground.data }, { on := 5, ground := Ground.data }, { on := 1, ground := Ground.chain }], guard := none }) rfl (fun K hK => ?_) AllReadyH.nil
    go_simp
    refine (haltIf_f _ 190).mono ?_
    rintro e w3 ⟨rfl, hw3⟩
    have hw3' := hw3.symm
    subst hw3'
    refine hK.out _ _ (c1) (fun hHeld2 => ?_)
    clear hK K hHeld2
    try simp only [Act.put, List.setIfInBounds_toArray, List.set_cons_zero, List.set_cons_succ]
    refine wpAnyH_done (by kernel_rfl) ?_ _
    go_wp2
    go_ret
    exact ⟨rfl, HF.out⟩
  · have HF := hfin (o + 1) (c - 1) hs1 (by have := HC.out; omega)
    clear hs0 hs1 hfin h h1 h2 hbd hat h3 h4 h5
    go_enter Try.func26, Try.ntmps26
    go_wp2_with fail
    refine wp_region_held_drew (S := fun w' => w'.cell? ⟨r, 1, none⟩ = some (.int .i64 190)) (by kernel_rfl) (c1) (fun hHeld => ?_)
    refine wpAnyH_take (i := 0) (oi := { dst := some 4, op := Op.move (Operand.tmp 0), type := 76, pos := "row.go:17", after := #[], guard := none }) (v := .pointer (some ⟨r, 0, none⟩)) rfl (by kernel_rfl) (by kernel_rfl) (by kernel_rfl) (fun _ _ _ h => h) (Or.inl ⟨by rfl, ?_⟩) (by assumption) ?_
    · intro w hSw
      (try dsimp only at hSw)
      go_simp
    try simp only [Act.put, List.setIfInBounds_toArray, List.set_cons_zero, List.set_cons_succ]
    refine wpAnyH_take (i := 2) (oi := { dst := some 6, op := Op.move (Operand.tmp 0), type := 76, pos := "row.go:17", after := #[], guard := none }) (v := .pointer (some ⟨r, 0, none⟩)) rfl (by kernel_rfl) (by kernel_rfl) (by kernel_rfl) (fun _ _ _ h => h) (Or.inl ⟨by rfl, ?_⟩) (by assumption) ?_
    · intro w hSw
      (try dsimp only at hSw)
      go_simp
    try simp only [Act.put, List.setIfInBounds_toArray, List.set_cons_zero, List.set_cons_succ]
    refine wpAnyH_take (i := 3) (oi := { dst := some 7, op := Op.nilCheck (Operand.tmp 6), type := 0, pos := "row.go:17", after := #[{ on := 2, ground := Ground.data }], guard := none }) (v := .pointer (some ⟨r, 0, none⟩)) rfl (by kernel_rfl) (by kernel_rfl) (by kernel_rfl) (fun _ _ _ h => h) (Or.inl ⟨by rfl, ?_⟩) (by assumption) ?_
    · intro w hSw
      (try dsimp only at hSw)
      go_simp
    try simp only [Act.put, List.setIfInBounds_toArray, List.set_cons_zero, List.set_cons_succ]
    refine wpAnyH_take (i := 4) (oi := { dst := some 8, op := Op.fieldAddr 63 (Operand.tmp 7) 1, type := 0, pos := "row.go:17", after := #[{ on := 3, ground := Ground.data }], guard := none }) (v := .pointer (some ⟨r, 1, none⟩)) rfl (by kernel_rfl) (by kernel_rfl) (by kernel_rfl) (fun _ _ _ h => h) (Or.inl ⟨by rfl, ?_⟩) (by assumption) ?_
    · intro w hSw
      (try dsimp only at hSw)
      go_simp
    try simp only [Act.put, List.setIfInBounds_toArray, List.set_cons_zero, List.set_cons_succ]
    refine wpAnyH_take (i := 5) (oi := { dst := some 9, op := Op.load 26 (Operand.tmp 8), type := 26, pos := "row.go:17", after := #[{ on := 4, ground := Ground.data }], guard := none }) (v := .int .i64 190) rfl (by kernel_rfl) (by kernel_rfl) (by kernel_rfl) (fun _ _ _ h => h) (Or.inl ⟨by rfl, ?_⟩) (by assumption) ?_
    · intro w hSw
      (try dsimp only at hSw)
      go_simp
    try simp only [Act.put, List.setIfInBounds_toArray, List.set_cons_zero, List.set_cons_succ]
    refine wpAnyH_ready (rs := [1]) (by kernel_rfl) (by simp) ?_
    refine AllReadyH.cons (o := { dst := some 5, op := Op.call { callee := Callee.value (Operand.func 20), args := #[Operand.tmp 4], argTypes := #[76] }, type := 4, pos := "row.go:17", after := #[{ on := 0, ground := Ground.data }], guard := none }) rfl (fun K hK => ?_) AllReadyH.nil
    go_simp
    refine ke.mono ?_
    rintro e w2 ⟨rfl, hw2⟩
    have hw2' := hw2.symm
    subst hw2'
    refine hK.out _ _ (c1) (fun hHeld => ?_)
    clear hK K
    try simp only [Act.put, List.setIfInBounds_toArray, List.set_cons_zero, List.set_cons_succ]
    refine wpAnyH_ready (rs := [6]) (by kernel_rfl) (by simp) ?_
    refine AllReadyH.cons (o := { dst := some 10, op := Op.call { callee := Callee.value (Operand.func 15), args := #[Operand.tmp 5, Operand.tmp 9], argTypes := #[4, 26] }, type := 0, pos := "row.go:17", after := #[{ on := 1, ground := Ground.data }, { on := 5, ground := Ground.data }, { on := 1, ground := Ground.chain }], guard := none }) rfl (fun K hK => ?_) AllReadyH.nil
    go_simp
    refine (haltIf_f _ 190).mono ?_
    rintro e w3 ⟨rfl, hw3⟩
    have hw3' := hw3.symm
    subst hw3'
    refine hK.out _ _ (c1) (fun hHeld2 => ?_)
    clear hK K hHeld2
    try simp only [Act.put, List.setIfInBounds_toArray, List.set_cons_zero, List.set_cons_succ]
    refine wpAnyH_done (by kernel_rfl) ?_ _
    go_wp2
    go_ret
    exact ⟨rfl, HF.out⟩
end
end Go.Proofs.Ytkdjjnkhbmmfeaa
