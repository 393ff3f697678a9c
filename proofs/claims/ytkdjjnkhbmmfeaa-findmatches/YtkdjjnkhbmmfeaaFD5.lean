import Derived.Test.YtkdjjnkhbmmfeaaFD4
import Derived.Test.YtkdjjnkhbmmfeaaGSw
namespace Go.Proofs.Ytkdjjnkhbmmfeaa
open Go.RowKit Go.Maps

/-- Members, up to the bracket. -/
def memsP : Nat → List Int → Option (List (Int × Int) × List Int)
  | 0, _ => none
  | f + 1, l => match memP l with
    | none => none
    | some (p, m) => if (tookP m 93).1 = true then some ([p], (tookP m 93).2) else (memsP f (tookP m 93).2).map (fun q => (p :: q.1, q.2))
/-- A set, of which the bracket is read. -/
def setP (l : List Int) : Option (Pc × List Int) := (memsP (tookP l 33).2.length (tookP l 33).2).map (fun q => (⟨q.1, (tookP l 33).1, false, false⟩, q.2))
/-- What a reading of a piece comes to. -/
def PieceO (w w' : World) (r g : Nat) (e : Ending) : Option (Pc × List Int) → Prop
  | none => e = .panicked (gave 190) ∧ Keeps (fun k => k = r) w w'
  | some (p, m) => (∃ v, e = .returned v ∧ PCv w' w.heap.size v p) ∧ RD w' r g m ∧ Keeps (fun k => k = r) w w'
theorem took_len {m : List Int} {x : Int} : (tookP m x).2.length ≤ m.length := by
  cases h : (tookP m x).1 with
  | true =>
    have := congrArg List.length (took_true h)
    simp at this
    omega
  | false => rw [took_false h]; exact Nat.le_refl _
theorem unit_len {l m : List Int} {b : Int} (h : unitP l = some (b, m)) : m.length < l.length := by
  match l, h with
  | [], h => cases h
  | c :: l, h =>
    by_cases e : c = 92
    · match l, h with
      | [], h => simp [unitP, e] at h
      | d :: n, h =>
        simp only [unitP, if_pos e, Option.some.injEq, Prod.mk.injEq] at h
        rw [← h.2]
        simp
        omega
    · simp only [unitP, if_neg e] at h
      by_cases e2 : c = 93 ∨ c = 45
      · rw [if_pos e2] at h; cases h
      · rw [if_neg e2] at h
        cases h
        simp
theorem mem_len {l m : List Int} {p : Int × Int} (h : memP l = some (p, m)) : m.length < l.length := by
  unfold memP at h
  cases hu : unitP l with
  | none => rw [hu] at h; cases h
  | some q =>
    obtain ⟨x, n⟩ := q
    have h1 := unit_len hu
    have h2 := took_len (m := n) (x := 45)
    rw [hu] at h
    dsimp only at h
    cases ht : (tookP n 45).1 with
    | true =>
      rw [ht, if_pos rfl] at h
      cases hu2 : unitP (tookP n 45).2 with
      | none => rw [hu2] at h; cases h
      | some q2 =>
        obtain ⟨y, n2⟩ := q2
        have h3 := unit_len hu2
        rw [hu2] at h
        dsimp only at h
        by_cases hxy : x > y
        · rw [if_pos hxy] at h; cases h
        · rw [if_neg hxy] at h
          cases h
          omega
    | false =>
      rw [ht] at h
      simp only [Bool.false_eq_true, if_false, Option.some.injEq, Prod.mk.injEq] at h
      rw [← h.2]
      omega
theorem infoMem : (Try.prog.info? 83).map (fun i => (i.zero, i.size, i.bytes)) = some (some (.agg #[.int .u8 0, .int .u8 0]), 2, 2) := by kernel_rfl
theorem mcs_len (ms : List (Int × Int)) : (mcs ms).length = ms.length * 2 := by
  induction ms with
  | nil => rfl
  | cons p r ih => simp only [mcs, List.flatMap_cons, List.length_append, List.length_cons, List.length_nil] at *; omega
theorem mcs_snoc (ms : List (Int × Int)) (x y : Int) : mcs ms ++ [.int .u8 x, .int .u8 y] = mcs (ms ++ [(x, y)]) := by simp [mcs]
theorem app_mem {W : World} {B k : Nat} {v : Value} {vs : List Value} (hrow : W.ownsRow B 83 2 v k vs) (x y : Int) (hk : k ≤ 1000000) (hB : B ≤ W.heap.size) :
    ∃ g cap w', (Builtin.append_ #[66, 66] 66 #[v, .slice (some ⟨W.heap.size, 0, none⟩) 1 1]).run Try.prog (W.alloc (.cells #[.int .u8 x, .int .u8 y] 83)) = .ok (.slice (some ⟨g, 0, none⟩) (k + 1) cap) w' ∧ w'.ownsRow B 83 2 (.slice (some ⟨g, 0, none⟩) (k + 1) cap) (k + 1) (vs ++ [.int .u8 x, .int .u8 y]) ∧ (W.alloc (.cells #[.int .u8 x, .int .u8 y] 83)).grownBy w' v.ownBlock := by
  obtain ⟨i0, hi, hz0, hz1, hz2⟩ := info_parts infoMem
  obtain ⟨g, cap, w', h1, h2, h3, _⟩ := run_append_lies (P := Try.prog) (W.alloc (.cells #[.int .u8 x, .int .u8 y] 83)) 66 66 B 83 i0 (.agg #[.int .u8 0, .int .u8 0]) 2 2 Try.underlying66 hi hz0 hz1 hz2 rfl (by decide) v k vs (rowA hrow (fun g hg => Below.heap_alloc _ _ _ (rowL hrow hg).1)) ⟨W.heap.size, 0, none⟩ 1 1 [.int .u8 x, .int .u8 y] rfl (World.news_of_block (cs := #[.int .u8 x, .int .u8 y]) (t := 83) (fr := (0, 0)) (heap_alloc_new W _)) (by simp [Value.oneCell']) (by omega) (by unfold maxLen; omega) (by omega) (by simp; omega) _ rfl
  exact ⟨g, cap, w', h1, h2, h3⟩
section
variable {w w' : World} {r g : Nat} {b : Int} {l m : List Int} {G : Nat → Prop}
/-- The piece that is being made, while members are read. -/
structure SetI (w wr : World) (r g z : Nat) (o : Bool) (l : List Int) (ms : List (Int × Int)) (mv : Value) : Prop where
  rd : RD wr r g l
  b0 : wr.heap[w.heap.size]? = some (.cells #[.slice none 0 0, .bool false, .bool false, .bool false] 68 (0, 0))
  bz : wr.heap[z]? = some (.cells #[mv, .bool o, .bool false, .bool false] 68 (0, 0))
  ow : wr.ownsRow (z + 1) 83 2 mv ms.length (mcs ms)
  kp : Keeps (fun k => k = r) w wr
  zl : w.heap.size < z
  rl : r < w.heap.size
  gl : g < w.heap.size
/-- One member more. -/
theorem SetI.push {wr w2 : World} {z : Nat} {o : Bool} {n : List Int} {ms : List (Int × Int)} {mv : Value} (h : SetI w wr r g z o l ms mv) (hm : ms.length ≤ 1000) (x y : Int) (hr : RD w2 r g n) (hk : Keeps (fun k => k = r) wr w2) :
    ∃ g3 cap3 w3, (Builtin.append_ #[66, 66] 66 #[mv, .slice (some ⟨w2.heap.size, 0, none⟩) 1 1]).run Try.prog (w2.alloc (.cells #[.int .u8 x, .int .u8 y] 83)) = .ok (.slice (some ⟨g3, 0, none⟩) (ms.length + 1) cap3) w3 ∧
      Hid ((w2.cell? ⟨z, 0, none⟩ = some mv ∧ (w2.alloc (.cells #[.int .u8 x, .int .u8 y] 83)).cell? ⟨z, 0, none⟩ = some mv ∧ w3.cell? ⟨z, 0, none⟩ = some mv ∧ w3.frozen? ⟨z, 0, none⟩ = false) ∧ SetI w (w3.setCell ⟨z, 0, none⟩ (.slice (some ⟨g3, 0, none⟩) (ms.length + 1) cap3)) r g z o n (ms ++ [(x, y)]) (.slice (some ⟨g3, 0, none⟩) (ms.length + 1) cap3)) := by
  have hzl := h.zl
  have hrl := h.rl
  have hgl := h.gl
  have hz2 := hk.size
  have hzz := lt_there h.bz
  have b0 := (hk.block _ (lt_there h.b0) (by omega)).trans h.b0
  have bz := (hk.block _ (lt_there h.bz) (by omega)).trans h.bz
  have ow := rowA h.ow (fun k hk' => hk.block k (rowL h.ow hk').1 (by have := (rowL h.ow hk').2.1; omega))
  obtain ⟨g3, cap3, w3, r1, r2, r3⟩ := app_mem ow x y (by omega) (by omega)
  have hba : Below w2.heap.size w2 (w2.alloc (.cells #[.int .u8 x, .int .u8 y] 83)) := (Below.refl _ _).alloc (Nat.le_refl _) _
  have bza := (hba.block _ (lt_there bz)).trans bz
  have b0a := (hba.block _ (lt_there b0)).trans b0
  have hno : ∀ k, k ≤ z → some k ≠ mv.ownBlock := fun k hkz e => by have := (rowL ow e.symm).2.1; omega
  have bz3 := (r3.block _ (lt_there bza) (hno z (Nat.le_refl _))).trans bza
  have b03 := (r3.block _ (lt_there b0a) (hno _ (by omega))).trans b0a
  have k3 : Keeps (fun k => z + 1 ≤ k) w2 w3 := by
    refine (Keeps.of_below (fun k => z + 1 ≤ k) hba).trans (G := fun k => z + 1 ≤ k) ⟨r3.os, r3.tape, r3.output, r3.size, fun k hk1 hk2 => r3.block k hk1 (hno k (by omega))⟩ (fun k e => .inl e)
  have k4 := Keeps.setCell (F := fun k => k = z) w3 (p := ⟨z, 0, none⟩) rfl (.slice (some ⟨g3, 0, none⟩) (ms.length + 1) cap3)
  have hz3 := k3.size
  refine ⟨g3, cap3, w3, r1, ⟨cell_of_block bz (j := 0) rfl, cell_of_block bza (j := 0) rfl, cell_of_block bz3 (j := 0) rfl, frozen_of_block bz3 0⟩, ⟨(hr.keep k3 (by omega) (by omega)).keep k4 (by omega) (by omega), (k4.block _ (lt_there b03) (by omega)).trans b03, (heap_setCell_same _ _ 0 _ _ _ bz3).trans (by simp), ?_, ((h.kp.trans hk (fun k e => .inl e)).trans k3 (fun k e => .inr (by omega))).trans k4 (fun k e => .inr (by omega)), hzl, hrl, hgl⟩⟩
  rw [mcs_snoc] at r2
  have hl : (ms ++ [(x, y)]).length = ms.length + 1 := by simp
  rw [hl]
  exact rowA r2 (fun k hk' => k4.block k (rowL r2 hk').1 (by have := (rowL r2 hk').2.1; omega))
set_option maxRecDepth 20000 in
set_option maxHeartbeats 8000000 in
theorem set_any (h : RD w r g l) (hlen : l.length ≤ 1000) : Calls Try.prog 29 #[.pointer (some ⟨r, 0, none⟩)] w fun e w' => PieceO w w' r g e (setP l) := by
  have hB1 : Below w.heap.size w (w.alloc (.cells #[.slice none 0 0, .bool false, .bool false, .bool false] 68)) := (Below.refl _ _).alloc (Nat.le_refl _) _
  have hg1 := heap_alloc_new w (.cells #[.slice none 0 0, .bool false, .bool false, .bool false] 68)
  have kt := took_any (h.later hB1) 33
  have hrl := h.lt
  have hgl := h.glt
  have hn := took_len (m := l) (x := 33)
  have HB := Hid.mk (And.intro hg1 (Keeps.of_below (fun k => k = r) hB1))
  have HS : Hid (setP l = (memsP (tookP l 33).2.length (tookP l 33).2).map (fun q => (⟨q.1, (tookP l 33).1, false, false⟩, q.2))) := rfl
  generalize (tookP l 33).2 = n at *
  generalize (tookP l 33).1 = o at *
  clear h hB1 hg1
  go_enter Try.func29, Try.ntmps29
  go_wp2_with fail
  refine kt.mono ?_
  rintro e w1 ⟨rfl, hr1, hk1⟩
  have hz1 := hk1.size
  have hsz : (w.alloc (.cells #[.slice none 0 0, .bool false, .bool false, .bool false] 68)).heap.size = w.heap.size + 1 := World.size_alloc _ _
  have hB2 : Below w1.heap.size w1 (w1.alloc (.cells #[.slice none 0 0, .bool o, .bool false, .bool false] 68)) := (Below.refl _ _).alloc (Nat.le_refl _) _
  have hg2 := heap_alloc_new w1 (.cells #[.slice none 0 0, .bool o, .bool false, .bool false] 68)
  have b01 := (hk1.block _ (lt_there HB.out.1) (by omega)).trans HB.out.1
  obtain ⟨z, hz⟩ : ∃ z, z = w1.heap.size := ⟨_, rfl⟩
  obtain ⟨W1, hW1⟩ : ∃ W1, W1 = w1.alloc (.cells #[.slice none 0 0, .bool o, .bool false, .bool false] 68) := ⟨_, rfl⟩
  have H0 : Hid (SetI w W1 r g z o n [] (.slice none 0 0)) := Hid.mk (by rw [hW1, hz]; exact ⟨hr1.later hB2, (hB2.block _ (lt_there b01)).trans b01, hg2, World.ownsRow_nil _ _ _ _, (HB.out.2.trans hk1 (fun k e => .inl e)).trans (Keeps.of_below (fun k => k = r) hB2) (fun k e => .inl e), by omega, hrl, hgl⟩)
  clear kt hr1 hk1 HB hz1 hsz hB2 hg2 b01
  go_wp2
  rw [← hW1, ← hz]
  clear hW1 hz
  go_loopw [4] (fun mo wr => ∃ l' ms mv, SetI w wr r g z o l' ms mv ∧ ms.length + l'.length ≤ n.length ∧ ((mo = .bool true ∧ ∃ f, l'.length ≤ f ∧ memsP n.length n = (memsP f l').map (fun q => (ms ++ q.1, q.2))) ∨ (mo = .bool false ∧ memsP n.length n = some (ms, l')))) (fun _ wr => leftN wr r)
  case atStart => exact ⟨n, [], _, H0.out, by simp, .inl ⟨rfl, n.length, Nat.le_refl _, by cases memsP n.length n <;> rfl⟩⟩
  case round =>
    obtain ⟨l', ms, mv, hI, hml, ⟨rfl, f, hf, hms⟩ | ⟨rfl, hms⟩⟩ := hrel
    · cases hmp : memP l' with
      | none =>
        have hnone : Hid (setP l = none) := Hid.mk (by
          rw [HS.out, hms]
          cases f with
          | zero => rfl
          | succ f => simp [memsP, hmp])
        have km := member_no (hI.rd.later (below_drew (Below.refl wr.heap.size wr))) hmp
        have c0 : wr.drew.cell? ⟨z, 0, none⟩ = some mv := cell_of_block hI.bz (j := 0) rfl
        have HI := Hid.mk hI
        clear hI hms HS H0
        go_wp2_with fail
        refine wp_region_sw 7 (fun w' => w'.cell? ⟨z, 0, none⟩ = some mv) (by kernel_rfl) (c0) (fun hHeld => ?_)
        refine wpAnyS_pure (i := 0) (oi := { dst := some 16, op := Op.fieldAddr 68 (Operand.tmp 3) 0, type := 0, pos := "pattern.go:117", after := #[], guard := none }) (v := .pointer (some ⟨z, 0, none⟩)) rfl (by decide) (by kernel_rfl) (by kernel_rfl) (by kernel_rfl) (fun _ _ _ h => h) (Or.inl ⟨by rfl, ?_⟩) (Or.inr hHeld) ?_
        · intro w hSw
          clear hSw
          go_simp
        try simp only [Act.put, List.setIfInBounds_toArray, List.set_cons_zero, List.set_cons_succ]
        refine wpAnyS_load (i := 1) (oi := { dst := some 17, op := Op.load 66 (Operand.tmp 16), type := 66, pos := "pattern.go:117", after := #[{ on := 0, ground := Ground.data }], guard := none }) (v := mv) rfl (by decide) (by kernel_rfl) (by kernel_rfl) (by kernel_rfl) (by kernel_rfl) (fun _ _ _ h => h) (Or.inl ⟨by rfl, ?_⟩) (by rfl) hHeld ?_
        · intro w hSw
          (try dsimp only at hSw)
          go_simp
        try simp only [Act.put, List.setIfInBounds_toArray, List.set_cons_zero, List.set_cons_succ]
        refine wpAnyS_pure (i := 2) (oi := { dst := some 18, op := Op.move (Operand.tmp 0), type := 77, pos := "pattern.go:117", after := #[], guard := none }) (v := .pointer (some ⟨r, 0, none⟩)) rfl (by decide) (by kernel_rfl) (by kernel_rfl) (by kernel_rfl) (fun _ _ _ h => h) (Or.inl ⟨by rfl, ?_⟩) (Or.inr hHeld) ?_
        · intro w hSw
          clear hSw
          go_simp
        try simp only [Act.put, List.setIfInBounds_toArray, List.set_cons_zero, List.set_cons_succ]
        refine wpAnyS_one (i := 3) (o := { dst := some 19, op := Op.call { callee := Callee.value (Operand.func 33), args := #[Operand.tmp 18], argTypes := #[77] }, type := 83, pos := "pattern.go:117", after := #[{ on := 2, ground := Ground.data }], guard := none }) (by kernel_rfl) rfl (fun K hK => ?_)
        go_simp
        refine km.mono ?_
        rintro e w2 ⟨rfl, hk2⟩
        refine ⟨rfl, ?_⟩
        rw [hnone.out]
        exact ⟨rfl, (HI.out.kp.trans (Keeps.of_below (fun k => k = r) (below_drew (Below.refl wr.heap.size wr))) (fun k e => .inl e)).trans hk2 (fun k e => .inl e)⟩
      | some pm =>
        obtain ⟨⟨x, y⟩, m'⟩ := pm
        have hlm := mem_len hmp
        have hlf := hI.rd.left
        have hbd := below_drew (Below.refl wr.heap.size wr)
        have km := member_ok (hI.rd.later hbd) hmp
        have c0 : wr.drew.cell? ⟨z, 0, none⟩ = some mv := cell_of_block hI.bz (j := 0) rfl
        have hId : SetI w wr.drew r g z o l' ms mv := ⟨hI.rd.later hbd, hI.b0, hI.bz, rowA hI.ow (fun _ _ => rfl), hI.kp.trans (Keeps.of_below (fun k => k = r) hbd) (fun k e => .inl e), hI.zl, hI.rl, hI.gl⟩
        have HG : Hid (∀ w2, RD w2 r g m' → Keeps (fun k => k = r) wr.drew w2 → ∃ g3 cap3 w3, (Builtin.append_ #[66, 66] 66 #[mv, .slice (some ⟨w2.heap.size, 0, none⟩) 1 1]).run Try.prog (w2.alloc (.cells #[.int .u8 x, .int .u8 y] 83)) = .ok (.slice (some ⟨g3, 0, none⟩) (ms.length + 1) cap3) w3 ∧
      Hid ((w2.cell? ⟨z, 0, none⟩ = some mv ∧ (w2.alloc (.cells #[.int .u8 x, .int .u8 y] 83)).cell? ⟨z, 0, none⟩ = some mv ∧ w3.cell? ⟨z, 0, none⟩ = some mv ∧ w3.frozen? ⟨z, 0, none⟩ = false) ∧ SetI w (w3.setCell ⟨z, 0, none⟩ (.slice (some ⟨g3, 0, none⟩) (ms.length + 1) cap3)) r g z o m' (ms ++ [(x, y)]) (.slice (some ⟨g3, 0, none⟩) (ms.length + 1) cap3))) := fun w2 hr2 hk2 => hId.push (by omega) x y hr2 hk2
        have HM := Hid.mk (And.intro hms (And.intro hf hmp))
        clear hI hId hms hbd hf
        go_wp2_with fail
        refine wp_region_sw 7 (fun w' => w'.cell? ⟨z, 0, none⟩ = some mv) (by kernel_rfl) (c0) (fun hHeld => ?_)
        refine wpAnyS_pure (i := 0) (oi := { dst := some 16, op := Op.fieldAddr 68 (Operand.tmp 3) 0, type := 0, pos := "pattern.go:117", after := #[], guard := none }) (v := .pointer (some ⟨z, 0, none⟩)) rfl (by decide) (by kernel_rfl) (by kernel_rfl) (by kernel_rfl) (fun _ _ _ h => h) (Or.inl ⟨by rfl, ?_⟩) (Or.inr hHeld) ?_
        · intro w hSw
          clear hSw
          go_simp
        try simp only [Act.put, List.setIfInBounds_toArray, List.set_cons_zero, List.set_cons_succ]
        refine wpAnyS_load (i := 1) (oi := { dst := some 17, op := Op.load 66 (Operand.tmp 16), type := 66, pos := "pattern.go:117", after := #[{ on := 0, ground := Ground.data }], guard := none }) (v := mv) rfl (by decide) (by kernel_rfl) (by kernel_rfl) (by kernel_rfl) (by kernel_rfl) (fun _ _ _ h => h) (Or.inl ⟨by rfl, ?_⟩) (by rfl) hHeld ?_
        · intro w hSw
          (try dsimp only at hSw)
          go_simp
        try simp only [Act.put, List.setIfInBounds_toArray, List.set_cons_zero, List.set_cons_succ]
        refine wpAnyS_pure (i := 2) (oi := { dst := some 18, op := Op.move (Operand.tmp 0), type := 77, pos := "pattern.go:117", after := #[], guard := none }) (v := .pointer (some ⟨r, 0, none⟩)) rfl (by decide) (by kernel_rfl) (by kernel_rfl) (by kernel_rfl) (fun _ _ _ h => h) (Or.inl ⟨by rfl, ?_⟩) (Or.inr hHeld) ?_
        · intro w hSw
          clear hSw
          go_simp
        try simp only [Act.put, List.setIfInBounds_toArray, List.set_cons_zero, List.set_cons_succ]
        refine wpAnyS_one (i := 3) (o := { dst := some 19, op := Op.call { callee := Callee.value (Operand.func 33), args := #[Operand.tmp 18], argTypes := #[77] }, type := 83, pos := "pattern.go:117", after := #[{ on := 2, ground := Ground.data }], guard := none }) (by kernel_rfl) rfl (fun K hK => ?_)
        go_simp
        refine km.mono ?_
        rintro e w2 ⟨rfl, hr2, hk2⟩
        obtain ⟨g3, cap3, w3, hap, HE⟩ := HG.out w2 hr2 hk2
        have HC2 := HE.out.1
        have HAP := Hid.mk hap
        refine hK.out _ _ (Or.inr HE.out.1.1) ?_
        clear hK K
        try simp only [Act.put, List.setIfInBounds_toArray, List.set_cons_zero, List.set_cons_succ]
        refine wpAnyS_one (i := 4) (o := { dst := some 20, op := Op.buildSlice 66 1 #[(0, Operand.tmp 19)], type := 66, pos := "pattern.go:117", after := #[{ on := 3, ground := Ground.data }], guard := none }) (by kernel_rfl) rfl (fun K hK => ?_)
        go_simp
        refine hK.out _ _ (Or.inr HE.out.1.2.1) ?_
        clear hK K
        try simp only [Act.put, List.setIfInBounds_toArray, List.set_cons_zero, List.set_cons_succ]
        refine wpAnyS_one (i := 5) (o := { dst := some 21, op := Op.call { callee := Callee.builtin Builtin.append, args := #[Operand.tmp 17, Operand.tmp 20], argTypes := #[66, 66] }, type := 66, pos := "pattern.go:117", after := #[{ on := 1, ground := Ground.data }, { on := 4, ground := Ground.data }, { on := 3, ground := Ground.chain }], guard := none }) (by kernel_rfl) rfl (fun K hK => ?_)
        rw [if_pos (by rfl)]
        refine sw_append_run _ _ _ rfl (mv) (.slice (some ⟨w2.heap.size, 0, none⟩) 1 1) _ rfl rfl HAP.out ?_
        refine hK.out _ _ (Or.inr HE.out.1.2.2.1) ?_
        clear hK K
        try simp only [Act.put, List.setIfInBounds_toArray, List.set_cons_zero, List.set_cons_succ]
        refine wpAnyS_pure (i := 6) (oi := { dst := some 22, op := Op.fieldAddr 68 (Operand.tmp 3) 0, type := 0, pos := "pattern.go:117", after := #[{ on := 0, ground := Ground.phase }, { on := 1, ground := Ground.phase }, { on := 2, ground := Ground.phase }, { on := 3, ground := Ground.phase }, { on := 4, ground := Ground.phase }, { on := 5, ground := Ground.phase }], guard := none }) (v := .pointer (some ⟨z, 0, none⟩)) rfl (by decide) (by kernel_rfl) (by kernel_rfl) (by kernel_rfl) (fun _ _ _ h => h) (Or.inl ⟨by rfl, ?_⟩) (Or.inr HE.out.1.2.2.1) ?_
        · intro w hSw
          clear hSw
          go_simp
        try simp only [Act.put, List.setIfInBounds_toArray, List.set_cons_zero, List.set_cons_succ]
        have c3 := HE.out.1.2.2.1
        have f3 := HE.out.1.2.2.2
        refine wpAnyS_one (i := 7) (o := { dst := none, op := Op.store 66 (Operand.tmp 22) (Operand.tmp 21), type := 0, pos := "pattern.go:117", after := #[{ on := 6, ground := Ground.data }, { on := 5, ground := Ground.data }, { on := 5, ground := Ground.chain }, { on := 0, ground := Ground.phase }, { on := 1, ground := Ground.phase }, { on := 2, ground := Ground.phase }, { on := 3, ground := Ground.phase }, { on := 4, ground := Ground.phase }, { on := 5, ground := Ground.phase }], guard := none }) (by kernel_rfl) rfl (fun K hK => ?_)
        go_simp
        refine hK.out _ _ (Or.inl (by rfl)) ?_
        clear hK K
        try simp only [Act.put, List.setIfInBounds_toArray, List.set_cons_zero, List.set_cons_succ]
        refine wpAnyS_done (by kernel_rfl) ?_ _
        have HI2 := Hid.mk HE.out.2
        have kt := took_any HE.out.2.rd 93
        obtain ⟨f', rfl⟩ : ∃ f', f = f' + 1 := ⟨f - 1, by have := HM.out.2.1; omega⟩
        have hms2 : memsP (f' + 1) l' = if (tookP m' 93).1 = true then some ([(x, y)], (tookP m' 93).2) else (memsP f' (tookP m' 93).2).map (fun q => ((x, y) :: q.1, q.2)) := by
          simp only [memsP, HM.out.2.2]
        have hms3 := Hid.mk (HM.out.1.trans (by rw [hms2]))
        have htl := took_len (m := m') (x := 93)
        clear HE HG hms2 km c3 f3
        go_wp2_with fail
        refine kt.mono ?_
        rintro e w5 ⟨rfl, hr5, hk5⟩
        have H5 : Hid (SetI w w5 r g z o (tookP m' 93).2 (ms ++ [(x, y)]) (.slice (some ⟨g3, 0, none⟩) (ms.length + 1) cap3)) := by
          have hI := HI2.out
          have := hI.rl
          have := hI.gl
          have := hI.zl
          exact ⟨hr5, (hk5.block _ (lt_there hI.b0) (by omega)).trans hI.b0, (hk5.block _ (lt_there hI.bz) (by omega)).trans hI.bz, rowA hI.ow (fun k hk' => hk5.block k (rowL hI.ow hk').1 (by have := (rowL hI.ow hk').2.1; omega)), hI.kp.trans hk5 (fun k e => .inl e), hI.zl, hI.rl, hI.gl⟩
        clear hr5 hk5 HI2 kt
        go_wp2
        go_roundw
        case rel =>
          refine ⟨_, _, _, H5.out, by simp; omega, ?_⟩
          cases ht : (tookP m' 93).1 with
          | true =>
            refine .inr ⟨rfl, ?_⟩
            have := hms3.out
            rw [ht, if_pos rfl] at this
            exact this
          | false =>
            refine .inl ⟨rfl, f', by have := HM.out.2.1; omega, ?_⟩
            have := hms3.out
            rw [ht] at this
            simp only [Bool.false_eq_true, if_false, Option.map_map] at this
            rw [this]
            congr 1
            funext q
            simp
        case measure => rw [H5.out.rd.left, hlf]; omega
    · have hst : Hid (setP l = some (⟨ms, o, false, false⟩, l')) := Hid.mk (by rw [HS.out, hms]; rfl)
      have hzl := hI.zl
      have hrl := hI.rl
      have hgl := hI.gl
      have p0 : wr.cell? ⟨z, 0, none⟩ = some mv := cell_of_block hI.bz (j := 0) rfl
      have p1 : wr.cell? ⟨z, 1, none⟩ = some (.bool o) := cell_of_block hI.bz (j := 1) rfl
      have p2 : wr.cell? ⟨z, 2, none⟩ = some (.bool false) := cell_of_block hI.bz (j := 2) rfl
      have p3 : wr.cell? ⟨z, 3, none⟩ = some (.bool false) := cell_of_block hI.bz (j := 3) rfl
      obtain ⟨am, cm, rfl⟩ : ∃ am cm, mv = .slice am ms.length cm := by
        obtain ⟨_, ⟨rfl, h0⟩ | ⟨g', cap, cur, rfl, _⟩⟩ := hI.ow
        · exact ⟨none, 0, by rw [h0]⟩
        · exact ⟨_, _, rfl⟩
      obtain ⟨⟨q0, q1, q2, q3⟩, ⟨f0, f1, f2, f3⟩, hb4, hk4⟩ := four_cells hI.b0 (.slice am ms.length cm) (.bool o) (.bool false) (.bool false)
      have HE := Hid.mk (And.intro (range_block hb4) (And.intro (hI.rd.keep hk4 (by omega) (by omega)) (And.intro (hI.kp.trans hk4 (fun k e => .inr (by omega))) (rowLower (rowA hI.ow (fun k hk' => hk4.block k (rowL hI.ow hk').1 (by have := (rowL hI.ow hk').2.1; omega))) (show w.heap.size ≤ z + 1 by omega)))))
      clear hI hb4 hk4 hms HS H0
      go_wp2
      refine bodyPost_ret (results_agg (P := Try.prog) rfl _ _ w.heap.size [.slice am ms.length cm, .bool o, .bool false, .bool false] _ rfl HE.out.1 Try.underlying68 rfl (by kernel_rfl)) rfl ?_
      rw [hst.out]
      exact ⟨⟨_, rfl, _, rfl, HE.out.2.2.2⟩, HE.out.2.1, HE.out.2.2.1⟩
end
end Go.Proofs.Ytkdjjnkhbmmfeaa
