import Derived.Test.YtkdjjnkhbmmfeaaFD6
namespace Go.Proofs.Ytkdjjnkhbmmfeaa
open Go.RowKit Go.Maps

/-- The pieces of a pattern. -/
def piecesP : Nat → List Int → Option (List Pc)
  | _, [] => some []
  | 0, _ :: _ => none
  | f + 1, b :: l => match pieceP (b :: l) with
    | none => none
    | some (p, m) => (piecesP f m).map (p :: ·)
def patP (l : List Int) : Option (List Pc) := piecesP l.length l
/-- The cells of pieces. -/
def pcs (qs : List (Value × Pc)) : List Value := qs.flatMap (fun q => [q.1, .bool q.2.oth, .bool q.2.sl, .bool q.2.many])
/-- Pieces in memory. -/
def PSv (w : World) (B : Nat) (v : Value) (ps : List Pc) : Prop :=
  ∃ qs : List (Value × Pc), qs.map Prod.snd = ps ∧ w.ownsRow B 68 4 v qs.length (pcs qs) ∧ ∀ q ∈ qs, (∃ a n c, q.1 = .slice a n c) ∧ w.ownsRow B 83 2 q.1 q.2.mem.length (mcs q.2.mem)
theorem infoPc : (Try.prog.info? 68).map (fun i => (i.zero, i.size, i.bytes)) = some (some (.agg #[.slice none 0 0, .bool false, .bool false, .bool false]), 4, 32) := by kernel_rfl
theorem pcs_snoc (qs : List (Value × Pc)) (v : Value) (p : Pc) : pcs qs ++ [v, .bool p.oth, .bool p.sl, .bool p.many] = pcs (qs ++ [(v, p)]) := by simp [pcs]
theorem app_pc {W : World} {B k : Nat} {v : Value} {vs : List Value} (hrow : W.ownsRow B 68 4 v k vs) (a : Option Addr) (n c : Nat) (x y z : Bool) (hk : k ≤ 1000000) (hB : B ≤ W.heap.size) :
    ∃ g cap w', (Builtin.append_ #[42, 42] 42 #[v, .slice (some ⟨W.heap.size, 0, none⟩) 1 1]).run Try.prog (W.alloc (.cells #[.slice a n c, .bool x, .bool y, .bool z] 68)) = .ok (.slice (some ⟨g, 0, none⟩) (k + 1) cap) w' ∧ w'.ownsRow B 68 4 (.slice (some ⟨g, 0, none⟩) (k + 1) cap) (k + 1) (vs ++ [.slice a n c, .bool x, .bool y, .bool z]) ∧ (W.alloc (.cells #[.slice a n c, .bool x, .bool y, .bool z] 68)).grownBy w' v.ownBlock := by
  obtain ⟨i0, hi, hz0, hz1, hz2⟩ := info_parts infoPc
  obtain ⟨g, cap, w', h1, h2, h3, _⟩ := run_append_lies (P := Try.prog) (W.alloc (.cells #[.slice a n c, .bool x, .bool y, .bool z] 68)) 42 42 B 68 i0 (.agg #[.slice none 0 0, .bool false, .bool false, .bool false]) 4 32 Try.underlying42 hi hz0 hz1 hz2 rfl (by decide) v k vs (rowA hrow (fun g hg => Below.heap_alloc _ _ _ (rowL hrow hg).1)) ⟨W.heap.size, 0, none⟩ 1 1 [.slice a n c, .bool x, .bool y, .bool z] rfl (World.news_of_block (cs := #[.slice a n c, .bool x, .bool y, .bool z]) (t := 68) (fr := (0, 0)) (heap_alloc_new W _)) (by simp [Value.oneCell']) (by omega) (by unfold maxLen; omega) (by omega) (by simp; omega) _ rfl
  exact ⟨g, cap, w', h1, h2, h3⟩
theorem conv_str (w : World) (s : ByteArray) : ∃ C w3, (convert 9 25 (.string s)).run Try.prog w = .ok (.slice (some ⟨w.heap.size, 0, none⟩) s.size C) w3 ∧ s.size ≤ C ∧ w3.heap.size = w.heap.size + 1 ∧ Below w.heap.size w w3 ∧ Src w3 (some ⟨w.heap.size, 0, none⟩) s.size (ub s.data.toList) := by
  have hcv := Lib.run_convert_string_bytes (P := Try.prog) w 9 25 5 s Try.underlying9 Try.underlying25 Try.underlying5
  have hge := grownCap_ge w s.size 0 5
  have hl := len_size s
  refine ⟨_, _, hcv, hge, Lib.bytesWorld_size w _ s, ⟨rfl, rfl, rfl, by rw [Lib.bytesWorld_size]; omega, fun j hj => Lib.bytesWorld_at_old w 5 s j hj⟩, ⟨by rw [ub_len]; exact hl, (fun h => by cases h), fun x hx i hi => ?_⟩⟩
  cases hx
  rw [addr_add, Nat.zero_add, Lib.bytesWorld_cell w 5 s i hi]
  have hi2 : i < s.data.toList.length := by omega
  simp [ub, List.getD, List.getElem?_map, List.getElem?_eq_getElem hi2]
section
variable {w w' : World} {r g : Nat} {b : Int} {l m : List Int} {G : Nat → Prop}
theorem PSv.keep {B : Nat} {v : Value} {ps : List Pc} (h : PSv w B v ps) (hk : Keeps G w w') (hG : ∀ k, B ≤ k → k < w.heap.size → ¬ G k) : PSv w' B v ps := by
  obtain ⟨qs, e, h1, h2⟩ := h
  exact ⟨qs, e, rowA h1 (fun g hg => hk.block g (rowL h1 hg).1 (hG g (rowL h1 hg).2.1 (rowL h1 hg).1)), fun q hq => ⟨(h2 q hq).1, rowA (h2 q hq).2 (fun g hg => hk.block g (rowL (h2 q hq).2 hg).1 (hG g (rowL (h2 q hq).2 hg).2.1 (rowL (h2 q hq).2 hg).1))⟩⟩
theorem PSv.lower {B B' : Nat} {v : Value} {ps : List Pc} (h : PSv w B v ps) (hB : B' ≤ B) : PSv w B' v ps := by
  obtain ⟨qs, e, h1, h2⟩ := h
  exact ⟨qs, e, rowLower h1 hB, fun q hq => ⟨(h2 q hq).1, rowLower (h2 q hq).2 hB⟩⟩
theorem Keeps.low {F : Nat → Prop} {B : Nat} (h : Keeps F w w') (hB : B ≤ w.heap.size) (hF : ∀ k, F k → B ≤ k) : Below B w w' := ⟨h.os, h.tape, h.output, h.size, fun k hk => h.block k (by omega) (fun hf => by have := hF k hf; omega)⟩
/-- The pattern that is being read. -/
structure ReadI (w wr : World) (r g z : Nat) (s : ByteArray) (l : List Int) (ps : List Pc) (pv : Value) : Prop where
  rd : RD wr r g l
  b0 : wr.heap[w.heap.size]? = some (.cells #[.string ⟨#[]⟩, .slice none 0 0] 44 (0, 0))
  bz : wr.heap[z]? = some (.cells #[.string s, pv] 44 (0, 0))
  ow : PSv wr (z + 1) pv ps
  kp : Below w.heap.size w wr
  zl : w.heap.size < z
  rl : r < z ∧ w.heap.size < r
  gl : g < z ∧ w.heap.size < g
theorem ReadI.push {wr w2 : World} {z : Nat} {s : ByteArray} {n : List Int} {ps : List Pc} {pv : Value} {p : Pc} (h : ReadI w wr r g z s l ps pv) (hm : ps.length ≤ 1000) (am : Option Addr) (nn c : Nat) (ho : w2.ownsRow wr.heap.size 83 2 (.slice am nn c) p.mem.length (mcs p.mem)) (hr : RD w2 r g n) (hk : Keeps (fun k => k = r) wr w2) :
    ∃ g3 cap3 w3, (Builtin.append_ #[42, 42] 42 #[pv, .slice (some ⟨w2.heap.size, 0, none⟩) 1 1]).run Try.prog (w2.alloc (.cells #[.slice am nn c, .bool p.oth, .bool p.sl, .bool p.many] 68)) = .ok (.slice (some ⟨g3, 0, none⟩) (ps.length + 1) cap3) w3 ∧
      Hid ((w2.cell? ⟨z, 1, none⟩ = some pv ∧ (w2.alloc (.cells #[.slice am nn c, .bool p.oth, .bool p.sl, .bool p.many] 68)).cell? ⟨z, 1, none⟩ = some pv ∧ w3.cell? ⟨z, 1, none⟩ = some pv ∧ w3.frozen? ⟨z, 1, none⟩ = false) ∧ ReadI w (w3.setCell ⟨z, 1, none⟩ (.slice (some ⟨g3, 0, none⟩) (ps.length + 1) cap3)) r g z s n (ps ++ [p]) (.slice (some ⟨g3, 0, none⟩) (ps.length + 1) cap3)) := by
  have hzl := h.zl
  have hrl := h.rl
  have hgl := h.gl
  have hz2 := hk.size
  have hzz := lt_there h.bz
  have b0 := (hk.block _ (lt_there h.b0) (by omega)).trans h.b0
  have bz := (hk.block _ (lt_there h.bz) (by omega)).trans h.bz
  have hP := h.ow.keep hk (fun k h1 h2 e => by omega)
  obtain ⟨qs, rfl, ow, oms⟩ := hP
  rw [List.length_map] at hm
  obtain ⟨g3, cap3, w3, r1, r2, r3⟩ := app_pc ow am nn c p.oth p.sl p.many (by omega) (by omega)
  have hba : Below w2.heap.size w2 (w2.alloc (.cells #[.slice am nn c, .bool p.oth, .bool p.sl, .bool p.many] 68)) := (Below.refl _ _).alloc (Nat.le_refl _) _
  have bza := (hba.block _ (lt_there bz)).trans bz
  have b0a := (hba.block _ (lt_there b0)).trans b0
  have hno : ∀ k, k ≤ z → some k ≠ pv.ownBlock := fun k hkz e => by have := (rowL ow e.symm).2.1; omega
  have bz3 := (r3.block _ (lt_there bza) (hno z (Nat.le_refl _))).trans bza
  have b03 := (r3.block _ (lt_there b0a) (hno _ (by omega))).trans b0a
  have k3 : Keeps (fun k => z + 1 ≤ k) w2 w3 := by
    refine (Keeps.of_below (fun k => z + 1 ≤ k) hba).trans (G := fun k => z + 1 ≤ k) ⟨r3.os, r3.tape, r3.output, r3.size, fun k hk1 hk2 => r3.block k hk1 (hno k (by omega))⟩ (fun k e => .inl e)
  have k4 := Keeps.setCell (F := fun k => k = z) w3 (p := ⟨z, 1, none⟩) rfl (.slice (some ⟨g3, 0, none⟩) (qs.length + 1) cap3)
  have hz3 := k3.size
  have hmem : ∀ B v k xs, z + 1 ≤ B → w2.ownsRow B 83 2 v k xs → (w3.setCell ⟨z, 1, none⟩ (.slice (some ⟨g3, 0, none⟩) (qs.length + 1) cap3)).ownsRow B 83 2 v k xs := fun B v k xs hB hv => by
    have h1 := rowA hv (fun g hg => (hba.block g (rowL hv hg).1))
    have h2 := rowA h1 (fun g hg => r3.block g (rowL h1 hg).1 (fun e => by
      obtain ⟨_, _, cur, hc⟩ := rowL h1 hg
      obtain ⟨q1, _, cur', hc'⟩ := rowL ow e.symm
      exact typeApart hc ((hba.block g q1).trans hc') (by decide)))
    exact rowA h2 (fun g hg => k4.block g (rowL h2 hg).1 (by have := (rowL h2 hg).2.1; omega))
  rw [List.length_map]
  have hkall : Below w.heap.size w (w3.setCell ⟨z, 1, none⟩ (.slice (some ⟨g3, 0, none⟩) (qs.length + 1) cap3)) := by
    have := h.kp.size
    refine ((h.kp.trans (hk.low (by omega) (fun k e => by omega))).trans (k3.low (by omega) (fun k e => by omega))).trans (k4.low (by omega) (fun k e => by omega))
  refine ⟨g3, cap3, w3, r1, ⟨cell_of_block bz (j := 1) rfl, cell_of_block bza (j := 1) rfl, cell_of_block bz3 (j := 1) rfl, frozen_of_block bz3 1⟩, ⟨(hr.keep k3 (by omega) (by omega)).keep k4 (by omega) (by omega), (k4.block _ (lt_there b03) (by omega)).trans b03, (heap_setCell_same _ _ 1 _ _ _ bz3).trans (by simp), ?_, hkall, hzl, hrl, hgl⟩⟩
  refine ⟨qs ++ [(.slice am nn c, p)], by simp, ?_, fun q hq => ?_⟩
  · rw [pcs_snoc] at r2
    have hl : (qs ++ [(Value.slice am nn c, p)]).length = qs.length + 1 := by simp
    rw [hl]
    exact rowA r2 (fun k hk' => k4.block k (rowL r2 hk').1 (by have := (rowL r2 hk').2.1; omega))
  · rcases List.mem_append.1 hq with hq | hq
    · exact ⟨(oms q hq).1, hmem _ _ _ _ (Nat.le_refl _) (oms q hq).2⟩
    · rw [List.mem_singleton] at hq
      subst hq
      exact ⟨⟨_, _, _, rfl⟩, rowLower (hmem _ _ _ _ (by omega) ho) (by omega)⟩
/-- What the reading of a pattern comes to. -/
def ReadO (w w' : World) (s : ByteArray) (e : Ending) : Option (List Pc) → Prop
  | none => e = .panicked (gave 190) ∧ Below w.heap.size w w'
  | some ps => (∃ a n c, e = .returned (.agg #[.string s, .slice a n c]) ∧ PSv w' w.heap.size (.slice a n c) ps) ∧ Below w.heap.size w w'
set_option maxRecDepth 20000 in
set_option maxHeartbeats 8000000 in
theorem read_ok (s : ByteArray) (w : World) (hs : s.size ≤ 255) : Calls Try.prog 14 #[.string s] w fun e w' => ReadO w w' s e (patP (ub s.data.toList)) := by
  have hgt : ¬ (255 < (s.size : Int)) := by omega
  have hl := len_size s
  have hul := ub_len s.data.toList
  obtain ⟨W0, hW0⟩ : ∃ W0, W0 = w.alloc (.cells #[.string ⟨#[]⟩, .slice none 0 0] 44) := ⟨_, rfl⟩
  obtain ⟨C, W1, hcv, hC, hz1, hb1, hsrc⟩ := conv_str W0 s
  have hz0 : W0.heap.size = w.heap.size + 1 := by rw [hW0]; exact World.size_alloc _ _
  have hb0 : Below w.heap.size w W0 := by rw [hW0]; exact (Below.refl _ _).alloc (Nat.le_refl _) _
  have g0 : W0.heap[w.heap.size]? = some (.cells #[.string ⟨#[]⟩, .slice none 0 0] 44 (0, 0)) := by rw [hW0]; exact heap_alloc_new w _
  obtain ⟨W3, hW3⟩ : ∃ W3, W3 = (W1.alloc (.cells #[.slice (some ⟨W0.heap.size, 0, none⟩) s.size C, .int .i64 190] 65)).alloc (.cells #[.string s, .slice none 0 0] 44) := ⟨_, rfl⟩
  have hb3 : Below W1.heap.size W1 W3 := by rw [hW3]; exact ((Below.refl _ _).alloc (Nat.le_refl _) _).alloc (by simp) _
  have hzA : (W1.alloc (.cells #[.slice (some ⟨W0.heap.size, 0, none⟩) s.size C, .int .i64 190] 65)).heap.size = W1.heap.size + 1 := World.size_alloc _ _
  have gr : W3.heap[W1.heap.size]? = some (.cells #[.slice (some ⟨W0.heap.size, 0, none⟩) s.size C, .int .i64 190] 65 (0, 0)) := by rw [hW3]; exact (Below.heap_alloc _ _ _ (by omega)).trans (heap_alloc_new W1 _)
  have gz : W3.heap[W1.heap.size + 1]? = some (.cells #[.string s, .slice none 0 0] 44 (0, 0)) := by
    have := heap_alloc_new (W1.alloc (.cells #[.slice (some ⟨W0.heap.size, 0, none⟩) s.size C, .int .i64 190] 65)) (.cells #[.string s, .slice none 0 0] 44)
    rw [hzA] at this
    rw [hW3]
    exact this
  have hz3 := hb3.size
  have hlU : (ub s.data.toList).length = s.size := by omega
  have H0 : Hid (ReadI w W3 W1.heap.size W0.heap.size (W1.heap.size + 1) s (ub s.data.toList) [] (.slice none 0 0)) := Hid.mk ⟨⟨some ⟨W0.heap.size, 0, none⟩, C, by rw [hlU]; exact gr, by rw [hlU]; exact hsrc.later hb3, by omega, fun x hx => by cases hx; rfl, by omega, by omega⟩, (hb3.block _ (by omega)).trans ((hb1.block _ (lt_there g0)).trans g0), gz, ⟨[], rfl, World.ownsRow_nil _ _ _ _, fun q hq => by cases hq⟩, (hb0.trans (hb1.mono (by omega))).trans (hb3.mono (by omega)), by omega, by omega, by omega⟩
  obtain ⟨r, hr⟩ : ∃ r, r = W1.heap.size := ⟨_, rfl⟩
  obtain ⟨g, hg⟩ : ∃ g, g = W0.heap.size := ⟨_, rfl⟩
  rw [← hr, ← hg] at H0
  obtain ⟨z, hz⟩ : ∃ z, z = r + 1 := ⟨_, rfl⟩
  rw [← hz] at H0
  have hlenU : (ub s.data.toList).length ≤ 255 := by omega
  have HP : Hid (patP (ub s.data.toList) = piecesP (ub s.data.toList).length (ub s.data.toList)) := rfl
  generalize ub s.data.toList = u at *
  clear hb0 hb1 g0 hb3 gr gz hsrc hz3 hz0 hz1 hzA
  go_enter Try.func14, Try.ntmps14
  go_wp2_with fail
  refine (haltIf_fb _ 7 (by first | rfl | (simp; omega))).mono ?_
  rintro e w1 ⟨rfl, hw1⟩
  have hw1' := hw1.symm
  subst hw1'
  clear hw1
  rw [← hW0]
  have HW3 := Hid.mk hW3
  have HR := Hid.mk (And.intro hr hz)
  clear hW0 hW3 hr hz hg
  go_wp2
  rw [← HW3.out, ← HR.out.1, ← HR.out.2]
  clear HW3 HR hcv
  go_loopw [] (fun wr => ∃ l' ps pv f, ReadI w wr r g z s l' ps pv ∧ ps.length + l'.length ≤ u.length ∧ l'.length ≤ f ∧ piecesP u.length u = (piecesP f l').map (ps ++ ·)) (fun wr => leftN wr r)
  case atStart => exact ⟨u, [], _, u.length, H0.out, by simp, Nat.le_refl _, by cases piecesP u.length u <;> rfl⟩
  case round =>
    obtain ⟨l', ps, pv, f, hI, hpl, hf, hps⟩ := hrel
    rcases hl' : l' with _ | ⟨b, l2⟩
    · rw [hl'] at hI hps
      have hst : Hid (patP u = some ps) := Hid.mk (by rw [HP.out, hps]; cases f <;> simp [piecesP])
      have ke := ended_yes hI.rd
      have hzl := hI.zl
      have hrl := hI.rl
      have hgl := hI.gl
      have p0 : wr.cell? ⟨z, 0, none⟩ = some (.string s) := cell_of_block hI.bz (j := 0) rfl
      have p1 : wr.cell? ⟨z, 1, none⟩ = some pv := cell_of_block hI.bz (j := 1) rfl
      obtain ⟨am, n, cm, rfl⟩ : ∃ am n cm, pv = .slice am n cm := by
        obtain ⟨qs, _, ho, _⟩ := hI.ow
        obtain ⟨_, ⟨rfl, h0⟩ | ⟨g', cap, cur, rfl, _⟩⟩ := ho
        · exact ⟨none, 0, 0, rfl⟩
        · exact ⟨_, _, _, rfl⟩
      obtain ⟨q0, q1, f0, f1, hb4, hk4⟩ := two_cells hI.b0 (.string s) (.slice am n cm)
      have HE := Hid.mk (And.intro (range_block hb4) (And.intro ((hI.ow.keep hk4 (fun k h1 h2 e => by omega)).lower (show w.heap.size ≤ z + 1 by omega)) (hI.kp.trans (hk4.low (by have := hI.kp.size; omega) (fun k e => by omega)))))
      clear hI hb4 hk4 hps HP H0
      go_wp2_with fail
      refine ke.mono ?_
      rintro e w2 ⟨rfl, hw2⟩
      have hw2' := hw2.symm
      subst hw2'
      clear ke hw2
      go_wp2
      refine bodyPost_ret (results_agg (P := Try.prog) rfl _ _ w.heap.size [.string s, .slice am n cm] _ rfl HE.out.1 Try.underlying44 rfl (by kernel_rfl)) rfl ?_
      rw [hst.out]
      exact ⟨⟨_, _, _, rfl, HE.out.2.1⟩, HE.out.2.2⟩
    · rw [hl'] at hI hps hf hpl
      have ke := ended_no hI.rd
      have hbd := below_drew (Below.refl wr.heap.size wr)
      have hlf := hI.rd.left
      simp only [List.length_cons] at hlf hf hpl
      have km := piece_any (hI.rd.later hbd) (by simp only [List.length_cons]; omega)
      have c0 : wr.drew.cell? ⟨z, 1, none⟩ = some pv := cell_of_block hI.bz (j := 1) rfl
      have hId : ReadI w wr.drew r g z s (b :: l2) ps pv := ⟨hI.rd.later hbd, hI.b0, hI.bz, hI.ow.keep (Keeps.of_below (fun _ => False) hbd) (fun _ _ _ h => h), hI.kp.trans (hbd.mono (by have := hI.kp.size; omega)), hI.zl, hI.rl, hI.gl⟩
      obtain ⟨f', rfl⟩ : ∃ f', f = f' + 1 := ⟨f - 1, by omega⟩
      cases hpp : pieceP (b :: l2) with
      | none =>
        have hnone : Hid (patP u = none) := Hid.mk (by rw [HP.out, hps]; simp [piecesP, hpp])
        rw [hpp] at km
        have HI := Hid.mk hId
        clear hI hId hps hbd HP H0
        go_wp2_with fail
        refine ke.mono ?_
        rintro e w2 ⟨rfl, hw2⟩
        have hw2' := hw2.symm
        subst hw2'
        clear ke hw2
        go_wp2_with fail
        refine wp_region_sw 6 (fun w' => w'.cell? ⟨z, 1, none⟩ = some pv) (by kernel_rfl) (c0) (fun hHeld => ?_)
        refine wpAnyS_pure (i := 0) (oi := { dst := some 18, op := Op.fieldAddr 44 (Operand.tmp 4) 1, type := 0, pos := "pattern.go:84", after := #[], guard := none }) (v := .pointer (some ⟨z, 1, none⟩)) rfl (by decide) (by kernel_rfl) (by kernel_rfl) (by kernel_rfl) (fun _ _ _ h => h) (Or.inl ⟨by rfl, ?_⟩) (Or.inr hHeld) ?_
        · intro w hSw
          clear hSw
          go_simp
        try simp only [Act.put, List.setIfInBounds_toArray, List.set_cons_zero, List.set_cons_succ]
        refine wpAnyS_load (i := 1) (oi := { dst := some 19, op := Op.load 42 (Operand.tmp 18), type := 42, pos := "pattern.go:84", after := #[{ on := 0, ground := Ground.data }], guard := none }) (v := pv) rfl (by decide) (by kernel_rfl) (by kernel_rfl) (by kernel_rfl) (by kernel_rfl) (fun _ _ _ h => h) (Or.inl ⟨by rfl, ?_⟩) (by rfl) hHeld ?_
        · intro w hSw
          (try dsimp only at hSw)
          go_simp
        try simp only [Act.put, List.setIfInBounds_toArray, List.set_cons_zero, List.set_cons_succ]
        refine wpAnyS_one (i := 2) (o := { dst := some 20, op := Op.call { callee := Callee.value (Operand.func 21), args := #[Operand.tmp 3], argTypes := #[65] }, type := 68, pos := "pattern.go:84", after := #[], guard := none }) (by kernel_rfl) rfl (fun K hK => ?_)
        go_simp
        refine km.mono ?_
        rintro e w2 ⟨rfl, hk2⟩
        refine ⟨rfl, ?_⟩
        rw [hnone.out]
        exact ⟨rfl, HI.out.kp.trans (hk2.low (by have := HI.out.kp.size; omega) (fun k e => by have := HI.out.rl; omega))⟩
      | some q =>
        obtain ⟨p, m'⟩ := q
        have hlm := piece_len hpp
        simp only [List.length_cons] at hlm
        have hps2 : Hid (piecesP u.length u = (piecesP f' m').map ((ps ++ [p]) ++ ·)) := Hid.mk (by
          rw [hps]
          simp only [piecesP, hpp, Option.map_map]
          congr 1
          funext q
          simp)
        rw [hpp] at km
        have HG : Hid (∀ w2 am nn c, w2.ownsRow wr.drew.heap.size 83 2 (.slice am nn c) p.mem.length (mcs p.mem) → RD w2 r g m' → Keeps (fun k => k = r) wr.drew w2 → ∃ g3 cap3 w3, (Builtin.append_ #[42, 42] 42 #[pv, .slice (some ⟨w2.heap.size, 0, none⟩) 1 1]).run Try.prog (w2.alloc (.cells #[.slice am nn c, .bool p.oth, .bool p.sl, .bool p.many] 68)) = .ok (.slice (some ⟨g3, 0, none⟩) (ps.length + 1) cap3) w3 ∧
      Hid ((w2.cell? ⟨z, 1, none⟩ = some pv ∧ (w2.alloc (.cells #[.slice am nn c, .bool p.oth, .bool p.sl, .bool p.many] 68)).cell? ⟨z, 1, none⟩ = some pv ∧ w3.cell? ⟨z, 1, none⟩ = some pv ∧ w3.frozen? ⟨z, 1, none⟩ = false) ∧ ReadI w (w3.setCell ⟨z, 1, none⟩ (.slice (some ⟨g3, 0, none⟩) (ps.length + 1) cap3)) r g z s m' (ps ++ [p]) (.slice (some ⟨g3, 0, none⟩) (ps.length + 1) cap3))) := fun w2 am nn c ho hr2 hk2 => hId.push (by omega) am nn c ho hr2 hk2
        clear hI hId hps hbd HP H0
        go_wp2_with fail
        refine ke.mono ?_
        rintro e w2 ⟨rfl, hw2⟩
        have hw2' := hw2.symm
        subst hw2'
        clear ke hw2
        go_wp2_with fail
        refine wp_region_sw 6 (fun w' => w'.cell? ⟨z, 1, none⟩ = some pv) (by kernel_rfl) (c0) (fun hHeld => ?_)
        refine wpAnyS_pure (i := 0) (oi := { dst := some 18, op := Op.fieldAddr 44 (Operand.tmp 4) 1, type := 0, pos := "pattern.go:84", after := #[], guard := none }) (v := .pointer (some ⟨z, 1, none⟩)) rfl (by decide) (by kernel_rfl) (by kernel_rfl) (by kernel_rfl) (fun _ _ _ h => h) (Or.inl ⟨by rfl, ?_⟩) (Or.inr hHeld) ?_
        · intro w hSw
          clear hSw
          go_simp
        try simp only [Act.put, List.setIfInBounds_toArray, List.set_cons_zero, List.set_cons_succ]
        refine wpAnyS_load (i := 1) (oi := { dst := some 19, op := Op.load 42 (Operand.tmp 18), type := 42, pos := "pattern.go:84", after := #[{ on := 0, ground := Ground.data }], guard := none }) (v := pv) rfl (by decide) (by kernel_rfl) (by kernel_rfl) (by kernel_rfl) (by kernel_rfl) (fun _ _ _ h => h) (Or.inl ⟨by rfl, ?_⟩) (by rfl) hHeld ?_
        · intro w hSw
          (try dsimp only at hSw)
          go_simp
        try simp only [Act.put, List.setIfInBounds_toArray, List.set_cons_zero, List.set_cons_succ]
        refine wpAnyS_one (i := 2) (o := { dst := some 20, op := Op.call { callee := Callee.value (Operand.func 21), args := #[Operand.tmp 3], argTypes := #[65] }, type := 68, pos := "pattern.go:84", after := #[], guard := none }) (by kernel_rfl) rfl (fun K hK => ?_)
        go_simp
        refine km.mono ?_
        rintro e w2 ⟨⟨v, rfl, hv⟩, hr2, hk2⟩
        obtain ⟨am, n, c, rfl, ho⟩ := hv.form
        obtain ⟨g3, cap3, w3, hap, HE⟩ := HG.out w2 am n c ho hr2 hk2
        have HAP := Hid.mk hap
        refine hK.out _ _ (Or.inr HE.out.1.1) ?_
        clear hK K
        try simp only [Act.put, List.setIfInBounds_toArray, List.set_cons_zero, List.set_cons_succ]
        refine wpAnyS_one (i := 3) (o := { dst := some 21, op := Op.buildSlice 42 1 #[(0, Operand.tmp 20)], type := 42, pos := "pattern.go:84", after := #[{ on := 2, ground := Ground.data }], guard := none }) (by kernel_rfl) rfl (fun K hK => ?_)
        go_simp
        refine hK.out _ _ (Or.inr HE.out.1.2.1) ?_
        clear hK K
        try simp only [Act.put, List.setIfInBounds_toArray, List.set_cons_zero, List.set_cons_succ]
        refine wpAnyS_one (i := 4) (o := { dst := some 22, op := Op.call { callee := Callee.builtin Builtin.append, args := #[Operand.tmp 19, Operand.tmp 21], argTypes := #[42, 42] }, type := 42, pos := "pattern.go:84", after := #[{ on := 1, ground := Ground.data }, { on := 3, ground := Ground.data }, { on := 2, ground := Ground.chain }], guard := none }) (by kernel_rfl) rfl (fun K hK => ?_)
        rw [if_pos (by rfl)]
        refine sw_append_run _ _ _ rfl (pv) (.slice (some ⟨w2.heap.size, 0, none⟩) 1 1) _ rfl rfl HAP.out ?_
        refine hK.out _ _ (Or.inr HE.out.1.2.2.1) ?_
        clear hK K
        try simp only [Act.put, List.setIfInBounds_toArray, List.set_cons_zero, List.set_cons_succ]
        refine wpAnyS_pure (i := 5) (oi := { dst := some 23, op := Op.fieldAddr 44 (Operand.tmp 4) 1, type := 0, pos := "pattern.go:84", after := #[{ on := 0, ground := Ground.phase }, { on := 1, ground := Ground.phase }, { on := 2, ground := Ground.phase }, { on := 3, ground := Ground.phase }, { on := 4, ground := Ground.phase }], guard := none }) (v := .pointer (some ⟨z, 1, none⟩)) rfl (by decide) (by kernel_rfl) (by kernel_rfl) (by kernel_rfl) (fun _ _ _ h => h) (Or.inl ⟨by rfl, ?_⟩) (Or.inr HE.out.1.2.2.1) ?_
        · intro w hSw
          clear hSw
          go_simp
        try simp only [Act.put, List.setIfInBounds_toArray, List.set_cons_zero, List.set_cons_succ]
        have c3 := HE.out.1.2.2.1
        have f3 := HE.out.1.2.2.2
        refine wpAnyS_one (i := 6) (o := { dst := none, op := Op.store 42 (Operand.tmp 23) (Operand.tmp 22), type := 0, pos := "pattern.go:84", after := #[{ on := 5, ground := Ground.data }, { on := 4, ground := Ground.data }, { on := 4, ground := Ground.chain }, { on := 0, ground := Ground.phase }, { on := 1, ground := Ground.phase }, { on := 2, ground := Ground.phase }, { on := 3, ground := Ground.phase }, { on := 4, ground := Ground.phase }], guard := none }) (by kernel_rfl) rfl (fun K hK => ?_)
        go_simp
        refine hK.out _ _ (Or.inl (by rfl)) ?_
        clear hK K
        try simp only [Act.put, List.setIfInBounds_toArray, List.set_cons_zero, List.set_cons_succ]
        refine wpAnyS_done (by kernel_rfl) ?_ _
        have HI2 := Hid.mk HE.out.2
        clear HE HG km c3 f3 ho hv hr2 hk2
        try go_wp2
        go_roundw
        case rel => exact ⟨m', ps ++ [p], _, f', HI2.out, by simp; omega, by omega, hps2.out⟩
        case measure => rw [HI2.out.rd.left, hlf]; omega
end
end Go.Proofs.Ytkdjjnkhbmmfeaa
