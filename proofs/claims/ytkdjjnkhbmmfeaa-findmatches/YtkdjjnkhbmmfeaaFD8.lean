import Derived.Test.YtkdjjnkhbmmfeaaFD7
namespace Go.Proofs.Ytkdjjnkhbmmfeaa
open Go.RowKit Go.Maps

/-- May a piece take this byte? -/
def memHas (b : Int) (m : Int × Int) : Bool := decide (m.1 ≤ b) && decide (b ≤ m.2)
def takesP (p : Pc) (b : Int) : Bool := if b = 47 ∧ p.sl = false then false else if p.mem.any (memHas b) = true then !p.oth else p.oth
set_option maxRecDepth 20000 in
set_option maxHeartbeats 4000000 in
theorem read_long (s : ByteArray) (w : World) (hs : 255 < s.size) : Calls Try.prog 14 #[.string s] w fun e w' => e = .panicked (gave 7) ∧ Below w.heap.size w w' := by
  have hgt : 255 < (s.size : Int) := by omega
  have hb0 : Hid (Below w.heap.size w (w.alloc (.cells #[.string ⟨#[]⟩, .slice none 0 0] 44))) := Hid.mk ((Below.refl _ _).alloc (Nat.le_refl _) _)
  go_enter Try.func14, Try.ntmps14
  go_wp2_with fail
  refine (haltIf_tb _ 7 (by first | rfl | (simp; omega))).mono ?_
  rintro e w1 ⟨rfl, hw1⟩
  have hw1' := hw1.symm
  subst hw1'
  exact ⟨rfl, rfl, hb0.out⟩
theorem mcs_at : ∀ (ms : List (Int × Int)) (i : Nat) (hi : i < ms.length), (mcs ms)[i * 2]? = some (.int .u8 ms[i].1) ∧ (mcs ms)[i * 2 + 1]? = some (.int .u8 ms[i].2)
  | [], i, hi => by simp at hi
  | p :: r, 0, _ => by simp [mcs]
  | p :: r, i + 1, hi => by
    have h := mcs_at r i (by simpa using hi)
    have e1 : (i + 1) * 2 = i * 2 + 2 := by omega
    rw [e1]
    simpa [mcs] using h
theorem pcs_at : ∀ (qs : List (Value × Pc)) (i : Nat) (hi : i < qs.length), (pcs qs)[i * 4]? = some qs[i].1 ∧ (pcs qs)[i * 4 + 1]? = some (.bool qs[i].2.oth) ∧ (pcs qs)[i * 4 + 2]? = some (.bool qs[i].2.sl) ∧ (pcs qs)[i * 4 + 3]? = some (.bool qs[i].2.many)
  | [], i, hi => by simp at hi
  | p :: r, 0, _ => by simp [pcs]
  | p :: r, i + 1, hi => by
    have h := pcs_at r i (by simpa using hi)
    have e1 : (i + 1) * 4 = i * 4 + 4 := by omega
    rw [e1]
    simpa [pcs] using h
section
variable {w w' : World} {B : Nat} {a : Option Addr} {n c : Nat}
theorem rowC {t : TypeId} {sz k : Nat} {xs : List Value} (h : w.ownsRow B t sz (.slice a n c) k xs) : n = k ∧ (0 < k → ∃ g, a = some ⟨g, 0, none⟩ ∧ B ≤ g ∧ g < w.heap.size ∧ ∀ j u, xs[j]? = some u → w.cell? ⟨g, j, none⟩ = some u) := by
  have ho := h
  obtain ⟨hl, ⟨e, h0⟩ | ⟨g, cap, cur, e, hg, hb, _⟩⟩ := h
  · cases e
    exact ⟨h0.symm, fun h => by omega⟩
  · cases e
    refine ⟨rfl, fun _ => ⟨g, rfl, hg, lt_there hb, fun j u hu => ?_⟩⟩
    have := ho.cells (g := g) rfl j u hu
    rw [addr_add, Nat.zero_add] at this
    exact this
/-- What is read of pieces. -/
theorem PSv.at {ps : List Pc} (h : PSv w B (.slice a n c) ps) : n = ps.length ∧ ∀ i (hi : i < ps.length), ∃ g am k cm, a = some ⟨g, 0, none⟩ ∧ w.cell? ⟨g, i * 4, none⟩ = some (.slice am k cm) ∧ w.cell? ⟨g, i * 4 + 1, none⟩ = some (.bool ps[i].oth) ∧ w.cell? ⟨g, i * 4 + 2, none⟩ = some (.bool ps[i].sl) ∧ w.cell? ⟨g, i * 4 + 3, none⟩ = some (.bool ps[i].many) ∧ w.ownsRow B 83 2 (.slice am k cm) ps[i].mem.length (mcs ps[i].mem) := by
  obtain ⟨qs, rfl, h1, h2⟩ := h
  obtain ⟨e, hc⟩ := rowC h1
  refine ⟨by rw [e, List.length_map], fun i hi => ?_⟩
  rw [List.length_map] at hi
  obtain ⟨g, rfl, _, _, hat⟩ := hc (by omega)
  obtain ⟨p0, p1, p2, p3⟩ := pcs_at qs i hi
  obtain ⟨⟨am, k, cm, e1⟩, ho⟩ := h2 _ (List.getElem_mem hi)
  rw [e1] at p0 ho
  simp only [List.getElem_map]
  exact ⟨g, am, k, cm, rfl, hat _ _ p0, hat _ _ p1, hat _ _ p2, hat _ _ p3, ho⟩
set_option maxRecDepth 20000 in
set_option maxHeartbeats 8000000 in
theorem takes_any (p : Pc) (b : Int) (ho : w.ownsRow B 83 2 (.slice a n c) p.mem.length (mcs p.mem)) (hlen : p.mem.length ≤ 1000000) : Calls Try.prog 30 #[.agg #[.slice a n c, .bool p.oth, .bool p.sl, .bool p.many], .int .u8 b] w fun e w' => e = .returned (.bool (takesP p b)) ∧ Below w.heap.size w w' := by
  obtain ⟨mem, oth, sl, many⟩ := p
  dsimp only at ho hlen ⊢
  obtain ⟨W0, hW0⟩ : ∃ W0, W0 = w.alloc (.cells #[.slice a n c, .bool oth, .bool sl, .bool many] 68) := ⟨_, rfl⟩
  have hb0 : Below w.heap.size w W0 := by rw [hW0]; exact (Below.refl _ _).alloc (Nat.le_refl _) _
  have g0 : W0.heap[w.heap.size]? = some (.cells #[.slice a n c, .bool oth, .bool sl, .bool many] 68 (0, 0)) := by rw [hW0]; exact heap_alloc_new w _
  have c0 : W0.cell? ⟨w.heap.size, 0, none⟩ = some (.slice a n c) := cell_of_block g0 (j := 0) rfl
  have c1 : W0.cell? ⟨w.heap.size, 1, none⟩ = some (.bool oth) := cell_of_block g0 (j := 1) rfl
  have c2 : W0.cell? ⟨w.heap.size, 2, none⟩ = some (.bool sl) := cell_of_block g0 (j := 2) rfl
  have HB0 := Hid.mk (And.intro hb0 (lt_there g0))
  have HO := Hid.mk ho
  clear g0 hb0 ho
  by_cases h47 : b = 47 ∧ sl = false
  · obtain ⟨rfl, rfl⟩ := h47
    go_enter Try.func30, Try.ntmps30
    go_wp2_with fail
    rw [← hW0]
    clear hW0
    go_wp2
    go_ret
    exact ⟨rfl, HB0.out.1⟩
  · have hT : takesP ⟨mem, oth, sl, many⟩ b = if mem.any (memHas b) = true then !oth else oth := by unfold takesP; rw [if_neg h47]
    generalize takesP ⟨mem, oth, sl, many⟩ b = X at *
    have HT := Hid.mk hT
    clear hT
    have hcase : ((b == 47) = false) ∨ ((b == 47) = true ∧ sl = true) := by
      by_cases e : b = 47
      · refine .inr ⟨by simp [e], ?_⟩
        cases sl with
        | true => rfl
        | false => exact absurd ⟨e, rfl⟩ h47
      · exact .inl (by simp [e])
    have hnk := (rowC HO.out).1
    subst hnk
    clear h47
    rcases hcase with hb | ⟨hb, rfl⟩
    all_goals
      go_enter Try.func30, Try.ntmps30
      go_wp2_with fail
      rw [← hW0]
      clear hW0
      go_wp2
      go_loopw [17] (fun iv wr => ∃ i : Nat, iv = .int .i64 i ∧ i ≤ mem.length ∧ Below W0.heap.size W0 wr ∧ (mem.take i).any (memHas b) = false) (fun iv _ => mem.length - (intOf iv).toNat)
      case atStart => exact ⟨0, rfl, Nat.zero_le _, Below.refl _ _, by simp⟩
      case round =>
        obtain ⟨i, rfl, hi, hbr, hany⟩ := hrel
        have d1 := cell_later hbr c1
        by_cases hlt : i < mem.length
        · have hlt' : (i : Int) < (mem.length : Int) := by omega
          obtain ⟨g, rfl, hBg, hgl, hat⟩ := (rowC HO.out).2 (by omega)
          obtain ⟨m1, m2⟩ := mcs_at mem i hlt
          have hz0 := HB0.out.1.size
          have a1 := cell_later hbr (cell_later HB0.out.1 (hat _ _ m1))
          have a2 := cell_later hbr (cell_later HB0.out.1 (hat _ _ m2))
          have hsn : (mem.take (i + 1)).any (memHas b) = memHas b mem[i] := by
            rw [← List.take_append_getElem hlt, List.any_append, hany]
            simp
          have hmi : mem[i] ∈ mem := List.getElem_mem hlt
          obtain ⟨q, hq⟩ : ∃ q, q = mem[i] := ⟨_, rfl⟩
          rw [← hq] at m1 m2 a1 a2 hsn hmi
          obtain ⟨x, y⟩ := q
          dsimp only at a1 a2
          have hbA : Below W0.heap.size W0 (wr.alloc (.cells #[.int .u8 x, .int .u8 y] 83)) := hbr.alloc hbr.size _
          have g9 := heap_alloc_new wr (.cells #[.int .u8 x, .int .u8 y] 83)
          have e0 : (wr.alloc (.cells #[.int .u8 x, .int .u8 y] 83)).cell? ⟨wr.heap.size, 0, none⟩ = some (.int .u8 x) := cell_of_block g9 (j := 0) rfl
          have e1 : (wr.alloc (.cells #[.int .u8 x, .int .u8 y] 83)).cell? ⟨wr.heap.size, 1, none⟩ = some (.int .u8 y) := cell_of_block g9 (j := 1) rfl
          have e2 := cell_later hbA c1
          have HA := Hid.mk (And.intro hbA (And.intro hsn hmi))
          clear hbA g9 hat hany m1 m2 hsn hmi hq hbr
          by_cases hx : x ≤ b
          · by_cases hy : b ≤ y
            · have HF : Hid (X = !oth) := Hid.mk (by
                rw [HT.out, if_pos]
                exact List.any_eq_true.2 ⟨_, HA.out.2.2, by simp [memHas, hx, hy]⟩)
              clear HT
              go_wp2
              go_ret
              exact ⟨by rw [HF.out]; rfl, HB0.out.1.trans (HA.out.1.mono (by omega))⟩
            · have HF : Hid ((mem.take (i + 1)).any (memHas b) = false) := Hid.mk (by rw [HA.out.2.1]; simp [memHas, hx]; omega)
              go_wp2
              go_roundw
              case rel => exact ⟨i + 1, by go_num, by omega, HA.out.1, HF.out⟩
              case measure => simp [intOf]; omega
          · have HF : Hid ((mem.take (i + 1)).any (memHas b) = false) := Hid.mk (by rw [HA.out.2.1]; simp [memHas]; omega)
            go_wp2
            go_roundw
            case rel => exact ⟨i + 1, by go_num, by omega, HA.out.1, HF.out⟩
            case measure => simp [intOf]; omega
        · obtain rfl : i = mem.length := by omega
          have hge : ¬ (mem.length : Int) < (mem.length : Int) := by omega
          have HF : Hid (X = oth) := Hid.mk (by
            rw [HT.out, if_neg]
            rw [List.take_length] at hany
            simp [hany])
          have HR := Hid.mk hbr
          clear HT hany hbr
          go_wp2
          go_ret
          exact ⟨by rw [HF.out]; rfl, HB0.out.1.trans (HR.out.mono (by have := HB0.out.1.size; omega))⟩
end
end Go.Proofs.Ytkdjjnkhbmmfeaa
