import Derived.Test.YtalokopnagpgcaaDoorSI4
namespace Go.Proofs.YtalokopnagpgcaaDoor
open Go.RowKit Go.Maps

set_option maxRecDepth 20000 in
set_option maxHeartbeats 4000000 in
theorem indexRune_err (s : ByteArray) (hlow : ∀ i, i < s.size → (s.get! i).toNat < 128) (w : World) :
    Calls Tryd.prog 37 #[.string s, .int .i32 65533] w fun e w' => e = .returned (.int .i64 (-1)) ∧ Below w.heap.size w w' := by
  have HL := Hid.mk hlow
  clear hlow
  go_enter Tryd.func37, Tryd.ntmps37
  go_wp2
  go_loopw [] (fun wr => ∃ pos : Nat, wr.heap[w.heap.size]? = some (.stringIter s pos) ∧ pos ≤ s.size ∧ Below w.heap.size w wr) (fun wr => s.size - wr.iterPos w.heap.size)
  case atStart => exact ⟨0, heap_alloc_new w _, Nat.zero_le _, (Below.refl _ _).alloc (Nat.le_refl _) _⟩
  case round =>
    obtain ⟨pos, hit, hpS, hbel⟩ := hrel
    by_cases hp : pos < s.size
    · have hnx : ∀ ty, (Instr.next (.pointer (some ⟨w.heap.size, 0, none⟩)) true ty).run Tryd.prog wr = _ := fun ty => Lib.run_next_any_at wr w.heap.size s pos ty hit hp
      have hi0 : wr.iterPos w.heap.size = pos := iterPos_of hit
      have h8 := HL.out pos hp
      rw [rune_low s pos hp h8] at hnx
      have hi1 := Lib.iterAt_heap wr w.heap.size s pos (pos + 1) hit
      have hb1 : Below w.heap.size w (wr.iterAt w.heap.size s (pos + 1)) := Lib.below_iterAt hbel (Nat.le_refl _) s (pos + 1)
      have hip : (wr.iterAt w.heap.size s (pos + 1)).iterPos w.heap.size = pos + 1 := iterPos_of hi1
      have HI := Hid.mk (And.intro hi1 (And.intro hb1 (And.intro hip hi0)))
      have hne : (((s.get! pos).toNat : Int) == 65533) = false := by rw [beq_eq_false_iff_ne]; omega
      clear hi1 hb1 hip hbel hit hi0 h8
      generalize wr.iterAt w.heap.size s (pos + 1) = wi at *
      generalize (s.get! pos).toNat = x at *
      go_wp2
      go_roundw
      case rel => exact ⟨pos + 1, HI.out.1, by omega, HI.out.2.1⟩
      case measure =>
        have h1 := HI.out.2.2.1
        have h2 := HI.out.2.2.2
        rw [h1, h2]
        omega
    · have hnx : ∀ ty, (Instr.next (.pointer (some ⟨w.heap.size, 0, none⟩)) true ty).run Tryd.prog wr = _ := fun ty => Lib.run_next_end_at wr w.heap.size s pos ty hit hp
      have HE := Hid.mk hbel
      clear hbel
      go_wp2
      go_ret
      exact ⟨rfl, HE.out⟩
theorem indexRune_high (r : Int) (w : World) (h0 : 128 ≤ r) (h1 : r < 1114112) :
    Calls Tryd.prog 37 #[.string ⟨#[32, 9]⟩, .int .i32 r] w fun e w' => e = .returned (.int .i64 (-1)) ∧ Below w.heap.size w w' := by
  by_cases hE : r = 65533
  · subst hE
    exact indexRune_err _ (fun i hi => by
      have hi2 : i < 2 := hi
      match i, hi2 with
      | 0, _ => decide
      | 1, _ => decide) w
  · exact indexRune_other ⟨#[32, 9]⟩ rfl (fun _ => rfl) rfl r w h0 h1 hE
theorem contains_high (r : Int) (w : World) (h0 : 128 ≤ r) (h1 : r < 1114112) :
    Calls Tryd.prog 32 #[.string ⟨#[32, 9]⟩, .int .i32 r] w fun e w' => e = .returned (.bool false) ∧ Below w.heap.size w w' := by
  have h := indexRune_high r w h0 h1
  generalize (⟨#[32, 9]⟩ : ByteArray) = s at *
  go_enter Tryd.func32, Tryd.ntmps32
  go_wp2_with fail
  refine h.mono ?_
  rintro e w1 ⟨rfl, hb1⟩
  have HB := Hid.mk hb1
  clear hb1 h
  go_wp2
  go_ret
  exact ⟨rfl, HB.out⟩
theorem contains_low (c : UInt8) (hc : c.toNat < 128) (w : World) :
    Calls Tryd.prog 32 #[.string ⟨#[32, 9]⟩, .int .i32 c.toNat] w fun e w' => e = .returned (.bool (blank c)) ∧ w' = w := by
  have h := Any.strings_ContainsRune_ascii (P := Tryd.prog) (ρ := Tryd.lays151_ren) Tryd.lays151 ⟨#[32, 9]⟩ (c.toNat : Int) w (by omega) (by omega)
  have e : decide (0 ≤ Lib.indexByte (⟨#[32, 9]⟩ : ByteArray).data.toList ((c.toNat : Int)).toNat.toUInt8) = blank c := by
    have e1 : ((c.toNat : Int)).toNat.toUInt8 = c := by simp
    rw [e1]
    have e2 := ix_mem [32, 9] c
    cases hb : blank c with
    | true =>
      rw [decide_eq_true_eq]
      refine e2.2 ?_
      simp only [blank, Bool.or_eq_true, beq_iff_eq] at hb
      simpa using hb
    | false =>
      rw [decide_eq_false_iff_not]
      intro h9
      have := e2.1 h9
      simp only [blank, Bool.or_eq_false_iff, beq_eq_false_iff_ne] at hb
      simp only [List.mem_cons, List.not_mem_nil, or_false] at this
      rcases this with h | h
      · exact hb.1 h
      · exact hb.2 h
  rw [e] at h
  exact h
end Go.Proofs.YtalokopnagpgcaaDoor
