import Derived.Test.YtkkmkogpbhcpmabXKEntH
namespace Go.Proofs.Ytkkmkogpbhcpmab
open Go.RowKit

theorem le_zeros : ∀ {l : List Int}, Zeros l → le l = 0
  | [], _ => rfl
  | x :: xs, h => by
    have h0 := h x (List.mem_cons_self)
    have h1 := le_zeros (l := xs) (fun y hy => h y (List.mem_cons_of_mem _ hy))
    subst h0
    simp [le, h1]
theorem zeros_part {l : List Int} (h : Zeros l) (k m : Nat) : Zeros (part l k m) := fun x hx => h x (List.mem_of_mem_drop (List.mem_of_mem_take hx))
theorem leb1_part {l : List Int} (hb : Bytes l) {q : Nat} (hq : q + 1 ≤ l.length) : leb 1 (u8 l q) = part l q 1 := by
  have := leb_le (part_bytes hb q 1)
  rw [part_len hq] at this
  exact this
theorem nm_txt {l : List Int} (hb : Bytes l) : txt (nm l) = part l 6 (u8 l 5) := txt_str (part_bytes hb 6 (u8 l 5))
theorem nm_size {l : List Int} (hb : Bytes l) (hl : l.length = 64) (h : u8 l 5 ≤ 54) : (nm l).size = u8 l 5 := by
  rw [← txt_len, nm_txt hb, part_len (by omega)]

theorem ent_iff {l : List Int} (hb : Bytes l) (hl : l.length = 64) : EntryOk l ↔ (u8 l 5 ≤ 54 ∧ EFits (u32 l 0) (u8 l 4) (nm l) ∧ sealed (entBody (u32 l 0) (u8 l 4) (nm l)) = l) := by
  have hwhole : l = part l 0 60 ++ part l 60 4 := by
    have := part_split l 0 60 4
    rw [show 60 + 4 = l.length by omega, part_all] at this
    exact this
  constructor
  · rintro ⟨hs, h1, h2, h3⟩
    rw [u8_part l 5 (by omega)] at h1
    rw [u8_part l 5 (by omega), part_low' (by omega)] at h2
    rw [u8_part l 4 (by omega), u32_part l 0 (by omega), nm_part l h1] at h3
    refine ⟨h1, h3, ?_⟩
    have e : entBody (u32 l 0) (u8 l 4) (nm l) = part l 0 60 := by
      have hz := zeros_rep h2
      rw [part_len (by omega)] at hz
      unfold entBody
      rw [nm_size hb hl h1, nm_txt hb, leb_part hb (by omega), leb1_part hb (by omega), leb1_part hb (by omega), ← hz]
      rw [← part_split l 0 4 1, ← part_split l 0 (4 + 1) 1, ← part_split l 0 (4 + 1 + 1) (u8 l 5)]
      have := part_split l 0 (4 + 1 + 1 + u8 l 5) (54 - u8 l 5)
      rw [show 0 + (4 + 1 + 1 + u8 l 5) = 6 + u8 l 5 by omega, show 4 + 1 + 1 + u8 l 5 + (54 - u8 l 5) = 60 by omega] at this
      exact this.symm
    unfold sealed
    rw [e]
    unfold SumOk at hs
    rw [hl] at hs
    have h4 := leb_part hb (q := 60) (by omega)
    have h5 : u32 l 60 = sumOf (part l 0 60) := hs
    rw [← h5, h4]
    exact hwhole.symm
  · rintro ⟨h1, h3, he⟩
    have hsz := nm_size hb hl h1
    have hlen : (entBody (u32 l 0) (u8 l 4) (nm l)).length = 60 := entBody_len _ _ (by omega)
    have hb60 : part l 0 60 = entBody (u32 l 0) (u8 l 4) (nm l) := by
      conv => lhs; rw [← he]
      unfold sealed
      rw [part_appl _ _ _ _ (by omega)]
      have := part_all (entBody (u32 l 0) (u8 l 4) (nm l))
      rw [hlen] at this
      exact this
    have hsum : part l 60 4 = leb 4 (sumOf (entBody (u32 l 0) (u8 l 4) (nm l))) := by
      conv => lhs; rw [← he]
      unfold sealed
      rw [part_app _ _ _ _ hlen.symm, List.take_of_length_le (by rw [leb_len]; omega)]
    refine ⟨?_, ?_, ?_, ?_⟩
    · unfold SumOk
      rw [hl]
      show le (part l 60 4) = sumOf (part l 0 60)
      rw [hsum, hb60, le_leb _ _ (by have := sumOf_lt (entBody_bytes (u32 l 0) (u8 l 4) (nm l)); omega)]
    · rw [u8_part l 5 (by omega)]; exact h1
    · rw [u8_part l 5 (by omega), hb60]
      unfold entBody
      rw [part_app _ _ _ _ (by simp only [List.length_append, leb_len, txt_len]; omega), hsz]
      intro x hx
      exact (List.mem_replicate.1 (List.mem_of_mem_take hx)).2
    · rw [u8_part l 4 (by omega), u32_part l 0 (by omega), nm_part l h1]; exact h3

/-- The bytes are what the encoder makes of their own fields. -/
def okB (l : List Int) : Bool := decide (u8 l 5 ≤ 54) && decide (entEnc (u32 l 0) (u8 l 4) (nm l) = (l, 0))
theorem zeros_eq {l : List Int} (hl : l.length = 64) (h : Zeros l) : l = zeros64 := by
  have := zeros_rep h
  rw [hl] at this
  exact this
theorem fields_zero {l : List Int} (h : Zeros l) : u32 l 0 = 0 ∧ u8 l 4 = 0 ∧ u8 l 5 = 0 ∧ nm l = ⟨#[]⟩ := by
  have h5 : u8 l 5 = 0 := le_zeros (zeros_part h 5 1)
  refine ⟨le_zeros (zeros_part h 0 4), le_zeros (zeros_part h 4 1), h5, ?_⟩
  unfold nm
  rw [h5]
  simp [part, strOfNums]
theorem okB_zero {l : List Int} (hl : l.length = 64) (h : Zeros l) : okB l = true := by
  obtain ⟨e1, e2, e3, e4⟩ := fields_zero h
  unfold okB
  rw [e1, e2, e3, e4, zeros_eq hl h]
  have : entEnc ((0 : Nat) : Int) ((0 : Nat) : Int) ⟨#[]⟩ = (zeros64, 0) := by
    rcases entEnc_cases ((0 : Nat) : Int) ((0 : Nat) : Int) ⟨#[]⟩ with ⟨_, e⟩ | ⟨h, _⟩ | ⟨h, _⟩
    · exact e
    · exact absurd ⟨rfl, rfl, by decide +kernel⟩ h
    · exact absurd ⟨rfl, rfl, by decide +kernel⟩ h
  rw [this]
  simp
theorem okB_iff {l : List Int} (hb : Bytes l) (hl : l.length = 64) (hz : ¬ Zeros l) : okB l = true ↔ EntryOk l := by
  rw [ent_iff hb hl]
  unfold okB
  rw [Bool.and_eq_true, decide_eq_true_iff, decide_eq_true_iff]
  constructor
  · rintro ⟨h1, h2⟩
    refine ⟨h1, ?_⟩
    rcases entEnc_cases (u32 l 0) (u8 l 4) (nm l) with ⟨_, e⟩ | ⟨_, h, e⟩ | ⟨_, _, e⟩
    · rw [e] at h2
      have h3 : zeros64 = l := (Prod.mk.inj h2).1
      exact absurd (fun x hx => by rw [← h3] at hx; exact (List.mem_replicate.1 hx).2) hz
    · rw [e] at h2
      exact ⟨h, (Prod.mk.inj h2).1⟩
    · rw [e] at h2
      exact absurd (Prod.mk.inj h2).2 (by decide)
  · rintro ⟨h1, h2, h3⟩
    refine ⟨h1, ?_⟩
    rcases entEnc_cases (u32 l 0) (u8 l 4) (nm l) with ⟨⟨e, _⟩, _⟩ | ⟨_, h, e⟩ | ⟨_, h, e⟩
    · have := h2.1.1; omega
    · rw [e]; exact congrArg (fun x => (x, (0 : Int))) h3
    · exact absurd h2 h
/-- What a decoder of entries answers. -/
def entDec (l : List Int) : Int × Int × ByteArray × Int :=
  if l.length ≠ 64 then (0, 0, ⟨#[]⟩, 2) else if okB l then (u32 l 0, u8 l 4, nm l, 0) else (0, 0, ⟨#[]⟩, 6)
theorem entDec_len {l : List Int} (h : l.length ≠ 64) : entDec l = (0, 0, ⟨#[]⟩, 2) := by unfold entDec; rw [if_pos h]
theorem entDec_ok {l : List Int} (h : l.length = 64) (hk : okB l = true) : entDec l = (((u32 l 0 : Nat) : Int), ((u8 l 4 : Nat) : Int), nm l, 0) := by unfold entDec; rw [if_neg (by omega), if_pos hk]
theorem entDec_no {l : List Int} (h : l.length = 64) (hk : ¬ okB l = true) : entDec l = (0, 0, ⟨#[]⟩, 6) := by unfold entDec; rw [if_neg (by omega), if_neg hk]

end Go.Proofs.Ytkkmkogpbhcpmab
