import Derived.Test.YtalokopnagpgcaaDoorSHC
import Derived.Test.YtalokopnagpgcaaDoorLaysP
import Derived.Shelf.Pu.ToError
namespace Go.Proofs.YtalokopnagpgcaaDoor
open Go.RowKit Go.Maps

/-- The library's error stands where it stands. -/
def EV (w : World) : Prop := ∃ te pe, w.cell? ⟨3, 0, none⟩ = some (.iface te pe)
theorem EV.later {w w' : World} (h : EV w) (hb : Below w.heap.size w w') : EV w' := by
  obtain ⟨te, pe, h⟩ := h
  exact ⟨te, pe, cell_later hb h⟩
theorem parse_no (a b : UInt8) (h : hexN a.toNat = none ∨ hexN b.toNat = none) (w : World) (he : EV w) :
    Calls Tryd.prog 44 #[.string ⟨#[a, b]⟩, .int .i64 16, .int .i64 8] w fun e w' => ∃ t p, e = .returned (.tuple #[.int .u64 0, .iface t (.pointer (some p))]) ∧ Below w.heap.size w w' := by
  have hi := iparse_any a b w
  have hp : parse2 a.toNat b.toNat = .tuple #[.int .u64 0, .iface 80 (.int .i64 2)] := by
    unfold parse2
    cases ha : hexN a.toNat with
    | none => rfl
    | some x =>
      cases hb : hexN b.toNat with
      | none => rfl
      | some y =>
        rw [ha, hb] at h
        rcases h with h | h <;> cases h
  rw [hp] at hi
  have hto : ∀ w, EV w → Calls Tryd.prog 47 #[.string ⟨#[80, 97, 114, 115, 101, 85, 105, 110, 116]⟩, .string ⟨#[a, b]⟩, .int .i64 16, .int .i64 8, .iface 80 (.int .i64 2)] w fun e w' => ∃ t p, e = .returned (.iface t (.pointer (some p))) ∧ Below w.heap.size w w' := fun w hw => by
    obtain ⟨te, pe, hc⟩ := hw
    have h1 := AnyPu.strconv_toError_syntax (P := Tryd.prog) (ρ := Tryd.laysPu17_ren) Tryd.laysPu17 ⟨#[80, 97, 114, 115, 101, 85, 105, 110, 116]⟩ ⟨#[a, b]⟩ 16 8 (.iface te pe) w (show 2 ≤ 281474976710656 by omega) hc (.inr ⟨te, pe, rfl⟩)
    exact h1.mono fun e w' ⟨N, h2, _, _, h3⟩ => ⟨_, _, h2, h3⟩
  clear hp
  generalize (⟨#[a, b]⟩ : ByteArray) = s at *
  go_enter Tryd.func44, Tryd.ntmps44
  go_wp2_with fail
  refine hi.mono ?_
  rintro e w1 ⟨rfl, hb1⟩
  have hto1 := hto w1 (he.later hb1)
  have HB := Hid.mk hb1
  have hz := hb1.size
  clear hb1 hi hto
  go_wp2_with fail
  refine hto1.mono ?_
  rintro e w2 ⟨t, p, rfl, hb2⟩
  have HB2 := Hid.mk (HB.out.trans (hb2.mono hz))
  clear hb2 hto1
  go_wp2
  go_ret2
  exact ⟨_, _, rfl, HB2.out⟩
set_option maxRecDepth 20000 in
theorem hexa_no (s : ByteArray) (h : hexR s.data.toList = none) (w : World) (he : EV w) :
    Calls Tryd.prog 39 #[.string s] w fun e w' => ∃ r, e = .returned (.tuple #[.int .u8 0, .string r, .bool false]) ∧ Below w.heap.size w w' := by
  by_cases h2 : s.size < 2
  · have h2' : (s.size : Int) < 2 := by omega
    go_enter Tryd.func39, Tryd.ntmps39
    go_wp2
    go_ret3
    exact ⟨_, rfl, Below.refl _ _⟩
  · match hl : s.data.toList, h with
    | [], h =>
      have := len_size s
      rw [hl] at this
      simp at this
      omega
    | [_], h =>
      have := len_size s
      rw [hl] at this
      simp at this
      omega
    | a :: b :: r', h =>
      have e2 := ext_to s 2
      have e0 := ext_from s 2
      rw [hl] at e2 e0
      simp only [List.drop_succ_cons, List.drop_zero, List.take_succ_cons, List.take_zero] at e2 e0
      have hor : hexN a.toNat = none ∨ hexN b.toNat = none := by
        have h' : hexR (a :: b :: r') = none := h
        cases ha : hexN a.toNat with
        | none => exact .inl rfl
        | some x =>
          cases hb : hexN b.toNat with
          | none => exact .inr rfl
          | some y => simp [hexR, ha, hb] at h'
      have hp := parse_no a b hor w he
      have hge : ¬ ((s.size : Int) < 2) := by omega
      have hge2 : (2 : Int) ≤ (s.size : Int) := by omega
      clear h hl h2 hor
      go_enter Tryd.func39, Tryd.ntmps39
      go_wp2_with fail
      refine hp.mono ?_
      rintro e w1 ⟨t, p, rfl, hb1⟩
      have HB := Hid.mk hb1
      clear hb1 hp
      go_wp2
      go_region
      go_wp2
      go_ret3
      exact ⟨_, rfl, below_drew HB.out⟩
end Go.Proofs.YtalokopnagpgcaaDoor
