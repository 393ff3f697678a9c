import Derived.Test.YtllkjmbcjlbmbaaGreatW05
import Derived.ProofKit
import Derived.OpenShut
import Derived.ShutString
import Derived.ChangeOld
import Derived.SizedLaws
import Derived.Deep.Slices
import Derived.Deep.Light
import Derived.Deep.MidRow
import Derived.Deep.Quiet
import Derived.BigQuiet
import Derived.OwnWalk
import Derived.RegionTactic
import Derived.BigRegion
import Derived.Deep.RegionLaw
section
namespace Go.Proofs.YtllkjmbcjlbmbaaGreat

/-- One byte mixed with w. -/
def sxor (s : List Int) (k w : Nat) : List Int := s.set k (((s.getD k 0).toNat ^^^ w : Nat) : Int)
theorem sxor_len (s : List Int) (k w : Nat) : (sxor s k w).length = s.length := by simp [sxor]
theorem byte_xor {x : Int} (hx : 0 ≤ x ∧ x < 256) {w : Nat} (hw : w < 256) : x.toNat ^^^ w < 256 := by
  have : x.toNat ^^^ w < 2 ^ 8 := Nat.xor_lt_two_pow (by omega) (by omega)
  omega
theorem sxor_bytes {s : List Int} (h : Bytes s) (k : Nat) {w : Nat} (hw : w < 256) : Bytes (sxor s k w) := by
  intro x hx
  rcases List.mem_or_eq_of_mem_set hx with h1 | h1
  · exact h x h1
  · subst h1
    have := byte_xor (h.getD k) hw
    omega
theorem sxor_zero {s : List Int} (h : Bytes s) (k : Nat) (hk : k < s.length) : sxor s k 0 = s := by
  have hb := h.getD k
  unfold sxor
  rw [Nat.xor_zero, Int.toNat_of_nonneg hb.1]
  have : s.getD k 0 = s[k] := by simp [List.getD, hk]
  rw [this]; exact List.set_getElem_self hk
theorem cwl_xor {s : List Int} (hs : s.length = 512) (h : Bytes s) (k w : Nat) (h1 : 1 ≤ k) (h2 : k ≤ 510) (hw : w < 256) : le (cwl (sxor s k w)) = le (cwl s) ^^^ 2 ^ (8 * phi k) * w := by
  have hf := phi_lt h1 h2
  have hb := byte_xor (h.getD k) hw
  unfold sxor
  rw [cwl_set hs _ h1 h2, le_set (cwl_bytes h) _ _ (by omega) (by rw [cwl_len]; exact hf)]
  have e : (cwl s).getD (phi k) 0 = s.getD k 0 := by
    have e2 : psi (phi k) = k := by unfold psi phi; repeat (first | omega | split)
    rw [List.getD, cwl, List.getElem?_map, List.getElem?_range hf]
    show s.getD (psi (phi k)) 0 = _
    rw [e2]
  rw [e, Int.toNat_natCast, ← Nat.xor_assoc, Nat.xor_self, Nat.zero_xor]
/-- Four neighbouring bytes mixed. -/
def sburst (s : List Int) (k w0 w1 w2 w3 : Nat) : List Int := sxor (sxor (sxor (sxor s k w0) (k + 1) w1) (k + 2) w2) (k + 3) w3
theorem burst {s body : List Int} (h : sopen s = some body) (hs : s.length = 512) (hb : Bytes s) {k w0 w1 w2 w3 : Nat} (h0 : w0 < 256) (h1 : w1 < 256) (h2 : w2 < 256) (h3 : w3 < 256) (k1 : 7 ≤ k) (k2 : k ≤ 507) :
    sopen (sburst s k w0 w1 w2 w3) = none ∨ sburst s k w0 w1 w2 w3 = s := by
  by_cases hw : w0 = 0 ∧ w1 = 0 ∧ w2 = 0 ∧ w3 = 0
  · obtain ⟨rfl, rfl, rfl, rfl⟩ := hw
    right
    unfold sburst
    rw [sxor_zero hb _ (by omega), sxor_zero hb _ (by omega), sxor_zero hb _ (by omega), sxor_zero hb _ (by omega)]
  · left
    refine none_of fun b' h' => hw ?_
    have b1 := sxor_bytes hb k h0
    have b2 := sxor_bytes b1 (k + 1) h1
    have b3 := sxor_bytes b2 (k + 2) h2
    have b4 := sxor_bytes b3 (k + 3) h3
    have l1 := (sxor_len s k w0).trans hs
    have l2 := (sxor_len _ (k + 1) w1).trans l1
    have l3 := (sxor_len _ (k + 2) w2).trans l2
    have l4 := (sxor_len _ (k + 3) w3).trans l3
    have hz := sopen_two h hs hb h' l4 b4
    unfold sburst at hz
    rw [cwl_xor l3 b3 _ _ (by omega) (by omega) h3, cwl_xor l2 b2 _ _ (by omega) (by omega) h2, cwl_xor l1 b1 _ _ (by omega) (by omega) h1, cwl_xor hs hb _ _ (by omega) (by omega) h0] at hz
    have f0 : phi k = k - 5 := by unfold phi; repeat (first | omega | split)
    have f1 : phi (k + 1) = k - 5 + 1 := by unfold phi; repeat (first | omega | split)
    have f2 : phi (k + 2) = k - 5 + 2 := by unfold phi; repeat (first | omega | split)
    have f3 : phi (k + 3) = k - 5 + 3 := by unfold phi; repeat (first | omega | split)
    rw [f0, f1, f2, f3] at hz
    have hm : ∀ j a : Nat, 2 ^ (8 * (k - 5 + j)) * a = 2 ^ (8 * (k - 5)) * (2 ^ (8 * j) * a) := fun j a => by
      rw [← Nat.mul_assoc, ← Nat.pow_add, Nat.mul_add]
    rw [hm 1, hm 2, hm 3] at hz
    simp only [← Nat.xor_assoc, Nat.xor_self, Nat.zero_xor] at hz
    rw [← mul_xor, ← mul_xor, ← mul_xor] at hz
    rw [show 4080 = 8 * (k - 5) + (4080 - 8 * (k - 5)) by omega, cbs_add, cbs_pow] at hz
    have e : w0 ^^^ 2 ^ (8 * 1) * w1 ^^^ 2 ^ (8 * 2) * w2 ^^^ 2 ^ (8 * 3) * w3 = w0 + 256 * w1 + 65536 * w2 + 16777216 * w3 := by
      rw [← add_xor (8 * 1) w1 w0 (by omega), ← add_xor (8 * 2) w2 _ (by omega), ← add_xor (8 * 3) w3 _ (by omega)]
    rw [e] at hz
    have := cbs_none _ (by omega) hz
    omega

theorem ends_none {m : List Int} (hm : m.length = 512) (h : m.getD 0 0 ≠ m.getD 511 0) : sopen m = none :=
  none_of fun _ h' => h (sopen_ends h' hm).symm
/-- What a torn write leaves. -/
def smix (a b : List Int) (c : Nat) : List Int := a.take c ++ b.drop c
theorem smix_len {a b : List Int} (ha : a.length = 512) (hb : b.length = 512) {c : Nat} (hc : c ≤ 512) : (smix a b c).length = 512 := by simp [smix]; omega
theorem smix_bytes {a b : List Int} (ha : Bytes a) (hb : Bytes b) (c : Nat) : Bytes (smix a b c) := (ha.take c).append (hb.drop c)
theorem smix_first {a b : List Int} (ha : a.length = 512) {c : Nat} (h0 : 0 < c) : (smix a b c).getD 0 0 = a.getD 0 0 := by
  rw [smix, List.getD, List.getElem?_append_left (by simp; omega), List.getElem?_take, if_pos h0]; rfl
theorem smix_last {a b : List Int} (ha : a.length = 512) {c : Nat} (h1 : c < 512) : (smix a b c).getD 511 0 = b.getD 511 0 := by
  rw [smix, List.getD, List.getElem?_append_right (by simp; omega), List.getElem?_drop]
  simp only [List.length_take, ha, List.getD]
  rw [show c + (511 - min c 512) = 511 by omega]
theorem smix_zero (a b : List Int) : smix a b 0 = b := by simp [smix]
theorem smix_all {a b : List Int} (ha : a.length = 512) (hb : b.length = 512) : smix a b 512 = a := by
  simp [smix, List.take_of_length_le (Nat.le_of_eq ha), List.drop_eq_nil_of_le (Nat.le_of_eq hb)]
theorem torn {o : List Int} (ho : o.length = 512) {t : Int} (h0 : t ≠ o.getD 0 0) (h1 : t ≠ o.getD 511 0) {body : List Int} (hl : body.length ≤ 504) {c : Nat} (hc : c ≤ 512) :
    (smix o (sform t body) c = o ∨ smix o (sform t body) c = sform t body ∨ sopen (smix o (sform t body) c) = none) ∧
    (smix (sform t body) o c = o ∨ smix (sform t body) o c = sform t body ∨ sopen (smix (sform t body) o c) = none) := by
  have hf := sform_len (t := t) hl
  by_cases c0 : c = 0
  · subst c0; exact ⟨.inr (.inl (smix_zero _ _)), .inl (smix_zero _ _)⟩
  · by_cases c1 : c = 512
    · subst c1; exact ⟨.inl (smix_all ho hf), .inr (.inl (smix_all hf ho))⟩
    · refine ⟨.inr (.inr (ends_none (smix_len ho hf hc) ?_)), .inr (.inr (ends_none (smix_len hf ho hc) ?_))⟩
      · rw [smix_first ho (by omega), smix_last ho (by omega), sform_last t body hl]; exact fun h => h0 h.symm
      · rw [smix_first hf (by omega), smix_last hf (by omega), sform_first]; exact h1

theorem bytes8_eq (n : Nat) : bytes8 n = [((n % 256 : Nat) : Int), ((n / 256 % 256 : Nat) : Int), ((n / 65536 % 256 : Nat) : Int), ((n / 16777216 % 256 : Nat) : Int), ((n / 4294967296 % 256 : Nat) : Int), ((n / 1099511627776 % 256 : Nat) : Int), ((n / 281474976710656 % 256 : Nat) : Int), ((n / 72057594037927936 % 256 : Nat) : Int)] := by
  simp [bytes8, List.range, List.range.loop]
theorem bytes8_len (n : Nat) : (bytes8 n).length = 8 := by simp [bytes8]
theorem bytes8_bytes (n : Nat) : Bytes (bytes8 n) := by
  intro x hx
  obtain ⟨j, _, rfl⟩ := List.mem_map.1 hx
  omega
theorem le_bytes8 {n : Nat} (h : n < 18446744073709551616) : le (bytes8 n) = n := by
  rw [bytes8_eq]
  simp only [le, Int.toNat_natCast]
  omega
theorem sanchor_form {t : Int} (ht : t ≤ 2) {n : Nat} (hn : n < 9223372036854775808) {data : List Int} (hd : data.length ≤ 496) : sanchor (sform t (bytes8 n ++ data)) = (n, data) := by
  have h8 := bytes8_len n
  unfold sanchor
  rw [sopen_form _ _ (by simp [h8]; omega) ht]
  simp only [List.take_left' h8, List.drop_left' h8, le_bytes8 (show n < 18446744073709551616 by omega)]
  rw [if_pos ⟨by simp [h8], hn⟩]
theorem sanchor_none {s : List Int} (h : sopen s = none) : sanchor s = (0, []) := by simp [sanchor, h]

/-- The pair with s in that slot. -/
def sput (l r : List Int) (slot : Nat) (s : List Int) : List Int × List Int := if slot = 0 then (s, r) else (l, s)
theorem pair_new {l r data : List Int} (hl : l.length = 512) (hr : r.length = 512) {n : Nat} (hn : n < 9223372036854775808) (h1 : 1 ≤ n) (hd : data.length ≤ 496) (hgt : (snewest l r).2.1 < n) {t : Int} (ht : t ≤ 2) (slot : Nat)
    (hs : slot = if (snewest l r).2.2.2 = 0 ∧ (snewest l r).1 = 0 then 1 else 0) :
    snewest (sput l r slot (sform t (bytes8 n ++ data))).1 (sput l r slot (sform t (bytes8 n ++ data))).2 = (slot, n, data, 0) := by
  have ha := sanchor_form ht hn hd
  have hf : (sform t (bytes8 n ++ data)).length = 512 := sform_len (by simp [bytes8_len]; omega)
  generalize sform t (bytes8 n ++ data) = s at *
  have e : snewest l r = if (sanchor l).1 = 0 ∧ (sanchor r).1 = 0 then (0, 0, [], 30) else if (sanchor l).1 < (sanchor r).1 then (1, (sanchor r).1, (sanchor r).2, 0) else (0, (sanchor l).1, (sanchor l).2, 0) := by
    unfold snewest; rw [if_neg (by omega)]
  rw [e] at hs hgt
  by_cases z : (sanchor l).1 = 0 ∧ (sanchor r).1 = 0
  · rw [if_pos z] at hs hgt
    have : slot = 0 := by rw [hs]; rfl
    subst this
    simp only [sput, if_true, snewest]
    rw [if_neg (by omega), ha, if_neg (by simp; omega), if_neg (by simp; omega)]
  · rw [if_neg z] at hs hgt
    by_cases q : (sanchor l).1 < (sanchor r).1
    · rw [if_pos q] at hs hgt
      have : slot = 0 := by rw [hs]; rfl
      subst this
      simp only [sput, if_true, snewest]
      rw [if_neg (by omega), ha, if_neg (by simp; omega), if_neg (by simp at hgt ⊢; omega)]
    · rw [if_neg q] at hs hgt
      have : slot = 1 := by rw [hs]; rfl
      subst this
      have h10 : ¬ (1 : Nat) = 0 := by omega
      simp only [sput, if_neg h10, snewest]
      rw [if_neg (by omega), ha, if_neg (by simp; omega), if_pos (by simp at hgt ⊢; omega)]
theorem pair_old {l r m : List Int} (hl : l.length = 512) (hr : r.length = 512) (hm : m.length = 512) (hnone : sanchor m = (0, [])) (slot : Nat)
    (hs : slot = if (snewest l r).2.2.2 = 0 ∧ (snewest l r).1 = 0 then 1 else 0) : snewest (sput l r slot m).1 (sput l r slot m).2 = snewest l r := by
  have e : snewest l r = if (sanchor l).1 = 0 ∧ (sanchor r).1 = 0 then (0, 0, [], 30) else if (sanchor l).1 < (sanchor r).1 then (1, (sanchor r).1, (sanchor r).2, 0) else (0, (sanchor l).1, (sanchor l).2, 0) := by
    unfold snewest; rw [if_neg (by omega)]
  rw [e] at hs
  rw [e]
  by_cases z : (sanchor l).1 = 0 ∧ (sanchor r).1 = 0
  · rw [if_pos z] at hs ⊢
    have : slot = 0 := by rw [hs]; rfl
    subst this
    simp only [sput, if_true, snewest]
    rw [if_neg (by omega), hnone, if_pos ⟨rfl, z.2⟩]
  · rw [if_neg z] at hs ⊢
    by_cases q : (sanchor l).1 < (sanchor r).1
    · rw [if_pos q] at hs ⊢
      have : slot = 0 := by rw [hs]; rfl
      subst this
      simp only [sput, if_true, snewest]
      rw [if_neg (by omega), hnone, if_neg (by simp; omega), if_pos (by simp; omega)]
    · rw [if_neg q] at hs ⊢
      have : slot = 1 := by rw [hs]; rfl
      subst this
      have h10 : ¬ (1 : Nat) = 0 := by omega
      simp only [sput, if_neg h10, snewest]
      rw [if_neg (by omega), hnone, if_neg (by simp; omega), if_neg (by simp)]
end Go.Proofs.YtllkjmbcjlbmbaaGreat
end

section
namespace Go.Proofs.YtllkjmbcjlbmbaaGreat
open Go.ChangeShapes Go.WideShapes Go.ChangeAt Go.RowKit Go.Deep

theorem ownKnobs : ownKnob Tryz.prog.godebug = none := by kernel_rfl
theorem laidOut : laidOutB Tryz.prog = true := by kernel_rfl
theorem bytesU8 : Tryz.prog.bytesOf 5 = 1 := by kernel_rfl
theorem cellsU8 : Tryz.prog.cellsOf 5 = 1 := by kernel_rfl
theorem cellsInt : Tryz.prog.cellsOf 3 = 1 := by kernel_rfl
theorem cellsBytes : Tryz.prog.cellsOf 35 = 1 := by kernel_rfl

/-- An int's bounds. -/
def I64 (n : Int) : Prop := -9223372036854775808 ≤ n ∧ n ≤ 9223372036854775807
theorem int_wf {n : Int} (h : (Lit.int .i64 n).wf = true) : I64 n := by
  have := h
  simp [Lit.wf, IntKind.min, IntKind.max, IntKind.bits, IntKind.signed] at this
  unfold I64
  omega
theorem u8_wf {n : Int} (h : (Lit.int .u8 n).wf = true) : 0 ≤ n ∧ n < 256 := by
  have := h
  simp [Lit.wf, IntKind.min, IntKind.max, IntKind.bits, IntKind.signed] at this
  omega

section
variable {H : Type} {enc : TypeId × Value → H} {W : World} {base : Nat} {spare : Nat → Bool} {held : Bool}

theorem weightsAll_mem {P : Program} {e : TypeId} {n : Nat} : ∀ {ds : List (DataW H)} {d : DataW H}, d ∈ ds → n ∈ d.weights P e → n ∈ DataW.weightsAll P e ds
  | d :: r, d', hd, hn => by
    rw [DataW.weightsAll]
    rcases List.mem_cons.1 hd with rfl | h
    · exact List.mem_append_left _ hn
    · exact List.mem_append_right _ (weightsAll_mem h hn)

theorem trod3 {P : Program} {e : TypeId} {f0 f1 f2 : Field} {n : Nat} {cs : List Value} {x : DataW H × List MemPlace} (he : P.underlying e = some (.struct #[f0, f1, f2])) (ce : P.cellsOf e = 3) (o0 : f0.offset = 0) (o1 : f1.offset = 1) (o2 : f2.offset = 2)
    (c0 : P.cellsOf f0.type = 1) (c1 : P.cellsOf f1.type = 1) (c2 : P.cellsOf f2.type = 1) (h : DataW.trod enc P W base spare held n e cs = some x) :
    ∃ v0 v1 v2 y0 y1 y2 k, cs = [v0, v1, v2] ∧ x.1 = .agg [y0.1, y1.1, y2.1] ∧ DataW.trod enc P W base spare held k f0.type [v0] = some y0 ∧ DataW.trod enc P W base spare held k f1.type [v1] = some y1 ∧ DataW.trod enc P W base spare held k f2.type [v2] = some y2 := by
  obtain ⟨xs, k, _, hxy, hlen, hxl, hf⟩ := DataW.trod_struct he h
  rw [ce] at hlen
  match xs, hxl, cs, hlen with
  | [y0, y1, y2], _, [v0, v1, v2], _ =>
    have g0 := hf 0 f0 rfl
    have g1 := hf 1 f1 rfl
    have g2 := hf 2 f2 rfl
    simp [o0, o1, o2, c0, c1, c2] at g0 g1 g2
    exact ⟨v0, v1, v2, y0, y1, y2, k, rfl, by rw [hxy]; rfl, g0, g1, g2⟩

theorem open_bytes {fuel : Nat} {v : Value} {d : DataW H} {pl : List MemPlace} (h : DataW.trod enc Tryz.prog W base spare held fuel 35 [v] = some (d, pl)) (hw : ∀ n ∈ d.weights Tryz.prog 35, n ≤ reachBytes) :
    ∃ a n c l, v = .slice a n c ∧ Src W a n l ∧ Bytes l ∧ n ≤ c ∧ n ≤ 140737488355328 := by
  rcases open_ints Tryz.underlying35 Tryz.underlying5 cellsU8 h with ⟨hcs, _⟩ | ⟨x, l, c, zs, hcs, _, hl, hm, hz, hd, hcell, hwz⟩
  · simp only [List.cons.injEq, and_true] at hcs
    exact ⟨none, 0, 0, [], hcs, ⟨rfl, fun _ => rfl, fun x hx => by cases hx⟩, (fun x hx => by cases hx), Nat.le_refl _, Nat.zero_le _⟩
  · simp only [List.cons.injEq, and_true] at hcs
    simp only [Prod.mk.injEq] at hd
    obtain ⟨rfl, rfl⟩ := hd
    have hzl : l ≤ zs.length := by rw [hz]; split <;> omega
    have h1 := hw ((((lits IntKind.u8 (zs.take l) : List (DataW H))).length + ((lits IntKind.u8 (zs.drop l) : List (DataW H))).length) * Tryz.prog.bytesOf 5) (by simp [DataW.weights, Tryz.underlying35])
    rw [bytesU8] at h1
    simp only [lits, List.length_map, List.length_take, List.length_drop, reachBytes] at h1
    refine ⟨some x, l, c, zs.take l, hcs, ⟨by simp; omega, (fun h => by cases h), fun y hy i hi => ?_⟩, fun z hz => u8_wf (hwz z (List.mem_of_mem_take hz)), hl, by omega⟩
    cases hy
    rw [hcell i (by omega)]
    simp [List.getD, hi]
end
end Go.Proofs.YtllkjmbcjlbmbaaGreat
end

section
namespace Go.Proofs.YtllkjmbcjlbmbaaGreat
open Go.RowKit

/-- The table. -/
def tab : List Value := (List.range 16).map (fun j => Value.int .u32 ((cbs 4 j : Nat) : Int))
theorem tab_len : tab.length = 16 := by simp [tab]
theorem tab_one : ∀ v ∈ tab, v.oneCell' = true := by
  intro v hv
  obtain ⟨j, _, rfl⟩ := List.mem_map.1 hv
  rfl
theorem infoTab : (Tryz.prog.info? 172).map (·.size) = some tab.length := by rw [tab_len]; kernel_rfl

theorem bit1 (r : Nat) (hr : r < 4294967296) : bits .and .u32 (r : Int) 1 = ((r % 2 : Nat) : Int) := by
  have := u32_and_nat r 1 hr (by omega)
  rw [Nat.and_one_is_mod] at this
  exact this
theorem cb_bits (r : Nat) (hr : r < 4294967296) : bits .xor .u32 ((r : Int) / 2) (2197175160 * ((r : Int) % 2)) = ((cb r : Nat) : Int) := by
  have e1 : ((r : Int) / 2) = ((r / 2 : Nat) : Int) := by omega
  have e2 : (2197175160 * ((r : Int) % 2)) = (((if r % 2 = 1 then 2197175160 else 0) : Nat) : Int) := by
    split <;> omega
  rw [e1, e2, u32_xor_nat _ _ (by omega) (by split <;> omega)]
  rfl

theorem Keeps.setCells {F : Nat → Prop} {b : Nat} (hb : F b) : ∀ (vs : List Value) (o : Nat) (w : World), Keeps F w (w.setCells b o vs)
  | [], _, w => Keeps.refl F w
  | v :: r, o, w => (Keeps.setCell (p := ⟨b, o, none⟩) w hb v).trans (Keeps.setCells hb r (o + 1) _) (fun _ h => .inl h)
theorem size_setCells {b : Nat} : ∀ (vs : List Value) (o : Nat) (w : World), (w.setCells b o vs).heap.size = w.heap.size
  | [], _, _ => rfl
  | v :: r, o, w => by simp only [World.setCells]; rw [size_setCells r]; simp [World.setCell]

theorem results_cell_mid {P : Program} {fn : Func} {p : Tmp} {ty : TypeId} (h : fn.results = #[.cell p ty]) (tmps : Array Value) (w : World) (g : Nat) (cs : List Value) (d : TypeDesc)
    (hp : tmps.getD p undef = .pointer (some ⟨g, 0, none⟩)) (hg : w.rangeAt g 0 cs) (hu : P.underlying ty = some d) (hd : d.isRow = true) (hi : (P.info? ty).map (·.size) = some cs.length) :
    (results fn tmps).run P w = .ok (.agg cs.toArray) w := by
  have hp' : tmps[p]?.getD undef = .pointer (some ⟨g, 0, none⟩) := by simpa using hp
  simp [results, h, hp', asAddr, run_loadVar_mid w g 0 ty cs d hg hu hd hi]

/-- What halves' outer loop keeps. -/
def Half (w wr : World) (k : Nat) : Prop :=
  Below w.heap.size w wr ∧ wr.heap.size = w.heap.size + 2 ∧ (∃ cur : Array Value, cur.size = 16 ∧ wr.heap[w.heap.size]? = some (.cells cur 172 (0, 0))) ∧
    ∃ cs : List Int, cs.length = 16 ∧ wr.heap[w.heap.size + 1]? = some (.cells (cs.map (Value.int .u32)).toArray 172 (0, 0)) ∧ ∀ j, j < k → cs[j]? = some ((cbs 4 j : Nat) : Int)

theorem Half.next {w wr : World} {k : Nat} (h : Half w wr k) (hk : k < 16) : (∃ v, wr.cell? ⟨w.heap.size + 1, k, none⟩ = some (.int .u32 v)) ∧ wr.frozen? ⟨w.heap.size + 1, k, none⟩ = false ∧
    Half w (wr.setCell ⟨w.heap.size + 1, k, none⟩ (.int .u32 ((cbs 4 k : Nat) : Int))) (k + 1) := by
  obtain ⟨hb, hs, ⟨cur, hc, hcb⟩, cs, hl, hblk, hcs⟩ := h
  have hkl : k < cs.length := by omega
  refine ⟨⟨cs[k], cell_of_block hblk (by simp [hkl])⟩, frozen_of_block hblk k, ?_, ?_, ⟨cur, hc, ?_⟩, cs.set k ((cbs 4 k : Nat) : Int), by simp [hl], ?_, ?_⟩
  · exact hb.trans ((Keeps.setCell (F := fun j => j = w.heap.size + 1) (p := ⟨w.heap.size + 1, k, none⟩) wr rfl _).below (fun j hj => by omega) (by omega))
  · simpa [World.setCell] using hs
  · rw [Below.heap_setCell _ _ _ _ (by simp)]; exact hcb
  · rw [heap_setCell_same _ _ _ _ _ _ hblk]
    congr 2
    apply Array.ext'
    simp [List.map_set]
  · intro j hj
    by_cases e : j = k
    · subst e; simp [hkl]
    · rw [List.getElem?_set_ne (by omega)]; exact hcs j (by omega)

theorem Half.done {w wr : World} (h : Half w wr 16) : wr.rangeAt (w.heap.size + 1) 0 tab ∧ wr.there w.heap.size 0 tab.length := by
  obtain ⟨hb, hs, ⟨cur, hc, hcb⟩, cs, hl, hblk, hcs⟩ := h
  constructor
  · intro j v hv
    have hj : j < 16 := by
      have := (List.getElem?_eq_some_iff.1 hv).1
      rwa [tab_len] at this
    rw [Nat.zero_add]
    refine cell_of_block hblk ?_
    rw [← hv]
    simp [tab, hcs j hj, hj]
  · intro j hj
    rw [tab_len] at hj
    rw [Nat.zero_add]
    exact ⟨by rw [cell_of_block hcb (j := j) (u := cur[j]'(by omega)) (by simp [show j < cur.size by omega])]; rfl, frozen_of_block hcb j⟩

set_option maxHeartbeats 2000000 in
theorem halves_any (w : World) :
    Calls Tryz.prog 117 #[] w fun e w' => e = .returned (.agg tab.toArray) ∧ Below w.heap.size w w' := by
  go_enter Tryz.func117, Tryz.ntmps117
  go_wp2
  go_loopw [5] (fun i wr => ∃ k : Nat, k ≤ 16 ∧ i = .int .i64 k ∧ Half w wr k) (fun i _ => 16 - (intOf i).toNat)
  case atStart =>
    refine ⟨0, Nat.zero_le _, rfl, Below.alloc (Below.alloc (Below.refl _ _) (Nat.le_refl _) _) (by simp) _, by simp, ⟨_, ?_, heap_alloc2_old _ _ _⟩, List.replicate 16 0, by simp, ?_, fun j hj => by omega⟩
    · rfl
    · rw [heap_alloc2_new]; rfl
  case round =>
    obtain ⟨k, hk, rfl, hhalf⟩ := hrel
    by_cases hlt : k < 16
    · have hlt' : (k : Int) < 16 := by omega
      obtain ⟨⟨v0, hc⟩, hf, hnext⟩ := hhalf.next hlt
      have HN := Hid.mk hnext
      clear hnext hhalf
      go_wp2
      go_loopw [3, 10] (fun r i wx => ∃ m : Nat, m ≤ 4 ∧ i = .int .i64 m ∧ wx = wr ∧ r = .int .u32 ((cbs m k : Nat) : Int)) (fun _ i _ => 4 - (intOf i).toNat)
      case atStart => exact ⟨0, Nat.zero_le _, rfl, rfl, rfl⟩
      case round =>
        obtain ⟨m, hm, rfl, rfl, rfl⟩ := hrel
        have hr : cbs m k < 4294967296 := cbs_lt m (by omega)
        by_cases hlm : m < 4
        · have hlm' : (m : Int) < 4 := by omega
          have hb1 := bit1 (cbs m k) hr
          have hb2 := Hid.mk (cb_bits (cbs m k) hr)
          have hb3 : cb (cbs m k) = cbs (m + 1) k := by rw [cbs_add]; rfl
          have Hb3 := Hid.mk hb3
          clear hb3
          go_wp2
          go_roundw
          case rel => exact ⟨m + 1, by omega, by go_num, trivial, by rw [← Hb3.out, ← hb2.out]⟩
          case measure => simp [intOf]; omega
        · have hlm' : ¬ (m : Int) < 4 := by omega
          have hm4 : m = 4 := by omega
          subst hm4
          go_wp2
          go_roundw
          case rel => exact ⟨k + 1, by omega, by go_num, HN.out⟩
          case measure => simp [intOf]; omega
    · have hlt' : ¬ (k : Int) < 16 := by omega
      have hk16 : k = 16 := by omega
      subst hk16
      obtain ⟨hra, hth⟩ := hhalf.done
      have hbel := hhalf.1
      have hrs := Hid.mk (World.rangeAt_setCells_same wr w.heap.size 0 tab hth)
      have hall := all_oneCell_toArray tab_one
      have hb2 : Hid (Below w.heap.size w (wr.setCells w.heap.size 0 tab)) := hbel.trans ((Keeps.setCells (F := fun j => j = w.heap.size) rfl tab 0 wr).below (fun j hj => by omega) hbel.size)
      clear hhalf
      go_wp2_with (first | refine wpList_load_mid rfl 172 _ rfl (w.heap.size + 1) 0 rfl tab _ hra Tryz.underlying172 rfl infoTab ?_ | refine wpList_store_mid rfl 172 _ _ rfl w.heap.size 0 tab.toArray rfl rfl ?h1 ?h2 hall ?_)
      case h2 => exact Option.map_eq_some_iff.1 infoTab
      exact bodyPost_ret (results_cell_mid (P := Tryz.prog) rfl _ _ w.heap.size tab _ rfl hrs.out Tryz.underlying172 rfl infoTab) rfl ⟨rfl, hb2.out⟩

theorem tab_at {w : World} {g : Nat} (hg : w.heap[g]? = some (.cells tab.toArray 172 (0, 0))) (i : Nat) (hi : i < 16) : w.cell? ⟨g, i, none⟩ = some (.int .u32 ((cbs 4 i : Nat) : Int)) :=
  cell_of_block hg (by simp [tab, hi])
theorem and15 (r : Nat) (hr : r < 4294967296) : bits .and .u32 (r : Int) 15 = ((r % 16 : Nat) : Int) := by
  have := u32_and_nat r 15 hr (by omega)
  rw [show (15 : Nat) = 2 ^ 4 - 1 from rfl, Nat.and_two_pow_sub_one_eq_mod] at this
  exact this
theorem nib_bits (r : Nat) (hr : r < 4294967296) : bits .xor .u32 ((r : Int) / 16) ((cbs 4 (r % 16) : Nat) : Int) = ((cbs 4 r : Nat) : Int) := by
  have e1 : ((r : Int) / 16) = ((r / 16 : Nat) : Int) := by omega
  rw [e1, u32_xor_nat _ _ (by omega) (cbs_lt 4 (by omega)), ← cbs_nib]

set_option maxHeartbeats 2000000 in
theorem through_low (b o n c : Nat) (l : List Int) (w : World) (hb : Bytes l) (hl : l.length = n) (hn : n ≤ 140737488355328) (hs : ∀ i, i < n → w.cell? ⟨b, o + i, none⟩ = some (.int .u8 (l.getD i 0))) :
    Calls Tryz.prog 116 #[.agg tab.toArray, .int .u32 4294967295, .slice (some ⟨b, o, none⟩) n c] w fun e w' => e = .returned (.int .u32 ((crc 4294967295 l : Nat) : Int)) ∧ Below w.heap.size w w' := by
  have Hs := Hid.mk hs
  clear hs
  go_enter Tryz.func116, Tryz.ntmps116
  go_wp2
  go_loopw [1, 11] (fun r i wr => ∃ k : Nat, k ≤ n ∧ i = .int .i64 k ∧ wr = w.alloc (.cells tab.toArray 172) ∧ r = .int .u32 ((crc 4294967295 (l.take k) : Nat) : Int)) (fun _ i _ => n - (intOf i).toNat)
  case atStart => exact ⟨0, Nat.zero_le _, rfl, rfl, by simp [crc_nil]⟩
  case round =>
    obtain ⟨k, hk, rfl, rfl, rfl⟩ := hrel
    by_cases hlt : k < n
    · have hlt' : (k : Int) < (n : Int) := by omega
      have hc : (w.alloc (.cells tab.toArray 172)).cell? ⟨b, o + k, none⟩ = some (.int .u8 (l.getD k 0)) := Lib.cell?_alloc_some _ (Hs.out k hlt)
      have hcb : b < w.heap.size := World.block_lt_of_cell? _ _ (Hs.out k hlt)
      have htab : (w.alloc (.cells tab.toArray 172)).heap[w.heap.size]? = some (.cells tab.toArray 172 (0, 0)) := heap_alloc_new _ _
      have hkl : k < l.length := by omega
      obtain ⟨x, hx, hx1⟩ : ∃ x : Nat, l.getD k 0 = (x : Int) ∧ x < 256 := by
        have := hb l[k] (List.getElem_mem hkl)
        refine ⟨(l.getD k 0).toNat, ?_, ?_⟩ <;> simp [List.getD, hkl] <;> omega
      have htk : Bytes (l.take k) := fun y hy => hb y (List.mem_of_mem_take hy)
      have hr : crc 4294967295 (l.take k) < 4294967296 := crc_lt (by omega) htk
      have hsn : crc 4294967295 (l.take (k + 1)) = cbs 8 (crc 4294967295 (l.take k) ^^^ x) := by
        rw [List.take_succ_eq_append_getElem hkl, crc_snoc _ _ htk]
        congr 2
        have : l.getD k 0 = l[k] := by simp [List.getD, hkl]
        rw [← this, hx]; simp
      have Hsn := Hid.mk hsn
      rw [hx] at hc
      generalize hR : crc 4294967295 (l.take k) = R at *
      have hq : R ^^^ x < 4294967296 := by
        have : R ^^^ x < 2 ^ 32 := Nat.xor_lt_two_pow (by omega) (by omega)
        omega
      have e1 : bits .xor .u32 (R : Int) (x : Int) = ((R ^^^ x : Nat) : Int) := u32_xor_nat _ _ hr (by omega)
      have t1 := tab_at htab ((R ^^^ x) % 16) (by omega)
      have e2 := and15 (R ^^^ x) hq
      have e3 := nib_bits (R ^^^ x) hq
      have hq2 : cbs 4 (R ^^^ x) < 4294967296 := cbs_lt 4 hq
      have t2 := tab_at htab (cbs 4 (R ^^^ x) % 16) (by omega)
      have e4 := and15 (cbs 4 (R ^^^ x)) hq2
      have e5 := nib_bits (cbs 4 (R ^^^ x)) hq2
      have e6 : cbs 4 (cbs 4 (R ^^^ x)) = cbs 8 (R ^^^ x) := (cbs_add 4 4 _).symm
      have hxw : IntKind.u32.wrap (x : Int) = (x : Int) := by rw [IntKind.wrap_u32]; omega
      have i1 : (R ^^^ x) % 16 < 16 := by omega
      have i2 : cbs 4 (R ^^^ x) % 16 < 16 := by omega
      clear htab hsn hR htk hq hr hq2 hx
      go_wp2
      go_roundw
      case rel => exact ⟨k + 1, by omega, by go_num, trivial, by rw [Hsn.out]⟩
      case measure => simp [intOf]; omega
    · have hlt' : ¬ (k : Int) < (n : Int) := by omega
      have hkn : l.take k = l := List.take_of_length_le (by omega)
      have HB : Hid (Below w.heap.size w (w.alloc (.cells tab.toArray 172))) := (Below.refl _ w).alloc (Nat.le_refl _) _
      rw [hkn] at *
      go_wp2
      go_ret
      exact ⟨rfl, HB.out⟩

set_option maxHeartbeats 1000000 in
theorem through_none (a : Option Addr) (c : Nat) (w : World) :
    Calls Tryz.prog 116 #[.agg tab.toArray, .int .u32 4294967295, .slice a 0 c] w fun e w' => e = .returned (.int .u32 ((crc 4294967295 [] : Nat) : Int)) ∧ Below w.heap.size w w' := by
  have HB : Hid (Below w.heap.size w (w.alloc (.cells tab.toArray 172))) := (Below.refl _ w).alloc (Nat.le_refl _) _
  rw [crc_nil]
  go_enter Tryz.func116, Tryz.ntmps116
  go_wp2
  refine wp_loop_rounds 1 ?_; rw [rounds_succ]; go_wp2
  go_ret
  exact ⟨rfl, HB.out⟩

theorem through_any (a : Option Addr) (n c : Nat) (l : List Int) (w : World) (hb : Bytes l) (hn : n ≤ 140737488355328) (hs : Src w a n l) :
    Calls Tryz.prog 116 #[.agg tab.toArray, .int .u32 4294967295, .slice a n c] w fun e w' => e = .returned (.int .u32 ((crc 4294967295 l : Nat) : Int)) ∧ Below w.heap.size w w' := by
  by_cases h0 : n = 0
  · subst h0
    have : l = [] := List.eq_nil_of_length_eq_zero hs.1
    subst this
    exact through_none a c w
  · cases a with
    | none => exact absurd (hs.2.1 rfl) h0
    | some x =>
      obtain ⟨b, o, rfl, k⟩ := hs.spot (by omega)
      exact through_low b o n c l w hb hs.1 hn k

theorem not_bits (r : Nat) (hr : r < 4294967296) : bits .xor .u32 IntKind.u32.max (r : Int) = ((r ^^^ 4294967295 : Nat) : Int) := by
  have e : IntKind.u32.max = ((4294967295 : Nat) : Int) := by decide
  rw [e, u32_xor_nat _ _ (by omega) hr, Nat.xor_comm]

set_option maxHeartbeats 1000000 in
theorem sum_any (a : Option Addr) (n c : Nat) (l : List Int) (w : World) (hb : Bytes l) (hn : n ≤ 140737488355328) (hs : Src w a n l) :
    Calls Tryz.prog 107 #[.slice a n c] w fun e w' => e = .returned (.int .i64 ((sumOf l : Nat) : Int)) ∧ Below w.heap.size w w' := by
  have hh := halves_any w
  have Hs := Hid.mk hs
  have hr := crc_lt (r := 4294967295) (by omega) hb
  have hnb := not_bits _ hr
  have hq0 : crc 4294967295 l ^^^ 4294967295 < 4294967296 := sumOf_lt hb
  have hq : wrap64 ((crc 4294967295 l ^^^ 4294967295 : Nat) : Int) = ((crc 4294967295 l ^^^ 4294967295 : Nat) : Int) := by unfold wrap64; omega
  clear hs
  unfold sumOf
  go_enter Tryz.func107, Tryz.ntmps107
  go_wp2_with fail
  refine hh.mono ?_
  rintro e w1 ⟨rfl, hb1⟩
  have ht := through_any a n c l w1 hb hn (Hs.out.later hb1)
  have HB := Hid.mk hb1
  clear hh hb1
  go_wp2_with fail
  refine ht.mono ?_
  rintro e w2 ⟨rfl, hb2⟩
  have HB2 : Hid (Below w.heap.size w w2) := HB.out.trans (hb2.mono HB.out.size)
  clear ht hb2
  go_wp2
  go_ret
  exact ⟨rfl, HB2.out⟩
end Go.Proofs.YtllkjmbcjlbmbaaGreat
end

section
namespace Go.Proofs.YtllkjmbcjlbmbaaGreat
open Go.RowKit

/-- A world that is the first but for what is new. -/
structure Later (w : World) where
  to : World
  h : Below w.heap.size w to

theorem below_drew {B : Nat} {a w : World} (h : Below B a w) : Below B a w.drew := ⟨h.os, h.tape, h.output, h.size, h.block⟩

theorem Later.some (w : World) : Nonempty (Later w) := ⟨⟨w, Below.refl _ _⟩⟩

/-- A region that draws its order, whose callees make memory but change none. -/
theorem wp_region_later {P : Program} {id : Nat} {Q : Exit → Act → World → Prop} {a : Act} {w : World} {l : List Oper} (hm : P.follows .mixedOrders = true) (hB : Region.lexB .any l.toArray = true)
    (h : wpQuiet P l.toArray (fun w' => ∃ q : Later w, w' = q.to) (fun a' => ∀ w', (∃ q : Later w, w' = q.to) → Q .normal a' w') l a) : (Code.region id l.toArray true).wp P Q a w :=
  wp_region_quiet (C := fun w' => ∃ q : Later w, w' = q.to) hm hB ⟨⟨w.drew, below_drew (Below.refl _ _)⟩, rfl⟩ (by simpa using h)

/-- A callee's contract, met in a later world. -/
theorem Calls.later_of {P : Program} {f : FuncId} {args : Array Value} {w : World} {q : Later w} {v : Value}
    (h : Calls P f args q.to fun e w' => e = .returned v ∧ Below q.to.heap.size q.to w') : Calls P f args q.to fun e w'' => e = .returned v ∧ ∃ q' : Later w, w'' = q'.to :=
  h.mono fun _ w' ⟨he, hm⟩ => ⟨he, ⟨w', q.h.trans (hm.mono q.h.size)⟩, rfl⟩
end Go.Proofs.YtllkjmbcjlbmbaaGreat
end

section
namespace Go.Proofs.YtllkjmbcjlbmbaaGreat
open Go.RowKit

/-- A list that a call made: v is a slice of l, its memory (if any) at B or above. -/
def Own (w : World) (B : Nat) (v : Value) (l : List Int) : Prop := w.ownsRow B 5 1 v l.length (bs l)
theorem Own.nil (w : World) (B : Nat) : Own w B (.slice none 0 0) [] := ⟨by simp, .inl ⟨rfl, rfl⟩⟩
theorem Own.src {w : World} {B : Nat} {v : Value} {l : List Int} (h : Own w B v l) : ∃ a c, v = .slice a l.length c ∧ Src w a l.length l ∧ l.length ≤ c ∧ (∀ x, a = some x → B ≤ x.block ∧ x.off = 0) := by
  by_cases hv : v = .slice none 0 0
  · subst hv
    have h0 : l.length = 0 := by
      obtain ⟨_, ⟨_, hn⟩ | ⟨g, c, cur, e, _⟩⟩ := h
      · exact hn
      · cases e
    obtain rfl := List.eq_nil_of_length_eq_zero h0
    exact ⟨none, 0, rfl, ⟨rfl, fun _ => rfl, fun x hx => by cases hx⟩, Nat.le_refl _, fun x hx => by cases hx⟩
  · obtain ⟨g, c, rfl, hg, hr, _⟩ := RowAt.of_owns h hv
    refine ⟨some ⟨g, 0, none⟩, c, rfl, hr.src, ?_, fun x hx => by cases hx; exact ⟨hg, rfl⟩⟩
    have := hr.le
    simpa [bs] using this
theorem Own.row {w : World} {B : Nat} {a : Option Addr} {n c : Nat} {l : List Int} (h : Own w B (.slice a n c) l) (h0 : 0 < l.length) : ∃ g, a = some ⟨g, 0, none⟩ ∧ n = l.length ∧ B ≤ g ∧ RowAt w 5 g c (bs l) := by
  obtain ⟨g, c', e, hg, hr, _⟩ := RowAt.of_owns h (by
    intro e
    cases e
    obtain ⟨_, ⟨_, hn⟩ | ⟨g, c, cur, e, _⟩⟩ := h
    · omega
    · cases e)
  cases e
  exact ⟨g, rfl, rfl, hg, hr⟩
theorem Own.later {w w' : World} {B : Nat} {v : Value} {l : List Int} (h : Own w B v l) (hb : Below w.heap.size w w') : Own w' B v l := by
  by_cases hv : v = .slice none 0 0
  · subst hv
    obtain ⟨h1, ⟨_, hn⟩ | ⟨g, c, cur, e, _⟩⟩ := h
    · exact ⟨h1, .inl ⟨rfl, hn⟩⟩
    · cases e
  · obtain ⟨g, c, rfl, hg, hr, hl⟩ := RowAt.of_owns h hv
    have hr' := hr.agree (hb.block g hr.lt)
    have hle := hr'.le
    obtain ⟨cur, hb', hc, ht, hm⟩ := hr'
    have hl' : (bs l).length = l.length := by simp [bs]
    exact ⟨by simp [bs], .inr ⟨g, c, cur, rfl, hg, hb', by omega, hm, by simpa using hc, by rw [hl'] at ht; simpa using ht⟩⟩
theorem Own.down {w : World} {B B' : Nat} {v : Value} {l : List Int} (h : Own w B v l) (hB : B' ≤ B) : Own w B' v l := by
  obtain ⟨h1, h2 | ⟨g, c, cur, e, hg, h3⟩⟩ := h
  · exact ⟨h1, .inl h2⟩
  · exact ⟨h1, .inr ⟨g, c, cur, e, by omega, h3⟩⟩

theorem bs_append (a b : List Int) : bs (a ++ b) = bs a ++ bs b := List.map_append
theorem bs_snoc (a : List Int) (x : Int) : bs a ++ [.int .u8 x] = bs (a ++ [x]) := by rw [bs_append]; rfl
theorem take_snoc (l : List Int) (k : Nat) (h : k < l.length) : l.take k ++ [l.getD k 0] = l.take (k + 1) := by
  rw [List.take_succ_eq_append_getElem h]
  simp [List.getD, h]
theorem bs_take_succ (l : List Int) (k : Nat) (h : k < l.length) : bs (l.take k) ++ [.int .u8 (l.getD k 0)] = bs (l.take (k + 1)) := by
  rw [bs_snoc, take_snoc l k h]

end Go.Proofs.YtllkjmbcjlbmbaaGreat
end

section
namespace Go.Proofs.YtllkjmbcjlbmbaaGreat
open Go.RowKit

theorem take_eq_next {l l' : List Int} {k : Nat} (h : l.take k = l'.take k) (h1 : k < l.length) (h2 : k < l'.length) (e : l.getD k 0 = l'.getD k 0) : l.take (k + 1) = l'.take (k + 1) := by
  rw [List.take_succ_eq_append_getElem h1, List.take_succ_eq_append_getElem h2, h]
  simp [List.getD, h1, h2] at e
  rw [e]
theorem ne_of_getD {l l' : List Int} {k : Nat} (e : l.getD k 0 ≠ l'.getD k 0) : l ≠ l' := fun h => e (by rw [h])

/-- The list made 512 bytes long. -/
def sec (l : List Int) : List Int := (List.range 512).map (fun i => l.getD i 0)
theorem sec_len (l : List Int) : (sec l).length = 512 := by simp [sec]
theorem sec_bytes {l : List Int} (h : Bytes l) : Bytes (sec l) := by
  intro x hx
  obtain ⟨j, _, rfl⟩ := List.mem_map.1 hx
  exact h.getD _
theorem sec_getD (l : List Int) {i : Nat} (h : i < 512) : (sec l).getD i 0 = l.getD i 0 := by simp [sec, List.getD, h]
theorem sec_self {l : List Int} (h : l.length = 512) : sec l = l := by
  apply List.ext_getElem?
  intro i
  by_cases hi : i < 512
  · simp [sec, hi, List.getD, List.getElem?_eq_getElem (show i < l.length by omega)]
  · rw [List.getElem?_eq_none (by rw [sec_len]; omega), List.getElem?_eq_none (by omega)]

theorem own_of {w : World} {B k : Nat} {v : Value} {l m : List Int} (h : w.ownsRow B 5 1 v k (bs l)) (hk : m.length = k) (e : m = l) : Own w B v m := by
  subst e; subst hk; exact h

end Go.Proofs.YtllkjmbcjlbmbaaGreat
end

section
namespace Go.Proofs.YtllkjmbcjlbmbaaGreat
open Go.RowKit

/-- An area as a value. -/
abbrev areaV (p : Nat) (f n : Int) : Value := .agg #[.pointer (some ⟨p, 0, none⟩), .int .i64 f, .int .i64 n]

set_option maxRecDepth 20000 in
set_option maxHeartbeats 2000000 in
theorem aend_any (p : Nat) (f n : Int) (w : World) (hf : 0 ≤ f) (hf2 : f ≤ 100000) (hn : 0 ≤ n) (hn2 : n ≤ 100000) :
    Calls Tryz.prog 66 #[areaV p f n] w fun e w' => e = .returned (.int .i64 (f + 2 + n)) ∧ Below w.heap.size w w' := by
  have HB := Hid.mk ((Below.refl w.heap.size w).alloc (Nat.le_refl _) (.cells #[.pointer (some ⟨p, 0, none⟩), .int .i64 f, .int .i64 n] 63))
  go_enter Tryz.func66, Tryz.ntmps66
  go_wp2
  go_ret
  exact ⟨rfl, HB.out⟩

set_option maxRecDepth 20000 in
set_option maxHeartbeats 2000000 in
theorem aat_any (p : Nat) (f n x : Int) (w : World) (hf : 0 ≤ f) (hf2 : f ≤ 100000) (hn : 1 ≤ n) (hn2 : n ≤ 100000) (hx : 0 ≤ x) :
    Calls Tryz.prog 51 #[areaV p f n, .int .i64 x] w fun e w' => e = .returned (.int .i64 (f + 2 + x % n)) ∧ Below w.heap.size w w' := by
  have HB := Hid.mk ((Below.refl w.heap.size w).alloc (Nat.le_refl _) (.cells #[.pointer (some ⟨p, 0, none⟩), .int .i64 f, .int .i64 n] 63))
  have h1 : 0 ≤ x % n := Int.emod_nonneg _ (by omega)
  have h2 : x % n < n := Int.emod_lt_of_pos _ (by omega)
  have h3 : x.tmod n = x % n := Int.tmod_eq_emod_of_nonneg hx
  have hz : (n == 0) = false := by rw [Bool.eq_false_iff, ne_eq, beq_iff_eq]; omega
  generalize x % n = y at *
  go_enter Tryz.func51, Tryz.ntmps51
  go_wp2
  go_region
  go_wp2
  go_ret
  exact ⟨rfl, below_drew HB.out⟩

/-- Why no log can lie there. -/
def lrefuse (S : DS) (s : Nat) (f n : Int) : Int :=
  if S.fuse = 0 then 3 else if f < 0 ∨ (s : Int) ≤ f then 11 else if n < 18 ∨ 256 < n then 1 else if (s : Int) < f + 2 + n then 11 else 0

theorem DiskAt.boxed {w : World} {F : Nat → Prop} {p s : Nat} {S : DS} (h : DiskAt w F p s S) (o : Obj) : DiskAt (w.alloc o) F p s S :=
  h.keep (Keeps.of_below (fun _ => False) ((Below.refl w.heap.size w).alloc (Nat.le_refl _) o)) (fun _ _ h => h)

set_option maxRecDepth 20000 in
set_option maxHeartbeats 4000000 in
theorem refusal_any {w : World} {F : Nat → Prop} {p s : Nat} {S : DS} (h : DiskAt w F p s S) (f n : Int) (hs : s ≤ 2048) :
    Calls Tryz.prog 42 #[areaV p f n] w fun e w' => e = .returned (.int .i64 (lrefuse S s f n)) ∧ Below w.heap.size w w' := by
  have hB := (Below.refl w.heap.size w).alloc (Nat.le_refl _) (.cells #[.pointer (some ⟨p, 0, none⟩), .int .i64 f, .int .i64 n] 63)
  have h1 := sectors_at (h.boxed (.cells #[.pointer (some ⟨p, 0, none⟩), .int .i64 f, .int .i64 n] 63))
  have h2 := burnt_at (h.boxed (.cells #[.pointer (some ⟨p, 0, none⟩), .int .i64 f, .int .i64 n] 63))
  have h3 := aend_any p f n (w.alloc (.cells #[.pointer (some ⟨p, 0, none⟩), .int .i64 f, .int .i64 n] 63))
  unfold lrefuse
  have HB := Hid.mk hB
  have H3 := Hid.mk h3
  clear h h3 hB
  by_cases c1 : S.fuse = 0
  · rw [show (S.fuse == 0) = true by simp [c1]] at h2
    rw [if_pos c1]
    clear c1
    go_enter Tryz.func42, Tryz.ntmps42
    go_wp2_with (first | (go_at_call 65; refine h1.mono ?_; rintro e w' ⟨rfl, hw⟩; subst hw) | (go_at_call 13; refine h2.mono ?_; rintro e w' ⟨rfl, hw⟩; subst hw))
    go_ret
    exact ⟨rfl, HB.out⟩
  · rw [show (S.fuse == 0) = false by simp [c1]] at h2
    rw [if_neg c1]
    clear c1
    by_cases c2 : f < 0 ∨ (s : Int) ≤ f
    · rw [if_pos c2]
      by_cases c3 : f < 0
      · clear c2
        go_enter Tryz.func42, Tryz.ntmps42
        go_wp2_with (first | (go_at_call 65; refine h1.mono ?_; rintro e w' ⟨rfl, hw⟩; subst hw) | (go_at_call 13; refine h2.mono ?_; rintro e w' ⟨rfl, hw⟩; subst hw))
        go_ret
        exact ⟨rfl, HB.out⟩
      · have c4 : (s : Int) ≤ f := by omega
        clear c2
        go_enter Tryz.func42, Tryz.ntmps42
        go_wp2_with (first | (go_at_call 65; refine h1.mono ?_; rintro e w' ⟨rfl, hw⟩; subst hw) | (go_at_call 13; refine h2.mono ?_; rintro e w' ⟨rfl, hw⟩; subst hw))
        go_ret
        exact ⟨rfl, HB.out⟩
    · rw [if_neg c2]
      have c3 : ¬ f < 0 := by omega
      have c4 : ¬ (s : Int) ≤ f := by omega
      clear c2
      by_cases c5 : n < 18 ∨ 256 < n
      · rw [if_pos c5]
        by_cases c6 : n < 18
        · clear c5
          go_enter Tryz.func42, Tryz.ntmps42
          go_wp2_with (first | (go_at_call 65; refine h1.mono ?_; rintro e w' ⟨rfl, hw⟩; subst hw) | (go_at_call 13; refine h2.mono ?_; rintro e w' ⟨rfl, hw⟩; subst hw))
          go_ret
          exact ⟨rfl, HB.out⟩
        · have c7 : 256 < n := by omega
          clear c5
          go_enter Tryz.func42, Tryz.ntmps42
          go_wp2_with (first | (go_at_call 65; refine h1.mono ?_; rintro e w' ⟨rfl, hw⟩; subst hw) | (go_at_call 13; refine h2.mono ?_; rintro e w' ⟨rfl, hw⟩; subst hw))
          go_ret
          exact ⟨rfl, HB.out⟩
      · rw [if_neg c5]
        have c6 : ¬ n < 18 := by omega
        have c7 : ¬ 256 < n := by omega
        clear c5
        have h3 := H3.out (by omega) (by omega) (by omega) (by omega)
        by_cases c8 : (s : Int) < f + 2 + n
        · rw [if_pos c8]
          go_enter Tryz.func42, Tryz.ntmps42
          go_wp2_with (first | (go_at_call 65; refine h1.mono ?_; rintro e w' ⟨rfl, hw⟩; subst hw) | (go_at_call 13; refine h2.mono ?_; rintro e w' ⟨rfl, hw⟩; subst hw))
          refine h3.mono ?_
          rintro e w2 ⟨rfl, hb⟩
          have HB2 := Hid.mk (HB.out.trans (hb.mono HB.out.size))
          clear hb h1 h2 h3
          go_wp2
          go_ret
          exact ⟨rfl, HB2.out⟩
        · rw [if_neg c8]
          go_enter Tryz.func42, Tryz.ntmps42
          go_wp2_with (first | (go_at_call 65; refine h1.mono ?_; rintro e w' ⟨rfl, hw⟩; subst hw) | (go_at_call 13; refine h2.mono ?_; rintro e w' ⟨rfl, hw⟩; subst hw))
          refine h3.mono ?_
          rintro e w2 ⟨rfl, hb⟩
          have HB2 := Hid.mk (HB.out.trans (hb.mono HB.out.size))
          clear hb h1 h2 h3
          go_wp2
          go_ret
          exact ⟨rfl, HB2.out⟩
end Go.Proofs.YtllkjmbcjlbmbaaGreat
end
