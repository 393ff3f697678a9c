import Derived.Test.YtkkmkogpbhcpmaaKNodX
import Derived.Test.YtkkmkogpbhcpmaaKForm
namespace Go.Proofs.Ytkkmkogpbhcpmaa
open Go.RowKit

theorem lebn_part {l : List Int} (hb : Bytes l) {q n : Nat} (hq : q + n ≤ l.length) : leb n (le (part l q n)) = part l q n := by
  have := leb_le (part_bytes hb q n)
  rw [part_len hq] at this
  exact this
theorem ptrs_part {l : List Int} (hb : Bytes l) : ∀ n, 24 + 4 * n ≤ l.length → ptrs (fun i => u32 l (24 + 4 * i)) n = part l 24 (4 * n)
  | 0, _ => by simp [ptrs, part]
  | n + 1, h => by
    rw [ptrs, ptrs_part hb n (by omega), leb_part hb (by omega), show 4 * (n + 1) = 4 * n + 4 by omega, part_split]
theorem s64_nonneg {l : List Int} (hb : Bytes l) {k : Nat} (hk : k + 8 ≤ l.length) (h : 0 ≤ s64 l k) : (s64 l k).toNat = le (part l k 8) ∧ s64 l k = ((le (part l k 8) : Nat) : Int) := by
  have h1 := le_lt (part_bytes hb k 8)
  rw [part_len hk] at h1
  have h2 : (2 : Nat) ^ (8 * 8) = 18446744073709551616 := rfl
  unfold s64 wrap64 at *
  omega
/-- The body that the fields of a node make is the body. -/
theorem body_form {q : List Int} (hb : Bytes q) (hl : q.length = 124) (h : NodOk q) : nodeBody (u8 q 0) (u16 q 2) (u32 q 4) (s64 q 8).toNat (u32 q 16) (fun i => u32 q (24 + 4 * i)) = q := by
  obtain ⟨z1, z2, z3, hf⟩ := h
  have e1 := zeros_rep z1
  have e2 := zeros_rep z2
  have e3 := zeros_rep z3
  rw [part_len (by omega)] at e1 e2 e3
  have e8 := (s64_nonneg hb (k := 8) (by omega) hf.2.2.2.1.1).1
  have a1 : nb1 (u8 q 0) = part q 0 1 := lebn_part hb (by omega)
  have a2 : nb2 (u8 q 0) = part q 0 2 := by rw [nb2, a1, ← e1, ← part_split]
  have a3 : nb3 (u8 q 0) (u16 q 2) = part q 0 4 := by rw [nb3, a2, show leb 2 (u16 q 2) = part q 2 2 from lebn_part hb (by omega), ← part_split]
  have a4 : nb4 (u8 q 0) (u16 q 2) (u32 q 4) = part q 0 8 := by rw [nb4, a3, leb_part hb (by omega), ← part_split]
  have a5 : nb5 (u8 q 0) (u16 q 2) (u32 q 4) (s64 q 8).toNat = part q 0 16 := by rw [nb5, a4, e8, lebn_part hb (by omega), ← part_split]
  have a6 : nb6 (u8 q 0) (u16 q 2) (u32 q 4) (s64 q 8).toNat (u32 q 16) = part q 0 20 := by rw [nb6, a5, leb_part hb (by omega), ← part_split]
  have a7 : nb7 (u8 q 0) (u16 q 2) (u32 q 4) (s64 q 8).toNat (u32 q 16) = part q 0 24 := by rw [nb7, a6, ← e2, ← part_split]
  have a8 : nb8 (u8 q 0) (u16 q 2) (u32 q 4) (s64 q 8).toNat (u32 q 16) (fun i => u32 q (24 + 4 * i)) = part q 0 64 := by rw [nb8, a7, ptrs_part hb 10 (by omega), ← part_split]
  have a9 : nb9 (u8 q 0) (u16 q 2) (u32 q 4) (s64 q 8).toNat (u32 q 16) (fun i => u32 q (24 + 4 * i)) = part q 0 68 := by rw [nb9, a8, leb_part hb (by omega), ← part_split]
  have a10 : nb10 (u8 q 0) (u16 q 2) (u32 q 4) (s64 q 8).toNat (u32 q 16) (fun i => u32 q (24 + 4 * i)) = part q 0 72 := by rw [nb10, a9, leb_part hb (by omega), ← part_split]
  rw [nodeBody, a10, ← e3, ← part_split, show 72 + 52 = q.length by omega]
  exact part_all q
theorem node_form {l : List Int} (hb : Bytes l) (hl : l.length = 128) (h : NodeOk l) : sealed (nodeBody (u8 (part l 0 124) 0) (u16 (part l 0 124) 2) (u32 (part l 0 124) 4) (s64 (part l 0 124) 8).toNat (u32 (part l 0 124) 16) (fun i => u32 (part l 0 124) (24 + 4 * i))) = l := by
  rw [body_form (part_bytes hb 0 124) (part_len (by omega)) h.2]
  have hs := h.1
  unfold SumOk at hs
  rw [hl] at hs
  have h5 : u32 l 124 = sumOf (part l 0 124) := hs
  unfold sealed
  rw [← h5, leb_part hb (by omega), ← part_split, show 124 + 4 = l.length by omega]
  exact part_all l

/-- A node's value. -/
structure NV where
  k : Int
  l : Int
  p : Int
  s : Int
  o : Int
  d : Nat → Int
abbrev NV.v (x : NV) : Value := nd x.k x.l x.p x.s x.o x.d
def nv0 : NV := ⟨0, 0, 0, 0, 0, fun _ => 0⟩
def nvOf (q : List Int) : NV := ⟨((u8 q 0 : Nat) : Int), ((u16 q 2 : Nat) : Int), ((u32 q 4 : Nat) : Int), s64 q 8, ((u32 q 16 : Nat) : Int), fun i => ((u32 q (24 + 4 * i) : Nat) : Int)⟩
/-- What a decoder of nodes answers. -/
def DecR (l : List Int) (x : NV) (E : Int) : Prop :=
  (l.length ≠ 128 ∧ x = nv0 ∧ E = 2) ∨ (l.length = 128 ∧ Zeros l ∧ x = nv0 ∧ E = 0) ∨ (l.length = 128 ∧ ¬ Zeros l ∧ NodeOk l ∧ x = nvOf (part l 0 124) ∧ E = 0) ∨ (l.length = 128 ∧ ¬ Zeros l ∧ ¬ NodeOk l ∧ x = nv0 ∧ E = 6)
/-- What an encoder of nodes answers. -/
def EncR (x : NV) (b : List Int) (E : Int) : Prop :=
  (NNone x.k x.l x.p x.s x.o x.d ∧ b = zeros128 ∧ E = 0) ∨ (¬ NNone x.k x.l x.p x.s x.o x.d ∧ NFits x.k x.l x.p x.s x.o x.d ∧ b = sealed (nodeBody x.k.toNat x.l.toNat x.p.toNat x.s.toNat x.o.toNat (fun i => (x.d i).toNat)) ∧ E = 0) ∨ (¬ NNone x.k x.l x.p x.s x.o x.d ∧ ¬ NFits x.k x.l x.p x.s x.o x.d ∧ b = [] ∧ E = 20)

theorem decnode_any (a : Option Addr) (n c : Nat) (l : List Int) (w : World) (hs : Src w a n l) (hb : Bytes l) (hn : n ≤ 140737488355328) (hc : n ≤ c) (hcc : n = 128 → c ≤ 9223372036854775807) :
    Calls Try.prog 45 #[.slice a n c] w fun e w' => ∃ x E, DecR l x E ∧ e = .returned (.tuple #[x.v, .int .i64 E]) ∧ Below w.heap.size w w' := by
  have hl := hs.1
  by_cases h : n = 128
  · cases a with
    | none => have := hs.2.1 rfl; omega
    | some x =>
      obtain ⟨b, o, rfl, hcell⟩ := hs.spot (by omega)
      subst h
      by_cases hz : Zeros l
      · refine (decnode_zero b o c l w hl hc (hcc rfl) hb hcell hz).mono ?_
        rintro e w' ⟨rfl, hbb⟩
        exact ⟨nv0, 0, .inr (.inl ⟨hl, hz, rfl, rfl⟩), rfl, hbb⟩
      · refine (decnode_some b o c l w hl hc (hcc rfl) hb hcell hz).mono ?_
        rintro e w' ⟨⟨hk, rfl⟩ | ⟨hk, rfl⟩, hbb⟩
        · exact ⟨nvOf (part l 0 124), 0, .inr (.inr (.inl ⟨hl, hz, hk, rfl, rfl⟩)), rfl, hbb⟩
        · exact ⟨nv0, 6, .inr (.inr (.inr ⟨hl, hz, hk, rfl, rfl⟩)), rfl, hbb⟩
  · refine (decnode_len a n c w h hn).mono ?_
    rintro e w' ⟨rfl, hbb⟩
    exact ⟨nv0, 2, .inl ⟨by omega, rfl, rfl⟩, rfl, hbb⟩

theorem ndc_nat {k l p s o : Int} {d : Nat → Int} (h : NFits k l p s o d) : nd k l p s o d = nd (k.toNat : Int) (l.toNat : Int) (p.toNat : Int) (s.toNat : Int) (o.toNat : Int) (fun i => ((d i).toNat : Int)) := by
  obtain ⟨hk, hl, hp, hs, ho, hd⟩ := h
  have e : ∀ i, i < 12 → ((d i).toNat : Int) = d i := fun i hi => by have := (pf_iff (d i)).1 (hd i hi); omega
  have hp0 : 0 ≤ p := by rcases hp with hp | hp <;> omega
  rw [Int.toNat_of_nonneg (by omega), Int.toNat_of_nonneg (by omega), Int.toNat_of_nonneg hp0, Int.toNat_of_nonneg (by omega), Int.toNat_of_nonneg (by omega)]
  show _ = nd k l p s o (fun i => ((d i).toNat : Int))
  simp only [nd, ndc]
  rw [e 0 (by omega), e 1 (by omega), e 2 (by omega), e 3 (by omega), e 4 (by omega), e 5 (by omega), e 6 (by omega), e 7 (by omega), e 8 (by omega), e 9 (by omega), e 10 (by omega), e 11 (by omega)]
theorem nfits_nat {k l p s o : Int} {d : Nat → Int} (h : NFits k l p s o d) : NFits (k.toNat : Int) (l.toNat : Int) (p.toNat : Int) (s.toNat : Int) (o.toNat : Int) (fun i => ((d i).toNat : Int)) := by
  have h' := h
  obtain ⟨hk, hl, hp, hs, ho, hd⟩ := h
  have hp0 : 0 ≤ p := by rcases hp with hp | hp <;> omega
  rw [Int.toNat_of_nonneg (by omega), Int.toNat_of_nonneg (by omega), Int.toNat_of_nonneg hp0, Int.toNat_of_nonneg (by omega), Int.toNat_of_nonneg (by omega)]
  refine ⟨hk, hl, hp, hs, ho, fun i hi => ?_⟩
  have := (pf_iff (d i)).1 (hd i hi)
  show PF ((d i).toNat : Int)
  rw [pf_iff]
  omega
theorem encnode_any (x : NV) (w : World) :
    Calls Try.prog 46 #[x.v] w fun e w' => ∃ v b E, EncR x b E ∧ e = .returned (.tuple #[v, .int .i64 E]) ∧ (E = 0 → Made w w' v b) ∧ (E ≠ 0 → v = .slice none 0 0) ∧ Below w.heap.size w w' := by
  by_cases h0 : NNone x.k x.l x.p x.s x.o x.d
  · refine (encnode_none x.k x.l x.p x.s x.o x.d w h0).mono ?_
    rintro e w' ⟨v, rfl, hm⟩
    exact ⟨v, _, 0, .inl ⟨h0, rfl, rfl⟩, rfl, fun _ => hm, fun h => absurd rfl h, hm.choose_spec.choose_spec.2.2.2⟩
  · by_cases hf : NFits x.k x.l x.p x.s x.o x.d
    · have he := encnode_ok x.k.toNat x.l.toNat x.p.toNat x.s.toNat x.o.toNat (fun i => (x.d i).toNat) w (nfits_nat hf)
      rw [← ndc_nat hf] at he
      refine he.mono ?_
      rintro e w' ⟨v, rfl, hm⟩
      exact ⟨v, _, 0, .inr (.inl ⟨h0, hf, rfl, rfl⟩), rfl, fun _ => hm, fun h => absurd rfl h, hm.choose_spec.choose_spec.2.2.2⟩
    · refine (encnode_bad x.k x.l x.p x.s x.o x.d w h0 hf).mono ?_
      rintro e w' ⟨rfl, hbb⟩
      exact ⟨_, [], 20, .inr (.inr ⟨h0, hf, rfl, rfl⟩), rfl, fun h => absurd h (by decide), fun _ => rfl, hbb⟩
/-- What is decoded is encoded to just these bytes. -/
theorem back_form {l : List Int} {x : NV} {b : List Int} {E : Int} (hb : Bytes l) (h : DecR l x 0) (h' : EncR x b E) : b = l ∧ E = 0 := by
  rcases h with ⟨_, _, h⟩ | ⟨hl, hz, rfl, _⟩ | ⟨hl, hz, hk, rfl, _⟩ | ⟨_, _, _, _, h⟩
  · exact absurd h (by decide)
  · have hn : NNone nv0.k nv0.l nv0.p nv0.s nv0.o nv0.d := ⟨rfl, rfl, rfl, rfl, rfl, fun _ _ => rfl⟩
    rcases h' with ⟨_, rfl, rfl⟩ | ⟨h0, _⟩ | ⟨h0, _⟩
    · have := zeros_rep hz
      rw [hl] at this
      exact ⟨this.symm, rfl⟩
    · exact absurd hn h0
    · exact absurd hn h0
  · have hf := hk.2.fits
    rcases h' with ⟨h0, _⟩ | ⟨_, _, rfl, rfl⟩ | ⟨_, hf', _⟩
    · have h1 := hf.1.1
      have h2 := h0.1
      exact absurd h1 (by simp only [nvOf] at h2; omega)
    · exact ⟨node_form hb hl hk, rfl⟩
    · exact absurd hf hf'
  · exact absurd h (by decide)
end Go.Proofs.Ytkkmkogpbhcpmaa
