import Derived.Test.YtkkmkogpbhcpmaaKNodY
namespace Go.Proofs.Ytkkmkogpbhcpmaa
open Go.RowKit

theorem le_zeros : ∀ {l : List Int}, Zeros l → le l = 0
  | [], _ => rfl
  | x :: xs, h => by
    have h0 := h x (List.mem_cons_self)
    have h1 := le_zeros (l := xs) (fun y hy => h y (List.mem_cons_of_mem _ hy))
    subst h0
    simp [le, h1]
theorem zeros_part {l : List Int} (h : Zeros l) (k m : Nat) : Zeros (part l k m) := fun x hx => h x (List.mem_of_mem_drop (List.mem_of_mem_take hx))
theorem part_appr (A B : List Int) (q m : Nat) : part (A ++ B) (A.length + q) m = part B q m := by
  unfold part
  rw [List.drop_append, List.drop_eq_nil_of_le (by omega)]
  simp
theorem part_low0 (A B : List Int) (m : Nat) (h : m = A.length) : part (A ++ B) 0 m = A := by
  subst h
  simp [part]
theorem leb_take (n k : Nat) : (leb n k).take n = leb n k := List.take_of_length_le (by rw [leb_len]; omega)
theorem ptrs_at (d : Nat → Nat) : ∀ (n i : Nat), i < n → part (ptrs d n) (4 * i) 4 = leb 4 (d i)
  | 0, _, h => by omega
  | n + 1, i, h => by
    by_cases e : i = n
    · subst e
      rw [ptrs, part_app _ _ _ _ (by rw [ptrs_len]), leb_take]
    · rw [ptrs, part_appl _ _ _ _ (by rw [ptrs_len]; omega)]
      exact ptrs_at d n i (by omega)
section
variable (k l p s o : Nat) (d : Nat → Nat)
theorem b10 {q m : Nat} (h : q + m ≤ 72) : part (nodeBody k l p s o d) q m = part (nb10 k l p s o d) q m := part_appl _ _ _ _ (by rw [nb10_len]; exact h)
theorem b9 {q m : Nat} (h : q + m ≤ 68) : part (nodeBody k l p s o d) q m = part (nb9 k l p s o d) q m := (b10 k l p s o d (by omega)).trans (part_appl _ _ _ _ (by rw [nb9_len]; exact h))
theorem b8 {q m : Nat} (h : q + m ≤ 64) : part (nodeBody k l p s o d) q m = part (nb8 k l p s o d) q m := (b9 k l p s o d (by omega)).trans (part_appl _ _ _ _ (by rw [nb8_len]; exact h))
theorem b7 {q m : Nat} (h : q + m ≤ 24) : part (nodeBody k l p s o d) q m = part (nb7 k l p s o) q m := (b8 k l p s o d (by omega)).trans (part_appl _ _ _ _ (by rw [nb7_len]; exact h))
theorem b6 {q m : Nat} (h : q + m ≤ 20) : part (nodeBody k l p s o d) q m = part (nb6 k l p s o) q m := (b7 k l p s o d (by omega)).trans (part_appl _ _ _ _ (by rw [nb6_len]; exact h))
theorem b5 {q m : Nat} (h : q + m ≤ 16) : part (nodeBody k l p s o d) q m = part (nb5 k l p s) q m := (b6 k l p s o d (by omega)).trans (part_appl _ _ _ _ (by rw [nb5_len]; exact h))
theorem b4 {q m : Nat} (h : q + m ≤ 8) : part (nodeBody k l p s o d) q m = part (nb4 k l p) q m := (b5 k l p s o d (by omega)).trans (part_appl _ _ _ _ (by rw [nb4_len]; exact h))
theorem b3 {q m : Nat} (h : q + m ≤ 4) : part (nodeBody k l p s o d) q m = part (nb3 k l) q m := (b4 k l p s o d (by omega)).trans (part_appl _ _ _ _ (by rw [nb3_len]; exact h))
theorem b2 {q m : Nat} (h : q + m ≤ 2) : part (nodeBody k l p s o d) q m = part (nb2 k) q m := (b3 k l p s o d (by omega)).trans (part_appl _ _ _ _ (by rw [nb2_len]; exact h))
theorem fk (h : k < 256) : u8 (nodeBody k l p s o d) 0 = k := by
  unfold u8
  rw [b2 k l p s o d (by omega), nb2, part_low0 _ _ _ (by rw [nb1_len]), nb1, le_leb _ _ (by omega)]
theorem fl (h : l < 65536) : u16 (nodeBody k l p s o d) 2 = l := by
  unfold u16
  rw [b3 k l p s o d (by omega), nb3, part_app _ _ _ _ (by rw [nb2_len]), leb_take, le_leb _ _ (by omega)]
theorem fp (h : p < 4294967296) : u32 (nodeBody k l p s o d) 4 = p := by
  unfold u32
  rw [b4 k l p s o d (by omega), nb4, part_app _ _ _ _ (by rw [nb3_len]), leb_take, le_leb _ _ (by omega)]
theorem fs (h : s < 9223372036854775808) : s64 (nodeBody k l p s o d) 8 = (s : Int) := by
  unfold s64
  rw [b5 k l p s o d (by omega), nb5, part_app _ _ _ _ (by rw [nb4_len]), leb_take, le_leb _ _ (by omega)]
  unfold wrap64
  omega
theorem fo (h : o < 4294967296) : u32 (nodeBody k l p s o d) 16 = o := by
  unfold u32
  rw [b6 k l p s o d (by omega), nb6, part_app _ _ _ _ (by rw [nb5_len]), leb_take, le_leb _ _ (by omega)]
theorem fd (h : ∀ i, i < 12 → d i < 4294967296) (i : Nat) (hi : i < 12) : u32 (nodeBody k l p s o d) (24 + 4 * i) = d i := by
  unfold u32
  have hd := h i hi
  by_cases e1 : i = 11
  · subst e1
    rw [b10 k l p s o d (by omega), nb10, part_app _ _ _ _ (by rw [nb9_len]), leb_take, le_leb _ _ (by omega)]
  · by_cases e2 : i = 10
    · subst e2
      rw [b9 k l p s o d (by omega), nb9, part_app _ _ _ _ (by rw [nb8_len]), leb_take, le_leb _ _ (by omega)]
    · have := part_appr (nb7 k l p s o) (ptrs d 10) (4 * i) 4
      rw [nb7_len] at this
      rw [b8 k l p s o d (by omega), nb8, this, ptrs_at d 10 i (by omega), le_leb _ _ (by omega)]
theorem fz1 : Zeros (part (nodeBody k l p s o d) 1 1) := by
  rw [b2 k l p s o d (by omega), nb2, part_app _ _ _ _ (by rw [nb1_len])]
  intro x hx
  exact (List.mem_replicate.1 (List.mem_of_mem_take hx)).2
theorem fz2 : Zeros (part (nodeBody k l p s o d) 20 4) := by
  rw [b7 k l p s o d (by omega), nb7, part_app _ _ _ _ (by rw [nb6_len])]
  intro x hx
  exact (List.mem_replicate.1 (List.mem_of_mem_take hx)).2
theorem fz3 : Zeros (part (nodeBody k l p s o d) 72 52) := by
  rw [nodeBody, part_app _ _ _ _ (by rw [nb10_len])]
  intro x hx
  exact (List.mem_replicate.1 (List.mem_of_mem_take hx)).2
end
theorem sealed_bytes {b : List Int} (hb : Bytes b) : Bytes (sealed b) := bytes_app hb (leb_bytes 4 (sumOf b))
theorem sealed_body {b : List Int} {n : Nat} (h : b.length = n) : part (sealed b) 0 n = b := part_low0 b _ n h.symm
theorem sealed_sum {b : List Int} (hb : Bytes b) (hl : 0 < b.length) : SumOk (sealed b) := by
  unfold SumOk
  rw [sealed_len, show b.length + 4 - 4 = b.length by omega, sealed_body rfl]
  show le (part (b ++ leb 4 (sumOf b)) b.length 4) = _
  rw [part_app _ _ _ _ rfl, leb_take, le_leb _ _ (by have := sumOf_lt hb; omega)]
/-- What is encoded is decoded to the same. -/
theorem dec_enc {x y : NV} {b : List Int} {E E' : Int} (hf : NFits x.k x.l x.p x.s x.o x.d) (he : EncR x b E) (hd : DecR b y E') : E = 0 ∧ E' = 0 ∧ b.length = 128 ∧ Bytes b ∧ NSame x.k x.l x.p x.s x.o x.d y.k y.l y.p y.s y.o y.d := by
  rcases he with ⟨h0, _⟩ | ⟨_, _, rfl, rfl⟩ | ⟨_, hn, _⟩
  · have h1 := hf.1.1
    have h2 := h0.1
    omega
  · obtain ⟨hk, hl, hp, hs, ho, hdd⟩ := hf
    have hp0 : 0 ≤ x.p ∧ x.p ≤ 1024 := by rcases hp with hp | hp <;> omega
    have hdi : ∀ i, i < 12 → (x.d i).toNat < 4294967296 ∧ (((x.d i).toNat : Nat) : Int) = x.d i := fun i hi => by
      have := (pf_iff (x.d i)).1 (hdd i hi)
      omega
    have hbl := nodeBody_len x.k.toNat x.l.toNat x.p.toNat x.s.toNat x.o.toNat (fun i => (x.d i).toNat)
    have hbb := nodeBody_bytes x.k.toNat x.l.toNat x.p.toNat x.s.toNat x.o.toNat (fun i => (x.d i).toNat)
    have hpart := sealed_body hbl
    have a0 := fk x.k.toNat x.l.toNat x.p.toNat x.s.toNat x.o.toNat (fun i => (x.d i).toNat) (by omega)
    have a1 := fl x.k.toNat x.l.toNat x.p.toNat x.s.toNat x.o.toNat (fun i => (x.d i).toNat) (by omega)
    have a2 := fp x.k.toNat x.l.toNat x.p.toNat x.s.toNat x.o.toNat (fun i => (x.d i).toNat) (by omega)
    have a3 := fs x.k.toNat x.l.toNat x.p.toNat x.s.toNat x.o.toNat (fun i => (x.d i).toNat) (by omega)
    have a4 := fo x.k.toNat x.l.toNat x.p.toNat x.s.toNat x.o.toNat (fun i => (x.d i).toNat) (by omega)
    have a5 := fd x.k.toNat x.l.toNat x.p.toNat x.s.toNat x.o.toNat (fun i => (x.d i).toNat) (fun i hi => (hdi i hi).1)
    have z1 := fz1 x.k.toNat x.l.toNat x.p.toNat x.s.toNat x.o.toNat (fun i => (x.d i).toNat)
    have z2 := fz2 x.k.toNat x.l.toNat x.p.toNat x.s.toNat x.o.toNat (fun i => (x.d i).toNat)
    have z3 := fz3 x.k.toNat x.l.toNat x.p.toNat x.s.toNat x.o.toNat (fun i => (x.d i).toNat)
    generalize nodeBody x.k.toNat x.l.toNat x.p.toNat x.s.toNat x.o.toNat (fun i => (x.d i).toNat) = B at *
    have hlen : (sealed B).length = 128 := by rw [sealed_len]; omega
    have e0 : ((u8 B 0 : Nat) : Int) = x.k := by rw [a0]; omega
    have e1 : ((u16 B 2 : Nat) : Int) = x.l := by rw [a1]; omega
    have e2 : ((u32 B 4 : Nat) : Int) = x.p := by rw [a2]; omega
    have e3 : s64 B 8 = x.s := by rw [a3]; omega
    have e4 : ((u32 B 16 : Nat) : Int) = x.o := by rw [a4]; omega
    have e5 : ∀ i, i < 12 → ((u32 B (24 + 4 * i) : Nat) : Int) = x.d i := fun i hi => by rw [a5 i hi]; exact (hdi i hi).2
    have hok : NodeOk (sealed B) := by
      refine ⟨sealed_sum hbb (by omega), ?_⟩
      rw [hpart]
      refine ⟨z1, z2, z3, ?_⟩
      rw [e0, e1, e2, e3, e4]
      refine ⟨hk, hl, hp, hs, ho, fun i hi => ?_⟩
      show PF ((u32 B (24 + 4 * i) : Nat) : Int)
      rw [e5 i hi]
      exact hdd i hi
    have hnz : ¬ Zeros (sealed B) := fun hz => by
      have h1 : u8 B 0 = 0 := by
        have := le_zeros (zeros_part (zeros_part hz 0 124) 0 1)
        rw [hpart] at this
        exact this
      rw [h1] at e0
      have := hk.1
      omega
    rcases hd with ⟨h, _⟩ | ⟨_, h, _⟩ | ⟨_, _, _, rfl, rfl⟩ | ⟨_, _, h, _⟩
    · exact absurd hlen h
    · exact absurd h hnz
    · rw [hpart]
      exact ⟨rfl, rfl, hlen, sealed_bytes hbb, e0.symm, e1.symm, e2.symm, e3.symm, e4.symm, fun i hi => (e5 i hi).symm⟩
    · exact absurd hok h
  · exact absurd hf hn
def upd (d : Nat → Int) (j : Nat) (v : Int) : Nat → Int := fun i => if i = j then v else d i
theorem ndc_at (k l p s o : Int) (d : Nat → Int) (j : Nat) (hj : j < 12) : (ndc k l p s o d)[5 + j]? = some (.int .i64 (d j)) := by
  match j, hj with
  | 0, _ => rfl
  | 1, _ => rfl
  | 2, _ => rfl
  | 3, _ => rfl
  | 4, _ => rfl
  | 5, _ => rfl
  | 6, _ => rfl
  | 7, _ => rfl
  | 8, _ => rfl
  | 9, _ => rfl
  | 10, _ => rfl
  | 11, _ => rfl
theorem ndc_upd (k l p s o : Int) (d : Nat → Int) (j : Nat) (hj : j < 12) (v : Int) : (ndc k l p s o d).setIfInBounds (5 + j) (.int .i64 v) = ndc k l p s o (upd d j v) := by
  match j, hj with
  | 0, _ => simp [upd]
  | 1, _ => simp [upd]
  | 2, _ => simp [upd]
  | 3, _ => simp [upd]
  | 4, _ => simp [upd]
  | 5, _ => simp [upd]
  | 6, _ => simp [upd]
  | 7, _ => simp [upd]
  | 8, _ => simp [upd]
  | 9, _ => simp [upd]
  | 10, _ => simp [upd]
  | 11, _ => simp [upd]
theorem upd_same (d : Nat → Int) (j : Nat) (v : Int) : upd d j v j = v := by simp [upd]
theorem upd_ne (d : Nat → Int) {j i : Nat} (v : Int) (h : i ≠ j) : upd d j v i = d i := by simp [upd, h]

theorem nd_congr (k l p s o : Int) {d d' : Nat → Int} (h : ∀ i, i < 12 → d i = d' i) : nd k l p s o d = nd k l p s o d' := by
  simp only [nd, ndc]
  rw [h 0 (by omega), h 1 (by omega), h 2 (by omega), h 3 (by omega), h 4 (by omega), h 5 (by omega), h 6 (by omega), h 7 (by omega), h 8 (by omega), h 9 (by omega), h 10 (by omega), h 11 (by omega)]
theorem NSame.val {x y : NV} (h : NSame x.k x.l x.p x.s x.o x.d y.k y.l y.p y.s y.o y.d) : x.v = y.v := by
  obtain ⟨h1, h2, h3, h4, h5, h6⟩ := h
  show nd x.k x.l x.p x.s x.o x.d = nd y.k y.l y.p y.s y.o y.d
  rw [h1, h2, h3, h4, h5]
  exact nd_congr _ _ _ _ _ h6
/-- A decoder answers something. -/
theorem dec_total (l : List Int) : ∃ x E, DecR l x E := by
  by_cases hl : l.length = 128
  · by_cases hz : Zeros l
    · exact ⟨nv0, 0, .inr (.inl ⟨hl, hz, rfl, rfl⟩)⟩
    · by_cases hk : NodeOk l
      · exact ⟨_, 0, .inr (.inr (.inl ⟨hl, hz, hk, rfl, rfl⟩))⟩
      · exact ⟨nv0, 6, .inr (.inr (.inr ⟨hl, hz, hk, rfl, rfl⟩))⟩
  · exact ⟨nv0, 2, .inl ⟨hl, rfl, rfl⟩⟩
theorem zeros128_len' {l : List Int} (hl : l.length = 128) (h : Zeros l) : l = zeros128 := by
  have := zeros_rep h
  rw [hl] at this
  exact this
/-- What is decoded is right, if it is encoded to the same bytes. -/
theorem ref_yes {y : NV} {l : List Int} (he : EncR y l 0) : ∃ z, DecR l z 0 ∧ z.v = y.v := by
  rcases he with ⟨h0, rfl, _⟩ | ⟨hn, hf, hl, _⟩ | ⟨_, _, _, h⟩
  · refine ⟨nv0, .inr (.inl ⟨zeros128_len, fun _ hx => (List.mem_replicate.1 hx).2, rfl, rfl⟩), ?_⟩
    obtain ⟨h1, h2, h3, h4, h5, h6⟩ := h0
    exact NSame.val (x := nv0) (y := y) ⟨h1.symm, h2.symm, h3.symm, h4.symm, h5.symm, fun i hi => (h6 i hi).symm⟩
  · obtain ⟨z, E, hd⟩ := dec_total l
    obtain ⟨_, rfl, _, _, hs⟩ := dec_enc hf (.inr (.inl ⟨hn, hf, hl, rfl⟩)) hd
    exact ⟨z, hd, (NSame.val hs).symm⟩
  · exact absurd h (by decide)
/-- The node that the document reads. -/
def nvRef (l : List Int) (r : Int) : NV := ⟨((u8 l 0 : Nat) : Int), ((u16 l 2 : Nat) : Int), ((u32 l 4 : Nat) : Int), r, ((u32 l 16 : Nat) : Int), fun i => ((u32 l (24 + 4 * i) : Nat) : Int)⟩
theorem encR_unique {y : NV} {b b' : List Int} {E E' : Int} (h : EncR y b E) (h' : EncR y b' E') : b = b' ∧ E = E' := by
  rcases h with ⟨h0, rfl, rfl⟩ | ⟨h0, h1, rfl, rfl⟩ | ⟨h0, h1, rfl, rfl⟩ <;> rcases h' with ⟨g0, rfl, rfl⟩ | ⟨g0, g1, rfl, rfl⟩ | ⟨g0, g1, rfl, rfl⟩
  · exact ⟨rfl, rfl⟩
  · exact absurd h0 g0
  · exact absurd h0 g0
  · exact absurd g0 h0
  · exact ⟨rfl, rfl⟩
  · exact absurd h1 g1
  · exact absurd g0 h0
  · exact absurd g1 h1
  · exact ⟨rfl, rfl⟩
/-- It is refused, if it is not. -/
theorem ref_no {l b : List Int} {r : Int} {E : Int} (hb : Bytes l) (hl : l.length = 128) (hr : r = ((le (part l 8 8) : Nat) : Int) ∨ (r = -1 ∧ 18014398509481984 < le (part l 8 8))) (he : EncR (nvRef l r) b E) (hne : ¬ (b = l ∧ E = 0)) : DecR l nv0 6 := by
  refine .inr (.inr (.inr ⟨hl, ?_, ?_, rfl, rfl⟩))
  · intro hz
    have f : ∀ k m, le (part l k m) = 0 := fun k m => le_zeros (zeros_part hz k m)
    have hr0 : r = 0 := by rcases hr with h | ⟨_, h⟩ <;> rw [f] at h <;> omega
    have hn : NNone (nvRef l r).k (nvRef l r).l (nvRef l r).p (nvRef l r).s (nvRef l r).o (nvRef l r).d := by
      refine ⟨?_, ?_, ?_, hr0, ?_, fun i _ => ?_⟩
      · show ((le (part l 0 1) : Nat) : Int) = 0; rw [f]; rfl
      · show ((le (part l 2 2) : Nat) : Int) = 0; rw [f]; rfl
      · show ((le (part l 4 4) : Nat) : Int) = 0; rw [f]; rfl
      · show ((le (part l 16 4) : Nat) : Int) = 0; rw [f]; rfl
      · show ((le (part l (24 + 4 * i) 4) : Nat) : Int) = 0; rw [f]; rfl
    obtain ⟨h1, h2⟩ := encR_unique he (.inl ⟨hn, rfl, rfl⟩)
    exact hne ⟨h1.trans (zeros128_len' hl hz).symm, h2⟩
  · intro hk
    have hf := hk.2.fits
    have k0 : u8 (part l 0 124) 0 = u8 l 0 := by unfold u8; rw [part_take (by omega)]
    have k1 : u16 (part l 0 124) 2 = u16 l 2 := by unfold u16; rw [part_take (by omega)]
    have k2 : u32 (part l 0 124) 4 = u32 l 4 := by unfold u32; rw [part_take (by omega)]
    have k3 : part (part l 0 124) 8 8 = part l 8 8 := part_take (by omega)
    have k4 : u32 (part l 0 124) 16 = u32 l 16 := by unfold u32; rw [part_take (by omega)]
    have k5 : ∀ i, i < 12 → u32 (part l 0 124) (24 + 4 * i) = u32 l (24 + 4 * i) := fun i hi => by unfold u32; rw [part_take (by omega)]
    have hs := s64_nonneg (part_bytes hb 0 124) (k := 8) (by rw [part_len (by omega)]; omega) hf.2.2.2.1.1
    have hs2 := hf.2.2.2.1.2
    rw [k3] at hs
    have h3 : ((le (part l 8 8) : Nat) : Int) ≤ 8459264 := by rw [← hs.2]; exact hs2
    have hrr : r = s64 (part l 0 124) 8 := by
      rcases hr with h | ⟨_, h⟩
      · rw [h]; exact hs.2.symm
      · exfalso
        clear hf hs hs2 he hne k3
        generalize le (part l 8 8) = z at *
        omega
    have hfl := node_form hb hl hk
    have hf' : NFits (nvRef l r).k (nvRef l r).l (nvRef l r).p (nvRef l r).s (nvRef l r).o (nvRef l r).d := by
      rw [k0, k1, k2, k4] at hf
      refine ⟨hf.1, hf.2.1, hf.2.2.1, ?_, hf.2.2.2.2.1, fun i hi => ?_⟩
      · show 0 ≤ r ∧ r ≤ 8459264
        rw [hrr]; exact hf.2.2.2.1
      · have := hf.2.2.2.2.2 i hi
        have e : PF ((u32 (part l 0 124) (24 + 4 * i) : Nat) : Int) := this
        rw [k5 i hi] at e
        exact e
    have hn' : ¬ NNone (nvRef l r).k (nvRef l r).l (nvRef l r).p (nvRef l r).s (nvRef l r).o (nvRef l r).d := fun h => by have h1 := hf'.1.1; have h2 := h.1; omega
    obtain ⟨h1, h2⟩ := encR_unique he (.inr (.inl ⟨hn', hf', rfl, rfl⟩))
    refine hne ⟨h1.trans ?_, h2⟩
    refine Eq.trans ?_ hfl
    have hpt : ∀ n, n ≤ 12 → ptrs (fun i => ((nvRef l r).d i).toNat) n = ptrs (fun i => u32 (part l 0 124) (24 + 4 * i)) n := by
      intro n
      induction n with
      | zero => intro _; rfl
      | succ n ih =>
        intro hn
        rw [ptrs, ptrs, ih (by omega), k5 n (by omega)]
        rfl
    have hp10 := hpt 10 (by omega)
    have d10 : ((nvRef l r).d 10).toNat = u32 (part l 0 124) (24 + 4 * 10) := by rw [k5 10 (by omega)]; rfl
    have d11 : ((nvRef l r).d 11).toNat = u32 (part l 0 124) (24 + 4 * 11) := by rw [k5 11 (by omega)]; rfl
    have e0 : (nvRef l r).k.toNat = u8 (part l 0 124) 0 := by rw [k0]; rfl
    have e1 : (nvRef l r).l.toNat = u16 (part l 0 124) 2 := by rw [k1]; rfl
    have e2 : (nvRef l r).p.toNat = u32 (part l 0 124) 4 := by rw [k2]; rfl
    have e3 : (nvRef l r).s.toNat = (s64 (part l 0 124) 8).toNat := by show r.toNat = _; rw [hrr]
    have e4 : (nvRef l r).o.toNat = u32 (part l 0 124) 16 := by rw [k4]; rfl
    simp only [nodeBody, nb10, nb9, nb8, hp10, d10, d11, e0, e1, e2, e3, e4]
end Go.Proofs.Ytkkmkogpbhcpmaa
