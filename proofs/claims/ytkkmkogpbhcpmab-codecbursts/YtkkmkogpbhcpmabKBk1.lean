import Derived.Test.YtkkmkogpbhcpmabKTm2
import Derived.Test.YtkkmkogpbhcpmabKTm3
import Derived.Test.YtkkmkogpbhcpmabKTm5
namespace Go.Proofs.Ytkkmkogpbhcpmab
open Go.RowKit

theorem part_appr (A B : List Int) (q m : Nat) : part (A ++ B) (A.length + q) m = part B q m := by
  unfold part
  rw [List.drop_append, List.drop_eq_nil_of_le (by omega)]
  simp
theorem part_low0 (A B : List Int) (m : Nat) (h : m = A.length) : part (A ++ B) 0 m = A := by
  subst h
  simp [part]
theorem leb_take (n k : Nat) : (leb n k).take n = leb n k := List.take_of_length_le (by rw [leb_len]; omega)
theorem ptrs_at (d : Nat → Nat) : ∀ (n i : Nat), i < n → part (ptrs d n) (4 * i) 4 = leb 4 (d i)
  | 0, _, h => by omega
  | n + 1, i, h => by
    by_cases e : i = n
    · subst e
      rw [ptrs, part_app _ _ _ _ (by rw [ptrs_len]), leb_take]
    · rw [ptrs, part_appl _ _ _ _ (by rw [ptrs_len]; omega)]
      exact ptrs_at d n i (by omega)
section
variable (k l p s o : Nat) (d : Nat → Nat)
theorem b10 {q m : Nat} (h : q + m ≤ 72) : part (nodeBody k l p s o d) q m = part (nb10 k l p s o d) q m := part_appl _ _ _ _ (by rw [nb10_len]; exact h)
theorem b9 {q m : Nat} (h : q + m ≤ 68) : part (nodeBody k l p s o d) q m = part (nb9 k l p s o d) q m := (b10 k l p s o d (by omega)).trans (part_appl _ _ _ _ (by rw [nb9_len]; exact h))
theorem b8 {q m : Nat} (h : q + m ≤ 64) : part (nodeBody k l p s o d) q m = part (nb8 k l p s o d) q m := (b9 k l p s o d (by omega)).trans (part_appl _ _ _ _ (by rw [nb8_len]; exact h))
theorem b7 {q m : Nat} (h : q + m ≤ 24) : part (nodeBody k l p s o d) q m = part (nb7 k l p s o) q m := (b8 k l p s o d (by omega)).trans (part_appl _ _ _ _ (by rw [nb7_len]; exact h))
theorem b6 {q m : Nat} (h : q + m ≤ 20) : part (nodeBody k l p s o d) q m = part (nb6 k l p s o) q m := (b7 k l p s o d (by omega)).trans (part_appl _ _ _ _ (by rw [nb6_len]; exact h))
theorem b5 {q m : Nat} (h : q + m ≤ 16) : part (nodeBody k l p s o d) q m = part (nb5 k l p s) q m := (b6 k l p s o d (by omega)).trans (part_appl _ _ _ _ (by rw [nb5_len]; exact h))
theorem b4 {q m : Nat} (h : q + m ≤ 8) : part (nodeBody k l p s o d) q m = part (nb4 k l p) q m := (b5 k l p s o d (by omega)).trans (part_appl _ _ _ _ (by rw [nb4_len]; exact h))
theorem b3 {q m : Nat} (h : q + m ≤ 4) : part (nodeBody k l p s o d) q m = part (nb3 k l) q m := (b4 k l p s o d (by omega)).trans (part_appl _ _ _ _ (by rw [nb3_len]; exact h))
theorem b2 {q m : Nat} (h : q + m ≤ 2) : part (nodeBody k l p s o d) q m = part (nb2 k) q m := (b3 k l p s o d (by omega)).trans (part_appl _ _ _ _ (by rw [nb2_len]; exact h))
theorem fk (h : k < 256) : u8 (nodeBody k l p s o d) 0 = k := by
  unfold u8
  rw [b2 k l p s o d (by omega), nb2, part_low0 _ _ _ (by rw [nb1_len]), nb1, le_leb _ _ (by omega)]
theorem fl (h : l < 65536) : u16 (nodeBody k l p s o d) 2 = l := by
  unfold u16
  rw [b3 k l p s o d (by omega), nb3, part_app _ _ _ _ (by rw [nb2_len]), leb_take, le_leb _ _ (by omega)]
theorem fp (h : p < 4294967296) : u32 (nodeBody k l p s o d) 4 = p := by
  unfold u32
  rw [b4 k l p s o d (by omega), nb4, part_app _ _ _ _ (by rw [nb3_len]), leb_take, le_leb _ _ (by omega)]
theorem fs (h : s < 9223372036854775808) : s64 (nodeBody k l p s o d) 8 = (s : Int) := by
  unfold s64
  rw [b5 k l p s o d (by omega), nb5, part_app _ _ _ _ (by rw [nb4_len]), leb_take, le_leb _ _ (by omega)]
  unfold wrap64
  omega
theorem fo (h : o < 4294967296) : u32 (nodeBody k l p s o d) 16 = o := by
  unfold u32
  rw [b6 k l p s o d (by omega), nb6, part_app _ _ _ _ (by rw [nb5_len]), leb_take, le_leb _ _ (by omega)]
theorem fd (h : ∀ i, i < 12 → d i < 4294967296) (i : Nat) (hi : i < 12) : u32 (nodeBody k l p s o d) (24 + 4 * i) = d i := by
  unfold u32
  have hd := h i hi
  by_cases e1 : i = 11
  · subst e1
    rw [b10 k l p s o d (by omega), nb10, part_app _ _ _ _ (by rw [nb9_len]), leb_take, le_leb _ _ (by omega)]
  · by_cases e2 : i = 10
    · subst e2
      rw [b9 k l p s o d (by omega), nb9, part_app _ _ _ _ (by rw [nb8_len]), leb_take, le_leb _ _ (by omega)]
    · have := part_appr (nb7 k l p s o) (ptrs d 10) (4 * i) 4
      rw [nb7_len] at this
      rw [b8 k l p s o d (by omega), nb8, this, ptrs_at d 10 i (by omega), le_leb _ _ (by omega)]
theorem fz1 : Zeros (part (nodeBody k l p s o d) 1 1) := by
  rw [b2 k l p s o d (by omega), nb2, part_app _ _ _ _ (by rw [nb1_len])]
  intro x hx
  exact (List.mem_replicate.1 (List.mem_of_mem_take hx)).2
theorem fz2 : Zeros (part (nodeBody k l p s o d) 20 4) := by
  rw [b7 k l p s o d (by omega), nb7, part_app _ _ _ _ (by rw [nb6_len])]
  intro x hx
  exact (List.mem_replicate.1 (List.mem_of_mem_take hx)).2
theorem fz3 : Zeros (part (nodeBody k l p s o d) 72 52) := by
  rw [nodeBody, part_app _ _ _ _ (by rw [nb10_len])]
  intro x hx
  exact (List.mem_replicate.1 (List.mem_of_mem_take hx)).2
end
theorem sealed_bytes {b : List Int} (hb : Bytes b) : Bytes (sealed b) := bytes_app hb (leb_bytes 4 (sumOf b))
theorem sealed_body {b : List Int} {n : Nat} (h : b.length = n) : part (sealed b) 0 n = b := part_low0 b _ n h.symm
theorem sealed_sum {b : List Int} (hb : Bytes b) (hl : 0 < b.length) : SumOk (sealed b) := by
  unfold SumOk
  rw [sealed_len, show b.length + 4 - 4 = b.length by omega, sealed_body rfl]
  show le (part (b ++ leb 4 (sumOf b)) b.length 4) = _
  rw [part_app _ _ _ _ rfl, leb_take, le_leb _ _ (by have := sumOf_lt hb; omega)]
/-- What is encoded is decoded to the same. -/
theorem dec_enc {x y : NV} {b : List Int} {E E' : Int} (hf : NFits x.k x.l x.p x.s x.o x.d) (he : EncR x b E) (hd : DecR b y E') : E = 0 ∧ E' = 0 ∧ b.length = 128 ∧ Bytes b ∧ NSame x.k x.l x.p x.s x.o x.d y.k y.l y.p y.s y.o y.d := by
  rcases he with ⟨h0, _⟩ | ⟨_, _, rfl, rfl⟩ | ⟨_, hn, _⟩
  · have h1 := hf.1.1
    have h2 := h0.1
    omega
  · obtain ⟨hk, hl, hp, hs, ho, hdd⟩ := hf
    have hp0 : 0 ≤ x.p ∧ x.p ≤ 1024 := by rcases hp with hp | hp <;> omega
    have hdi : ∀ i, i < 12 → (x.d i).toNat < 4294967296 ∧ (((x.d i).toNat : Nat) : Int) = x.d i := fun i hi => by
      have := (pf_iff (x.d i)).1 (hdd i hi)
      omega
    have hbl := nodeBody_len x.k.toNat x.l.toNat x.p.toNat x.s.toNat x.o.toNat (fun i => (x.d i).toNat)
    have hbb := nodeBody_bytes x.k.toNat x.l.toNat x.p.toNat x.s.toNat x.o.toNat (fun i => (x.d i).toNat)
    have hpart := sealed_body hbl
    have a0 := fk x.k.toNat x.l.toNat x.p.toNat x.s.toNat x.o.toNat (fun i => (x.d i).toNat) (by omega)
    have a1 := fl x.k.toNat x.l.toNat x.p.toNat x.s.toNat x.o.toNat (fun i => (x.d i).toNat) (by omega)
    have a2 := fp x.k.toNat x.l.toNat x.p.toNat x.s.toNat x.o.toNat (fun i => (x.d i).toNat) (by omega)
    have a3 := fs x.k.toNat x.l.toNat x.p.toNat x.s.toNat x.o.toNat (fun i => (x.d i).toNat) (by omega)
    have a4 := fo x.k.toNat x.l.toNat x.p.toNat x.s.toNat x.o.toNat (fun i => (x.d i).toNat) (by omega)
    have a5 := fd x.k.toNat x.l.toNat x.p.toNat x.s.toNat x.o.toNat (fun i => (x.d i).toNat) (fun i hi => (hdi i hi).1)
    have z1 := fz1 x.k.toNat x.l.toNat x.p.toNat x.s.toNat x.o.toNat (fun i => (x.d i).toNat)
    have z2 := fz2 x.k.toNat x.l.toNat x.p.toNat x.s.toNat x.o.toNat (fun i => (x.d i).toNat)
    have z3 := fz3 x.k.toNat x.l.toNat x.p.toNat x.s.toNat x.o.toNat (fun i => (x.d i).toNat)
    generalize nodeBody x.k.toNat x.l.toNat x.p.toNat x.s.toNat x.o.toNat (fun i => (x.d i).toNat) = B at *
    have hlen : (sealed B).length = 128 := by rw [sealed_len]; omega
    have e0 : ((u8 B 0 : Nat) : Int) = x.k := by rw [a0]; omega
    have e1 : ((u16 B 2 : Nat) : Int) = x.l := by rw [a1]; omega
    have e2 : ((u32 B 4 : Nat) : Int) = x.p := by rw [a2]; omega
    have e3 : s64 B 8 = x.s := by rw [a3]; omega
    have e4 : ((u32 B 16 : Nat) : Int) = x.o := by rw [a4]; omega
    have e5 : ∀ i, i < 12 → ((u32 B (24 + 4 * i) : Nat) : Int) = x.d i := fun i hi => by rw [a5 i hi]; exact (hdi i hi).2
    have hok : NodeOk (sealed B) := by
      refine ⟨sealed_sum hbb (by omega), ?_⟩
      rw [hpart]
      refine ⟨z1, z2, z3, ?_⟩
      rw [e0, e1, e2, e3, e4]
      refine ⟨hk, hl, hp, hs, ho, fun i hi => ?_⟩
      show PF ((u32 B (24 + 4 * i) : Nat) : Int)
      rw [e5 i hi]
      exact hdd i hi
    have hnz : ¬ Zeros (sealed B) := fun hz => by
      have h1 : u8 B 0 = 0 := by
        have := le_zeros (zeros_part (zeros_part hz 0 124) 0 1)
        rw [hpart] at this
        exact this
      rw [h1] at e0
      have := hk.1
      omega
    rcases hd with ⟨h, _⟩ | ⟨_, h, _⟩ | ⟨_, _, _, rfl, rfl⟩ | ⟨_, _, h, _⟩
    · exact absurd hlen h
    · exact absurd h hnz
    · rw [hpart]
      exact ⟨rfl, rfl, hlen, sealed_bytes hbb, e0.symm, e1.symm, e2.symm, e3.symm, e4.symm, fun i hi => (e5 i hi).symm⟩
    · exact absurd hok h
  · exact absurd hf hn
theorem str_txt (s : ByteArray) : strOfNums (txt s) = s := by
  cases s with
  | mk a =>
    have e : ((fun n : Int => UInt8.ofNat n.toNat) ∘ fun b : UInt8 => ((b.toNat : Nat) : Int)) = id := by
      funext b
      simp
    unfold strOfNums txt
    rw [List.map_map, e]
    simp
/-- The same of an entry. -/
theorem ent_same {n k : Int} {s : ByteArray} (hf : EFits n k s) : (entEnc n k s).2 = 0 ∧ (entEnc n k s).1.length = 64 ∧ Bytes (entEnc n k s).1 ∧ entDec (entEnc n k s).1 = (n, k, s, 0) := by
  have hN : ¬ ENone n k s := fun h => by have h1 := hf.1.1; have h2 := h.1; omega
  rcases entEnc_cases n k s with ⟨h, _⟩ | ⟨_, _, e⟩ | ⟨_, h, _⟩
  · exact absurd h hN
  · rw [e]
    obtain ⟨hn, hk, hnm⟩ := hf
    obtain ⟨s0, s1⟩ := name_ok hnm
    have hbl : (entBody n.toNat k.toNat s).length = 60 := entBody_len _ _ s1
    have hbb := entBody_bytes n.toNat k.toNat s
    have hlen : (sealed (entBody n.toNat k.toNat s)).length = 64 := by rw [sealed_len]; omega
    have hp : ∀ q m, q + m ≤ 60 → part (sealed (entBody n.toNat k.toNat s)) q m = part (entBody n.toNat k.toNat s) q m := fun q m h => part_appl _ _ _ _ (by omega)
    have q0 : u32 (sealed (entBody n.toNat k.toNat s)) 0 = n.toNat := by
      unfold u32
      rw [hp 0 4 (by omega)]
      unfold entBody
      rw [part_appl _ _ _ _ (by simp only [List.length_append, leb_len, txt_len]; omega), part_appl _ _ _ _ (by simp only [List.length_append, leb_len]; omega), part_appl _ _ _ _ (by simp only [List.length_append, leb_len]; omega), part_low0 _ _ _ (by rw [leb_len]), le_leb _ _ (by omega)]
    have q4 : u8 (sealed (entBody n.toNat k.toNat s)) 4 = k.toNat := by
      unfold u8
      rw [hp 4 1 (by omega)]
      unfold entBody
      rw [part_appl _ _ _ _ (by simp only [List.length_append, leb_len, txt_len]; omega), part_appl _ _ _ _ (by simp only [List.length_append, leb_len]; omega), part_appl _ _ _ _ (by simp only [List.length_append, leb_len]; omega), part_app _ _ _ _ (by rw [leb_len]), leb_take, le_leb _ _ (by omega)]
    have q5 : u8 (sealed (entBody n.toNat k.toNat s)) 5 = s.size := by
      unfold u8
      rw [hp 5 1 (by omega)]
      unfold entBody
      rw [part_appl _ _ _ _ (by simp only [List.length_append, leb_len, txt_len]; omega), part_appl _ _ _ _ (by simp only [List.length_append, leb_len]; omega), part_app _ _ _ _ (by simp only [List.length_append, leb_len]), leb_take, le_leb _ _ (by omega)]
    have qn : nm (sealed (entBody n.toNat k.toNat s)) = s := by
      unfold nm
      rw [q5, hp 6 s.size (by omega)]
      unfold entBody
      rw [part_appl _ _ _ _ (by simp only [List.length_append, leb_len, txt_len]; omega), part_app _ _ _ _ (by simp only [List.length_append, leb_len]), List.take_of_length_le (by rw [txt_len]; omega)]
      exact str_txt s
    have hn' : ((n.toNat : Nat) : Int) = n := by omega
    have hk' : ((k.toNat : Nat) : Int) = k := by omega
    have hok : okB (sealed (entBody n.toNat k.toNat s)) = true := by
      unfold okB
      rw [q0, q4, q5, qn, hn', hk', e]
      simp [s1]
    refine ⟨rfl, hlen, sealed_bytes hbb, ?_⟩
    rw [entDec_ok hlen hok, q0, q4, qn, hn', hk']
  · exact absurd hf h
/-- The same of a superblock. -/
theorem sup_same {s l n : Int} (hg : Geo s l n) : (supEnc s l n).2 = 0 ∧ (supEnc s l n).1.length = 512 ∧ Bytes (supEnc s l n).1 ∧ supDec (supEnc s l n).1 = (s, l, n, 0) := by
  have e : supEnc s l n = (sealed (supBody s.toNat l.toNat n.toNat), 0) := by unfold supEnc; rw [if_pos ((geoB_iff s l n).2 hg)]
  rw [e]
  have hg' := hg
  obtain ⟨⟨h1, h2⟩, ⟨h3, h4⟩, h5, h6, h7⟩ := hg
  have hlen := sealed_sup s.toNat l.toNat n.toNat
  have hhead : headL.length = 8 := rfl
  have hp : ∀ q m, q + m ≤ 508 → part (sealed (supBody s.toNat l.toNat n.toNat)) q m = part (supBody s.toNat l.toNat n.toNat) q m := fun q m h => part_appl _ _ _ _ (by rw [supBody_len]; exact h)
  have q8 : u32 (sealed (supBody s.toNat l.toNat n.toNat)) 8 = s.toNat := by
    unfold u32
    rw [hp 8 4 (by omega)]
    unfold supBody
    rw [part_appl _ _ _ _ (by simp only [List.length_append, leb_len, hhead]; omega), part_appl _ _ _ _ (by simp only [List.length_append, leb_len, hhead]; omega), part_appl _ _ _ _ (by simp only [List.length_append, leb_len, hhead]; omega), part_app _ _ _ _ hhead.symm, leb_take, le_leb _ _ (by omega)]
  have q12 : u32 (sealed (supBody s.toNat l.toNat n.toNat)) 12 = l.toNat := by
    unfold u32
    rw [hp 12 4 (by omega)]
    unfold supBody
    rw [part_appl _ _ _ _ (by simp only [List.length_append, leb_len, hhead]; omega), part_appl _ _ _ _ (by simp only [List.length_append, leb_len, hhead]; omega), part_app _ _ _ _ (by simp only [List.length_append, leb_len, hhead]), leb_take, le_leb _ _ (by omega)]
  have q16 : u32 (sealed (supBody s.toNat l.toNat n.toNat)) 16 = n.toNat := by
    unfold u32
    rw [hp 16 4 (by omega)]
    unfold supBody
    rw [part_appl _ _ _ _ (by simp only [List.length_append, leb_len, hhead]; omega), part_app _ _ _ _ (by simp only [List.length_append, leb_len, hhead]), leb_take, le_leb _ _ (by omega)]
  have e1 : ((s.toNat : Nat) : Int) = s := by omega
  have e2 : ((l.toNat : Nat) : Int) = l := by omega
  have e3 : ((n.toNat : Nat) : Int) = n := by omega
  refine ⟨rfl, hlen, sealed_bytes (supBody_bytes _ _ _), ?_⟩
  have hr : refB (sealed (supBody s.toNat l.toNat n.toNat)) = true := by
    rw [refB_iff]
    refine ⟨?_, ?_⟩
    · rw [q8, q12, q16, e1, e2, e3]; exact hg'
    · rw [q8, q12, q16]
  unfold supDec
  rw [if_neg (fun h => h hlen), if_pos hr, q8, q12, q16, e1, e2, e3]
end Go.Proofs.Ytkkmkogpbhcpmab
