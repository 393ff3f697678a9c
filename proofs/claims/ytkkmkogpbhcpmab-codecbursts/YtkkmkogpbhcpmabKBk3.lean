import Derived.Test.YtkkmkogpbhcpmabKBk2
namespace Go.Proofs.Ytkkmkogpbhcpmab
open Go.RowKit

/-- New bytes, as long as told. -/
def NewB (w w' : World) (g c n : Nat) (b : List Int) : Prop := b.length = n ∧ Src w' (some ⟨g, 0, none⟩) n b ∧ Bytes b ∧ n ≤ c ∧ c ≤ 9223372036854775807 ∧ Below w.heap.size w w'
theorem Made.newB {w w' : World} {v : Value} {l : List Int} (h : Made w w' v l) {n : Nat} (hn : l.length = n) (hb : Bytes l) : ∃ g c, v = .slice (some ⟨g, 0, none⟩) n c ∧ NewB w w' g c n l := by
  obtain ⟨g, c, rfl, _, hr, hbb⟩ := h
  have h1 := hr.le
  have h2 := hr.max
  simp only [bs, List.length_map] at h1
  unfold maxLen at h2
  have h3 := hr.src
  rw [hn] at h1 h3
  rw [hn]
  exact ⟨g, c, rfl, hn, h3, hb, h1, by omega, hbb⟩
theorem encnode_back (y : NV) (w : World) (hf : NFits y.k y.l y.p y.s y.o y.d) :
    Calls Try.prog 16 #[y.v] w fun e w' => ∃ g c b, e = .returned (.tuple #[.slice (some ⟨g, 0, none⟩) 128 c, .int .i64 0]) ∧ EncR y b 0 ∧ NewB w w' g c 128 b := by
  refine (encnode_any y w).mono ?_
  rintro e w' ⟨v, b, E, hen, rfl, hm, _, _⟩
  have hx : E = 0 ∧ b.length = 128 ∧ Bytes b := by
    rcases hen with ⟨h0, _⟩ | ⟨_, _, rfl, rfl⟩ | ⟨_, h, _⟩
    · have h1 := hf.1.1
      have h2 := h0.1
      omega
    · exact ⟨rfl, by rw [sealed_len, nodeBody_len], sealed_bytes (nodeBody_bytes _ _ _ _ _ _)⟩
    · exact absurd hf h
  obtain ⟨rfl, hl, hb⟩ := hx
  obtain ⟨g, c, rfl, hN⟩ := (hm rfl).newB hl hb
  exact ⟨g, c, b, rfl, hen, hN⟩
theorem encent_back (n k : Int) (s : ByteArray) (t : Int) (w : World) (hf : EFits n k s) :
    Calls Try.prog 17 #[ent n k s t] w fun e w' => ∃ g c b, e = .returned (.tuple #[.slice (some ⟨g, 0, none⟩) 64 c, .int .i64 0]) ∧ entDec b = (n, k, s, 0) ∧ NewB w w' g c 64 b := by
  have hs := ent_same hf
  have h0 : 0 ≤ n ∧ 0 ≤ k := by obtain ⟨⟨_, _⟩, ⟨_, _⟩, _⟩ := hf; omega
  obtain ⟨N, rfl⟩ := Int.eq_ofNat_of_zero_le h0.1
  obtain ⟨K, rfl⟩ := Int.eq_ofNat_of_zero_le h0.2
  have e : entEnc (N : Int) (K : Int) s = (sealed (entBody N K s), 0) := by
    rcases entEnc_cases (N : Int) (K : Int) s with ⟨h, _⟩ | ⟨_, _, e⟩ | ⟨_, h, _⟩
    · have h1 := hf.1.1
      have h2 := h.1
      omega
    · exact e
    · exact absurd hf h
  rw [e] at hs
  refine (encent_ok N K s t w hf).mono ?_
  rintro e w' ⟨v, rfl, hm⟩
  obtain ⟨g, c, rfl, hN⟩ := hm.newB hs.2.1 hs.2.2.1
  exact ⟨g, c, _, rfl, hs.2.2.2, hN⟩
theorem encsuper_back (s l n : Int) (w : World) (hg : Geo s l n) :
    Calls Try.prog 20 #[agg3 s l n] w fun e w' => ∃ g c b, e = .returned (.tuple #[.slice (some ⟨g, 0, none⟩) 512 c, .int .i64 0]) ∧ supDec b = (s, l, n, 0) ∧ NewB w w' g c 512 b := by
  have hs := sup_same hg
  have h0 : 0 ≤ s ∧ 0 ≤ l ∧ 0 ≤ n := by obtain ⟨⟨_, _⟩, ⟨_, _⟩, _, _, _⟩ := hg; omega
  obtain ⟨S, rfl⟩ := Int.eq_ofNat_of_zero_le h0.1
  obtain ⟨L, rfl⟩ := Int.eq_ofNat_of_zero_le h0.2.1
  obtain ⟨N, rfl⟩ := Int.eq_ofNat_of_zero_le h0.2.2
  have e : supEnc (S : Int) (L : Int) (N : Int) = (sealed (supBody S L N), 0) := by unfold supEnc; rw [if_pos ((geoB_iff _ _ _).2 hg)]; rfl
  rw [e] at hs
  refine (encsuper_ok S L N w hg).mono ?_
  rintro e w' ⟨v, rfl, hm⟩
  obtain ⟨g, c, rfl, hN⟩ := hm.newB hs.2.1 hs.2.2.1
  exact ⟨g, c, _, rfl, hs.2.2.2, hN⟩
end Go.Proofs.Ytkkmkogpbhcpmab
