import Derived.Test.YtcpmapknmkholaaW10
import Derived.Great.BuildSlice
section
namespace Go.Proofs.Ytcpmapknmkholaa
open Go.RowKit

/-- New bytes, as long as told. -/
def NewB (w w' : World) (g c n : Nat) (b : List Int) : Prop := b.length = n ∧ Src w' (some ⟨g, 0, none⟩) n b ∧ Bytes b ∧ n ≤ c ∧ c ≤ 9223372036854775807 ∧ Below w.heap.size w w'
theorem Made.newB {w w' : World} {v : Value} {l : List Int} (h : Made w w' v l) {n : Nat} (hn : l.length = n) (hb : Bytes l) : ∃ g c, v = .slice (some ⟨g, 0, none⟩) n c ∧ NewB w w' g c n l := by
  obtain ⟨g, c, rfl, _, hr, hbb⟩ := h
  have h1 := hr.le
  have h2 := hr.max
  simp only [bs, List.length_map] at h1
  unfold maxLen at h2
  have h3 := hr.src
  rw [hn] at h1 h3
  rw [hn]
  exact ⟨g, c, rfl, hn, h3, hb, h1, by omega, hbb⟩
theorem encnode_back (y : NV) (w : World) (hf : NFits y.k y.l y.p y.s y.o y.d) :
    Calls Try.prog 12 #[y.v] w fun e w' => ∃ g c b, e = .returned (.tuple #[.slice (some ⟨g, 0, none⟩) 128 c, .int .i64 0]) ∧ EncR y b 0 ∧ NewB w w' g c 128 b := by
  refine (encnode_any y w).mono ?_
  rintro e w' ⟨v, b, E, hen, rfl, hm, _, _⟩
  have hx : E = 0 ∧ b.length = 128 ∧ Bytes b := by
    rcases hen with ⟨h0, _⟩ | ⟨_, _, rfl, rfl⟩ | ⟨_, h, _⟩
    · have h1 := hf.1.1
      have h2 := h0.1
      omega
    · exact ⟨rfl, by rw [sealed_len, nodeBody_len], sealed_bytes (nodeBody_bytes _ _ _ _ _ _)⟩
    · exact absurd hf h
  obtain ⟨rfl, hl, hb⟩ := hx
  obtain ⟨g, c, rfl, hN⟩ := (hm rfl).newB hl hb
  exact ⟨g, c, b, rfl, hen, hN⟩
theorem encent_back (n k : Int) (s : ByteArray) (t : Int) (w : World) (hf : EFits n k s) :
    Calls Try.prog 13 #[ent n k s t] w fun e w' => ∃ g c b, e = .returned (.tuple #[.slice (some ⟨g, 0, none⟩) 64 c, .int .i64 0]) ∧ entDec b = (n, k, s, 0) ∧ NewB w w' g c 64 b := by
  have hs := ent_same hf
  have h0 : 0 ≤ n ∧ 0 ≤ k := by obtain ⟨⟨_, _⟩, ⟨_, _⟩, _⟩ := hf; omega
  obtain ⟨N, rfl⟩ := Int.eq_ofNat_of_zero_le h0.1
  obtain ⟨K, rfl⟩ := Int.eq_ofNat_of_zero_le h0.2
  have e : entEnc (N : Int) (K : Int) s = (sealed (entBody N K s), 0) := by
    rcases entEnc_cases (N : Int) (K : Int) s with ⟨h, _⟩ | ⟨_, _, e⟩ | ⟨_, h, _⟩
    · have h1 := hf.1.1
      have h2 := h.1
      omega
    · exact e
    · exact absurd hf h
  rw [e] at hs
  refine (encent_ok N K s t w hf).mono ?_
  rintro e w' ⟨v, rfl, hm⟩
  obtain ⟨g, c, rfl, hN⟩ := hm.newB hs.2.1 hs.2.2.1
  exact ⟨g, c, _, rfl, hs.2.2.2, hN⟩
theorem encsuper_back (s l n : Int) (w : World) (hg : Geo s l n) :
    Calls Try.prog 16 #[agg3 s l n] w fun e w' => ∃ g c b, e = .returned (.tuple #[.slice (some ⟨g, 0, none⟩) 512 c, .int .i64 0]) ∧ supDec b = (s, l, n, 0) ∧ NewB w w' g c 512 b := by
  have hs := sup_same hg
  have h0 : 0 ≤ s ∧ 0 ≤ l ∧ 0 ≤ n := by obtain ⟨⟨_, _⟩, ⟨_, _⟩, _, _, _⟩ := hg; omega
  obtain ⟨S, rfl⟩ := Int.eq_ofNat_of_zero_le h0.1
  obtain ⟨L, rfl⟩ := Int.eq_ofNat_of_zero_le h0.2.1
  obtain ⟨N, rfl⟩ := Int.eq_ofNat_of_zero_le h0.2.2
  have e : supEnc (S : Int) (L : Int) (N : Int) = (sealed (supBody S L N), 0) := by unfold supEnc; rw [if_pos ((geoB_iff _ _ _).2 hg)]; rfl
  rw [e] at hs
  refine (encsuper_ok S L N w hg).mono ?_
  rintro e w' ⟨v, rfl, hm⟩
  obtain ⟨g, c, rfl, hN⟩ := hm.newB hs.2.1 hs.2.2.1
  exact ⟨g, c, _, rfl, hs.2.2.2, hN⟩
end Go.Proofs.Ytcpmapknmkholaa
end

section
namespace Go.Proofs.Ytcpmapknmkholaa
open Go.RowKit Go.Maps

/-- An entry's value; a superblock's. -/
structure EV where
  n : Int
  k : Int
  s : ByteArray
  t : Int
structure SV where
  s : Int
  l : Int
  n : Int
abbrev nF (y : NV) : List Value := ndl y.k y.l y.p y.s y.o y.d
abbrev eF (x : EV) : List Value := [.int .i64 x.n, .int .i64 x.k, .string x.s, .int .i64 x.t]
abbrev sF (x : SV) : List Value := [.int .i64 x.s, .int .i64 x.l, .int .i64 x.n]
def NOk (y : NV) : Prop := NNone y.k y.l y.p y.s y.o y.d ∨ NFits y.k y.l y.p y.s y.o y.d
def EOk (x : EV) : Prop := ENone x.n x.k x.s ∨ EFits x.n x.k x.s
def SOk (x : SV) : Prop := Geo x.s x.l x.n

/-- The answer of number i is b. -/
def Cd (ns : List NV) (es : List EV) (ss : List SV) (i : Nat) (b : List Int) : Prop :=
  if i < ns.length then ∃ y, ns[i]? = some y ∧ EncR y b 0
  else if i < ns.length + es.length then ∃ x, es[i - ns.length]? = some x ∧ entEnc x.n x.k x.s = (b, 0)
  else ∃ x, ss[i - ns.length - es.length]? = some x ∧ supEnc x.s x.l x.n = (b, 0)
theorem EncR.det {y : NV} {b b' : List Int} (h : EncR y b 0) (h' : EncR y b' 0) : b = b' := by
  rcases h with ⟨h1, rfl, _⟩ | ⟨h1, _, rfl, _⟩ | ⟨_, _, _, h⟩
  · rcases h' with ⟨_, rfl, _⟩ | ⟨h2, _, rfl, _⟩ | ⟨h2, _, _, _⟩
    · rfl
    · exact absurd h1 h2
    · exact absurd h1 h2
  · rcases h' with ⟨h2, rfl, _⟩ | ⟨_, _, rfl, _⟩ | ⟨_, _, _, h⟩
    · exact absurd h2 h1
    · rfl
    · cases h
  · cases h
section
variable {ns : List NV} {es : List EV} {ss : List SV} {i : Nat} {b b' : List Int}
theorem Cd.det (h : Cd ns es ss i b) (h' : Cd ns es ss i b') : b = b' := by
  unfold Cd at h h'
  split at h
  · rename_i hi
    rw [if_pos hi] at h'
    obtain ⟨y, e, h⟩ := h
    obtain ⟨y', e', h'⟩ := h'
    rw [e] at e'
    cases e'
    exact h.det h'
  · rename_i hi
    rw [if_neg hi] at h'
    split at h
    · rename_i hj
      rw [if_pos hj] at h'
      obtain ⟨y, e, h⟩ := h
      obtain ⟨y', e', h'⟩ := h'
      rw [e] at e'
      cases e'
      rw [h] at h'
      exact congrArg Prod.fst h'
    · rename_i hj
      rw [if_neg hj] at h'
      obtain ⟨y, e, h⟩ := h
      obtain ⟨y', e', h'⟩ := h'
      rw [e] at e'
      cases e'
      rw [h] at h'
      exact congrArg Prod.fst h'
end

/-- What a call has made: bytes in a new block. -/
def NewR (w w' : World) (g c : Nat) (b : List Int) : Prop := w.heap.size ≤ g ∧ RowAt w' 5 g c (bs b) ∧ Below w.heap.size w w' ∧ 0 < b.length ∧ b.length ≤ 512
theorem Made.newR {w w' : World} {v : Value} {l : List Int} (h : Made w w' v l) (h0 : 0 < l.length) (h1 : l.length ≤ 512) : ∃ g c, v = .slice (some ⟨g, 0, none⟩) l.length c ∧ NewR w w' g c l := by
  obtain ⟨g, c, rfl, hg, hr, hb⟩ := h
  exact ⟨g, c, rfl, hg, hr, hb, h0, h1⟩

theorem encN (y : NV) (hy : NOk y) (w : World) : Calls Try.prog 12 #[y.v] w fun e w' => ∃ g c b, e = .returned (.tuple #[.slice (some ⟨g, 0, none⟩) b.length c, .int .i64 0]) ∧ EncR y b 0 ∧ NewR w w' g c b := by
  refine (encnode_any y w).mono ?_
  rintro e w' ⟨v, b, E, hen, rfl, hm, _, _⟩
  have hx : E = 0 ∧ b.length = 128 := by
    rcases hen with ⟨_, rfl, rfl⟩ | ⟨_, _, rfl, rfl⟩ | ⟨h1, h2, _⟩
    · exact ⟨rfl, zeros128_len⟩
    · exact ⟨rfl, by rw [sealed_len, nodeBody_len]⟩
    · exact (hy.elim h1 h2).elim
  obtain ⟨rfl, hl⟩ := hx
  obtain ⟨g, c, rfl, hN⟩ := (hm rfl).newR (by omega) (by omega)
  exact ⟨g, c, b, rfl, hen, hN⟩
theorem encE (x : EV) (hx : EOk x) (w : World) : Calls Try.prog 13 #[ent x.n x.k x.s x.t] w fun e w' => ∃ g c b, e = .returned (.tuple #[.slice (some ⟨g, 0, none⟩) b.length c, .int .i64 0]) ∧ entEnc x.n x.k x.s = (b, 0) ∧ NewR w w' g c b := by
  obtain ⟨n, k, s, t⟩ := x
  rcases entEnc_cases n k s with ⟨h, e⟩ | ⟨_, hf, e⟩ | ⟨h1, h2, e⟩
  · obtain ⟨rfl, rfl, hs⟩ := h
    refine (encent_none s t w hs).mono ?_
    rintro e' w' ⟨v, rfl, hm⟩
    obtain ⟨g, c, rfl, hN⟩ := hm.newR (by rw [zeros64_len]; omega) (by rw [zeros64_len]; omega)
    exact ⟨g, c, _, rfl, e, hN⟩
  · have hs := ent_same hf
    have h0 : 0 ≤ n ∧ 0 ≤ k := by obtain ⟨⟨_, _⟩, ⟨_, _⟩, _⟩ := hf; omega
    obtain ⟨N, rfl⟩ := Int.eq_ofNat_of_zero_le h0.1
    obtain ⟨K, rfl⟩ := Int.eq_ofNat_of_zero_le h0.2
    rw [e] at hs
    refine (encent_ok N K s t w hf).mono ?_
    rintro e' w' ⟨v, rfl, hm⟩
    have hl : (sealed (entBody N K s)).length = 64 := hs.2.1
    obtain ⟨g, c, rfl, hN⟩ := hm.newR (by omega) (by omega)
    exact ⟨g, c, _, rfl, e, hN⟩
  · exact (hx.elim h1 h2).elim
theorem encS (x : SV) (hx : SOk x) (w : World) : Calls Try.prog 16 #[agg3 x.s x.l x.n] w fun e w' => ∃ g c b, e = .returned (.tuple #[.slice (some ⟨g, 0, none⟩) b.length c, .int .i64 0]) ∧ supEnc x.s x.l x.n = (b, 0) ∧ NewR w w' g c b := by
  obtain ⟨s, l, n⟩ := x
  have hg : Geo s l n := hx
  have hs := sup_same hg
  have h0 : 0 ≤ s ∧ 0 ≤ l ∧ 0 ≤ n := by obtain ⟨⟨_, _⟩, ⟨_, _⟩, _, _, _⟩ := hg; omega
  obtain ⟨S, rfl⟩ := Int.eq_ofNat_of_zero_le h0.1
  obtain ⟨L, rfl⟩ := Int.eq_ofNat_of_zero_le h0.2.1
  obtain ⟨N, rfl⟩ := Int.eq_ofNat_of_zero_le h0.2.2
  have e : supEnc (S : Int) (L : Int) (N : Int) = (sealed (supBody S L N), 0) := by unfold supEnc; rw [if_pos ((geoB_iff _ _ _).2 hg)]; rfl
  rw [e] at hs
  refine (encsuper_ok S L N w hg).mono ?_
  rintro e' w' ⟨v, rfl, hm⟩
  have hl : (sealed (supBody S L N)).length = 512 := hs.2.1
  obtain ⟨g, c, rfl, hN⟩ := hm.newR (by omega) (by omega)
  exact ⟨g, c, _, rfl, e, hN⟩

set_option maxRecDepth 20000 in
set_option maxHeartbeats 4000000 in
/-- The answer of number i. -/
theorem encoded_any {w : World} {lab : Nat → Nat} {va vb vc : Value} {ns : List NV} {es : List EV} {ss : List SV} (hA : SQ w lab 1 27 17 nF va ns) (hB : SQ w lab 2 29 4 eF vb es) (hC : SQ w lab 3 31 3 sF vc ss)
    (oA : ∀ y ∈ ns, NOk y) (oB : ∀ x ∈ es, EOk x) (oC : ∀ x ∈ ss, SOk x) (hn : ns.length ≤ 100000000 ∧ es.length ≤ 100000000 ∧ ss.length ≤ 100000000) (i : Nat) (hi : i < ns.length + es.length + ss.length) :
    Calls Try.prog 8 #[va, vb, vc, .int .i64 (i : Int)] w fun e w' => ∃ g c b, e = .returned (.tuple #[.slice (some ⟨g, 0, none⟩) b.length c, .int .i64 0]) ∧ Cd ns es ss i b ∧ NewR w w' g c b := by
  obtain ⟨aa, ac, eA⟩ := hA.form
  obtain ⟨ba, bc, eB⟩ := hB.form
  obtain ⟨ca, cc, eC⟩ := hC.form
  subst eA
  subst eB
  subst eC
  obtain ⟨na, hna⟩ : ∃ na, na = ns.length := ⟨_, rfl⟩
  obtain ⟨nb, hnb⟩ : ∃ nb, nb = es.length := ⟨_, rfl⟩
  obtain ⟨nc, hnc⟩ : ∃ nc, nc = ss.length := ⟨_, rfl⟩
  obtain ⟨hn1, hn2, hn3⟩ := hn
  by_cases h1 : i < ns.length
  · obtain ⟨g, c, e1, hr⟩ := hA.at h1
    have hc : ∀ b, EncR ns[i] b 0 → Cd ns es ss i b := fun b h => by unfold Cd; rw [if_pos h1]; exact ⟨ns[i], by simp [h1], h⟩
    have he := encN ns[i] (oA _ (List.getElem_mem h1)) w
    generalize ns[i] = y at *
    have ea : aa = some ⟨g, 0, none⟩ := by injection e1
    subst ea
    obtain ⟨K, L, P, S, Q, D⟩ := y
    have Hra := Hid.mk hr
    have HC := Hid.mk hc
    rw [← hna] at h1 hi hn1 ⊢
    rw [← hnb] at hi hn2 ⊢
    rw [← hnc] at hi hn3 ⊢
    have h1' : (i : Int) < (na : Int) := by omega
    clear hr hc hA hB hC oA oB oC e1 hna hnb hnc
    go_enter Try.func8, Try.ntmps8
    go_wp2_with (refine wpList_load_mid rfl 27 _ rfl g (i * 17) rfl (ndl K L P S Q D) _ Hra.out Try.underlying27 rfl infoNode ?_)
    refine he.mono ?_
    rintro e w' ⟨g2, c2, b, rfl, hen, hN⟩
    go_wp2
    go_ret2
    exact ⟨g2, c2, b, rfl, HC.out b hen, hN⟩
  · by_cases h2 : i < ns.length + es.length
    · obtain ⟨j, hj⟩ : ∃ j, j = i - ns.length := ⟨_, rfl⟩
      have hjl : j < es.length := by omega
      obtain ⟨g, c, e1, hr⟩ := hB.at hjl
      have hc : ∀ b, entEnc (es[j]).n (es[j]).k (es[j]).s = (b, 0) → Cd ns es ss i b := fun b h => by unfold Cd; rw [if_neg h1, if_pos h2, ← hj]; exact ⟨es[j], by simp [hjl], h⟩
      have he := encE es[j] (oB _ (List.getElem_mem hjl)) w
      generalize es[j] = y at *
      have ea : ba = some ⟨g, 0, none⟩ := by injection e1
      subst ea
      obtain ⟨N, K, S, T⟩ := y
      have c0 : w.cell? ⟨g, j * 4, none⟩ = some (.int .i64 N) := hr 0 _ rfl
      have c1 : w.cell? ⟨g, j * 4 + 1, none⟩ = some (.int .i64 K) := hr 1 _ rfl
      have c2 : w.cell? ⟨g, j * 4 + 2, none⟩ = some (.string S) := hr 2 _ rfl
      have c3 : w.cell? ⟨g, j * 4 + 3, none⟩ = some (.int .i64 T) := hr 3 _ rfl
      have HC := Hid.mk hc
      rw [← hna] at h1 h2 hi hn1 hj ⊢
      rw [← hnb] at h2 hi hn2 hjl ⊢
      rw [← hnc] at hi hn3 ⊢
      have h1' : ¬ (i : Int) < (na : Int) := by omega
      have h2' : (i : Int) < (na : Int) + (nb : Int) := by omega
      have h3' : (i : Int) - (na : Int) = (j : Int) := by omega
      clear hr hc hA hB hC oA oB oC e1 hna hnb hnc hj
      go_enter Try.func8, Try.ntmps8
      go_wp2_with fail
      refine he.mono ?_
      rintro e w' ⟨g2, c2, b, rfl, hen, hN⟩
      go_wp2
      go_ret2
      exact ⟨g2, c2, b, rfl, HC.out b hen, hN⟩
    · obtain ⟨j, hj⟩ : ∃ j, j = i - ns.length - es.length := ⟨_, rfl⟩
      have hjl : j < ss.length := by omega
      obtain ⟨g, c, e1, hr⟩ := hC.at hjl
      have hc : ∀ b, supEnc (ss[j]).s (ss[j]).l (ss[j]).n = (b, 0) → Cd ns es ss i b := fun b h => by unfold Cd; rw [if_neg h1, if_neg h2, ← hj]; exact ⟨ss[j], by simp [hjl], h⟩
      have he := encS ss[j] (oC _ (List.getElem_mem hjl)) w
      generalize ss[j] = y at *
      have ea : ca = some ⟨g, 0, none⟩ := by injection e1
      subst ea
      obtain ⟨S, L, N⟩ := y
      have c0 : w.cell? ⟨g, j * 3, none⟩ = some (.int .i64 S) := hr 0 _ rfl
      have c1 : w.cell? ⟨g, j * 3 + 1, none⟩ = some (.int .i64 L) := hr 1 _ rfl
      have c2 : w.cell? ⟨g, j * 3 + 2, none⟩ = some (.int .i64 N) := hr 2 _ rfl
      have HC := Hid.mk hc
      obtain ⟨q, hq⟩ : ∃ q, q = i - ns.length := ⟨_, rfl⟩
      rw [← hna] at h1 h2 hi hn1 hj hq ⊢
      rw [← hnb] at h2 hi hn2 hj ⊢
      rw [← hnc] at hi hn3 hjl ⊢
      have h1' : ¬ (i : Int) < (na : Int) := by omega
      have h2' : ¬ (i : Int) < (na : Int) + (nb : Int) := by omega
      have h3' : (i : Int) - (na : Int) = (q : Int) := by omega
      have h4' : (q : Int) - (nb : Int) = (j : Int) := by omega
      have hq5 : q ≤ 400000000 := by omega
      clear hr hc hA hB hC oA oB oC e1 hna hnb hnc hj hq
      go_enter Try.func8, Try.ntmps8
      go_wp2_with fail
      refine he.mono ?_
      rintro e w' ⟨g2, c2, b, rfl, hen, hN⟩
      go_wp2
      go_ret2
      exact ⟨g2, c2, b, rfl, HC.out b hen, hN⟩
end Go.Proofs.Ytcpmapknmkholaa
end

section
namespace Go.Proofs.Ytcpmapknmkholaa
open Go.RowKit Go.Maps

theorem fill_one {s : Nat} (hs : 0 < s) (cells : Array Value) (v : Value) (hv : v.cells.size = s) (hc : cells.size = s) : Instr.fill (fun i => some (i * s, s)) cells [(0, v)] = some v.cells := by
  obtain ⟨r, h1, h2, h3⟩ := Great.fill_dense hs [v] 0 cells (by simpa using hv) (by simp [hc])
  have e : r = v.cells := by
    refine Array.ext_getElem? (fun k => ?_)
    rw [h3 k]
    by_cases hk : k < s
    · rw [if_pos (by simpa using hk), Nat.div_eq_of_lt hk, Nat.mod_eq_of_lt hk]
      simp
    · rw [if_neg (by simpa using hk), Array.getElem?_eq_none (by omega), Array.getElem?_eq_none (by omega)]
  subst e
  exact h1
/-- A slice of one struct is made. -/
theorem wpList_build1 {ops : Array Oper} {rest : List Oper} {o : Oper} {a : Act} {w : World} {Q : Exit → Act → World → Prop} (hg : o.guard = none) (t e : TypeId) (x : Operand) (ho : o.op = .buildSlice t 1 #[(0, x)]) (v : Value) (hv : a.eval x = v)
    (hu : Try.prog.underlying t = some (.slice e)) {ie : TypeInfo} {z : Value} {m : Nat} (hie : Try.prog.info? e = some ie) (hz : ie.zero = some z) (hs : ie.size = m) (h0 : 0 < m) (hm : m ≤ 1000) (hc : v.cells.size = m)
    (h : wpList Try.prog ops Q rest (a.put o.dst (.slice (some ⟨w.heap.size, 0, none⟩) 1 1)) (w.alloc (.cells v.cells e))) : wpList Try.prog ops Q (o :: rest) a w := by
  refine wpList_buildSlice hg t e 1 #[(0, x)] ho v.cells ie z hu hie hz (by rw [hs]; omega) (by rw [hs]; omega) ?_ h
  rw [hs]
  simp only [List.map_toArray, List.map_cons, List.map_nil, hv]
  exact fill_one h0 _ v hc (by simp)

theorem infoN : (Try.prog.info? 27).map (fun i => (i.zero, i.size, i.bytes)) = some (some (nd 0 0 0 0 0 (fun _ => 0)), 17, 136) := by kernel_rfl
theorem infoE : (Try.prog.info? 29).map (fun i => (i.zero, i.size, i.bytes)) = some (some (ent 0 0 ⟨#[]⟩ 0), 4, 40) := by kernel_rfl
theorem infoS : (Try.prog.info? 31).map (fun i => (i.zero, i.size, i.bytes)) = some (some (agg3 0 0 0), 3, 24) := by kernel_rfl

/-- The three rows of what is to be encoded. -/
structure Rws (w : World) (lab : Nat → Nat) (va vb vc : Value) (ns : List NV) (es : List EV) (ss : List SV) : Prop where
  a : SQ w lab 1 27 17 nF va ns
  b : SQ w lab 2 29 4 eF vb es
  c : SQ w lab 3 31 3 sF vc ss
  oa : ∀ y ∈ ns, NOk y
  ob : ∀ x ∈ es, EOk x
  oc : ∀ x ∈ ss, SOk x
section
variable {w w' : World} {lab lab' : Nat → Nat} {va vb vc : Value} {ns : List NV} {es : List EV} {ss : List SV} {X : Nat → Prop}
theorem Rws.gro (h : Rws w lab va vb vc ns es ss) (g : Gro lab lab' w w' X) (h1 : ¬ X 1) (h2 : ¬ X 2) (h3 : ¬ X 3) : Rws w' lab' va vb vc ns es ss :=
  ⟨h.a.gro g h1, h.b.gro g h2, h.c.gro g h3, h.oa, h.ob, h.oc⟩
theorem Rws.later (h : Rws w lab va vb vc ns es ss) (hz : LZ lab w) (hb : Below w.heap.size w w') : Rws w' lab va vb vc ns es ss := h.gro (Gro.below hz hb (fun _ => False)) (fun h => h) (fun h => h) (fun h => h)
set_option maxRecDepth 8000 in
theorem Rws.pushA (h : Rws w lab va vb vc ns es ss) (hz : LZ lab w) (y : NV) (hy : NOk y) (hn : ns.length ≤ 10000000) :
    ∃ g' cap' w', (Builtin.append_ #[22, 22] 22 #[va, .slice (some ⟨w.heap.size, 0, none⟩) 1 1]).run Try.prog (w.alloc (.cells (ndc y.k y.l y.p y.s y.o y.d) 27)) = .ok (.slice (some ⟨g', 0, none⟩) (ns.length + 1) cap') w' ∧ ∃ lab', Gro lab lab' w w' (fun z => z = 1) ∧ Rws w' lab' (.slice (some ⟨g', 0, none⟩) (ns.length + 1) cap') vb vc (ns ++ [y]) es ss := by
  obtain ⟨i0, hi, hz0, hz1, hz2⟩ := info_parts infoN
  obtain ⟨g', cap', w', hr, lab', G, hs⟩ := h.a.push hz Try.underlying22 hi hz0 hz1 hz2 rfl (by decide) y rfl (nl_one _ _ _ _ _ _) (by omega) (by omega)
  exact ⟨g', cap', w', hr, lab', G, hs, h.b.gro G (fun e => by omega), h.c.gro G (fun e => by omega), fun x hx => (List.mem_append.1 hx).elim (h.oa x) (fun e => by rw [List.mem_singleton.1 e]; exact hy), h.ob, h.oc⟩
theorem Rws.pushB (h : Rws w lab va vb vc ns es ss) (hz : LZ lab w) (y : EV) (hy : EOk y) (hn : es.length ≤ 10000000) :
    ∃ g' cap' w', (Builtin.append_ #[23, 23] 23 #[vb, .slice (some ⟨w.heap.size, 0, none⟩) 1 1]).run Try.prog (w.alloc (.cells #[.int .i64 y.n, .int .i64 y.k, .string y.s, .int .i64 y.t] 29)) = .ok (.slice (some ⟨g', 0, none⟩) (es.length + 1) cap') w' ∧ ∃ lab', Gro lab lab' w w' (fun z => z = 2) ∧ Rws w' lab' va (.slice (some ⟨g', 0, none⟩) (es.length + 1) cap') vc ns (es ++ [y]) ss := by
  obtain ⟨i0, hi, hz0, hz1, hz2⟩ := info_parts infoE
  obtain ⟨g', cap', w', hr, lab', G, hs⟩ := h.b.push hz Try.underlying23 hi hz0 hz1 hz2 rfl (by decide) y rfl (by simp [Value.oneCell']) (by omega) (by omega)
  exact ⟨g', cap', w', hr, lab', G, h.a.gro G (fun e => by omega), hs, h.c.gro G (fun e => by omega), h.oa, fun x hx => (List.mem_append.1 hx).elim (h.ob x) (fun e => by rw [List.mem_singleton.1 e]; exact hy), h.oc⟩
theorem Rws.pushC (h : Rws w lab va vb vc ns es ss) (hz : LZ lab w) (y : SV) (hy : SOk y) (hn : ss.length ≤ 10000000) :
    ∃ g' cap' w', (Builtin.append_ #[24, 24] 24 #[vc, .slice (some ⟨w.heap.size, 0, none⟩) 1 1]).run Try.prog (w.alloc (.cells #[.int .i64 y.s, .int .i64 y.l, .int .i64 y.n] 31)) = .ok (.slice (some ⟨g', 0, none⟩) (ss.length + 1) cap') w' ∧ ∃ lab', Gro lab lab' w w' (fun z => z = 3) ∧ Rws w' lab' va vb (.slice (some ⟨g', 0, none⟩) (ss.length + 1) cap') ns es (ss ++ [y]) := by
  obtain ⟨i0, hi, hz0, hz1, hz2⟩ := info_parts infoS
  obtain ⟨g', cap', w', hr, lab', G, hs⟩ := h.c.push hz Try.underlying24 hi hz0 hz1 hz2 rfl (by decide) y rfl (by simp [Value.oneCell']) (by omega) (by omega)
  exact ⟨g', cap', w', hr, lab', G, h.a.gro G (fun e => by omega), h.b.gro G (fun e => by omega), hs, h.oa, h.ob, fun x hx => (List.mem_append.1 hx).elim (h.oc x) (fun e => by rw [List.mem_singleton.1 e]; exact hy)⟩
theorem SQ.one' {α : Type} {y m : Nat} {e : TypeId} {f : α → List Value} (hz : LZ lab w) (x : α) (hf : (f x).length = m) (B : Nat) (hB : w.heap.size = B) : ∃ lab', SQ (w.alloc (.cells (f x).toArray e)) lab' y e m f (.slice (some ⟨B, 0, none⟩) 1 1) [x] ∧ Gro lab lab' w (w.alloc (.cells (f x).toArray e)) (fun z => z = y) := by
  subst hB
  exact ⟨_, SQ.one hz x hf⟩
/-- The rows at first. -/
theorem Rws.first (hz : LZ lab w) (w3 : World) (hw : w3 = ((w.alloc (.cells (ndc 0 0 0 0 0 (fun _ => 0)) 27)).alloc (.cells #[.int .i64 0, .int .i64 0, .string ⟨#[]⟩, .int .i64 0] 29)).alloc (.cells #[.int .i64 25, .int .i64 18, .int .i64 4] 31)) :
    ∃ lab', Gro lab lab' w w3 (fun y => y ≠ 0) ∧ Rws w3 lab' (.slice (some ⟨w.heap.size, 0, none⟩) 1 1) (.slice (some ⟨w.heap.size + 1, 0, none⟩) 1 1) (.slice (some ⟨w.heap.size + 2, 0, none⟩) 1 1) [nv0] [⟨0, 0, ⟨#[]⟩, 0⟩] [⟨25, 18, 4⟩] := by
  obtain ⟨l1, h1, G1⟩ := SQ.one' (e := 27) (y := 1) (f := nF) (m := 17) hz nv0 rfl w.heap.size rfl
  obtain ⟨l2, h2, G2⟩ := SQ.one' (e := 29) (y := 2) (f := eF) (m := 4) G1.lz ⟨0, 0, ⟨#[]⟩, 0⟩ rfl (w.heap.size + 1) (by simp)
  obtain ⟨l3, h3, G3⟩ := SQ.one' (e := 31) (y := 3) (f := sF) (m := 3) G2.lz ⟨25, 18, 4⟩ rfl (w.heap.size + 2) (by simp)
  subst hw
  refine ⟨l3, (G1.join G2 (Z := fun y => y ≠ 0) (fun y e => by omega) (fun y e => by omega)).join G3 (fun _ h => h) (fun y e => by omega), ?_, h2.gro G3 (fun e => by omega), h3, ?_, ?_, ?_⟩
  · exact (h1.gro G2 (fun e => by omega)).gro G3 (fun e => by omega)
  · intro y hy
    rw [List.mem_singleton.1 hy]
    exact .inl ⟨rfl, rfl, rfl, rfl, rfl, fun _ _ => rfl⟩
  · intro y hy
    rw [List.mem_singleton.1 hy]
    exact .inl ⟨rfl, rfl, by decide +kernel⟩
  · intro y hy
    rw [List.mem_singleton.1 hy]
    show Geo 25 18 4
    unfold Geo
    omega
end
end Go.Proofs.Ytcpmapknmkholaa
end

section
namespace Go.Proofs.Ytcpmapknmkholaa
open Go.RowKit Go.Maps

theorem range_later' {w w' : World} {b o : Nat} {cs : List Value} (h : w.rangeAt b o cs) (hb : Below w.heap.size w w') : w'.rangeAt b o cs := fun j v hv => cell_later hb (h j v hv)
/-- New bytes get an owner. -/
theorem NewR.own {w w' : World} {g c y : Nat} {b : List Int} (h : NewR w w' g c b) {lab : Nat → Nat} (hz : LZ lab w) : ∃ lab', Gro lab lab' w w' (fun x => x = y) ∧ OR w' lab' y 5 (.slice (some ⟨g, 0, none⟩) b.length c) b.length (bs b) := by
  have G := Gro.keeps hz (Keeps.of_below (fun _ => False) h.2.2.1) y (fun _ _ h => h.elim)
  have ho := h.2.1.owns
  have e : (bs b).length = b.length := by simp
  rw [e] at ho
  refine ⟨_, G, ho, fun k hk => ?_⟩
  have e2 : k = g := by simpa [Value.ownBlock] using hk.symm
  rw [e2]
  exact relab_new h.1 h.2.1.lt

set_option maxRecDepth 20000 in
set_option maxHeartbeats 32000000 in
theorem codecOwn_any (a : Option Addr) (n c : Nat) (a2 : Option Addr) (n2 c2 : Nat) (a3 : Option Addr) (n3 c3 : Nat) (w : World) (hs : Nodes w w.heap.size a n) (hn : n ≤ 1100000) (hs2 : Entries w w.heap.size a2 n2) (hn2 : n2 ≤ 1100000) (hs3 : Supers w w.heap.size a3 n3) (hn3 : n3 ≤ 1100000) :
    Calls Try.prog 3 #[.slice a n c, .slice a2 n2 c2, .slice a3 n3 c3] w fun e w' => e = .returned (.bool true) ∧ Below w.heap.size w w' := by
  obtain ⟨iN, hiN, hzN, hsN, _⟩ := info_parts infoN
  obtain ⟨iE, hiE, hzE, hsE, _⟩ := info_parts infoE
  obtain ⟨iS, hiS, hzS, hsS, _⟩ := info_parts infoS
  have Hs := Hid.mk hs
  have Hs2 := Hid.mk hs2
  have Hs3 := Hid.mk hs3
  clear hs hs2 hs3
  obtain ⟨w0, hw0⟩ : ∃ w0, w0 = ((w.alloc (.cells (ndc 0 0 0 0 0 (fun _ => 0)) 27)).alloc (.cells #[.int .i64 0, .int .i64 0, .string ⟨#[]⟩, .int .i64 0] 29)).alloc (.cells #[.int .i64 25, .int .i64 18, .int .i64 4] 31) := ⟨_, rfl⟩
  obtain ⟨L0, G0, R0⟩ := Rws.first (lab := fun _ => 0) (fun _ _ => rfl) w0 hw0
  have H0 := Hid.mk (And.intro G0 R0)
  have HW0 := Hid.mk hw0
  clear G0 R0 hw0
  have HBel : Hid (∀ (L : Nat → Nat) (w' : World), Gro (fun _ => 0) L w w' (fun y => y ≠ 0) → Below w.heap.size w w') := fun L w' G => G.belowB (Nat.le_refl _) (fun k hk => absurd rfl hk) (fun h => h rfl)
  go_enter Try.func3, Try.ntmps3
  go_wp2_with (refine wpList_build1 rfl 22 27 _ rfl (nd 0 0 0 0 0 (fun _ => 0)) rfl Try.underlying22 hiN hzN hsN (by decide) (by decide) rfl ?_)
  rw [← HW0.out]
  clear HW0
  obtain ⟨es, hel, ss, hsl, H1⟩ : ∃ es : List EV, es.length = 1 ∧ ∃ ss : List SV, ss.length = 1 ∧ Hid (Gro (fun _ => 0) L0 w w0 (fun y => y ≠ 0) ∧ Rws w0 L0 (.slice (some ⟨w.heap.size, 0, none⟩) 1 1) (.slice (some ⟨w.heap.size + 1, 0, none⟩) 1 1) (.slice (some ⟨w.heap.size + 1 + 1, 0, none⟩) 1 1) [nv0] es ss) := ⟨_, rfl, _, rfl, H0.out⟩
  clear H0
  go_loopw [7, 10] (fun va i wr => ∃ (k : Nat) (L : Nat → Nat) (ns : List NV), k ≤ n ∧ i = .int .i64 (k : Int) ∧ ns.length = k + 1 ∧ Rws wr L va (.slice (some ⟨w.heap.size + 1, 0, none⟩) 1 1) (.slice (some ⟨w.heap.size + 1 + 1, 0, none⟩) 1 1) ns es ss ∧ Gro (fun _ => 0) L w wr (fun y => y ≠ 0)) (fun _ i _ => n - (intOf i).toNat)
  case atStart => exact ⟨0, L0, [nv0], Nat.zero_le _, rfl, rfl, H1.out.2, H1.out.1⟩
  case round =>
    clear H1
    obtain ⟨k, L, ns, hk, rfl, hnl, hR, hG⟩ := hrel
    obtain ⟨aa, ac, rfl⟩ := hR.a.form
    by_cases hlt : k < n
    · have hlt' : (k : Int) < (n : Int) := by omega
      obtain ⟨x, rfl⟩ : ∃ x, a = some x := by
        cases a with
        | none => have := Hs.out.1 rfl; omega
        | some x => exact ⟨x, rfl⟩
      obtain ⟨b, o, rfl, hbB, K, M, P, S, Q, D, hra⟩ := (Hs.out.far (HBel.out _ _ hG)).2 x rfl k hlt
      have Hra := Hid.mk hra
      have ht := tame_any ⟨K, M, P, S, Q, D⟩ wr
      have HR := Hid.mk (And.intro hR hG)
      have HL := Hid.mk hnl
      clear hra hR hG Hs2 Hs3 hnl
      go_wp2_with (refine wpList_load_mid rfl 27 _ rfl b (o + k * 17) rfl (ndl K M P S Q D) _ Hra.out Try.underlying27 rfl infoNode ?_)
      refine ht.mono ?_
      rintro e wa ⟨y, rfl, hfit, hba⟩
      obtain ⟨hR, hG⟩ := HR.out
      have GB := Gro.below hG.lz hba (fun _ => False)
      obtain ⟨g', cap', w', hr, L', G3, R3⟩ := (hR.later hG.lz hba).pushA GB.lz y (.inr hfit) (by have := HL.out; omega)
      have HQ := Hid.mk (And.intro R3 ((hG.join GB (Z := fun y => y ≠ 0) (fun _ h => h) (fun _ h => h.elim)).join G3 (Z := fun y => y ≠ 0) (fun _ h => h) (fun y e => by omega)))
      have HA := Hid.mk hr
      have HLL : Hid ((ns ++ [y]).length = k + 1 + 1) := by
        show (ns ++ [y]).length = k + 1 + 1
        rw [List.length_append, HL.out]
        rfl
      clear ht hba hfit hR hG GB hr G3 R3 HR Hra
      generalize ns.length = q at *
      go_wp2_with (first | refine wpList_build1 rfl 22 27 _ rfl (nd y.k y.l y.p y.s y.o y.d) rfl Try.underlying22 hiN hzN hsN (by decide) (by decide) rfl ?_ | (at_builtin; refine swList_append_run rfl _ _ 22 rfl (.slice aa q ac) (.slice (some ⟨wa.heap.size, 0, none⟩) 1 1) _ rfl rfl HA.out ?_))
      go_roundw
      case rel => exact ⟨k + 1, L', ns ++ [y], by omega, by go_num, HLL.out, HQ.out⟩
      case measure => simp [intOf]; omega
    · have hlt' : ¬ (k : Int) < (n : Int) := by omega
      have H2 := Hid.mk (And.intro hR hG)
      obtain ⟨na, hna⟩ : ∃ na, na = ns.length := ⟨_, rfl⟩
      have hna5 : na ≤ 1100001 := by omega
      have HNA := Hid.mk hna
      rw [← hna]
      clear hR hG hnl Hs hiN hzN hsN hna hk hlt
      go_wp2
      go_loopw [8, 11] (fun vb i wr => ∃ (k : Nat) (L : Nat → Nat) (es : List EV), k ≤ n2 ∧ i = .int .i64 (k : Int) ∧ es.length = k + 1 ∧ Rws wr L (.slice aa na ac) vb (.slice (some ⟨w.heap.size + 1 + 1, 0, none⟩) 1 1) ns es ss ∧ Gro (fun _ => 0) L w wr (fun y => y ≠ 0)) (fun _ i _ => n2 - (intOf i).toNat)
      case atStart => exact ⟨0, L, es, Nat.zero_le _, rfl, hel, by rw [HNA.out]; exact H2.out⟩
      case round =>
        clear H2 hel
        obtain ⟨k, L, es, hk, rfl, hel, hR, hG⟩ := hrel
        obtain ⟨ba, bc, rfl⟩ := hR.b.form
        by_cases hlt : k < n2
        · have hlt' : (k : Int) < (n2 : Int) := by omega
          obtain ⟨x, rfl⟩ : ∃ x, a2 = some x := by
            cases a2 with
            | none => have := Hs2.out.1 rfl; omega
            | some x => exact ⟨x, rfl⟩
          obtain ⟨b, o, rfl, hbB, s, l, y, m, q0, q1, q2, q3, _⟩ := (Hs2.out.far (HBel.out _ _ hG)).2 x rfl k hlt
          have ht := tameEntry_any s l y m wr
          have HR := Hid.mk (And.intro hR hG)
          have HL := Hid.mk hel
          clear hR hG Hs3 hel
          go_wp2_with fail
          refine ht.mono ?_
          rintro e wa ⟨N, K, S, rfl, hfit, hba⟩
          obtain ⟨hR, hG⟩ := HR.out
          have GB := Gro.below hG.lz hba (fun _ => False)
          obtain ⟨g', cap', w', hr, L', G3, R3⟩ := (hR.later hG.lz hba).pushB GB.lz ⟨N, K, S, m⟩ (.inr hfit) (by have := HL.out; omega)
          have HQ := Hid.mk (And.intro R3 ((hG.join GB (Z := fun y => y ≠ 0) (fun _ h => h) (fun _ h => h.elim)).join G3 (Z := fun y => y ≠ 0) (fun _ h => h) (fun y e => by omega)))
          have HA := Hid.mk hr
          have HLL : Hid ((es ++ [(⟨N, K, S, m⟩ : EV)]).length = k + 1 + 1) := by
            show (es ++ [(⟨N, K, S, m⟩ : EV)]).length = k + 1 + 1
            rw [List.length_append, HL.out]
            rfl
          clear ht hba hfit hR hG GB hr G3 R3 HR q0 q1 q2 q3
          generalize es.length = q at *
          go_wp2_with (first | refine wpList_build1 rfl 23 29 _ rfl (ent N K S m) rfl Try.underlying23 hiE hzE hsE (by decide) (by decide) rfl ?_ | (at_builtin; refine swList_append_run rfl _ _ 23 rfl (.slice ba q bc) (.slice (some ⟨wa.heap.size, 0, none⟩) 1 1) _ rfl rfl HA.out ?_))
          go_roundw
          case rel => exact ⟨k + 1, L', es ++ [⟨N, K, S, m⟩], by omega, by go_num, HLL.out, HQ.out⟩
          case measure => simp [intOf]; omega
        · have hlt' : ¬ (k : Int) < (n2 : Int) := by omega
          have H2 := Hid.mk (And.intro hR hG)
          obtain ⟨nb, hnb⟩ : ∃ nb, nb = es.length := ⟨_, rfl⟩
          have hnb5 : nb ≤ 1100001 := by omega
          have HNB := Hid.mk hnb
          rw [← hnb]
          clear hR hG hel Hs2 hiE hzE hsE hnb hk hlt
          go_wp2
          go_loopw [9, 12] (fun vc i wr => ∃ (k : Nat) (L : Nat → Nat) (ss : List SV), k ≤ n3 ∧ i = .int .i64 (k : Int) ∧ ss.length = k + 1 ∧ Rws wr L (.slice aa na ac) (.slice ba nb bc) vc ns es ss ∧ Gro (fun _ => 0) L w wr (fun y => y ≠ 0)) (fun _ i _ => n3 - (intOf i).toNat)
          case atStart => exact ⟨0, L, ss, Nat.zero_le _, rfl, hsl, by rw [HNB.out]; exact H2.out⟩
          case round =>
            clear H2 hsl
            obtain ⟨k, L, ss, hk, rfl, hsl, hR, hG⟩ := hrel
            obtain ⟨ca, cc, rfl⟩ := hR.c.form
            by_cases hlt : k < n3
            · have hlt' : (k : Int) < (n3 : Int) := by omega
              obtain ⟨x, rfl⟩ : ∃ x, a3 = some x := by
                cases a3 with
                | none => have := Hs3.out.1 rfl; omega
                | some x => exact ⟨x, rfl⟩
              obtain ⟨b, o, rfl, hbB, s, l, m, q0, q1, q2, _⟩ := (Hs3.out.far (HBel.out _ _ hG)).2 x rfl k hlt
              have ht := tameSuper_any s l m wr
              have HR := Hid.mk (And.intro hR hG)
              have HL := Hid.mk hsl
              clear hR hG hsl
              go_wp2_with fail
              refine ht.mono ?_
              rintro e wa ⟨X, Y, Z, rfl, hgeo, hba⟩
              obtain ⟨hR, hG⟩ := HR.out
              have GB := Gro.below hG.lz hba (fun _ => False)
              obtain ⟨g', cap', w', hr, L', G3, R3⟩ := (hR.later hG.lz hba).pushC GB.lz ⟨X, Y, Z⟩ hgeo (by have := HL.out; omega)
              have HQ := Hid.mk (And.intro R3 ((hG.join GB (Z := fun y => y ≠ 0) (fun _ h => h) (fun _ h => h.elim)).join G3 (Z := fun y => y ≠ 0) (fun _ h => h) (fun y e => by omega)))
              have HA := Hid.mk hr
              have HLL : Hid ((ss ++ [(⟨X, Y, Z⟩ : SV)]).length = k + 1 + 1) := by
                show (ss ++ [(⟨X, Y, Z⟩ : SV)]).length = k + 1 + 1
                rw [List.length_append, HL.out]
                rfl
              clear ht hba hgeo hR hG GB hr G3 R3 HR q0 q1 q2
              generalize ss.length = q at *
              go_wp2_with (first | refine wpList_build1 rfl 24 31 _ rfl (agg3 X Y Z) rfl Try.underlying24 hiS hzS hsS (by decide) (by decide) rfl ?_ | (at_builtin; refine swList_append_run rfl _ _ 24 rfl (.slice ca q cc) (.slice (some ⟨wa.heap.size, 0, none⟩) 1 1) _ rfl rfl HA.out ?_))
              go_roundw
              case rel => exact ⟨k + 1, L', ss ++ [⟨X, Y, Z⟩], by omega, by go_num, HLL.out, HQ.out⟩
              case measure => simp [intOf]; omega
            · have hlt' : ¬ (k : Int) < (n3 : Int) := by omega
              have H2 := Hid.mk (And.intro hR hG)
              obtain ⟨nc, hnc⟩ : ∃ nc, nc = ss.length := ⟨_, rfl⟩
              have hnc5 : nc ≤ 1100001 := by omega
              have hnc1 : 1 ≤ nc := by omega
              have HNC := Hid.mk hnc
              rw [← hnc]
              clear hR hG hsl Hs3 hiS hzS hsS hnc hk hlt
              obtain ⟨N, hN⟩ : ∃ N, N = na + nb + nc := ⟨_, rfl⟩
              have hN' : (na : Int) + (nb : Int) + (nc : Int) = (N : Int) := by omega
              have hN5 : N ≤ 3300003 := by omega
              have hN1 : 1 ≤ N := by omega
              have HN := Hid.mk hN
              clear hN
              have HLen : Hid (∀ i, i < N → i < ns.length + es.length + ss.length) := fun i hi => by
                have h1 := HNA.out
                have h2 := HNB.out
                have h3 := HNC.out
                have h4 := HN.out
                omega
              have HSm : Hid (ns.length ≤ 100000000 ∧ es.length ≤ 100000000 ∧ ss.length ≤ 100000000) := by
                have h1 := HNA.out
                have h2 := HNB.out
                have h3 := HNC.out
                show ns.length ≤ 100000000 ∧ es.length ≤ 100000000 ∧ ss.length ≤ 100000000
                omega
              have y21 : ∀ i, (21 : Nat) ≠ yK i := fun i e => by have := yK_ge i; omega
              have y5 : ∀ i, (5 : Nat) ≠ yK i := fun i e => by have := yK_ge i; omega
              go_wp2
              go_loopw [14, 15, 16] (fun vk vw i wr => ∃ (k : Nat) (L : Nat → Nat) (ds : List (List Int)), k ≤ 2 * N ∧ i = .int .i64 (k : Int) ∧ ds.length = k ∧ (∀ j (hj : j < ds.length), Cd ns es ss (j % N) ds[j] ∧ (ds[j]).length ≤ 512) ∧ LO wr L 21 yK vk ds ∧ LX wr L 5 (fun _ => 0) vw ds [] ∧ Rws wr L (.slice aa na ac) (.slice ba nb bc) (.slice ca nc cc) ns es ss ∧ Gro (fun _ => 0) L w wr (fun y => y ≠ 0)) (fun _ _ i _ => 2 * N - (intOf i).toNat)
              case atStart => exact ⟨0, L, [], Nat.zero_le _, rfl, rfl, fun j hj => (by cases hj), LO.nil _ _ _ _, LX.nil _ _ _ _, by rw [HNC.out]; exact H2.out⟩
              case round =>
                clear H2
                obtain ⟨k, L, ds, hk, rfl, hdl, hcd, hK, hX, hR, hG⟩ := hrel
                obtain ⟨ka, kc, rfl⟩ := hK.form
                obtain ⟨xa, xc, rfl⟩ := hX.form
                rw [hdl] at hK hX ⊢
                by_cases hlt : k < 2 * N
                · obtain ⟨r, hr⟩ : ∃ r, r = k % N := ⟨_, rfl⟩
                  have hrN : r < N := by rw [hr]; exact Nat.mod_lt _ (by omega)
                  have hr' : (k : Int) % (N : Int) = (r : Int) := by subst hr; simp
                  have hlt' : (k : Int) < 2 * (N : Int) := by omega
                  have hN0 : ¬ (N : Int) = 0 := by omega
                  have hk0 : (0 : Int) ≤ (k : Int) := by omega
                  have he := encoded_any hR.a hR.b hR.c hR.oa hR.ob hR.oc HSm.out r (HLen.out r hrN)
                  have H3 := Hid.mk (And.intro hK (And.intro hX (And.intro hR hG)))
                  have H4 := Hid.mk (And.intro hdl (And.intro hcd hr))
                  clear hK hX hR hG hdl hcd hr hk
                  go_wp2_with fail
                  refine he.mono ?_
                  rintro e w1 ⟨g, cg, b, rfl, hc, hN1⟩
                  obtain ⟨hK, hX, hR, hG⟩ := H3.out
                  obtain ⟨L1, G1, o1⟩ := hN1.own (y := yK k) hG.lz
                  have yk := yK_ge k
                  have H5 := Hid.mk (And.intro o1 (And.intro (hK.gro G1 (y21 k) (fun i hi e => yK_ne (by have := H4.out.1; omega) e)) (And.intro (hX.gro G1 (y5 k) (fun _ _ e => by omega)) (And.intro (hR.gro G1 (fun e => by omega) (fun e => by omega) (fun e => by omega)) (hG.join G1 (Z := fun y => y ≠ 0) (fun _ h => h) (fun y e => by omega))))))
                  have hb0 := hN1.2.2.2.1
                  have hb5 := hN1.2.2.2.2
                  have HC := Hid.mk hc
                  clear hK hX hR hG G1 o1 yk H3 he hN1 hc
                  obtain ⟨bn, hbn⟩ : ∃ bn, bn = b.length := ⟨_, rfl⟩
                  have HBN := Hid.mk hbn
                  rw [← hbn] at hb0 hb5 ⊢
                  clear hbn
                  have hb00 : ((bn : Int) == 0) = false := by rw [Bool.eq_false_iff, ne_eq, beq_iff_eq]; omega
                  by_cases hge : k < N
                  · have hge' : ¬ (N : Int) ≤ (k : Int) := by omega
                    obtain ⟨o1, hK, hX, hR, hG⟩ := H5.out
                    obtain ⟨g2, c2, w2, r2, L2, G2, K2⟩ := hK.push hG.lz y21 (by have := H4.out.1; omega) (u := .slice (some ⟨g, 0, none⟩) b.length cg) (d := b) (by rw [H4.out.1]; exact o1)
                    rw [H4.out.1] at r2 K2
                    obtain ⟨a9, c9, e9, s9, _⟩ := (o1.gro G2 (fun e => y21 k e.symm)).src
                    have e9a : a9 = some ⟨g, 0, none⟩ := by injection e9 with q1; exact q1.symm
                    subst e9a
                    have ht := tight_any (some ⟨g, 0, none⟩) b.length cg b w2 (by have := HBN.out; omega) s9.1
                    have H6 := Hid.mk (And.intro K2 (And.intro (hX.gro G2 (fun e => by omega) (fun _ _ e => by omega)) (And.intro (hR.gro G2 (fun e => by omega) (fun e => by omega) (fun e => by omega)) (hG.join G2 (Z := fun y => y ≠ 0) (fun _ h => h) (fun y e => by omega)))))
                    rw [← HBN.out] at r2 ht
                    have HA := Hid.mk r2
                    clear o1 hK hX hR hG r2 G2 K2 s9 e9 H5
                    go_wp2_with (at_builtin; refine swList_append_run rfl _ _ 35 rfl (.slice ka k kc) (.slice (some ⟨w1.heap.size, 0, none⟩) 1 1) _ rfl rfl HA.out ?_)
                    clear HA
                    refine ht.mono ?_
                    rintro e w3 ⟨g3, rfl, hge3, hr3, hb3⟩
                    obtain ⟨hK, hX, hR, hG⟩ := H6.out
                    have GB := Gro.below hG.lz hb3 (fun _ => False)
                    obtain ⟨g4, c4, w4, r4, L4, G4, X4⟩ := (hX.gro GB (fun h => h) (fun _ _ h => h)).push GB.lz (fun i e => by omega) (by have := H4.out.1; rw [List.length_nil]; omega) (.slice (some ⟨g3, 0, none⟩) b.length b.length) rfl
                    simp only [List.length_nil, Nat.add_zero, List.nil_append] at r4 X4
                    rw [H4.out.1] at r4 X4
                    have X5 : LX w4 L4 5 (fun _ => 0) (.slice (some ⟨g4, 0, none⟩) (k + 1) c4) (ds ++ [b]) [] := LX.close X4 ((show SL w3 L2 0 (some ⟨g3, 0, none⟩) b.length b from ⟨hr3.src, fun z hz _ => by cases hz; exact hG.lz _ hge3⟩).gro G4 (fun e => by omega))
                    have H7 := Hid.mk (And.intro ((hK.gro GB (fun h => h) (fun _ _ h => h)).gro G4 (fun e => by omega) (fun i _ e => y5 i e.symm)) (And.intro X5 (And.intro ((hR.gro GB (fun h => h) (fun h => h) (fun h => h)).gro G4 (fun e => by omega) (fun e => by omega) (fun e => by omega)) ((hG.join GB (Z := fun y => y ≠ 0) (fun _ h => h) (fun _ h => h.elim)).join G4 (Z := fun y => y ≠ 0) (fun _ h => h) (fun y e => by omega)))))
                    have H8 : Hid ((ds ++ [b]).length = k + 1 ∧ ∀ j (hj : j < (ds ++ [b]).length), Cd ns es ss (j % N) (ds ++ [b])[j] ∧ ((ds ++ [b])[j]).length ≤ 512) := by
                      obtain ⟨h1, h2, h3⟩ := H4.out
                      refine ⟨by rw [List.length_append, h1]; rfl, fun j hj => ?_⟩
                      by_cases e : j < ds.length
                      · rw [List.getElem_append_left e]
                        exact h2 j e
                      · have ej : j = ds.length := by rw [List.length_append, List.length_singleton] at hj; omega
                        subst ej
                        simp only [List.getElem_append_right (Nat.le_refl _), Nat.sub_self, List.getElem_cons_zero]
                        rw [h1, ← h3]
                        exact ⟨HC.out, by have := HBN.out; omega⟩
                    rw [← HBN.out] at r4
                    have HA := Hid.mk r4
                    clear hK hX hR hG GB r4 G4 X4 X5 ht hge3 hr3 hb3 H6
                    go_wp2_with (at_builtin; refine swList_append_run rfl _ _ 35 rfl (.slice xa k xc) (.slice (some ⟨w3.heap.size, 0, none⟩) 1 1) _ rfl rfl HA.out ?_)
                    clear HA
                    go_roundw
                    case rel => exact ⟨k + 1, L4, ds ++ [b], by omega, by go_num, H8.out.1, H8.out.2, H7.out⟩
                    case measure => simp [intOf]; omega
                  · obtain ⟨j, hj⟩ : ∃ j, j = k - N := ⟨_, rfl⟩
                    have hj' : (k : Int) - (N : Int) = (j : Int) := by omega
                    have hge' : (N : Int) ≤ (k : Int) := by omega
                    have hjk : j < k := by omega
                    have hj0 : (0 : Int) ≤ (j : Int) := by omega
                    have hjd : j < ds.length := by have := H4.out.1; omega
                    obtain ⟨o1, hK, hX, hR, hG⟩ := H5.out
                    obtain ⟨g5, cap5, a5, c5, e5, f5, s5⟩ := hX.at hjd
                    have hbd : ds[j] = b := by
                      obtain ⟨h1, h2, h3⟩ := H4.out
                      have h4 := (h2 j hjd).1
                      have e : j % N = r := by rw [h3, hj, show k = (k - N) + N by omega, Nat.add_sub_cancel, Nat.add_mod_right]
                      rw [e] at h4
                      exact h4.det HC.out
                    rw [hbd] at f5 s5
                    have ex : xa = some ⟨g5, 0, none⟩ := by injection e5
                    subst ex
                    obtain ⟨a6, c6, e6, s6, _⟩ := o1.src
                    have e6a : a6 = some ⟨g, 0, none⟩ := by injection e6 with q1; exact q1.symm
                    subst e6a
                    have hsm := same_any (some ⟨g, 0, none⟩) a5 b.length cg c5 b w1 (by have := HBN.out; omega) s6.1 s5.1
                    rw [← HBN.out] at hsm f5
                    clear o1 hK hX hR hG e5 s5 hbd e6 s6 hj hjd
                    go_wp2_with fail
                    refine hsm.mono ?_
                    rintro e w1b ⟨rfl, hb2⟩
                    obtain ⟨o1, hK, hX, hR, hG⟩ := H5.out
                    have GB := Gro.below hG.lz hb2 (fun _ => False)
                    have H9 := Hid.mk (And.intro (o1.gro GB (fun h => h)) (And.intro (hK.gro GB (fun h => h) (fun _ _ h => h)) (And.intro (hX.gro GB (fun h => h) (fun _ _ h => h)) (And.intro (hR.gro GB (fun h => h) (fun h => h) (fun h => h)) (hG.join GB (Z := fun y => y ≠ 0) (fun _ h => h) (fun _ h => h.elim))))))
                    clear H5 o1 hK hX hR hG GB hb2 hsm f5
                    have H5 := Hid.mk H9.out
                    clear H9
                    obtain ⟨o1, hK, hX, hR, hG⟩ := H5.out
                    obtain ⟨g2, c2, w2, r2, L2, G2, K2⟩ := hK.push hG.lz y21 (by have := H4.out.1; omega) (u := .slice (some ⟨g, 0, none⟩) b.length cg) (d := b) (by rw [H4.out.1]; exact o1)
                    rw [H4.out.1] at r2 K2
                    obtain ⟨a9, c9, e9, s9, _⟩ := (o1.gro G2 (fun e => y21 k e.symm)).src
                    have e9a : a9 = some ⟨g, 0, none⟩ := by injection e9 with q1; exact q1.symm
                    subst e9a
                    have ht := tight_any (some ⟨g, 0, none⟩) b.length cg b w2 (by have := HBN.out; omega) s9.1
                    have H6 := Hid.mk (And.intro K2 (And.intro (hX.gro G2 (fun e => by omega) (fun _ _ e => by omega)) (And.intro (hR.gro G2 (fun e => by omega) (fun e => by omega) (fun e => by omega)) (hG.join G2 (Z := fun y => y ≠ 0) (fun _ h => h) (fun y e => by omega)))))
                    rw [← HBN.out] at r2 ht
                    have HA := Hid.mk r2
                    clear o1 hK hX hR hG r2 G2 K2 s9 e9 H5
                    go_wp2_with (at_builtin; refine swList_append_run rfl _ _ 35 rfl (.slice ka k kc) (.slice (some ⟨w1b.heap.size, 0, none⟩) 1 1) _ rfl rfl HA.out ?_)
                    clear HA
                    refine ht.mono ?_
                    rintro e w3 ⟨g3, rfl, hge3, hr3, hb3⟩
                    obtain ⟨hK, hX, hR, hG⟩ := H6.out
                    have GB := Gro.below hG.lz hb3 (fun _ => False)
                    obtain ⟨g4, c4, w4, r4, L4, G4, X4⟩ := (hX.gro GB (fun h => h) (fun _ _ h => h)).push GB.lz (fun i e => by omega) (by have := H4.out.1; rw [List.length_nil]; omega) (.slice (some ⟨g3, 0, none⟩) b.length b.length) rfl
                    simp only [List.length_nil, Nat.add_zero, List.nil_append] at r4 X4
                    rw [H4.out.1] at r4 X4
                    have X5 : LX w4 L4 5 (fun _ => 0) (.slice (some ⟨g4, 0, none⟩) (k + 1) c4) (ds ++ [b]) [] := LX.close X4 ((show SL w3 L2 0 (some ⟨g3, 0, none⟩) b.length b from ⟨hr3.src, fun z hz _ => by cases hz; exact hG.lz _ hge3⟩).gro G4 (fun e => by omega))
                    have H7 := Hid.mk (And.intro ((hK.gro GB (fun h => h) (fun _ _ h => h)).gro G4 (fun e => by omega) (fun i _ e => y5 i e.symm)) (And.intro X5 (And.intro ((hR.gro GB (fun h => h) (fun h => h) (fun h => h)).gro G4 (fun e => by omega) (fun e => by omega) (fun e => by omega)) ((hG.join GB (Z := fun y => y ≠ 0) (fun _ h => h) (fun _ h => h.elim)).join G4 (Z := fun y => y ≠ 0) (fun _ h => h) (fun y e => by omega)))))
                    have H8 : Hid ((ds ++ [b]).length = k + 1 ∧ ∀ j (hj : j < (ds ++ [b]).length), Cd ns es ss (j % N) (ds ++ [b])[j] ∧ ((ds ++ [b])[j]).length ≤ 512) := by
                      obtain ⟨h1, h2, h3⟩ := H4.out
                      refine ⟨by rw [List.length_append, h1]; rfl, fun j hj => ?_⟩
                      by_cases e : j < ds.length
                      · rw [List.getElem_append_left e]
                        exact h2 j e
                      · have ej : j = ds.length := by rw [List.length_append, List.length_singleton] at hj; omega
                        subst ej
                        simp only [List.getElem_append_right (Nat.le_refl _), Nat.sub_self, List.getElem_cons_zero]
                        rw [h1, ← h3]
                        exact ⟨HC.out, by have := HBN.out; omega⟩
                    rw [← HBN.out] at r4
                    have HA := Hid.mk r4
                    clear hK hX hR hG GB r4 G4 X4 X5 ht hge3 hr3 hb3 H6
                    go_wp2_with (at_builtin; refine swList_append_run rfl _ _ 35 rfl (.slice (some ⟨g5, 0, none⟩) k xc) (.slice (some ⟨w3.heap.size, 0, none⟩) 1 1) _ rfl rfl HA.out ?_)
                    clear HA
                    go_roundw
                    case rel => exact ⟨k + 1, L4, ds ++ [b], by omega, by go_num, H8.out.1, H8.out.2, H7.out⟩
                    case measure => simp [intOf]; omega
                · obtain rfl : k = 2 * N := by omega
                  have hlt' : ¬ ((2 * N : Nat) : Int) < 2 * (N : Int) := by omega
                  have hgr := grown_any hK hG.lz (fun i => by
                    by_cases e : i < ds.length
                    · have := (hcd i e).2
                      simp [List.getD, e]
                      omega
                    · simp [List.getD, Nat.le_of_not_lt e]) (by omega)
                  have H3 := Hid.mk (And.intro hX (And.intro hR hG))
                  have H4 := Hid.mk (And.intro hdl hcd)
                  obtain ⟨M, hM⟩ : ∃ M, M = 2 * N := ⟨_, rfl⟩
                  have hM' : ¬ (M : Int) < 2 * (N : Int) := by omega
                  rw [← hM] at hgr ⊢
                  have HM := Hid.mk hM
                  clear hK hX hR hG hdl hcd hk hlt hlt' hM
                  go_wp2_with fail
                  refine hgr.mono ?_
                  rintro e w5 ⟨rfl, L5, G5⟩
                  obtain ⟨hX, hR, hG⟩ := H3.out
                  have k0 : ∀ y, y < 20 → ¬ isK y := fun y hy h => by rcases h with ⟨h1, _⟩ | ⟨h1, _⟩ <;> omega
                  have H5 := Hid.mk (And.intro (hX.gro G5 (k0 5 (by omega)) (fun _ _ => k0 0 (by omega))) (And.intro (hR.gro G5 (k0 1 (by omega)) (k0 2 (by omega)) (k0 3 (by omega))) (hG.join G5 (Z := fun y => y ≠ 0) (fun _ h => h) (fun y h e => k0 0 (by omega) (e ▸ h)))))
                  clear hX hR hG G5 k0 H3 hgr
                  go_wp2
                  go_loopw [19] (fun i wr => ∃ t : Nat, t ≤ N ∧ i = .int .i64 (t : Int) ∧ Below w5.heap.size w5 wr) (fun i _ => N - (intOf i).toNat)
                  case atStart => exact ⟨0, Nat.zero_le _, rfl, Below.refl _ _⟩
                  case round =>
                    obtain ⟨t, ht, rfl, hb⟩ := hrel
                    obtain ⟨hX, hR, hG⟩ := H5.out
                    have GB := Gro.below hG.lz hb (fun _ => False)
                    have HB := Hid.mk hb
                    by_cases hlt2 : t < N
                    · have hRr := hR.later hG.lz hb
                      have hXr := hX.gro GB (fun h => h) (fun _ _ h => h)
                      have he := encoded_any hRr.a hRr.b hRr.c hRr.oa hRr.ob hRr.oc HSm.out t (HLen.out t hlt2)
                      have hlt2' : (t : Int) < (N : Int) := by omega
                      have ht0 : (0 : Int) ≤ (t : Int) := by omega
                      have HQ := Hid.mk (And.intro hXr GB.lz)
                      clear hX hR hG GB hRr hXr hb
                      go_wp2_with fail
                      refine he.mono ?_
                      rintro e w6 ⟨g, cg, b, rfl, hc, hN1⟩
                      obtain ⟨hX, hz⟩ := HQ.out
                      have htd : t < ds.length := by have := H4.out.1; omega
                      obtain ⟨g5, cap5, a5, c5, e5, f5, s5⟩ := (hX.gro (Gro.below hz hN1.2.2.1 (fun _ => False)) (fun h => h) (fun _ _ h => h)).at htd
                      have hbd : ds[t] = b := by
                        have h4 := (H4.out.2 t htd).1
                        rw [Nat.mod_eq_of_lt hlt2] at h4
                        exact h4.det hc
                      rw [hbd] at f5 s5
                      have ex : xa = some ⟨g5, 0, none⟩ := by injection e5
                      subst ex
                      have hb512 := hN1.2.2.2.2
                      have hsm := same_any (some ⟨g, 0, none⟩) a5 b.length cg c5 b w6 (by omega) hN1.2.1.src s5.1
                      have HB6 := Hid.mk (HB.out.trans (hN1.2.2.1.mono HB.out.size))
                      have htM : t < M := by have := HM.out; omega
                      clear hX hz e5 s5 hbd hN1 hc he HQ HB
                      generalize b.length = bn at *
                      go_wp2_with fail
                      refine hsm.mono ?_
                      rintro e w7 ⟨rfl, hb7⟩
                      have HB7 := Hid.mk (HB6.out.trans (hb7.mono HB6.out.size))
                      clear hsm f5 hb7 HB6
                      go_wp2
                      go_roundw
                      case rel => exact ⟨t + 1, by omega, by go_num, HB7.out⟩
                      case measure => simp [intOf]; omega
                    · have hlt2' : ¬ (t : Int) < (N : Int) := by omega
                      have HF := Hid.mk (HBel.out _ _ (hG.join GB (Z := fun y => y ≠ 0) (fun _ h => h) (fun _ h => h.elim)))
                      clear hX hR hG GB hb HB
                      go_wp2
                      go_ret
                      exact ⟨rfl, HF.out⟩
end Go.Proofs.Ytcpmapknmkholaa
end
