import Derived.Test.YtnolpafdkaloeaaW12
section
namespace Go.Proofs.Ytnolpafdkaloeaa
open Go.RowKit Go.Maps

/-- What is told of a script. -/
def Script4 (w : World) (B : Nat) (sa : Option Addr) (n : Nat) : Prop :=
  (sa = none → n = 0) ∧ ∀ y, sa = some y → ∀ i, i < n → ∃ b o, y = ⟨b, o, none⟩ ∧ b < B ∧ ∃ kind x a m c pa pn pc l pl,
    w.cell? ⟨b, o + i * 4, none⟩ = some (.int .i64 kind) ∧ w.cell? ⟨b, o + i * 4 + 1, none⟩ = some (.int .i64 x) ∧ w.cell? ⟨b, o + i * 4 + 2, none⟩ = some (.slice a m c) ∧ w.cell? ⟨b, o + i * 4 + 3, none⟩ = some (.slice pa pn pc) ∧ OpOk w B x a m pa pn l pl ∧ m + 3 ≤ 140737488355328 ∧ 24 * pn + 24 ≤ 140737488355328
theorem Script4.far {w w' : World} {B : Nat} {sa : Option Addr} {n : Nat} (h : Script4 w B sa n) (hb : Below B w w') : Script4 w' B sa n := by
  refine ⟨h.1, fun y hy i hi => ?_⟩
  obtain ⟨b, o, rfl, hbB, kind, x, a, m, c, pa, pn, pc, l, pl, c0, c1, c2, c3, ho, h1⟩ := h.2 y hy i hi
  have e := hb.block b hbB
  exact ⟨b, o, rfl, hbB, kind, x, a, m, c, pa, pn, pc, l, pl, (World.cell?_of_block (w := w) (a := ⟨b, _, none⟩) e).trans c0, (World.cell?_of_block (w := w) (a := ⟨b, _, none⟩) e).trans c1, (World.cell?_of_block (w := w) (a := ⟨b, _, none⟩) e).trans c2, (World.cell?_of_block (w := w) (a := ⟨b, _, none⟩) e).trans c3, ho.far hb, h1⟩

/-- In the midst of the law. -/
def DvI (W0 : World) (B p r s q kq xp : Nat) (Sx : DS) (j : Nat) (wr : World) : Prop := ∃ lab S nm ds, St W0 wr B lab p r s S S q kq xp Sx nm ds none #[] ∧ nm.length ≤ j ∧ ds.length ≤ 3 * j ∧ S.puts.length ≤ 10 * j ∧ (∀ q ∈ nm, q.1 ≤ 100000000) ∧ ∀ d ∈ ds, d.length ≤ 100000000

theorem St.grown {W0 w : World} {B p r s q kq xp : Nat} {Q : Option Nat} {lab : Nat → Nat} {S T Sx : DS} {nm : List (Nat × Int)} {ds : List (List Int)} {C : Array Value} (h : St W0 w B lab p r s S T q kq xp Sx nm ds Q C) (hm : ∀ d ∈ ds, d.length ≤ 100000000) (hN : ds.length ≤ 7000000000000) :
    Calls Try.prog 41 #[.pointer (some ⟨kq, 0, none⟩)] w fun e w' => e = .returned (.bool true) ∧ GrO W0 B p r s q xp S T Sx nm w' ∧ w.heap.size ≤ w'.heap.size := by
  obtain ⟨vL, vW, hk⟩ := h.kp
  obtain ⟨v0, v1, v2, v3, v4, v5, hb⟩ := h.bk
  refine (grown_any hk h.lz hm hN).mono ?_
  rintro e w' ⟨rfl, lab', g⟩
  exact ⟨rfl, ⟨lab', g.lz, h.bel.trans (g.belowB h.hB h.lo isK_no0), h.tw.gro g isK_no1, h.x.gro g (by omega) (isK_no (by omega)), v0, v1, v2, v3, v4, v5, hb.far g (fun y hy hB => isB_notK hB hy)⟩, g.kp.size⟩
theorem GrO.image {W0 w : World} {B p r s q xp : Nat} {S T Sx : DS} {nm : List (Nat × Int)} (h : GrO W0 B p r s q xp S T Sx nm w) :
    Calls Try.prog 9 #[.pointer (some ⟨p, 0, none⟩)] w fun e w' => ∃ g c, e = .returned (.slice (some ⟨g, 0, none⟩) (s * 512) c) ∧ Below w.heap.size w w' ∧ Src w' (some ⟨g, 0, none⟩) (s * 512) S.im := by
  obtain ⟨lab', hz, hw, ⟨F, G, t, _, _⟩, x, _⟩ := h
  have hl := t.d.ok.len
  refine (image_any _ _ _ _ _ t.d).mono ?_
  rintro e w' ⟨g, c, rfl, hg0, hr, hb⟩
  exact ⟨g, c, rfl, hb, hl ▸ hr.src⟩
theorem GrO.ximage {W0 w : World} {B p r s q xp : Nat} {S T Sx : DS} {nm : List (Nat × Int)} (h : GrO W0 B p r s q xp S T Sx nm w) :
    Calls Try.prog 9 #[.pointer (some ⟨xp, 0, none⟩)] w fun e w' => ∃ g c, e = .returned (.slice (some ⟨g, 0, none⟩) (s * 512) c) ∧ Below w.heap.size w w' ∧ Src w' (some ⟨g, 0, none⟩) (s * 512) Sx.im := by
  obtain ⟨lab', hz, hw, _, x, _⟩ := h
  have hl := x.ok.len
  refine (image_any _ _ _ _ _ x).mono ?_
  rintro e w' ⟨g, c, rfl, hg0, hr, hb⟩
  exact ⟨g, c, rfl, hb, hl ▸ hr.src⟩
theorem GrO.rimage {W0 w : World} {B p r s q xp : Nat} {S T Sx : DS} {nm : List (Nat × Int)} (h : GrO W0 B p r s q xp S T Sx nm w) :
    Calls Try.prog 34 #[.pointer (some ⟨r, 0, none⟩)] w fun e w' => ∃ g c, e = .returned (.slice (some ⟨g, 0, none⟩) (s * 512) c) ∧ Below w.heap.size w w' ∧ Src w' (some ⟨g, 0, none⟩) (s * 512) T.im := by
  obtain ⟨lab', hz, hw, t, _⟩ := h
  exact t.rimage hz
theorem GrO.bel {W0 w : World} {B p r s q xp : Nat} {S T Sx : DS} {nm : List (Nat × Int)} (h : GrO W0 B p r s q xp S T Sx nm w) : Below B W0 w := by
  obtain ⟨lab', hz, hw, _⟩ := h
  exact hw
theorem Keeps.into {F G : Nat → Prop} {a b c : World} (h : Keeps F a b) (k : Keeps G b c) : Keeps (fun j => F j ∨ G j) a c :=
  (h.mono (fun _ h => .inl h)).trans k (fun _ h => .inl (.inr h))

theorem nm_more {nm : List (Nat × Int)} {n : Nat} {x : Int} (h : ∀ q ∈ nm, q.1 ≤ 100000000) (hn : n ≤ 100000000) : ∀ q ∈ nm ++ [(n, x)], q.1 ≤ 100000000 := fun q hq => by
  rcases List.mem_append.1 hq with h1 | h1
  · exact h q h1
  · rw [List.mem_singleton.1 h1]
    exact hn
theorem ds_more {ds : List (List Int)} {l : List Int} (h : ∀ d ∈ ds, d.length ≤ 100000000) (hn : l.length ≤ 100000000) : ∀ d ∈ ds ++ [l], d.length ≤ 100000000 := fun q hq => by
  rcases List.mem_append.1 hq with h1 | h1
  · exact h q h1
  · rw [List.mem_singleton.1 h1]
    exact hn

set_option maxRecDepth 20000 in
set_option maxHeartbeats 32000000 in
/-- The law's loop and what is behind it. -/
theorem diskBook_any (a : Option Addr) (n c : Nat) (l : List Int) (sa : Option Addr) (sn sc : Nat) (w : World) (hs : Src w a n l) (hcap : n ≤ c) (hn : n + 3 ≤ 140737488355328) (hsc : Script4 w w.heap.size sa sn) (hsn : sn ≤ 1048576) :
    Calls Try.prog 5 #[.slice a n c, .slice sa sn sc] w fun e w' => e = .returned (.bool true) ∧ Below w.heap.size w w' := by
  have hha := hand_any a n c l w hn hs
  have hll := hs.1
  have HS := Hid.mk (And.intro hs hsc)
  clear hs hsc
  go_enter Try.func5, Try.ntmps5
  go_wp2_with fail
  refine hha.mono ?_
  rintro e w1 ⟨rfl, F1, hb1⟩
  have hz1 := hb1.size
  obtain ⟨m3, hm3⟩ : ∃ m3, m3 = n + 3 := ⟨_, rfl⟩
  have HM3 := Hid.mk hm3
  rw [← hm3]
  by_cases hbad : n % 512 ≠ 0 ∨ (n = 0 ∨ 1048576 < n)
  · obtain ⟨cd, hld, hrl⟩ : ∃ cd : Int, (Calls Try.prog 25 #[.slice (some ⟨w.heap.size, 0, none⟩) n m3] w1 fun e w' => e = .returned (.tuple #[.pointer none, .int .i64 cd]) ∧ w' = w1) ∧ (Calls Try.prog 26 #[.slice a n c] w1 fun e w' => e = .returned (.tuple #[.pointer none, .int .i64 cd]) ∧ w' = w1) := by
      by_cases h1 : n % 512 ≠ 0
      · exact ⟨2, load_bad _ n _ w1 h1 (by omega), rload_bad a n c w1 h1⟩
      · have h2 : n = 0 ∨ 1048576 < n := hbad.resolve_left h1
        exact ⟨10, load_no _ n _ w1 (by omega) h2 (by omega), rload_no a n c w1 (by omega) (by omega) h2⟩
    have hba := back_any w.heap.size a n c l w1 hn hll F1 (HS.out.1.later hb1)
    rw [← hm3] at hba
    have hcc : (cd != cd) = false := by simp
    clear hha hbad hm3
    go_wp2_with fail
    refine hld.mono ?_
    rintro e w2 ⟨rfl, rfl⟩
    clear hld
    go_wp2_with fail
    refine hrl.mono ?_
    rintro e w3 ⟨rfl, rfl⟩
    clear hrl
    go_wp2_with fail
    refine hba.mono ?_
    rintro e w4 ⟨rfl, k4⟩
    have HF : Hid (Below w.heap.size w w4) := hb1.trans (k4.below (fun k h => by omega) hz1)
    clear hba k4 F1 hb1
    go_wp2
    go_ret
    exact ⟨rfl, HF.out⟩
  · obtain ⟨s, hs512⟩ : ∃ s, n = s * 512 := ⟨n / 512, by omega⟩
    have hs1 : 1 ≤ s := by omega
    have hs2 : s ≤ 2048 := by omega
    obtain ⟨x0, rfl⟩ : ∃ x, a = some x := by
      cases a with
      | none => have := HS.out.1.2.1 rfl; omega
      | some x => exact ⟨x, rfl⟩
    obtain ⟨b0, o0, rfl, hcel⟩ := HS.out.1.spot (by omega)
    have hsrc1 := F1.src n (by simp [hll])
    rw [List.take_left' hll] at hsrc1
    have hld := load_ok ⟨w.heap.size, 0, none⟩ n m3 s l w1 hs512 hs1 hs2 hll (fun i hi => hsrc1.2.2 _ rfl i hi)
    have HF1 := Hid.mk F1
    have HB1 := Hid.mk hb1
    have HC := Hid.mk hcel
    have HN := Hid.mk hs512
    have hno : (n : Int) ≤ 1048576 := by omega
    clear hha hbad hm3 hsrc1 F1 hb1 hcel hs512
    go_wp2_with fail
    refine hld.mono ?_
    rintro e w2 ⟨p, rfl, d2, hb2⟩
    have hbw2 : Below w.heap.size w w2 := HB1.out.trans (hb2.mono hz1)
    have hrl := rload_ok b0 o0 n c s l w2 (fun i hi => cell_later hbw2 (HC.out i hi)) hll HN.out hcap hs1 hs2
    have H2 := Hid.mk (And.intro d2 (And.intro hb2 hbw2))
    clear hld d2 hb2 hbw2
    go_wp2_with fail
    refine hrl.mono ?_
    rintro e w3 ⟨r, rfl, e3, hb3⟩
    have hbw3 : Below w.heap.size w w3 := H2.out.2.2.trans (hb3.mono H2.out.2.2.size)
    have hb13 : Below w1.heap.size w1 w3 := H2.out.2.1.trans (hb3.mono H2.out.2.1.size)
    have hba := back_any w.heap.size (some ⟨b0, o0, none⟩) n c l w3 hn hll (HF1.out.later hb13) (HS.out.1.later hbw3)
    rw [← HM3.out] at hba
    have H3 := Hid.mk (And.intro e3 (And.intro hb3 hbw3))
    clear hrl e3 hb3 hbw3 hb13
    go_wp2_with fail
    refine hba.mono ?_
    rintro e w4 ⟨rfl, k4⟩
    have hbw4 : Below w.heap.size w w4 := H3.out.2.2.trans (k4.below (fun k h => by omega) H3.out.2.2.size)
    have hex := exact_any (some ⟨b0, o0, none⟩) n c l w4 (by omega) (HS.out.1.later hbw4)
    have H4 := Hid.mk (And.intro k4 hbw4)
    clear hba k4 hbw4
    go_wp2_with fail
    refine hex.mono ?_
    rintro e w5 ⟨rfl, F5, hb5⟩
    have hsrc5 := F5.src n (by omega)
    rw [List.take_of_length_le (by omega)] at hsrc5
    have hld := load_ok ⟨w4.heap.size, 0, none⟩ n n s l w5 HN.out hs1 hs2 hll (fun i hi => hsrc5.2.2 _ rfl i hi)
    have H5 := Hid.mk (And.intro F5 hb5)
    clear hex F5 hb5 hsrc5
    go_wp2_with fail
    refine hld.mono ?_
    rintro e w6 ⟨xp, rfl, d6, hb6⟩
    have F6 := H5.out.1.later hb6
    have hsrc6 := F6.src n (by omega)
    rw [List.take_of_length_le (by omega)] at hsrc6
    have hbw6 : Below w.heap.size w w6 := (H4.out.2.trans (H5.out.2.mono H4.out.2.size)).trans (hb6.mono (Nat.le_trans H4.out.2.size H5.out.2.size))
    have hsa := same_any (some ⟨w4.heap.size, 0, none⟩) (some ⟨b0, o0, none⟩) n n c l w6 (by omega) hsrc6 (HS.out.1.later hbw6)
    have H6 := Hid.mk (And.intro d6 (And.intro hb6 (And.intro F6 hbw6)))
    clear hld d6 hb6 F6 hsrc6 hbw6
    go_wp2_with fail
    refine hsa.mono ?_
    rintro e w7 ⟨rfl, hb7⟩
    have htu := turned_any w4.heap.size n l w7 (by omega) hll (H6.out.2.2.1.later hb7)
    have H7 := Hid.mk hb7
    clear hsa hb7
    go_wp2_with fail
    refine htu.mono ?_
    rintro e w8 ⟨v8, rfl, _, F8, k8⟩
    obtain ⟨w10, hw10⟩ : ∃ w10, w10 = (w8.alloc (.cells (bkC (.slice none 0 0) (.slice none 0 0) (.slice none 0 0) (.slice none 0 0) (.slice none 0 0) (.slice none 0 0)) 58)).alloc (.cells #[.slice none 0 0, .slice none 0 0] 61) := ⟨_, rfl⟩
    obtain ⟨q, hq⟩ : ∃ q, q = w8.heap.size := ⟨_, rfl⟩
    have hsz10 : w10.heap.size = w8.heap.size + 2 := by rw [hw10]; simp
    have hb9 : Below w8.heap.size w8 w10 := by
      rw [hw10]
      exact (below_box w8 _).trans ((below_box _ _).mono (by simp))
    have bq : w10.heap[q]? = some (.cells (bkC (.slice none 0 0) (.slice none 0 0) (.slice none 0 0) (.slice none 0 0) (.slice none 0 0) (.slice none 0 0)) 58 (0, 0)) := by
      rw [hw10, hq, Below.heap_alloc _ _ _ (by simp)]
      exact heap_alloc_new _ _
    have bk : w10.heap[q + 1]? = some (.cells #[.slice none 0 0, .slice none 0 0] 61 (0, 0)) := by
      have := heap_alloc_new (w8.alloc (.cells (bkC (.slice none 0 0) (.slice none 0 0) (.slice none 0 0) (.slice none 0 0) (.slice none 0 0) (.slice none 0 0)) 58)) (.cells #[.slice none 0 0, .slice none 0 0] 61)
      rw [hw10, hq]
      simpa using this
    have HI : Hid (DvI w w.heap.size p r s q (q + 1) xp (DS.fresh l) 0 w10) := by
      obtain ⟨d2, hb2, hbw2⟩ := H2.out
      obtain ⟨e3, hb3, hbw3⟩ := H3.out
      obtain ⟨k4, hbw4⟩ := H4.out
      obtain ⟨F5, hb5⟩ := H5.out
      obtain ⟨d6, hb6, F6, hbw6⟩ := H6.out
      have hb7 := H7.out
      have z2 := hb2.size
      have z3 := hb3.size
      have z4 := k4.size
      have z5 := hb5.size
      have z6 := hb6.size
      have z7 := hb7.size
      have z8 := k8.size
      have g5 : w4.heap.size < w5.heap.size := F5.lt
      have z1 : w.heap.size < w1.heap.size := HF1.out.lt
      have k34 : Keeps (fun k => k = w.heap.size ∨ k = w4.heap.size) w3 w10 := ((((k4.into (Keeps.of_below (fun _ => False) hb5)).into (Keeps.of_below (fun _ => False) hb6)).into (Keeps.of_below (fun _ => False) hb7)).into (k8.into (Keeps.of_below (fun _ => False) hb9))).mono (fun k h => by
        rcases h with (((h | h) | h) | h) | h | h
        · exact .inl h
        · exact h.elim
        · exact h.elim
        · exact h.elim
        · exact .inr h
        · exact h.elim)
      have k6 : Keeps (fun k => k = w4.heap.size) w6 w10 := ((Keeps.of_below (fun _ => False) hb7).into (k8.into (Keeps.of_below (fun _ => False) hb9))).mono (fun k h => by
        rcases h with h | h | h
        · exact h.elim
        · exact h
        · exact h.elim)
      have k2 : Keeps (fun k => k = w.heap.size ∨ k = w4.heap.size) w2 w10 := ((Keeps.of_below (fun _ => False) hb3).into k34).mono (fun k h => h.elim (fun h => h.elim) id)
      have hbw7 : Below w.heap.size w w7 := hbw6.trans (hb7.mono hbw6.size)
      have hbw8 : Below w.heap.size w w8 := hbw7.trans (k8.below (fun k h => by have := hbw4.size; omega) hbw7.size)
      have hbw10 : Below w.heap.size w w10 := hbw8.trans (hb9.mono hbw8.size)
      refine ⟨fun k => if w1.heap.size ≤ k ∧ k < w3.heap.size then 1 else if w5.heap.size ≤ k ∧ k < w6.heap.size then 3 else if k = q then 17 else if k = q + 1 then 20 else 0, DS.fresh l, [], [], ⟨fun k hk => ?_, fun k hk => ?_, hbw10.size, hbw10, ⟨fun k => w1.heap.size ≤ k ∧ k < w2.heap.size, fun k => w2.heap.size ≤ k ∧ k < w3.heap.size, ⟨d2.keep k2 (fun k h1 h2 => by omega), e3.keep k34 (fun k h1 h2 => by omega), hbw10.size, fun k h => by omega, fun k h => by omega, fun k h1 h2 => by omega⟩, fun k h => ?_, fun k h => ?_⟩, ?_, ⟨_, _, _, _, _, _, ⟨bq, ?_, LX.nil _ _ _ _, LX.nil _ _ _ _, LX.nil _ _ _ _, LX.nil _ _ _ _, LX.nil _ _ _ _, OR.nil _ _ _ _⟩⟩, ⟨_, _, ⟨bk, ?_, LO.nil _ _ _ _, LX.nil _ _ _ _⟩⟩, fun b e => by cases e⟩, Nat.le_refl _, Nat.le_refl _, Nat.le_refl _, (fun q hq => (by cases hq)), (fun d hd => (by cases hd))⟩
      · show (if _ then _ else _) = _
        rw [if_neg (by omega), if_neg (by omega), if_neg (by omega), if_neg (by omega)]
      · apply Decidable.byContradiction
        intro hlt
        apply hk
        show (if _ then _ else _) = _
        have := hbw4.size
        rw [if_neg (by omega), if_neg (by omega), if_neg (by omega), if_neg (by omega)]
      · show (if _ then _ else _) = _
        rw [if_pos (by omega)]
      · show (if _ then _ else _) = _
        rw [if_pos (by omega)]
      · refine (d6.keep k6 (fun k h1 h2 => by omega)).mono (fun k hk => ?_) (fun k hk => ?_)
        · show (if _ then _ else _) = _
          rw [if_neg (by omega), if_pos (by omega)]
        · have hk : (if w1.heap.size ≤ k ∧ k < w3.heap.size then 1 else if w5.heap.size ≤ k ∧ k < w6.heap.size then 3 else if k = q then 17 else if k = q + 1 then 20 else 0) = 3 := hk
          split at hk
          · cases hk
          · split at hk
            · omega
            · split at hk
              · cases hk
              · split at hk <;> cases hk
      · show (if _ then _ else _) = _
        rw [if_neg (by omega), if_neg (by omega), if_pos rfl]
      · show (if _ then _ else _) = _
        rw [if_neg (by omega), if_neg (by omega), if_neg (by omega), if_pos rfl]
    have hkq : w8.heap.size + 1 = q + 1 := by rw [hq]
    have HQ := Hid.mk (And.intro hq (And.intro hw10 hkq))
    clear htu F8 k8 hsz10 hb9 bq bk H2 H3 H4 H5 H6 H7 HF1 HB1 HC hkq hq hw10
    go_wp2
    rw [← HQ.out.2.1, ← HQ.out.1]
    obtain ⟨kq, hkq⟩ : ∃ kq, kq = q + 1 := ⟨_, rfl⟩
    rw [← hkq]
    rw [← hkq] at HI
    clear HQ hkq
    go_loopw [15] (fun i wr => ∃ j : Nat, j ≤ sn ∧ i = .int .i64 (j : Int) ∧ DvI w w.heap.size p r s q kq xp (DS.fresh l) j wr) (fun i _ => sn - (intOf i).toNat)
    case atStart => exact ⟨0, Nat.zero_le _, rfl, HI.out⟩
    case round =>
      clear HI
      obtain ⟨j, hj, rfl, lab, S, nm, ds, h0, hnl, hdl, hpl, hnm, hds⟩ := hrel
      by_cases hlt : j < sn
      · have hlt' : (j : Int) < (sn : Int) := by omega
        obtain ⟨y, rfl⟩ : ∃ y, sa = some y := by
          cases sa with
          | none => have := HS.out.2.1 rfl; omega
          | some y => exact ⟨y, rfl⟩
        obtain ⟨sb, so, rfl, hbB, kind, x, a', m, c', pa, pn, pc, l', pl, f0, f1, f2, f3, ho0, hm3', hpn3⟩ := (HS.out.2.far h0.bel).2 y rfl j hlt
        obtain ⟨wb, hwb⟩ : ∃ wb, wb = wr.alloc (.cells (opC kind x a' m c' pa pn pc) 33) := ⟨_, rfl⟩
        have hbb : Below wr.heap.size wr wb := hwb ▸ below_box _ _
        have h := (h0.later hbb).opened (b := wr.heap.size) (D := opC kind x a' m c' pa pn pc) (hwb ▸ heap_alloc_new _ _) (h0.lz _ (Nat.le_refl _))
        have ho := ho0.far (hbb.mono h0.hB)
        have ck : wb.cell? ⟨wr.heap.size, 0, none⟩ = some (.int .i64 kind) := cell_of_block (h.box _ rfl).1 (j := 0) rfl
        obtain ⟨Q, hQ⟩ : ∃ Q, Q = wr.heap.size := ⟨_, rfl⟩
        have HQ := Hid.mk (And.intro hQ hwb)
        have H0 := Hid.mk (And.intro h (And.intro ho (And.intro hbb h0)))
        clear h h0 ho0 ho hbb hQ hwb
        by_cases k1 : kind = 1
        · subst k1
          obtain ⟨h, ho, _, _⟩ := H0.out
          have cx : wb.cell? ⟨wr.heap.size, 1, none⟩ = some (.int .i64 x) := cell_of_block (h.box _ rfl).1 (j := 1) rfl
          have hd := h.tw.read h.lz x (by omega) (yB nm.length)
          have hrl := rd_len h.tw.ok x
          have hrp := rd_puts S s x
          clear h ho
          go_wp2_with fail
          rw [← HQ.out.2]
          refine hd.mono ?_
          rintro e w3 ⟨v, L3, rfl, g3, o3, t3⟩
          have h3 := H0.out.1.ynote g3 t3
          obtain ⟨va, vc, rfl⟩ := o3.form
          have hd3 := h3.tw.rread h3.lz x (by omega)
          have cx3 : w3.cell? ⟨wr.heap.size, 1, none⟩ = some (.int .i64 x) := cell_of_block (h3.box _ rfl).1 (j := 1) rfl
          have H3 := Hid.mk (And.intro h3 o3)
          clear h3 o3 g3 t3 hd cx ck
          generalize hcode : (S.rd s x).1 = code at *
          generalize hS2 : (S.rd s x).2.1 = S2 at *
          generalize hlist : (S.rd s x).2.2 = li at *
          clear hcode hS2 hlist
          go_wp2_with fail
          refine hd3.mono ?_
          rintro e w4 ⟨v4, rfl, g4, o4, t4⟩
          have h4 := H3.out.1.one g4 t4
          have o4v := H3.out.2.gro g4 (by have := yB_ge nm.length; omega)
          obtain ⟨va', vc', ev, s1, _⟩ := o4v.src
          have ea : va = va' := by injection ev
          subst ea
          obtain ⟨a2, c2, rfl, s2⟩ := o4.slice
          have hsa := same_any va a2 _ vc c2 li w4 (by omega) s1.1 s2
          have hcc : (code != code) = false := by simp
          have H4 := Hid.mk (And.intro h4 o4v)
          clear h4 o4v ev s1 s2 o4 g4 t4 hd3 H3 cx3
          generalize hln : li.length = ln at *
          clear hln
          go_wp2_with fail
          refine hsa.mono ?_
          rintro e w5 ⟨rfl, hb5⟩
          have h5 := H4.out.1.later hb5
          have hwh := h5.whole hnm (by omega)
          have H5 := Hid.mk (And.intro h5 (H4.out.2.gro (Gro.below H4.out.1.lz hb5 (fun _ => False)) (fun h => h)))
          clear h5 hsa hb5
          go_wp2_with fail
          refine hwh.mono ?_
          rintro e w6 ⟨rfl, hb6⟩
          have h6 := H5.out.1.later hb6
          have hno' := h6.note (H5.out.2.gro (Gro.below H5.out.1.lz hb6 (fun _ => False)) (fun h => h)) (by omega) (by omega)
          clear h6 hwh hb6 H4
          go_wp2_with fail
          refine hno'.mono ?_
          rintro e w7 ⟨rfl, L7, xm, h7⟩
          have hre := h7.reads (by omega) (by omega) hds x
          have cx7 : w7.cell? ⟨wr.heap.size, 1, none⟩ = some (.int .i64 x) := cell_of_block (h7.box _ rfl).1 (j := 1) rfl
          clear h7 hno' H5
          go_wp2_with fail
          refine hre.mono ?_
          rintro e w8 ⟨rfl, L8, S8, es, hz, he1, he2, he3⟩
          clear hre cx7
          have hwz := hz.whole (nm_more hnm (by omega)) (by rw [List.length_append, List.length_singleton]; omega)
          have HZ := Hid.mk hz
          clear hz
          go_wp2_with fail
          refine hwz.mono ?_
          rintro e wy ⟨rfl, hby⟩
          have HR : Hid (DvI w w.heap.size p r s q kq xp (DS.fresh l) (j + 1) wy) := ⟨_, _, _, _, (HZ.out.later hby).closed, by rw [List.length_append, List.length_singleton]; omega, by omega, by omega, (nm_more hnm (by omega)), he2⟩
          clear hwz hby HZ
          go_wp2
          go_roundw
          case rel => exact ⟨j + 1, by omega, by go_num, HR.out⟩
          case measure => simp [intOf]; omega
        · by_cases k9 : kind = 9
          · subst k9
            obtain ⟨h, ho, _, _⟩ := H0.out
            have hok := h.tw.ok
            have hd := h.tw.image h.lz (yB nm.length)
            clear h ho
            go_wp2_with fail
            rw [← HQ.out.2]
            refine hd.mono ?_
            rintro e w3 ⟨gi, ci, L3, rfl, g3, o3, t3⟩
            have h3 := H0.out.1.ynote g3 t3
            have hd3 := h3.tw.rimage h3.lz
            have H3 := Hid.mk (And.intro h3 o3)
            clear h3 o3 g3 t3 hd ck
            go_wp2_with fail
            refine hd3.mono ?_
            rintro e w4 ⟨g4, c4, rfl, hb4, s4⟩
            have h4 := H3.out.1.later hb4
            have o4 := H3.out.2.gro (Gro.below H3.out.1.lz hb4 (fun _ => False)) (fun h => h)
            obtain ⟨va', vc', ev, s1, _⟩ := o4.src
            have ea : some ⟨gi, 0, none⟩ = va' := by injection ev
            subst ea
            have hlen := hok.len
            have hsa := same_any (some ⟨gi, 0, none⟩) (some ⟨g4, 0, none⟩) (s * 512) ci c4 S.im w4 (by omega) s1.1 s4
            have H4 := Hid.mk (And.intro h4 o4)
            clear h4 o4 ev s1 s4 hb4 hd3 H3
            go_wp2_with fail
            refine hsa.mono ?_
            rintro e w5 ⟨rfl, hb5⟩
            have h5 := H4.out.1.later hb5
            have hwh := h5.whole hnm (by omega)
            have H5 := Hid.mk (And.intro h5 (H4.out.2.gro (Gro.below H4.out.1.lz hb5 (fun _ => False)) (fun h => h)))
            clear h5 hsa hb5
            go_wp2_with fail
            refine hwh.mono ?_
            rintro e w6 ⟨rfl, hb6⟩
            have h6 := H5.out.1.later hb6
            have hno' := h6.note (H5.out.2.gro (Gro.below H5.out.1.lz hb6 (fun _ => False)) (fun h => h)) (by omega) (by omega)
            clear h6 hwh hb6 H4
            go_wp2_with fail
            refine hno'.mono ?_
            rintro e w7 ⟨rfl, L7, xm, h7⟩
            have hi1 := h7.tw.image h7.lz (yK ds.length)
            have H7 := Hid.mk h7
            clear h7 hno' H5
            go_wp2_with fail
            refine hi1.mono ?_
            rintro e w8 ⟨g8, c8, L8, rfl, G8, o8, t8⟩
            have h8 := H7.out.ykeep (Nat.le_refl _) G8 t8
            have hi2 := h8.tw.image h8.lz (yK (ds.length + 1))
            have H8 := Hid.mk (And.intro h8 o8)
            clear h8 o8 G8 t8 hi1 H7
            go_wp2_with fail
            refine hi2.mono ?_
            rintro e w9 ⟨g9, c9, L9, rfl, G9, o9, t9⟩
            have h9 := H8.out.1.ykeep (Nat.le_succ _) G9 t9
            have p9 := H8.out.2.gro G9 (fun e => by
              rcases e with e | e
              · have := yK_ge ds.length; omega
              · exact yK_ne (by omega) e)
            have hri := h9.tw.rimage h9.lz
            have H9 := Hid.mk (And.intro h9 (And.intro p9 o9))
            clear h9 p9 o9 G9 t9 hi2 H8
            go_wp2_with fail
            refine hri.mono ?_
            rintro e w10 ⟨g10, c10, rfl, hb10, s10⟩
            have h10 := H9.out.1.later hb10
            have gb := Gro.below H9.out.1.lz hb10 (fun _ => False)
            have p10 := H9.out.2.1.gro gb (fun h => h)
            have o10 := H9.out.2.2.gro gb (fun h => h)
            obtain ⟨va', vc', ev, s1, _⟩ := p10.src
            have ea : some ⟨g8, 0, none⟩ = va' := by injection ev
            subst ea
            have hsa := same_any (some ⟨g8, 0, none⟩) (some ⟨g10, 0, none⟩) (s * 512) c8 c10 S.im w10 (by omega) s1.1 s10
            have H10 := Hid.mk (And.intro h10 (And.intro p10 o10))
            clear h10 p10 o10 gb ev s1 s10 hb10 hri H9
            go_wp2_with fail
            refine hsa.mono ?_
            rintro e w11 ⟨rfl, hb11⟩
            have h11 := H10.out.1.later hb11
            have gb := Gro.below H10.out.1.lz hb11 (fun _ => False)
            have p11 := H10.out.2.1.gro gb (fun h => h)
            have o11 := H10.out.2.2.gro gb (fun h => h)
            obtain ⟨va', vc', ev, s1, _⟩ := p11.src
            have ea : some ⟨g8, 0, none⟩ = va' := by injection ev
            subst ea
            obtain ⟨vb', vd', ev2, s2, _⟩ := o11.src
            have eb : some ⟨g9, 0, none⟩ = vb' := by injection ev2
            subst eb
            have hsa2 := same_any (some ⟨g9, 0, none⟩) (some ⟨g8, 0, none⟩) (s * 512) c9 c8 S.im w11 (by omega) s2.1 s1.1
            have H11 := Hid.mk (And.intro h11 (And.intro p11 o11))
            clear h11 p11 o11 gb ev ev2 s1 s2 hb11 hsa H10
            go_wp2_with fail
            refine hsa2.mono ?_
            rintro e w12 ⟨rfl, hb12⟩
            have h12 := H11.out.1.later hb12
            have gb := Gro.below H11.out.1.lz hb12 (fun _ => False)
            have p12 := H11.out.2.1.gro gb (fun h => h)
            have o12 := H11.out.2.2.gro gb (fun h => h)
            have had := h12.add (l := S.im) (by rw [hlen]; exact p12) (by omega) (by omega)
            have H12 := Hid.mk o12
            clear h12 p12 o12 gb hb12 hsa2 H11
            go_wp2_with fail
            refine had.mono ?_
            rintro e w13 ⟨rfl, L13, h13, G13⟩
            have had2 := h13.add (l := S.im) (by rw [hlen, List.length_append, List.length_singleton]; exact H12.out.gro G13 (by have := yK_ge (ds.length + 1); omega)) (by omega) (by rw [List.length_append, List.length_singleton]; omega)
            clear h13 G13 had H12
            go_wp2_with fail
            refine had2.mono ?_
            rintro e w14 ⟨rfl, L14, hz, _⟩
            clear had2
            have hwz := hz.whole (nm_more hnm (by omega)) (by rw [List.length_append, List.length_singleton]; omega)
            have HZ := Hid.mk hz
            clear hz
            go_wp2_with fail
            refine hwz.mono ?_
            rintro e wy ⟨rfl, hby⟩
            have HR : Hid (DvI w w.heap.size p r s q kq xp (DS.fresh l) (j + 1) wy) := ⟨_, _, _, _, (HZ.out.later hby).closed, by rw [List.length_append, List.length_singleton]; omega, by rw [List.length_append, List.length_append, List.length_singleton]; omega, by omega, (nm_more hnm (by omega)), (ds_more (ds_more hds (by omega)) (by omega))⟩
            clear hwz hby HZ
            go_wp2
            go_roundw
            case rel => exact ⟨j + 1, by omega, by go_num, HR.out⟩
            case measure => simp [intOf]; omega
          · by_cases k2 : kind = 2
            · subst k2
              obtain ⟨h, ho, _, _⟩ := H0.out
              have sl0 : SL wb lab 0 a' m l' := ⟨ho.s, fun z hz hp => by
                apply Decidable.byContradiction
                intro hne
                have := h.lo _ hne
                have := ho.sB z hz hp
                omega⟩
              have hl' := ho.s.1
              have hha2 := hand_any a' m c' l' wb hm3' ho.s
              have cd : wb.cell? ⟨wr.heap.size, 2, none⟩ = some (.slice a' m c') := cell_of_block (h.box _ rfl).1 (j := 2) rfl
              have HSL := Hid.mk sl0
              clear h ho sl0
              go_wp2_with fail
              rw [← HQ.out.2]
              refine hha2.mono ?_
              rintro e w3 ⟨rfl, F3, hb3⟩
              obtain ⟨h, ho, _, _⟩ := H0.out
              have g3 := Gro.keeps h.lz (Keeps.of_below (fun _ => False) hb3) 9 (fun _ _ h => h.elim)
              have h3 := h.nine (g3.mono (Z := fun z => z = 1 ∨ z = 9) (fun _ h => .inr h)) (h.tw.gro g3 (by omega))
              have sl3 := HSL.out.gro g3 (by omega)
              have lg3 : relab lab wb.heap.size w3.heap.size 9 wb.heap.size = 9 := relab_new (Nat.le_refl _) F3.lt
              generalize relab lab wb.heap.size w3.heap.size 9 = L3 at *
              obtain ⟨gd, hgd⟩ : ∃ gd, gd = wb.heap.size := ⟨_, rfl⟩
              rw [← hgd] at F3 lg3 ⊢
              have hsr := F3.src m (by simp [hl'])
              rw [List.take_left' hl'] at hsr
              obtain ⟨m4, hm4⟩ : ∃ m4, m4 = m + 3 := ⟨_, rfl⟩
              have HM4 := Hid.mk hm4
              rw [← hm4]
              have hd := h3.tw.write h3.lz x (some ⟨gd, 0, none⟩) m m4 l' hsr (by omega)
              have hwp := wr_puts S s x m l'
              have cx : w3.cell? ⟨wr.heap.size, 1, none⟩ = some (.int .i64 x) := cell_of_block (h3.box _ rfl).1 (j := 1) rfl
              have H3 := Hid.mk (And.intro h3 (And.intro F3 (And.intro lg3 sl3)))
              clear h ho g3 h3 sl3 lg3 F3 hb3 hsr hm4 hgd hha2 cd ck HSL
              go_wp2_with fail
              refine hd.mono ?_
              rintro e w4 ⟨rfl, L4, g4, t4⟩
              obtain ⟨h3, F3, lg3, sl3⟩ := H3.out
              have h4 := h3.one g4 t4
              have F4 := F3.gro g4 lg3 (by omega)
              have lg4 := g4.tag F3.lt lg3
              have sl4 := sl3.gro g4 (by omega)
              have hd4 := h4.tw.rwrite h4.lz x a' m c' l' sl4.1 (by omega)
              have cx4 : w4.cell? ⟨wr.heap.size, 1, none⟩ = some (.int .i64 x) := cell_of_block (h4.box _ rfl).1 (j := 1) rfl
              have cd4 : w4.cell? ⟨wr.heap.size, 2, none⟩ = some (.slice a' m c') := cell_of_block (h4.box _ rfl).1 (j := 2) rfl
              have H4 := Hid.mk (And.intro h4 (And.intro F4 (And.intro lg4 sl4)))
              clear h3 F3 lg3 sl3 h4 F4 lg4 sl4 g4 t4 hd cx H3
              generalize hcode : (S.wr s x m l').1 = code at *
              generalize hS2 : (S.wr s x m l').2 = S2 at *
              clear hcode hS2
              go_wp2_with fail
              refine hd4.mono ?_
              rintro e w5 ⟨rfl, L5, g5, t5⟩
              obtain ⟨h4, F4, lg4, sl4⟩ := H4.out
              have h5 := h4.one g5 t5
              have F5 := F4.gro g5 lg4 (by omega)
              have lg5 := g5.tag F4.lt lg4
              have sl5 := sl4.gro g5 (by omega)
              have hba := back_any gd a' m c' l' w5 hm3' hl' F5 sl5.1
              rw [← HM4.out] at hba
              have cd5 : w5.cell? ⟨wr.heap.size, 2, none⟩ = some (.slice a' m c') := cell_of_block (h5.box _ rfl).1 (j := 2) rfl
              have H5 := Hid.mk (And.intro h5 (And.intro lg5 sl5))
              clear h4 F4 lg4 sl4 h5 F5 lg5 sl5 g5 t5 hd4 cx4 cd4 H4
              have hcc : (code == code) = true := by simp
              go_wp2_with fail
              refine hba.mono ?_
              rintro e w6 ⟨rfl, k6⟩
              obtain ⟨h5, lg5, sl5⟩ := H5.out
              have g6 := Gro.plain (X := fun z => z = 9) h5.lz k6 (fun k _ e => by rw [e]; exact lg5)
              have h6 := h5.nine (g6.mono (Z := fun z => z = 1 ∨ z = 9) (fun _ h => .inr h)) (h5.tw.gro g6 (by omega))
              have sl6 := sl5.gro g6 (by omega)
              have hwr := writes_any h6.tw h6.lz (by omega) 2 x a' m c' pa pn pc l' sl6 (by omega)
              have b6 := (h6.box _ rfl).1
              have e0 : w6.cell? ⟨wr.heap.size, 0, none⟩ = some (.int .i64 2) := cell_of_block b6 (j := 0) rfl
              have e1 : w6.cell? ⟨wr.heap.size, 1, none⟩ = some (.int .i64 x) := cell_of_block b6 (j := 1) rfl
              have e2 : w6.cell? ⟨wr.heap.size, 2, none⟩ = some (.slice a' m c') := cell_of_block b6 (j := 2) rfl
              have e3 : w6.cell? ⟨wr.heap.size, 3, none⟩ = some (.slice pa pn pc) := cell_of_block b6 (j := 3) rfl
              have H6 := Hid.mk h6
              clear h5 lg5 sl5 g6 h6 sl6 b6 k6 hba cd5 H5
              go_wp2_with fail
              refine hwr.mono ?_
              rintro e w7 ⟨rfl, L7, S7, g7, t7, hp7⟩
              have hz := H6.out.nine g7 t7
              clear hwr g7 t7 H6 e0 e1 e2 e3
              have hwz := hz.whole hnm (by omega)
              have HZ := Hid.mk hz
              clear hz
              go_wp2_with fail
              refine hwz.mono ?_
              rintro e wy ⟨rfl, hby⟩
              have HR : Hid (DvI w w.heap.size p r s q kq xp (DS.fresh l) (j + 1) wy) := ⟨_, _, _, _, (HZ.out.later hby).closed, by omega, by omega, by omega, hnm, hds⟩
              clear hwz hby HZ
              go_wp2
              go_roundw
              case rel => exact ⟨j + 1, by omega, by go_num, HR.out⟩
              case measure => simp [intOf]; omega
            · by_cases k6 : kind = 6
              · subst k6
                obtain ⟨h, ho, _, _⟩ := H0.out
                have hha2 := handed_any h.tw h.lz h.lo h.hB (by omega) pa pn pc pl ho.p ho.pB hpn3
                have cp : wb.cell? ⟨wr.heap.size, 3, none⟩ = some (.slice pa pn pc) := cell_of_block (h.box _ rfl).1 (j := 3) rfl
                clear h ho
                go_wp2_with fail
                rw [← HQ.out.2]
                refine hha2.mono ?_
                rintro e w3 ⟨rfl, L3, g3, t3⟩
                obtain ⟨h, ho, _, _⟩ := H0.out
                have h3 := h.nine g3 t3
                have hrc := h3.tw.rcrash h3.lz (by omega) pa pn pc pl (ho.p.far (g3.belowB h.hB h.lo (by omega)) ho.pB) (by omega)
                have cp3 : w3.cell? ⟨wr.heap.size, 3, none⟩ = some (.slice pa pn pc) := cell_of_block (h3.box _ rfl).1 (j := 3) rfl
                have H3 := Hid.mk h3
                clear h ho h3 g3 t3 hha2 cp ck
                go_wp2_with fail
                refine hrc.mono ?_
                rintro e w4 ⟨rfl, L4, g4, t4⟩
                have hz := H3.out.one g4 t4
                have hcp : (S.crash s pl).puts.length = 0 := rfl
                clear hrc g4 t4 H3 cp3
                have hwz := hz.whole hnm (by omega)
                have HZ := Hid.mk hz
                clear hz
                go_wp2_with fail
                refine hwz.mono ?_
                rintro e wy ⟨rfl, hby⟩
                have HR : Hid (DvI w w.heap.size p r s q kq xp (DS.fresh l) (j + 1) wy) := ⟨_, _, _, _, (HZ.out.later hby).closed, by omega, by omega, by omega, hnm, hds⟩
                clear hwz hby HZ
                go_wp2
                go_roundw
                case rel => exact ⟨j + 1, by omega, by go_num, HR.out⟩
                case measure => simp [intOf]; omega
              · obtain ⟨h, ho, _, _⟩ := H0.out
                have hst := h.tw.step h.lz (by omega) kind x a' m c' pa pn pc l' pl ho
                have b6 := (h.box _ rfl).1
                have e1 : wb.cell? ⟨wr.heap.size, 1, none⟩ = some (.int .i64 x) := cell_of_block b6 (j := 1) rfl
                have e2 : wb.cell? ⟨wr.heap.size, 2, none⟩ = some (.slice a' m c') := cell_of_block b6 (j := 2) rfl
                have e3 : wb.cell? ⟨wr.heap.size, 3, none⟩ = some (.slice pa pn pc) := cell_of_block b6 (j := 3) rfl
                clear h ho b6
                go_wp2_with fail
                rw [← HQ.out.2]
                refine hst.mono ?_
                rintro e w3 ⟨rfl, L3, S3, g3, t3, hp3⟩
                have hz := H0.out.1.one g3 t3
                clear hst g3 t3 e1 e2 e3 ck
                have hwz := hz.whole hnm (by omega)
                have HZ := Hid.mk hz
                clear hz
                go_wp2_with fail
                refine hwz.mono ?_
                rintro e wy ⟨rfl, hby⟩
                have HR : Hid (DvI w w.heap.size p r s q kq xp (DS.fresh l) (j + 1) wy) := ⟨_, _, _, _, (HZ.out.later hby).closed, by omega, by omega, by omega, hnm, hds⟩
                clear hwz hby HZ
                go_wp2
                go_roundw
                case rel => exact ⟨j + 1, by omega, by go_num, HR.out⟩
                case measure => simp [intOf]; omega
      · have hlt' : ¬ (j : Int) < (sn : Int) := by omega
        have hok := h0.tw.ok
        have hlen := hok.len
        have hd := h0.tw.image h0.lz 9
        have H0 := Hid.mk h0
        clear h0 hlt
        go_wp2_with fail
        refine hd.mono ?_
        rintro e w3 ⟨gi, ci, L3, rfl, g3, o3, t3⟩
        have h3 := H0.out.nine g3 t3
        have hd3 := h3.tw.rimage h3.lz
        have H3 := Hid.mk (And.intro h3 o3)
        clear h3 o3 g3 t3 hd H0
        go_wp2_with fail
        refine hd3.mono ?_
        rintro e w4 ⟨g4, c4, rfl, hb4, s4⟩
        have h4 := H3.out.1.later hb4
        obtain ⟨va', vc', ev, s1, _⟩ := (H3.out.2.gro (Gro.below H3.out.1.lz hb4 (fun _ => False)) (fun h => h)).src
        have ea : some ⟨gi, 0, none⟩ = va' := by injection ev
        subst ea
        have hsa := same_any (some ⟨gi, 0, none⟩) (some ⟨g4, 0, none⟩) (s * 512) ci c4 S.im w4 (by omega) s1.1 s4
        have H4 := Hid.mk h4
        clear h4 ev s1 s4 hb4 hd3 H3
        go_wp2_with fail
        refine hsa.mono ?_
        rintro e w5 ⟨rfl, hb5⟩
        have h5 := H4.out.later hb5
        have hwh := h5.whole hnm (by omega)
        have H5 := Hid.mk h5
        clear h5 hsa hb5 H4
        go_wp2_with fail
        refine hwh.mono ?_
        rintro e w6 ⟨rfl, hb6⟩
        have h6 := H5.out.later hb6
        have hgr := h6.grown hds (by omega)
        have hB6 := h6.hB
        clear h6 hwh hb6 H5
        go_wp2_with fail
        refine hgr.mono ?_
        rintro e w7 ⟨rfl, h7, hz7⟩
        have hB7 := Nat.le_trans hB6 hz7
        have H7 := Hid.mk h7
        have hwh : Calls Try.prog 31 #[.pointer (some ⟨q, 0, none⟩)] w7 fun e w' => e = .returned (.bool true) ∧ Below w7.heap.size w7 w' := by
          obtain ⟨L, hz, _, _, _, v0, v1, v2, v3, v4, v5, hk⟩ := h7
          exact whole_any hk hz hnm (by omega)
        clear hgr h7 hz7 hB6
        go_wp2_with fail
        refine hwh.mono ?_
        rintro e w8 ⟨rfl, hb8⟩
        have h8 := H7.out.later hb8 hB7
        have hB8 := Nat.le_trans hB7 hb8.size
        have hd8 := h8.image
        have H8 := Hid.mk h8
        clear hwh hb8 H7 hB7 h8
        go_wp2_with fail
        refine hd8.mono ?_
        rintro e w9 ⟨g9, c9, rfl, hb9, s9⟩
        have h9 := H8.out.later hb9 hB8
        have hB9 := Nat.le_trans hB8 hb9.size
        have hd9 := h9.rimage
        have H9 := Hid.mk (And.intro h9 s9)
        clear hd8 hb9 h9 s9 hB8 H8
        go_wp2_with fail
        refine hd9.mono ?_
        rintro e w10 ⟨g10, c10, rfl, hb10, s10⟩
        have h10 := H9.out.1.later hb10 hB9
        have hB10 := Nat.le_trans hB9 hb10.size
        have hsa := same_any (some ⟨g9, 0, none⟩) (some ⟨g10, 0, none⟩) (s * 512) c9 c10 S.im w10 (by omega) (H9.out.2.later hb10) s10
        have H10 := Hid.mk h10
        clear hd9 hb10 h10 s10 hB9 H9
        go_wp2_with fail
        refine hsa.mono ?_
        rintro e w11 ⟨rfl, hb11⟩
        have h11 := H10.out.later hb11 hB10
        have hB11 := Nat.le_trans hB10 hb11.size
        have hd11 := h11.ximage
        have H11 := Hid.mk h11
        clear hsa hb11 h11 hB10 H10
        go_wp2_with fail
        refine hd11.mono ?_
        rintro e w12 ⟨g12, c12, rfl, hb12, s12⟩
        have h12 := H11.out.later hb12 hB11
        have hB12 := Nat.le_trans hB11 hb12.size
        have s12' : Src w12 (some ⟨g12, 0, none⟩) n l := by rw [HN.out]; exact s12
        have hsa := same_any (some ⟨g12, 0, none⟩) (some ⟨b0, o0, none⟩) n c12 c l w12 (by omega) s12' (HS.out.1.later h12.bel)
        have H12 := Hid.mk h12
        rw [← HN.out]
        clear hd11 hb12 h12 s12 s12' hB11 H11
        go_wp2_with fail
        refine hsa.mono ?_
        rintro e w13 ⟨rfl, hb13⟩
        have HF := Hid.mk (H12.out.bel.trans (hb13.mono hB12))
        clear hsa hb13 H12 hB12
        go_wp2
        go_ret
        exact ⟨rfl, HF.out⟩
end Go.Proofs.Ytnolpafdkaloeaa
end

section
namespace Go.Proofs.Ytnolpafdkaloeaa
open Go.ChangeShapes Go.WideShapes Go.ChangeAt Go.RowKit Go.Deep

theorem bulk_pos {H : Type} (d : DataW H) : 1 ≤ Rows.uptoBulk d := by
  cases d
  case lit l => cases l <;> simp [Rows.uptoBulk]
  all_goals simp [Rows.uptoBulk]
theorem bulk_len {H : Type} : ∀ l : List (DataW H), l.length ≤ Rows.uptoBulkAll l
  | [] => Nat.zero_le _
  | d :: r => by
    have h1 := bulk_pos d
    have h2 := bulk_len r
    simp only [Rows.uptoBulkAll, List.length_cons]
    omega
theorem bulk_slice {H : Type} (e f : List (DataW H)) : e.length ≤ Rows.uptoBulk (.slice e f) := by
  have := bulk_len e
  simp only [Rows.uptoBulk]
  omega
section
variable {H : Type} {enc : TypeId × Value → H} {W : World} {base : Nat} {spare : Nat → Bool} {held : Bool}
theorem open_bytes5 {fuel : Nat} {v : Value} {d : DataW H} {pl : List MemPlace} (h : DataW.trod enc Try.prog W base spare held fuel 22 [v] = some (d, pl)) (hw : ∀ n ∈ d.weights Try.prog 22, n ≤ reachBytes) :
    ∃ a n c l, v = .slice a n c ∧ Src W a n l ∧ n ≤ c ∧ n + 3 ≤ 140737488355328 := by
  rcases open_ints Try.underlying22 Try.underlying5 cellsU8 h with ⟨hcs, _⟩ | ⟨x, l, c, zs, hcs, _, hl, hm, hz, hd, hcell, hwz⟩
  · simp only [List.cons.injEq, and_true] at hcs
    exact ⟨none, 0, 0, [], hcs, ⟨rfl, fun _ => rfl, fun x hx => by cases hx⟩, Nat.le_refl _, by omega⟩
  · simp only [List.cons.injEq, and_true] at hcs
    simp only [Prod.mk.injEq] at hd
    obtain ⟨rfl, rfl⟩ := hd
    have hzl : l ≤ zs.length := by rw [hz]; split <;> omega
    have h1 := hw ((((lits IntKind.u8 (zs.take l) : List (DataW H))).length + ((lits IntKind.u8 (zs.drop l) : List (DataW H))).length) * Try.prog.bytesOf 5) (by simp [DataW.weights, Try.underlying22])
    rw [bytesU8] at h1
    simp only [lits, List.length_map, List.length_take, List.length_drop, reachBytes] at h1
    refine ⟨some x, l, c, zs.take l, hcs, ⟨by simp; omega, (fun h => by cases h), fun y hy i hi => ?_⟩, hl, by omega⟩
    cases hy
    rw [hcell i (by omega)]
    simp [List.getD, hi]

theorem open_picks5 {fuel : Nat} {v : Value} {d : DataW H} {pl : List MemPlace} (h : DataW.trod enc Try.prog W base spare held fuel 31 [v] = some (d, pl)) (hw : ∀ n ∈ d.weights Try.prog 31, n ≤ reachBytes) :
    ∃ a n c l, v = .slice a n c ∧ PSrc W a n l ∧ 24 * n + 24 ≤ 140737488355328 := by
  rcases open_slice Try.underlying31 h with ⟨hcs, _⟩ | ⟨x, len, cap, m, k, D, Pl, hcs, _, hl, hm, hmm, hd, hx⟩
  · simp only [List.cons.injEq, and_true] at hcs
    exact ⟨none, 0, 0, [], hcs, ⟨rfl, fun _ => rfl, (fun x hx => by cases hx), fun q hq => by cases hq⟩, by omega⟩
  · simp only [List.cons.injEq, and_true] at hcs
    simp only [Prod.mk.injEq] at hd
    replace hd := hd.1
    subst hd
    have hlm : len ≤ m := by rw [hmm]; split <;> omega
    have h1 := hw ((((List.range len).map D).length + ((List.range (m - len)).map fun j => D (len + j)).length) * Try.prog.bytesOf 50) (by simp [DataW.weights, Try.underlying31])
    rw [bytesPick] at h1
    simp only [List.length_map, List.length_range, reachBytes] at h1
    rw [cellsPick] at hx
    have each : ∀ i, i < len → ∃ q : P3, W.cell? (x.add (i * 3)) = some (.int .i64 q.1) ∧ W.cell? (x.add (i * 3 + 1)) = some (.int .i64 q.2.1) ∧ W.cell? (x.add (i * 3 + 2)) = some (.int .i64 q.2.2) ∧ q.1 ≤ 9223372036854775807 ∧ q.2.1 ≤ 9223372036854775807 ∧ q.2.2 ≤ 9223372036854775807 := by
      intro i hi
      obtain ⟨cs', e1, e2⟩ := hx i (by omega)
      obtain ⟨_, hlen, hcell⟩ := World.cells?_some e1
      obtain ⟨v0, v1, v2, y0, y1, y2, k', rfl, _, g0, g1, g2⟩ := trod3 Try.underlying50 cellsPick rfl rfl rfl cellsInt cellsInt cellsInt e2
      obtain ⟨n0, q0, _, w0⟩ := DataW.trod_int Try.underlying3 g0
      obtain ⟨n1, q1, _, w1⟩ := DataW.trod_int Try.underlying3 g1
      obtain ⟨n2, q2, _, w2⟩ := DataW.trod_int Try.underlying3 g2
      simp only [List.cons.injEq, and_true] at q0 q1 q2
      subst q0 q1 q2
      have c0 := hcell 0 (by omega)
      have c1 := hcell 1 (by omega)
      have c2 := hcell 2 (by omega)
      rw [add_add] at c0 c1 c2
      exact ⟨(n0, n1, n2), by simpa using c0, by simpa using c1, by simpa using c2, int_le w0, int_le w1, int_le w2⟩
    obtain ⟨f, hf⟩ := choose_lt each
    refine ⟨some x, len, cap, (List.range len).map f, hcs, ⟨by simp, (fun h => by cases h), fun y hy i hi => ?_, fun q hq => ?_⟩, by omega⟩
    · cases hy
      have hi' : i < len := by simpa using hi
      obtain ⟨a0, a1, a2, _⟩ := hf i hi'
      obtain ⟨z0, _⟩ := hf 0 (by omega)
      obtain ⟨b, o, spot⟩ := x
      have hspot : spot = none := by simpa [Addr.add] using World.cell?_spot z0
      subst hspot
      rw [addr_add] at a0 a1 a2
      exact ⟨b, o, rfl, by simpa using a0, by simpa [Nat.add_assoc] using a1, by simpa [Nat.add_assoc] using a2⟩
    · obtain ⟨i, hi, rfl⟩ := List.mem_map.1 hq
      exact (hf i (List.mem_range.1 hi)).2.2.2

theorem open_ops5 {fuel : Nat} {v : Value} {d : DataW H} {pl : List MemPlace} (h : DataW.trod enc Try.prog W base spare held fuel 23 [v] = some (d, pl)) (hw : ∀ n ∈ d.weights Try.prog 23, n ≤ reachBytes) :
    ∃ a n c, v = .slice a n c ∧ Script4 W W.heap.size a n ∧ n ≤ Rows.uptoBulk d := by
  rcases open_slice Try.underlying23 h with ⟨hcs, _⟩ | ⟨x, len, cap, m, k, D, Pl, hcs, _, hl, hm, hmm, hd, hx⟩
  · simp only [List.cons.injEq, and_true] at hcs
    exact ⟨none, 0, 0, hcs, ⟨fun _ => rfl, (fun x hx => by cases hx)⟩, Nat.zero_le _⟩
  · simp only [List.cons.injEq, and_true] at hcs
    simp only [Prod.mk.injEq] at hd
    replace hd := hd.1
    subst hd
    have hlm : len ≤ m := by rw [hmm]; split <;> omega
    have h1 := hw ((((List.range len).map D).length + ((List.range (m - len)).map fun j => D (len + j)).length) * Try.prog.bytesOf 33) (by simp [DataW.weights, Try.underlying23])
    rw [bytesOp] at h1
    simp only [List.length_map, List.length_range, reachBytes] at h1
    rw [cellsOp] at hx
    have hwe : ∀ i, i < len → ∀ n ∈ (D i).weights Try.prog 33, n ≤ reachBytes := fun i hi n hn => hw n (by
      simp only [DataW.weights, Try.underlying23]
      exact List.mem_cons_of_mem _ (List.mem_append_left _ (weightsAll_mem (List.mem_map.2 ⟨i, List.mem_range.2 hi, rfl⟩) hn)))
    refine ⟨some x, len, cap, hcs, ⟨(fun h => by cases h), fun y hy i hi => ?_⟩, ?_⟩
    · cases hy
      obtain ⟨cs', e1, e2⟩ := hx i (by omega)
      obtain ⟨_, hlen, hcell⟩ := World.cells?_some e1
      obtain ⟨v0, v1, v2, v3, y0, y1, y2, y3, k', rfl, hxy, g0, g1, g2, g3⟩ := trod4 Try.underlying33 cellsOp rfl rfl rfl rfl cellsInt cellsInt cellsBytes cellsPicks e2
      have hwi := hwe i hi
      have hxy' : D i = .agg [y0.1, y1.1, y2.1, y3.1] := hxy
      rw [hxy'] at hwi
      obtain ⟨n0, q0, _, w0⟩ := DataW.trod_int Try.underlying3 g0
      obtain ⟨n1, q1, _, w1⟩ := DataW.trod_int Try.underlying3 g1
      obtain ⟨a, na, ca, l, q2, hs, _, hsn⟩ := open_bytes5 g2 (fun z hz => hwi z (weights4 Try.underlying33 (.inl hz)))
      obtain ⟨pa, pn, pc, pl, q3, hp, hpn⟩ := open_picks5 g3 (fun z hz => hwi z (weights4 Try.underlying33 (.inr hz)))
      simp only [List.cons.injEq, and_true] at q0 q1
      subst q0 q1 q2 q3
      have c0 := hcell 0 (by omega)
      have c1 := hcell 1 (by omega)
      have c2 := hcell 2 (by omega)
      have c3 := hcell 3 (by omega)
      rw [add_add] at c0 c1 c2 c3
      obtain ⟨cs0, z1, z2⟩ := hx 0 (by omega)
      obtain ⟨u0, u1, u2, u3, _, _, _, _, _, rfl, _⟩ := trod4 Try.underlying33 cellsOp rfl rfl rfl rfl cellsInt cellsInt cellsBytes cellsPicks z2
      obtain ⟨_, _, zcell⟩ := World.cells?_some z1
      have z0 := zcell 0 (by omega)
      rw [add_add] at z0
      obtain ⟨b, o, spot⟩ := x
      have hspot : spot = none := by simpa [Addr.add] using World.cell?_spot z0
      subst hspot
      rw [addr_add] at c0 c1 c2 c3
      simp at c0 c1 c2 c3
      exact ⟨b, o, rfl, World.block_lt_of_cell? _ _ c0, n0, n1, a, na, ca, pa, pn, pc, l, pl, c0, by simpa [Nat.add_assoc] using c1, by simpa [Nat.add_assoc] using c2, by simpa [Nat.add_assoc] using c3, ⟨int_le w1, hs, hs.old, by omega, hp, hp.old, by omega⟩, hsn, hpn⟩
    · have := bulk_slice (H := H) ((List.range len).map D) ((List.range (m - len)).map fun j => D (len + j))
      simpa using this
end
end Go.Proofs.Ytnolpafdkaloeaa
end
