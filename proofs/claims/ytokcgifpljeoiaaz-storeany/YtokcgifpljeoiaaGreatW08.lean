import Derived.Test.YtokcgifpljeoiaaGreatW03
import Derived.Test.YtokcgifpljeoiaaGreatW07
import Derived.Deep.RegionHeld3
section
namespace Go.Proofs.YtokcgifpljeoiaaGreat
open Go.RowKit

/-- What the newest anchor of a log tells: epoch, tail, error. -/
def lnewest (l r : List Int) : Nat × Nat × Nat :=
  if (snewest l r).2.2.2 ≠ 0 ∨ 0 < (snewest l r).2.2.1.length ∨ (snewest l r).2.1 / 4294967296 < 1 ∨ 1073741824 < (snewest l r).2.1 / 4294967296 ∨ 1073741824 < (snewest l r).2.1 % 4294967296 then (0, 0, 6)
  else ((snewest l r).2.1 / 4294967296, (snewest l r).2.1 % 4294967296, 0)

theorem i64_low32 (a : Nat) (ha : a < 9223372036854775808) : bits .and .i64 (a : Int) 4294967295 = ((a % 4294967296 : Nat) : Int) := by
  have ea : (BitVec.ofInt 64 (a : Int)).toNat = a := by rw [BitVec.ofInt_natCast, BitVec.toNat_ofNat]; exact Nat.mod_eq_of_lt (by omega)
  have eb : (BitVec.ofInt 64 (4294967295 : Int)).toNat = 2 ^ 32 - 1 := by decide
  show IntKind.i64.wrap ((BitVec.ofInt 64 (a : Int) &&& BitVec.ofInt 64 (4294967295 : Int)).toNat : Int) = _
  rw [BitVec.toNat_and, ea, eb, IntKind.wrap_i64, Nat.and_two_pow_sub_one_eq_mod]
  omega

set_option maxRecDepth 20000 in
set_option maxHeartbeats 4000000 in
theorem anewest_ok {w : World} {F : Nat → Prop} {p s : Nat} {S : DS} (h : DiskAt w F p s S) (f : Nat) (n : Int) (hbig : S.puts.length + 1 ≤ 4000000000000) (hf : S.fuse ≠ 0) (hs : f + 1 < s) (hb1 : Bytes (S.now f)) (hb2 : Bytes (S.now (f + 1))) :
    Calls Tryz.prog 118 #[areaV p f n] w fun e w' => e = .returned (.tuple #[.int .i64 ((lnewest (S.now f) (S.now (f + 1))).1 : Int), .int .i64 ((lnewest (S.now f) (S.now (f + 1))).2.1 : Int), .int .i64 ((lnewest (S.now f) (S.now (f + 1))).2.2 : Int)]) ∧ DiskAt w' F p s S.read.read ∧ Keeps F w w' := by
  have hB := Keeps.boxed (w := w) F (.cells #[.pointer (some ⟨p, 0, none⟩), .int .i64 f, .int .i64 n] 134)
  have h1 := pair_ok (h.boxed (.cells #[.pointer (some ⟨p, 0, none⟩), .int .i64 f, .int .i64 n] 134)) f n hbig hf hs
  have hN := snewest_small (l := S.now f) (r := S.now (f + 1))
  have hP := fun a1 n1 c1 a2 n2 c2 w1 hs1 hs2 => pnewest_any a1 n1 c1 (S.now f) a2 n2 c2 (S.now (f + 1)) w1 hs1 hs2 hb1 hb2
  unfold lnewest
  generalize (snewest (S.now f) (S.now (f + 1))).2.1 = N at *
  generalize (snewest (S.now f) (S.now (f + 1))).2.2.2 = E at *
  generalize (snewest (S.now f) (S.now (f + 1))).2.2.1 = D at *
  generalize (snewest (S.now f) (S.now (f + 1))).1 = K at *
  have hsh : (N : Int) / 4294967296 = ((N / 4294967296 : Nat) : Int) := by omega
  have hand := i64_low32 N (by omega)
  have hM : N % 4294967296 < 4294967296 := Nat.mod_lt _ (by omega)
  have hQ : N / 4294967296 < 2147483648 := by omega
  generalize N / 4294967296 = Q at *
  generalize N % 4294967296 = M at *
  by_cases k0 : E ≠ 0
  · rw [if_pos (by omega)]
    go_enter Tryz.func118, Tryz.ntmps118
    go_wp2_with fail
    refine h1.mono ?_
    rintro e w1 ⟨v1, v2, rfl, ho1, ho2, hd, hk⟩
    obtain ⟨a1, c1, rfl, hs1, _⟩ := ho1
    obtain ⟨a2, c2, rfl, hs2, _⟩ := ho2
    have HK := (hB.trans hk (fun _ h => .inl h))
    go_wp2_with fail
    refine (hP a1 _ c1 a2 _ c2 w1 hs1 hs2).mono ?_
    rintro e w2 ⟨v, rfl, ⟨a3, c3, rfl, _, _, _⟩, hb⟩
    have HD2 := (hd.keep (Keeps.of_below (fun _ => False) hb) (fun _ _ h => h))
    go_wp2
    go_ret3
    exact ⟨rfl, HD2, (HK.trans (Keeps.of_below (fun _ => False) hb) (fun _ h => h.elim))⟩
  · obtain rfl : E = 0 := by omega
    by_cases k1 : 0 < D.length
    · rw [if_pos (by omega)]
      go_enter Tryz.func118, Tryz.ntmps118
      go_wp2_with fail
      refine h1.mono ?_
      rintro e w1 ⟨v1, v2, rfl, ho1, ho2, hd, hk⟩
      obtain ⟨a1, c1, rfl, hs1, _⟩ := ho1
      obtain ⟨a2, c2, rfl, hs2, _⟩ := ho2
      have HK := (hB.trans hk (fun _ h => .inl h))
      go_wp2_with fail
      refine (hP a1 _ c1 a2 _ c2 w1 hs1 hs2).mono ?_
      rintro e w2 ⟨v, rfl, ⟨a3, c3, rfl, _, _, _⟩, hb⟩
      have HD2 := (hd.keep (Keeps.of_below (fun _ => False) hb) (fun _ _ h => h))
      go_wp2
      go_ret3
      exact ⟨rfl, HD2, (HK.trans (Keeps.of_below (fun _ => False) hb) (fun _ h => h.elim))⟩
    · obtain rfl : D = [] := List.length_eq_zero_iff.mp (by omega)
      by_cases k2 : Q < 1
      · rw [if_pos (by omega)]
        obtain rfl : Q = 0 := by omega
        go_enter Tryz.func118, Tryz.ntmps118
        go_wp2_with fail
        refine h1.mono ?_
        rintro e w1 ⟨v1, v2, rfl, ho1, ho2, hd, hk⟩
        obtain ⟨a1, c1, rfl, hs1, _⟩ := ho1
        obtain ⟨a2, c2, rfl, hs2, _⟩ := ho2
        have HK := (hB.trans hk (fun _ h => .inl h))
        go_wp2_with fail
        refine (hP a1 _ c1 a2 _ c2 w1 hs1 hs2).mono ?_
        rintro e w2 ⟨v, rfl, ⟨a3, c3, rfl, _, _, _⟩, hb⟩
        have HD2 := (hd.keep (Keeps.of_below (fun _ => False) hb) (fun _ _ h => h))
        go_wp2
        go_ret3
        exact ⟨rfl, HD2, (HK.trans (Keeps.of_below (fun _ => False) hb) (fun _ h => h.elim))⟩
      · skip
        by_cases k3 : 1073741824 < Q
        · rw [if_pos (by omega)]
          go_enter Tryz.func118, Tryz.ntmps118
          go_wp2_with fail
          refine h1.mono ?_
          rintro e w1 ⟨v1, v2, rfl, ho1, ho2, hd, hk⟩
          obtain ⟨a1, c1, rfl, hs1, _⟩ := ho1
          obtain ⟨a2, c2, rfl, hs2, _⟩ := ho2
          have HK := (hB.trans hk (fun _ h => .inl h))
          go_wp2_with fail
          refine (hP a1 _ c1 a2 _ c2 w1 hs1 hs2).mono ?_
          rintro e w2 ⟨v, rfl, ⟨a3, c3, rfl, _, _, _⟩, hb⟩
          have HD2 := (hd.keep (Keeps.of_below (fun _ => False) hb) (fun _ _ h => h))
          go_wp2
          go_ret3
          exact ⟨rfl, HD2, (HK.trans (Keeps.of_below (fun _ => False) hb) (fun _ h => h.elim))⟩
        · skip
          by_cases k4 : 1073741824 < M
          · rw [if_pos (by omega)]
            go_enter Tryz.func118, Tryz.ntmps118
            go_wp2_with fail
            refine h1.mono ?_
            rintro e w1 ⟨v1, v2, rfl, ho1, ho2, hd, hk⟩
            obtain ⟨a1, c1, rfl, hs1, _⟩ := ho1
            obtain ⟨a2, c2, rfl, hs2, _⟩ := ho2
            have HK := (hB.trans hk (fun _ h => .inl h))
            go_wp2_with fail
            refine (hP a1 _ c1 a2 _ c2 w1 hs1 hs2).mono ?_
            rintro e w2 ⟨v, rfl, ⟨a3, c3, rfl, _, _, _⟩, hb⟩
            have HD2 := (hd.keep (Keeps.of_below (fun _ => False) hb) (fun _ _ h => h))
            go_wp2
            go_ret3
            exact ⟨rfl, HD2, (HK.trans (Keeps.of_below (fun _ => False) hb) (fun _ h => h.elim))⟩
          · skip
            rw [if_neg (by simp; omega)]
            go_enter Tryz.func118, Tryz.ntmps118
            go_wp2_with fail
            refine h1.mono ?_
            rintro e w1 ⟨v1, v2, rfl, ho1, ho2, hd, hk⟩
            obtain ⟨a1, c1, rfl, hs1, _⟩ := ho1
            obtain ⟨a2, c2, rfl, hs2, _⟩ := ho2
            have HK := (hB.trans hk (fun _ h => .inl h))
            go_wp2_with fail
            refine (hP a1 _ c1 a2 _ c2 w1 hs1 hs2).mono ?_
            rintro e w2 ⟨v, rfl, ⟨a3, c3, rfl, _, _, _⟩, hb⟩
            have HD2 := (hd.keep (Keeps.of_below (fun _ => False) hb) (fun _ _ h => h))
            go_wp2
            go_ret3
            exact ⟨rfl, HD2, (HK.trans (Keeps.of_below (fun _ => False) hb) (fun _ h => h.elim))⟩
end Go.Proofs.YtokcgifpljeoiaaGreat
end

section
namespace Go.Proofs.YtokcgifpljeoiaaGreat
open Go.RowKit

/-- What renew of a log's anchors makes of a disk. -/
def arenew (S : DS) (s f : Nat) (num : Int) : Int × DS :=
  let R := srenew (S.now f) (S.now (f + 1)) num []
  if R.2.2 ≠ 0 then ((R.2.2 : Int), S.read.read) else
  let W := S.read.read.wr s ((f : Int) + (R.1 : Int)) 512 R.2.1
  if W.1 ≠ 0 then W else W.2.fl s

theorem lt_there {w : World} {b : Nat} {o : Obj} (h : w.heap[b]? = some o) : b < w.heap.size := by
  rcases Nat.lt_or_ge b w.heap.size with h8 | h8
  · exact h8
  · rw [Array.getElem?_eq_none h8] at h; cases h
theorem disk_more2 {w w2 w3 w4 : World} {F : Nat → Prop} {p s : Nat} {S : DS} (hl : ∀ k, F k → k < w.heap.size) (h2 : Keeps F w w2) (h3 : Keeps F w2 w3) (h4 : w3.heap.size ≤ w4.heap.size) (h : DiskAt w4 (more F w2 w3) p s S) : DiskAt w4 (more F w w4) p s S := by
  have a2 := h2.size
  have a3 := h3.size
  refine h.mono (fun k hk => ?_) (fun k hk => ?_)
  · rcases hk with hk | hk
    · exact .inl hk
    · exact .inr ⟨by omega, by omega⟩
  · rcases hk with hk | hk
    · have := hl k hk; omega
    · exact hk.2
theorem disk_more {w w2 w3 : World} {F : Nat → Prop} {p s : Nat} {S : DS} (hl : ∀ k, F k → k < w.heap.size) (h2 : Keeps F w w2) (h3 : Keeps F w2 w3) (h : DiskAt w3 (more F w2 w3) p s S) : DiskAt w3 (more F w w3) p s S :=
  disk_more2 hl h2 h3 (Nat.le_refl _) h

theorem srenew_full (l r : List Int) (num : Int) (dt : List Int) (h0 : (srenew l r num dt).2.2 = 0) : (srenew l r num dt).2.1.length = 512 := by
  have h : ∀ (t : Int) (N : Nat), dt.length ≤ 496 → (sform t (bytes8 N ++ dt)).length = 512 := fun t N hd => by rw [sform_len (by rw [List.length_append, bytes8_len]; omega)]
  revert h0
  unfold srenew
  split
  · intro h0; cases h0
  · split
    · intro h0; cases h0
    · split
      · intro h0; cases h0
      · dsimp only
        split
        · intro h0; cases h0
        · split
          · intro _; exact h _ _ (by omega)
          · intro _; exact h _ _ (by omega)
theorem srenew_slot (l r : List Int) (num : Int) (dt : List Int) : (srenew l r num dt).1 ≤ 1 := by
  unfold srenew
  split
  · exact Nat.zero_le _
  · split
    · exact Nat.zero_le _
    · split
      · exact Nat.zero_le _
      · dsimp only
        split
        · exact Nat.zero_le _
        · split
          · exact Nat.le_refl _
          · exact Nat.zero_le _

set_option maxRecDepth 20000 in
set_option maxHeartbeats 4000000 in
theorem arenew_ok {w : World} {F : Nat → Prop} {p s : Nat} {S : DS} (h : DiskAt w F p s S) (f : Nat) (n : Int) (E T : Nat) (hE : E ≤ 1073741824) (hT : T ≤ 1073741824) (hbig : S.puts.length + 2 ≤ 4000000000000) (hf : S.fuse ≠ 0) (hs : f + 1 < s) (hb1 : Bytes (S.now f)) (hb2 : Bytes (S.now (f + 1))) :
    Calls Tryz.prog 89 #[areaV p f n, .int .i64 (E : Int), .int .i64 (T : Int)] w fun e w' => e = .returned (.int .i64 (arenew S s f ((E : Int) * 4294967296 + T)).1) ∧ DiskAt w' (more F w w') p s (arenew S s f ((E : Int) * 4294967296 + T)).2 ∧ Keeps F w w' := by
  have h1 := pair_ok (h.boxed (.cells #[.pointer (some ⟨p, 0, none⟩), .int .i64 f, .int .i64 n] 134)) f n (by omega) hf hs
  have hs2 := h.ok.hi
  have HL := Hid.mk h.lt
  have HB := Hid.mk (Keeps.boxed (w := w) F (.cells #[.pointer (some ⟨p, 0, none⟩), .int .i64 f, .int .i64 n] 134))
  have hP := fun a1 n1 c1 a2 n2 c2 w1 hs1 hs2 => renew_any a1 n1 c1 (S.now f) a2 n2 c2 (S.now (f + 1)) none 0 0 [] ((E : Int) * 4294967296 + T) w1 hs1 hs2 hb1 hb2 ⟨rfl, fun _ => rfl, fun x hx => by cases hx⟩ (by intro x hx; cases hx) (fun _ => rfl) (by omega)
  have hsl := srenew_slot (S.now f) (S.now (f + 1)) ((E : Int) * 4294967296 + T) []
  have hln := srenew_full (S.now f) (S.now (f + 1)) ((E : Int) * 4294967296 + T) []
  unfold arenew
  clear h hf hb1 hb2
  obtain ⟨R, hR⟩ : ∃ R, R = srenew (S.now f) (S.now (f + 1)) ((E : Int) * 4294967296 + T) [] := ⟨_, rfl⟩
  rw [← hR] at hsl hln ⊢
  simp only [← hR] at hP
  clear hR
  obtain ⟨K, L, X⟩ := R
  simp only at hsl hln hP ⊢
  by_cases k0 : X ≠ 0
  · rw [if_pos k0]
    have d0 : ((X : Int) == 0) = false := by rw [beq_eq_false_iff_ne]; omega
    go_enter Tryz.func89, Tryz.ntmps89
    go_wp2_with fail
    refine h1.mono ?_
    rintro e w1 ⟨v1, v2, rfl, ho1, ho2, hd, hk⟩
    obtain ⟨a1, c1, rfl, hs1, _⟩ := ho1
    obtain ⟨a2, c2, rfl, hs2, _⟩ := ho2
    have h2 := hP a1 _ c1 a2 _ c2 w1 hs1 hs2
    have HD := Hid.mk hd
    have HK := Hid.mk (HB.out.trans hk (fun _ h => .inl h))
    clear h1 hs1 hs2 hd hk hP
    go_wp2_with fail
    refine h2.mono ?_
    rintro e w2 ⟨v, rfl, ⟨a3, c3, rfl, _, _, _⟩, hb⟩
    have HD2 := Hid.mk (HD.out.keep (Keeps.of_below (fun _ => False) hb) (fun _ _ h => h))
    have HK2 := Hid.mk (HK.out.trans (Keeps.of_below (fun _ => False) hb) (fun _ h => h.elim))
    clear h2 hb
    go_wp2
    go_ret
    exact ⟨rfl, HD2.out.more, HK2.out⟩
  · obtain rfl : X = 0 := by omega
    rw [if_neg k0]
    clear k0
    have hlen := hln rfl
    clear hln
    obtain ⟨Y, hY⟩ : ∃ Y, Y = (S.read.read.wr s ((f : Int) + (K : Int)) 512 L) := ⟨_, rfl⟩
    rw [← hY]
    have HY := Hid.mk hY
    clear hY
    by_cases k1 : Y.1 ≠ 0
    · rw [if_pos k1]
      go_enter Tryz.func89, Tryz.ntmps89
      go_wp2_with fail
      refine h1.mono ?_
      rintro e w1 ⟨v1, v2, rfl, ho1, ho2, hd, hk⟩
      obtain ⟨a1, c1, rfl, hs1, _⟩ := ho1
      obtain ⟨a2, c2, rfl, hs2, _⟩ := ho2
      have h2 := hP a1 _ c1 a2 _ c2 w1 hs1 hs2
      have hbox := box_kept HL.out hk
      have HK := Hid.mk (HB.out.trans hk (fun _ h => .inl h))
      have HD := Hid.mk hd
      have HX := Hid.mk hbox
      clear h1 hs1 hs2 hd hk hP hbox
      go_wp2_with fail
      refine h2.mono ?_
      rintro e w2 ⟨v, rfl, ⟨a3, c3, rfl, hs3, _, _⟩, hb⟩
      have hd2 := HD.out.keep (Keeps.of_below (fun _ => False) hb) (fun _ _ h => h)
      have HK2 := Hid.mk (HK.out.trans (Keeps.of_below (fun _ => False) hb) (fun _ h => h.elim))
      have hbox := (hb.block _ (lt_there HX.out)).trans HX.out
      have hc0 := cell_of_block hbox (j := 0) rfl
      have hc1 := cell_of_block hbox (j := 1) rfl
      have h3 := write_all hd2 ((f : Int) + (K : Int)) a3 _ c3 L hs3 (by simpa [DS.read] using (show S.puts.length + 1 ≤ 4000000000000 by omega))
      rw [hlen] at h3
      have HBX := Hid.mk hbox
      clear h2 hb hd2 hs3 hbox
      rw [hlen]
      go_wp2_with fail
      refine h3.mono ?_
      rintro e w3 ⟨rfl, hd3, hk3⟩
      have HK3 := Hid.mk (HK2.out.trans hk3 (fun _ h => .inl h))
      rw [← HY.out] at hd3 ⊢
      have HD3 := Hid.mk (disk_more HL.out HK2.out hk3 hd3)
      have d1 : (Y.1 == 0) = false := by rw [beq_eq_false_iff_ne]; exact k1
      clear hd3 hk3 h3
      go_wp2
      go_ret
      exact ⟨rfl, HD3.out, HK3.out⟩
    · rw [if_neg k1]
      go_enter Tryz.func89, Tryz.ntmps89
      go_wp2_with fail
      refine h1.mono ?_
      rintro e w1 ⟨v1, v2, rfl, ho1, ho2, hd, hk⟩
      obtain ⟨a1, c1, rfl, hs1, _⟩ := ho1
      obtain ⟨a2, c2, rfl, hs2, _⟩ := ho2
      have h2 := hP a1 _ c1 a2 _ c2 w1 hs1 hs2
      have hbox := box_kept HL.out hk
      have HK := Hid.mk (HB.out.trans hk (fun _ h => .inl h))
      have HD := Hid.mk hd
      have HX := Hid.mk hbox
      clear h1 hs1 hs2 hd hk hP hbox
      go_wp2_with fail
      refine h2.mono ?_
      rintro e w2 ⟨v, rfl, ⟨a3, c3, rfl, hs3, _, _⟩, hb⟩
      have hd2 := HD.out.keep (Keeps.of_below (fun _ => False) hb) (fun _ _ h => h)
      have HK2 := Hid.mk (HK.out.trans (Keeps.of_below (fun _ => False) hb) (fun _ h => h.elim))
      have hbox := (hb.block _ (lt_there HX.out)).trans HX.out
      have hc0 := cell_of_block hbox (j := 0) rfl
      have hc1 := cell_of_block hbox (j := 1) rfl
      have h3 := write_all hd2 ((f : Int) + (K : Int)) a3 _ c3 L hs3 (by simpa [DS.read] using (show S.puts.length + 1 ≤ 4000000000000 by omega))
      rw [hlen] at h3
      have HBX := Hid.mk hbox
      clear h2 hb hd2 hs3 hbox
      rw [hlen]
      go_wp2_with fail
      refine h3.mono ?_
      rintro e w3 ⟨rfl, hd3, hk3⟩
      have HK3 := Hid.mk (HK2.out.trans hk3 (fun _ h => .inl h))
      rw [← HY.out] at hd3 ⊢
      have h4 := flush_all hd3 (by have := wr_puts S.read.read s ((f : Int) + (K : Int)) 512 L; rw [← HY.out] at this; simp only [DS.read] at this; omega)
      have hbox := (hk3.block _ (lt_there HBX.out) (fun h => by have := HL.out _ h; omega)).trans HBX.out
      have hc0 := cell_of_block hbox (j := 0) rfl
      have HK3' := Hid.mk hk3
      have k1' : Y.1 = 0 := by simpa using k1
      rw [k1']
      clear hd3 hk3 h3 hbox k1 k1'
      go_wp2_with fail
      refine h4.mono ?_
      rintro e w4 ⟨rfl, hd4, hk4⟩
      have HK4 := Hid.mk (HK3.out.trans hk4 (fun j h => h.elim .inl (fun h => .inr (Nat.le_trans HK2.out.size h.1))))
      have HD4 := Hid.mk (disk_more2 HL.out HK2.out HK3'.out hk4.size hd4)
      clear hd4 hk4 h4
      go_wp2
      go_ret
      exact ⟨rfl, HD4.out, HK4.out⟩
end Go.Proofs.YtokcgifpljeoiaaGreat
end

section
namespace Go.Proofs.YtokcgifpljeoiaaGreat
open Go.RowKit

theorem or_i64 (i A X : Nat) (hA : A < 2 ^ i) (h : A + 2 ^ i * X < 9223372036854775808) :
    bits .or .i64 (A : Int) ((2 ^ i * X : Nat) : Int) = ((A + 2 ^ i * X : Nat) : Int) := by
  have q : ∀ z : Nat, z < 18446744073709551616 → (BitVec.ofInt 64 (z : Int)).toNat = z := by
    intro z hz
    rw [BitVec.toNat_ofInt]
    omega
  have h1 : A < 18446744073709551616 := by omega
  have h2 : 2 ^ i * X < 18446744073709551616 := by omega
  show IntKind.i64.wrap ((BitVec.ofInt 64 (A : Int) ||| BitVec.ofInt 64 ((2 ^ i * X : Nat) : Int)).toNat : Int) = _
  rw [BitVec.toNat_or, q A h1, q _ h2, Nat.or_comm, ← Nat.two_pow_add_eq_or_of_lt hA X, Nat.add_comm]
  generalize A + 2 ^ i * X = Z at *
  rw [IntKind.wrap_i64]
  omega
theorem le_small4 {l : List Int} (hb : Bytes l) (h : l.length ≤ 4) : le l < 9223372036854775808 := by
  have := le_lt hb
  exact Nat.lt_of_lt_of_le this (by have := Nat.pow_le_pow_right (show 0 < 2 by omega) (show 8 * l.length ≤ 32 by omega); omega)

set_option maxRecDepth 20000 in
set_option maxHeartbeats 4000000 in
theorem wlay_any (g o k c N : Nat) (T : TypeId) (l : List Int) (w : World) (hb : Blk w T g l) (hk : k ≤ 8) (ho : o + k ≤ l.length) :
    Calls Tryz.prog 187 #[.slice (some ⟨g, o, none⟩) k c, .int .i64 (N : Int)] w fun e w' => e = .returned (.tuple #[]) ∧ Blk w' T g (put l o (leb k N)) ∧ Keeps (fun j => j = g) w w' ∧ w'.heap.size = w.heap.size := by
  go_enter Tryz.func187, Tryz.ntmps187
  go_wp2
  go_loopw [7] (fun i wr => ∃ j : Nat, j ≤ k ∧ i = .int .i64 j ∧ Blk wr T g (put l o (leb j N)) ∧ Keeps (fun j => j = g) w wr ∧ wr.heap.size = w.heap.size) (fun i _ => k - (intOf i).toNat)
  case atStart => exact ⟨0, Nat.zero_le _, rfl, by rw [leb, put_nil]; exact hb, Keeps.refl _ _, rfl⟩
  case round =>
    obtain ⟨j, hj, rfl, hblk, hkeep, hsz⟩ := hrel
    by_cases hlt : j < k
    · have hlt' : (j : Int) < (k : Int) := by omega
      have hlen := leb_len j N
      have hpl := put_len (l := l) (xs := leb j N) (o := o) (by omega)
      have hc := hblk.cell (i := o + j) (by omega)
      have hf := hblk.frozen (o + j)
      have hset := hblk.set (o + j) ((N / 2 ^ (8 * j) % 256 : Nat) : Int)
      have e := put_snoc (l := l) (xs := leb j N) (o := o) (by omega) ((N / 2 ^ (8 * j) % 256 : Nat) : Int)
      rw [hlen] at e
      rw [e, ← leb_snoc] at hset
      have HK := (hkeep.trans (Keeps.setCell (F := fun j => j = g) (p := ⟨g, o + j, none⟩) wr rfl (.int .u8 ((N / 2 ^ (8 * j) % 256 : Nat) : Int))) (fun _ h => .inl h))
      go_wp2
      go_roundw
      case rel => exact ⟨j + 1, by omega, by go_num, hset, HK, by simpa [World.setCell] using hsz⟩
      case measure => simp [intOf]; omega
    · have hlt' : ¬ (j : Int) < (k : Int) := by omega
      obtain rfl : j = k := by omega
      go_wp2
      go_end0
      exact ⟨rfl, hblk, hkeep, hsz⟩

set_option maxHeartbeats 4000000 in
theorem wtaken_any (b o n c : Nat) (l : List Int) (w : World) (hb : Bytes l) (hl : l.length = n) (hn : n ≤ 4) (hs : ∀ i, i < n → w.cell? ⟨b, o + i, none⟩ = some (.int .u8 (l.getD i 0))) :
    Calls Tryz.prog 174 #[.slice (some ⟨b, o, none⟩) n c] w fun e w' => e = .returned (.int .i64 ((le l : Nat) : Int)) ∧ w' = w := by
  have Hs := Hid.mk hs
  clear hs
  go_enter Tryz.func174, Tryz.ntmps174
  go_wp2
  go_loopw [3, 8] (fun r i wr => ∃ j : Nat, j ≤ n ∧ i = .int .i64 j ∧ wr = w ∧ r = .int .i64 ((le (l.take j) : Nat) : Int)) (fun _ i _ => n - (intOf i).toNat)
  case atStart => exact ⟨0, Nat.zero_le _, rfl, rfl, by simp [le]⟩
  case round =>
    obtain ⟨j, hj, rfl, rfl, rfl⟩ := hrel
    by_cases hlt : j < n
    · have hlt' : (j : Int) < (n : Int) := by omega
      have hc := Hs.out j hlt
      obtain ⟨x, hx, hx1⟩ : ∃ x : Nat, l.getD j 0 = (x : Int) ∧ x < 256 := by
        have := hb.getD j
        exact ⟨(l.getD j 0).toNat, by omega, by omega⟩
      have hsucc := le_take_succ (l := l) (k := j) (by omega)
      have hA : le (l.take j) < 2 ^ (8 * j) := by
        have := le_lt (hb.take j)
        have e : (l.take j).length = j := by simp; omega
        rwa [e] at this
      have hB : le (l.take (j + 1)) < 9223372036854775808 := le_small4 (hb.take _) (by simp; omega)
      rw [hx] at hc hsucc
      simp only [Int.toNat_natCast] at hsucc
      rw [hsucc] at hB
      have hor := or_i64 (8 * j) _ x hA hB
      rw [← hsucc] at hor
      have hsh2 : ((x : Int) * 2 ^ (8 * j)) = ((2 ^ (8 * j) * x : Nat) : Int) := by rw [Int.natCast_mul, Int.natCast_pow, Int.mul_comm]; rfl
      have hlt2 : ((2 ^ (8 * j) * x : Nat) : Int) < 9223372036854775808 := by omega
      generalize 2 ^ (8 * j) * x = Y at *
      generalize le (l.take j) = A at *
      clear hA hB hsucc
      go_wp2
      go_roundw
      case rel => exact ⟨j + 1, by omega, by go_num, trivial, by rw [← (Hid.mk hor).out]⟩
      case measure => simp [intOf]; omega
    · have hlt' : ¬ (j : Int) < (n : Int) := by omega
      have ej : l.take j = l := List.take_of_length_le (by omega)
      rw [ej] at *
      go_wp2
      go_ret
      exact ⟨rfl, rfl⟩

end Go.Proofs.YtokcgifpljeoiaaGreat
end

section
namespace Go.Proofs.YtokcgifpljeoiaaGreat

/-- What a sector of the ring says: epoch, position, index, count, data. -/
structure PC where
  e : Nat
  p : Nat
  i : Nat
  c : Nat
  d : List Int

def PC.zero : PC := ⟨0, 0, 0, 0, []⟩
def pcBody (b : List Int) : PC := ⟨le (b.take 4), le ((b.drop 4).take 4), le ((b.drop 8).take 2), le ((b.drop 10).take 2), b.drop 12⟩
/-- What lies in a sector. -/
def pcOf (l : List Int) : PC := if (sopens l).2 ≠ 0 ∨ (sopens l).1.length < 12 then PC.zero else pcBody (sopens l).1

/-- It is the piece that is due. -/
def PC.ok (q : PC) (E P i c : Nat) : Prop := q.e = E ∧ q.p = P ∧ q.i = i ∧ q.c = c ∧ 0 < q.d.length ∧ (i + 1 ≠ c → q.d.length = 492)

/-- The data of the first k pieces from P on. -/
def dataTo (R : Nat → PC) (P k : Nat) : List Int := (List.range k).flatMap (fun i => (R (P + i)).d)
theorem dataTo_zero (R : Nat → PC) (P : Nat) : dataTo R P 0 = [] := rfl
theorem dataTo_succ (R : Nat → PC) (P k : Nat) : dataTo R P (k + 1) = dataTo R P k ++ (R (P + k)).d := by simp [dataTo, List.range_succ]

/-- A record of c sectors lies at P. -/
def Rec (R : Nat → PC) (E P c : Nat) (d : List Int) : Prop := 1 ≤ c ∧ c ≤ 17 ∧ (∀ i, i < c → (R (P + i)).ok E (P + i) i c) ∧ d = dataTo R P c

theorem Rec.count {R : Nat → PC} {E P c : Nat} {d : List Int} (h : Rec R E P c d) : (R P).c = c := by
  have := (h.2.2.1 0 h.1).2.2.2.1
  simpa using this
theorem Rec.unique {R : Nat → PC} {E P c c' : Nat} {d d' : List Int} (h : Rec R E P c d) (h' : Rec R E P c' d') : c = c' ∧ d = d' := by
  have e := h.count.symm.trans h'.count
  subst e
  exact ⟨rfl, h.2.2.2.trans h'.2.2.2.symm⟩

/-- The records from P on, and the place behind them. -/
def Tells (R : Nat → PC) (E : Nat) : Nat → List (List Int) → Nat → Prop
  | P, [], h => h = P
  | P, d :: ds, h => ∃ c, Rec R E P c d ∧ Tells R E (P + c) ds h

theorem Tells.snoc {R : Nat → PC} {E : Nat} : ∀ {rs : List (List Int)} {P h c : Nat} {d : List Int}, Tells R E P rs h → Rec R E h c d → Tells R E P (rs ++ [d]) (h + c)
  | [], P, h, c, d, ht, hr => by
    have ht : h = P := ht
    subst ht
    exact ⟨c, hr, rfl⟩
  | x :: xs, P, h, c, d, ⟨k, hk, ht⟩, hr => ⟨k, hk, Tells.snoc ht hr⟩
theorem Tells.unique {R : Nat → PC} {E : Nat} : ∀ {rs rs' : List (List Int)} {P h h' : Nat}, Tells R E P rs h → (∀ c d, ¬ Rec R E h c d) → Tells R E P rs' h' → (∀ c d, ¬ Rec R E h' c d) → rs = rs' ∧ h = h'
  | [], [], P, h, h', a, _, b, _ => ⟨rfl, (show h = P from a).trans (show h' = P from b).symm⟩
  | [], x :: xs, P, h, h', a, hn, ⟨k, hk, _⟩, _ => by
    have a : h = P := a
    subst a
    exact absurd hk (hn _ _)
  | x :: xs, [], P, h, h', ⟨k, hk, _⟩, _, b, hn => by
    have b : h' = P := b
    subst b
    exact absurd hk (hn _ _)
  | x :: xs, y :: ys, P, h, h', ⟨k, hk, ht⟩, hn, ⟨k', hk', ht'⟩, hn' => by
    obtain ⟨rfl, rfl⟩ := hk.unique hk'
    obtain ⟨rfl, rfl⟩ := Tells.unique ht hn ht' hn'
    exact ⟨rfl, rfl⟩
theorem Tells.le {R : Nat → PC} {E : Nat} : ∀ {rs : List (List Int)} {P h : Nat}, Tells R E P rs h → P ≤ h
  | [], P, h, a => Nat.le_of_eq (show h = P from a).symm
  | x :: xs, P, h, ⟨k, hk, ht⟩ => by have := Tells.le ht; omega
theorem Rec.at {R : Nat → PC} {E P c : Nat} {d : List Int} (h : Rec R E P c d) {q : Nat} (h1 : P ≤ q) (h2 : q < P + c) : (R q).p = q := by
  have := (h.2.2.1 (q - P) (by omega)).2.1
  rwa [show P + (q - P) = q by omega] at this
theorem Tells.at {R : Nat → PC} {E : Nat} : ∀ {rs : List (List Int)} {P h : Nat}, Tells R E P rs h → ∀ q, P ≤ q → q < h → (R q).p = q
  | [], P, h, a, q, h1, h2 => by have a : h = P := a; omega
  | x :: xs, P, h, ⟨k, hk, ht⟩, q, h1, h2 => by
    by_cases h3 : q < P + k
    · exact hk.at h1 h3
    · exact Tells.at ht q (by omega) h2
theorem Tells.round {R : Nat → PC} {E n : Nat} (hn : 1 ≤ n) (hR : ∀ q, R (q + n) = R q) {rs : List (List Int)} {P h : Nat} (ht : Tells R E P rs h) : h ≤ P + n := by
  rcases Nat.lt_or_ge (P + n) h with h1 | h1
  · have a := ht.at P (Nat.le_refl _) (by omega)
    have b := ht.at (P + n) (by omega) h1
    rw [hR] at b
    omega
  · exact h1
theorem Tells.length {R : Nat → PC} {E : Nat} : ∀ {rs : List (List Int)} {P h : Nat}, Tells R E P rs h → P + rs.length ≤ h
  | [], P, h, a => Nat.le_of_eq (show h = P from a).symm
  | x :: xs, P, h, ⟨k, hk, ht⟩ => by have := Tells.length ht; have := hk.1; simp only [List.length_cons]; omega

/-- The state of a scan: whole records up to h, then j pieces of one of c. -/
structure Scan (R : Nat → PC) (E T : Nat) (rs : List (List Int)) (h j c : Nat) (d : List Int) : Prop where
  t : Tells R E T rs h
  p : ∀ i, i < j → (R (h + i)).ok E (h + i) i c
  c : 0 < j → 1 ≤ c ∧ c ≤ 17 ∧ j < c
  d : d = dataTo R h j
theorem Scan.start (R : Nat → PC) (E T : Nat) (c : Nat) : Scan R E T [] T 0 c [] := ⟨rfl, fun i hi => by omega, fun h => by omega, rfl⟩
/-- The count that is due. -/
def dueC (R : Nat → PC) (h j c : Nat) : Nat := if j = 0 then (R h).c else c
theorem Scan.grow {R : Nat → PC} {E T : Nat} {rs : List (List Int)} {h j c : Nat} {d : List Int} (s : Scan R E T rs h j c d) (hk : (R (h + j)).ok E (h + j) j (dueC R h j c)) (h1 : 1 ≤ dueC R h j c) (h2 : dueC R h j c ≤ 17) (hl : j + 1 ≠ dueC R h j c) (hj : j < dueC R h j c) :
    Scan R E T rs h (j + 1) (dueC R h j c) (d ++ (R (h + j)).d) := by
  refine ⟨s.t, fun i hi => ?_, fun _ => ⟨h1, h2, by omega⟩, by rw [s.d, dataTo_succ]⟩
  by_cases e : i = j
  · subst e; exact hk
  · have hj0 : j ≠ 0 := by omega
    have := s.p i (by omega)
    rwa [dueC, if_neg hj0]
theorem Scan.full {R : Nat → PC} {E T : Nat} {rs : List (List Int)} {h j c : Nat} {d : List Int} (s : Scan R E T rs h j c d) (hk : (R (h + j)).ok E (h + j) j (dueC R h j c)) (h2 : dueC R h j c ≤ 17) (hl : j + 1 = dueC R h j c) (c' : Nat) :
    Scan R E T (rs ++ [d ++ (R (h + j)).d]) (h + j + 1) 0 c' [] := by
  refine ⟨?_, fun i hi => by omega, fun h => by omega, rfl⟩
  have hr : Rec R E h (j + 1) (d ++ (R (h + j)).d) := by
    refine ⟨by omega, by omega, fun i hi => ?_, by rw [s.d, dataTo_succ]⟩
    by_cases e : i = j
    · subst e; rw [hl]; exact hk
    · have := s.p i (by omega)
      have hj0 : j ≠ 0 := by omega
      rw [hl, dueC, if_neg hj0]
      exact this
  exact s.t.snoc hr
theorem Scan.ends {R : Nat → PC} {E T : Nat} {rs : List (List Int)} {h j c : Nat} {d : List Int} (s : Scan R E T rs h j c d) (hk : ¬ ((R (h + j)).ok E (h + j) j (dueC R h j c) ∧ 1 ≤ dueC R h j c ∧ dueC R h j c ≤ 17 )) : ∀ c d, ¬ Rec R E h c d := by
  intro k x hr
  by_cases e : j = 0
  · subst e
    refine hk ?_
    rw [dueC, if_pos rfl, hr.count]
    exact ⟨hr.2.2.1 0 hr.1, hr.1, hr.2.1⟩
  · have hc := s.c (by omega)
    have ek : k = c := by rw [← hr.count]; simpa using (s.p 0 (by omega)).2.2.2.1
    subst ek
    refine hk ?_
    rw [dueC, if_neg e]
    exact ⟨hr.2.2.1 j hc.2.2, hr.1, hr.2.1⟩
theorem Scan.at {R : Nat → PC} {E T : Nat} {rs : List (List Int)} {h j c : Nat} {d : List Int} (s : Scan R E T rs h j c d) (q : Nat) (h1 : T ≤ q) (h2 : q < h + j) : (R q).p = q := by
  by_cases h3 : q < h
  · exact s.t.at q h1 h3
  · have := (s.p (q - h) (by omega)).2.1
    rwa [show h + (q - h) = q by omega] at this
/-- Once around: nothing more is there. -/
theorem Scan.round {R : Nat → PC} {E T n : Nat} {rs : List (List Int)} {h j c : Nat} {d : List Int} (hn : 1 ≤ n) (hR : ∀ q, R (q + n) = R q) (s : Scan R E T rs h j c d) (hj : h + j = T + n) : ∀ c d, ¬ Rec R E h c d := by
  refine s.ends (fun hk => ?_)
  have a := hk.1.2.1
  rw [hj, hR] at a
  have := s.at T (Nat.le_refl _) (by omega)
  omega

/-- The greatest epoch of the first k sectors. -/
def rtop (R : Nat → PC) : Nat → Nat
  | 0 => 0
  | k + 1 => if (R k).e ≤ 1073741824 then max (rtop R k) (R k).e else rtop R k
theorem rtop_le (R : Nat → PC) : ∀ k, rtop R k ≤ 1073741824
  | 0 => by simp [rtop]
  | k + 1 => by
    have := rtop_le R k
    unfold rtop
    split <;> omega
theorem le_room {l : List Int} (hb : Bytes l) {k : Nat} (h : l.length ≤ k) : le l < 2 ^ (8 * k) := Nat.lt_of_lt_of_le (le_lt hb) (Nat.pow_le_pow_right (by omega) (by omega))
theorem le_len2 {l : List Int} (hb : Bytes l) (h : l.length ≤ 2) : le l < 65536 := le_room hb (k := 2) h
theorem le_len4 {l : List Int} (hb : Bytes l) (h : l.length ≤ 4) : le l < 4294967296 := le_room hb (k := 4) h
theorem so_bytes {l : List Int} (hb : Bytes l) : Bytes (sopens l).1 := by
  unfold sopens
  split
  · exact Bytes.nil
  · split
    · exact Bytes.nil
    · rename_i b h
      rw [(sopen_some h).2.2.2]
      exact (hb.drop 7).take _
theorem so_len (l : List Int) : (sopens l).1.length ≤ 504 := by
  unfold sopens
  split
  · simp
  · split
    · simp
    · rename_i h1 b h
      exact sopen_len h (by omega)
theorem pcOf_small {l : List Int} (hb : Bytes l) : (pcOf l).e < 4294967296 ∧ (pcOf l).p < 4294967296 ∧ (pcOf l).i < 65536 ∧ (pcOf l).c < 65536 ∧ (pcOf l).d.length ≤ 492 ∧ Bytes (pcOf l).d := by
  have h1 := so_bytes hb
  have h2 := so_len l
  unfold pcOf
  split
  · exact ⟨by decide, by decide, by decide, by decide, by decide, Bytes.nil⟩
  · exact ⟨le_len4 (h1.take _) (by simp; omega), le_len4 ((h1.drop _).take _) (by simp; omega), le_len2 ((h1.drop _).take _) (by simp; omega), le_len2 ((h1.drop _).take _) (by simp; omega), by simp [pcBody]; omega, h1.drop _⟩
end Go.Proofs.YtokcgifpljeoiaaGreat
end

section
namespace Go.Proofs.YtokcgifpljeoiaaGreat
open Go.RowKit

/-- The state with so many reads. -/
def DS.rds (S : DS) (r : Int) : DS := { S with reads := r }
/-- A disk, whatever it was asked to read. -/
def DiskR (w : World) (F : Nat → Prop) (p s : Nat) (S : DS) : Prop := ∃ r, DiskAt w F p s (S.rds r)

section
variable {w w' : World} {F G : Nat → Prop} {p s : Nat} {S : DS}
theorem DiskR.ok (h : DiskR w F p s S) : S.Ok s := by
  obtain ⟨r, h⟩ := h
  exact ⟨h.ok.len, h.ok.lo, h.ok.hi, h.ok.puts, h.ok.fuse⟩
theorem DiskR.lt (h : DiskR w F p s S) : ∀ k, F k → k < w.heap.size := by obtain ⟨r, h⟩ := h; exact h.lt
theorem DiskR.keep (h : DiskR w F p s S) (k : Keeps G w w') (hd : ∀ k, F k → ¬ G k) : DiskR w' F p s S := by obtain ⟨r, h⟩ := h; exact ⟨r, h.keep k hd⟩
theorem DiskR.later (h : DiskR w F p s S) (hb : Below w.heap.size w w') : DiskR w' F p s S := h.keep (Keeps.of_below (fun _ => False) hb) (fun _ _ h => h)
theorem rds_wr (S : DS) (r : Int) (s : Nat) (x : Int) (n : Nat) (l : List Int) : (S.rds r).wr s x n l = ((S.wr s x n l).1, (S.wr s x n l).2.rds r) := by
  unfold DS.wr
  show (if S.fuse = 0 then _ else _) = _
  split
  · rfl
  · split
    · rfl
    · split <;> rfl
theorem rds_fl (S : DS) (r : Int) (s : Nat) : (S.rds r).fl s = ((S.fl s).1, (S.fl s).2.rds r) := by
  unfold DS.fl
  show (if S.fuse = 0 then _ else _) = _
  split <;> rfl
theorem rds_now (S : DS) (r : Int) (k : Nat) : (S.rds r).now k = S.now k := rfl
theorem dsectors (h : DiskR w F p s S) : Calls Tryz.prog 20 #[.pointer (some ⟨p, 0, none⟩)] w fun e w' => e = .returned (.int .i64 s) ∧ w' = w := by
  obtain ⟨r, h⟩ := h; exact sectors_at h
theorem dburnt (h : DiskR w F p s S) : Calls Tryz.prog 51 #[.pointer (some ⟨p, 0, none⟩)] w fun e w' => e = .returned (.bool (S.fuse == 0)) ∧ w' = w := by
  obtain ⟨r, h⟩ := h; exact burnt_at (S := S.rds r) h
theorem dlife (h : DiskR w F p s S) : Calls Tryz.prog 125 #[.pointer (some ⟨p, 0, none⟩)] w fun e w' => e = .returned (.int .i64 S.life) ∧ w' = w := by
  obtain ⟨r, h⟩ := h; exact life_at (S := S.rds r) h
theorem dread_dead (h : DiskR w F p s S) (x : Int) (hf : S.fuse = 0) : Calls Tryz.prog 80 #[.pointer (some ⟨p, 0, none⟩), .int .i64 x] w fun e w' => e = .returned (.tuple #[.slice none 0 0, .int .i64 3]) ∧ w' = w := by
  obtain ⟨r, h⟩ := h; exact read_dead h x hf
theorem dimage (h : DiskR w F p s S) : Calls Tryz.prog 26 #[.pointer (some ⟨p, 0, none⟩)] w fun e w' => ∃ g c, e = .returned (.slice (some ⟨g, 0, none⟩) (s * 512) c) ∧ w.heap.size ≤ g ∧ RowAt w' 5 g c (bs S.im) ∧ Below w.heap.size w w' := by
  obtain ⟨r, h⟩ := h; exact image_any p s F (S.rds r) w h
/-- What the next anchor makes of a disk. -/
def anew (S : DS) (s f : Nat) (num : Int) : Int × DS :=
  if S.fuse = 0 then (3, S) else
  if (srenew (S.now f) (S.now (f + 1)) num []).2.2 ≠ 0 then (((srenew (S.now f) (S.now (f + 1)) num []).2.2 : Int), S) else
  if (S.wr s ((f : Int) + ((srenew (S.now f) (S.now (f + 1)) num []).1 : Int)) 512 (srenew (S.now f) (S.now (f + 1)) num []).2.1).1 ≠ 0 then S.wr s ((f : Int) + ((srenew (S.now f) (S.now (f + 1)) num []).1 : Int)) 512 (srenew (S.now f) (S.now (f + 1)) num []).2.1
  else (S.wr s ((f : Int) + ((srenew (S.now f) (S.now (f + 1)) num []).1 : Int)) 512 (srenew (S.now f) (S.now (f + 1)) num []).2.1).2.fl s
theorem drefusal (h : DiskR w F p s S) (f n : Int) : Calls Tryz.prog 83 #[areaV p f n] w fun e w' => e = .returned (.int .i64 (lrefuse S s f n)) ∧ Below w.heap.size w w' := by
  have hs := h.ok.hi
  obtain ⟨r, h⟩ := h
  exact refusal_any h f n hs
end

end Go.Proofs.YtokcgifpljeoiaaGreat
end

section
namespace Go.Proofs.YtokcgifpljeoiaaGreat
open Go.RowKit

/-- A log's state. -/
structure LG where
  f : Nat
  n : Nat
  life : Int
  begun : Bool
  ep : Nat
  tail : Nat
  head : Nat
  top : Nat

abbrev lgC (p : Nat) (L : LG) : Array Value := #[.pointer (some ⟨p, 0, none⟩), .int .i64 (L.f : Int), .int .i64 (L.n : Int), .int .i64 L.life, .bool L.begun, .int .i64 (L.ep : Int), .int .i64 (L.tail : Int), .int .i64 (L.head : Int), .int .i64 (L.top : Int)]
/-- The program's log in memory. -/
def LogP (w : World) (l p : Nat) (L : LG) : Prop := w.heap[l]? = some (.cells (lgC p L) 136 (0, 0))
theorem LogP.lt {w : World} {l p : Nat} {L : LG} (h : LogP w l p L) : l < w.heap.size := lt_there h
theorem LogP.keep {w w' : World} {l p : Nat} {L : LG} {G : Nat → Prop} (h : LogP w l p L) (k : Keeps G w w') (hn : ¬ G l) : LogP w' l p L := (k.block l h.lt hn).trans h

section
variable {w : World} {l p : Nat} {L : LG}
theorem LogP.c0 (h : LogP w l p L) : w.cell? ⟨l, 0, none⟩ = some (.pointer (some ⟨p, 0, none⟩)) := cell_of_block h (j := 0) rfl
theorem LogP.c1 (h : LogP w l p L) : w.cell? ⟨l, 1, none⟩ = some (.int .i64 (L.f : Int)) := cell_of_block h (j := 1) rfl
theorem LogP.c2 (h : LogP w l p L) : w.cell? ⟨l, 2, none⟩ = some (.int .i64 (L.n : Int)) := cell_of_block h (j := 2) rfl
theorem LogP.c3 (h : LogP w l p L) : w.cell? ⟨l, 3, none⟩ = some (.int .i64 L.life) := cell_of_block h (j := 3) rfl
theorem LogP.c4 (h : LogP w l p L) : w.cell? ⟨l, 4, none⟩ = some (.bool L.begun) := cell_of_block h (j := 4) rfl
theorem LogP.c5 (h : LogP w l p L) : w.cell? ⟨l, 5, none⟩ = some (.int .i64 (L.ep : Int)) := cell_of_block h (j := 5) rfl
theorem LogP.c6 (h : LogP w l p L) : w.cell? ⟨l, 6, none⟩ = some (.int .i64 (L.tail : Int)) := cell_of_block h (j := 6) rfl
theorem LogP.c7 (h : LogP w l p L) : w.cell? ⟨l, 7, none⟩ = some (.int .i64 (L.head : Int)) := cell_of_block h (j := 7) rfl
theorem LogP.c8 (h : LogP w l p L) : w.cell? ⟨l, 8, none⟩ = some (.int .i64 (L.top : Int)) := cell_of_block h (j := 8) rfl
theorem LogP.fz (h : LogP w l p L) (j : Nat) : w.frozen? ⟨l, j, none⟩ = false := frozen_of_block h j
end

/-- What can be said of a log on a disk of s sectors. -/
structure LG.Ok (L : LG) (s : Nat) : Prop where
  s : L.f + 2 + L.n ≤ s
  n1 : 18 ≤ L.n
  n2 : L.n ≤ 256
  ep : L.ep ≤ 1073741824
  top : L.top < 1073741824
  th : L.tail ≤ L.head
  hn : L.head ≤ L.tail + L.n
  hi : L.head ≤ 1073742080
  hb : L.begun = true → L.head ≤ 1073741824

def LG.dead (L : LG) (S : DS) : Bool := S.fuse == 0 || S.life != L.life
def LG.unready (L : LG) (S : DS) : Int := if L.dead S = true then 3 else if L.begun = true then 0 else 4

section
variable {w : World} {F : Nat → Prop} {p s l : Nat} {S : DS} {L : LG}

theorem LogP.later {w w' : World} {l p : Nat} {L : LG} (h : LogP w l p L) (hb : Below w.heap.size w w') : LogP w' l p L := (hb.block l h.lt).trans h

set_option maxRecDepth 20000 in
set_option maxHeartbeats 4000000 in
theorem dead_any (h : DiskR w F p s S) (hl : LogP w l p L) :
    Calls Tryz.prog 88 #[.pointer (some ⟨l, 0, none⟩)] w fun e w' => e = .returned (.bool (L.dead S)) ∧ Below w.heap.size w w' := by
  have h1 := fun n => dburnt (h.later (below_drewN (Below.refl w.heap.size w) n))
  have h2 := fun n => dlife (h.later (below_drewN (Below.refl w.heap.size w) n))
  have c0 := hl.c0
  have c3 := hl.c3
  unfold LG.dead
  go_enter Tryz.func88, Tryz.ntmps88
  by_cases q : S.fuse = 0
  · rw [show (S.fuse == 0) = true by simp [q]] at h1 ⊢
    go_wp2_with fail
    go_quiet ((go_at_call 51; exact Calls.quiet_of_same (h1 _)))
    go_wp2
    go_ret
    exact ⟨rfl, below_drewN (Below.refl _ _) _⟩
  · rw [show (S.fuse == 0) = false by simp [q]] at h1 ⊢
    go_wp2_with fail
    go_quiet (first | (go_at_call 51; exact Calls.quiet_of_same (h1 _)) | (go_at_call 125; exact Calls.quiet_of_same (h2 _)))
    go_wp2
    go_ret
    exact ⟨rfl, below_drewN (Below.refl _ _) _⟩
set_option maxRecDepth 20000 in
set_option maxHeartbeats 4000000 in
theorem unready_any (h : DiskR w F p s S) (hl : LogP w l p L) :
    Calls Tryz.prog 100 #[.pointer (some ⟨l, 0, none⟩)] w fun e w' => e = .returned (.int .i64 (L.unready S)) ∧ Below w.heap.size w w' := by
  have h1 := dead_any h hl
  unfold LG.unready
  go_enter Tryz.func100, Tryz.ntmps100
  cases hd : L.dead S
  · rw [hd] at h1
    cases hb : L.begun
    · rw [if_neg (by decide), if_neg (by decide)]
      go_wp2_with fail
      refine h1.mono ?_
      rintro e w' ⟨rfl, hb'⟩
      have c4 := (hl.later hb').c4
      rw [hb] at c4
      go_wp2
      go_ret
      exact ⟨rfl, hb'⟩
    · rw [if_neg (by decide), if_pos rfl]
      go_wp2_with fail
      refine h1.mono ?_
      rintro e w' ⟨rfl, hb'⟩
      have c4 := (hl.later hb').c4
      rw [hb] at c4
      go_wp2
      go_ret
      exact ⟨rfl, hb'⟩
  · rw [hd] at h1
    rw [if_pos rfl]
    go_wp2_with fail
    refine h1.mono ?_
    rintro e w' ⟨rfl, hb'⟩
    go_wp2
    go_ret
    exact ⟨rfl, hb'⟩
set_option maxRecDepth 20000 in
set_option maxHeartbeats 4000000 in
theorem room_any (hl : LogP w l p L) (hk : L.Ok s) :
    Calls Tryz.prog 130 #[.pointer (some ⟨l, 0, none⟩)] w fun e w' => e = .returned (.int .i64 ((L.n : Int) - ((L.head : Int) - (L.tail : Int)))) ∧ Below w.heap.size w w' := by
  have c2 := hl.c2
  have c6 := hl.c6
  have c7 := hl.c7
  have b1 := hk.n2
  have b2 := hk.th
  have b4 := hk.hn
  go_enter Tryz.func130, Tryz.ntmps130
  go_wp2_with fail
  go_quiet (fail)
  go_wp2
  go_ret
  exact ⟨rfl, below_drewN (Below.refl _ _) _⟩

theorem sectorsOf_any (x : Nat) (w : World) (hx : x ≤ 140737488355328) : Calls Tryz.prog 133 #[.int .i64 (x : Int)] w fun e w' => e = .returned (.int .i64 (((x + 491) / 492 : Nat) : Int)) ∧ w' = w := by
  have h : ((x : Int) + 492 - 1) / 492 = (((x + 491) / 492 : Nat) : Int) := by omega
  go_enter Tryz.func133, Tryz.ntmps133
  go_wp2
  go_ret
  rw [h]
  exact ⟨rfl, rfl⟩

/-- What Room tells. -/
def LG.room (L : LG) (S : DS) : Int × Int := if L.unready S ≠ 0 then (0, L.unready S) else ((L.n : Int) - ((L.head : Int) - (L.tail : Int)), 0)

set_option maxRecDepth 20000 in
set_option maxHeartbeats 4000000 in
theorem Room_any (h : DiskR w F p s S) (hl : LogP w l p L) (hk : L.Ok s) :
    Calls Tryz.prog 93 #[.pointer (some ⟨l, 0, none⟩)] w fun e w' => e = .returned (.tuple #[.int .i64 (L.room S).1, .int .i64 (L.room S).2]) ∧ Below w.heap.size w w' := by
  have h1 := unready_any h hl
  unfold LG.room
  generalize L.unready S = U at *
  go_enter Tryz.func93, Tryz.ntmps93
  by_cases q : U = 0
  · subst q
    rw [if_neg (by decide)]
    go_wp2_with fail
    refine h1.mono ?_
    rintro e w1 ⟨rfl, hb⟩
    have HB := hb
    go_wp2_with fail
    refine (room_any (hl.later hb) hk).mono ?_
    rintro e w2 ⟨rfl, hb⟩
    go_wp2
    go_ret2
    exact ⟨rfl, (HB.trans (hb.mono HB.size))⟩
  · rw [if_pos q]
    have d : (U == 0) = false := by rw [beq_eq_false_iff_ne]; exact q
    go_wp2_with fail
    refine h1.mono ?_
    rintro e w1 ⟨rfl, hb⟩
    go_wp2
    go_ret2
    exact ⟨rfl, hb⟩
/-- What Sync does. -/
def LG.sync (L : LG) (S : DS) (s : Nat) : Int × DS := if L.unready S ≠ 0 then (L.unready S, S) else S.fl s

end
end Go.Proofs.YtokcgifpljeoiaaGreat
end

section
namespace Go.Proofs.YtokcgifpljeoiaaGreat
open Go.RowKit

/-- A walk of steps that ends at the first error. -/
def stepsTo (S : DS) (g : Nat → DS → Int × DS) : Nat → Int × DS
  | 0 => (0, S)
  | k + 1 => if (stepsTo S g k).1 ≠ 0 then stepsTo S g k else g k (stepsTo S g k).2
theorem stepsTo_err {S : DS} {g : Nat → DS → Int × DS} {k : Nat} (h : (stepsTo S g k).1 ≠ 0) : ∀ m, k ≤ m → stepsTo S g m = stepsTo S g k
  | 0, hm => by rw [show k = 0 by omega]
  | m + 1, hm => by
    by_cases e : k = m + 1
    · rw [e]
    · have := stepsTo_err h m (by omega)
      show (if (stepsTo S g m).1 ≠ 0 then stepsTo S g m else g m (stepsTo S g m).2) = _
      rw [this, if_pos h]
theorem stepsTo_ok {S : DS} {g : Nat → DS → Int × DS} {k : Nat} (h : (stepsTo S g k).1 = 0) : stepsTo S g (k + 1) = g k (stepsTo S g k).2 := by
  rw [stepsTo, if_neg (by omega)]
theorem stepsTo_puts {S : DS} {g : Nat → DS → Int × DS} (hg : ∀ k T, (g k T).2.puts.length ≤ T.puts.length + 1) : ∀ k, (stepsTo S g k).2.puts.length ≤ S.puts.length + k
  | 0 => Nat.le_refl _
  | k + 1 => by
    have := stepsTo_puts hg k (S := S)
    have := hg k (stepsTo S g k).2
    unfold stepsTo
    split <;> omega

/-- The wiping of the first k sectors. -/
def wipeTo (S : DS) (s f k : Nat) : Int × DS := stepsTo S (fun j T => T.wr s ((f + j : Nat) : Int) 512 (zs 512)) k
def awipe (S : DS) (s f n : Nat) : Int × DS := if (wipeTo S s f (n + 2)).1 ≠ 0 then wipeTo S s f (n + 2) else (wipeTo S s f (n + 2)).2.fl s
theorem wipeTo_puts (S : DS) (s f k : Nat) : (wipeTo S s f k).2.puts.length ≤ S.puts.length + k := stepsTo_puts (fun _ _ => wr_puts _ _ _ _ _) k

theorem more_more {F : Nat → Prop} {w w1 w2 : World} (h1 : w.heap.size ≤ w1.heap.size) (h2 : w1.heap.size ≤ w2.heap.size) : ∀ k, more (more F w w1) w1 w2 k → more F w w2 k := fun k hk => by
  rcases hk with (hk | hk) | hk
  · exact .inl hk
  · exact .inr ⟨hk.1, by omega⟩
  · exact .inr ⟨by omega, hk.2⟩
theorem more_lt {F : Nat → Prop} {w w2 : World} (hl : ∀ k, F k → k < w.heap.size) (h2 : w.heap.size ≤ w2.heap.size) : ∀ k, more F w w2 k → k < w2.heap.size := fun k hk => by
  rcases hk with hk | hk
  · have := hl k hk; omega
  · exact hk.2
end Go.Proofs.YtokcgifpljeoiaaGreat
end

section
namespace Go.Proofs.YtokcgifpljeoiaaGreat
open Go.RowKit

/-- All that a disk holds are bytes. -/
def DS.Byt (S : DS) : Prop := Bytes S.im ∧ ∀ q ∈ S.puts, Bytes q.2
theorem dsec_bytes {im : List Int} (h : Bytes im) (k : Nat) : Bytes (dsec im k) := (h.drop _).take _
theorem pend_bytes {S : DS} (h : S.Byt) (k j : Nat) : Bytes ((pendOf S.puts k).getD j []) := by
  rcases Nat.lt_or_ge j (pendOf S.puts k).length with hj | hj
  · rw [List.getD, List.getElem?_eq_getElem hj, Option.getD_some]
    have hm := List.getElem_mem hj
    unfold pendOf at hm
    obtain ⟨q, hq, e⟩ := List.mem_map.1 hm
    have := h.2 q (List.mem_filter.1 hq).1
    unfold pendOf
    rw [← e]
    exact this
  · rw [List.getD, List.getElem?_eq_none hj]
    exact Bytes.nil
theorem cand_bytes {S : DS} (h : S.Byt) (k j : Nat) : Bytes (S.cand k j) := by
  unfold DS.cand
  split
  · exact dsec_bytes h.1 k
  · exact pend_bytes h k _
theorem DS.Byt.now {S : DS} (h : S.Byt) (k : Nat) : Bytes (S.now k) := cand_bytes h k _
theorem imOf_bytes {s : Nat} {f : Nat → List Int} (h : ∀ k, Bytes (f k)) : Bytes (imOf s f) := by
  intro x hx
  obtain ⟨k, _, hk⟩ := List.mem_flatMap.1 hx
  exact h k x hk
theorem DS.Byt.wr {S : DS} (h : S.Byt) (s : Nat) (x : Int) (n : Nat) {l : List Int} (hl : Bytes l) : (S.wr s x n l).2.Byt := by
  unfold DS.wr
  split
  · exact h
  · split
    · exact h
    · split
      · exact h
      · refine ⟨h.1, fun q hq => ?_⟩
        rcases List.mem_append.1 hq with hq | hq
        · exact h.2 q hq
        · rw [List.mem_singleton.1 hq]; exact hl
theorem DS.Byt.fl {S : DS} (h : S.Byt) (s : Nat) : (S.fl s).2.Byt := by
  unfold DS.fl
  split
  · exact h
  · exact ⟨imOf_bytes h.now, fun q hq => by cases hq⟩
theorem DS.Byt.take {S : DS} (h : S.Byt) : S.take.Byt := h
theorem torn_bytes {S : DS} (h : S.Byt) (k A B C : Nat) : Bytes (tornOf S k A B C) := by
  unfold tornOf
  exact ((cand_bytes h k _).take _).append ((cand_bytes h k _).drop _)
theorem DS.Byt.crash {S : DS} (h : S.Byt) (s : Nat) (l : List P3) : (S.crash s l).Byt := by
  refine ⟨imOf_bytes (fun k => ?_), fun q hq => by cases hq⟩
  unfold cutOf
  split
  · exact dsec_bytes h.1 k
  · exact torn_bytes h k _ _ _
theorem stepsTo_byt {S : DS} {g : Nat → DS → Int × DS} (h : S.Byt) (hg : ∀ k T, T.Byt → (g k T).2.Byt) : ∀ k, (stepsTo S g k).2.Byt
  | 0 => h
  | k + 1 => by
    have := stepsTo_byt h hg k
    unfold stepsTo
    split
    · exact this
    · exact hg k _ this
theorem zs_bytes (n : Nat) : Bytes (zs n) := by unfold zs; exact Bytes.zeros n
theorem DS.Byt.wipe {S : DS} (h : S.Byt) (s f n : Nat) : (awipe S s f n).2.Byt := by
  have h1 : ∀ k, (wipeTo S s f k).2.Byt := stepsTo_byt h (fun k T hT => hT.wr s _ _ (zs_bytes _))
  unfold awipe
  split
  · exact h1 _
  · exact (h1 _).fl s
theorem srenew_bytes {l r : List Int} (num : Int) {dt : List Int} (hd : Bytes dt) : Bytes (srenew l r num dt).2.1 := by
  have hf : ∀ (a b : Int), dt.length ≤ 496 → Bytes (sform (turnOf a b) (bytes8 num.toNat ++ dt)) := fun a b h => sform_bytes ((bytes8_bytes _).append hd) (by rw [List.length_append, bytes8_len]; omega) ⟨by omega, by have := turnOf_le a b; omega⟩
  unfold srenew
  split
  · exact Bytes.nil
  · split
    · exact Bytes.nil
    · split
      · exact Bytes.nil
      · dsimp only
        split
        · exact Bytes.nil
        · split
          · exact hf _ _ (by omega)
          · exact hf _ _ (by omega)
theorem DS.Byt.anew {S : DS} (h : S.Byt) (s f : Nat) (num : Int) : (anew S s f num).2.Byt := by
  have h1 := h.wr s ((f : Int) + ((srenew (S.now f) (S.now (f + 1)) num []).1 : Int)) 512 (srenew_bytes (l := S.now f) (r := S.now (f + 1)) num Bytes.nil)
  unfold Go.Proofs.YtokcgifpljeoiaaGreat.anew
  split
  · exact h
  · split
    · exact h
    · split
      · exact h1
      · exact h1.fl s
theorem sseal_bytes {old body : List Int} (hb : Bytes body) : Bytes (sseal old body).1 := by
  unfold sseal
  split
  · exact Bytes.nil
  · split
    · exact Bytes.nil
    · exact sform_bytes hb (by omega) ⟨by omega, by have := turnOf_le (old.getD 0 0) (old.getD 511 0); omega⟩
theorem awipe_puts (S : DS) (s f n : Nat) : (awipe S s f n).2.puts.length ≤ S.puts.length + n + 3 := by
  have h1 := wipeTo_puts S s f (n + 2)
  have h2 := fl_puts (wipeTo S s f (n + 2)).2 s
  unfold awipe
  split <;> omega
end Go.Proofs.YtokcgifpljeoiaaGreat
end

section
namespace Go.Proofs.YtokcgifpljeoiaaGreat
open Go.RowKit

/-- What Format does. -/
def lformat (S : DS) (s : Nat) (f n : Int) : Int × DS :=
  if lrefuse S s f n ≠ 0 then (lrefuse S s f n, S) else
  if (awipe S.take s f.toNat n.toNat).1 ≠ 0 then awipe S.take s f.toNat n.toNat else anew (awipe S.take s f.toNat n.toNat).2 s f.toNat 4294967296

theorem lrefuse_zero {S : DS} {s : Nat} {f n : Int} (h : lrefuse S s f n = 0) : S.fuse ≠ 0 ∧ ∃ a b : Nat, f = (a : Int) ∧ n = (b : Int) ∧ a + 2 + b ≤ s ∧ 18 ≤ b ∧ b ≤ 256 := by
  unfold lrefuse at h
  split at h
  · omega
  · rename_i h1
    split at h
    · omega
    · split at h
      · omega
      · split at h
        · omega
        · exact ⟨h1, f.toNat, n.toNat, by omega, by omega, by omega, by omega, by omega⟩

/-- The area in its box, behind a call that leaves it. -/
theorem box_after {w w1 : World} {b : Nat} {o : Obj} {G : Nat → Prop} (h : w.heap[b]? = some o) (hk : Keeps G w w1) (hn : ¬ G b) : w1.heap[b]? = some o := (hk.block b (lt_there h) hn).trans h

end Go.Proofs.YtokcgifpljeoiaaGreat
end

section
namespace Go.Proofs.YtokcgifpljeoiaaGreat
open Go.RowKit

/-- What Start does. -/
def LG.start (L : LG) (S : DS) (s : Nat) : Int × DS × LG :=
  if L.dead S = true then (3, S, L) else if L.begun = true then (5, S, L) else
  if (anew S s L.f (((L.top + 1 : Nat) : Int) * 4294967296 + ((0 : Nat) : Int))).1 ≠ 0 then ((anew S s L.f (((L.top + 1 : Nat) : Int) * 4294967296 + ((0 : Nat) : Int))).1, (anew S s L.f (((L.top + 1 : Nat) : Int) * 4294967296 + ((0 : Nat) : Int))).2, L)
  else (0, (anew S s L.f (((L.top + 1 : Nat) : Int) * 4294967296 + ((0 : Nat) : Int))).2, { L with begun := true, ep := L.top + 1, tail := 0, head := 0 })
/-- What Trim does. -/
def LG.trim (L : LG) (S : DS) (s : Nat) : Int × DS × LG :=
  if (L.sync S s).1 ≠ 0 then ((L.sync S s).1, (L.sync S s).2, L) else if L.tail = L.head then (0, (L.sync S s).2, L) else
  if (anew (L.sync S s).2 s L.f ((L.ep : Int) * 4294967296 + (L.head : Int))).1 ≠ 0 then ((anew (L.sync S s).2 s L.f ((L.ep : Int) * 4294967296 + (L.head : Int))).1, (anew (L.sync S s).2 s L.f ((L.ep : Int) * 4294967296 + (L.head : Int))).2, L)
  else (0, (anew (L.sync S s).2 s L.f ((L.ep : Int) * 4294967296 + (L.head : Int))).2, { L with tail := L.head })

theorem LogP.started {w : World} {l p : Nat} {L : LG} (h : LogP w l p L) (E : Int) (n : Nat) (hE : E = (n : Int)) :
    LogP ((((w.setCell ⟨l, 4, none⟩ (.bool true)).setCell ⟨l, 5, none⟩ (.int .i64 E)).setCell ⟨l, 6, none⟩ (.int .i64 0)).setCell ⟨l, 7, none⟩ (.int .i64 0)) l p { L with begun := true, ep := n, tail := 0, head := 0 } := by
  subst hE
  have h1 := heap_setCell_same _ _ 4 _ _ (.bool true) h
  have h2 := heap_setCell_same _ _ 5 _ _ (.int .i64 (n : Int)) h1
  have h3 := heap_setCell_same _ _ 6 _ _ (.int .i64 0) h2
  have h4 := heap_setCell_same _ _ 7 _ _ (.int .i64 0) h3
  exact h4.trans (by simp [lgC])
theorem LogP.trimmed {w : World} {l p : Nat} {L : LG} (h : LogP w l p L) : LogP (w.setCell ⟨l, 6, none⟩ (.int .i64 (L.head : Int))) l p { L with tail := L.head } :=
  (heap_setCell_same _ _ 6 _ _ (.int .i64 (L.head : Int)) h).trans (by simp [lgC])
theorem keeps_set {F : Nat → Prop} (w : World) {l : Nat} (hF : F l) (j : Nat) (v : Value) : Keeps F w (w.setCell ⟨l, j, none⟩ v) := Keeps.setCell (F := F) w (p := ⟨l, j, none⟩) hF v

section
variable {w : World} {F : Nat → Prop} {p s l : Nat} {S : DS} {L : LG}

end
end Go.Proofs.YtokcgifpljeoiaaGreat
end

section
namespace Go.Proofs.YtokcgifpljeoiaaGreat
open Go.RowKit

theorem sync_puts (L : LG) (S : DS) (s : Nat) : (L.sync S s).2.puts.length ≤ S.puts.length + 1 := by
  unfold LG.sync
  split
  · simp
  · exact fl_puts S s
theorem sync_byt {S : DS} (h : S.Byt) (L : LG) (s : Nat) : (L.sync S s).2.Byt := by
  unfold LG.sync
  split
  · exact h
  · exact h.fl s

theorem sync_begun {L : LG} {S : DS} {s : Nat} (h : (L.sync S s).1 = 0) : L.begun = true := by
  unfold LG.sync at h
  split at h
  · rename_i h1; exact absurd h h1
  · rename_i h1
    unfold LG.unready at h1
    split at h1
    · omega
    · split at h1
      · assumption
      · omega

section
variable {w : World} {F : Nat → Prop} {p s l : Nat} {S : DS} {L : LG}

end
end Go.Proofs.YtokcgifpljeoiaaGreat
end
