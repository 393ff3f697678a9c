import Derived.Test.YtimfidcpljimpaaKRef
import Derived.Test.YtimfidcpljimpaaKRPlan
namespace Go.Proofs.Ytimfidcpljimpaa
open Go.RowKit

theorem part_cons {l : List Int} {q m : Nat} (h : q < l.length) : part l q (m + 1) = l.getD q 0 :: part l (q + 1) m := by
  unfold part
  rw [List.drop_eq_getElem_cons h, List.take_succ_cons]
  simp [List.getD, h]

/-- What take answers. -/
def TakeOut (l : List Int) (at_ n : Nat) (r : Int) : Prop := r = ((le (part l at_ n) : Nat) : Int) ∨ (r = -1 ∧ 18014398509481984 < le (part l at_ n))

theorem le_part_mono {l : List Int} {q k j : Nat} (h : q + j + k ≤ l.length) : le (part l (q + j) k) ≤ le (part l q (j + k)) := by
  induction j generalizing q with
  | zero => simp
  | succ j ih =>
    have h1 := ih (q := q + 1) (by omega)
    rw [show j + 1 + k = (j + k) + 1 by omega, part_cons (by omega), le, show q + (j + 1) = q + 1 + j by omega]
    omega

set_option maxHeartbeats 2000000 in
theorem rtake_low (b o N c : Nat) (l : List Int) (at_ n : Nat) (w : World) (hl : l.length = N) (hb : Bytes l) (hN : N ≤ 1000000) (hn : at_ + n ≤ N) (h8 : n ≤ 8) (hs : ∀ i, i < N → w.cell? ⟨b, o + i, none⟩ = some (.int .u8 (l.getD i 0))) :
    Calls Try.prog 40 #[.slice (some ⟨b, o, none⟩) N c, .int .i64 (at_ : Int), .int .i64 (n : Int)] w fun e w' => (∃ r, e = .returned (.int .i64 r) ∧ TakeOut l at_ n r) ∧ w' = w := by
  have Hs := Hid.mk hs
  clear hs
  go_enter Try.func40, Try.ntmps40
  go_wp2
  go_loopw [7, 8] (fun r i wr => ∃ k : Nat, k ≤ n ∧ i = .int .i64 ((n : Int) - 1 - (k : Int)) ∧ r = .int .i64 ((le (part l (at_ + (n - k)) k) : Nat) : Int) ∧ wr = w ∧ le (part l (at_ + (n - k)) k) ≤ 9223372036854775807) (fun _ i _ => (intOf i + 1).toNat)
  case atStart => exact ⟨0, Nat.zero_le _, by simp, by simp [part, le], rfl, by simp [part, le]⟩
  case round =>
    obtain ⟨k, hk, rfl, rfl, rfl, hv⟩ := hrel
    have hmono := le_part_mono (l := l) (q := at_) (j := n - k) (k := k) (by omega)
    rw [show n - k + k = n by omega] at hmono
    have Hmono := Hid.mk hmono
    clear hmono
    by_cases hlt : k < n
    · have i0 : (0 : Int) ≤ (n : Int) - 1 - (k : Int) := by omega
      by_cases hbig : 18014398509481984 < ((le (part l (at_ + (n - k)) k) : Nat) : Int)
      · have HT : Hid (TakeOut l at_ n (-1)) := .inr ⟨rfl, by have := Hmono.out; omega⟩
        generalize le (part l (at_ + (n - k)) k) = V at *
        go_wp2
        go_ret
        exact ⟨⟨_, rfl, HT.out⟩, rfl⟩
      · have hc := Hs.out (at_ + (n - 1 - k)) (by omega)
        obtain ⟨x, hx, hx1⟩ : ∃ x : Nat, l.getD (at_ + (n - 1 - k)) 0 = (x : Int) ∧ x < 256 := by
          have := hb l[at_ + (n - 1 - k)] (List.getElem_mem (by omega))
          refine ⟨(l.getD (at_ + (n - 1 - k)) 0).toNat, ?_, ?_⟩ <;> simp [List.getD, show at_ + (n - 1 - k) < l.length by omega] <;> omega
        have hstep : le (part l (at_ + (n - (k + 1))) (k + 1)) = x + 256 * le (part l (at_ + (n - k)) k) := by
          rw [part_cons (by omega), le, show at_ + (n - (k + 1)) = at_ + (n - 1 - k) by omega, hx, show at_ + (n - 1 - k) + 1 = at_ + (n - k) by omega]
          simp
        rw [hx] at hc
        have Hstep := Hid.mk hstep
        have eix : (at_ : Int) + ((n : Int) - 1 - (k : Int)) = ((at_ + (n - 1 - k) : Nat) : Int) := by omega
        have ixl : ((at_ + (n - 1 - k) : Nat) : Int) < (N : Int) := by omega
        generalize hV : le (part l (at_ + (n - k)) k) = V at *
        generalize at_ + (n - 1 - k) = Q at *
        clear hstep hV
        go_wp2
        go_roundw
        case rel => exact ⟨k + 1, by omega, by first | (congr 1; omega) | go_num, by rw [Hstep.out]; congr 1; omega, trivial, by rw [Hstep.out]; omega⟩
        case measure => simp [intOf]; omega
    · have i0 : ¬ (0 : Int) ≤ (n : Int) - 1 - (k : Int) := by omega
      have hkn : k = n := by omega
      subst hkn
      have HT : Hid (TakeOut l at_ k ((le (part l (at_ + (k - k)) k) : Nat) : Int)) := .inl (by simp)
      generalize le (part l (at_ + (k - k)) k) = V at *
      go_wp2
      go_ret
      exact ⟨⟨_, rfl, HT.out⟩, rfl⟩

theorem take32 {l : List Int} (hb : Bytes l) {k : Nat} (hk : k + 4 ≤ l.length) {r : Int} (h : TakeOut l k 4 r) : r = ((le (part l k 4) : Nat) : Int) := by
  rcases h with h | ⟨_, h⟩
  · exact h
  · have := le_lt (part_bytes hb k 4)
    rw [part_len hk] at this
    have : (2 : Nat) ^ (8 * 4) = 4294967296 := rfl
    omega

theorem RowAt.of_list {w : World} {g : Nat} {l : List Int} (h : Full w g l) (hm : l.length ≤ 1000000) : RowAt w 5 g l.length (bs l) := by
  have := RowAt.of_full h (by simp [bs, maxLen]; omega)
  simpa [bs] using this
theorem Full.src {w : World} {g : Nat} {l : List Int} (h : Full w g l) (hm : l.length ≤ 1000000) {n : Nat} (hn : n ≤ l.length) : Src w (some ⟨g, 0, none⟩) n (l.take n) :=
  ⟨by simp; omega, (fun h => by cases h), fun x hx i hi => by
    cases hx
    rw [(RowAt.of_list h hm).byte (by omega)]
    simp [List.getD, hi]⟩
theorem Full.lt {w : World} {g : Nat} {l : List Int} (h : Full w g l) : g < w.heap.size := (Array.getElem?_eq_some_iff.1 h).1
theorem Full.far {w w' : World} {g : Nat} {l : List Int} (h : Full w g l) (hb : Below w.heap.size w w') : Full w' g l := (hb.block g h.lt).trans h

/-- Zeros. -/
def zs (n : Nat) : List Int := List.replicate n 0
theorem zs_len (n : Nat) : (zs n).length = n := by simp [zs]
theorem zs_add (a b : Nat) : zs (a + b) = zs a ++ zs b := by simp [zs, List.replicate_append_replicate]
theorem zs_get (n i : Nat) (h : i < n) : (zs n).getD i 0 = 0 := by simp [zs, List.getD, h]
theorem Full.set {w : World} {g : Nat} {l : List Int} (h : Full w g l) (i : Nat) (x : Int) : Full (w.setCell ⟨g, i, none⟩ (.int .u8 x)) g (l.set i x) := set_row x h
theorem Full.cell {w : World} {g : Nat} {l : List Int} (h : Full w g l) {i : Nat} (hi : i < l.length) : w.cell? ⟨g, i, none⟩ = some (.int .u8 (l.getD i 0)) := cell_of_block h (by simp [bs, List.getD, hi])
theorem Full.frozen {w : World} {g : Nat} {l : List Int} (h : Full w g l) (i : Nat) : w.frozen? ⟨g, i, none⟩ = false := frozen_of_block h i
theorem head_set : (((((((zs 8 ++ zs 504).set 0 118).set 1 101).set 2 108).set 3 108).set 4 117).set 5 109).set 7 1 = headL ++ zs 504 := by
  have e : ∀ (a : List Int) (i : Nat) (x : Int), i < a.length → (a ++ zs 504).set i x = a.set i x ++ zs 504 := fun a i x h => List.set_append_left i x h
  rw [e _ _ _ (by decide), e _ _ _ (by decide), e _ _ _ (by decide), e _ _ _ (by decide), e _ _ _ (by decide), e _ _ _ (by decide), e _ _ _ (by decide)]
  rfl

set_option maxRecDepth 20000 in
set_option maxHeartbeats 4000000 in
theorem rencsuper_ok (s l n : Nat) (w : World) (hg : Geo s l n) :
    Calls Try.prog 21 #[.agg #[.int .i64 (s : Int), .int .i64 (l : Int), .int .i64 (n : Int)]] w fun e w' => ∃ v, e = .returned (.tuple #[v, .int .i64 0]) ∧ Made w w' v (sealed (supBody s l n)) := by
  obtain ⟨⟨l1, l2⟩, ⟨n1, n2⟩, h3, s1, s2⟩ := hg
  have hp := fun w => rplan_good s l n w l1 l2 n1 n2 h3 s1 s2
  obtain ⟨i0, hi, hz0, hz1, hz2⟩ := info_parts infoU8
  clear h3
  go_enter Try.func21, Try.ntmps21
  go_wp2_with fail
  refine (hp _).mono ?_
  rintro e w1 ⟨rfl, hb1⟩
  have hB1 : Below w.heap.size w w1 := ((Below.refl _ w).alloc (Nat.le_refl _) _).trans (hb1.mono (by simp))
  have hq : w1.heap[w.heap.size]? = some (.cells #[.int .i64 (s : Int), .int .i64 (l : Int), .int .i64 (n : Int)] 29 (0, 0)) := (hb1.block _ (by simp)).trans (heap_alloc_new _ _)
  have hql : w.heap.size < w1.heap.size := (Array.getElem?_eq_some_iff.1 hq).1
  obtain ⟨w2, hw2⟩ : ∃ w2, w2 = w1.alloc (.cells #[.int .i64 (l : Int), .int .i64 (3 + (l : Int)), .int .i64 ((s : Int) - (3 + (l : Int))), .int .i64 (n : Int), .int .i64 (2 + (n : Int) / 4)] 24) := ⟨_, rfl⟩
  have hB2 : Below w.heap.size w w2 := by rw [hw2]; exact hB1.alloc hB1.size _
  have hq2 : w2.heap[w.heap.size]? = some (.cells #[.int .i64 (s : Int), .int .i64 (l : Int), .int .i64 (n : Int)] 29 (0, 0)) := by rw [hw2]; exact (Below.heap_alloc _ _ _ hql).trans hq
  have hql2 : w.heap.size < w2.heap.size := (Array.getElem?_eq_some_iff.1 hq2).1
  clear hp hb1 hB1 hq hql
  go_wp2_with (at_make; rw [← hw2]; refine wpList_make_full _ rfl _ _ 31 rfl w2.heap.size 5 i0 (.int .u8 0) 1 Try.underlying31 hi hz0 hz1 _ _ _ _ 512 rfl rfl ?c1 ?c2 ?c3 ?c4 ?c5 ?_)
  case c1 => rfl
  case c2 => rfl
  case c3 => rw [hz2]; omega
  case c4 => unfold maxLen; omega
  case c5 => exact Nat.le_refl _
  intro w3 hown hgrow
  have hr3 := made_row hown
  rw [← hw2] at hgrow
  have hG : w2.heap.size = w1.heap.size + 1 := by rw [hw2]; simp
  clear hw2
  have hb3 : Below w2.heap.size w2 w3 := (Below.refl _ w2).grown hgrow (Nat.le_refl _) (by intro k hk; cases hk)
  have hf3 : Full w3 (w1.heap.size + 1) (zs 8 ++ zs 504) := by
    have := hr3.full (by simp only [bs, List.length_map, List.length_replicate])
    rw [← zs_add]
    exact this
  have hB3 : Below w.heap.size w w3 := hB2.trans (hb3.mono hB2.size)
  have hq3 := (hb3.block _ hql2).trans hq2
  have e512 : (zs 8 ++ zs 504).length = 512 := by rw [List.length_append, zs_len, zs_len]
  have z : ∀ i, i < 8 → w3.cell? ⟨w1.heap.size + 1, i, none⟩ = some (.int .u8 0) := fun i hi => by
    rw [hf3.cell (by omega)]
    rw [← zs_add, zs_get _ _ (by omega)]
  have x0 := z 0 (by omega)
  have x1 := z 1 (by omega)
  have x2 := z 2 (by omega)
  have x3 := z 3 (by omega)
  have x4 := z 4 (by omega)
  have x5 := z 5 (by omega)
  have x7 := z 7 (by omega)
  have y0 := hf3.frozen 0
  have y1 := hf3.frozen 1
  have y2 := hf3.frozen 2
  have y3 := hf3.frozen 3
  have y4 := hf3.frozen 4
  have y5 := hf3.frozen 5
  have y7 := hf3.frozen 7
  have HF3 := Hid.mk hf3
  have HB3 := Hid.mk hB3
  have HQ3 := Hid.mk hq3
  have hne : ¬ w.heap.size = w1.heap.size + 1 := by omega
  have hlt : w.heap.size < w1.heap.size + 1 := by omega
  clear hown hgrow hr3 hb3 hf3 hB3 hB2 hq3 z hq2
  have q0 := cell_of_block HQ3.out (j := 0) rfl
  go_wp2
  refine wp_loop_rounds 7 ?_
  rw [rounds_succ]
  go_wp2
  rw [rounds_succ]
  go_wp2
  rw [rounds_succ]
  go_wp2
  rw [rounds_succ]
  go_wp2
  rw [rounds_succ]
  go_wp2
  rw [rounds_succ]
  go_wp2
  rw [rounds_succ]
  go_wp2_with fail
  have f4 : ∀ wx : World, Full wx (w1.heap.size + 1) (headL ++ zs 504) → Calls Try.prog 39 #[.slice (some ⟨w1.heap.size + 1, 0, none⟩) 512 512, .int .i64 8, .int .i64 4, .int .i64 (s : Int)] wx fun e w' => e = .returned (.tuple #[]) ∧ Full w' (w1.heap.size + 1) ((headL ++ leb 4 s) ++ (zs 4 ++ zs 496)) ∧ Keeps (fun j => j = w1.heap.size + 1) wx w' := fun wx hx => by
    have := rlay_any (w1.heap.size + 1) 512 512 headL (zs 4) (zs 500) 8 4 s wx (by rw [← zs_add]; exact hx) rfl (zs_len 4) (by rw [List.length_append, List.length_append, zs_len, zs_len]; rfl) (by omega) (by omega)
    rw [show zs 500 = zs 4 ++ zs 496 from zs_add 4 496, ← List.append_assoc] at this
    exact this
  have f5 : ∀ wx : World, Full wx (w1.heap.size + 1) ((headL ++ leb 4 s) ++ (zs 4 ++ zs 496)) → Calls Try.prog 39 #[.slice (some ⟨w1.heap.size + 1, 0, none⟩) 512 512, .int .i64 12, .int .i64 4, .int .i64 (l : Int)] wx fun e w' => e = .returned (.tuple #[]) ∧ Full w' (w1.heap.size + 1) ((headL ++ leb 4 s ++ leb 4 l) ++ (zs 4 ++ zs 492)) ∧ Keeps (fun j => j = w1.heap.size + 1) wx w' := fun wx hx => by
    have := rlay_any (w1.heap.size + 1) 512 512 (headL ++ leb 4 s) (zs 4) (zs 496) 12 4 l wx hx (by rw [List.length_append, leb_len]; rfl) (zs_len 4) (by rw [List.length_append, List.length_append, List.length_append, zs_len, zs_len, leb_len]; rfl) (by omega) (by omega)
    rw [show zs 496 = zs 4 ++ zs 492 from zs_add 4 492, ← List.append_assoc] at this
    exact this
  have f6 : ∀ wx : World, Full wx (w1.heap.size + 1) ((headL ++ leb 4 s ++ leb 4 l) ++ (zs 4 ++ zs 492)) → Calls Try.prog 39 #[.slice (some ⟨w1.heap.size + 1, 0, none⟩) 512 512, .int .i64 16, .int .i64 4, .int .i64 (n : Int)] wx fun e w' => e = .returned (.tuple #[]) ∧ Full w' (w1.heap.size + 1) (supBody s l n ++ (zs 4 ++ [])) ∧ Keeps (fun j => j = w1.heap.size + 1) wx w' := fun wx hx => by
    have := rlay_any (w1.heap.size + 1) 512 512 (headL ++ leb 4 s ++ leb 4 l) (zs 4) (zs 492) 16 4 n wx hx (by rw [List.length_append, List.length_append, leb_len, leb_len]; rfl) (zs_len 4) (by rw [List.length_append, List.length_append, List.length_append, List.length_append, zs_len, zs_len, leb_len, leb_len]; rfl) (by omega) (by omega)
    rw [show zs 492 = zs 488 ++ zs 4 from zs_add 488 4] at this
    have e : headL ++ leb 4 s ++ leb 4 l ++ (leb 4 n ++ (zs 488 ++ zs 4)) = supBody s l n ++ (zs 4 ++ []) := by rw [List.append_nil, ← List.append_assoc, ← List.append_assoc]; rfl
    rw [e] at this
    exact this
  have f7 : ∀ wx : World, Full wx (w1.heap.size + 1) (supBody s l n ++ (zs 4 ++ [])) → Calls Try.prog 13 #[.slice (some ⟨w1.heap.size + 1, 0, none⟩) 508 512] wx fun e w' => e = .returned (.int .i64 ((sumOf (supBody s l n) : Nat) : Int)) ∧ Below wx.heap.size wx w' := fun wx hx => by
    refine rsum_any _ _ _ _ wx (supBody_bytes s l n) (by omega) ?_
    have := hx.src (by rw [List.length_append, supBody_len, List.append_nil, zs_len]; omega) (n := 508) (by rw [List.length_append, supBody_len]; omega)
    rw [List.take_left' (supBody_len s l n)] at this
    exact this
  have hsl := sumOf_lt (supBody_bytes s l n)
  have f8 : ∀ wx : World, Full wx (w1.heap.size + 1) (supBody s l n ++ (zs 4 ++ [])) → Calls Try.prog 39 #[.slice (some ⟨w1.heap.size + 1, 0, none⟩) 512 512, .int .i64 508, .int .i64 4, .int .i64 ((sumOf (supBody s l n) : Nat) : Int)] wx fun e w' => e = .returned (.tuple #[]) ∧ Full w' (w1.heap.size + 1) (sealed (supBody s l n)) ∧ Keeps (fun j => j = w1.heap.size + 1) wx w' := fun wx hx => by
    have := rlay_any (w1.heap.size + 1) 512 512 (supBody s l n) (zs 4) [] 508 4 (sumOf (supBody s l n)) wx hx (supBody_len s l n) (zs_len 4) (by rw [List.length_append, supBody_len, List.append_nil, zs_len]) (by omega) (by omega)
    rw [List.append_nil] at this
    exact this
  have F5 := Hid.mk f5
  have F6 := Hid.mk f6
  have F7 := Hid.mk f7
  have F8 := Hid.mk f8
  refine (f4 _ ?full).mono ?_
  case full =>
    have := ((((((HF3.out.set 0 118).set 1 101).set 2 108).set 3 108).set 4 117).set 5 109).set 7 1
    rw [head_set] at this
    exact this
  have K7 := (((((((Keeps.refl (fun j => j = w1.heap.size + 1) w3).trans (Keeps.setCell (F := fun j => j = w1.heap.size + 1) (p := ⟨w1.heap.size + 1, 0, none⟩) _ rfl (.int .u8 118)) (fun _ h => .inl h)).trans (Keeps.setCell (F := fun j => j = w1.heap.size + 1) (p := ⟨w1.heap.size + 1, 1, none⟩) _ rfl (.int .u8 101)) (fun _ h => .inl h)).trans (Keeps.setCell (F := fun j => j = w1.heap.size + 1) (p := ⟨w1.heap.size + 1, 2, none⟩) _ rfl (.int .u8 108)) (fun _ h => .inl h)).trans (Keeps.setCell (F := fun j => j = w1.heap.size + 1) (p := ⟨w1.heap.size + 1, 3, none⟩) _ rfl (.int .u8 108)) (fun _ h => .inl h)).trans (Keeps.setCell (F := fun j => j = w1.heap.size + 1) (p := ⟨w1.heap.size + 1, 4, none⟩) _ rfl (.int .u8 117)) (fun _ h => .inl h)).trans (Keeps.setCell (F := fun j => j = w1.heap.size + 1) (p := ⟨w1.heap.size + 1, 5, none⟩) _ rfl (.int .u8 109)) (fun _ h => .inl h)).trans (Keeps.setCell (F := fun j => j = w1.heap.size + 1) (p := ⟨w1.heap.size + 1, 7, none⟩) _ rfl (.int .u8 1)) (fun _ h => .inl h)
  have HK7 := Hid.mk K7
  clear f4 f5 f6 f7 f8 K7
  rintro e w5 ⟨rfl, hf5, hk5⟩
  have hk35 : Keeps (fun j => j = w1.heap.size + 1) w3 w5 := HK7.out.trans hk5 (fun _ h => .inl h)
  have hq5 := (hk35.block _ (Array.getElem?_eq_some_iff.1 HQ3.out).1 hne).trans HQ3.out
  have HB5 : Hid (Below w.heap.size w w5) := HB3.out.trans (hk35.below (fun j hj => by omega) HB3.out.size)
  have HF5 := Hid.mk hf5
  have HQ5 := Hid.mk hq5
  have c5 := cell_of_block hq5 (j := 1) rfl
  clear hf5 hk5 hk35 hq5 HK7 HB3 HQ3 HF3 x0 x1 x2 x3 x4 x5 x7 y0 y1 y2 y3 y4 y5 y7 q0
  go_wp2_with fail
  refine (F5.out _ HF5.out).mono ?_
  rintro e w6 ⟨rfl, hf6, hk6⟩
  have hq6 := (hk6.block _ (Array.getElem?_eq_some_iff.1 HQ5.out).1 hne).trans HQ5.out
  have HB6 : Hid (Below w.heap.size w w6) := HB5.out.trans (hk6.below (fun j hj => by omega) HB5.out.size)
  have HF6 := Hid.mk hf6
  have c6 := cell_of_block hq6 (j := 2) rfl
  clear hf6 hk6 hq6 HB5 HQ5 HF5 c5 F5
  go_wp2_with fail
  refine (F6.out _ HF6.out).mono ?_
  rintro e w7 ⟨rfl, hf7, hk7⟩
  have HB7 : Hid (Below w.heap.size w w7) := HB6.out.trans (hk7.below (fun j hj => by omega) HB6.out.size)
  have HF7 := Hid.mk hf7
  clear hf7 hk7 HB6 HF6 c6 F6
  go_wp2_with fail
  refine (F7.out _ HF7.out).mono ?_
  rintro e w8 ⟨rfl, hb8⟩
  have HB8 : Hid (Below w.heap.size w w8) := HB7.out.trans (hb8.mono HB7.out.size)
  have HF8 := Hid.mk (HF7.out.far hb8)
  clear hb8 HB7 HF7 F7
  go_wp2_with fail
  refine (F8.out _ HF8.out).mono ?_
  rintro e w9 ⟨rfl, hf9, hk9⟩
  have HM : Hid (Made w w9 (.slice (some ⟨w1.heap.size + 1, 0, none⟩) 512 512) (sealed (supBody s l n))) := by
    have hl : (sealed (supBody s l n)).length = 512 := by rw [sealed_len, supBody_len]
    have hr := RowAt.of_list hf9 (by omega)
    rw [hl] at hr
    exact ⟨w1.heap.size + 1, 512, by rw [hl], by omega, hr, HB8.out.trans (hk9.below (fun j hj => by omega) HB8.out.size)⟩
  clear hf9 hk9 HB8 HF8 F8 hsl
  go_wp2
  go_ret2
  exact ⟨_, rfl, HM.out⟩

set_option maxHeartbeats 2000000 in
theorem rencsuper_bad (s l n : Int) (w : World) (hg : ¬ Geo s l n) :
    Calls Try.prog 21 #[.agg #[.int .i64 s, .int .i64 l, .int .i64 n]] w fun e w' => e = .returned (.tuple #[.slice none 0 0, .int .i64 22]) ∧ Below w.heap.size w w' := by
  have hp : ∀ w, Calls Try.prog 10 #[.agg #[.int .i64 s, .int .i64 l, .int .i64 n]] w fun e w' => e = .returned (.tuple #[.agg #[.int .i64 0, .int .i64 0, .int .i64 0, .int .i64 0, .int .i64 0], .int .i64 22]) ∧ Below w.heap.size w w' := fun w => by
    refine (rplan_any s l n w).mono ?_
    rintro e w' ⟨v, x, rfl, ⟨h, _⟩ | ⟨_, rfl, rfl⟩, hb⟩
    · exact absurd h hg
    · exact ⟨rfl, hb⟩
  clear hg
  go_enter Try.func21, Try.ntmps21
  go_wp2_with fail
  refine (hp _).mono ?_
  rintro e w1 ⟨rfl, hb1⟩
  have hB1 : Below w.heap.size w w1 := ((Below.refl _ w).alloc (Nat.le_refl _) _).trans (hb1.mono (by simp))
  have HB := Hid.mk (fun o => hB1.alloc hB1.size o)
  clear hp hb1 hB1
  go_wp2
  go_ret2
  exact ⟨rfl, HB.out _⟩
end Go.Proofs.Ytimfidcpljimpaa
