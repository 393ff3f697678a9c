import Derived.Test.YtodleeipefnadacKS24
import Derived.Test.YtodleeipefnadacKOpenR
namespace Go.Proofs.Ytodleeipefnadac
open Go.RowKit

/-- A sector of bytes that lies somewhere. -/
def SecIn (wr : World) (v : Value) : Prop := ∃ g c L, v = .slice (some ⟨g, 0, none⟩) 512 c ∧ Src wr (some ⟨g, 0, none⟩) 512 L ∧ Bytes L
theorem bytes_123 : Bytes [1, 2, 3] := by intro x hx; simp at hx; omega

set_option maxRecDepth 20000 in
set_option maxHeartbeats 8000000 in
theorem sealChain_any (a : Option Addr) (n c : Nat) (st : List Int) (a2 : Option Addr) (m d : Nat) (w : World) (hs : Src w a n st) (hst : Bytes st) (hn : n ≤ 140737488355328) (ht : Turns w w.heap.size a2 m) (hm : 40 * m ≤ 140737488355328) :
    Calls Try.prog 3 #[.slice a n c, .slice a2 m d] w fun e w' => e = .returned (.bool true) ∧ Below w.heap.size w w' := by
  have h1 := lsector_any a n c st w hn hs
  have HT := Hid.mk ht
  clear hs ht
  go_enter Try.func3, Try.ntmps3
  go_wp2_with fail
  refine h1.mono ?_
  rintro e w1 ⟨v1, rfl, ho1, hb1⟩
  obtain ⟨g1, c1, rfl, _, hr1⟩ := ho1.full (by rw [sec_len]; omega)
  have hs1 := hr1.src
  rw [sec_len] at hs1 ⊢
  have hblk : Blk (w1.alloc (.cells #[.int .u8 1, .int .u8 2, .int .u8 3] 5)) 5 w1.heap.size [1, 2, 3] := heap_alloc_new _ _
  have hb2 : Below w1.heap.size w1 (w1.alloc (.cells #[.int .u8 1, .int .u8 2, .int .u8 3] 5)) := (Below.refl _ w1).alloc (Nat.le_refl _) _
  have hsrc3 : Src (w1.alloc (.cells #[.int .u8 1, .int .u8 2, .int .u8 3] 5)) (some ⟨w1.heap.size, 0, none⟩) 3 [1, 2, 3] := hblk.src (o := 0) (n := 3) (by simp)
  have h2 := whole_ok (some ⟨g1, 0, none⟩) c1 (sec st) (some ⟨w1.heap.size, 0, none⟩) 3 3 [1, 2, 3] _ (hs1.later hb2) hsrc3 bytes_123 (by omega)
  have HB2 := Hid.mk (hb1.trans (hb2.mono hb1.size))
  have HS2 := Hid.mk (hs1.later hb2)
  clear h1 ho1 hb1 hr1 hs1 hblk hb2 hsrc3
  go_wp2_with fail
  refine h2.mono ?_
  rintro e w2 ⟨g2, rfl, _, _, hb2⟩
  have HB3 := Hid.mk (HB2.out.trans (hb2.mono HB2.out.size))
  have HS3 := Hid.mk (HS2.out.later hb2)
  clear h2 hb2 HB2 HS2
  go_wp2
  go_loopw [5, 6, 7] (fun o _ i wr => ∃ k : Nat, k ≤ m ∧ i = .int .i64 k ∧ SecIn wr o ∧ Below w.heap.size w wr) (fun _ _ i _ => m - (intOf i).toNat)
  case atStart => exact ⟨0, Nat.zero_le _, rfl, ⟨g1, c1, sec st, rfl, HS3.out, sec_bytes hst⟩, HB3.out⟩
  case round =>
    clear HS3 HB3
    obtain ⟨k, hk, rfl, ⟨go, co, L, rfl, hsL, hL⟩, hbr⟩ := hrel
    have HSL := Hid.mk hsL
    have HB := Hid.mk hbr
    have hLl := hsL.1
    clear hsL hbr
    by_cases hlt : k < m
    · have hlt' : (k : Int) < (m : Int) := by omega
      obtain ⟨x2, rfl⟩ : ∃ x, a2 = some x := by
        cases a2 with
        | none => have := HT.out.1 rfl; omega
        | some x => exact ⟨x, rfl⟩
      obtain ⟨b, o, rfl, hbB, a', n', c', l, ct, t1, t2, f0, f1, f2, f3, hsl, hl, hold, hn'⟩ := (HT.out.far HB.out).2 _ rfl k hlt
      have u1 := upTo_any a' n' c' 504 l wr (by omega) hsl hn'
      have htl : (l.take 504).length ≤ 504 := by rw [List.length_take]; omega
      have F := Hid.mk (And.intro f1 (And.intro f2 f3))
      clear hsl f1 f2 f3
      go_wp2_with fail
      refine u1.mono ?_
      rintro e w3 ⟨v3, rfl, ho3, hb3⟩
      obtain ⟨p3, d3, rfl, hs3, _, _⟩ := ho3.src
      have u2 := whole_ok (some ⟨go, 0, none⟩) co L p3 (l.take 504).length d3 (l.take 504) w3 (HSL.out.later hb3) hs3 (hl.take _) htl
      have hle := turnOf_le (L.getD 0 0) (L.getD 511 0)
      have hne := turnOf_ne (L.getD 0 0) (L.getD 511 0)
      have hfl : (sform (turnOf (L.getD 0 0) (L.getD 511 0)) (l.take 504)).length = 512 := sform_len htl
      have hfb : Bytes (sform (turnOf (L.getD 0 0) (L.getD 511 0)) (l.take 504)) := sform_bytes (hl.take _) htl (by omega)
      have htorn := Hid.mk (fun q (hq : q ≤ 512) => torn (o := L) hLl (t := (turnOf (L.getD 0 0) (L.getD 511 0) : Nat)) hne.1 hne.2 (body := l.take 504) htl (c := q) hq)
      generalize sform (turnOf (L.getD 0 0) (L.getD 511 0)) (l.take 504) = R at *
      have HB3 := Hid.mk (HB.out.trans (hb3.mono HB.out.size))
      have HSL3 := Hid.mk (HSL.out.later hb3)
      have F3 := Hid.mk (And.intro (cell_later hb3 F.out.1) (And.intro (cell_later hb3 F.out.2.1) (cell_later hb3 F.out.2.2)))
      clear u1 ho3 hb3 hs3 HB HSL F f0 hle hne
      generalize (l.take 504).length = K at *
      go_wp2_with fail
      refine u2.mono ?_
      rintro e w4 ⟨g3, rfl, hblk, hg, hb4⟩
      have HB4 := Hid.mk (HB3.out.trans (hb4.mono HB3.out.size))
      have HSL4 := Hid.mk (HSL3.out.later hb4)
      have HR4 := Hid.mk (hblk.src0 hfl)
      have c1 := cell_later hb4 F3.out.1
      have c2 := cell_later hb4 F3.out.2.1
      have c3 := cell_later hb4 F3.out.2.2
      have u3 := cutOf_any ct w4
      clear u2 hblk hg hb4 HB3 HSL3 F3
      go_wp2_with fail
      refine u3.mono ?_
      rintro e w' ⟨q, hq, rfl, hw⟩
      have hw' := hw.symm
      subst hw'
      obtain ⟨tA, tB⟩ := htorn.out q hq
      have u4 := lmix_any go 0 co g3 0 512 q L R w4 hq HSL4.out HR4.out
      clear hw u3 htorn
      go_wp2_with fail
      refine u4.mono ?_
      rintro e w5 ⟨v5, rfl, ho5, hb5⟩
      obtain ⟨g5, c5, rfl, _, hr5⟩ := ho5.full (by rw [smix_len hLl hfl hq]; omega)
      have hs5 := hr5.src
      rw [smix_len hLl hfl hq] at hs5 ⊢
      have HB5 := Hid.mk (HB4.out.trans (hb5.mono HB4.out.size))
      have HSL5 := Hid.mk (HSL4.out.later hb5)
      have HR5 := Hid.mk (HR4.out.later hb5)
      have HM5 := Hid.mk hs5
      have c3 := cell_later hb5 c3
      have c2 := cell_later hb5 c2
      clear u4 ho5 hb5 hr5 hs5 HB4 HSL4 HR4 c1
      cases t2
      · have t7 := told_any (some ⟨g5, 0, none⟩) c5 _ (some ⟨go, 0, none⟩) co L (some ⟨g3, 0, none⟩) 512 R w5 HM5.out HSL5.out HR5.out (smix_bytes hL hfb q) tA
        have hmb := smix_bytes hL hfb q
        have HB7 := HB5
        have HR7 := HR5
        have HM7 := HM5
        clear HB5 HR5 HM5 HSL5 tA tB
        go_wp2_with fail
        refine t7.mono ?_
        rintro e w8 ⟨rfl, hb8⟩
        have HB8 := Hid.mk (HB7.out.trans (hb8.mono HB7.out.size))
        have HR8 := Hid.mk (HR7.out.later hb8)
        have HM8 := Hid.mk (HM7.out.later hb8)
        have d2 := cell_later (hb8.mono (Nat.le_refl _)) c2
        clear t7 hb8 HB7 HR7 HM7
        cases t1
        · go_wp2
          go_roundw
          case rel => exact ⟨k + 1, by omega, by go_num, ⟨g3, 512, R, rfl, HR8.out, hfb⟩, HB8.out⟩
          case measure => simp [intOf]; omega
        · go_wp2
          go_roundw
          case rel => exact ⟨k + 1, by omega, by go_num, ⟨g5, c5, _, rfl, HM8.out, hmb⟩, HB8.out⟩
          case measure => simp [intOf]; omega
      · have u5 := lmix_any g3 0 512 go 0 co q R L w5 hq HR5.out HSL5.out
        go_wp2_with fail
        refine u5.mono ?_
        rintro e w6 ⟨v6, rfl, ho6, hb6⟩
        obtain ⟨g6, c6, rfl, _, hr6⟩ := ho6.full (by rw [smix_len hfl hLl hq]; omega)
        have hs6 := hr6.src
        rw [smix_len hfl hLl hq] at hs6 ⊢
        have HB7 := Hid.mk (HB5.out.trans (hb6.mono HB5.out.size))
        have HR7 := Hid.mk (HR5.out.later hb6)
        have HM7 := Hid.mk hs6
        have c2 := cell_later hb6 c2
        have hmb := smix_bytes hfb hL q
        have t7 := told_any (some ⟨g6, 0, none⟩) c6 _ (some ⟨go, 0, none⟩) co L (some ⟨g3, 0, none⟩) 512 R w6 hs6 (HSL5.out.later hb6) HR7.out hmb tB
        clear u5 ho6 hb6 hr6 hs6 HB5 HSL5 HR5 HM5 tA tB
        go_wp2_with fail
        refine t7.mono ?_
        rintro e w8 ⟨rfl, hb8⟩
        have HB8 := Hid.mk (HB7.out.trans (hb8.mono HB7.out.size))
        have HR8 := Hid.mk (HR7.out.later hb8)
        have HM8 := Hid.mk (HM7.out.later hb8)
        have d2 := cell_later (hb8.mono (Nat.le_refl _)) c2
        clear t7 hb8 HB7 HR7 HM7
        cases t1
        · go_wp2
          go_roundw
          case rel => exact ⟨k + 1, by omega, by go_num, ⟨g3, 512, R, rfl, HR8.out, hfb⟩, HB8.out⟩
          case measure => simp [intOf]; omega
        · go_wp2
          go_roundw
          case rel => exact ⟨k + 1, by omega, by go_num, ⟨g6, c6, _, rfl, HM8.out, hmb⟩, HB8.out⟩
          case measure => simp [intOf]; omega
    · have hlt' : ¬ (k : Int) < (m : Int) := by omega
      go_wp2
      go_ret
      exact ⟨rfl, HB.out⟩
end Go.Proofs.Ytodleeipefnadac
