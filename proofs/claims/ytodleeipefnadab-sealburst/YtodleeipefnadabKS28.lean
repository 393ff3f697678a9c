import Derived.Test.YtodleeipefnadabKS26
namespace Go.Proofs.Ytodleeipefnadab
open Go.RowKit

/-- The first i bytes of the word mixed in. -/
def burstN (s : List Int) (k : Nat) (f : Nat → Nat) : Nat → List Int
  | 0 => s
  | i + 1 => sxor (burstN s k f i) (k + i) (f i)
theorem burstN_len (s : List Int) (k : Nat) (f : Nat → Nat) : ∀ i, (burstN s k f i).length = s.length
  | 0 => rfl
  | i + 1 => (sxor_len _ _ _).trans (burstN_len s k f i)
theorem burstN_bytes {s : List Int} (h : Bytes s) (k : Nat) (f : Nat → Nat) (hf : ∀ i, f i < 256) : ∀ i, Bytes (burstN s k f i)
  | 0 => h
  | i + 1 => sxor_bytes (burstN_bytes h k f hf i) _ (hf i)

theorem sxor_get {s : List Int} {k w : Nat} (hk : k < s.length) : (sxor s k w).getD k 0 = (((s.getD k 0).toNat ^^^ w : Nat) : Int) := by
  rw [sxor, List.getD, List.getElem?_set_self hk]; rfl
theorem sxor_other {s : List Int} {k j w : Nat} (h : j ≠ k) : (sxor s k w).getD j 0 = s.getD j 0 := by
  rw [sxor, List.getD, List.getElem?_set_ne (by omega)]; rfl
theorem xor_ne {a b : Nat} (h : b ≠ 0) : a ^^^ b ≠ a := by
  intro e
  have : a ^^^ (a ^^^ b) = a ^^^ a := by rw [e]
  rw [← Nat.xor_assoc, Nat.xor_self, Nat.zero_xor] at this
  exact h this
theorem first_told {R body : List Int} (hop : sopen R = some body) (hl : R.length = 512) (hb : Bytes R) {b : Nat} (h : b ≠ 0) : sopen (sxor R 0 b) = none ∧ sxor R 0 b ≠ R := by
  have he := sopen_ends hop hl
  have h0 := hb.getD 0
  have hx := xor_ne (a := (R.getD 0 0).toNat) h
  have hne : (sxor R 0 b).getD 0 0 ≠ R.getD 0 0 := by rw [sxor_get (by omega)]; omega
  refine ⟨ends_none ((sxor_len _ _ _).trans hl) ?_, fun e => hne (by rw [e])⟩
  rw [sxor_other (j := 511) (by omega), he]
  exact hne
theorem last_told {R body : List Int} (hop : sopen R = some body) (hl : R.length = 512) (hb : Bytes R) {b : Nat} (h : b ≠ 0) : sopen (sxor R 511 b) = none := by
  have he := sopen_ends hop hl
  have h0 := hb.getD 511
  have hx := xor_ne (a := (R.getD 511 0).toNat) h
  have hne : (sxor R 511 b).getD 511 0 ≠ R.getD 511 0 := by rw [sxor_get (by omega)]; omega
  refine ends_none ((sxor_len _ _ _).trans hl) ?_
  rw [sxor_other (j := 0) (by omega), ← he]
  exact fun e => hne e.symm
theorem xor_byte {x y : Int} (hx : 0 ≤ x ∧ x < 256) (hy : 0 ≤ y ∧ y < 256) : bits .xor .u8 x y = ((x.toNat ^^^ y.toNat : Nat) : Int) := by
  have := u8_xor_nat x.toNat y.toNat (by omega) (by omega)
  rwa [Int.toNat_of_nonneg hx.1, Int.toNat_of_nonneg hy.1] at this

set_option maxRecDepth 20000 in
set_option maxHeartbeats 4000000 in
theorem sealBurst_any (a : Option Addr) (n c : Nat) (old : List Int) (a2 : Option Addr) (m c2 : Nat) (body : List Int) (at' word : Int) (w : World) (hs : Src w a n old) (hs2 : Src w a2 m body) (hb : Bytes body) (hn : n ≤ 140737488355328) (hm : m ≤ 140737488355328) :
    Calls Try.prog 4 #[.slice a n c, .slice a2 m c2, .int .i64 at', .int .i64 word] w fun e w' => e = .returned (.bool true) ∧ Below w.heap.size w w' := by
  have h1 := lsector_any a n c old w hn hs
  have H2 := Hid.mk hs2
  clear hs hs2
  go_enter Try.func4, Try.ntmps4
  go_wp2_with fail
  refine h1.mono ?_
  rintro e w1 ⟨v1, rfl, ho1, hb1⟩
  obtain ⟨g1, c1, rfl, _, hr1⟩ := ho1.full (by rw [sec_len]; omega)
  have hs1 := hr1.src
  rw [sec_len] at hs1 ⊢
  have h2 := upTo_any a2 m c2 504 body w1 (by omega) (H2.out.later hb1) hm
  have HB1 := Hid.mk hb1
  have HS1 := Hid.mk hs1
  clear h1 ho1 hb1 hs1 hr1
  go_wp2_with fail
  refine h2.mono ?_
  rintro e w2 ⟨v2, rfl, ho2, hb2⟩
  obtain ⟨p2, d2, rfl, hs2, _, _⟩ := ho2.src
  have hB2 := HB1.out.trans (hb2.mono HB1.out.size)
  have htl : (body.take 504).length ≤ 504 := by rw [List.length_take]; omega
  have h3 := whole_ok (some ⟨g1, 0, none⟩) c1 (sec old) p2 (body.take 504).length d2 (body.take 504) w2 (HS1.out.later hb2) hs2 (hb.take _) htl
  have hle := turnOf_le ((sec old).getD 0 0) ((sec old).getD 511 0)
  have hfl : (sform (turnOf ((sec old).getD 0 0) ((sec old).getD 511 0)) (body.take 504)).length = 512 := sform_len htl
  have hfb : Bytes (sform (turnOf ((sec old).getD 0 0) ((sec old).getD 511 0)) (body.take 504)) := sform_bytes (hb.take _) htl (by omega)
  have hop := sopen_form (turnOf ((sec old).getD 0 0) ((sec old).getD 511 0)) (body.take 504) htl (by omega)
  generalize sform (turnOf ((sec old).getD 0 0) ((sec old).getD 511 0)) (body.take 504) = R at *
  have HB2 := Hid.mk hB2
  clear h2 ho2 hb2 hs2 hB2 HB1 HS1 hle
  generalize (body.take 504).length = K at *
  go_wp2_with fail
  refine h3.mono ?_
  rintro e w3 ⟨g, rfl, hblk, hg, hb3⟩
  have HB3 := Hid.mk (HB2.out.trans (hb3.mono HB2.out.size))
  have HR3 := Hid.mk (hblk.src0 hfl)
  obtain ⟨k, hk, hkk⟩ := mod_adj at' 501 (by omega)
  have hkk' : (at'.tmod 501 < 0 ∧ at'.tmod 501 + 501 = (k : Int)) ∨ (¬ at'.tmod 501 < 0 ∧ at'.tmod 501 = (k : Int)) := hkk
  have h4 := ltwin_any (some ⟨g, 0, none⟩) 512 512 R w3 (by omega) HR3.out
  clear h3 hblk hg hb3 HB2 hkk
  rcases hkk' with ⟨hn', hpe⟩ | ⟨hn', hpe⟩
  · go_wp2_with fail
    refine h4.mono ?_
    rintro e w4 ⟨v4, rfl, ho4, hb4⟩
    obtain ⟨g4, c4, rfl, hg4, hr4⟩ := ho4.full (by omega)
    rw [hfl]
    have hz3 := HB3.out.size
    have HB4 := Hid.mk hb4
    have Hr4 := Hid.mk hr4
    clear h4 ho4 hb4 hr4
    obtain ⟨f, hf⟩ : ∃ f : Nat → Nat, f = fun i => (word / 2 ^ (8 * i) % 256).toNat := ⟨_, rfl⟩
    have hf256 : ∀ i, f i < 256 := fun i => by rw [hf]; show (word / 2 ^ (8 * i) % 256).toNat < 256; omega
    have hf0 : f 0 = (word % 256).toNat := by rw [hf]; simp
    go_wp2
    go_loopw [11] (fun v wr => ∃ i : Nat, i ≤ 4 ∧ v = .int .i64 i ∧ RowAt wr 5 g4 c4 (bs (burstN R (7 + k) f i)) ∧ Below w3.heap.size w3 wr) (fun v _ => 4 - (intOf v).toNat)
    case atStart => exact ⟨0, Nat.zero_le _, rfl, Hr4.out, HB4.out⟩
    case round =>
      clear Hr4 HB4
      obtain ⟨i, hi, rfl, hrow, hbr⟩ := hrel
      have hlen : (burstN R (7 + k) f i).length = 512 := (burstN_len _ _ _ _).trans hfl
      have hbyt := burstN_bytes hfb (7 + k) f hf256 i
      by_cases hlt : i < 4
      · have hlt' : (i : Int) < 4 := by omega
        have hcell := hrow.get (i := 7 + k + i) (by omega)
        have hfr := hrow.frozen (7 + k + i)
        have hx := hbyt.getD (7 + k + i)
        have hy : (0 : Int) ≤ word / 2 ^ (8 * i) % 256 ∧ word / 2 ^ (8 * i) % 256 < 256 := by omega
        have hset := hrow.setByte (7 + k + i) ((((burstN R (7 + k) f i).getD (7 + k + i) 0).toNat ^^^ f i : Nat) : Int)
        have ehf : f i = (word / 2 ^ (8 * i) % 256).toNat := by rw [hf]
        have ebits := xor_byte hx hy
        rw [← ehf] at ebits
        rw [← ebits] at hset
        have eset : (burstN R (7 + k) f i).set (7 + k + i) (bits .xor .u8 ((burstN R (7 + k) f i).getD (7 + k + i) 0) (word / 2 ^ (8 * i) % 256)) = burstN R (7 + k) f (i + 1) := by rw [ebits]; rfl
        rw [eset] at hset
        have hB5 := hbr.trans ((Keeps.setCell (F := fun j => j = g4) (p := ⟨g4, 7 + k + i, none⟩) wr rfl (.int .u8 (bits .xor .u8 ((burstN R (7 + k) f i).getD (7 + k + i) 0) (word / 2 ^ (8 * i) % 256)))).below (fun j hj => by omega) hbr.size)
        generalize (burstN R (7 + k) f i).getD (7 + k + i) 0 = x at *
        have hnn : (0 : Int) ≤ 8 * (i : Int) := by omega
        have HH := Hid.mk (And.intro hset hB5)
        clear hrow hset hB5 ebits eset ehf hy hx hf hbr
        go_wp2
        go_region
        go_wp2
        go_roundw
        case rel => exact ⟨i + 1, by omega, by go_num, HH.out.1.agree rfl, below_drew HH.out.2⟩
        case measure => simp [intOf]; omega
      · have hlt' : ¬ (i : Int) < 4 := by omega
        obtain rfl : i = 4 := by omega
        have hM : sopen (burstN R (7 + k) f 4) = none ∨ burstN R (7 + k) f 4 = R := burst hop hfl hfb (hf256 0) (hf256 1) (hf256 2) (hf256 3) (k := 7 + k) (by omega) (by omega)
        have hMl := hlen
        generalize burstN R (7 + k) f 4 = M at *
        have hsM := hrow.src
        rw [hMl] at hsM
        have k1 := ltwin_any (some ⟨g4, 0, none⟩) 512 c4 M wr (by omega) hsM
        have HBr := Hid.mk (HB3.out.trans (hbr.mono hz3))
        have HRr := Hid.mk (HR3.out.later hbr)
        have HMr := Hid.mk hsM
        obtain ⟨b, hbe⟩ : ∃ b, b = f 0 := ⟨_, rfl⟩
        rw [← hbe] at hf0
        have hb256 : b < 256 := by rw [hbe]; exact hf256 0
        have hboth : b = 0 ∨ ((sopens (sxor R 0 b)).2 = 30 ∧ (sopens (sxor R 511 b)).2 = 30 ∧ sxor R 0 b ≠ R) := by
          by_cases h0 : b = 0
          · exact .inl h0
          · obtain ⟨t1, t2⟩ := first_told hop hfl hfb h0
            exact .inr ⟨by rw [sopens_none ((sxor_len _ _ _).trans hfl) t1], by rw [sopens_none ((sxor_len _ _ _).trans hfl) (last_told hop hfl hfb h0)], t2⟩
        have hz0 : b = 0 → sxor R 0 b = R := fun h => by rw [h]; exact sxor_zero hfb 0 (by omega)
        have e1 : M = R ∨ (M ≠ R ∧ (sopens M).2 = 30) := by
          by_cases h : M = R
          · exact .inl h
          · exact .inr ⟨h, by rw [sopens_none hMl (hM.resolve_right h)]⟩
        clear hbe hf hf256 hM hrow hsM hbr
        go_wp2_with fail
        refine k1.mono ?_
        rintro e w5 ⟨v5, rfl, ho5, hb5⟩
        obtain ⟨p5, c5, rfl, hs5, _, _⟩ := ho5.src
        rw [hMl] at hs5 ⊢
        have k2 := sopen_any p5 512 c5 M w5 hs5 hbyt
        have HB5 := Hid.mk (HBr.out.trans (hb5.mono HBr.out.size))
        have HR5 := Hid.mk (HRr.out.later hb5)
        have HM5 := Hid.mk (HMr.out.later hb5)
        clear k1 ho5 hb5 hs5 HBr HRr HMr
        generalize (sopens M).2 = er at *
        go_wp2_with fail
        refine k2.mono ?_
        rintro e w6 ⟨v6, rfl, _, hb6⟩
        have HB6 := Hid.mk (HB5.out.trans (hb6.mono HB5.out.size))
        have HR6 := Hid.mk (HR5.out.later hb6)
        have HM6 := Hid.mk (HM5.out.later hb6)
        have k3 := lsame_any (some ⟨g4, 0, none⟩) (some ⟨g, 0, none⟩) 512 512 c4 512 M R w6 (by omega) HM6.out HR6.out
        clear k2 hb6 HB5 HR5 HM5
        rcases e1 with hMR | ⟨hMR, rfl⟩
        · rw [decide_eq_true hMR] at k3
          clear hMR
          go_wp2_with fail
          refine k3.mono ?_
          rintro e w7 ⟨rfl, hb7⟩
          have HB7 := Hid.mk (HB6.out.trans (hb7.mono HB6.out.size))
          have HR7 := Hid.mk (HR6.out.later hb7)
          clear k3 hb7 HB6 HR6 HM6
          have k4 := ltwin_any (some ⟨g, 0, none⟩) 512 512 R w7 (by omega) HR7.out
          go_wp2_with fail
          refine k4.mono ?_
          rintro e w8 ⟨v8, rfl, ho8, hb8⟩
          obtain ⟨g8, c8, rfl, hg8, hr8⟩ := ho8.full (by omega)
          rw [hfl]
          have hcell := hr8.get (i := 0) (by omega)
          have hfr := hr8.frozen 0
          have hset := hr8.setByte 0 ((((R.getD 0 0).toNat ^^^ b : Nat)) : Int)
          have ebits := xor_byte (hfb.getD 0) (show (0 : Int) ≤ word % 256 ∧ word % 256 < 256 by omega)
          rw [← hf0] at ebits
          rw [← ebits] at hset
          have eset : R.set 0 (bits .xor .u8 (R.getD 0 0) (word % 256)) = sxor R 0 b := by rw [ebits]; rfl
          rw [eset] at hset
          have hz7 := HB7.out.size
          have hK8 := hb8.trans ((Keeps.setCell (F := fun j => j = g8) (p := ⟨g8, 0, none⟩) w8 rfl (.int .u8 (bits .xor .u8 (R.getD 0 0) (word % 256)))).below (fun j hj => by omega) hb8.size)
          have hAl : (sxor R 0 b).length = 512 := (sxor_len _ _ _).trans hfl
          have hAb : Bytes (sxor R 0 b) := sxor_bytes hfb 0 hb256
          have hCl : (sxor R 511 b).length = 512 := (sxor_len _ _ _).trans hfl
          have hCb : Bytes (sxor R 511 b) := sxor_bytes hfb 511 hb256
          have hsA := hset.src
          rw [hAl] at hsA
          obtain ⟨w9, hw9⟩ : ∃ w9, w9 = w8.setCell ⟨g8, 0, none⟩ (.int .u8 (bits .xor .u8 (R.getD 0 0) (word % 256))) := ⟨_, rfl⟩
          rw [← hw9] at hsA hK8
          have k5 := ltwin_any (some ⟨g8, 0, none⟩) 512 c8 (sxor R 0 b) w9 (by omega) hsA
          have HW9 := Hid.mk hw9
          have HB9 := Hid.mk (HB7.out.trans (hK8.mono hz7))
          have HR9 := Hid.mk (HR7.out.later hK8)
          have HA9 := Hid.mk hsA
          clear k4 ho8 hb8 hr8 hset ebits eset hK8 hsA hw9 HB7 HR7
          generalize R.getD 0 0 = x at *
          go_wp2_with fail
          rw [← HW9.out]
          refine k5.mono ?_
          rintro e w10 ⟨v10, rfl, ho10, hb10⟩
          obtain ⟨p10, c10, rfl, hs10, _, _⟩ := ho10.src
          rw [hAl] at hs10 ⊢
          have k6 := sopen_any p10 512 c10 (sxor R 0 b) w10 hs10 hAb
          have HB10 := Hid.mk (HB9.out.trans (hb10.mono HB9.out.size))
          have HR10 := Hid.mk (HR9.out.later hb10)
          have HA10 := Hid.mk (HA9.out.later hb10)
          clear k5 ho10 hb10 hs10 HB9 HR9 HA9 HW9 hcell hfr
          generalize (sopens (sxor R 0 b)).2 = ef at *
          go_wp2_with fail
          refine k6.mono ?_
          rintro e w11 ⟨v11, rfl, _, hb11⟩
          have HB11 := Hid.mk (HB10.out.trans (hb11.mono HB10.out.size))
          have HR11 := Hid.mk (HR10.out.later hb11)
          have HA11 := Hid.mk (HA10.out.later hb11)
          have k7 := ltwin_any (some ⟨g, 0, none⟩) 512 512 R w11 (by omega) HR11.out
          clear k6 hb11 HB10 HR10 HA10
          go_wp2_with fail
          refine k7.mono ?_
          rintro e w12 ⟨v12, rfl, ho12, hb12⟩
          obtain ⟨g12, c12, rfl, hg12, hr12⟩ := ho12.full (by omega)
          rw [hfl]
          have hcell := hr12.get (i := 511) (by omega)
          have hfr := hr12.frozen 511
          have hset := hr12.setByte 511 ((((R.getD 511 0).toNat ^^^ b : Nat)) : Int)
          have ebits := xor_byte (hfb.getD 511) (show (0 : Int) ≤ word % 256 ∧ word % 256 < 256 by omega)
          rw [← hf0] at ebits
          rw [← ebits] at hset
          have eset : R.set 511 (bits .xor .u8 (R.getD 511 0) (word % 256)) = sxor R 511 b := by rw [ebits]; rfl
          rw [eset] at hset
          have hz11 := HB11.out.size
          have hK12 := hb12.trans ((Keeps.setCell (F := fun j => j = g12) (p := ⟨g12, 511, none⟩) w12 rfl (.int .u8 (bits .xor .u8 (R.getD 511 0) (word % 256)))).below (fun j hj => by omega) hb12.size)
          have hsC := hset.src
          rw [hCl] at hsC
          obtain ⟨w13, hw13⟩ : ∃ w13, w13 = w12.setCell ⟨g12, 511, none⟩ (.int .u8 (bits .xor .u8 (R.getD 511 0) (word % 256))) := ⟨_, rfl⟩
          rw [← hw13] at hsC hK12
          have k8 := ltwin_any (some ⟨g12, 0, none⟩) 512 c12 (sxor R 511 b) w13 (by omega) hsC
          have HW13 := Hid.mk hw13
          have HB13 := Hid.mk (HB11.out.trans (hK12.mono hz11))
          have HR13 := Hid.mk (HR11.out.later hK12)
          have HA13 := Hid.mk (HA11.out.later hK12)
          clear k7 ho12 hb12 hr12 hset ebits eset hK12 hsC hw13 HB11 HR11 HA11
          generalize R.getD 511 0 = z at *
          go_wp2_with fail
          rw [← HW13.out]
          refine k8.mono ?_
          rintro e w14 ⟨v14, rfl, ho14, hb14⟩
          obtain ⟨p14, c14, rfl, hs14, _, _⟩ := ho14.src
          rw [hCl] at hs14 ⊢
          have k9 := sopen_any p14 512 c14 (sxor R 511 b) w14 hs14 hCb
          have HB14 := Hid.mk (HB13.out.trans (hb14.mono HB13.out.size))
          have HR14 := Hid.mk (HR13.out.later hb14)
          have HA14 := Hid.mk (HA13.out.later hb14)
          clear k8 ho14 hb14 hs14 HB13 HR13 HA13 HW13 hcell hfr
          generalize (sopens (sxor R 511 b)).2 = eg at *
          go_wp2_with fail
          refine k9.mono ?_
          rintro e w15 ⟨v15, rfl, _, hb15⟩
          have HB15 := Hid.mk (HB14.out.trans (hb15.mono HB14.out.size))
          have k10 := lsame_any (some ⟨g8, 0, none⟩) (some ⟨g, 0, none⟩) 512 512 c8 512 (sxor R 0 b) R w15 (by omega) (HA14.out.later hb15) (HR14.out.later hb15)
          clear k9 hb15 HB14 HR14 HA14
          rcases hboth with hb0 | ⟨rfl, rfl, hne⟩
          · rw [decide_eq_true (hz0 hb0)] at k10
            go_wp2_with fail
            refine k10.mono ?_
            rintro e w16 ⟨rfl, hb16⟩
            have HB16 := Hid.mk (HB15.out.trans (hb16.mono HB15.out.size))
            clear k10 hb16 hb0
            go_wp2
            go_ret
            exact ⟨rfl, HB16.out⟩
          · rw [decide_eq_false hne] at k10
            go_wp2_with fail
            refine k10.mono ?_
            rintro e w16 ⟨rfl, hb16⟩
            have HB16 := Hid.mk (HB15.out.trans (hb16.mono HB15.out.size))
            clear k10 hb16 hne
            go_wp2_with fail
            refine (lnum_any _ _).mono ?_
            rintro e w' ⟨rfl, hw⟩
            have hw' := hw.symm
            subst hw'
            clear hw
            go_wp2_with fail
            refine (lnum_any _ _).mono ?_
            rintro e w' ⟨rfl, hw⟩
            have hw' := hw.symm
            subst hw'
            clear hw
            go_wp2
            go_ret
            exact ⟨rfl, HB16.out⟩
        · rw [decide_eq_false hMR] at k3
          clear hMR
          go_wp2_with fail
          refine k3.mono ?_
          rintro e w7 ⟨rfl, hb7⟩
          have HB7 := Hid.mk (HB6.out.trans (hb7.mono HB6.out.size))
          have HR7 := Hid.mk (HR6.out.later hb7)
          clear k3 hb7 HB6 HR6 HM6
          go_wp2_with fail
          refine (lnum_any _ _).mono ?_
          rintro e w' ⟨rfl, hw⟩
          have hw' := hw.symm
          subst hw'
          clear hw
          have k4 := ltwin_any (some ⟨g, 0, none⟩) 512 512 R w7 (by omega) HR7.out
          go_wp2_with fail
          refine k4.mono ?_
          rintro e w8 ⟨v8, rfl, ho8, hb8⟩
          obtain ⟨g8, c8, rfl, hg8, hr8⟩ := ho8.full (by omega)
          rw [hfl]
          have hcell := hr8.get (i := 0) (by omega)
          have hfr := hr8.frozen 0
          have hset := hr8.setByte 0 ((((R.getD 0 0).toNat ^^^ b : Nat)) : Int)
          have ebits := xor_byte (hfb.getD 0) (show (0 : Int) ≤ word % 256 ∧ word % 256 < 256 by omega)
          rw [← hf0] at ebits
          rw [← ebits] at hset
          have eset : R.set 0 (bits .xor .u8 (R.getD 0 0) (word % 256)) = sxor R 0 b := by rw [ebits]; rfl
          rw [eset] at hset
          have hz7 := HB7.out.size
          have hK8 := hb8.trans ((Keeps.setCell (F := fun j => j = g8) (p := ⟨g8, 0, none⟩) w8 rfl (.int .u8 (bits .xor .u8 (R.getD 0 0) (word % 256)))).below (fun j hj => by omega) hb8.size)
          have hAl : (sxor R 0 b).length = 512 := (sxor_len _ _ _).trans hfl
          have hAb : Bytes (sxor R 0 b) := sxor_bytes hfb 0 hb256
          have hCl : (sxor R 511 b).length = 512 := (sxor_len _ _ _).trans hfl
          have hCb : Bytes (sxor R 511 b) := sxor_bytes hfb 511 hb256
          have hsA := hset.src
          rw [hAl] at hsA
          obtain ⟨w9, hw9⟩ : ∃ w9, w9 = w8.setCell ⟨g8, 0, none⟩ (.int .u8 (bits .xor .u8 (R.getD 0 0) (word % 256))) := ⟨_, rfl⟩
          rw [← hw9] at hsA hK8
          have k5 := ltwin_any (some ⟨g8, 0, none⟩) 512 c8 (sxor R 0 b) w9 (by omega) hsA
          have HW9 := Hid.mk hw9
          have HB9 := Hid.mk (HB7.out.trans (hK8.mono hz7))
          have HR9 := Hid.mk (HR7.out.later hK8)
          have HA9 := Hid.mk hsA
          clear k4 ho8 hb8 hr8 hset ebits eset hK8 hsA hw9 HB7 HR7
          generalize R.getD 0 0 = x at *
          go_wp2_with fail
          rw [← HW9.out]
          refine k5.mono ?_
          rintro e w10 ⟨v10, rfl, ho10, hb10⟩
          obtain ⟨p10, c10, rfl, hs10, _, _⟩ := ho10.src
          rw [hAl] at hs10 ⊢
          have k6 := sopen_any p10 512 c10 (sxor R 0 b) w10 hs10 hAb
          have HB10 := Hid.mk (HB9.out.trans (hb10.mono HB9.out.size))
          have HR10 := Hid.mk (HR9.out.later hb10)
          have HA10 := Hid.mk (HA9.out.later hb10)
          clear k5 ho10 hb10 hs10 HB9 HR9 HA9 HW9 hcell hfr
          generalize (sopens (sxor R 0 b)).2 = ef at *
          go_wp2_with fail
          refine k6.mono ?_
          rintro e w11 ⟨v11, rfl, _, hb11⟩
          have HB11 := Hid.mk (HB10.out.trans (hb11.mono HB10.out.size))
          have HR11 := Hid.mk (HR10.out.later hb11)
          have HA11 := Hid.mk (HA10.out.later hb11)
          have k7 := ltwin_any (some ⟨g, 0, none⟩) 512 512 R w11 (by omega) HR11.out
          clear k6 hb11 HB10 HR10 HA10
          go_wp2_with fail
          refine k7.mono ?_
          rintro e w12 ⟨v12, rfl, ho12, hb12⟩
          obtain ⟨g12, c12, rfl, hg12, hr12⟩ := ho12.full (by omega)
          rw [hfl]
          have hcell := hr12.get (i := 511) (by omega)
          have hfr := hr12.frozen 511
          have hset := hr12.setByte 511 ((((R.getD 511 0).toNat ^^^ b : Nat)) : Int)
          have ebits := xor_byte (hfb.getD 511) (show (0 : Int) ≤ word % 256 ∧ word % 256 < 256 by omega)
          rw [← hf0] at ebits
          rw [← ebits] at hset
          have eset : R.set 511 (bits .xor .u8 (R.getD 511 0) (word % 256)) = sxor R 511 b := by rw [ebits]; rfl
          rw [eset] at hset
          have hz11 := HB11.out.size
          have hK12 := hb12.trans ((Keeps.setCell (F := fun j => j = g12) (p := ⟨g12, 511, none⟩) w12 rfl (.int .u8 (bits .xor .u8 (R.getD 511 0) (word % 256)))).below (fun j hj => by omega) hb12.size)
          have hsC := hset.src
          rw [hCl] at hsC
          obtain ⟨w13, hw13⟩ : ∃ w13, w13 = w12.setCell ⟨g12, 511, none⟩ (.int .u8 (bits .xor .u8 (R.getD 511 0) (word % 256))) := ⟨_, rfl⟩
          rw [← hw13] at hsC hK12
          have k8 := ltwin_any (some ⟨g12, 0, none⟩) 512 c12 (sxor R 511 b) w13 (by omega) hsC
          have HW13 := Hid.mk hw13
          have HB13 := Hid.mk (HB11.out.trans (hK12.mono hz11))
          have HR13 := Hid.mk (HR11.out.later hK12)
          have HA13 := Hid.mk (HA11.out.later hK12)
          clear k7 ho12 hb12 hr12 hset ebits eset hK12 hsC hw13 HB11 HR11 HA11
          generalize R.getD 511 0 = z at *
          go_wp2_with fail
          rw [← HW13.out]
          refine k8.mono ?_
          rintro e w14 ⟨v14, rfl, ho14, hb14⟩
          obtain ⟨p14, c14, rfl, hs14, _, _⟩ := ho14.src
          rw [hCl] at hs14 ⊢
          have k9 := sopen_any p14 512 c14 (sxor R 511 b) w14 hs14 hCb
          have HB14 := Hid.mk (HB13.out.trans (hb14.mono HB13.out.size))
          have HR14 := Hid.mk (HR13.out.later hb14)
          have HA14 := Hid.mk (HA13.out.later hb14)
          clear k8 ho14 hb14 hs14 HB13 HR13 HA13 HW13 hcell hfr
          generalize (sopens (sxor R 511 b)).2 = eg at *
          go_wp2_with fail
          refine k9.mono ?_
          rintro e w15 ⟨v15, rfl, _, hb15⟩
          have HB15 := Hid.mk (HB14.out.trans (hb15.mono HB14.out.size))
          have k10 := lsame_any (some ⟨g8, 0, none⟩) (some ⟨g, 0, none⟩) 512 512 c8 512 (sxor R 0 b) R w15 (by omega) (HA14.out.later hb15) (HR14.out.later hb15)
          clear k9 hb15 HB14 HR14 HA14
          rcases hboth with hb0 | ⟨rfl, rfl, hne⟩
          · rw [decide_eq_true (hz0 hb0)] at k10
            go_wp2_with fail
            refine k10.mono ?_
            rintro e w16 ⟨rfl, hb16⟩
            have HB16 := Hid.mk (HB15.out.trans (hb16.mono HB15.out.size))
            clear k10 hb16 hb0
            go_wp2
            go_ret
            exact ⟨rfl, HB16.out⟩
          · rw [decide_eq_false hne] at k10
            go_wp2_with fail
            refine k10.mono ?_
            rintro e w16 ⟨rfl, hb16⟩
            have HB16 := Hid.mk (HB15.out.trans (hb16.mono HB15.out.size))
            clear k10 hb16 hne
            go_wp2_with fail
            refine (lnum_any _ _).mono ?_
            rintro e w' ⟨rfl, hw⟩
            have hw' := hw.symm
            subst hw'
            clear hw
            go_wp2_with fail
            refine (lnum_any _ _).mono ?_
            rintro e w' ⟨rfl, hw⟩
            have hw' := hw.symm
            subst hw'
            clear hw
            go_wp2
            go_ret
            exact ⟨rfl, HB16.out⟩
  · go_wp2_with fail
    refine h4.mono ?_
    rintro e w4 ⟨v4, rfl, ho4, hb4⟩
    obtain ⟨g4, c4, rfl, hg4, hr4⟩ := ho4.full (by omega)
    rw [hfl]
    have hz3 := HB3.out.size
    have HB4 := Hid.mk hb4
    have Hr4 := Hid.mk hr4
    clear h4 ho4 hb4 hr4
    obtain ⟨f, hf⟩ : ∃ f : Nat → Nat, f = fun i => (word / 2 ^ (8 * i) % 256).toNat := ⟨_, rfl⟩
    have hf256 : ∀ i, f i < 256 := fun i => by rw [hf]; show (word / 2 ^ (8 * i) % 256).toNat < 256; omega
    have hf0 : f 0 = (word % 256).toNat := by rw [hf]; simp
    go_wp2
    go_loopw [11] (fun v wr => ∃ i : Nat, i ≤ 4 ∧ v = .int .i64 i ∧ RowAt wr 5 g4 c4 (bs (burstN R (7 + k) f i)) ∧ Below w3.heap.size w3 wr) (fun v _ => 4 - (intOf v).toNat)
    case atStart => exact ⟨0, Nat.zero_le _, rfl, Hr4.out, HB4.out⟩
    case round =>
      clear Hr4 HB4
      obtain ⟨i, hi, rfl, hrow, hbr⟩ := hrel
      have hlen : (burstN R (7 + k) f i).length = 512 := (burstN_len _ _ _ _).trans hfl
      have hbyt := burstN_bytes hfb (7 + k) f hf256 i
      by_cases hlt : i < 4
      · have hlt' : (i : Int) < 4 := by omega
        have hcell := hrow.get (i := 7 + k + i) (by omega)
        have hfr := hrow.frozen (7 + k + i)
        have hx := hbyt.getD (7 + k + i)
        have hy : (0 : Int) ≤ word / 2 ^ (8 * i) % 256 ∧ word / 2 ^ (8 * i) % 256 < 256 := by omega
        have hset := hrow.setByte (7 + k + i) ((((burstN R (7 + k) f i).getD (7 + k + i) 0).toNat ^^^ f i : Nat) : Int)
        have ehf : f i = (word / 2 ^ (8 * i) % 256).toNat := by rw [hf]
        have ebits := xor_byte hx hy
        rw [← ehf] at ebits
        rw [← ebits] at hset
        have eset : (burstN R (7 + k) f i).set (7 + k + i) (bits .xor .u8 ((burstN R (7 + k) f i).getD (7 + k + i) 0) (word / 2 ^ (8 * i) % 256)) = burstN R (7 + k) f (i + 1) := by rw [ebits]; rfl
        rw [eset] at hset
        have hB5 := hbr.trans ((Keeps.setCell (F := fun j => j = g4) (p := ⟨g4, 7 + k + i, none⟩) wr rfl (.int .u8 (bits .xor .u8 ((burstN R (7 + k) f i).getD (7 + k + i) 0) (word / 2 ^ (8 * i) % 256)))).below (fun j hj => by omega) hbr.size)
        generalize (burstN R (7 + k) f i).getD (7 + k + i) 0 = x at *
        have hnn : (0 : Int) ≤ 8 * (i : Int) := by omega
        have HH := Hid.mk (And.intro hset hB5)
        clear hrow hset hB5 ebits eset ehf hy hx hf hbr
        go_wp2
        go_region
        go_wp2
        go_roundw
        case rel => exact ⟨i + 1, by omega, by go_num, HH.out.1.agree rfl, below_drew HH.out.2⟩
        case measure => simp [intOf]; omega
      · have hlt' : ¬ (i : Int) < 4 := by omega
        obtain rfl : i = 4 := by omega
        have hM : sopen (burstN R (7 + k) f 4) = none ∨ burstN R (7 + k) f 4 = R := burst hop hfl hfb (hf256 0) (hf256 1) (hf256 2) (hf256 3) (k := 7 + k) (by omega) (by omega)
        have hMl := hlen
        generalize burstN R (7 + k) f 4 = M at *
        have hsM := hrow.src
        rw [hMl] at hsM
        have k1 := ltwin_any (some ⟨g4, 0, none⟩) 512 c4 M wr (by omega) hsM
        have HBr := Hid.mk (HB3.out.trans (hbr.mono hz3))
        have HRr := Hid.mk (HR3.out.later hbr)
        have HMr := Hid.mk hsM
        obtain ⟨b, hbe⟩ : ∃ b, b = f 0 := ⟨_, rfl⟩
        rw [← hbe] at hf0
        have hb256 : b < 256 := by rw [hbe]; exact hf256 0
        have hboth : b = 0 ∨ ((sopens (sxor R 0 b)).2 = 30 ∧ (sopens (sxor R 511 b)).2 = 30 ∧ sxor R 0 b ≠ R) := by
          by_cases h0 : b = 0
          · exact .inl h0
          · obtain ⟨t1, t2⟩ := first_told hop hfl hfb h0
            exact .inr ⟨by rw [sopens_none ((sxor_len _ _ _).trans hfl) t1], by rw [sopens_none ((sxor_len _ _ _).trans hfl) (last_told hop hfl hfb h0)], t2⟩
        have hz0 : b = 0 → sxor R 0 b = R := fun h => by rw [h]; exact sxor_zero hfb 0 (by omega)
        have e1 : M = R ∨ (M ≠ R ∧ (sopens M).2 = 30) := by
          by_cases h : M = R
          · exact .inl h
          · exact .inr ⟨h, by rw [sopens_none hMl (hM.resolve_right h)]⟩
        clear hbe hf hf256 hM hrow hsM hbr
        go_wp2_with fail
        refine k1.mono ?_
        rintro e w5 ⟨v5, rfl, ho5, hb5⟩
        obtain ⟨p5, c5, rfl, hs5, _, _⟩ := ho5.src
        rw [hMl] at hs5 ⊢
        have k2 := sopen_any p5 512 c5 M w5 hs5 hbyt
        have HB5 := Hid.mk (HBr.out.trans (hb5.mono HBr.out.size))
        have HR5 := Hid.mk (HRr.out.later hb5)
        have HM5 := Hid.mk (HMr.out.later hb5)
        clear k1 ho5 hb5 hs5 HBr HRr HMr
        generalize (sopens M).2 = er at *
        go_wp2_with fail
        refine k2.mono ?_
        rintro e w6 ⟨v6, rfl, _, hb6⟩
        have HB6 := Hid.mk (HB5.out.trans (hb6.mono HB5.out.size))
        have HR6 := Hid.mk (HR5.out.later hb6)
        have HM6 := Hid.mk (HM5.out.later hb6)
        have k3 := lsame_any (some ⟨g4, 0, none⟩) (some ⟨g, 0, none⟩) 512 512 c4 512 M R w6 (by omega) HM6.out HR6.out
        clear k2 hb6 HB5 HR5 HM5
        rcases e1 with hMR | ⟨hMR, rfl⟩
        · rw [decide_eq_true hMR] at k3
          clear hMR
          go_wp2_with fail
          refine k3.mono ?_
          rintro e w7 ⟨rfl, hb7⟩
          have HB7 := Hid.mk (HB6.out.trans (hb7.mono HB6.out.size))
          have HR7 := Hid.mk (HR6.out.later hb7)
          clear k3 hb7 HB6 HR6 HM6
          have k4 := ltwin_any (some ⟨g, 0, none⟩) 512 512 R w7 (by omega) HR7.out
          go_wp2_with fail
          refine k4.mono ?_
          rintro e w8 ⟨v8, rfl, ho8, hb8⟩
          obtain ⟨g8, c8, rfl, hg8, hr8⟩ := ho8.full (by omega)
          rw [hfl]
          have hcell := hr8.get (i := 0) (by omega)
          have hfr := hr8.frozen 0
          have hset := hr8.setByte 0 ((((R.getD 0 0).toNat ^^^ b : Nat)) : Int)
          have ebits := xor_byte (hfb.getD 0) (show (0 : Int) ≤ word % 256 ∧ word % 256 < 256 by omega)
          rw [← hf0] at ebits
          rw [← ebits] at hset
          have eset : R.set 0 (bits .xor .u8 (R.getD 0 0) (word % 256)) = sxor R 0 b := by rw [ebits]; rfl
          rw [eset] at hset
          have hz7 := HB7.out.size
          have hK8 := hb8.trans ((Keeps.setCell (F := fun j => j = g8) (p := ⟨g8, 0, none⟩) w8 rfl (.int .u8 (bits .xor .u8 (R.getD 0 0) (word % 256)))).below (fun j hj => by omega) hb8.size)
          have hAl : (sxor R 0 b).length = 512 := (sxor_len _ _ _).trans hfl
          have hAb : Bytes (sxor R 0 b) := sxor_bytes hfb 0 hb256
          have hCl : (sxor R 511 b).length = 512 := (sxor_len _ _ _).trans hfl
          have hCb : Bytes (sxor R 511 b) := sxor_bytes hfb 511 hb256
          have hsA := hset.src
          rw [hAl] at hsA
          obtain ⟨w9, hw9⟩ : ∃ w9, w9 = w8.setCell ⟨g8, 0, none⟩ (.int .u8 (bits .xor .u8 (R.getD 0 0) (word % 256))) := ⟨_, rfl⟩
          rw [← hw9] at hsA hK8
          have k5 := ltwin_any (some ⟨g8, 0, none⟩) 512 c8 (sxor R 0 b) w9 (by omega) hsA
          have HW9 := Hid.mk hw9
          have HB9 := Hid.mk (HB7.out.trans (hK8.mono hz7))
          have HR9 := Hid.mk (HR7.out.later hK8)
          have HA9 := Hid.mk hsA
          clear k4 ho8 hb8 hr8 hset ebits eset hK8 hsA hw9 HB7 HR7
          generalize R.getD 0 0 = x at *
          go_wp2_with fail
          rw [← HW9.out]
          refine k5.mono ?_
          rintro e w10 ⟨v10, rfl, ho10, hb10⟩
          obtain ⟨p10, c10, rfl, hs10, _, _⟩ := ho10.src
          rw [hAl] at hs10 ⊢
          have k6 := sopen_any p10 512 c10 (sxor R 0 b) w10 hs10 hAb
          have HB10 := Hid.mk (HB9.out.trans (hb10.mono HB9.out.size))
          have HR10 := Hid.mk (HR9.out.later hb10)
          have HA10 := Hid.mk (HA9.out.later hb10)
          clear k5 ho10 hb10 hs10 HB9 HR9 HA9 HW9 hcell hfr
          generalize (sopens (sxor R 0 b)).2 = ef at *
          go_wp2_with fail
          refine k6.mono ?_
          rintro e w11 ⟨v11, rfl, _, hb11⟩
          have HB11 := Hid.mk (HB10.out.trans (hb11.mono HB10.out.size))
          have HR11 := Hid.mk (HR10.out.later hb11)
          have HA11 := Hid.mk (HA10.out.later hb11)
          have k7 := ltwin_any (some ⟨g, 0, none⟩) 512 512 R w11 (by omega) HR11.out
          clear k6 hb11 HB10 HR10 HA10
          go_wp2_with fail
          refine k7.mono ?_
          rintro e w12 ⟨v12, rfl, ho12, hb12⟩
          obtain ⟨g12, c12, rfl, hg12, hr12⟩ := ho12.full (by omega)
          rw [hfl]
          have hcell := hr12.get (i := 511) (by omega)
          have hfr := hr12.frozen 511
          have hset := hr12.setByte 511 ((((R.getD 511 0).toNat ^^^ b : Nat)) : Int)
          have ebits := xor_byte (hfb.getD 511) (show (0 : Int) ≤ word % 256 ∧ word % 256 < 256 by omega)
          rw [← hf0] at ebits
          rw [← ebits] at hset
          have eset : R.set 511 (bits .xor .u8 (R.getD 511 0) (word % 256)) = sxor R 511 b := by rw [ebits]; rfl
          rw [eset] at hset
          have hz11 := HB11.out.size
          have hK12 := hb12.trans ((Keeps.setCell (F := fun j => j = g12) (p := ⟨g12, 511, none⟩) w12 rfl (.int .u8 (bits .xor .u8 (R.getD 511 0) (word % 256)))).below (fun j hj => by omega) hb12.size)
          have hsC := hset.src
          rw [hCl] at hsC
          obtain ⟨w13, hw13⟩ : ∃ w13, w13 = w12.setCell ⟨g12, 511, none⟩ (.int .u8 (bits .xor .u8 (R.getD 511 0) (word % 256))) := ⟨_, rfl⟩
          rw [← hw13] at hsC hK12
          have k8 := ltwin_any (some ⟨g12, 0, none⟩) 512 c12 (sxor R 511 b) w13 (by omega) hsC
          have HW13 := Hid.mk hw13
          have HB13 := Hid.mk (HB11.out.trans (hK12.mono hz11))
          have HR13 := Hid.mk (HR11.out.later hK12)
          have HA13 := Hid.mk (HA11.out.later hK12)
          clear k7 ho12 hb12 hr12 hset ebits eset hK12 hsC hw13 HB11 HR11 HA11
          generalize R.getD 511 0 = z at *
          go_wp2_with fail
          rw [← HW13.out]
          refine k8.mono ?_
          rintro e w14 ⟨v14, rfl, ho14, hb14⟩
          obtain ⟨p14, c14, rfl, hs14, _, _⟩ := ho14.src
          rw [hCl] at hs14 ⊢
          have k9 := sopen_any p14 512 c14 (sxor R 511 b) w14 hs14 hCb
          have HB14 := Hid.mk (HB13.out.trans (hb14.mono HB13.out.size))
          have HR14 := Hid.mk (HR13.out.later hb14)
          have HA14 := Hid.mk (HA13.out.later hb14)
          clear k8 ho14 hb14 hs14 HB13 HR13 HA13 HW13 hcell hfr
          generalize (sopens (sxor R 511 b)).2 = eg at *
          go_wp2_with fail
          refine k9.mono ?_
          rintro e w15 ⟨v15, rfl, _, hb15⟩
          have HB15 := Hid.mk (HB14.out.trans (hb15.mono HB14.out.size))
          have k10 := lsame_any (some ⟨g8, 0, none⟩) (some ⟨g, 0, none⟩) 512 512 c8 512 (sxor R 0 b) R w15 (by omega) (HA14.out.later hb15) (HR14.out.later hb15)
          clear k9 hb15 HB14 HR14 HA14
          rcases hboth with hb0 | ⟨rfl, rfl, hne⟩
          · rw [decide_eq_true (hz0 hb0)] at k10
            go_wp2_with fail
            refine k10.mono ?_
            rintro e w16 ⟨rfl, hb16⟩
            have HB16 := Hid.mk (HB15.out.trans (hb16.mono HB15.out.size))
            clear k10 hb16 hb0
            go_wp2
            go_ret
            exact ⟨rfl, HB16.out⟩
          · rw [decide_eq_false hne] at k10
            go_wp2_with fail
            refine k10.mono ?_
            rintro e w16 ⟨rfl, hb16⟩
            have HB16 := Hid.mk (HB15.out.trans (hb16.mono HB15.out.size))
            clear k10 hb16 hne
            go_wp2_with fail
            refine (lnum_any _ _).mono ?_
            rintro e w' ⟨rfl, hw⟩
            have hw' := hw.symm
            subst hw'
            clear hw
            go_wp2_with fail
            refine (lnum_any _ _).mono ?_
            rintro e w' ⟨rfl, hw⟩
            have hw' := hw.symm
            subst hw'
            clear hw
            go_wp2
            go_ret
            exact ⟨rfl, HB16.out⟩
        · rw [decide_eq_false hMR] at k3
          clear hMR
          go_wp2_with fail
          refine k3.mono ?_
          rintro e w7 ⟨rfl, hb7⟩
          have HB7 := Hid.mk (HB6.out.trans (hb7.mono HB6.out.size))
          have HR7 := Hid.mk (HR6.out.later hb7)
          clear k3 hb7 HB6 HR6 HM6
          go_wp2_with fail
          refine (lnum_any _ _).mono ?_
          rintro e w' ⟨rfl, hw⟩
          have hw' := hw.symm
          subst hw'
          clear hw
          have k4 := ltwin_any (some ⟨g, 0, none⟩) 512 512 R w7 (by omega) HR7.out
          go_wp2_with fail
          refine k4.mono ?_
          rintro e w8 ⟨v8, rfl, ho8, hb8⟩
          obtain ⟨g8, c8, rfl, hg8, hr8⟩ := ho8.full (by omega)
          rw [hfl]
          have hcell := hr8.get (i := 0) (by omega)
          have hfr := hr8.frozen 0
          have hset := hr8.setByte 0 ((((R.getD 0 0).toNat ^^^ b : Nat)) : Int)
          have ebits := xor_byte (hfb.getD 0) (show (0 : Int) ≤ word % 256 ∧ word % 256 < 256 by omega)
          rw [← hf0] at ebits
          rw [← ebits] at hset
          have eset : R.set 0 (bits .xor .u8 (R.getD 0 0) (word % 256)) = sxor R 0 b := by rw [ebits]; rfl
          rw [eset] at hset
          have hz7 := HB7.out.size
          have hK8 := hb8.trans ((Keeps.setCell (F := fun j => j = g8) (p := ⟨g8, 0, none⟩) w8 rfl (.int .u8 (bits .xor .u8 (R.getD 0 0) (word % 256)))).below (fun j hj => by omega) hb8.size)
          have hAl : (sxor R 0 b).length = 512 := (sxor_len _ _ _).trans hfl
          have hAb : Bytes (sxor R 0 b) := sxor_bytes hfb 0 hb256
          have hCl : (sxor R 511 b).length = 512 := (sxor_len _ _ _).trans hfl
          have hCb : Bytes (sxor R 511 b) := sxor_bytes hfb 511 hb256
          have hsA := hset.src
          rw [hAl] at hsA
          obtain ⟨w9, hw9⟩ : ∃ w9, w9 = w8.setCell ⟨g8, 0, none⟩ (.int .u8 (bits .xor .u8 (R.getD 0 0) (word % 256))) := ⟨_, rfl⟩
          rw [← hw9] at hsA hK8
          have k5 := ltwin_any (some ⟨g8, 0, none⟩) 512 c8 (sxor R 0 b) w9 (by omega) hsA
          have HW9 := Hid.mk hw9
          have HB9 := Hid.mk (HB7.out.trans (hK8.mono hz7))
          have HR9 := Hid.mk (HR7.out.later hK8)
          have HA9 := Hid.mk hsA
          clear k4 ho8 hb8 hr8 hset ebits eset hK8 hsA hw9 HB7 HR7
          generalize R.getD 0 0 = x at *
          go_wp2_with fail
          rw [← HW9.out]
          refine k5.mono ?_
          rintro e w10 ⟨v10, rfl, ho10, hb10⟩
          obtain ⟨p10, c10, rfl, hs10, _, _⟩ := ho10.src
          rw [hAl] at hs10 ⊢
          have k6 := sopen_any p10 512 c10 (sxor R 0 b) w10 hs10 hAb
          have HB10 := Hid.mk (HB9.out.trans (hb10.mono HB9.out.size))
          have HR10 := Hid.mk (HR9.out.later hb10)
          have HA10 := Hid.mk (HA9.out.later hb10)
          clear k5 ho10 hb10 hs10 HB9 HR9 HA9 HW9 hcell hfr
          generalize (sopens (sxor R 0 b)).2 = ef at *
          go_wp2_with fail
          refine k6.mono ?_
          rintro e w11 ⟨v11, rfl, _, hb11⟩
          have HB11 := Hid.mk (HB10.out.trans (hb11.mono HB10.out.size))
          have HR11 := Hid.mk (HR10.out.later hb11)
          have HA11 := Hid.mk (HA10.out.later hb11)
          have k7 := ltwin_any (some ⟨g, 0, none⟩) 512 512 R w11 (by omega) HR11.out
          clear k6 hb11 HB10 HR10 HA10
          go_wp2_with fail
          refine k7.mono ?_
          rintro e w12 ⟨v12, rfl, ho12, hb12⟩
          obtain ⟨g12, c12, rfl, hg12, hr12⟩ := ho12.full (by omega)
          rw [hfl]
          have hcell := hr12.get (i := 511) (by omega)
          have hfr := hr12.frozen 511
          have hset := hr12.setByte 511 ((((R.getD 511 0).toNat ^^^ b : Nat)) : Int)
          have ebits := xor_byte (hfb.getD 511) (show (0 : Int) ≤ word % 256 ∧ word % 256 < 256 by omega)
          rw [← hf0] at ebits
          rw [← ebits] at hset
          have eset : R.set 511 (bits .xor .u8 (R.getD 511 0) (word % 256)) = sxor R 511 b := by rw [ebits]; rfl
          rw [eset] at hset
          have hz11 := HB11.out.size
          have hK12 := hb12.trans ((Keeps.setCell (F := fun j => j = g12) (p := ⟨g12, 511, none⟩) w12 rfl (.int .u8 (bits .xor .u8 (R.getD 511 0) (word % 256)))).below (fun j hj => by omega) hb12.size)
          have hsC := hset.src
          rw [hCl] at hsC
          obtain ⟨w13, hw13⟩ : ∃ w13, w13 = w12.setCell ⟨g12, 511, none⟩ (.int .u8 (bits .xor .u8 (R.getD 511 0) (word % 256))) := ⟨_, rfl⟩
          rw [← hw13] at hsC hK12
          have k8 := ltwin_any (some ⟨g12, 0, none⟩) 512 c12 (sxor R 511 b) w13 (by omega) hsC
          have HW13 := Hid.mk hw13
          have HB13 := Hid.mk (HB11.out.trans (hK12.mono hz11))
          have HR13 := Hid.mk (HR11.out.later hK12)
          have HA13 := Hid.mk (HA11.out.later hK12)
          clear k7 ho12 hb12 hr12 hset ebits eset hK12 hsC hw13 HB11 HR11 HA11
          generalize R.getD 511 0 = z at *
          go_wp2_with fail
          rw [← HW13.out]
          refine k8.mono ?_
          rintro e w14 ⟨v14, rfl, ho14, hb14⟩
          obtain ⟨p14, c14, rfl, hs14, _, _⟩ := ho14.src
          rw [hCl] at hs14 ⊢
          have k9 := sopen_any p14 512 c14 (sxor R 511 b) w14 hs14 hCb
          have HB14 := Hid.mk (HB13.out.trans (hb14.mono HB13.out.size))
          have HR14 := Hid.mk (HR13.out.later hb14)
          have HA14 := Hid.mk (HA13.out.later hb14)
          clear k8 ho14 hb14 hs14 HB13 HR13 HA13 HW13 hcell hfr
          generalize (sopens (sxor R 511 b)).2 = eg at *
          go_wp2_with fail
          refine k9.mono ?_
          rintro e w15 ⟨v15, rfl, _, hb15⟩
          have HB15 := Hid.mk (HB14.out.trans (hb15.mono HB14.out.size))
          have k10 := lsame_any (some ⟨g8, 0, none⟩) (some ⟨g, 0, none⟩) 512 512 c8 512 (sxor R 0 b) R w15 (by omega) (HA14.out.later hb15) (HR14.out.later hb15)
          clear k9 hb15 HB14 HR14 HA14
          rcases hboth with hb0 | ⟨rfl, rfl, hne⟩
          · rw [decide_eq_true (hz0 hb0)] at k10
            go_wp2_with fail
            refine k10.mono ?_
            rintro e w16 ⟨rfl, hb16⟩
            have HB16 := Hid.mk (HB15.out.trans (hb16.mono HB15.out.size))
            clear k10 hb16 hb0
            go_wp2
            go_ret
            exact ⟨rfl, HB16.out⟩
          · rw [decide_eq_false hne] at k10
            go_wp2_with fail
            refine k10.mono ?_
            rintro e w16 ⟨rfl, hb16⟩
            have HB16 := Hid.mk (HB15.out.trans (hb16.mono HB15.out.size))
            clear k10 hb16 hne
            go_wp2_with fail
            refine (lnum_any _ _).mono ?_
            rintro e w' ⟨rfl, hw⟩
            have hw' := hw.symm
            subst hw'
            clear hw
            go_wp2_with fail
            refine (lnum_any _ _).mono ?_
            rintro e w' ⟨rfl, hw⟩
            have hw' := hw.symm
            subst hw'
            clear hw
            go_wp2
            go_ret
            exact ⟨rfl, HB16.out⟩
end Go.Proofs.Ytodleeipefnadab
