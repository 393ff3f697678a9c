import Derived.Test.YtodleeipefnadabKS24
namespace Go.Proofs.Ytodleeipefnadab
open Go.RowKit

set_option maxRecDepth 20000 in
set_option maxHeartbeats 4000000 in
theorem sealTorn_any (a : Option Addr) (n c : Nat) (old : List Int) (a2 : Option Addr) (m c2 : Nat) (body : List Int) (cut : Int) (w : World) (hs : Src w a n old) (hs2 : Src w a2 m body) (hb : Bytes body) (hbo : Bytes old) (hn : n ≤ 140737488355328) (hm : m ≤ 140737488355328) :
    Calls Try.prog 8 #[.slice a n c, .slice a2 m c2, .int .i64 cut] w fun e w' => e = .returned (.bool true) ∧ Below w.heap.size w w' := by
  have h1 := lsector_any a n c old w hn hs
  have H2 := Hid.mk hs2
  clear hs hs2
  go_enter Try.func8, Try.ntmps8
  go_wp2_with fail
  refine h1.mono ?_
  rintro e w1 ⟨v1, rfl, ho1, hb1⟩
  obtain ⟨g1, c1, rfl, _, hr1⟩ := ho1.full (by rw [sec_len]; omega)
  have hs1 := hr1.src
  rw [sec_len] at hs1 ⊢
  have h2 := upTo_any a2 m c2 504 body w1 (by omega) (H2.out.later hb1) hm
  have HB1 := Hid.mk hb1
  have HS1 := Hid.mk hs1
  clear h1 ho1 hb1 hs1 hr1
  go_wp2_with fail
  refine h2.mono ?_
  rintro e w2 ⟨v2, rfl, ho2, hb2⟩
  obtain ⟨p2, d2, rfl, hs2, _, _⟩ := ho2.src
  have hB2 := HB1.out.trans (hb2.mono HB1.out.size)
  have htl : (body.take 504).length ≤ 504 := by rw [List.length_take]; omega
  have h3 := whole_ok (some ⟨g1, 0, none⟩) c1 (sec old) p2 (body.take 504).length d2 (body.take 504) w2 (HS1.out.later hb2) hs2 (hb.take _) htl
  have hle := turnOf_le ((sec old).getD 0 0) ((sec old).getD 511 0)
  have hne := turnOf_ne ((sec old).getD 0 0) ((sec old).getD 511 0)
  have hfl : (sform (turnOf ((sec old).getD 0 0) ((sec old).getD 511 0)) (body.take 504)).length = 512 := sform_len htl
  have hfb : Bytes (sform (turnOf ((sec old).getD 0 0) ((sec old).getD 511 0)) (body.take 504)) := sform_bytes (hb.take _) htl (by omega)
  have htorn := Hid.mk (fun k (hk : k ≤ 512) => torn (o := sec old) (sec_len old) (t := (turnOf ((sec old).getD 0 0) ((sec old).getD 511 0) : Nat)) hne.1 hne.2 (body := body.take 504) htl (c := k) hk)
  generalize sform (turnOf ((sec old).getD 0 0) ((sec old).getD 511 0)) (body.take 504) = R at *
  have HB2 := Hid.mk hB2
  have HS2 := Hid.mk (HS1.out.later hb2)
  clear h2 ho2 hb2 hs2 hB2 HB1 HS1 hle hne
  generalize (body.take 504).length = K at *
  go_wp2_with fail
  refine h3.mono ?_
  rintro e w3 ⟨g, rfl, hblk, hg, hb3⟩
  have HB3 := Hid.mk (HB2.out.trans (hb3.mono HB2.out.size))
  have HS3 := Hid.mk (HS2.out.later hb3)
  have HR3 := Hid.mk (hblk.src0 hfl)
  have h4 := cutOf_any cut w3
  clear h3 hblk hg hb3 HS2 HB2
  go_wp2_with fail
  refine h4.mono ?_
  rintro e w' ⟨k, hk, rfl, hw⟩
  have hw' := hw.symm
  subst hw'
  obtain ⟨t1, t2⟩ := htorn.out k hk
  have h5 := lmix_any g1 0 c1 g 0 512 k (sec old) R w3 hk HS3.out HR3.out
  clear hw h4 htorn
  go_wp2_with fail
  refine h5.mono ?_
  rintro e w4 ⟨v4, rfl, ho4, hb4⟩
  obtain ⟨p4, c4, rfl, hs4, _, _⟩ := ho4.src
  rw [smix_len (sec_len old) hfl hk] at hs4 ⊢
  have h6 := told_any p4 c4 _ (some ⟨g1, 0, none⟩) c1 (sec old) (some ⟨g, 0, none⟩) 512 R w4 hs4 (HS3.out.later hb4) (HR3.out.later hb4) (smix_bytes (sec_bytes hbo) hfb k) t1
  have HB4 := Hid.mk (HB3.out.trans (hb4.mono HB3.out.size))
  have HS4 := Hid.mk (HS3.out.later hb4)
  have HR4 := Hid.mk (HR3.out.later hb4)
  clear h5 ho4 hb4 hs4 HB3 HS3 HR3 t1
  go_wp2_with fail
  refine h6.mono ?_
  rintro e w5 ⟨rfl, hb5⟩
  have h7 := lmix_any g 0 512 g1 0 c1 k R (sec old) w5 hk (HR4.out.later hb5) (HS4.out.later hb5)
  have HB5 := Hid.mk (HB4.out.trans (hb5.mono HB4.out.size))
  have HS5 := Hid.mk (HS4.out.later hb5)
  have HR5 := Hid.mk (HR4.out.later hb5)
  clear h6 hb5 HB4 HS4 HR4
  go_wp2_with fail
  refine h7.mono ?_
  rintro e w6 ⟨v6, rfl, ho6, hb6⟩
  obtain ⟨p6, c6, rfl, hs6, _, _⟩ := ho6.src
  rw [smix_len hfl (sec_len old) hk] at hs6 ⊢
  have h8 := told_any p6 c6 _ (some ⟨g1, 0, none⟩) c1 (sec old) (some ⟨g, 0, none⟩) 512 R w6 hs6 (HS5.out.later hb6) (HR5.out.later hb6) (smix_bytes hfb (sec_bytes hbo) k) t2
  have HB6 := Hid.mk (HB5.out.trans (hb6.mono HB5.out.size))
  clear h7 ho6 hb6 hs6 HB5 HS5 HR5 t2
  go_wp2_with fail
  refine h8.mono ?_
  rintro e w7 ⟨rfl, hb7⟩
  have HB7 := Hid.mk (HB6.out.trans (hb7.mono HB6.out.size))
  clear h8 hb7
  go_wp2
  go_ret
  exact ⟨rfl, HB7.out⟩
end Go.Proofs.Ytodleeipefnadab
