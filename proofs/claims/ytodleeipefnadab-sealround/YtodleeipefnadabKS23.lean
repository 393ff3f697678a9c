import Derived.Test.YtodleeipefnadabKS22
namespace Go.Proofs.Ytodleeipefnadab
open Go.RowKit

set_option maxRecDepth 20000 in
set_option maxHeartbeats 4000000 in
theorem sealRound_any (a : Option Addr) (n c : Nat) (old : List Int) (a2 : Option Addr) (m c2 : Nat) (body : List Int) (w : World) (hs : Src w a n old) (hs2 : Src w a2 m body) (hb : Bytes body) (hn : n ≤ 140737488355328) (hm : m ≤ 140737488355328) :
    Calls Try.prog 3 #[.slice a n c, .slice a2 m c2] w fun e w' => e = .returned (.bool true) ∧ Below w.heap.size w w' := by
  have h1 := lsector_any a n c old w hn hs
  have H2 := Hid.mk hs2
  clear hs hs2
  go_enter Try.func3, Try.ntmps3
  go_wp2_with fail
  refine h1.mono ?_
  rintro e w1 ⟨v1, rfl, ho1, hb1⟩
  obtain ⟨g1, c1, rfl, _, hr1⟩ := ho1.full (by rw [sec_len]; omega)
  have hs1 := hr1.src
  rw [sec_len] at hs1 ⊢
  have h2 := upTo_any a2 m c2 504 body w1 (by omega) (H2.out.later hb1) hm
  have HB1 := Hid.mk hb1
  have HS1 := Hid.mk hs1
  clear h1 ho1 hb1 hs1 hr1
  go_wp2_with fail
  refine h2.mono ?_
  rintro e w2 ⟨v2, rfl, ho2, hb2⟩
  obtain ⟨p2, d2, rfl, hs2, _, _⟩ := ho2.src
  have hB2 := HB1.out.trans (hb2.mono HB1.out.size)
  have htl : (body.take 504).length ≤ 504 := by rw [List.length_take]; omega
  have h3 := whole_ok (some ⟨g1, 0, none⟩) c1 (sec old) p2 (body.take 504).length d2 (body.take 504) w2 (HS1.out.later hb2) hs2 (hb.take _) htl
  have HB2 := Hid.mk hB2
  have HS2 := Hid.mk (HS1.out.later hb2)
  clear h2 ho2 hb2 hs2 hB2 HB1 HS1
  generalize (body.take 504).length = K at *
  go_wp2_with fail
  refine h3.mono ?_
  rintro e w3 ⟨g, rfl, hblk, hg, hb3⟩
  have hfl : (sform (turnOf ((sec old).getD 0 0) ((sec old).getD 511 0)) (body.take 504)).length = 512 := sform_len (by rw [List.length_take]; omega)
  have hS3 := HS2.out.later hb3
  have d0 := hblk.cell (i := 0) (by omega)
  have d1 := hblk.cell (i := 511) (by omega)
  rw [sform_first] at d0
  rw [sform_last _ _ (by rw [List.length_take]; omega)] at d1
  have e0 := hS3.2.2 _ rfl 0 (by omega)
  have e1 := hS3.2.2 _ rfl 511 (by omega)
  rw [addr_add] at e0 e1
  have hle := turnOf_le ((sec old).getD 0 0) ((sec old).getD 511 0)
  have hne := turnOf_ne ((sec old).getD 0 0) ((sec old).getD 511 0)
  generalize (sec old).getD 0 0 = x at *
  generalize (sec old).getD 511 0 = y at *
  generalize turnOf x y = t at *
  have q1 : ((t : Int) != x) = true := by rw [bne_iff_ne]; exact hne.1
  have q2 : ((t : Int) != y) = true := by rw [bne_iff_ne]; exact hne.2
  have q3 : ((t : Int) == (t : Int)) = true := by simp
  have q4 : (t : Int) ≤ 2 := by omega
  have HB3 := HB2.out.trans (hb3.mono HB2.out.size)
  have HBd := Hid.mk (fun j => below_drewN HB3 j)
  clear h3 hblk hg hb3 hfl hS3 HS2 HB2 hne HB3
  go_wp2
  go_quiet (fail)
  go_wp2
  go_ret
  exact ⟨rfl, HBd.out _⟩
end Go.Proofs.Ytodleeipefnadab
