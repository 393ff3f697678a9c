import Derived.Test.YtodleeipefnadabKS15
namespace Go.Proofs.Ytodleeipefnadab
open Go.RowKit

theorem sseal_len (old body : List Int) : (sseal old body).1.length ≤ 512 := by
  unfold sseal
  split
  · simp
  · split
    · simp
    · next h1 h2 => rw [sform_len (by omega)]; omega

set_option maxRecDepth 20000 in
set_option maxHeartbeats 4000000 in
theorem lsealed_any (a : Option Addr) (n c : Nat) (old : List Int) (a2 : Option Addr) (m c2 : Nat) (body : List Int) (w : World) (hs : Src w a n old) (hs2 : Src w a2 m body) (hb : Bytes body) (hbo : Bytes old) (hn : n ≤ 140737488355328) (hm : m ≤ 140737488355328) :
    Calls Try.prog 17 #[.slice a n c, .slice a2 m c2] w fun e w' => e = .returned (.bool true) ∧ Below w.heap.size w w' := by
  have h1 := ltwin_any a n c old w hn hs
  have H1 := Hid.mk hs
  have H2 := Hid.mk hs2
  have hl1 := hs.1
  have hl2 := hs2.1
  clear hs hs2
  go_enter Try.func17, Try.ntmps17
  go_wp2_with fail
  refine h1.mono ?_
  rintro e w1 ⟨v1, rfl, ho1, hb1⟩
  obtain ⟨p1, c1, rfl, hs1, _, _⟩ := ho1.src
  have h2 := ltwin_any a2 m c2 body w1 hm (H2.out.later hb1)
  have HB1 := Hid.mk hb1
  have HS1 := Hid.mk hs1
  clear h1 ho1 hb1 hs1
  rw [hl1] at *
  go_wp2_with fail
  refine h2.mono ?_
  rintro e w2 ⟨v2, rfl, ho2, hb2⟩
  obtain ⟨p2, d2, rfl, hs2, _, _⟩ := ho2.src
  rw [hl2] at *
  have hB2 := HB1.out.trans (hb2.mono HB1.out.size)
  have h3 := seal_any p1 n c1 old p2 m d2 body w2 (HS1.out.later hb2) hs2 hb
  have HB2 := Hid.mk hB2
  have HS12 := Hid.mk (HS1.out.later hb2)
  have HS2 := Hid.mk hs2
  clear h2 ho2 hb2 hs2 hB2 HB1 HS1
  obtain ⟨er, her⟩ : ∃ er : Nat, er = (sseal old body).2 := ⟨_, rfl⟩
  rw [← her] at h3
  go_wp2_with fail
  refine h3.mono ?_
  rintro e w3 ⟨v3, rfl, hl3, hb3⟩
  obtain ⟨p3, c3, rfl, hs3, _, _⟩ := hl3
  have hB3 := HB2.out.trans (hb3.mono HB2.out.size)
  have h4 := rseal_any a n c old a2 m c2 body w3 (H1.out.later hB3) (H2.out.later hB3) hb hbo
  rw [← her] at h4
  have HB3 := Hid.mk hB3
  have HS13 := Hid.mk (HS12.out.later hb3)
  have HS23 := Hid.mk (HS2.out.later hb3)
  have HS3 := Hid.mk hs3
  have hlen := sseal_len old body
  clear h3 hb3 hs3 hB3 HB2 HS12 HS2 her
  generalize (sseal old body).1 = R at *
  go_wp2_with fail
  refine h4.mono ?_
  rintro e w4 ⟨v4, rfl, ho4, hb4⟩
  obtain ⟨p4, c4, rfl, hs4, _, _⟩ := ho4.src
  have hB4 := HB3.out.trans (hb4.mono HB3.out.size)
  have h5 := lsame_any p3 p4 R.length R.length c3 c4 R R w4 (by omega) (HS3.out.later hb4) hs4
  have HB4 := Hid.mk hB4
  have HS14 := Hid.mk (HS13.out.later hb4)
  have HS24 := Hid.mk (HS23.out.later hb4)
  clear h4 hb4 hs4 hB4 HB3 HS13 HS23 ho4 HS3
  rw [decide_eq_true rfl] at h5
  generalize R.length = RL at *
  go_wp2_with fail
  refine h5.mono ?_
  rintro e w5 ⟨rfl, hb5⟩
  have hB5 := HB4.out.trans (hb5.mono HB4.out.size)
  have h6 := lsame_any p1 a n n c1 c old old w5 hn (HS14.out.later hb5) (H1.out.later hB5)
  have HS25 := Hid.mk (HS24.out.later hb5)
  have HB5 := Hid.mk hB5
  rw [decide_eq_true rfl] at h6
  clear h5 hb5 hB5 HB4 HS14 HS24
  go_wp2_with fail
  refine (lnum_any _ _).mono ?_
  rintro e w' ⟨rfl, hw⟩
  have hw' := hw.symm
  subst hw'
  clear hw
  go_wp2_with fail
  refine h6.mono ?_
  rintro e w6 ⟨rfl, hb6⟩
  have hB6 := HB5.out.trans (hb6.mono HB5.out.size)
  have h7 := lsame_any p2 a2 m m d2 c2 body body w6 hm (HS25.out.later hb6) (H2.out.later hB6)
  have HB6 := Hid.mk hB6
  rw [decide_eq_true rfl] at h7
  clear h6 hb6 hB6 HB5 HS25
  go_wp2_with fail
  refine h7.mono ?_
  rintro e w7 ⟨rfl, hb7⟩
  have HB7 := Hid.mk (HB6.out.trans (hb7.mono HB6.out.size))
  clear h7 hb7
  go_wp2
  go_ret
  exact ⟨rfl, HB7.out⟩

set_option maxRecDepth 20000 in
set_option maxHeartbeats 4000000 in
theorem sealSeals_any (a : Option Addr) (n c : Nat) (old : List Int) (a2 : Option Addr) (m c2 : Nat) (body : List Int) (w : World) (hs : Src w a n old) (hs2 : Src w a2 m body) (hb : Bytes body) (hbo : Bytes old) (hn : n ≤ 140737488355328) (hm : m ≤ 140737488355328) :
    Calls Try.prog 6 #[.slice a n c, .slice a2 m c2] w fun e w' => e = .returned (.bool true) ∧ Below w.heap.size w w' := by
  have h1 := lsector_any a n c old w hn hs
  have H1 := Hid.mk hs
  have H2 := Hid.mk hs2
  clear hs hs2
  go_enter Try.func6, Try.ntmps6
  go_wp2_with fail
  refine h1.mono ?_
  rintro e w1 ⟨v1, rfl, ho1, hb1⟩
  obtain ⟨p1, c1, rfl, hs1, _, _⟩ := ho1.src
  rw [sec_len] at *
  have h2 := upTo_any a2 m c2 504 body w1 (by omega) (H2.out.later hb1) hm
  have HB1 := Hid.mk hb1
  have HS1 := Hid.mk hs1
  clear h1 ho1 hb1 hs1
  go_wp2_with fail
  refine h2.mono ?_
  rintro e w2 ⟨v2, rfl, ho2, hb2⟩
  obtain ⟨p2, d2, rfl, hs2, _, _⟩ := ho2.src
  have hB2 := HB1.out.trans (hb2.mono HB1.out.size)
  have h3 := lsealed_any p1 512 c1 (sec old) p2 (body.take 504).length d2 (body.take 504) w2 (HS1.out.later hb2) hs2 (hb.take _) (sec_bytes hbo) (by omega) (by rw [List.length_take]; omega)
  have HB2 := Hid.mk hB2
  clear h2 ho2 hb2 hs2 hB2 HB1 HS1
  generalize (body.take 504).length = K at *
  go_wp2_with fail
  refine h3.mono ?_
  rintro e w3 ⟨rfl, hb3⟩
  have hB3 := HB2.out.trans (hb3.mono HB2.out.size)
  have h4 := lsealed_any a n c old a2 m c2 body w3 (H1.out.later hB3) (H2.out.later hB3) hb hbo hn hm
  have HB3 := Hid.mk hB3
  clear h3 hb3 hB3 HB2
  go_wp2_with fail
  refine h4.mono ?_
  rintro e w4 ⟨rfl, hb4⟩
  have hB4 := HB3.out.trans (hb4.mono HB3.out.size)
  have h5 := lsector_any a n c old w4 hn (H1.out.later hB4)
  have HB4 := Hid.mk hB4
  clear h4 hb4 hB4 HB3
  go_wp2_with fail
  refine h5.mono ?_
  rintro e w5 ⟨v5, rfl, ho5, hb5⟩
  obtain ⟨p5, c5, rfl, hs5, _, _⟩ := ho5.src
  rw [sec_len] at *
  have hB5 := HB4.out.trans (hb5.mono HB4.out.size)
  have h6 := lsealed_any p5 512 c5 (sec old) a2 m c2 body w5 hs5 (H2.out.later hB5) hb (sec_bytes hbo) (by omega) hm
  have HB5 := Hid.mk hB5
  clear h5 ho5 hb5 hs5 hB5 HB4
  go_wp2_with fail
  refine h6.mono ?_
  rintro e w6 ⟨rfl, hb6⟩
  have HB6 := Hid.mk (HB5.out.trans (hb6.mono HB5.out.size))
  clear h6 hb6
  go_wp2
  go_ret
  exact ⟨rfl, HB6.out⟩
end Go.Proofs.Ytodleeipefnadab
