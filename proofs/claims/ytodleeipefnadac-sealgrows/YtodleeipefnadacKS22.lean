import Derived.Test.YtodleeipefnadacKS20
import Derived.Test.YtodleeipefnadacSMT
namespace Go.Proofs.Ytodleeipefnadac
open Go.RowKit

theorem Blk.src0 {w : World} {T : TypeId} {g : Nat} {l : List Int} (h : Blk w T g l) (hl : l.length = 512) : Src w (some ⟨g, 0, none⟩) 512 l := by
  have := h.src (o := 0) (n := 512) (by omega)
  rwa [List.drop_zero, List.take_of_length_le (by omega)] at this

set_option maxRecDepth 20000 in
set_option maxHeartbeats 4000000 in
theorem whole_ok (a : Option Addr) (c : Nat) (old : List Int) (a2 : Option Addr) (m c2 : Nat) (body : List Int) (w : World) (hs : Src w a 512 old) (hs2 : Src w a2 m body) (hb : Bytes body) (hm : m ≤ 504) :
    Calls Try.prog 10 #[.slice a 512 c, .slice a2 m c2] w fun e w' => ∃ g, e = .returned (.slice (some ⟨g, 0, none⟩) 512 512) ∧ Blk w' 87 g (sform (turnOf (old.getD 0 0) (old.getD 511 0)) body) ∧ w.heap.size ≤ g ∧ Below w.heap.size w w' := by
  have h1 := ltwin_any a 512 c old w (by omega) hs
  have H2 := Hid.mk hs2
  have hl1 := hs.1
  have hl2 := hs2.1
  have ht := turnOf_le (old.getD 0 0) (old.getD 511 0)
  have hfl : (sform (turnOf (old.getD 0 0) (old.getD 511 0)) body).length = 512 := sform_len (by omega)
  have hfb : Bytes (sform (turnOf (old.getD 0 0) (old.getD 511 0)) body) := sform_bytes hb (by omega) (by omega)
  have hop := sopens_some hfl (sopen_form (turnOf (old.getD 0 0) (old.getD 511 0)) body (by omega) (by omega))
  have hso : Hid (∀ (b o c : Nat) (a2 : Option Addr) (m c2 : Nat) (w : World), Src w (some ⟨b, o, none⟩) 512 old → Src w a2 m body → m ≤ 504 → _) := fun b o c a2 m c2 w h1 h2 h3 => seal_ok b o c old a2 m c2 body w h1 h2 h3 hb
  generalize sform (turnOf (old.getD 0 0) (old.getD 511 0)) body = R at *
  clear hs hs2 ht
  go_enter Try.func10, Try.ntmps10
  go_wp2_with fail
  refine h1.mono ?_
  rintro e w1 ⟨v1, rfl, ho1, hb1⟩
  obtain ⟨g1, c1, rfl, _, hr1⟩ := ho1.full (by omega)
  have hs1 := hr1.src
  rw [hl1] at hs1 ⊢
  have h2 := ltwin_any a2 m c2 body w1 (by omega) (H2.out.later hb1)
  have HB1 := Hid.mk hb1
  have HS1 := Hid.mk hs1
  clear h1 ho1 hb1 hs1 hr1
  go_wp2_with fail
  refine h2.mono ?_
  rintro e w2 ⟨v2, rfl, ho2, hb2⟩
  obtain ⟨p2, d2, rfl, hs2, _, _⟩ := ho2.src
  rw [hl2] at hs2 ⊢
  have hB2 := HB1.out.trans (hb2.mono HB1.out.size)
  have h3 := hso.out g1 0 c1 p2 m d2 w2 (HS1.out.later hb2) hs2 hm
  have HB2 := Hid.mk hB2
  clear h2 ho2 hb2 hs2 hB2 HB1 HS1 hso
  go_wp2_with fail
  refine h3.mono ?_
  rintro e w3 ⟨g3, rfl, hblk3, hg3, hb3⟩
  have hB3 := HB2.out.trans (hb3.mono HB2.out.size)
  have hg3' : w.heap.size ≤ g3 := Nat.le_trans HB2.out.size hg3
  have h4 := ltwin_any (some ⟨g3, 0, none⟩) 512 512 R w3 (by omega) (hblk3.src0 hfl)
  have HB3 := Hid.mk hB3
  have Hblk3 := Hid.mk hblk3
  clear h3 hblk3 hg3 hb3 hB3 HB2
  go_wp2_with fail
  refine (lnum_any _ _).mono ?_
  rintro e w' ⟨rfl, hw⟩
  have hw' := hw.symm
  subst hw'
  clear hw
  go_wp2_with fail
  refine h4.mono ?_
  rintro e w4 ⟨v4, rfl, ho4, hb4⟩
  obtain ⟨p4, c4, rfl, hs4, _, _⟩ := ho4.src
  rw [hfl] at hs4 ⊢
  have h5 := sopen_any p4 512 c4 R w4 hs4 hfb
  rw [hop] at h5
  have hB4 := HB3.out.trans (hb4.mono HB3.out.size)
  have Hblk4 := Hid.mk (Hblk3.out.keep (hb4.block _ Hblk3.out.lt))
  have HB4 := Hid.mk hB4
  clear h4 ho4 hb4 hs4 hB4 HB3 Hblk3
  go_wp2_with fail
  refine h5.mono ?_
  rintro e w5 ⟨v5, rfl, hl5, hb5⟩
  obtain ⟨p5, c5, rfl, hs5, _, _⟩ := hl5
  dsimp only at hs5 ⊢
  have hB5 := HB4.out.trans (hb5.mono HB4.out.size)
  have h6 := lsame_any p5 a2 body.length m c5 c2 body body w5 (by omega) hs5 (H2.out.later hB5)
  rw [decide_eq_true rfl, hl2] at h6
  have Hblk5 := Hid.mk (Hblk4.out.keep (hb5.block _ Hblk4.out.lt))
  have HB5 := Hid.mk hB5
  rw [hl2]
  clear h5 hb5 hB5 HB4 Hblk4 hs5
  go_wp2_with fail
  refine (lnum_any _ _).mono ?_
  rintro e w' ⟨rfl, hw⟩
  have hw' := hw.symm
  subst hw'
  clear hw
  go_wp2_with fail
  refine h6.mono ?_
  rintro e w6 ⟨rfl, hb6⟩
  have Hblk6 := Hid.mk (Hblk5.out.keep (hb6.block _ Hblk5.out.lt))
  have HB6 := Hid.mk (HB5.out.trans (hb6.mono HB5.out.size))
  clear h6 hb6 HB5 Hblk5
  go_wp2
  go_ret
  exact ⟨g3, rfl, Hblk6.out, hg3', HB6.out⟩
end Go.Proofs.Ytodleeipefnadac
