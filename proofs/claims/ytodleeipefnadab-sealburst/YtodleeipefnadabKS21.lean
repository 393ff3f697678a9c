import Derived.Test.YtodleeipefnadabKS20
namespace Go.Proofs.Ytodleeipefnadab
open Go.RowKit

set_option maxRecDepth 20000 in
set_option maxHeartbeats 4000000 in
theorem lopened_any (a : Option Addr) (n c : Nat) (s : List Int) (w : World) (hs : Src w a n s) (hb : Bytes s) (hn : n ≤ 140737488355328) :
    Calls Try.prog 19 #[.slice a n c] w fun e w' => e = .returned (.bool true) ∧ Below w.heap.size w w' := by
  have h1 := ltwin_any a n c s w hn hs
  have H1 := Hid.mk hs
  have hl1 := hs.1
  clear hs
  go_enter Try.func19, Try.ntmps19
  go_wp2_with fail
  refine h1.mono ?_
  rintro e w1 ⟨v1, rfl, ho1, hb1⟩
  obtain ⟨p1, c1, rfl, hs1, _, _⟩ := ho1.src
  rw [hl1] at *
  have h2 := sopen_any p1 n c1 s w1 hs1 hb
  have HB1 := Hid.mk hb1
  have HS1 := Hid.mk hs1
  clear h1 ho1 hb1 hs1
  obtain ⟨er, her⟩ : ∃ er : Nat, er = (sopens s).2 := ⟨_, rfl⟩
  rw [← her] at h2
  go_wp2_with fail
  refine h2.mono ?_
  rintro e w3 ⟨v3, rfl, hl3, hb3⟩
  obtain ⟨p3, c3, rfl, hs3, _, _⟩ := hl3
  have hB3 := HB1.out.trans (hb3.mono HB1.out.size)
  have h4 := ropen_any a n c s w3 (H1.out.later hB3) hb
  rw [← her] at h4
  have HB3 := Hid.mk hB3
  have HS13 := Hid.mk (HS1.out.later hb3)
  have HS3 := Hid.mk hs3
  have hlen := sopens_len s
  clear h2 hb3 hs3 hB3 HB1 HS1 her
  generalize (sopens s).1 = R at *
  go_wp2_with fail
  refine h4.mono ?_
  rintro e w4 ⟨v4, rfl, ho4, hb4⟩
  obtain ⟨p4, c4, rfl, hs4, _, _⟩ := ho4.src
  have hB4 := HB3.out.trans (hb4.mono HB3.out.size)
  have h5 := lsame_any p3 p4 R.length R.length c3 c4 R R w4 (by omega) (HS3.out.later hb4) hs4
  have HB4 := Hid.mk hB4
  have HS14 := Hid.mk (HS13.out.later hb4)
  clear h4 hb4 hs4 hB4 HB3 HS13 ho4 HS3
  rw [decide_eq_true rfl] at h5
  generalize R.length = RL at *
  go_wp2_with fail
  refine h5.mono ?_
  rintro e w5 ⟨rfl, hb5⟩
  have hB5 := HB4.out.trans (hb5.mono HB4.out.size)
  have h6 := lsame_any p1 a n n c1 c s s w5 hn (HS14.out.later hb5) (H1.out.later hB5)
  have HB5 := Hid.mk hB5
  rw [decide_eq_true rfl] at h6
  clear h5 hb5 hB5 HB4 HS14
  go_wp2_with fail
  refine (lnum_any _ _).mono ?_
  rintro e w' ⟨rfl, hw⟩
  have hw' := hw.symm
  subst hw'
  clear hw
  go_wp2_with fail
  refine h6.mono ?_
  rintro e w6 ⟨rfl, hb6⟩
  have HB6 := Hid.mk (HB5.out.trans (hb6.mono HB5.out.size))
  clear h6 hb6 HB5
  go_wp2
  go_ret
  exact ⟨rfl, HB6.out⟩

theorem sseal_ok {old body : List Int} (h1 : old.length = 512) (h2 : body.length ≤ 504) : sseal old body = (sform (turnOf (old.getD 0 0) (old.getD 511 0)) body, 0) := by
  unfold sseal; rw [if_neg (by omega), if_neg (by omega)]
theorem Own.full {w : World} {B : Nat} {v : Value} {l : List Int} (h : Own w B v l) (h0 : 0 < l.length) : ∃ g c, v = .slice (some ⟨g, 0, none⟩) l.length c ∧ B ≤ g ∧ RowAt w 5 g c (bs l) := h.row' h0
theorem RowAt.setByte {w : World} {g c : Nat} {l : List Int} (h : RowAt w 5 g c (bs l)) (i : Nat) (x : Int) : RowAt (w.setCell ⟨g, i, none⟩ (.int .u8 x)) 5 g c (bs (l.set i x)) := by
  obtain ⟨cur, hb, hc, ht, hm⟩ := h
  refine ⟨cur.setIfInBounds i (.int .u8 x), heap_setCell_same _ _ _ _ _ _ hb, by simpa using hc, ?_, hm⟩
  have e : (bs (l.set i x)).length = (bs l).length := by simp [bs]
  rw [e, Array.toList_setIfInBounds, List.take_set, ht, bs, bs, List.map_set]
theorem RowAt.spare {w : World} {e : TypeId} {g c : Nat} {l : List Int} (h : RowAt w e g c (bs l)) : l.length ≤ c := by have := h.le; simpa [bs] using this

theorem setByte_bytes {l : List Int} (h : Bytes l) (i : Nat) (x : Int) (hx : 0 ≤ x ∧ x < 256) : Bytes (l.set i x) := by
  intro y hy
  rcases List.mem_or_eq_of_mem_set hy with h1 | h1
  · exact h y h1
  · subst h1; exact hx

set_option maxRecDepth 20000 in
set_option maxHeartbeats 4000000 in
theorem sealOpens_any (a : Option Addr) (n c : Nat) (old : List Int) (a2 : Option Addr) (m c2 : Nat) (body : List Int) (at' value : Int) (w : World) (hs : Src w a n old) (hs2 : Src w a2 m body) (hb : Bytes body) (hbo : Bytes old) (hn : n ≤ 140737488355328) (hm : m ≤ 140737488355328) :
    Calls Try.prog 7 #[.slice a n c, .slice a2 m c2, .int .i64 at', .int .i64 value] w fun e w' => e = .returned (.bool true) ∧ Below w.heap.size w w' := by
  have h1 := lsector_any a n c old w hn hs
  have H1 := Hid.mk hs
  have H2 := Hid.mk hs2
  clear hs hs2
  go_enter Try.func7, Try.ntmps7
  go_wp2_with fail
  refine h1.mono ?_
  rintro e w1 ⟨v1, rfl, ho1, hb1⟩
  obtain ⟨p1, c1, rfl, hs1, _, _⟩ := ho1.src
  rw [sec_len] at *
  have h2 := upTo_any a2 m c2 504 body w1 (by omega) (H2.out.later hb1) hm
  have HB1 := Hid.mk hb1
  have HS1 := Hid.mk hs1
  clear h1 ho1 hb1 hs1
  go_wp2_with fail
  refine h2.mono ?_
  rintro e w2 ⟨v2, rfl, ho2, hb2⟩
  obtain ⟨p2, d2, rfl, hs2, _, _⟩ := ho2.src
  have hB2 := HB1.out.trans (hb2.mono HB1.out.size)
  have htl : (body.take 504).length ≤ 504 := by rw [List.length_take]; omega
  have h3 := rseal_any p1 512 c1 (sec old) p2 (body.take 504).length d2 (body.take 504) w2 (HS1.out.later hb2) hs2 (hb.take _) (sec_bytes hbo)
  rw [sseal_ok (sec_len old) htl] at h3
  dsimp only at h3
  have htu := turnOf_le ((sec old).getD 0 0) ((sec old).getD 511 0)
  generalize turnOf ((sec old).getD 0 0) ((sec old).getD 511 0) = t at *
  have hfl : (sform t (body.take 504)).length = 512 := sform_len htl
  have hfb : Bytes (sform t (body.take 504)) := sform_bytes (hb.take _) htl (by omega)
  generalize sform t (body.take 504) = R at *
  have HB2 := Hid.mk hB2
  clear h2 ho2 hb2 hs2 hB2 HB1 HS1 htu
  generalize (body.take 504).length = K at *
  go_wp2_with fail
  refine h3.mono ?_
  rintro e w3 ⟨v3, rfl, ho3, hb3⟩
  obtain ⟨g, c3, rfl, hg, hr⟩ := ho3.full (by omega)
  have hB3 := HB2.out.trans (hb3.mono HB2.out.size)
  have hgw : w.heap.size ≤ g := Nat.le_trans HB2.out.size hg
  have hsrc := hr.src
  rw [hfl] at hsrc
  have h4 := lopened_any (some ⟨g, 0, none⟩) 512 c3 R w3 hsrc hfb (by omega)
  have HB3 := Hid.mk hB3
  have Hr := Hid.mk hr
  rw [hfl]
  clear h3 hb3 hB3 HB2 hg ho3 hr hsrc
  go_wp2_with fail
  refine h4.mono ?_
  rintro e w4 ⟨rfl, hb4⟩
  have hB4 := HB3.out.trans (hb4.mono HB3.out.size)
  have hr4 := Hr.out.agree (hb4.block g Hr.out.lt)
  clear h4 HB3 Hr hb4
  by_cases hat : 0 ≤ at' ∧ at' < 512
  · obtain ⟨i, rfl⟩ : ∃ i : Nat, at' = (i : Int) := ⟨at'.toNat, by omega⟩
    have hi : (i : Int) < 512 := by omega
    have hi0 : (0 : Int) ≤ (i : Int) := by omega
    have hcell := hr4.get (i := i) (by omega)
    have hfr := hr4.frozen i
    have hset := hr4.setByte i (value % 256)
    have hsb := setByte_bytes hfb i (value % 256) (by omega)
    have hB5 : Below w.heap.size w (w4.setCell ⟨g, i, none⟩ (.int .u8 (value % 256))) := hB4.trans ((Keeps.setCell (F := fun j => j = g) (p := ⟨g, i, none⟩) w4 rfl _).below (fun j hj => by omega) hB4.size)
    have hsl : (R.set i (value % 256)).length = 512 := by simpa using hfl
    have hsrc := hset.src
    rw [hsl] at hsrc
    have h5 := lopened_any (some ⟨g, 0, none⟩) 512 c3 (R.set i (value % 256)) _ hsrc hsb (by omega)
    have HB5 := Hid.mk hB5
    clear hr4 hset hsb hB5 hsrc hB4 hat
    obtain ⟨w5, hw5⟩ : ∃ w5, w5 = w4.setCell ⟨g, i, none⟩ (.int .u8 (value % 256)) := ⟨_, rfl⟩
    rw [← hw5] at h5 HB5
    have HW := Hid.mk hw5
    clear hw5
    go_wp2_with fail
    rw [← HW.out]
    refine h5.mono ?_
    rintro e w6 ⟨rfl, hb6⟩
    have hB6 := HB5.out.trans (hb6.mono HB5.out.size)
    have h6 := lopened_any a n c old w6 (H1.out.later hB6) hbo hn
    have HB6 := Hid.mk hB6
    clear h5 hb6 hB6 HB5 HW
    go_wp2_with fail
    refine h6.mono ?_
    rintro e w7 ⟨rfl, hb7⟩
    have hB7 := HB6.out.trans (hb7.mono HB6.out.size)
    have h7 := lsector_any a n c old w7 hn (H1.out.later hB7)
    have HB7 := Hid.mk hB7
    clear h6 hb7 hB7 HB6
    go_wp2_with fail
    refine h7.mono ?_
    rintro e w8 ⟨v8, rfl, ho8, hb8⟩
    obtain ⟨p8, c8, rfl, hs8, _, _⟩ := ho8.src
    rw [sec_len] at *
    have hB8 := HB7.out.trans (hb8.mono HB7.out.size)
    have h8 := lopened_any p8 512 c8 (sec old) w8 hs8 (sec_bytes hbo) (by omega)
    have HB8 := Hid.mk hB8
    clear h7 hb8 hB8 HB7 ho8 hs8
    go_wp2_with fail
    refine h8.mono ?_
    rintro e w9 ⟨rfl, hb9⟩
    have HB9 := Hid.mk (HB8.out.trans (hb9.mono HB8.out.size))
    clear h8 hb9 HB8
    go_wp2
    go_ret
    exact ⟨rfl, HB9.out⟩
  · have hsrc := hr4.src
    rw [hfl] at hsrc
    have h5 := lopened_any (some ⟨g, 0, none⟩) 512 c3 R w4 hsrc hfb (by omega)
    have HB5 := Hid.mk hB4
    clear hr4 hsrc hB4
    by_cases h0 : 0 ≤ at'
    · have h01 : ¬ at' < 512 := by omega
      clear hat
      go_wp2_with fail
      refine h5.mono ?_
      rintro e w6 ⟨rfl, hb6⟩
      have hB6 := HB5.out.trans (hb6.mono HB5.out.size)
      have h6 := lopened_any a n c old w6 (H1.out.later hB6) hbo hn
      have HB6 := Hid.mk hB6
      clear h5 hb6 hB6 HB5
      go_wp2_with fail
      refine h6.mono ?_
      rintro e w7 ⟨rfl, hb7⟩
      have hB7 := HB6.out.trans (hb7.mono HB6.out.size)
      have h7 := lsector_any a n c old w7 hn (H1.out.later hB7)
      have HB7 := Hid.mk hB7
      clear h6 hb7 hB7 HB6
      go_wp2_with fail
      refine h7.mono ?_
      rintro e w8 ⟨v8, rfl, ho8, hb8⟩
      obtain ⟨p8, c8, rfl, hs8, _, _⟩ := ho8.src
      rw [sec_len] at *
      have hB8 := HB7.out.trans (hb8.mono HB7.out.size)
      have h8 := lopened_any p8 512 c8 (sec old) w8 hs8 (sec_bytes hbo) (by omega)
      have HB8 := Hid.mk hB8
      clear h7 hb8 hB8 HB7 ho8 hs8
      go_wp2_with fail
      refine h8.mono ?_
      rintro e w9 ⟨rfl, hb9⟩
      have HB9 := Hid.mk (HB8.out.trans (hb9.mono HB8.out.size))
      clear h8 hb9 HB8
      go_wp2
      go_ret
      exact ⟨rfl, HB9.out⟩
    · clear hat
      go_wp2_with fail
      refine h5.mono ?_
      rintro e w6 ⟨rfl, hb6⟩
      have hB6 := HB5.out.trans (hb6.mono HB5.out.size)
      have h6 := lopened_any a n c old w6 (H1.out.later hB6) hbo hn
      have HB6 := Hid.mk hB6
      clear h5 hb6 hB6 HB5
      go_wp2_with fail
      refine h6.mono ?_
      rintro e w7 ⟨rfl, hb7⟩
      have hB7 := HB6.out.trans (hb7.mono HB6.out.size)
      have h7 := lsector_any a n c old w7 hn (H1.out.later hB7)
      have HB7 := Hid.mk hB7
      clear h6 hb7 hB7 HB6
      go_wp2_with fail
      refine h7.mono ?_
      rintro e w8 ⟨v8, rfl, ho8, hb8⟩
      obtain ⟨p8, c8, rfl, hs8, _, _⟩ := ho8.src
      rw [sec_len] at *
      have hB8 := HB7.out.trans (hb8.mono HB7.out.size)
      have h8 := lopened_any p8 512 c8 (sec old) w8 hs8 (sec_bytes hbo) (by omega)
      have HB8 := Hid.mk hB8
      clear h7 hb8 hB8 HB7 ho8 hs8
      go_wp2_with fail
      refine h8.mono ?_
      rintro e w9 ⟨rfl, hb9⟩
      have HB9 := Hid.mk (HB8.out.trans (hb9.mono HB8.out.size))
      clear h8 hb9 HB8
      go_wp2
      go_ret
      exact ⟨rfl, HB9.out⟩
end Go.Proofs.Ytodleeipefnadab
