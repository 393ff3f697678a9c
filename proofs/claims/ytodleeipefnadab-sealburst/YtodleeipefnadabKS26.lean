import Derived.Test.YtodleeipefnadabKS22
import Derived.RegionTactic
import Derived.BigRegion
namespace Go.Proofs.Ytodleeipefnadab
open Go.RowKit

theorem mod_adj (bit : Int) (N : Nat) (hN : 0 < N) : ∃ p : Nat, p < N ∧ ((bit.tmod (N : Int) < 0 ∧ bit.tmod (N : Int) + (N : Int) = (p : Int)) ∨ (¬ bit.tmod (N : Int) < 0 ∧ bit.tmod (N : Int) = (p : Int))) := by
  have t1 := Int.tmod_lt_of_pos bit (show (0 : Int) < (N : Int) by omega)
  have t2 := Int.lt_tmod_of_pos bit (show (0 : Int) < (N : Int) by omega)
  by_cases h : bit.tmod (N : Int) < 0
  · exact ⟨(bit.tmod (N : Int) + (N : Int)).toNat, by omega, .inl ⟨h, by omega⟩⟩
  · exact ⟨(bit.tmod (N : Int)).toNat, by omega, .inr ⟨h, by omega⟩⟩

set_option maxRecDepth 20000 in
set_option maxHeartbeats 4000000 in
theorem turned_any (b o c : Nat) (l : List Int) (bit : Int) (w : World) (hs : Src w (some ⟨b, o, none⟩) 512 l) (hb : Bytes l) :
    Calls Try.prog 16 #[.slice (some ⟨b, o, none⟩) 512 c, .int .i64 bit] w fun e w' => ∃ p, p < 4080 ∧ ∃ v, e = .returned v ∧ Own w' w.heap.size v (sflip l p) ∧ Below w.heap.size w w' := by
  obtain ⟨p, hp, hpp⟩ := mod_adj bit 4080 (by omega)
  have h1 := ltwin_any (some ⟨b, o, none⟩) 512 c l w (by omega) hs
  have hl := hs.1
  have q1 : ((p : Int)).tdiv 8 = ((p / 8 : Nat) : Int) := by rw [Int.tdiv_eq_ediv_of_nonneg (by omega)]; omega
  have q2 : ((p : Int)).tmod 8 = ((p % 8 : Nat) : Int) := by rw [Int.tmod_eq_emod_of_nonneg (by omega)]; omega
  have hk : 1 + p / 8 < 512 := by omega
  generalize hK : p / 8 = K at *
  generalize hE : p % 8 = E at *
  have hE8 : E < 8 := by omega
  clear hs
  have hpp' : (bit.tmod 4080 < 0 ∧ bit.tmod 4080 + 4080 = (p : Int)) ∨ (¬ bit.tmod 4080 < 0 ∧ bit.tmod 4080 = (p : Int)) := hpp
  have hx0 := hb.getD (1 + K)
  have hrest : ∀ (g c1 : Nat) (w1 : World), RowAt w1 5 g c1 (bs l) → w.heap.size ≤ g → Below w.heap.size w w1 → ∃ y : Int, (((l.getD (1 + K) 0).toNat ^^^ 2 ^ E : Nat) : Int) = y ∧ Own (w1.setCell ⟨g, 1 + K, none⟩ (.int .u8 y)) w.heap.size (.slice (some ⟨g, 0, none⟩) 512 c1) (sflip l p) ∧ Below w.heap.size w (w1.setCell ⟨g, 1 + K, none⟩ (.int .u8 y)) := by
    intro g c1 w1 hr hg hB
    refine ⟨_, rfl, ?_, hB.trans ((Keeps.setCell (F := fun j => j = g) (p := ⟨g, 1 + K, none⟩) w1 rfl _).below (fun j hj => by omega) hB.size)⟩
    have h1 := hr.setByte (1 + K) (((l.getD (1 + K) 0).toNat ^^^ 2 ^ E : Nat) : Int)
    have e : l.set (1 + K) (((l.getD (1 + K) 0).toNat ^^^ 2 ^ E : Nat) : Int) = sflip l p := by unfold sflip; rw [hK, hE]
    rw [e] at h1
    have hl2 : (sflip l p).length = 512 := (sflip_len l p).trans hl
    obtain ⟨cur, hbk, hc, htk, hm⟩ := h1
    have hle : 512 ≤ c1 := by have := hr.spare; omega
    refine ⟨by simp [bs, hl2], .inr ⟨g, c1, cur, by rw [hl2], hg, hbk, by omega, hm, by simpa using hc, ?_⟩⟩
    have hbl : (bs (sflip l p)).length = 512 := by rw [bs, List.length_map, hl2]
    rw [hbl] at htk
    simpa [hl2] using htk
  have HR := Hid.mk hrest
  obtain ⟨xn, hxn⟩ : ∃ xn : Nat, l.getD (1 + K) 0 = (xn : Int) := ⟨(l.getD (1 + K) 0).toNat, by omega⟩
  have hxl : xn < 256 := by omega
  clear hpp hrest hb
  rcases hpp' with ⟨hn, hpe⟩ | ⟨hn, hpe⟩
  · go_enter Try.func16, Try.ntmps16
    go_wp2_with fail
    refine h1.mono ?_
    rintro e w1 ⟨v1, rfl, ho1, hb1⟩
    obtain ⟨g, c1, rfl, hg, hr1⟩ := ho1.full (by omega)
    have hcell := hr1.get (i := 1 + K) (by omega)
    have hfr := hr1.frozen (1 + K)
    obtain ⟨y, hy, hO, hB⟩ := HR.out g c1 w1 hr1 hg hb1
    rw [hxn] at hcell hy
    simp only [Int.toNat_natCast] at hy
    have HH := Hid.mk (And.intro hO hB)
    clear h1 ho1 hb1 hr1 HR hO hB
    rw [hl]
    have hE' : E = 0 ∨ E = 1 ∨ E = 2 ∨ E = 3 ∨ E = 4 ∨ E = 5 ∨ E = 6 ∨ E = 7 := by omega
    clear hE hK hx0 hxn hE8
    rcases hE' with rfl | rfl | rfl | rfl | rfl | rfl | rfl | rfl
    · have hbits : bits .xor .u8 (xn : Int) 1 = y := (u8_xor_nat xn 1 hxl (by omega)).trans hy
      clear hy
      go_wp2
      go_region
      go_wp2
      go_ret
      exact ⟨p, hp, _, rfl, HH.out.1.later (below_drew (Below.refl _ _)), below_drew HH.out.2⟩
    · have hbits : bits .xor .u8 (xn : Int) 2 = y := (u8_xor_nat xn 2 hxl (by omega)).trans hy
      clear hy
      go_wp2
      go_region
      go_wp2
      go_ret
      exact ⟨p, hp, _, rfl, HH.out.1.later (below_drew (Below.refl _ _)), below_drew HH.out.2⟩
    · have hbits : bits .xor .u8 (xn : Int) 4 = y := (u8_xor_nat xn 4 hxl (by omega)).trans hy
      clear hy
      go_wp2
      go_region
      go_wp2
      go_ret
      exact ⟨p, hp, _, rfl, HH.out.1.later (below_drew (Below.refl _ _)), below_drew HH.out.2⟩
    · have hbits : bits .xor .u8 (xn : Int) 8 = y := (u8_xor_nat xn 8 hxl (by omega)).trans hy
      clear hy
      go_wp2
      go_region
      go_wp2
      go_ret
      exact ⟨p, hp, _, rfl, HH.out.1.later (below_drew (Below.refl _ _)), below_drew HH.out.2⟩
    · have hbits : bits .xor .u8 (xn : Int) 16 = y := (u8_xor_nat xn 16 hxl (by omega)).trans hy
      clear hy
      go_wp2
      go_region
      go_wp2
      go_ret
      exact ⟨p, hp, _, rfl, HH.out.1.later (below_drew (Below.refl _ _)), below_drew HH.out.2⟩
    · have hbits : bits .xor .u8 (xn : Int) 32 = y := (u8_xor_nat xn 32 hxl (by omega)).trans hy
      clear hy
      go_wp2
      go_region
      go_wp2
      go_ret
      exact ⟨p, hp, _, rfl, HH.out.1.later (below_drew (Below.refl _ _)), below_drew HH.out.2⟩
    · have hbits : bits .xor .u8 (xn : Int) 64 = y := (u8_xor_nat xn 64 hxl (by omega)).trans hy
      clear hy
      go_wp2
      go_region
      go_wp2
      go_ret
      exact ⟨p, hp, _, rfl, HH.out.1.later (below_drew (Below.refl _ _)), below_drew HH.out.2⟩
    · have hbits : bits .xor .u8 (xn : Int) 128 = y := (u8_xor_nat xn 128 hxl (by omega)).trans hy
      clear hy
      go_wp2
      go_region
      go_wp2
      go_ret
      exact ⟨p, hp, _, rfl, HH.out.1.later (below_drew (Below.refl _ _)), below_drew HH.out.2⟩
  · go_enter Try.func16, Try.ntmps16
    go_wp2_with fail
    refine h1.mono ?_
    rintro e w1 ⟨v1, rfl, ho1, hb1⟩
    obtain ⟨g, c1, rfl, hg, hr1⟩ := ho1.full (by omega)
    have hcell := hr1.get (i := 1 + K) (by omega)
    have hfr := hr1.frozen (1 + K)
    obtain ⟨y, hy, hO, hB⟩ := HR.out g c1 w1 hr1 hg hb1
    rw [hxn] at hcell hy
    simp only [Int.toNat_natCast] at hy
    have HH := Hid.mk (And.intro hO hB)
    clear h1 ho1 hb1 hr1 HR hO hB
    rw [hl]
    have hE' : E = 0 ∨ E = 1 ∨ E = 2 ∨ E = 3 ∨ E = 4 ∨ E = 5 ∨ E = 6 ∨ E = 7 := by omega
    clear hE hK hx0 hxn hE8
    rcases hE' with rfl | rfl | rfl | rfl | rfl | rfl | rfl | rfl
    · have hbits : bits .xor .u8 (xn : Int) 1 = y := (u8_xor_nat xn 1 hxl (by omega)).trans hy
      clear hy
      go_wp2
      go_region
      go_wp2
      go_ret
      exact ⟨p, hp, _, rfl, HH.out.1.later (below_drew (Below.refl _ _)), below_drew HH.out.2⟩
    · have hbits : bits .xor .u8 (xn : Int) 2 = y := (u8_xor_nat xn 2 hxl (by omega)).trans hy
      clear hy
      go_wp2
      go_region
      go_wp2
      go_ret
      exact ⟨p, hp, _, rfl, HH.out.1.later (below_drew (Below.refl _ _)), below_drew HH.out.2⟩
    · have hbits : bits .xor .u8 (xn : Int) 4 = y := (u8_xor_nat xn 4 hxl (by omega)).trans hy
      clear hy
      go_wp2
      go_region
      go_wp2
      go_ret
      exact ⟨p, hp, _, rfl, HH.out.1.later (below_drew (Below.refl _ _)), below_drew HH.out.2⟩
    · have hbits : bits .xor .u8 (xn : Int) 8 = y := (u8_xor_nat xn 8 hxl (by omega)).trans hy
      clear hy
      go_wp2
      go_region
      go_wp2
      go_ret
      exact ⟨p, hp, _, rfl, HH.out.1.later (below_drew (Below.refl _ _)), below_drew HH.out.2⟩
    · have hbits : bits .xor .u8 (xn : Int) 16 = y := (u8_xor_nat xn 16 hxl (by omega)).trans hy
      clear hy
      go_wp2
      go_region
      go_wp2
      go_ret
      exact ⟨p, hp, _, rfl, HH.out.1.later (below_drew (Below.refl _ _)), below_drew HH.out.2⟩
    · have hbits : bits .xor .u8 (xn : Int) 32 = y := (u8_xor_nat xn 32 hxl (by omega)).trans hy
      clear hy
      go_wp2
      go_region
      go_wp2
      go_ret
      exact ⟨p, hp, _, rfl, HH.out.1.later (below_drew (Below.refl _ _)), below_drew HH.out.2⟩
    · have hbits : bits .xor .u8 (xn : Int) 64 = y := (u8_xor_nat xn 64 hxl (by omega)).trans hy
      clear hy
      go_wp2
      go_region
      go_wp2
      go_ret
      exact ⟨p, hp, _, rfl, HH.out.1.later (below_drew (Below.refl _ _)), below_drew HH.out.2⟩
    · have hbits : bits .xor .u8 (xn : Int) 128 = y := (u8_xor_nat xn 128 hxl (by omega)).trans hy
      clear hy
      go_wp2
      go_region
      go_wp2
      go_ret
      exact ⟨p, hp, _, rfl, HH.out.1.later (below_drew (Below.refl _ _)), below_drew HH.out.2⟩
end Go.Proofs.Ytodleeipefnadab
