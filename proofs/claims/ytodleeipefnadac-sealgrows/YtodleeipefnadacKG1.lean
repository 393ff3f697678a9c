import Derived.Test.YtodleeipefnadacKR7
import Derived.Test.YtodleeipefnadacKOpenS
import Derived.Deep.RegionHeld3
namespace Go.Proofs.Ytodleeipefnadac
open Go.RowKit

/-- Two sectors, and a number that is not above what they tell. -/
def TwoIn (wr : World) (l r q : Value) : Prop := ∃ b1 o1 c1 L b2 o2 c2 R z, l = .slice (some ⟨b1, o1, none⟩) 512 c1 ∧ r = .slice (some ⟨b2, o2, none⟩) 512 c2 ∧ q = .int .i64 z ∧ Src wr (some ⟨b1, o1, none⟩) 512 L ∧ Src wr (some ⟨b2, o2, none⟩) 512 R ∧ Bytes L ∧ Bytes R ∧ z ≤ (((snewest L R).2.1 : Nat) : Int)

/-- What renews tells, in one form. -/
def RenewsU (w : World) (l r : List Int) (e : Ending) (w' : World) : Prop := ∃ (sl : Nat) (p : Option Addr) (n c : Nat) (pm : Option Addr) (nm cm : Nat), e = .returned (.tuple #[.bool true, .int .i64 (sl : Int), .slice p n c, .slice pm nm cm]) ∧ Below w.heap.size w w' ∧
  (n = 0 ∨ (n = 512 ∧ nm = 512 ∧ sl ≤ 1 ∧ ∃ b o b' o' R M, p = some ⟨b, o, none⟩ ∧ pm = some ⟨b', o', none⟩ ∧ Src w' (some ⟨b, o, none⟩) 512 R ∧ Bytes R ∧ Src w' (some ⟨b', o', none⟩) 512 M ∧ Bytes M ∧ (snewest l r).2.1 ≤ (snewest (sput l r sl R).1 (sput l r sl R).2).2.1 ∧ (snewest l r).2.1 ≤ (snewest (sput l r sl M).1 (sput l r sl M).2).2.1))

theorem Src.spotAt {w : World} {p : Option Addr} {n : Nat} {l : List Int} (h : Src w p n l) (hn : 0 < n) : ∃ b o, p = some ⟨b, o, none⟩ := by
  cases p with
  | none => have := h.2.1 rfl; omega
  | some x =>
    obtain ⟨b, o, s⟩ := x
    have h0 := h.2.2 _ rfl 0 hn
    have hspot : s = none := by simpa [Addr.add] using World.cell?_spot h0
    subst hspot
    exact ⟨b, o, rfl⟩

theorem RenewsAny.u {w w' : World} {l r dt : List Int} {e : Ending} (h : RenewsAny w l r dt e w') : RenewsU w l r e w' := by
  rcases h with ⟨rfl, hb⟩ | ⟨slot, N, R, h1, h2, h3, h4, h5, p, c, g, cm, M, rfl, hs, hm, hM, ho, hb⟩
  · exact ⟨0, none, 0, 0, none, 0, 0, rfl, hb, .inl rfl⟩
  · obtain ⟨b, o, rfl⟩ := hs.spotAt (by omega)
    refine ⟨slot, _, 512, c, _, 512, cm, rfl, hb, .inr ⟨rfl, rfl, h1, b, o, g, 0, R, M, rfl, rfl, hs, h3, hm, hM, ?_, ?_⟩⟩
    · rw [h5]; exact Nat.le_of_lt h2
    · rcases ho with ho | ho
      · rw [ho]; exact Nat.le_of_lt h2
      · rw [ho]; exact Nat.le_refl _

set_option maxRecDepth 20000 in
set_option maxHeartbeats 8000000 in
theorem sealGrows_any (a2 : Option Addr) (m d : Nat) (w : World) (ht : Steps w w.heap.size a2 m) (hm : 48 * m ≤ 140737488355328) :
    Calls Try.prog 4 #[.slice a2 m d] w fun e w' => e = .returned (.bool true) ∧ Below w.heap.size w w' := by
  have hs0 : ∀ w' : World, Src w' none 0 [] := fun w' => ⟨rfl, fun _ => rfl, fun x hx => by cases hx⟩
  have h1 := lsector_any none 0 0 [] w (by omega) (hs0 w)
  have HT := Hid.mk ht
  have H0 := Hid.mk hs0
  clear ht hs0
  go_enter Try.func4, Try.ntmps4
  go_wp2_with fail
  refine h1.mono ?_
  rintro e w1 ⟨v1, rfl, ho1, hb1⟩
  obtain ⟨g1, c1, rfl, _, hr1⟩ := ho1.full (by rw [sec_len]; omega)
  have hs1 := hr1.src
  rw [sec_len] at hs1 ⊢
  have HB1 := Hid.mk hb1
  have HS1 := Hid.mk hs1
  have h2 := lsector_any none 0 0 [] w1 (by omega) (H0.out w1)
  clear h1 ho1 hb1 hr1 hs1
  go_wp2_with fail
  refine h2.mono ?_
  rintro e w2 ⟨v2, rfl, ho2, hb2⟩
  obtain ⟨g2, c2, rfl, _, hr2⟩ := ho2.full (by rw [sec_len]; omega)
  have hs2 := hr2.src
  rw [sec_len] at hs2 ⊢
  have HB2 := Hid.mk (HB1.out.trans (hb2.mono HB1.out.size))
  have HS2 := Hid.mk (And.intro (HS1.out.later hb2) hs2)
  have h3 := first_any w2
  clear h2 ho2 hb2 hr2 hs2 HB1 HS1
  go_wp2_with fail
  refine h3.mono ?_
  rintro e w3 ⟨rfl, hb3⟩
  have HB3 := Hid.mk (HB2.out.trans (hb3.mono HB2.out.size))
  have HS3 := Hid.mk (And.intro (HS2.out.1.later hb3) (HS2.out.2.later hb3))
  clear h3 hb3 HB2 HS2
  go_wp2
  go_loopw [3, 4, 5, 6] (fun l r q i wr => ∃ k : Nat, k ≤ m ∧ i = .int .i64 k ∧ TwoIn wr l r q ∧ Below w.heap.size w wr) (fun _ _ _ i _ => m - (intOf i).toNat)
  case atStart => exact ⟨0, Nat.zero_le _, rfl, ⟨g1, 0, c1, sec [], g2, 0, c2, sec [], 0, rfl, rfl, rfl, HS3.out.1, HS3.out.2, sec_bytes (fun x hx => by cases hx), sec_bytes (fun x hx => by cases hx), by omega⟩, HB3.out⟩
  case round =>
    clear HS3 HB3 H0
    obtain ⟨k, hk, rfl, ⟨b1, o1, c1, L, b2, o2, c2, R, z, rfl, rfl, rfl, hsL, hsR, hL, hR, hz⟩, hbr⟩ := hrel
    have HB := Hid.mk hbr
    have Hg := Hid.mk hz
    by_cases hlt : k < m
    · have hlt' : (k : Int) < (m : Int) := by omega
      have hk0 : (0 : Int) ≤ (k : Int) := by omega
      obtain ⟨x2, rfl⟩ : ∃ x, a2 = some x := by
        cases a2 with
        | none => have := HT.out.1 rfl; omega
        | some x => exact ⟨x, rfl⟩
      obtain ⟨b, o, rfl, hbB, nb, ct, a', n', c', dt, t1, t2, f0, f1, f2, f3, f4, hnb, hsl, hl, hold, hn'⟩ := (HT.out.far HB.out).2 _ rfl k hlt
      have htl : (dt.take 496).length ≤ 496 := by rw [List.length_take]; omega
      have P0 := Hid.mk (below_drew (Below.refl wr.heap.size wr))
      have HC := Hid.mk (fun (w' : World) (hb : Below wr.heap.size wr w') => And.intro (cell_later hb f0) (And.intro (cell_later hb f1) (And.intro (cell_later hb f2) (cell_later hb f4))))
      have HC3 := Hid.mk (fun (w' : World) (hb : Below wr.heap.size wr w') => cell_later hb f3)
      have HU : Hid (∀ (w' : World), Below wr.heap.size wr w' → Calls Try.prog 11 #[.slice a' n' c', .int .i64 496] w' fun e w'' => ∃ p c, e = .returned (.slice p (dt.take 496).length c) ∧ Src w'' p (dt.take 496).length (dt.take 496) ∧ Below wr.heap.size wr w'') :=
        fun w' hb => (upTo_any a' n' c' 496 dt w' (by omega) (hsl.later hb) hn').mono (by
          rintro e w'' ⟨v, rfl, ho, hb'⟩
          obtain ⟨p, c, rfl, hs, _, _⟩ := ho.src
          exact ⟨p, c, rfl, hs, hb.trans (hb'.mono hb.size)⟩)
      have HN : Hid (∀ (w' : World) (p : Option Addr) (c q : Nat), Below wr.heap.size wr w' → Src w' p (dt.take 496).length (dt.take 496) → q ≤ 512 → Calls Try.prog 16 #[.slice (some ⟨b1, o1, none⟩) 512 c1, .slice (some ⟨b2, o2, none⟩) 512 c2, .int .i64 nb, .slice p (dt.take 496).length c, .int .i64 (q : Int), .bool t2] w' (RenewsU w' L R)) :=
        fun w' p c q hb hs hq => (renews_any b1 o1 c1 L b2 o2 c2 R p c (dt.take 496) nb q t2 w' (hsL.later hb) (hsR.later hb) hs hL hR (hl.take _) htl hnb.2 hq).mono (fun _ _ h => h.u)
      have HSL := Hid.mk (fun (w' : World) (hb : Below wr.heap.size wr w') => And.intro (hsL.later hb) (hsR.later hb))
      generalize (dt.take 496).length = K at HU HN
      generalize dt.take 496 = DT at HU HN
      clear hsL hsR f0 f1 f2 f3 f4 hsl hl hold hnb hz hbr htl hbB
      go_wp2
      go_region_held3 (fun w' => w'.cell? ⟨b, o + k * 5, none⟩ = some (.int .i64 nb) ∧ w'.cell? ⟨b, o + k * 5 + 1, none⟩ = some (.int .i64 ct) ∧ w'.cell? ⟨b, o + k * 5 + 2, none⟩ = some (.slice a' n' c') ∧ w'.cell? ⟨b, o + k * 5 + 4, none⟩ = some (.bool t2))
        (first | exact HC.out _ HX4.out | exact HC.out _ HX3.out | exact HC.out _ P0.out)
        (first
          | (go_at_call 11; refine (HU.out _ P0.out).mono ?_; rintro e w3 ⟨p3, d3, rfl, hs3, hb3⟩; have HX3 := Hid.mk hb3; have HD3 := Hid.mk hs3; clear hb3 hs3)
          | (go_at_call 12; refine (cutOf_any _ _).mono ?_; rintro e w' ⟨q, hq, rfl, hw⟩; have hw' := hw.symm; subst hw'; clear hw)
          | (go_at_call 16; refine (HN.out _ _ _ _ HX3.out HD3.out hq).mono ?_; rintro e w4 ⟨sl, p, n, c, pm, nm, cm, rfl, hb4, hU⟩; have HX4 := Hid.mk (HX3.out.trans (hb4.mono HX3.out.size)); have HY := Hid.mk hU; clear hb4 hU))
      have c3 := HC3.out _ HX4.out
      have HB4 := Hid.mk (HB.out.trans (HX4.out.mono HB.out.size))
      have hq1 := (HSL.out _ HX4.out).1
      have hq2 := (HSL.out _ HX4.out).2
      rcases HY.out with h0 | ⟨h0, h0', hs1, b3, o3, b4, o4, RR, M, hp, hpm, hr3, hRR, hr4, hM, hg3, hg4⟩
      · subst h0
        clear HX3 HX4 HD3 HU HN HC HC3 HSL P0 HY
        have t9 := ask_any (some ⟨b1, o1, none⟩) 512 c1 L (some ⟨b2, o2, none⟩) 512 c2 R w4 hq1 hq2 hL hR (by omega) (by omega)
        have hno := snewest_none (hq1).1 (hq2).1
        have HS1 := Hid.mk hq1
        have HS2 := Hid.mk hq2
        have hgr : z ≤ (((snewest L R).2.1 : Nat) : Int) := Hg.out
        have HTx := Hid.mk (Eq.refl (snewest L R))
        generalize hT : snewest L R = T at t9 hno hgr
        have HTT := Hid.mk hT
        clear hT
        obtain ⟨A, B, D, E⟩ := T
        dsimp only at t9 hno hgr
        clear Hg 
        go_wp2_with fail
        refine t9.mono ?_
        rintro e w9 ⟨wp, wc, rfl, hsw, hb9, _⟩
        generalize D.length = WD at *
        have hb10 : Below w9.heap.size w9 (w9.alloc (.cells #[.int .i64 (A : Int), .int .i64 (B : Int), .slice wp WD wc, .int .i64 (E : Int)] 42)) := (Below.refl _ w9).alloc (Nat.le_refl _) _
        have hb11 := hb9.trans (hb10.mono hb9.size)
        have HB11 := Hid.mk (HB4.out.trans (hb11.mono HB4.out.size))
        have HS1' := Hid.mk (HS1.out.later hb11)
        have HS2' := Hid.mk (HS2.out.later hb11)
        clear t9 hsw hb9 hb10 hb11 HS1 HS2 HB4
        have hlt : ¬ ((B : Int) < z) := by omega
        by_cases hz0 : 0 < z
        · have hE : E = 0 := by omega
          subst hE
          go_wp2
          go_roundw
          case rel => exact ⟨k + 1, by omega, by go_num, ⟨b1, o1, c1, L, b2, o2, c2, R, _, rfl, rfl, rfl, HS1'.out, HS2'.out, hL, hR, by rw [HTT.out]; exact Int.le_refl _⟩, HB11.out⟩
          case measure => simp [intOf]; omega
        · go_wp2
          go_roundw
          case rel => exact ⟨k + 1, by omega, by go_num, ⟨b1, o1, c1, L, b2, o2, c2, R, _, rfl, rfl, rfl, HS1'.out, HS2'.out, hL, hR, by rw [HTT.out]; exact Int.le_refl _⟩, HB11.out⟩
          case measure => simp [intOf]; omega
      · subst h0 h0' hp hpm
        clear HX3 HX4 HD3 HU HN HC HC3 HSL P0 HY
        obtain rfl | rfl : sl = 0 ∨ sl = 1 := by omega
        · cases t1
          · have t8 := lpair0 (.slice (some ⟨b1, o1, none⟩) 512 c1) (.slice (some ⟨b2, o2, none⟩) 512 c2) (.slice (some ⟨b3, o3, none⟩) 512 c) w4
            go_wp2_with fail
            refine t8.mono ?_
            rintro e w' ⟨rfl, hw⟩
            have hw' := hw.symm
            subst hw'
            clear hw t8
            have t9 := ask_any (some ⟨b3, o3, none⟩) 512 c RR (some ⟨b2, o2, none⟩) 512 c2 R w4 hr3 hq2 hRR hR (by omega) (by omega)
            have hno := snewest_none (hr3).1 (hq2).1
            have HS1 := Hid.mk hr3
            have HS2 := Hid.mk hq2
            have hgr : z ≤ (((snewest RR R).2.1 : Nat) : Int) := (Int.le_trans Hg.out (Int.ofNat_le.2 (show _ from hg3)))
            have HTx := Hid.mk (Eq.refl (snewest RR R))
            generalize hT : snewest RR R = T at t9 hno hgr
            have HTT := Hid.mk hT
            clear hT
            obtain ⟨A, B, D, E⟩ := T
            dsimp only at t9 hno hgr
            clear Hg hg3 hg4
            go_wp2_with fail
            refine t9.mono ?_
            rintro e w9 ⟨wp, wc, rfl, hsw, hb9, _⟩
            generalize D.length = WD at *
            have hb10 : Below w9.heap.size w9 (w9.alloc (.cells #[.int .i64 (A : Int), .int .i64 (B : Int), .slice wp WD wc, .int .i64 (E : Int)] 42)) := (Below.refl _ w9).alloc (Nat.le_refl _) _
            have hb11 := hb9.trans (hb10.mono hb9.size)
            have HB11 := Hid.mk (HB4.out.trans (hb11.mono HB4.out.size))
            have HS1' := Hid.mk (HS1.out.later hb11)
            have HS2' := Hid.mk (HS2.out.later hb11)
            clear t9 hsw hb9 hb10 hb11 HS1 HS2 HB4
            have hlt : ¬ ((B : Int) < z) := by omega
            by_cases hz0 : 0 < z
            · have hE : E = 0 := by omega
              subst hE
              go_wp2
              go_roundw
              case rel => exact ⟨k + 1, by omega, by go_num, ⟨b3, o3, c, RR, b2, o2, c2, R, _, rfl, rfl, rfl, HS1'.out, HS2'.out, hRR, hR, by rw [HTT.out]; exact Int.le_refl _⟩, HB11.out⟩
              case measure => simp [intOf]; omega
            · go_wp2
              go_roundw
              case rel => exact ⟨k + 1, by omega, by go_num, ⟨b3, o3, c, RR, b2, o2, c2, R, _, rfl, rfl, rfl, HS1'.out, HS2'.out, hRR, hR, by rw [HTT.out]; exact Int.le_refl _⟩, HB11.out⟩
              case measure => simp [intOf]; omega
          · have t8 := lpair0 (.slice (some ⟨b1, o1, none⟩) 512 c1) (.slice (some ⟨b2, o2, none⟩) 512 c2) (.slice (some ⟨b4, o4, none⟩) 512 cm) w4
            go_wp2_with fail
            refine t8.mono ?_
            rintro e w' ⟨rfl, hw⟩
            have hw' := hw.symm
            subst hw'
            clear hw t8
            have t9 := ask_any (some ⟨b4, o4, none⟩) 512 cm M (some ⟨b2, o2, none⟩) 512 c2 R w4 hr4 hq2 hM hR (by omega) (by omega)
            have hno := snewest_none (hr4).1 (hq2).1
            have HS1 := Hid.mk hr4
            have HS2 := Hid.mk hq2
            have hgr : z ≤ (((snewest M R).2.1 : Nat) : Int) := (Int.le_trans Hg.out (Int.ofNat_le.2 (show _ from hg4)))
            have HTx := Hid.mk (Eq.refl (snewest M R))
            generalize hT : snewest M R = T at t9 hno hgr
            have HTT := Hid.mk hT
            clear hT
            obtain ⟨A, B, D, E⟩ := T
            dsimp only at t9 hno hgr
            clear Hg hg3 hg4
            go_wp2_with fail
            refine t9.mono ?_
            rintro e w9 ⟨wp, wc, rfl, hsw, hb9, _⟩
            generalize D.length = WD at *
            have hb10 : Below w9.heap.size w9 (w9.alloc (.cells #[.int .i64 (A : Int), .int .i64 (B : Int), .slice wp WD wc, .int .i64 (E : Int)] 42)) := (Below.refl _ w9).alloc (Nat.le_refl _) _
            have hb11 := hb9.trans (hb10.mono hb9.size)
            have HB11 := Hid.mk (HB4.out.trans (hb11.mono HB4.out.size))
            have HS1' := Hid.mk (HS1.out.later hb11)
            have HS2' := Hid.mk (HS2.out.later hb11)
            clear t9 hsw hb9 hb10 hb11 HS1 HS2 HB4
            have hlt : ¬ ((B : Int) < z) := by omega
            by_cases hz0 : 0 < z
            · have hE : E = 0 := by omega
              subst hE
              go_wp2
              go_roundw
              case rel => exact ⟨k + 1, by omega, by go_num, ⟨b4, o4, cm, M, b2, o2, c2, R, _, rfl, rfl, rfl, HS1'.out, HS2'.out, hM, hR, by rw [HTT.out]; exact Int.le_refl _⟩, HB11.out⟩
              case measure => simp [intOf]; omega
            · go_wp2
              go_roundw
              case rel => exact ⟨k + 1, by omega, by go_num, ⟨b4, o4, cm, M, b2, o2, c2, R, _, rfl, rfl, rfl, HS1'.out, HS2'.out, hM, hR, by rw [HTT.out]; exact Int.le_refl _⟩, HB11.out⟩
              case measure => simp [intOf]; omega
        · cases t1
          · have t8 := lpair1 (.slice (some ⟨b1, o1, none⟩) 512 c1) (.slice (some ⟨b2, o2, none⟩) 512 c2) (.slice (some ⟨b3, o3, none⟩) 512 c) w4
            go_wp2_with fail
            refine t8.mono ?_
            rintro e w' ⟨rfl, hw⟩
            have hw' := hw.symm
            subst hw'
            clear hw t8
            have t9 := ask_any (some ⟨b1, o1, none⟩) 512 c1 L (some ⟨b3, o3, none⟩) 512 c RR w4 hq1 hr3 hL hRR (by omega) (by omega)
            have hno := snewest_none (hq1).1 (hr3).1
            have HS1 := Hid.mk hq1
            have HS2 := Hid.mk hr3
            have hgr : z ≤ (((snewest L RR).2.1 : Nat) : Int) := (Int.le_trans Hg.out (Int.ofNat_le.2 (show _ from hg3)))
            have HTx := Hid.mk (Eq.refl (snewest L RR))
            generalize hT : snewest L RR = T at t9 hno hgr
            have HTT := Hid.mk hT
            clear hT
            obtain ⟨A, B, D, E⟩ := T
            dsimp only at t9 hno hgr
            clear Hg hg3 hg4
            go_wp2_with fail
            refine t9.mono ?_
            rintro e w9 ⟨wp, wc, rfl, hsw, hb9, _⟩
            generalize D.length = WD at *
            have hb10 : Below w9.heap.size w9 (w9.alloc (.cells #[.int .i64 (A : Int), .int .i64 (B : Int), .slice wp WD wc, .int .i64 (E : Int)] 42)) := (Below.refl _ w9).alloc (Nat.le_refl _) _
            have hb11 := hb9.trans (hb10.mono hb9.size)
            have HB11 := Hid.mk (HB4.out.trans (hb11.mono HB4.out.size))
            have HS1' := Hid.mk (HS1.out.later hb11)
            have HS2' := Hid.mk (HS2.out.later hb11)
            clear t9 hsw hb9 hb10 hb11 HS1 HS2 HB4
            have hlt : ¬ ((B : Int) < z) := by omega
            by_cases hz0 : 0 < z
            · have hE : E = 0 := by omega
              subst hE
              go_wp2
              go_roundw
              case rel => exact ⟨k + 1, by omega, by go_num, ⟨b1, o1, c1, L, b3, o3, c, RR, _, rfl, rfl, rfl, HS1'.out, HS2'.out, hL, hRR, by rw [HTT.out]; exact Int.le_refl _⟩, HB11.out⟩
              case measure => simp [intOf]; omega
            · go_wp2
              go_roundw
              case rel => exact ⟨k + 1, by omega, by go_num, ⟨b1, o1, c1, L, b3, o3, c, RR, _, rfl, rfl, rfl, HS1'.out, HS2'.out, hL, hRR, by rw [HTT.out]; exact Int.le_refl _⟩, HB11.out⟩
              case measure => simp [intOf]; omega
          · have t8 := lpair1 (.slice (some ⟨b1, o1, none⟩) 512 c1) (.slice (some ⟨b2, o2, none⟩) 512 c2) (.slice (some ⟨b4, o4, none⟩) 512 cm) w4
            go_wp2_with fail
            refine t8.mono ?_
            rintro e w' ⟨rfl, hw⟩
            have hw' := hw.symm
            subst hw'
            clear hw t8
            have t9 := ask_any (some ⟨b1, o1, none⟩) 512 c1 L (some ⟨b4, o4, none⟩) 512 cm M w4 hq1 hr4 hL hM (by omega) (by omega)
            have hno := snewest_none (hq1).1 (hr4).1
            have HS1 := Hid.mk hq1
            have HS2 := Hid.mk hr4
            have hgr : z ≤ (((snewest L M).2.1 : Nat) : Int) := (Int.le_trans Hg.out (Int.ofNat_le.2 (show _ from hg4)))
            have HTx := Hid.mk (Eq.refl (snewest L M))
            generalize hT : snewest L M = T at t9 hno hgr
            have HTT := Hid.mk hT
            clear hT
            obtain ⟨A, B, D, E⟩ := T
            dsimp only at t9 hno hgr
            clear Hg hg3 hg4
            go_wp2_with fail
            refine t9.mono ?_
            rintro e w9 ⟨wp, wc, rfl, hsw, hb9, _⟩
            generalize D.length = WD at *
            have hb10 : Below w9.heap.size w9 (w9.alloc (.cells #[.int .i64 (A : Int), .int .i64 (B : Int), .slice wp WD wc, .int .i64 (E : Int)] 42)) := (Below.refl _ w9).alloc (Nat.le_refl _) _
            have hb11 := hb9.trans (hb10.mono hb9.size)
            have HB11 := Hid.mk (HB4.out.trans (hb11.mono HB4.out.size))
            have HS1' := Hid.mk (HS1.out.later hb11)
            have HS2' := Hid.mk (HS2.out.later hb11)
            clear t9 hsw hb9 hb10 hb11 HS1 HS2 HB4
            have hlt : ¬ ((B : Int) < z) := by omega
            by_cases hz0 : 0 < z
            · have hE : E = 0 := by omega
              subst hE
              go_wp2
              go_roundw
              case rel => exact ⟨k + 1, by omega, by go_num, ⟨b1, o1, c1, L, b4, o4, cm, M, _, rfl, rfl, rfl, HS1'.out, HS2'.out, hL, hM, by rw [HTT.out]; exact Int.le_refl _⟩, HB11.out⟩
              case measure => simp [intOf]; omega
            · go_wp2
              go_roundw
              case rel => exact ⟨k + 1, by omega, by go_num, ⟨b1, o1, c1, L, b4, o4, cm, M, _, rfl, rfl, rfl, HS1'.out, HS2'.out, hL, hM, by rw [HTT.out]; exact Int.le_refl _⟩, HB11.out⟩
              case measure => simp [intOf]; omega
    · have hlt' : ¬ (k : Int) < (m : Int) := by omega
      go_wp2
      go_ret
      exact ⟨rfl, HB.out⟩
end Go.Proofs.Ytodleeipefnadac
