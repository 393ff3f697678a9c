import Derived.Test.YtplpkppkaahchaaW18
import Derived.Deep.DeepCutAuto
section
namespace Go.Proofs.Ytplpkppkaahchaa
open Go.RowKit

theorem RecsAt.keepF {w w' : World} {B : Nat} {v : Value} {rs : List (List Int)} {X F : Nat → Prop} (h : RecsAt w B v rs X) (hk : Keeps F w w') (hF : ∀ k, F k → k < B) : RecsAt w' B v rs X := by
  obtain ⟨vs, h1, h2⟩ := h
  refine ⟨vs, owns_agree h1 (fun g hg => ?_), fun i hi => ?_⟩
  · obtain ⟨cur, hc⟩ := owns_block h1 hg
    exact hk.block g (lt_there hc) (fun hf => by have := own_lo h1 hg; have := hF _ hf; omega)
  · obtain ⟨g, c, e, hr, hb, hx⟩ := h2 i hi
    exact ⟨g, c, e, hr.agree (hk.block g hr.lt (fun hf => by have := hF _ hf; omega)), hb, hx⟩
theorem RecsAt.laterB {w w' : World} {B : Nat} {v : Value} {rs : List (List Int)} {X : Nat → Prop} (h : RecsAt w B v rs X) (hb : Below w.heap.size w w') : RecsAt w' B v rs X := h.keepF (Keeps.of_below (fun _ => False) hb) (fun _ h => h.elim)

/-- What Open answers, in one form. -/
def WOut (w' : World) (B s : Nat) (S : DS) (f n : Int) (lo ta : Option Addr) (tc : Nat) (rs : List (List Int)) : Prop :=
  RecsAt w' B (.slice ta rs.length tc) rs (fun _ => False) ∧ ((lopen S s f n).1 ≠ 0 → lo = none ∧ rs = []) ∧ ((lopen S s f n).1 = 0 → (∃ l, lo = some ⟨l, 0, none⟩) ∧ ∃ hd, Tells (Rp (oRing S f.toNat) n.toNat) (oNew S f.toNat).1 (oNew S f.toNat).2.1 rs hd ∧ ∀ c d, ¬ Rec (Rp (oRing S f.toNat) n.toNat) (oNew S f.toNat).1 hd c d)
theorem opened_form {w w' : World} {p s : Nat} {S : DS} {f n : Int} {e : Ending} (h : Opened w w' p s S f n e) : ∃ lo ta tc rs, e = .returned (.tuple #[.pointer lo, .slice ta rs.length tc, .int .i64 (lopen S s f n).1]) ∧ WOut w' w.heap.size s S f n lo ta tc rs := by
  unfold Opened at h
  by_cases k : (lopen S s f n).1 = 0
  · rw [if_neg (fun c => c k)] at h
    obtain ⟨l, v, rs, hd, e1, _, e3⟩ := h
    obtain ⟨a, c, hv, _⟩ := e3.r.form
    have h3 := e3.r
    rw [hv] at h3 e1
    exact ⟨_, a, c, rs, by rw [k]; exact e1, h3, fun h => absurd k h, fun _ => ⟨⟨l, rfl⟩, hd, e3.t, e3.x⟩⟩
  · rw [if_pos k] at h
    exact ⟨none, none, 0, [], h, RecsAt.nil _ _ _, fun _ => ⟨rfl, rfl⟩, fun h => absurd h k⟩
theorem lrefuse_right {S : DS} {s : Nat} {f n : Int} (hf : S.fuse = -1) : (lrefuse S s f n = 0 ↔ (0 ≤ f ∧ 18 ≤ n ∧ n ≤ 256 ∧ f < (s : Int) ∧ f + 2 + n ≤ (s : Int))) ∧ (lrefuse S s f n = 0 ∨ lrefuse S s f n = 11 ∨ lrefuse S s f n = 1) := by
  unfold lrefuse
  rw [if_neg (by omega)]
  split
  · exact ⟨⟨fun h => by omega, fun h => by omega⟩, .inr (.inl rfl)⟩
  · split
    · exact ⟨⟨fun h => by omega, fun h => by omega⟩, .inr (.inr rfl)⟩
    · split
      · exact ⟨⟨fun h => by omega, fun h => by omega⟩, .inr (.inl rfl)⟩
      · exact ⟨⟨fun _ => by omega, fun _ => rfl⟩, .inl rfl⟩
theorem Quiet.byt {S S' : DS} {s : Nat} (h : Quiet S S' s) (hb : S.Byt) : S'.Byt := ⟨by rw [h.im]; exact hb.1, fun q hq => by rw [h.pu] at hq; cases hq⟩
theorem PSrc.nil (w : World) : PSrc w none 0 [] := ⟨rfl, fun _ => rfl, (fun x hx => by cases hx), fun q hq => by cases hq⟩

set_option maxRecDepth 20000 in
set_option maxHeartbeats 1000000 in
theorem wany_bad (a : Option Addr) (n c : Nat) (l : List Int) (x y : Int) (w : World) (hn : n ≤ 140737488355328) (hs : Src w a n l) (h : n % 512 ≠ 0) :
    Calls Try.prog 4 #[.slice a n c, .int .i64 x, .int .i64 y] w fun e w' => e = .returned (.bool true) ∧ Below w.heap.size w w' := by
  have h' : (((n : Int) % 512) != 0) = true := by rw [bne_iff_ne]; omega
  have ht := twin_any a n c l w hn hs
  clear hs
  go_enter Try.func4, Try.ntmps4
  go_wp2_with fail
  refine ht.mono ?_
  rintro e w1 ⟨g, rfl, _, _, hb⟩
  have hl := load_bad (some ⟨g, 0, none⟩) n n w1 h hn
  go_wp2_with fail
  refine hl.mono ?_
  rintro e w2 ⟨rfl, rfl⟩
  go_wp2
  go_ret
  exact ⟨rfl, hb⟩
set_option maxRecDepth 20000 in
set_option maxHeartbeats 1000000 in
theorem wany_no (a : Option Addr) (n c : Nat) (l : List Int) (x y : Int) (w : World) (hn : n ≤ 140737488355328) (hs : Src w a n l) (h : n % 512 = 0) (h0 : n = 0 ∨ 1048576 < n) :
    Calls Try.prog 4 #[.slice a n c, .int .i64 x, .int .i64 y] w fun e w' => e = .returned (.bool true) ∧ Below w.heap.size w w' := by
  have h' : (((n : Int) % 512) != 0) = false := by rw [Bool.eq_false_iff, ne_eq, bne_iff_ne]; omega
  rcases h0 with h0 | h0
  · subst h0
    have ht := twin_any a 0 c l w hn hs
    clear hs h'
    go_enter Try.func4, Try.ntmps4
    go_wp2_with fail
    refine ht.mono ?_
    rintro e w1 ⟨g, rfl, _, _, hb⟩
    have hl := load_no (some ⟨g, 0, none⟩) 0 0 w1 rfl (.inl rfl) (by omega)
    go_wp2_with fail
    refine hl.mono ?_
    rintro e w2 ⟨rfl, rfl⟩
    go_wp2
    go_ret
    exact ⟨rfl, hb⟩
  · have h0' : ((n : Int) == 0) = false := by rw [Bool.eq_false_iff, ne_eq, beq_iff_eq]; omega
    have h1' : (1048576 : Int) < (n : Int) := by omega
    have ht := twin_any a n c l w hn hs
    clear hs
    go_enter Try.func4, Try.ntmps4
    go_wp2_with fail
    refine ht.mono ?_
    rintro e w1 ⟨g, rfl, _, _, hb⟩
    have hl := load_no (some ⟨g, 0, none⟩) n n w1 h (.inr h0) hn
    go_wp2_with fail
    refine hl.mono ?_
    rintro e w2 ⟨rfl, rfl⟩
    go_wp2
    go_ret
    exact ⟨rfl, hb⟩
end Go.Proofs.Ytplpkppkaahchaa
end

section
namespace Go.Proofs.Ytplpkppkaahchaa
open Go.RowKit

set_option maxRecDepth 20000 in
set_option maxHeartbeats 16000000 in
theorem wany_ok (a : Option Addr) (n c s : Nat) (l : List Int) (x y : Int) (w : World) (hn : n = s * 512) (h1 : 1 ≤ s) (h2 : s ≤ 2048) (hs : Src w a n l) (hbl : Bytes l) :
    Calls Try.prog 4 #[.slice a n c, .int .i64 x, .int .i64 y] w fun e w' => e = .returned (.bool true) ∧ Below w.heap.size w w' := by
  have h' : (((n : Int) % 512) != 0) = false := by rw [Bool.eq_false_iff, ne_eq, bne_iff_ne]; omega
  have h0' : ((n : Int) == 0) = false := by rw [Bool.eq_false_iff, ne_eq, beq_iff_eq]; omega
  have h1' : ¬ (1048576 : Int) < (n : Int) := by omega
  have hn47 : n ≤ 140737488355328 := by omega
  have ht := twin_any a n c l w hn47 hs
  have hll := hs.1
  have HS := Hid.mk hs
  have HN := Hid.mk hn
  clear hs hn
  go_enter Try.func4, Try.ntmps4
  go_wp2_with fail
  refine ht.mono ?_
  rintro e w1 ⟨g, rfl, hg, hr, hb1⟩
  have hl := load_ok ⟨g, 0, none⟩ n n s l w1 HN.out h1 h2 hll (fun i hi => hr.byte (by omega))
  clear hr ht hg
  go_wp2_with fail
  refine hl.mono ?_
  rintro e w2 ⟨p, rfl, hd, hb2⟩
  have hb : Below w.heap.size w w2 := hb1.trans (hb2.mono hb1.size)
  have hz1 := hb1.size
  obtain ⟨F, hd, hFl⟩ : ∃ F, DiskAt w2 F p s (DS.fresh l) ∧ ∀ k, F k → w.heap.size ≤ k := ⟨_, hd, fun k h => by omega⟩
  have hdB : B.DiskR w2 F p s (DS.fresh l) 0 := ⟨0, hd, fun _ => ⟨Int.le_refl _, Int.le_refl _⟩⟩
  have hS0 : (DS.fresh l).puts = [] ∧ (DS.fresh l).fuse = -1 ∧ (DS.fresh l).life = 1 ∧ (DS.fresh l).writes = 0 ∧ (DS.fresh l).flushes = 0 ∧ (DS.fresh l).refused = 0 ∧ (DS.fresh l).im = l ∧ (DS.fresh l).Byt := ⟨rfl, rfl, rfl, rfl, rfl, rfl, rfl, hbl, fun q hq => by cases hq⟩
  generalize DS.fresh l = S at *
  obtain ⟨hp, hf, hlf, hwr, hfs, hrf, him, hby⟩ := hS0
  have hok := hdB.ok
  have HLt := Hid.mk hdB.lt
  have HFl := Hid.mk hFl
  have HB2 := Hid.mk hb
  have hop := B.Open_any hdB hby x y (by rw [hp]; simp)
  obtain ⟨hrr, hrc⟩ := lrefuse_right (S := S) (s := s) (f := x) (n := y) hf
  have hq1 : Quiet S (lopen S s x y).2 s := by
    by_cases k : lrefuse S s x y = 0
    · obtain ⟨_, a1, b1, rfl, rfl, hab, h18, h256⟩ := lrefuse_zero k
      exact (open_quiet hok hp hf hab h18 h256).1
    · unfold lopen
      rw [if_pos k]
      exact ⟨rfl, hp, hf, rfl, rfl⟩
  have hor : B.oRd S s x y ≤ 258 := by
    unfold B.oRd
    split
    · omega
    · rename_i k
      have := hrr.1 (Decidable.byContradiction k)
      omega
  have HP := Hid.mk (And.intro hp (And.intro hf (And.intro hok (And.intro hby him))))
  have HQ := Hid.mk hq1
  clear hl hd hb hb1 hb2 hFl hp hok hby hbl hdB him hll hq1
  go_wp2_with fail
  refine hop.mono ?_
  rintro e w3 ⟨ho, hd3, hk3⟩
  obtain ⟨lo, ta, tc, rs, rfl, hW⟩ := opened_form ho
  have hlr : (lopen S s x y).1 = 0 → rs.length ≤ 256 ∧ ∀ i (hi : i < rs.length), 1 ≤ (rs[i]).length ∧ (rs[i]).length ≤ 8364 := fun k => by
    have kr : lrefuse S s x y = 0 := Decidable.byContradiction (fun h => by unfold lopen at k; rw [if_pos h] at k; exact h k)
    obtain ⟨_, a1, b1, rfl, rfl, hab, h18, h256⟩ := lrefuse_zero kr
    obtain ⟨_, hd, ht, _⟩ := hW.2.2 k
    rw [Int.toNat_natCast, Int.toNat_natCast] at ht
    have := told_small HP.out.2.2.2.1 (by omega) h256 ht
    exact ⟨this.1, this.2.1⟩
  have hlr' : rs.length ≤ 256 ∧ ∀ i (hi : i < rs.length), 1 ≤ (rs[i]).length ∧ (rs[i]).length ≤ 8364 := by
    by_cases k : (lopen S s x y).1 = 0
    · exact hlr k
    · rw [(hW.2.1 k).2]
      exact ⟨Nat.zero_le _, fun i hi => by cases hi⟩
  have hcn := B.dcounts hd3 (by rw [HQ.out.pu]; simp) (by omega)
  rw [HQ.out.wr, HQ.out.rf, HQ.out.pu, hwr, hrf] at hcn
  have HW := Hid.mk hW
  have HRs := Hid.mk hlr'
  have HB3 : Hid (Below w.heap.size w w3) := HB2.out.trans (hk3.below HFl.out HB2.out.size)
  have HZ23 : Hid (w2.heap.size ≤ w3.heap.size) := hk3.size
  clear hop ho hd3 hk3 hW hlr hlr'
  generalize hE : (lopen S s x y).1 = E at *
  generalize hF1 : (lopen S s x y).2.flushes = F1 at *
  obtain ⟨tn, htn⟩ : ∃ tn, tn = rs.length := ⟨_, rfl⟩
  rw [← htn]
  have HTn := Hid.mk htn
  clear htn
  go_wp2_with fail
  refine hcn.mono ?_
  rintro e w4 ⟨r, rfl, hrc4, hd4, hb4⟩
  rw [show (([] : List (Nat × List Int)).length : Int) = 0 from rfl]
  obtain ⟨we, hwe⟩ : ∃ we, we = w4.alloc (.cells #[.int .i64 (r : Int), .int .i64 0, .int .i64 F1, .int .i64 0, .int .i64 0] 53) := ⟨_, rfl⟩
  have hbe : Below w4.heap.size w4 we := by rw [hwe]; exact below_box _ _
  have kc : we.heap[w4.heap.size]? = some (.cells #[.int .i64 (r : Int), .int .i64 0, .int .i64 F1, .int .i64 0, .int .i64 0] 53 (0, 0)) := by rw [hwe]; exact heap_alloc_new _ _
  obtain ⟨qb, hqb⟩ : ∃ qb, qb = w4.heap.size := ⟨_, rfl⟩
  have kc' : we.heap[qb]? = some (.cells #[.int .i64 (r : Int), .int .i64 0, .int .i64 F1, .int .i64 0, .int .i64 0] 53 (0, 0)) := by rw [hqb]; exact kc
  have n0 : we.cell? ⟨qb, 0, none⟩ = some (.int .i64 (r : Int)) := cell_of_block kc' (j := 0) rfl
  have n1 : we.cell? ⟨qb, 1, none⟩ = some (.int .i64 0) := cell_of_block kc' (j := 1) rfl
  have n2 : we.cell? ⟨qb, 2, none⟩ = some (.int .i64 F1) := cell_of_block kc' (j := 2) rfl
  have n3 : we.cell? ⟨qb, 3, none⟩ = some (.int .i64 0) := cell_of_block kc' (j := 3) rfl
  have hb3e : Below w3.heap.size w3 we := hb4.trans (hbe.mono hb4.size)
  have hde := hd4.later hbe
  have hsec := B.dsectors hde
  have hlif := B.dlife hde
  have HD := Hid.mk hde
  have HBe : Hid (Below w.heap.size w we) := HB3.out.trans (hb3e.mono HB3.out.size)
  have HR1 := Hid.mk (HW.out.1.laterB hb3e)
  have HZe : Hid (w2.heap.size ≤ we.heap.size) := Nat.le_trans HZ23.out hb3e.size
  clear hcn hb4 hd4 hbe kc kc' hde hb3e
  go_upto_region 8 with fail
  rw [← hwe]
  clear hwe
  rw [← hqb]
  clear hqb
  go_cut [13] (fun v wx => v = .bool (decide (lrefuse S s x y = 0)) ∧ wx = we)
  case first =>
    by_cases k1 : 0 ≤ x
    · by_cases k2 : 18 ≤ y
      · by_cases k3 : y ≤ 256
        · by_cases k4 : x < (s : Int)
          · by_cases k5 : x + 2 + y ≤ (s : Int)
            · have hv : decide (lrefuse S s x y = 0) = true := decide_eq_true (hrr.2 ⟨k1, k2, k3, k4, k5⟩)
              go_wp2_with (go_at_call 25; refine hsec.mono ?_; rintro e wy ⟨rfl, hwy⟩; have hwy' := hwy.symm; subst hwy'; clear hwy)
              go_meet
              case rel => exact ⟨by first | (rw [hv]; done) | (rw [hv]; simp; omega), rfl⟩
            · have hv : decide (lrefuse S s x y = 0) = false := decide_eq_false (fun h => by have := hrr.1 h; omega)
              go_wp2_with (go_at_call 25; refine hsec.mono ?_; rintro e wy ⟨rfl, hwy⟩; have hwy' := hwy.symm; subst hwy'; clear hwy)
              go_meet
              case rel => exact ⟨by first | (rw [hv]; done) | (rw [hv]; simp; omega), rfl⟩
          · have hv : decide (lrefuse S s x y = 0) = false := decide_eq_false (fun h => by have := hrr.1 h; omega)
            go_wp2_with (go_at_call 25; refine hsec.mono ?_; rintro e wy ⟨rfl, hwy⟩; have hwy' := hwy.symm; subst hwy'; clear hwy)
            go_meet
            case rel => exact ⟨by first | (rw [hv]; done) | (rw [hv]; simp; omega), rfl⟩
        · have hv : decide (lrefuse S s x y = 0) = false := decide_eq_false (fun h => by have := hrr.1 h; omega)
          go_wp2
          go_meet
          case rel => exact ⟨by first | (rw [hv]; done) | (rw [hv]; simp; omega), rfl⟩
      · have hv : decide (lrefuse S s x y = 0) = false := decide_eq_false (fun h => by have := hrr.1 h; omega)
        go_wp2
        go_meet
        case rel => exact ⟨by first | (rw [hv]; done) | (rw [hv]; simp; omega), rfl⟩
    · have hv : decide (lrefuse S s x y = 0) = false := decide_eq_false (fun h => by have := hrr.1 h; omega)
      go_wp2
      go_meet
      case rel => exact ⟨by first | (rw [hv]; done) | (rw [hv]; simp; omega), rfl⟩
  case rest =>
    obtain ⟨hsl, hwc⟩ := hcut
    subst hsl
    have hwc' := hwc.symm
    subst hwc'
    clear hwc
    by_cases kr : lrefuse S s x y = 0
    · have hv : decide (lrefuse S s x y = 0) = true := decide_eq_true kr
      rw [hv]
      clear hv hrc hrr
      obtain ⟨_, a1, b1, rfl, rfl, hab, h18, h256⟩ := lrefuse_zero kr
      obtain ⟨hq, hcode, hlife, hflush, _⟩ := open_quiet HP.out.2.2.1 HP.out.1 HP.out.2.1 hab h18 h256
      rw [hE] at hcode hflush
      rw [hF1] at hflush
      rw [hlife, hlf, show wrap64 (1 + 1) = 2 by unfold wrap64; omega] at hlif
      have hor' : B.oRd S s (a1 : Int) (b1 : Int) = b1 + 2 := by unfold B.oRd; rw [if_neg (fun h => h kr), Int.toNat_natCast]
      rw [hor'] at hrc4
      have hsm : ¬ 2 * ((b1 : Int) + 2) < (r : Int) := by omega
      have HLf := Hid.mk hlife
      clear hsec hor hor' hq hlife kr
      rw [hfs, show wrap64 (0 + 1) = 1 by unfold wrap64; omega] at hflush
      rcases hcode with hcc | hcc | hcc
      · have hfl1 : F1 = 1 := by rw [hflush, hcc]; rfl
        rw [hfl1] at n2
        obtain ⟨⟨l0, hlo⟩, hd0, ht0, hx0⟩ := HW.out.2.2 (hE.trans hcc)
        subst hlo
        rw [Int.toNat_natCast, Int.toNat_natCast] at ht0 hx0
        have HT := Hid.mk (And.intro ht0 hx0)
        clear ht0 hx0
        have hEE := hE.trans hcc
        rw [hcc]
        have HEE := Hid.mk hEE
        clear hE hF1 hflush hEE hfl1 hcc HW
        go_wp2_with (go_at_call 26; refine hlif.mono ?_; rintro e wy ⟨rfl, hwy⟩; have hwy' := hwy.symm; subst hwy'; clear hwy)
        clear n0 n1 n2 n3 hlif hsm
        have ht256 : tn ≤ 256 := by have := HRs.out.1; have := HTn.out; omega
        go_loopw [15] (fun i wx => ∃ j : Nat, j ≤ tn ∧ i = .int .i64 (j : Int) ∧ wx = we) (fun i _ => tn - (intOf i).toNat)
        case atStart => exact ⟨0, Nat.zero_le _, rfl, rfl⟩
        case round =>
          obtain ⟨j, hj, rfl, hwr⟩ := hrel
          subst hwr
          by_cases q : j < tn
          · have q' : (j : Int) < (tn : Int) := by omega
            have hj0 : (0 : Int) ≤ (j : Int) := by omega
            have hjr : j < rs.length := by have := HTn.out; omega
            obtain ⟨a9, c9, e9, f9⟩ := HR1.out.form
            obtain ⟨b8, g8, x8, y8, e8, c8, s8, _, _⟩ := f9 j hjr
            have ea : ta = a9 := by injection e9
            rw [e8] at ea
            subst ea
            have hlen := HRs.out.2 j hjr
            obtain ⟨m8, hm8⟩ : ∃ m8, m8 = (rs[j]).length := ⟨_, rfl⟩
            rw [← hm8] at c8 hlen
            have g1 : ¬ (m8 : Int) < 1 := by omega
            have g2 : ¬ (8364 : Int) < (m8 : Int) := by omega
            clear e9 f9 s8 hm8 e8
            go_wp2
            go_roundw
            case rel => exact ⟨j + 1, by omega, by go_num, by simp⟩
            case measure => simp [intOf]; omega
          · have q' : ¬ (j : Int) < (tn : Int) := by omega
            obtain ⟨wf, hwf⟩ : ∃ wf, wf = wr := ⟨_, rfl⟩
            rw [← hwf] at HD HBe HR1 HZe ⊢
            clear hwf q hj
            have hcr := B.dcrash HD.out (by rw [HQ.out.pu]; simp) none 0 0 [] (PSrc.nil _) (by omega) (fun _ h => by cases h)
            go_wp2_with fail
            refine hcr.mono ?_
            rintro e w5 ⟨rfl, hd5, hk5⟩
            have hq2 := HQ.out.trans (quiet_crash HD.out.ok HQ.out.pu [])
            have hl2 : ((lopen S s (a1 : Int) (b1 : Int)).2.crash s []).life = 3 := by
              show wrap64 ((lopen S s (a1 : Int) (b1 : Int)).2.life + 1) = 3
              rw [HLf.out, hlf]
              unfold wrap64
              omega
            have hB5 : Below w.heap.size w w5 := HBe.out.trans (hk5.below HFl.out HBe.out.size)
            have hr5 := HR1.out.keepF hk5 HLt.out
            have hz5 : w2.heap.size ≤ w5.heap.size := Nat.le_trans HZe.out hk5.size
            generalize (lopen S s (a1 : Int) (b1 : Int)).2.crash s [] = S2 at *
            have hnow := hq2.now HP.out.1
            have hop2 := B.Open_any hd5 (hq2.byt HP.out.2.2.2.1) (a1 : Int) (b1 : Int) (by rw [hq2.pu]; simp)
            have hsame := open_same (S := S) (S' := S2) (s := s) HP.out.2.1 hq2.fu h18 hnow hab h256
            rw [HEE.out] at hsame
            obtain ⟨hq3, _, hl3, _, hr3⟩ := open_quiet hd5.ok hq2.pu hq2.fu hab h18 h256
            rw [hl2, show wrap64 (3 + 1) = 4 by unfold wrap64; omega] at hl3
            have HQ3 := Hid.mk (hq2.trans hq3)
            have HN2 := Hid.mk (And.intro hnow (And.intro hsame (And.intro hl3 hr3)))
            have HB5 := Hid.mk hB5
            have HR5 := Hid.mk hr5
            have HQB := Hid.mk (hq2.byt HP.out.2.2.2.1)
            clear hcr hd5 hk5 hB5 hr5 hnow hq2 hsame hl2 hq3 hl3 hr3
            go_wp2_with fail
            refine hop2.mono ?_
            rintro e w6 ⟨ho6, hd6, hk6⟩
            obtain ⟨lo6, ta6, tc6, rs6, rfl, hW6⟩ := opened_form ho6
            rw [HN2.out.2.1]
            have hrs6 : rs6 = rs := by
              obtain ⟨_, hd7, ht7, hx7⟩ := hW6.2.2 HN2.out.2.1
              rw [Int.toNat_natCast, Int.toNat_natCast] at ht7 hx7
              have en : oNew S2 a1 = oNew S a1 := by unfold oNew; rw [HN2.out.1, HN2.out.1]
              rw [en] at ht7 hx7
              exact (told_same (fun j _ => HN2.out.1 j) (by omega) HT.out.1 HT.out.2 ht7 hx7).symm
            subst hrs6
            have hz6 : w2.heap.size ≤ w6.heap.size := Nat.le_trans hz5 hk6.size
            have HB6 : Hid (Below w.heap.size w w6) := HB5.out.trans (hk6.below HFl.out HB5.out.size)
            have HR6 := Hid.mk (And.intro (HR5.out.keepF hk6 HLt.out) hW6.1)
            have him6 := B.dimage hd6
            have himl : (lopen S2 s (a1 : Int) (b1 : Int)).2.im = l := HQ3.out.im.trans HP.out.2.2.2.2
            rw [himl] at him6
            have HD6 := Hid.mk hd6
            clear hop2 ho6 hd6 hk6 hW6 HR5 HB5 himl
            rw [← HTn.out]
            go_wp2_with fail
            refine him6.mono ?_
            rintro e w7 ⟨gi, ci, rfl, hgi, hrow, hb7⟩
            have HB7 : Hid (Below w.heap.size w w7) := HB6.out.trans (hb7.mono HB6.out.size)
            have hal := alike_any (HR6.out.1.laterB hb7) (HR6.out.2.laterB hb7) (by have := HRs.out.1; omega) (fun i hi => by have := (HRs.out.2 i hi).2; omega)
            rw [← HTn.out] at hal
            have hD7 := HD6.out.later hb7
            have hsr : Src w7 (some ⟨gi, 0, none⟩) n l := by have := hrow.src; rw [HS.out.1] at this; exact this
            have HSr := Hid.mk hsr
            have HD7 := Hid.mk hD7
            have hsn : (s * 512 : Nat) = n := HN.out.symm
            rw [hsn]
            clear him6 hgi hrow hb7 hD7 HR6 hsr hsn
            go_wp2_with fail
            refine hal.mono ?_
            rintro e w8 ⟨rfl, hb8⟩
            have HB8 : Hid (Below w.heap.size w w8) := HB7.out.trans (hb8.mono HB7.out.size)
            have hsa := same_any (some ⟨gi, 0, none⟩) a n ci c l w8 hn47 (HSr.out.later hb8) (HS.out.later HB8.out)
            have HD8 := Hid.mk (HD7.out.later hb8)
            clear hal hb8
            go_wp2_with fail
            refine hsa.mono ?_
            rintro e w9 ⟨rfl, hb9⟩
            have HB9 : Hid (Below w.heap.size w w9) := HB8.out.trans (hb9.mono HB8.out.size)
            have hD9 := HD8.out.later hb9
            have hrd : B.oRd S2 s (a1 : Int) (b1 : Int) = b1 + 2 := by unfold B.oRd; rw [if_neg (fun h => h HN2.out.2.2.2), Int.toNat_natCast]
            have hI9 : Inv (lopen S2 s (a1 : Int) (b1 : Int)).2 s [] 10 := Inv.zero hD9.ok (HQ3.out.byt HP.out.2.2.2.1) (by rw [HQ3.out.pu]; rfl) (by rw [HN2.out.2.2.1]; decide) (by rw [HN2.out.2.2.1]; decide)
            have hsp := sparing_any hD9 hI9 (by omega) HQ3.out.pu HQ3.out.fu a1 b1 hab h18 h256 (by rw [hrd]; omega)
            clear hsa hb9 hD9 hI9 hrd
            go_wp2_with fail
            refine hsp.mono ?_
            rintro e w10 ⟨rfl, hk10⟩
            have HB10 : Hid (Below w.heap.size w w10) := HB9.out.trans (hk10.below HFl.out HB9.out.size)
            clear hsp hk10
            go_wp2
            go_ret
            exact ⟨rfl, HB10.out⟩
      · have hfl1 : F1 = 0 := by rw [hflush, hcc]; rfl
        rw [hfl1] at n2
        obtain ⟨hlo, hrs0⟩ := HW.out.2.1 (by rw [hE]; omega)
        subst hlo
        have HT := Hid.mk hrs0
        clear hrs0
        have hEE := hE.trans hcc
        rw [hcc]
        have HEE := Hid.mk hEE
        clear hE hF1 hflush hEE hfl1 hcc HW
        go_wp2_with (go_at_call 26; refine hlif.mono ?_; rintro e wy ⟨rfl, hwy⟩; have hwy' := hwy.symm; subst hwy'; clear hwy)
        clear n0 n1 n2 n3 hlif hsm
        have ht256 : tn ≤ 256 := by have := HRs.out.1; have := HTn.out; omega
        go_loopw [15] (fun i wx => ∃ j : Nat, j ≤ tn ∧ i = .int .i64 (j : Int) ∧ wx = we) (fun i _ => tn - (intOf i).toNat)
        case atStart => exact ⟨0, Nat.zero_le _, rfl, rfl⟩
        case round =>
          obtain ⟨j, hj, rfl, hwr⟩ := hrel
          subst hwr
          by_cases q : j < tn
          · have q' : (j : Int) < (tn : Int) := by omega
            have hj0 : (0 : Int) ≤ (j : Int) := by omega
            have hjr : j < rs.length := by have := HTn.out; omega
            obtain ⟨a9, c9, e9, f9⟩ := HR1.out.form
            obtain ⟨b8, g8, x8, y8, e8, c8, s8, _, _⟩ := f9 j hjr
            have ea : ta = a9 := by injection e9
            rw [e8] at ea
            subst ea
            have hlen := HRs.out.2 j hjr
            obtain ⟨m8, hm8⟩ : ∃ m8, m8 = (rs[j]).length := ⟨_, rfl⟩
            rw [← hm8] at c8 hlen
            have g1 : ¬ (m8 : Int) < 1 := by omega
            have g2 : ¬ (8364 : Int) < (m8 : Int) := by omega
            clear e9 f9 s8 hm8 e8
            go_wp2
            go_roundw
            case rel => exact ⟨j + 1, by omega, by go_num, by simp⟩
            case measure => simp [intOf]; omega
          · have q' : ¬ (j : Int) < (tn : Int) := by omega
            obtain ⟨wf, hwf⟩ : ∃ wf, wf = wr := ⟨_, rfl⟩
            rw [← hwf] at HD HBe HR1 HZe ⊢
            clear hwf q hj
            have hcr := B.dcrash HD.out (by rw [HQ.out.pu]; simp) none 0 0 [] (PSrc.nil _) (by omega) (fun _ h => by cases h)
            go_wp2_with fail
            refine hcr.mono ?_
            rintro e w5 ⟨rfl, hd5, hk5⟩
            have hq2 := HQ.out.trans (quiet_crash HD.out.ok HQ.out.pu [])
            have hl2 : ((lopen S s (a1 : Int) (b1 : Int)).2.crash s []).life = 3 := by
              show wrap64 ((lopen S s (a1 : Int) (b1 : Int)).2.life + 1) = 3
              rw [HLf.out, hlf]
              unfold wrap64
              omega
            have hB5 : Below w.heap.size w w5 := HBe.out.trans (hk5.below HFl.out HBe.out.size)
            have hr5 := HR1.out.keepF hk5 HLt.out
            have hz5 : w2.heap.size ≤ w5.heap.size := Nat.le_trans HZe.out hk5.size
            generalize (lopen S s (a1 : Int) (b1 : Int)).2.crash s [] = S2 at *
            have hnow := hq2.now HP.out.1
            have hop2 := B.Open_any hd5 (hq2.byt HP.out.2.2.2.1) (a1 : Int) (b1 : Int) (by rw [hq2.pu]; simp)
            have hsame := open_same (S := S) (S' := S2) (s := s) HP.out.2.1 hq2.fu h18 hnow hab h256
            rw [HEE.out] at hsame
            obtain ⟨hq3, _, hl3, _, hr3⟩ := open_quiet hd5.ok hq2.pu hq2.fu hab h18 h256
            rw [hl2, show wrap64 (3 + 1) = 4 by unfold wrap64; omega] at hl3
            have HQ3 := Hid.mk (hq2.trans hq3)
            have HN2 := Hid.mk (And.intro hnow (And.intro hsame (And.intro hl3 hr3)))
            have HB5 := Hid.mk hB5
            have HR5 := Hid.mk hr5
            have HQB := Hid.mk (hq2.byt HP.out.2.2.2.1)
            clear hcr hd5 hk5 hB5 hr5 hnow hq2 hsame hl2 hq3 hl3 hr3
            go_wp2_with fail
            refine hop2.mono ?_
            rintro e w6 ⟨ho6, hd6, hk6⟩
            obtain ⟨lo6, ta6, tc6, rs6, rfl, hW6⟩ := opened_form ho6
            rw [HN2.out.2.1]
            have hrs6 : rs6 = rs := by
              rw [(hW6.2.1 (by rw [HN2.out.2.1]; decide)).2, HT.out]
            subst hrs6
            have hz6 : w2.heap.size ≤ w6.heap.size := Nat.le_trans hz5 hk6.size
            have HB6 : Hid (Below w.heap.size w w6) := HB5.out.trans (hk6.below HFl.out HB5.out.size)
            have HR6 := Hid.mk (And.intro (HR5.out.keepF hk6 HLt.out) hW6.1)
            have him6 := B.dimage hd6
            have himl : (lopen S2 s (a1 : Int) (b1 : Int)).2.im = l := HQ3.out.im.trans HP.out.2.2.2.2
            rw [himl] at him6
            have HD6 := Hid.mk hd6
            clear hop2 ho6 hd6 hk6 hW6 HR5 HB5 himl
            rw [← HTn.out]
            go_wp2_with fail
            refine him6.mono ?_
            rintro e w7 ⟨gi, ci, rfl, hgi, hrow, hb7⟩
            have HB7 : Hid (Below w.heap.size w w7) := HB6.out.trans (hb7.mono HB6.out.size)
            have hal := alike_any (HR6.out.1.laterB hb7) (HR6.out.2.laterB hb7) (by have := HRs.out.1; omega) (fun i hi => by have := (HRs.out.2 i hi).2; omega)
            rw [← HTn.out] at hal
            have hD7 := HD6.out.later hb7
            have hsr : Src w7 (some ⟨gi, 0, none⟩) n l := by have := hrow.src; rw [HS.out.1] at this; exact this
            have HSr := Hid.mk hsr
            have HD7 := Hid.mk hD7
            have hsn : (s * 512 : Nat) = n := HN.out.symm
            rw [hsn]
            clear him6 hgi hrow hb7 hD7 HR6 hsr hsn
            go_wp2_with fail
            refine hal.mono ?_
            rintro e w8 ⟨rfl, hb8⟩
            have HB8 : Hid (Below w.heap.size w w8) := HB7.out.trans (hb8.mono HB7.out.size)
            have hsa := same_any (some ⟨gi, 0, none⟩) a n ci c l w8 hn47 (HSr.out.later hb8) (HS.out.later HB8.out)
            have HD8 := Hid.mk (HD7.out.later hb8)
            clear hal hb8
            go_wp2_with fail
            refine hsa.mono ?_
            rintro e w9 ⟨rfl, hb9⟩
            have HB9 : Hid (Below w.heap.size w w9) := HB8.out.trans (hb9.mono HB8.out.size)
            have hD9 := HD8.out.later hb9
            have hrd : B.oRd S2 s (a1 : Int) (b1 : Int) = b1 + 2 := by unfold B.oRd; rw [if_neg (fun h => h HN2.out.2.2.2), Int.toNat_natCast]
            have hI9 : Inv (lopen S2 s (a1 : Int) (b1 : Int)).2 s [] 10 := Inv.zero hD9.ok (HQ3.out.byt HP.out.2.2.2.1) (by rw [HQ3.out.pu]; rfl) (by rw [HN2.out.2.2.1]; decide) (by rw [HN2.out.2.2.1]; decide)
            have hsp := sparing_any hD9 hI9 (by omega) HQ3.out.pu HQ3.out.fu a1 b1 hab h18 h256 (by rw [hrd]; omega)
            clear hsa hb9 hD9 hI9 hrd
            go_wp2_with fail
            refine hsp.mono ?_
            rintro e w10 ⟨rfl, hk10⟩
            have HB10 : Hid (Below w.heap.size w w10) := HB9.out.trans (hk10.below HFl.out HB9.out.size)
            clear hsp hk10
            go_wp2
            go_ret
            exact ⟨rfl, HB10.out⟩
      · have hfl1 : F1 = 0 := by rw [hflush, hcc]; rfl
        rw [hfl1] at n2
        obtain ⟨hlo, hrs0⟩ := HW.out.2.1 (by rw [hE]; omega)
        subst hlo
        have HT := Hid.mk hrs0
        clear hrs0
        have hEE := hE.trans hcc
        rw [hcc]
        have HEE := Hid.mk hEE
        clear hE hF1 hflush hEE hfl1 hcc HW
        go_wp2_with (go_at_call 26; refine hlif.mono ?_; rintro e wy ⟨rfl, hwy⟩; have hwy' := hwy.symm; subst hwy'; clear hwy)
        clear n0 n1 n2 n3 hlif hsm
        have ht256 : tn ≤ 256 := by have := HRs.out.1; have := HTn.out; omega
        go_loopw [15] (fun i wx => ∃ j : Nat, j ≤ tn ∧ i = .int .i64 (j : Int) ∧ wx = we) (fun i _ => tn - (intOf i).toNat)
        case atStart => exact ⟨0, Nat.zero_le _, rfl, rfl⟩
        case round =>
          obtain ⟨j, hj, rfl, hwr⟩ := hrel
          subst hwr
          by_cases q : j < tn
          · have q' : (j : Int) < (tn : Int) := by omega
            have hj0 : (0 : Int) ≤ (j : Int) := by omega
            have hjr : j < rs.length := by have := HTn.out; omega
            obtain ⟨a9, c9, e9, f9⟩ := HR1.out.form
            obtain ⟨b8, g8, x8, y8, e8, c8, s8, _, _⟩ := f9 j hjr
            have ea : ta = a9 := by injection e9
            rw [e8] at ea
            subst ea
            have hlen := HRs.out.2 j hjr
            obtain ⟨m8, hm8⟩ : ∃ m8, m8 = (rs[j]).length := ⟨_, rfl⟩
            rw [← hm8] at c8 hlen
            have g1 : ¬ (m8 : Int) < 1 := by omega
            have g2 : ¬ (8364 : Int) < (m8 : Int) := by omega
            clear e9 f9 s8 hm8 e8
            go_wp2
            go_roundw
            case rel => exact ⟨j + 1, by omega, by go_num, by simp⟩
            case measure => simp [intOf]; omega
          · have q' : ¬ (j : Int) < (tn : Int) := by omega
            obtain ⟨wf, hwf⟩ : ∃ wf, wf = wr := ⟨_, rfl⟩
            rw [← hwf] at HD HBe HR1 HZe ⊢
            clear hwf q hj
            have hcr := B.dcrash HD.out (by rw [HQ.out.pu]; simp) none 0 0 [] (PSrc.nil _) (by omega) (fun _ h => by cases h)
            go_wp2_with fail
            refine hcr.mono ?_
            rintro e w5 ⟨rfl, hd5, hk5⟩
            have hq2 := HQ.out.trans (quiet_crash HD.out.ok HQ.out.pu [])
            have hl2 : ((lopen S s (a1 : Int) (b1 : Int)).2.crash s []).life = 3 := by
              show wrap64 ((lopen S s (a1 : Int) (b1 : Int)).2.life + 1) = 3
              rw [HLf.out, hlf]
              unfold wrap64
              omega
            have hB5 : Below w.heap.size w w5 := HBe.out.trans (hk5.below HFl.out HBe.out.size)
            have hr5 := HR1.out.keepF hk5 HLt.out
            have hz5 : w2.heap.size ≤ w5.heap.size := Nat.le_trans HZe.out hk5.size
            generalize (lopen S s (a1 : Int) (b1 : Int)).2.crash s [] = S2 at *
            have hnow := hq2.now HP.out.1
            have hop2 := B.Open_any hd5 (hq2.byt HP.out.2.2.2.1) (a1 : Int) (b1 : Int) (by rw [hq2.pu]; simp)
            have hsame := open_same (S := S) (S' := S2) (s := s) HP.out.2.1 hq2.fu h18 hnow hab h256
            rw [HEE.out] at hsame
            obtain ⟨hq3, _, hl3, _, hr3⟩ := open_quiet hd5.ok hq2.pu hq2.fu hab h18 h256
            rw [hl2, show wrap64 (3 + 1) = 4 by unfold wrap64; omega] at hl3
            have HQ3 := Hid.mk (hq2.trans hq3)
            have HN2 := Hid.mk (And.intro hnow (And.intro hsame (And.intro hl3 hr3)))
            have HB5 := Hid.mk hB5
            have HR5 := Hid.mk hr5
            have HQB := Hid.mk (hq2.byt HP.out.2.2.2.1)
            clear hcr hd5 hk5 hB5 hr5 hnow hq2 hsame hl2 hq3 hl3 hr3
            go_wp2_with fail
            refine hop2.mono ?_
            rintro e w6 ⟨ho6, hd6, hk6⟩
            obtain ⟨lo6, ta6, tc6, rs6, rfl, hW6⟩ := opened_form ho6
            rw [HN2.out.2.1]
            have hrs6 : rs6 = rs := by
              rw [(hW6.2.1 (by rw [HN2.out.2.1]; decide)).2, HT.out]
            subst hrs6
            have hz6 : w2.heap.size ≤ w6.heap.size := Nat.le_trans hz5 hk6.size
            have HB6 : Hid (Below w.heap.size w w6) := HB5.out.trans (hk6.below HFl.out HB5.out.size)
            have HR6 := Hid.mk (And.intro (HR5.out.keepF hk6 HLt.out) hW6.1)
            have him6 := B.dimage hd6
            have himl : (lopen S2 s (a1 : Int) (b1 : Int)).2.im = l := HQ3.out.im.trans HP.out.2.2.2.2
            rw [himl] at him6
            have HD6 := Hid.mk hd6
            clear hop2 ho6 hd6 hk6 hW6 HR5 HB5 himl
            rw [← HTn.out]
            go_wp2_with fail
            refine him6.mono ?_
            rintro e w7 ⟨gi, ci, rfl, hgi, hrow, hb7⟩
            have HB7 : Hid (Below w.heap.size w w7) := HB6.out.trans (hb7.mono HB6.out.size)
            have hal := alike_any (HR6.out.1.laterB hb7) (HR6.out.2.laterB hb7) (by have := HRs.out.1; omega) (fun i hi => by have := (HRs.out.2 i hi).2; omega)
            rw [← HTn.out] at hal
            have hD7 := HD6.out.later hb7
            have hsr : Src w7 (some ⟨gi, 0, none⟩) n l := by have := hrow.src; rw [HS.out.1] at this; exact this
            have HSr := Hid.mk hsr
            have HD7 := Hid.mk hD7
            have hsn : (s * 512 : Nat) = n := HN.out.symm
            rw [hsn]
            clear him6 hgi hrow hb7 hD7 HR6 hsr hsn
            go_wp2_with fail
            refine hal.mono ?_
            rintro e w8 ⟨rfl, hb8⟩
            have HB8 : Hid (Below w.heap.size w w8) := HB7.out.trans (hb8.mono HB7.out.size)
            have hsa := same_any (some ⟨gi, 0, none⟩) a n ci c l w8 hn47 (HSr.out.later hb8) (HS.out.later HB8.out)
            have HD8 := Hid.mk (HD7.out.later hb8)
            clear hal hb8
            go_wp2_with fail
            refine hsa.mono ?_
            rintro e w9 ⟨rfl, hb9⟩
            have HB9 : Hid (Below w.heap.size w w9) := HB8.out.trans (hb9.mono HB8.out.size)
            have hD9 := HD8.out.later hb9
            have hrd : B.oRd S2 s (a1 : Int) (b1 : Int) = b1 + 2 := by unfold B.oRd; rw [if_neg (fun h => h HN2.out.2.2.2), Int.toNat_natCast]
            have hI9 : Inv (lopen S2 s (a1 : Int) (b1 : Int)).2 s [] 10 := Inv.zero hD9.ok (HQ3.out.byt HP.out.2.2.2.1) (by rw [HQ3.out.pu]; rfl) (by rw [HN2.out.2.2.1]; decide) (by rw [HN2.out.2.2.1]; decide)
            have hsp := sparing_any hD9 hI9 (by omega) HQ3.out.pu HQ3.out.fu a1 b1 hab h18 h256 (by rw [hrd]; omega)
            clear hsa hb9 hD9 hI9 hrd
            go_wp2_with fail
            refine hsp.mono ?_
            rintro e w10 ⟨rfl, hk10⟩
            have HB10 : Hid (Below w.heap.size w w10) := HB9.out.trans (hk10.below HFl.out HB9.out.size)
            clear hsp hk10
            go_wp2
            go_ret
            exact ⟨rfl, HB10.out⟩
    · have hv : decide (lrefuse S s x y = 0) = false := decide_eq_false kr
      have e1 : lopen S s x y = (lrefuse S s x y, S) := by unfold lopen; rw [if_pos kr]
      have e2 : E = lrefuse S s x y := by rw [← hE, e1]
      have e3 : F1 = 0 := by rw [← hF1, e1]; exact hfs
      have e4 : r = 0 := by unfold B.oRd at hrc4; rw [if_pos kr] at hrc4; omega
      have e5 : (lopen S s x y).2.life = 1 := by rw [e1]; exact hlf
      obtain ⟨rfl, hrs0⟩ := HW.out.2.1 (by rw [hE, e2]; exact kr)
      have htn' : tn = 0 := by rw [HTn.out, hrs0]; rfl
      subst htn'
      rw [e5] at hlif
      rw [e4] at n0
      rw [e3] at n2
      have n0' : we.cell? ⟨qb, 0, none⟩ = some (.int .i64 0) := n0
      rw [hv]
      have hEc : E = 11 ∨ E = 1 := by omega
      clear hv hrr hrc hsec e1 e2 e3 e4 e5 hrs0 hE hF1 n0 n1 n3 kr hor hrc4 HRs HR1 HD HW HQ HP
      rcases hEc with rfl | rfl
      · go_wp2_with (go_at_call 26; refine hlif.mono ?_; rintro e wy ⟨rfl, hwy⟩; have hwy' := hwy.symm; subst hwy'; clear hwy)
        go_ret
        exact ⟨rfl, HBe.out⟩
      · go_wp2_with (go_at_call 26; refine hlif.mono ?_; rintro e wy ⟨rfl, hwy⟩; have hwy' := hwy.symm; subst hwy'; clear hwy)
        go_ret
        exact ⟨rfl, HBe.out⟩
end Go.Proofs.Ytplpkppkaahchaa
end

section
namespace Go.Proofs.Ytplpkppkaahchaa
open Go.RowKit

theorem walAny_any (a : Option Addr) (n c : Nat) (l : List Int) (x y : Int) (w : World) (hs : Src w a n l) (hbl : Bytes l) (hn : n ≤ 140737488355328) :
    Calls Try.prog 4 #[.slice a n c, .int .i64 x, .int .i64 y] w fun e w' => e = .returned (.bool true) ∧ Below w.heap.size w w' := by
  by_cases h : n % 512 = 0
  · by_cases h0 : n = 0 ∨ 1048576 < n
    · exact wany_no a n c l x y w hn hs h h0
    · exact wany_ok a n c (n / 512) l x y w (by omega) (by omega) (by omega) hs hbl
  · exact wany_bad a n c l x y w hn hs h
end Go.Proofs.Ytplpkppkaahchaa
end
