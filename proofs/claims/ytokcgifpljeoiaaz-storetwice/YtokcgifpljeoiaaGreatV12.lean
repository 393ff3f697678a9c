import Derived.Test.YtokcgifpljeoiaaGreatV01
import Derived.Test.YtokcgifpljeoiaaGreatV03
import Derived.Test.YtokcgifpljeoiaaGreatV08
import Derived.Test.YtokcgifpljeoiaaGreatV10
import Derived.Test.YtokcgifpljeoiaaGreatV11
import Derived.Laws.AppendOwn
import Derived.Lib.AppendStr
import Derived.OwnWalk
import Derived.Deep.RegionLaw
section
namespace Go.Proofs.YtokcgifpljeoiaaGreat
open Go.RowKit Go.Maps

section
variable {w w' : World} {F : Nat → Prop} {p s cR q l m t n : Nat} {S : DS} {G : SG} {T : TG}
end
end Go.Proofs.YtokcgifpljeoiaaGreat
end

section
namespace Go.Proofs.YtokcgifpljeoiaaGreat
open Go.RowKit Go.Maps

/-- So many blocks of zeros, one behind the other. -/
def zrow (n : Nat) : CM := (List.range n).map fun i => (i, zs 512)
theorem zrow_len (n : Nat) : (zrow n).length = n := by simp [zrow]
theorem zrow_succ (n : Nat) : zrow (n + 1) = zrow n ++ [(n, zs 512)] := by simp [zrow, List.range_succ]
theorem zrow_more {j n : Nat} (h : j ≤ n) : ∃ r, zrow n = zrow j ++ r := by
  refine ⟨(zrow n).drop j, ?_⟩
  have : zrow j = (zrow n).take j := by
    unfold zrow
    rw [← List.map_take, List.take_range, Nat.min_eq_left h]
  rw [this, List.take_append_drop]
/-- Zeros are written to a row of sectors, and made durable. -/
def swipe (S : DS) (s a n : Nat) : Int × DS := if (sbring S s a (zrow n)).1 ≠ 0 then sbring S s a (zrow n) else (sbring S s a (zrow n)).2.fl s
theorem swipe_puts (S : DS) (s a n : Nat) : (swipe S s a n).2.puts.length ≤ S.puts.length + n := by
  have h := sbring_puts S s a (zrow n)
  rw [zrow_len] at h
  unfold swipe
  split
  · exact h
  · exact Nat.le_trans (fl_putsS _ _) h

set_option maxRecDepth 20000 in
set_option maxHeartbeats 4000000 in
theorem swipe_any {w : World} {F : Nat → Prop} {p s c : Nat} {S : DS} (hd : B.DiskR w F p s S c) (a b : Nat) (hab : a ≤ b) (hb : b ≤ 4000000000) (hbig : S.puts.length + (b - a) + 1 ≤ 4000000000000) :
    Calls Tryz.prog 76 #[.pointer (some ⟨p, 0, none⟩), .int .i64 (a : Int), .int .i64 (b : Int)] w fun e w' => e = .returned (.int .i64 (swipe S s a (b - a)).1) ∧ B.DiskR w' (more F w w') p s (swipe S s a (b - a)).2 c ∧ Keeps F w w' := by
  obtain ⟨n, rfl⟩ : ∃ n, b = a + n := ⟨b - a, by omega⟩
  rw [Nat.add_sub_cancel_left] at hbig ⊢
  clear hab
  obtain ⟨R, hR⟩ : ∃ R, R = swipe S s a n := ⟨_, rfl⟩
  rw [← hR]
  unfold swipe at hR
  have HLt := Hid.mk hd.lt
  have HD := Hid.mk hd
  have HR := Hid.mk hR
  clear hd hR
  go_enter Tryz.func76, Tryz.ntmps76
  go_wp2_with (at_make; refine wpList_make_part _ rfl _ _ rfl _ 512 512 rfl rfl rfl (Nat.le_refl _) (by omega) ?_; intro w1 hblk hb1)
  have hlb := hblk.lt
  have hsrc : Src w1 (some ⟨w.heap.size, 0, none⟩) 512 (zs 512) := by
    have := hblk.src (o := 0) (n := 512) (by rw [zs_len]; omega)
    rwa [List.drop_zero, List.take_of_length_le (by rw [zs_len]; omega)] at this
  have HSr := Hid.mk hsrc
  have HD1 := Hid.mk (HD.out.later hb1)
  have HB1 := Hid.mk hb1
  clear hblk hb1 hsrc
  have hbc : ((a + n : Nat) : Int) ≤ 4000000000 := by omega
  go_loopw [8] (fun i wr => ∃ j : Nat, j ≤ n ∧ i = .int .i64 ((a + j : Nat) : Int) ∧ (sbring S s a (zrow j)).1 = 0 ∧ B.DiskR wr (more F w1 wr) p s (sbring S s a (zrow j)).2 c ∧ Keeps F w1 wr) (fun i _ => a + n - (intOf i).toNat)
  case atStart => exact ⟨0, Nat.zero_le _, rfl, rfl, HD1.out.more, Keeps.refl _ _⟩
  case round =>
    clear HD1
    obtain ⟨j, hj, rfl, hz, hd, hkp⟩ := hrel
    have hkz := hkp.size
    have hpu := sbring_puts S s a (zrow j)
    rw [zrow_len] at hpu
    have HLr : Hid (∀ k, F k → k < w1.heap.size) := fun k hf => by have := HLt.out k hf; omega
    have hgF : ¬ F w.heap.size := fun hf => by have := HLt.out _ hf; omega
    by_cases hlt : j < n
    · have hlt' : ((a + j : Nat) : Int) < ((a + n : Nat) : Int) := by omega
      have hsr := HSr.out.avoid hkp (fun y hy _ e => by
        cases hy
        exact hgF e)
      have hsn : sbring S s a (zrow (j + 1)) = (sbring S s a (zrow j)).2.wr s ((a + j : Nat) : Int) 512 (zs 512) := by
        rw [zrow_succ, sbring_append, if_neg (fun h => h hz)]
        simp only [sbring]
        split
        · rfl
        · rename_i h
          generalize DS.wr _ _ _ _ _ = Z at *
          rw [← (Decidable.byContradiction h)]
      have hw := B.dwrite hd ((a + j : Nat) : Int) (some ⟨w.heap.size, 0, none⟩) 512 512 (zs 512) hsr (by omega)
      rw [← hsn] at hw
      obtain ⟨r, hr⟩ := zrow_more (Nat.succ_le_of_lt hlt)
      have hend : sbring S s a (zrow n) = if (sbring S s a (zrow (j + 1))).1 ≠ 0 then sbring S s a (zrow (j + 1)) else sbring (sbring S s a (zrow (j + 1))).2 s a r := by
        rw [hr]
        exact sbring_append S s a _ _
      obtain ⟨Y, hY⟩ : ∃ Y, Y = sbring S s a (zrow (j + 1)) := ⟨_, rfl⟩
      rw [← hY] at hw hend
      have HY := Hid.mk hY
      have HE := Hid.mk hend
      have HK := Hid.mk hkp
      clear hY hend hsn hr hd hkp hsr hz hpu
      by_cases kY : Y.1 = 0
      · have dY : (Y.1 != 0) = false := by rw [kY]; rfl
        have HKY := Hid.mk kY
        clear kY
        go_wp2_with fail
        refine hw.mono ?_
        rintro e w5 ⟨rfl, hd5, hk5⟩
        have hz5 := hk5.size
        have HN : Hid (B.DiskR w5 (more F w1 w5) p s Y.2 c ∧ Keeps F w1 w5) := ⟨hd5.mono (more_more hkz hz5) (more_lt (F := F) (w := w1) HLr.out (by omega)), HK.out.trans hk5 (fun k hk => hk.elim .inl (fun h => .inr h.1))⟩
        clear hw hd5 hk5
        go_wp2
        go_roundw
        case rel => exact ⟨j + 1, by omega, by go_num, by rw [← HY.out]; exact HKY.out, by rw [← HY.out]; exact HN.out.1, HN.out.2⟩
        case measure => simp [intOf]; omega
      · have dY : (Y.1 != 0) = true := by rw [bne_iff_ne]; exact kY
        have HKY := Hid.mk kY
        clear kY
        go_wp2_with fail
        refine hw.mono ?_
        rintro e w5 ⟨rfl, hd5, hk5⟩
        have hz5 := hk5.size
        have HN : Hid (B.DiskR w5 (more F w w5) p s Y.2 c ∧ Keeps F w w5) := ⟨hd5.mono (fun k hk => by
          rcases hk with (hk | hk) | hk
          · exact .inl hk
          · exact .inr ⟨by omega, by omega⟩
          · exact .inr ⟨by omega, hk.2⟩) (more_lt (F := F) (w := w) HLt.out (by omega)), ((Keeps.of_below F HB1.out).trans HK.out (fun _ h => .inl h)).trans hk5 (fun k hk => hk.elim .inl (fun h => .inr (by omega)))⟩
        clear hw hd5 hk5
        go_wp2
        go_ret
        have hRY : R = Y := by rw [HR.out, HE.out, if_pos HKY.out, if_pos HKY.out]
        rw [hRY]
        exact ⟨rfl, HN.out⟩
    · obtain rfl : j = n := by omega
      have hw := B.dflush hd (by omega)
      have HK := Hid.mk hkp
      have hRZ : R = (sbring S s a (zrow j)).2.fl s := by rw [HR.out, if_neg (fun h => h hz)]
      rw [← hRZ] at hw
      clear hd hkp hRZ hz hpu hlt
      go_wp2_with fail
      refine hw.mono ?_
      rintro e w5 ⟨rfl, hd5, hk5⟩
      have hz5 := hk5.size
      have HN : Hid (B.DiskR w5 (more F w w5) p s R.2 c ∧ Keeps F w w5) := ⟨hd5.mono (fun k hk => by
        rcases hk with hk | hk
        · exact .inl hk
        · exact .inr ⟨by omega, by omega⟩) (more_lt (F := F) (w := w) HLt.out (by omega)), ((Keeps.of_below F HB1.out).trans HK.out (fun _ h => .inl h)).trans hk5 (fun k hk => hk.elim .inl (fun h => .inr (by omega)))⟩
      clear hw hd5 hk5
      go_wp2
      go_ret
      exact ⟨rfl, HN.out⟩
end Go.Proofs.YtokcgifpljeoiaaGreat
end

section
namespace Go.Proofs.YtokcgifpljeoiaaGreat.B
open Go.RowKit

set_option maxRecDepth 20000 in
set_option maxHeartbeats 8000000 in
theorem wipe_any {w : World} {F : Nat → Prop} {p s cR : Nat} {S : DS} (h : DiskR w F p s S cR) (f n : Nat) (hfn : f + 2 + n ≤ s) (hn : n ≤ 256) (hbig : S.puts.length + 400 ≤ 4000000000000) :
    Calls Tryz.prog 109 #[areaV p f n] w fun e w' => e = .returned (.int .i64 (awipe S s f n).1) ∧ DiskR w' (more F w w') p s (awipe S s f n).2 cR ∧ Keeps F w w' := by
  have hs := h.ok.hi
  have HL := h.lt
  have hB := (Below.refl w.heap.size w).alloc (Nat.le_refl _) (.cells #[.pointer (some ⟨p, 0, none⟩), .int .i64 f, .int .i64 n] 134)
  have HD0 := (h.boxed (.cells #[.pointer (some ⟨p, 0, none⟩), .int .i64 f, .int .i64 n] 134))
  have HB := hB
  clear h hB
  go_enter Tryz.func109, Tryz.ntmps109
  go_wp2_with (at_make; refine wpList_make_part _ rfl _ _ rfl _ 512 512 rfl rfl ?c1 ?c2 ?c3 ?_)
  case c1 => rfl
  case c2 => omega
  case c3 => omega
  intro w1 hblk hb1
  have hd1 := HD0.later (by rw [World.size_alloc]; exact hb1)
  have hbox : w1.heap[w.heap.size]? = some (.cells #[.pointer (some ⟨p, 0, none⟩), .int .i64 f, .int .i64 n] 134 (0, 0)) := (hb1.block _ (by simp)).trans (heap_alloc_new _ _)
  have hsz := hblk.lt
  have HX := hbox
  have HZ := hblk
  have HD1 := hd1
  have HB1 := (HB.trans (hb1.mono (by simp)))
  have HF : (¬ F w.heap.size ∧ ¬ F (w.heap.size + 1)) := ⟨fun h => by have := HL _ h; omega, fun h => by have := HL _ h; omega⟩
  have c1 := cell_of_block hbox (j := 1) rfl
  clear hblk hb1 hd1 hbox
  go_wp2
  clear c1
  go_loopw [4] (fun i wr => ∃ k : Nat, k ≤ n + 2 ∧ i = .int .i64 ((f + k : Nat) : Int) ∧ (wipeTo S s f k).1 = 0 ∧ DiskR wr (more F w1 wr) p s (wipeTo S s f k).2 cR ∧ Keeps F w1 wr) (fun i _ => f + n + 2 - (intOf i).toNat)
  case atStart => exact ⟨0, Nat.zero_le _, by simp, rfl, HD1.more, Keeps.refl _ _⟩
  case round =>
    obtain ⟨k, hk, rfl, he, hd, hkp⟩ := hrel
    have hbox := (hkp.block _ (by omega) HF.1).trans HX
    have hzr : Blk wr 5 (w.heap.size + 1) (zs 512) := (hkp.block _ (by omega) HF.2).trans HZ
    have c0 := cell_of_block hbox (j := 0) rfl
    have c1 := cell_of_block hbox (j := 1) rfl
    have c2 := cell_of_block hbox (j := 2) rfl
    have hx := aend_any p f n wr (by omega) (by omega) (by omega) (by omega)
    have HE := he
    have HDr := hd
    have HKr := hkp
    have HBX := hbox
    have HZr := hzr
    clear he hd hkp hbox hzr
    go_wp2_with fail
    refine hx.mono ?_
    rintro e w2 ⟨rfl, hb2⟩
    have hbox := (hb2.block _ (lt_there HBX)).trans HBX
    have hzr : Blk w2 5 (w.heap.size + 1) (zs 512) := (hb2.block _ (lt_there HZr)).trans HZr
    have hd2 := HDr.later hb2
    have HK2 := (HKr.trans (Keeps.of_below (fun _ => False) hb2) (fun _ h => h.elim))
    have hz2 := hb2.size
    have hz3 := HKr.size
    have hp2 := wipeTo_puts S s f k
    clear hx hb2 c0 c1 c2
    have c0 := cell_of_block hbox (j := 0) rfl
    by_cases q : k < n + 2
    · have hlt : ((f + k : Nat) : Int) < (f : Int) + 2 + (n : Int) := by omega
      have hsrc := hzr.src (o := 0) (n := 512) (by rw [zs_len]; omega)
      rw [List.drop_zero, List.take_of_length_le (by rw [zs_len]; omega)] at hsrc
      have hw := dwrite hd2 ((f + k : Nat) : Int) (some ⟨w.heap.size + 1, 0, none⟩) 512 512 (zs 512) hsrc (by omega)
      have e1 : wipeTo S s f (k + 1) = (wipeTo S s f k).2.wr s ((f + k : Nat) : Int) 512 (zs 512) := stepsTo_ok HE
      rw [← e1] at hw
      clear hsrc e1 hbox hzr hd2
      go_wp2_with fail
      refine hw.mono ?_
      rintro e w3 ⟨rfl, hd3, hk3⟩
      have hj := (hd3.mono (fun k hk => by rcases hk with (hk | hk) | hk; exact .inl hk; exact .inr ⟨hk.1, by have := hk3.size; omega⟩; exact .inr ⟨by omega, hk.2⟩) (more_lt (F := F) (w := w1) (fun k hk => by have := HL k hk; omega) (by have := hk3.size; omega)) : DiskR w3 (more F w1 w3) p s (wipeTo S s f (k + 1)).2 cR)
      have hkj := HK2.trans hk3 (fun j hj => by rcases hj with hj | hj; exact .inl hj; exact .inr hj.1)
      have HDj := hj
      have HKj := hkj
      clear hd3 hk3 hw hj hkj
      by_cases q2 : (wipeTo S s f (k + 1)).1 = 0
      · have d : ((wipeTo S s f (k + 1)).1 == 0) = true := by rw [beq_iff_eq]; exact q2
        have HQ := q2
        clear q2
        go_wp2
        go_roundw
        case rel => exact ⟨k + 1, by omega, by go_num, HQ, HDj, HKj⟩
        case measure => simp [intOf]; omega
      · have d : ((wipeTo S s f (k + 1)).1 == 0) = false := by rw [beq_eq_false_iff_ne]; exact q2
        have e2 : awipe S s f n = wipeTo S s f (k + 1) := by
          have : wipeTo S s f (n + 2) = wipeTo S s f (k + 1) := stepsTo_err q2 (n + 2) (by omega)
          unfold awipe
          rw [this, if_pos q2]
        clear q2
        go_wp2
        go_ret
        rw [e2]
        exact ⟨rfl, HDj.from (w := w) HL (by omega) HKj.size, (Keeps.of_below F HB1).trans HKj (fun _ h => .inl h)⟩
    · have hlt : ¬ ((f + k : Nat) : Int) < (f : Int) + 2 + (n : Int) := by omega
      obtain rfl : k = n + 2 := by omega
      have hw := dflush hd2 (by omega)
      have e2 : awipe S s f n = (wipeTo S s f (n + 2)).2.fl s := by
        unfold awipe
        rw [if_neg (by have := HE; omega)]
      have HE2 := e2
      clear e2 hbox hzr hd2
      go_wp2_with fail
      refine hw.mono ?_
      rintro e w3 ⟨rfl, hd3, hk3⟩
      have HDj := ((hd3.wide (fun k hk => by have := HL k hk; omega) hz3 (by have := hk3.size; omega) : DiskR w3 (more F w1 w3) p s ((wipeTo S s f (n + 2)).2.fl s).2 cR))
      have HKj := (HK2.trans hk3 (fun j hj => by rcases hj with hj | hj; exact .inl hj; exact .inr hj.1) : Keeps F w1 w3)
      clear hd3 hk3 hw
      go_wp2
      go_ret
      rw [HE2]
      exact ⟨rfl, HDj.from (w := w) HL (by omega) HKj.size, (Keeps.of_below F HB1).trans HKj (fun _ h => .inl h)⟩

set_option maxRecDepth 20000 in
set_option maxHeartbeats 8000000 in
theorem Format_any {w : World} {F : Nat → Prop} {p s cR : Nat} {S : DS} (h : DiskR w F p s S cR) (hby : S.Byt) (f n : Int) (hbig : S.puts.length + 500 ≤ 4000000000000) :
    Calls Tryz.prog 77 #[.pointer (some ⟨p, 0, none⟩), .int .i64 f, .int .i64 n] w fun e w' => e = .returned (.int .i64 (lformat S s f n).1) ∧ DiskR w' (more F w w') p s (lformat S s f n).2 (cR + 2) ∧ Keeps F w w' := by
  have HL := h.lt
  have hFb : ¬ F w.heap.size := fun h1 => by have := h.lt _ h1; omega
  have HB := (below_box w (.cells #[.pointer (some ⟨p, 0, none⟩), .int .i64 f, .int .i64 n] 134))
  have hx0 : (w.alloc (.cells #[.pointer (some ⟨p, 0, none⟩), .int .i64 f, .int .i64 n] 134)).heap[w.heap.size]? = some (.cells #[.pointer (some ⟨p, 0, none⟩), .int .i64 f, .int .i64 n] 134 (0, 0)) := heap_alloc_new _ _
  have hd0 := h.boxed (.cells #[.pointer (some ⟨p, 0, none⟩), .int .i64 f, .int .i64 n] 134)
  have h1 := drefusal hd0 f n
  have HD := hd0
  unfold lformat
  by_cases q : lrefuse S s f n = 0
  · rw [if_neg (by omega)]
    obtain ⟨hf0, a, b, rfl, rfl, hab, hb1, hb2⟩ := lrefuse_zero q
    rw [q] at h1
    simp only [Int.toNat_natCast]
    have hpt := awipe_puts S.take s a b
    have hpt2 : S.take.puts.length = S.puts.length := rfl
    have HBW := ((hby.take).wipe s a b)
    have H3 := (fun w2 (hd2 : DiskR w2 F p s S.take cR) => wipe_any hd2 a b hab hb2 (by simpa [DS.take] using (show S.puts.length + 400 ≤ 4000000000000 by omega)))
    generalize awipe S.take s a b = Y at *
    by_cases k : Y.1 = 0
    · rw [if_neg (fun h => h k)]
      have d : (Y.1 == 0) = true := by rw [beq_iff_eq]; exact k
      go_enter Tryz.func77, Tryz.ntmps77
      go_wp2_with fail
      refine h1.mono ?_
      rintro e w1 ⟨rfl, hb⟩
      have hx1 : w1.heap[w.heap.size]? = _ := (hb.block _ (by simp)).trans hx0
      go_wp2_with fail
      refine (dtake (HD.later hb)).mono ?_
      rintro e w2 ⟨rfl, hd2, hk2⟩
      have hx2 := box_after hx1 hk2 hFb
      have c0 := cell_of_block hx2 (j := 0) rfl
      have c1 := cell_of_block hx2 (j := 1) rfl
      have c2 := cell_of_block hx2 (j := 2) rfl
      have HK2 := ((Keeps.of_below F (HB.trans (hb.mono (by simp)))).trans hk2 (fun _ h => .inl h))
      go_wp2_with fail
      refine (H3 w2 hd2).mono ?_
      rintro e w3 ⟨rfl, hd3, hk3⟩
      have hx3 := box_after hx2 hk3 hFb
      have c0 := cell_of_block hx3 (j := 0) rfl
      have c1 := cell_of_block hx3 (j := 1) rfl
      have c2 := cell_of_block hx3 (j := 2) rfl
      have HK3 := (HK2.trans hk3 (fun _ h => .inl h))
      have hz2 := HK2.size
      have hz3 := hk3.size
      have h4 := drenew hd3 a b 1 0 (by omega) (by omega) (by omega) (by omega) (HBW.now a) (HBW.now (a + 1))
      rw [show ((1 : Nat) : Int) * 4294967296 + ((0 : Nat) : Int) = 4294967296 by decide] at h4
      go_wp2_with fail
      refine h4.mono ?_
      rintro e w4 ⟨rfl, hd4, hk4⟩
      have hz4 := hk4.size
      have HZ := (And.intro ((hd4.mono (fun k hk => by
        rcases hk with (hk | hk) | hk
        · exact .inl hk
        · exact .inr ⟨by omega, by omega⟩
        · exact .inr ⟨by omega, hk.2⟩) (more_lt (F := F) (w := w) HL (by omega)) : DiskR w4 (more F w w4) p s _ (cR + 2))) (HK3.trans hk4 (fun j hj => by
        rcases hj with hj | hj
        · exact .inl hj
        · exact .inr (by omega))))
      go_wp2
      go_ret
      exact ⟨rfl, HZ⟩
    · rw [if_pos k]
      have d : (Y.1 == 0) = false := by rw [beq_eq_false_iff_ne]; exact k
      go_enter Tryz.func77, Tryz.ntmps77
      go_wp2_with fail
      refine h1.mono ?_
      rintro e w1 ⟨rfl, hb⟩
      have hx1 : w1.heap[w.heap.size]? = _ := (hb.block _ (by simp)).trans hx0
      go_wp2_with fail
      refine (dtake (HD.later hb)).mono ?_
      rintro e w2 ⟨rfl, hd2, hk2⟩
      have hx2 := box_after hx1 hk2 hFb
      have c0 := cell_of_block hx2 (j := 0) rfl
      have c1 := cell_of_block hx2 (j := 1) rfl
      have c2 := cell_of_block hx2 (j := 2) rfl
      have HK2 := ((Keeps.of_below F (HB.trans (hb.mono (by simp)))).trans hk2 (fun _ h => .inl h))
      go_wp2_with fail
      refine (H3 w2 hd2).mono ?_
      rintro e w3 ⟨rfl, hd3, hk3⟩
      have hx3 := box_after hx2 hk3 hFb
      have c0 := cell_of_block hx3 (j := 0) rfl
      have c1 := cell_of_block hx3 (j := 1) rfl
      have c2 := cell_of_block hx3 (j := 2) rfl
      go_wp2
      go_ret
      exact ⟨rfl, (And.intro (((hd3.from HL HK2.size hk3.size).le (by omega) : DiskR w3 (more F w w3) p s Y.2 (cR + 2))) (HK2.trans hk3 (fun _ h => .inl h)))⟩
  · rw [if_pos q]
    have d : (lrefuse S s f n == 0) = false := by rw [beq_eq_false_iff_ne]; exact q
    generalize lrefuse S s f n = U at *
    go_enter Tryz.func77, Tryz.ntmps77
    go_wp2_with fail
    refine h1.mono ?_
    rintro e w1 ⟨rfl, hb⟩
    go_wp2
    go_ret
    exact ⟨rfl, (And.intro (((HD.later hb).more (w := w)).le (by omega : cR ≤ cR + 2)) (Keeps.of_below F (HB.trans (hb.mono (by simp)))))⟩
end Go.Proofs.YtokcgifpljeoiaaGreat.B
end

section
namespace Go.Proofs.YtokcgifpljeoiaaGreat
open Go.RowKit

theorem zero_cells (m : Nat) : Builtin.zeroCells (Value.int .u8 0).cells m = (bs (List.replicate m 0)).toArray := by
  apply Array.ext'
  apply List.ext_getElem
  · simp [Builtin.zeroCells, bs, Value.cells]
  · intro i h1 h2
    simp [Builtin.zeroCells, bs, Nat.mod_one, Value.cells]

/-- append(b, make([]byte, m)...): the row with m zeros behind it. -/
theorem append_zeros (w : World) (base : Nat) (ty : TypeId) (v : Value) (n : Nat) (l : List Int) (m : Nat) (hown : w.ownsRow base 5 1 v n (bs l)) (hm : n + m ≤ 1000000) (hbase : base ≤ w.heap.size) (hpos : 0 < n + m) :
    ∃ g c w', (Builtin.append_ #[22, 3] ty #[v, .int .i64 (m : Int)]).run Tryz.prog w = .ok (.slice (some ⟨g, 0, none⟩) (n + m) c) w' ∧
      w'.ownsRow base 5 1 (.slice (some ⟨g, 0, none⟩) (n + m) c) (n + m) (bs (l ++ List.replicate m 0)) ∧ w.grownBy w' v.ownBlock := by
  obtain ⟨i, hi, hz0, hz1, hz2⟩ := info_parts infoU8
  have hll : (bs l).length = n := by simpa using hown.1
  have hll' : l.length = n := by simpa [bs] using hll
  have hwr : IntKind.i64.wrap (m : Int) = (m : Int) := by rw [IntKind.wrap_i64]; omega
  have h0 : ¬ (m : Int) < 0 := by omega
  have h48 : ¬ (281474976710656 < (m : Int)) := by omega
  have hai : ∀ w, (asInt (.int .i64 (m : Int))).run Tryz.prog w = .ok (m : Int) w := fun _ => rfl
  have hbl : (bs (l ++ List.replicate m 0)) = bs l ++ bs (List.replicate m 0) := by simp [bs]
  have fresh : ∀ (old : Nat) (row : Option Nat),
      (w.drew.alloc (.cells ((bs l).toArray ++ (bs (List.replicate m 0)).toArray ++ Builtin.zeroCells (Value.int .u8 0).cells (grownCap w (n + m) old 5 - (n + m))) 5)).ownsRow base 5 1
        (.slice (some ⟨w.heap.size, 0, none⟩) (n + m) (grownCap w (n + m) old 5)) (n + m) (bs (l ++ List.replicate m 0)) ∧
      w.grownBy (w.drew.alloc (.cells ((bs l).toArray ++ (bs (List.replicate m 0)).toArray ++ Builtin.zeroCells (Value.int .u8 0).cells (grownCap w (n + m) old 5 - (n + m))) 5)) row := by
    intro old row
    have hge := grownCap_ge w (n + m) old 5
    have hcm := grownCap_le_maxLen w (n + m) old 5 (by unfold maxLen; omega)
    refine ⟨⟨by simp [bs, hll'], .inr ⟨w.heap.size, _, _, rfl, hbase, heap_alloc_new w.drew _, hge, hcm, ?_, ?_⟩⟩, ⟨rfl, rfl, rfl, by simp, fun k hk _ => heap_alloc_old w.drew _ hk⟩⟩
    · rw [zero_cells]; simp [bs, hll']; omega
    · rw [hbl]
      simp only [Array.toList_append, Nat.mul_one]
      exact List.take_left' (by simp [bs, hll'])
  rcases hown.2 with ⟨rfl, rfl⟩ | ⟨g, cap, cur, rfl, hbg, hg, hnc, hcm, hcs, htake⟩
  · have hl0 := List.eq_nil_of_length_eq_zero hll'
    subst hl0
    have hm0 : m ≠ 0 := by omega
    have h1 : ¬ (281474976710656 < Builtin.nextslicecap m 0) := by rw [nextslicecap_zero (by omega)]; omega
    obtain ⟨f1, f2⟩ := fresh 0 (Value.ownBlock (.slice none 0 0))
    simp only [Nat.zero_add] at f1 f2 ⊢
    refine ⟨w.heap.size, _, _, ?_, f1, f2⟩
    have h63 : ¬ 9223372036854775807 < (m : Int) := by omega
    simp [Builtin.append_, hai, sizeOf, typeInfo, zeroValue, hi, hz0, hz1, hz2, hwr, h0, h48, hm0, h1, h63, Question.forced, run_firstCells_none, newRow, grownCap, zero_cells]
  · have hcs' : cur.size = cap := by simpa using hcs
    have ht' : cur.toList.take n = bs l := by simpa using htake
    by_cases hm0 : m = 0
    · subst hm0
      have hai0 : ∀ w, (asInt (.int .i64 0)).run Tryz.prog w = .ok 0 w := fun _ => rfl
      have hwr0 : IntKind.i64.wrap 0 = 0 := by decide
      have hst : (storeCells ⟨g, n, none⟩ []).run Tryz.prog w = .ok () w := rfl
      refine ⟨g, cap, w, ?_, by simpa using hown, ⟨rfl, rfl, rfl, Nat.le_refl _, fun _ _ _ => rfl⟩⟩
      simp [Builtin.append_, hai0, sizeOf, typeInfo, hi, hz1, hz2, hwr0, hnc, Addr.add_lit, hst]
    by_cases hroom : n + m ≤ cap
    · refine ⟨g, cap, w.setRow g (cur.toList.take n ++ bs (List.replicate m 0) ++ cur.toList.drop (n + m)).toArray, ?_, ⟨by simp [bs, hll'], .inr ⟨g, cap, _, rfl, hbg, setRow_heap w g cur _ 5 _ hg, hroom, hcm, ?_, ?_⟩⟩, ⟨rfl, rfl, rfl, by simp, fun k _ hk => setRow_other w g k _ (fun e => hk (by simp [Value.ownBlock, e]))⟩⟩
      · have hst := run_storeCells_at Tryz.prog g n 5 (bs (List.replicate m 0)) 0 cur w hg (by simp [bs]; omega) (by intro u hu; obtain ⟨x, _, rfl⟩ := List.mem_map.1 hu; rfl)
        simp only [Nat.add_zero] at hst
        have hlr : (bs (List.replicate m 0)).length = m := by simp [bs]
        rw [hlr] at hst
        have hzt : (Builtin.zeroCells (Value.int .u8 0).cells m).toList = bs (List.replicate m 0) := by rw [zero_cells]
        simp [Builtin.append_, hai, sizeOf, typeInfo, zeroValue, hi, hz0, hz1, hz2, hwr, h0, h48, hm0, hroom, Addr.add_lit]
        rw [hzt, hst]
        simp [bs]
      · simp [bs]; omega
      · rw [ht', hbl]
        exact List.take_left' (by simp [bs, hll'])
    · have hcn : cap < n + m := by omega
      have h1 : ¬ (281474976710656 < Builtin.nextslicecap (n + m) cap) := by have := growslice_fits (need := n + m) (old := cap) (bytes := 1) (by omega) (by omega); omega
      obtain ⟨f1, f2⟩ := fresh cap (Value.ownBlock (.slice (some ⟨g, 0, none⟩) n cap))
      refine ⟨w.heap.size, _, _, ?_, f1, f2⟩
      have h63 : ¬ 9223372036854775807 < (n : Int) + (m : Int) := by omega
      simp [Builtin.append_, hai, sizeOf, typeInfo, zeroValue, hi, hz0, hz1, hz2, hwr, h0, h48, hm0, hroom, h1, h63, Question.forced, (run_firstCells_some (P := Tryz.prog) w.drew 1 n ⟨g, 0, none⟩ n cap (bs l) (by omega) (by simpa using (hown.cells (g := g) rfl))), newRow, grownCap, zero_cells]
end Go.Proofs.YtokcgifpljeoiaaGreat
end

section
namespace Go.Proofs.YtokcgifpljeoiaaGreat
open Go.RowKit

theorem cleb_snoc : ∀ k m, leb (k + 1) m = leb k m ++ [((m / 256 ^ k % 256 : Nat) : Int)]
  | 0, m => by simp [leb]
  | k + 1, m => by
    rw [leb, cleb_snoc k (m / 256), leb]
    simp [Nat.div_div_eq_div_mul, Nat.pow_succ, Nat.mul_comm]
theorem cleb_bytes : ∀ k m, Bytes (leb k m)
  | 0, _ => by intro x hx; cases hx
  | k + 1, m => by
    intro x hx
    rcases List.mem_cons.1 hx with rfl | hx
    · omega
    · exact cleb_bytes k _ x hx

/-- A writer at p that holds the bytes l; it, and its bytes, lie at B or above. -/
def WAt (w : World) (B p : Nat) (l : List Int) : Prop :=
  B ≤ p ∧ B ≤ w.heap.size ∧ ∃ v, w.heap[p]? = some (.cells #[v] 154 (0, 0)) ∧ w.ownsRow B 5 1 v l.length (bs l) ∧ v.ownBlock ≠ some p

/-- What is appended is stored back. -/
theorem WAt.put {w w1 : World} {B p : Nat} {l' : List Int} {v : Value} {g c : Nat} (hB : B ≤ p) (hz : B ≤ w.heap.size) (hp : w.heap[p]? = some (.cells #[v] 154 (0, 0))) (hn : v.ownBlock ≠ some p) (hlt : ∀ k, v.ownBlock = some k → B ≤ k)
    (hgrow : w.grownBy w1 v.ownBlock) (hown : w1.ownsRow B 5 1 (.slice (some ⟨g, 0, none⟩) l'.length c) l'.length (bs l')) :
    w1.cell? ⟨p, 0, none⟩ = some v ∧ w1.frozen? ⟨p, 0, none⟩ = false ∧ WAt (w1.setCell ⟨p, 0, none⟩ (.slice (some ⟨g, 0, none⟩) l'.length c)) B p l' ∧ Below B w (w1.setCell ⟨p, 0, none⟩ (.slice (some ⟨g, 0, none⟩) l'.length c)) := by
  have hp1 := (hgrow.block p ((Array.getElem?_eq_some_iff.1 hp).1) (fun e => hn e.symm)).trans hp
  have hg : g ≠ p := by
    obtain ⟨g', c', hv, _, hr, _⟩ := RowAt.of_owns hown (by simp)
    cases hv
    exact hr.ne hp1 (by decide)
  refine ⟨cell_of_block hp1 rfl, frozen_of_block hp1 0, ⟨hB, ?_, _, heap_setCell_same _ _ _ _ _ _ hp1, ?_, ?_⟩, ?_⟩
  · simp [World.setCell]; exact Nat.le_trans hz hgrow.size
  · exact hown.kept (grown_setCell w1 ⟨p, 0, none⟩ _) (.inr (by simpa [Value.ownBlock] using hg))
  · simpa [Value.ownBlock] using hg
  · exact ((Below.refl _ w).grown hgrow hz (fun k e => hlt k e)).trans ((Keeps.setCell (F := fun j => j = p) (p := ⟨p, 0, none⟩) w1 rfl _).below (fun j hj => by omega) (Nat.le_trans hz hgrow.size))

set_option maxHeartbeats 4000000 in
theorem wnumber_any (p B : Nat) (l : List Int) (m width : Nat) (w : World) (h : WAt w B p l) (hl : l.length + width ≤ 100000) (_hm : m ≤ 9223372036854775807) :
    Calls Tryz.prog 106 #[.pointer (some ⟨p, 0, none⟩), .int .i64 (m : Int), .int .i64 (width : Int)] w fun e w' => e = .returned (.tuple #[]) ∧ WAt w' B p (l ++ leb width m) ∧ Below B w w' := by
  obtain ⟨i0, hi, hz0, hz1, hz2⟩ := info_parts infoU8
  have H := h
  clear h
  go_enter Tryz.func106, Tryz.ntmps106
  go_wp2
  go_loopw [1, 7] (fun r i wr => ∃ k : Nat, k ≤ width ∧ i = .int .i64 k ∧ r = .int .i64 ((m / 256 ^ k : Nat) : Int) ∧ WAt wr B p (l ++ leb k m) ∧ Below B w wr) (fun _ i _ => width - (intOf i).toNat)
  case atStart => exact ⟨0, Nat.zero_le _, rfl, by simp, by simpa [leb] using H, Below.refl _ _⟩
  case round =>
    obtain ⟨k, hk, rfl, rfl, hat, hbr⟩ := hrel
    by_cases hlt : k < width
    · have hlt' : (k : Int) < (width : Int) := by omega
      obtain ⟨hB, hz, v, hp, hown, hn⟩ := hat
      have hcell := cell_of_block hp (j := 0) rfl
      have hlen : (l ++ leb k m).length = l.length + k := by simp [leb_len]
      rw [hlen] at hown
      have e1 : m / 256 ^ (k + 1) = m / 256 ^ k / 256 := by rw [Nat.div_div_eq_div_mul, Nat.pow_succ]
      have e2 := cleb_snoc k m
      generalize hQ : m / 256 ^ k = Q at *
      have Hown := hown
      have Hp := hp
      have HB := hbr
      have Hn := hn
      have He1 := e1
      have He2 := e2
      clear hown hp hbr hn hQ e1 e2
      go_wp2_with (at_builtin; refine wpList_append_own _ rfl _ _ 22 rfl B 5 i0 (.int .u8 0) 1 1 Tryz.underlying22 hi hz0 hz1 hz2 rfl (by decide) _ _ _ rfl (Hown.alloc _) ⟨wr.heap.size, 0, none⟩ 1 1 [.int .u8 ((Q : Int) % 256)] rfl rfl ?n1 ?n2 ?n3 ?n4 ?n5 ?_)
      case n1 => exact cell_one_new _ _ _
      case n2 => intro u hu; simp at hu; subst hu; rfl
      case n3 => unfold maxLen; omega
      case n4 => omega
      case n5 => simp; omega
      intro v' w1 hown' hgrow' hnil
      obtain ⟨g, c, rfl, hg, hr, hlr⟩ := RowAt.of_owns hown' hnil
      have eN : List.map (Value.int .u8) l ++ (List.map (Value.int .u8) (leb k m) ++ [.int .u8 ((Q : Int) % 256)]) = bs (l ++ leb (k + 1) m) := by
        rw [He2]
        simp [bs]
      have eL : l.length + k + 1 = (l ++ leb (k + 1) m).length := by simp [leb_len]; omega
      rw [eN, eL] at hown'
      have hz' : B ≤ (wr.alloc (.cells #[.int .u8 ((Q : Int) % 256)] 5)).heap.size := by simp; omega
      have hpl := (Array.getElem?_eq_some_iff.1 Hp).1
      obtain ⟨k1, k2, k3, k4⟩ := WAt.put hB hz' ((Below.heap_alloc _ _ _ hpl).trans Hp) Hn (fun k e => (Hown.lt k e).1) hgrow' hown'
      rw [← eL] at k3 k4
      have HK := (And.intro k3 (((HB.alloc hz _).trans k4)))
      clear hown' hgrow' hnil hr hg eN eL k3 k4 Hown Hp HB Hn He2
      go_wp2
      go_roundw
      case rel => exact ⟨k + 1, by omega, by go_num, by rw [He1]; simp, HK⟩
      case measure => simp [intOf]; omega
    · have hlt' : ¬ (k : Int) < (width : Int) := by omega
      have hkw : k = width := by omega
      subst hkw
      have HH := (And.intro hat hbr)
      clear hat hbr
      go_wp2
      go_end0
      exact ⟨rfl, HH⟩

/-- A text's bytes. -/
def txt (s : ByteArray) : List Int := s.data.toList.map (fun b => (b.toNat : Int))
theorem txt_len (s : ByteArray) : (txt s).length = s.size := by simp [txt]
theorem txt_cells (s : ByteArray) : Lib.strCells s = bs (txt s) := by simp [Lib.strCells, bs, txt]
set_option maxHeartbeats 4000000 in
theorem wtext_any (p B : Nat) (l : List Int) (s : ByteArray) (w : World) (h : WAt w B p l) (hs : 0 < s.size) (hl : l.length + s.size ≤ 100000) :
    Calls Tryz.prog 105 #[.pointer (some ⟨p, 0, none⟩), .string s] w fun e w' => e = .returned (.tuple #[]) ∧ WAt w' B p (l ++ txt s) ∧ Below B w w' := by
  obtain ⟨i0, hi, hz0, hz1, hz2⟩ := info_parts infoU8
  obtain ⟨hB, hz, v, hp, hown, hn⟩ := h
  have hcell := cell_of_block hp (j := 0) rfl
  have Hown := hown
  have Hp := hp
  have Hn := hn
  clear hown hp hn
  go_enter Tryz.func105, Tryz.ntmps105
  go_wp2_with (at_builtin; refine Lib.wpList_append_own_string _ rfl _ _ 22 9 rfl B 5 i0 Tryz.underlying22 Tryz.underlying9 hi hz0 hz1 hz2 _ _ _ rfl Hown s rfl ?n3 ?n4 ?n5 ?_)
  case n3 => unfold maxLen; omega
  case n4 => omega
  case n5 => exact hz
  intro v' w1 hown' hgrow' hnil
  have hv : v' ≠ .slice none 0 0 := by rintro rfl; rcases hown'.2 with ⟨_, h⟩ | ⟨_, _, _, h, _⟩; omega; cases h
  obtain ⟨g, c, rfl, hg, hr, hlr⟩ := RowAt.of_owns hown' hv
  rw [txt_cells] at hown'
  have eN : bs l ++ bs (txt s) = bs (l ++ txt s) := by simp [bs]
  have eL : l.length + s.size = (l ++ txt s).length := by simp [txt_len]
  rw [eN, eL] at hown'
  obtain ⟨k1, k2, k3, k4⟩ := WAt.put hB hz Hp Hn (fun k e => (Hown.lt k e).1) hgrow' hown'
  rw [← eL] at k3 k4
  have HK := (And.intro k3 k4)
  clear hown' hgrow' hnil hr hg eN eL k3 k4 Hown Hp Hn hv hlr
  go_wp2
  go_end0
  exact ⟨rfl, HK⟩

/-- append(b, make([]byte, n)...) as a step of a region that draws. -/
theorem step_zeros {ops : Array Oper} {o : Oper} {a : Act} {w : World} {K : Act → World → Prop} {Q : Exit → Act → World → Prop} {E : Prop}
    (hg : o.guard = none) (s x : Operand) (hop : o.op = Op.call { callee := Callee.builtin Builtin.append, args := #[s, x], argTypes := #[22, 3] })
    (base : Nat) (v : Value) (n : Nat) (l : List Int) (m : Nat) (hs : a.eval s = v) (hx : a.eval x = .int .i64 (m : Int)) (hown : w.ownsRow base 5 1 v n (bs l)) (hm : n + m ≤ 1000000) (hbase : base ≤ w.heap.size) (hpos : 0 < n + m)
    (hK : ∀ g c w', w'.ownsRow base 5 1 (.slice (some ⟨g, 0, none⟩) (n + m) c) (n + m) (bs (l ++ List.replicate m 0)) → w.grownBy w' v.ownBlock → K (a.put o.dst (.slice (some ⟨g, 0, none⟩) (n + m) c)) w') :
    if Region.wanted o (yielded ops a.tmps) = true then Oper.wp Tryz.prog o a w K Q else E := by
  have hw : Region.wanted o (yielded ops a.tmps) = true := by simp [Region.wanted, hg]
  rw [if_pos hw]
  obtain ⟨g, c, w', hrun, r1, r2⟩ := append_zeros w base o.type v n l m hown hm hbase hpos
  unfold Oper.wp
  simp [execOp, hop, resolve, invoke, builtin, hs, hx, hrun, Result.andThen]
  exact hK g c w' r1 r2

set_option maxHeartbeats 4000000 in
theorem wzeros_any (p B : Nat) (l : List Int) (m : Nat) (w : World) (h : WAt w B p l) (hl0 : 0 < l.length) (hl : l.length + m ≤ 100000) :
    Calls Tryz.prog 107 #[.pointer (some ⟨p, 0, none⟩), .int .i64 ((l.length + m : Nat) : Int)] w fun e w' => e = .returned (.tuple #[]) ∧ WAt w' B p (l ++ List.replicate m 0) ∧ Below B w w' := by
  obtain ⟨hB, hz, v, hp, hown, hn⟩ := h
  obtain ⟨g, c, hv, hgB, hr, _⟩ := RowAt.of_owns hown (by rintro rfl; rcases hown.2 with ⟨_, h⟩ | ⟨_, _, _, h, _⟩; omega; cases h)
  subst hv
  have hcell := cell_of_block hp (j := 0) rfl
  have hdr : w.drew.ownsRow B 5 1 (.slice (some ⟨g, 0, none⟩) l.length c) l.length (bs l) := hown
  have esub : ((l.length + m : Nat) : Int) - (l.length : Int) = (m : Int) := by omega
  have keyz : ∀ {g2 c2 : Nat} {w2 : World}, w2.ownsRow B 5 1 (.slice (some ⟨g2, 0, none⟩) (l.length + m) c2) (l.length + m) (bs (l ++ List.replicate m 0)) → w.drew.grownBy w2 (Value.ownBlock (.slice (some ⟨g, 0, none⟩) l.length c)) →
      w2.cell? ⟨p, 0, none⟩ = some (.slice (some ⟨g, 0, none⟩) l.length c) ∧ w2.frozen? ⟨p, 0, none⟩ = false ∧ Hid (WAt (w2.setCell ⟨p, 0, none⟩ (.slice (some ⟨g2, 0, none⟩) (l.length + m) c2)) B p (l ++ List.replicate m 0) ∧ Below B w (w2.setCell ⟨p, 0, none⟩ (.slice (some ⟨g2, 0, none⟩) (l.length + m) c2))) := by
    intro g2 c2 w2 hown2 hgrow2
    have eL : l.length + m = (l ++ List.replicate m (0 : Int)).length := by simp
    rw [eL] at hown2
    obtain ⟨k1, k2, k3, k4⟩ := WAt.put (w := w.drew) hB hz hp hn (fun k e => (hown.lt k e).1) hgrow2 hown2
    rw [← eL] at k3 k4
    exact ⟨k1, k2, k3, ⟨k4.os, k4.tape, k4.output, k4.size, k4.block⟩⟩
  have hwm : IntKind.i64.wrap (m : Int) = (m : Int) := by rw [IntKind.wrap_i64]; omega
  generalize hN : l.length + m = N at *
  go_enter Tryz.func107, Tryz.ntmps107
  go_wp2
  go_region_law
    (first
      | (refine step_zeros (by rfl) _ _ (by rfl) B (.slice (some ⟨g, 0, none⟩) l.length c) l.length l m (by rfl) (by rfl) (Hid.mk hdr).out (by omega) hz (by omega) ?_; intro g2 c2 w2 hown2 hgrow2; obtain ⟨k1, k2, k3⟩ := keyz (hN ▸ hown2) hgrow2))
  all_goals
    go_end0
    exact ⟨rfl, k3.out⟩
end Go.Proofs.YtokcgifpljeoiaaGreat
end

section
namespace Go.Proofs.YtokcgifpljeoiaaGreat
open Go.RowKit

/-- A right geometry. -/
def Geo (s l n : Int) : Prop := (18 ≤ l ∧ l ≤ 256) ∧ (4 ≤ n ∧ n ≤ 1024) ∧ n % 4 = 0 ∧ (l + n / 4 + 6 ≤ s ∧ s ≤ 2048)
/-- What Plan answers. -/
def planOut (s l n : Int) (v : Value) (x : Int) : Prop :=
  (Geo s l n ∧ v = .agg #[.int .i64 l, .int .i64 (3 + l), .int .i64 (s - (3 + l)), .int .i64 n, .int .i64 (2 + n / 4)] ∧ x = 0) ∨ (¬ Geo s l n ∧ v = .agg #[.int .i64 0, .int .i64 0, .int .i64 0, .int .i64 0, .int .i64 0] ∧ x = 22)

theorem cbelow_two (w : World) (a b : Obj) : Below w.heap.size w ((w.alloc a).alloc b) := Below.alloc (Below.alloc (Below.refl _ _) (Nat.le_refl _) _) (by simp) _

set_option maxHeartbeats 1000000 in
theorem plan_good (s l n : Int) (w : World) (l1 : 18 ≤ l) (l2 : l ≤ 256) (n1 : 4 ≤ n) (n2 : n ≤ 1024) (h3 : n % 4 = 0) (s1 : l + n / 4 + 6 ≤ s) (s2 : s ≤ 2048) :
    Calls Tryz.prog 82 #[.agg #[.int .i64 s, .int .i64 l, .int .i64 n]] w fun e w' => e = .returned (.tuple #[.agg #[.int .i64 l, .int .i64 (3 + l), .int .i64 (s - (3 + l)), .int .i64 n, .int .i64 (2 + n / 4)], .int .i64 0]) ∧ Below w.heap.size w w' := by
  have hm : n.tmod 4 = n % 4 := Int.tmod_eq_emod_of_nonneg (by omega)
  have hd : n.tdiv 4 = n / 4 := Int.tdiv_eq_ediv_of_nonneg (by omega)
  have s3 : 3 + l + (2 + n / 4) + 1 ≤ s := by omega
  go_enter Tryz.func82, Tryz.ntmps82
  go_wp2
  refine bodyPost_ret (v := .tuple #[.agg #[.int .i64 l, .int .i64 (3 + l), .int .i64 (s - (3 + l)), .int .i64 n, .int .i64 (2 + n / 4)], .int .i64 0]) (by simp [results, Tryz.results82, go_sem]) rfl ⟨rfl, cbelow_two w _ _⟩

set_option maxHeartbeats 1000000 in
theorem plan_badl (s l n : Int) (w : World) (h : ¬ (18 ≤ l ∧ l ≤ 256)) :
    Calls Tryz.prog 82 #[.agg #[.int .i64 s, .int .i64 l, .int .i64 n]] w fun e w' => e = .returned (.tuple #[.agg #[.int .i64 0, .int .i64 0, .int .i64 0, .int .i64 0, .int .i64 0], .int .i64 22]) ∧ Below w.heap.size w w' := by
  by_cases h1 : 18 ≤ l
  · have h2 : ¬ l ≤ 256 := by omega
    go_enter Tryz.func82, Tryz.ntmps82
    go_wp2
    exact bodyPost_ret (v := .tuple #[.agg #[.int .i64 0, .int .i64 0, .int .i64 0, .int .i64 0, .int .i64 0], .int .i64 22]) (by simp [results, Tryz.results82, go_sem]) rfl ⟨rfl, cbelow_two w _ _⟩
  · have h3 : l < 18 := by omega
    go_enter Tryz.func82, Tryz.ntmps82
    go_wp2
    exact bodyPost_ret (v := .tuple #[.agg #[.int .i64 0, .int .i64 0, .int .i64 0, .int .i64 0, .int .i64 0], .int .i64 22]) (by simp [results, Tryz.results82, go_sem]) rfl ⟨rfl, cbelow_two w _ _⟩

set_option maxHeartbeats 1000000 in
theorem plan_badn (s l n : Int) (w : World) (l1 : 18 ≤ l) (l2 : l ≤ 256) (h : ¬ (4 ≤ n ∧ n ≤ 1024)) :
    Calls Tryz.prog 82 #[.agg #[.int .i64 s, .int .i64 l, .int .i64 n]] w fun e w' => e = .returned (.tuple #[.agg #[.int .i64 0, .int .i64 0, .int .i64 0, .int .i64 0, .int .i64 0], .int .i64 22]) ∧ Below w.heap.size w w' := by
  by_cases h1 : 4 ≤ n
  · have h2 : ¬ n ≤ 1024 := by omega
    go_enter Tryz.func82, Tryz.ntmps82
    go_wp2
    exact bodyPost_ret (v := .tuple #[.agg #[.int .i64 0, .int .i64 0, .int .i64 0, .int .i64 0, .int .i64 0], .int .i64 22]) (by simp [results, Tryz.results82, go_sem]) rfl ⟨rfl, cbelow_two w _ _⟩
  · have h3 : n < 4 := by omega
    go_enter Tryz.func82, Tryz.ntmps82
    go_wp2
    exact bodyPost_ret (v := .tuple #[.agg #[.int .i64 0, .int .i64 0, .int .i64 0, .int .i64 0, .int .i64 0], .int .i64 22]) (by simp [results, Tryz.results82, go_sem]) rfl ⟨rfl, cbelow_two w _ _⟩

set_option maxHeartbeats 1000000 in
theorem plan_badm (s l n : Int) (w : World) (l1 : 18 ≤ l) (l2 : l ≤ 256) (n1 : 4 ≤ n) (n2 : n ≤ 1024) (h : ¬ n % 4 = 0) :
    Calls Tryz.prog 82 #[.agg #[.int .i64 s, .int .i64 l, .int .i64 n]] w fun e w' => e = .returned (.tuple #[.agg #[.int .i64 0, .int .i64 0, .int .i64 0, .int .i64 0, .int .i64 0], .int .i64 22]) ∧ Below w.heap.size w w' := by
  have hm : n.tmod 4 = n % 4 := Int.tmod_eq_emod_of_nonneg (by omega)
  have h3' : (n % 4 != 0) = true := by rw [bne_iff_ne]; exact h
  go_enter Tryz.func82, Tryz.ntmps82
  go_wp2
  exact bodyPost_ret (v := .tuple #[.agg #[.int .i64 0, .int .i64 0, .int .i64 0, .int .i64 0, .int .i64 0], .int .i64 22]) (by simp [results, Tryz.results82, go_sem]) rfl ⟨rfl, cbelow_two w _ _⟩

set_option maxHeartbeats 1000000 in
theorem plan_bads (s l n : Int) (w : World) (l1 : 18 ≤ l) (l2 : l ≤ 256) (n1 : 4 ≤ n) (n2 : n ≤ 1024) (h3 : n % 4 = 0) (h : ¬ (l + n / 4 + 6 ≤ s ∧ s ≤ 2048)) :
    Calls Tryz.prog 82 #[.agg #[.int .i64 s, .int .i64 l, .int .i64 n]] w fun e w' => e = .returned (.tuple #[.agg #[.int .i64 0, .int .i64 0, .int .i64 0, .int .i64 0, .int .i64 0], .int .i64 22]) ∧ Below w.heap.size w w' := by
  have hm : n.tmod 4 = n % 4 := Int.tmod_eq_emod_of_nonneg (by omega)
  have hd : n.tdiv 4 = n / 4 := Int.tdiv_eq_ediv_of_nonneg (by omega)
  by_cases h1 : 3 + l + (2 + n / 4) + 1 ≤ s
  · have h2 : ¬ s ≤ 2048 := by omega
    go_enter Tryz.func82, Tryz.ntmps82
    go_wp2
    exact bodyPost_ret (v := .tuple #[.agg #[.int .i64 0, .int .i64 0, .int .i64 0, .int .i64 0, .int .i64 0], .int .i64 22]) (by simp [results, Tryz.results82, go_sem]) rfl ⟨rfl, cbelow_two w _ _⟩
  · have h4 : s < 3 + l + (2 + n / 4) + 1 := by omega
    by_cases h2 : 2048 < s
    · omega
    · clear h
      go_enter Tryz.func82, Tryz.ntmps82
      go_wp2
      exact bodyPost_ret (v := .tuple #[.agg #[.int .i64 0, .int .i64 0, .int .i64 0, .int .i64 0, .int .i64 0], .int .i64 22]) (by simp [results, Tryz.results82, go_sem]) rfl ⟨rfl, cbelow_two w _ _⟩

theorem plan_any (s l n : Int) (w : World) :
    Calls Tryz.prog 82 #[.agg #[.int .i64 s, .int .i64 l, .int .i64 n]] w fun e w' => ∃ v x, e = .returned (.tuple #[v, .int .i64 x]) ∧ planOut s l n v x ∧ Below w.heap.size w w' := by
  have bad : ¬ Geo s l n → ∀ (e : Ending) (w' : World), (e = .returned (.tuple #[.agg #[.int .i64 0, .int .i64 0, .int .i64 0, .int .i64 0, .int .i64 0], .int .i64 22]) ∧ Below w.heap.size w w') → ∃ v x, e = .returned (.tuple #[v, .int .i64 x]) ∧ planOut s l n v x ∧ Below w.heap.size w w' :=
    fun hn e w' h => ⟨_, _, h.1, .inr ⟨hn, rfl, rfl⟩, h.2⟩
  by_cases h1 : 18 ≤ l ∧ l ≤ 256
  · by_cases h2 : 4 ≤ n ∧ n ≤ 1024
    · by_cases h3 : n % 4 = 0
      · by_cases h4 : l + n / 4 + 6 ≤ s ∧ s ≤ 2048
        · exact (plan_good s l n w h1.1 h1.2 h2.1 h2.2 h3 h4.1 h4.2).mono (fun e w' h => ⟨_, _, h.1, .inl ⟨⟨h1, h2, h3, h4⟩, rfl, rfl⟩, h.2⟩)
        · exact (plan_bads s l n w h1.1 h1.2 h2.1 h2.2 h3 h4).mono (bad (fun g => h4 g.2.2.2))
      · exact (plan_badm s l n w h1.1 h1.2 h2.1 h2.2 h3).mono (bad (fun g => h3 g.2.2.1))
    · exact (plan_badn s l n w h1.1 h1.2 h2).mono (bad (fun g => h2 g.2.1))
  · exact (plan_badl s l n w h1).mono (bad (fun g => h1 g.1))

end Go.Proofs.YtokcgifpljeoiaaGreat
end

section
namespace Go.Proofs.YtokcgifpljeoiaaGreat
open Go.RowKit

theorem WAt.far {w w' : World} {B p : Nat} {l : List Int} (h : WAt w B p l) (hb : Below w.heap.size w w') : WAt w' B p l := by
  obtain ⟨hB, hz, v, hp, hown, hn⟩ := h
  exact ⟨hB, Nat.le_trans hz hb.size, v, (hb.block p ((Array.getElem?_eq_some_iff.1 hp).1)).trans hp, hown.kept (row := none) ⟨hb.os, hb.tape, hb.output, hb.size, fun k hk _ => hb.block k hk⟩ (by cases hv : v.ownBlock <;> simp), hn⟩
theorem WAt.new (w : World) : WAt (w.alloc (.cells #[.slice none 0 0] 154)) w.heap.size w.heap.size [] :=
  ⟨Nat.le_refl _, by simp, _, heap_alloc_new w _, World.ownsRow_nil _ _ _ _, by simp [Value.ownBlock]⟩
/-- The writer's bytes, as a row. -/
theorem WAt.row {w : World} {B p : Nat} {l : List Int} (h : WAt w B p l) (h0 : 0 < l.length) : ∃ g c, w.cell? ⟨p, 0, none⟩ = some (.slice (some ⟨g, 0, none⟩) l.length c) ∧ B ≤ g ∧ RowAt w 5 g c (bs l) := by
  obtain ⟨hB, hz, v, hp, hown, hn⟩ := h
  obtain ⟨g, c, hv, hgB, hr, _⟩ := RowAt.of_owns hown (by rintro rfl; rcases hown.2 with ⟨_, h⟩ | ⟨_, _, _, h, _⟩; omega; cases h)
  subst hv
  exact ⟨g, c, cell_of_block hp rfl, hgB, hr⟩

/-- The bytes with their sum behind them. -/
def sealed (l : List Int) : List Int := l ++ leb 4 (sumOf l)
theorem sealed_len (l : List Int) : (sealed l).length = l.length + 4 := by simp [sealed, leb_len]

set_option maxHeartbeats 2000000 in
theorem wsummed_any (p B : Nat) (l : List Int) (w : World) (h : WAt w B p l) (h0 : 0 < l.length) (hl : l.length + 4 ≤ 100000) (hb : Bytes l) :
    Calls Tryz.prog 108 #[.pointer (some ⟨p, 0, none⟩)] w fun e w' => ∃ g c, e = .returned (.slice (some ⟨g, 0, none⟩) (l.length + 4) c) ∧ B ≤ g ∧ RowAt w' 5 g c (bs (sealed l)) ∧ Below B w w' := by
  obtain ⟨g, c, hcell, hg, hr⟩ := h.row h0
  have hz := h.2.1
  have hsum := sum_any (some ⟨g, 0, none⟩) l.length c l w hb (by omega) hr.src
  have hs := sumOf_lt hb
  have hS := (show sealed l = l ++ leb 4 (sumOf l) from rfl)
  generalize sumOf l = S at *
  go_enter Tryz.func108, Tryz.ntmps108
  go_wp2_with fail
  refine hsum.mono ?_
  rintro e w1 ⟨rfl, hb1⟩
  have hnum : Calls Tryz.prog 106 #[.pointer (some ⟨p, 0, none⟩), .int .i64 (S : Int), .int .i64 4] w1 fun e w' => e = .returned (.tuple #[]) ∧ WAt w' B p (l ++ leb 4 S) ∧ Below B w1 w' := wnumber_any p B l S 4 w1 (h.far hb1) hl (by omega)
  have HB1 := hb1.mono hz
  go_wp2_with fail
  refine hnum.mono ?_
  rintro e w2 ⟨rfl, hat2, hb2⟩
  obtain ⟨g2, c2, hcell2, hg2, hr2⟩ := hat2.row (by simp [leb_len])
  have eL : (l ++ leb 4 S).length = l.length + 4 := by simp [leb_len]
  rw [eL] at hcell2
  have HF : (B ≤ g2 ∧ RowAt w2 5 g2 c2 (bs (sealed l)) ∧ Below B w w2) := ⟨hg2, by rw [hS]; exact hr2, HB1.trans hb2⟩
  go_wp2
  go_ret
  exact ⟨g2, c2, rfl, HF⟩

/-- The superblock's head. -/
def headB : ByteArray := ⟨#[118, 101, 108, 108, 117, 109, 0, 1]⟩
def headL : List Int := [118, 101, 108, 108, 117, 109, 0, 1]
theorem head_txt : txt headB = headL := by decide +kernel
/-- What a superblock holds ahead of its sum. -/
def supBody (s l n : Nat) : List Int := headL ++ leb 4 s ++ leb 4 l ++ leb 4 n ++ List.replicate 488 0
theorem supBody_len (s l n : Nat) : (supBody s l n).length = 508 := by simp only [supBody, headL, List.length_append, leb_len, List.length_replicate, List.length_cons, List.length_nil]
theorem supBody_bytes (s l n : Nat) : Bytes (supBody s l n) := by
  intro x hx
  simp only [supBody, List.mem_append] at hx
  rcases hx with (((h | h) | h) | h) | h
  · simp [headL] at h; omega
  · exact cleb_bytes _ _ x h
  · exact cleb_bytes _ _ x h
  · exact cleb_bytes _ _ x h
  · have := List.eq_of_mem_replicate h; omega

/-- What is answered: a new row. -/
def Made (w w' : World) (v : Value) (l : List Int) : Prop := ∃ g c, v = .slice (some ⟨g, 0, none⟩) l.length c ∧ w.heap.size ≤ g ∧ RowAt w' 5 g c (bs l) ∧ Below w.heap.size w w'

set_option maxHeartbeats 4000000 in
theorem encsuper_ok (s l n : Nat) (w : World) (hg : Geo s l n) :
    Calls Tryz.prog 74 #[.agg #[.int .i64 (s : Int), .int .i64 (l : Int), .int .i64 (n : Int)]] w fun e w' => ∃ v, e = .returned (.tuple #[v, .int .i64 0]) ∧ Made w w' v (sealed (supBody s l n)) := by
  obtain ⟨⟨l1, l2⟩, ⟨n1, n2⟩, h3, s1, s2⟩ := hg
  go_enter Tryz.func74, Tryz.ntmps74
  go_wp2_with fail
  refine ((fun w => plan_good s l n w l1 l2 n1 n2 h3 s1 s2) _).mono ?_
  rintro e w1 ⟨rfl, hb1⟩
  have hB1 := ((Below.refl _ w).alloc (Nat.le_refl _) _).trans (hb1.mono (by simp))
  have hq : w1.heap[w.heap.size]? = some (.cells #[.int .i64 (s : Int), .int .i64 (l : Int), .int .i64 (n : Int)] 67 (0, 0)) := (hb1.block _ (by simp)).trans (heap_alloc_new _ _)
  have hql := (Array.getElem?_eq_some_iff.1 hq).1
  have hnew := fun o => by have := WAt.new (w1.alloc o); simpa using this
  have hold : ∀ o, Below w.heap.size w ((w1.alloc o).alloc (.cells #[.slice none 0 0] 154)) ∧ ((w1.alloc o).alloc (.cells #[.slice none 0 0] 154)).heap[w.heap.size]? = some (.cells #[.int .i64 (s : Int), .int .i64 (l : Int), .int .i64 (n : Int)] 67 (0, 0)) := fun o =>
    ⟨(hB1.alloc (by omega) _).alloc (by simp; omega) _, (Below.heap_alloc _ _ _ (by simp; omega)).trans ((Below.heap_alloc _ _ _ hql).trans hq)⟩
  have hlt : w.heap.size < w1.heap.size + 1 := by omega
  go_wp2_with fail
  refine ((fun o => wtext_any (w1.heap.size + 1) (w1.heap.size + 1) [] headB _ (hnew o) (by decide) (by decide)) _).mono ?_
  rintro e w2 ⟨rfl, hat2, hb2⟩
  obtain ⟨hB2, hq2⟩ : Below w.heap.size w w2 ∧ w2.heap[w.heap.size]? = some (.cells #[.int .i64 (s : Int), .int .i64 (l : Int), .int .i64 (n : Int)] 67 (0, 0)) := ⟨(hold _).1.trans (hb2.mono (by omega)), (hb2.block _ hlt).trans (hold _).2⟩
  rw [head_txt, List.nil_append] at hat2
  have c2 := cell_of_block hq2 (j := 0) rfl
  have hn2 : Calls Tryz.prog 106 #[.pointer (some ⟨w1.heap.size + 1, 0, none⟩), .int .i64 (s : Int), .int .i64 4] w2 fun e w' => e = .returned (.tuple #[]) ∧ WAt w' (w1.heap.size + 1) (w1.heap.size + 1) (headL ++ leb 4 s) ∧ Below (w1.heap.size + 1) w2 w' := wnumber_any _ _ _ s 4 w2 hat2 (by decide) (by omega)
  go_wp2_with fail
  refine hn2.mono ?_
  rintro e w3 ⟨rfl, hat3, hb3⟩
  obtain ⟨hB3, hq3⟩ : Below w.heap.size w w3 ∧ w3.heap[w.heap.size]? = some (.cells #[.int .i64 (s : Int), .int .i64 (l : Int), .int .i64 (n : Int)] 67 (0, 0)) := ⟨hB2.trans (hb3.mono (by omega)), (hb3.block _ hlt).trans hq2⟩
  have c3 := cell_of_block hq3 (j := 1) rfl
  have hn3 : Calls Tryz.prog 106 #[.pointer (some ⟨w1.heap.size + 1, 0, none⟩), .int .i64 (l : Int), .int .i64 4] w3 fun e w' => e = .returned (.tuple #[]) ∧ WAt w' (w1.heap.size + 1) (w1.heap.size + 1) (headL ++ leb 4 s ++ leb 4 l) ∧ Below (w1.heap.size + 1) w3 w' := wnumber_any _ _ _ l 4 w3 hat3 (by rw [List.length_append, leb_len]; decide) (by omega)
  go_wp2_with fail
  refine hn3.mono ?_
  rintro e w4 ⟨rfl, hat4, hb4⟩
  obtain ⟨hB4, hq4⟩ : Below w.heap.size w w4 ∧ w4.heap[w.heap.size]? = some (.cells #[.int .i64 (s : Int), .int .i64 (l : Int), .int .i64 (n : Int)] 67 (0, 0)) := ⟨hB3.trans (hb4.mono (by omega)), (hb4.block _ hlt).trans hq3⟩
  have c4 := cell_of_block hq4 (j := 2) rfl
  have hn4 : Calls Tryz.prog 106 #[.pointer (some ⟨w1.heap.size + 1, 0, none⟩), .int .i64 (n : Int), .int .i64 4] w4 fun e w' => e = .returned (.tuple #[]) ∧ WAt w' (w1.heap.size + 1) (w1.heap.size + 1) (headL ++ leb 4 s ++ leb 4 l ++ leb 4 n) ∧ Below (w1.heap.size + 1) w4 w' := wnumber_any _ _ _ n 4 w4 hat4 (by rw [List.length_append, List.length_append, leb_len, leb_len]; decide) (by omega)
  go_wp2_with fail
  refine hn4.mono ?_
  rintro e w5 ⟨rfl, hat5, hb5⟩
  have e20 : (headL ++ leb 4 s ++ leb 4 l ++ leb 4 n).length = 20 := by rw [List.length_append, List.length_append, List.length_append, leb_len, leb_len, leb_len]; rfl
  have hn5 : Calls Tryz.prog 107 #[.pointer (some ⟨w1.heap.size + 1, 0, none⟩), .int .i64 508] w5 fun e w' => e = .returned (.tuple #[]) ∧ WAt w' (w1.heap.size + 1) (w1.heap.size + 1) (supBody s l n) ∧ Below (w1.heap.size + 1) w5 w' := by
    have := wzeros_any _ _ _ 488 w5 hat5 (by rw [e20]; decide) (by rw [e20]; decide)
    rw [e20] at this
    exact this
  go_wp2_with fail
  refine hn5.mono ?_
  rintro e w6 ⟨rfl, hat6, hb6⟩
  have hn6 := wsummed_any _ _ _ w6 hat6 (by rw [supBody_len]; decide) (by rw [supBody_len]; decide) (supBody_bytes s l n)
  rw [supBody_len] at hn6
  go_wp2_with fail
  refine hn6.mono ?_
  rintro e w7 ⟨g, c, rfl, hg, hr, hb7⟩
  have HF : (Made w w7 (.slice (some ⟨g, 0, none⟩) 512 c) (sealed (supBody s l n))) := ⟨g, c, by rw [sealed_len, supBody_len], by omega, hr, ((hB4.trans (hb5.mono (by omega))).trans (hb6.mono (by omega))).trans (hb7.mono (by omega))⟩
  go_wp2
  go_ret2
  exact ⟨_, rfl, HF⟩

set_option maxHeartbeats 2000000 in
theorem encsuper_bad (s l n : Int) (w : World) (hg : ¬ Geo s l n) :
    Calls Tryz.prog 74 #[.agg #[.int .i64 s, .int .i64 l, .int .i64 n]] w fun e w' => e = .returned (.tuple #[.slice none 0 0, .int .i64 22]) ∧ Below w.heap.size w w' := by
  have hp : ∀ w, Calls Tryz.prog 82 #[.agg #[.int .i64 s, .int .i64 l, .int .i64 n]] w fun e w' => e = .returned (.tuple #[.agg #[.int .i64 0, .int .i64 0, .int .i64 0, .int .i64 0, .int .i64 0], .int .i64 22]) ∧ Below w.heap.size w w' := fun w => by
    refine (plan_any s l n w).mono ?_
    rintro e w' ⟨v, x, rfl, ⟨h, _⟩ | ⟨_, rfl, rfl⟩, hb⟩
    · exact absurd h hg
    · exact ⟨rfl, hb⟩
  go_enter Tryz.func74, Tryz.ntmps74
  go_wp2_with fail
  refine (hp _).mono ?_
  rintro e w1 ⟨rfl, hb1⟩
  have hB1 := ((Below.refl _ w).alloc (Nat.le_refl _) _).trans (hb1.mono (by simp))
  go_wp2
  go_ret2
  exact ⟨rfl, (fun o => hB1.alloc hB1.size o) _⟩
end Go.Proofs.YtokcgifpljeoiaaGreat
end
