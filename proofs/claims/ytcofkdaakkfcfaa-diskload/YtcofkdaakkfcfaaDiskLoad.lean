import Derived.Test.YtcofkdaakkfcfaaRead
namespace Go.Proofs.Ytcofkdaakkfcfaa
open Go.RowKit Go.Maps

set_option maxHeartbeats 1000000 in
theorem dload_bad (a : Option Addr) (n c : Nat) (l : List Int) (w : World) (hn : n ≤ 140737488355328) (hs : Src w a n l) (h : n % 512 ≠ 0) :
    Calls Try.prog 4 #[.slice a n c] w fun e w' => e = .returned (.bool true) ∧ Below w.heap.size w w' := by
  have h' : (((n : Int) % 512) != 0) = true := by rw [bne_iff_ne]; omega
  have ht := twin_any a n c l w hn hs
  clear hs
  go_enter Try.func4, Try.ntmps4
  go_wp2_with fail
  refine ht.mono ?_
  rintro e w1 ⟨g, rfl, _, _, hb⟩
  have hl := load_bad (some ⟨g, 0, none⟩) n n w1 h hn
  go_wp2_with fail
  refine hl.mono ?_
  rintro e w2 ⟨rfl, rfl⟩
  go_wp2
  go_ret
  exact ⟨rfl, hb⟩

set_option maxHeartbeats 1000000 in
theorem dload_no (a : Option Addr) (n c : Nat) (l : List Int) (w : World) (hn : n ≤ 140737488355328) (hs : Src w a n l) (h : n % 512 = 0) (h0 : n = 0 ∨ 1048576 < n) :
    Calls Try.prog 4 #[.slice a n c] w fun e w' => e = .returned (.bool true) ∧ Below w.heap.size w w' := by
  have h' : (((n : Int) % 512) != 0) = false := by rw [Bool.eq_false_iff, ne_eq, bne_iff_ne]; omega
  rcases h0 with h0 | h0
  · subst h0
    have ht := twin_any a 0 c l w hn hs
    clear hs h'
    go_enter Try.func4, Try.ntmps4
    go_wp2_with fail
    refine ht.mono ?_
    rintro e w1 ⟨g, rfl, _, _, hb⟩
    have hl := load_no (some ⟨g, 0, none⟩) 0 0 w1 rfl (.inl rfl) (by omega)
    go_wp2_with fail
    refine hl.mono ?_
    rintro e w2 ⟨rfl, rfl⟩
    go_wp2
    go_ret
    exact ⟨rfl, hb⟩
  · have ht := twin_any a n c l w hn hs
    clear hs
    have e1 : ¬ (n : Int) / 512 < 1 := by omega
    have e2 : 2048 < (n : Int) / 512 := by omega
    go_enter Try.func4, Try.ntmps4
    go_wp2_with fail
    refine ht.mono ?_
    rintro e w1 ⟨g, rfl, _, _, hb⟩
    have hl := load_no (some ⟨g, 0, none⟩) n n w1 h (.inr h0) hn
    go_wp2_with fail
    refine hl.mono ?_
    rintro e w2 ⟨rfl, rfl⟩
    go_wp2
    go_ret
    exact ⟨rfl, hb⟩

theorem sub_src {w : World} {b o n k : Nat} {l : List Int} (h : ∀ i, i < n → w.cell? ⟨b, o + i, none⟩ = some (.int .u8 (l.getD i 0))) (hl : l.length = n) (hk : k * 512 + 512 ≤ n) : Src w (some ⟨b, o + k * 512, none⟩) 512 (sec l k) := by
  refine ⟨by simp [sec]; omega, (fun h => by cases h), fun x hx i hi => ?_⟩
  cases hx
  rw [addr_add, Nat.add_assoc, h (k * 512 + i) (by omega)]
  simp [sec, List.getD, hi]

set_option maxHeartbeats 2000000 in
theorem dload_ok (b o n c s : Nat) (l : List Int) (w : World) (hc : ∀ i, i < n → w.cell? ⟨b, o + i, none⟩ = some (.int .u8 (l.getD i 0))) (hll : l.length = n) (h : n = s * 512) (hcap : n ≤ c) (h1 : 1 ≤ s) (h2 : s ≤ 2048) :
    Calls Try.prog 4 #[.slice (some ⟨b, o, none⟩) n c] w fun e w' => e = .returned (.bool true) ∧ Below w.heap.size w w' := by
  have h' : (((n : Int) % 512) != 0) = false := by rw [Bool.eq_false_iff, ne_eq, bne_iff_ne]; omega
  have hss : Src w (some ⟨b, o, none⟩) n l := ⟨hll, (fun h => by cases h), fun x hx i hi => by cases hx; rw [addr_add]; exact hc i hi⟩
  have Hs := Hid.mk hss
  have Hc := Hid.mk hc
  have hq : ((n : Int) / 512) = (s : Int) := by omega
  have ht := twin_any (some ⟨b, o, none⟩) n c l w (by omega) hss
  have e1 : ¬ (s : Int) < 1 := by omega
  have e2 : ¬ 2048 < (s : Int) := by omega
  have e3 : ((s : Int) != (s : Int)) = false := by simp
  have Hn := Hid.mk h
  clear hss hc h
  go_enter Try.func4, Try.ntmps4
  go_wp2_with fail
  refine ht.mono ?_
  rintro e w1 ⟨g, rfl, hg, hr, hb1⟩
  have hl := load_ok ⟨g, 0, none⟩ n n s l w1 Hn.out h1 h2 hll (fun i hi => hr.byte (by omega))
  clear hr ht
  go_wp2_with fail
  refine hl.mono ?_
  rintro e w2 ⟨p, rfl, hd, hb2⟩
  have hb : Below w.heap.size w w2 := hb1.trans (hb2.mono hb1.size)
  have hz1 := hb1.size
  obtain ⟨F, hd, hFl⟩ : ∃ F, DiskAt w2 F p s (DS.fresh l) ∧ ∀ k, F k → w.heap.size ≤ k := ⟨_, hd, fun k h => by omega⟩
  have hsec := sectors_at hd
  have hbu : Calls Try.prog 11 #[.pointer (some ⟨p, 0, none⟩)] w2 fun e w' => e = .returned (.bool false) ∧ w' = w2 := burnt_at hd
  have hli : Calls Try.prog 12 #[.pointer (some ⟨p, 0, none⟩)] w2 fun e w' => e = .returned (.int .i64 1) ∧ w' = w2 := life_at hd
  have him := image_any p s _ _ w2 hd
  have Hd := Hid.mk hd
  clear hd hb1 hb2 hl
  go_wp2_with fail
  refine hsec.mono ?_
  rintro e w3 ⟨rfl, hw⟩
  subst hw
  go_wp2_with fail
  refine hbu.mono ?_
  rintro e w4 ⟨rfl, hw⟩
  subst hw
  go_wp2_with fail
  refine hli.mono ?_
  rintro e w5 ⟨rfl, hw⟩
  subst hw
  go_wp2_with fail
  refine him.mono ?_
  rintro e w6 ⟨gi, cgi, rfl, hgi, hri, hb6⟩
  have hd6 := Hd.out.keep (Keeps.of_below (fun _ => False) hb6) (fun _ _ h => h)
  have hbb : Below w.heap.size w w6 := hb.trans (hb6.mono hb.size)
  have hsrc := hri.src
  have hsa := same_any (some ⟨gi, 0, none⟩) (some ⟨b, o, none⟩) n cgi c l w6 (by omega) (by have := hri.src; rw [show (DS.fresh l).im = l from rfl] at this; rw [hll] at this; exact this) (Hs.out.later hbb)
  rw [← Hn.out]
  have Hd6 := Hid.mk hd6
  clear hd6 hri hsrc hb6 Hd hsec hbu hli him
  go_wp2_with fail
  refine hsa.mono ?_
  rintro e w7 ⟨rfl, hb7⟩
  have hd7 := Hid.mk (Hd6.out.keep (Keeps.of_below (fun _ => False) hb7) (fun _ _ h => h))
  have hb8 : Below w.heap.size w w7 := hbb.trans (hb7.mono hbb.size)
  clear hb7 hbb Hd6 hsa
  go_wp2
  go_loopw [7] (fun i wr => ∃ k : Nat, k ≤ s ∧ i = .int .i64 k ∧ Below w.heap.size w wr ∧ ∃ S : DS, DiskAt wr F p s S ∧ S.im = l ∧ S.puts = [] ∧ S.fuse = -1) (fun i _ => s - (intOf i).toNat)
  case atStart => exact ⟨0, Nat.zero_le _, rfl, hb8, DS.fresh l, hd7.out, rfl, rfl, rfl⟩
  case round =>
    clear hd7 hb8
    obtain ⟨k, hk, rfl, hbr, S, hd, hi, hp, hf⟩ := hrel
    by_cases hlt : k < s
    · have hlt' : (k : Int) < (s : Int) := by omega
      have hre := read_ok hd k (by rw [hf]; decide) hlt (by rw [hp]; simp)
      have hnow : S.now k = sec l k := by simp [DS.now, DS.cand, hp, pendOf, hi]
      have hsb := Hid.mk (fun (wx : World) (hx : Below w.heap.size w wx) => sub_src (w := wx) (b := b) (o := o) (n := n) (k := k) (l := l) (fun i hi => cell_later hx (Hc.out i hi)) hll (by have := Hn.out; omega))
      have Hnow := Hid.mk hnow
      have hkk : k * 512 + 512 ≤ n := by have := Hn.out; omega
      have Hi := Hid.mk hi
      have Hp := Hid.mk hp
      have Hf := Hid.mk hf
      have Hsz := Hid.mk hbr.size
      clear hd hnow hi hp hf
      go_wp2_with fail
      refine hre.mono ?_
      rintro e wr1 ⟨g1, c1, rfl, hg1, hr1, hd1, hke⟩
      have hbr1 : Below w.heap.size w wr1 := hbr.trans (hke.below (fun j hj => hFl j hj) hbr.size)
      have hl5 : (sec l k).length = 512 := by simp [sec]; omega
      rw [Hnow.out] at hr1
      have hs1 := hr1.src
      rw [hl5] at hs1
      have hsa := fun cx => same_any (some ⟨g1, 0, none⟩) (some ⟨b, o + k * 512, none⟩) 512 c1 cx (sec l k) wr1 (by omega) hs1 (hsb.out wr1 hbr1)
      have Hd1 := Hid.mk hd1
      clear hd1 hr1 hs1 hke hbr
      go_wp2_with fail
      refine (hsa _).mono ?_
      rintro e wr2 ⟨rfl, hb9⟩
      have hd9 := Hid.mk (Hd1.out.keep (Keeps.of_below (fun _ => False) hb9) (fun _ _ h => h))
      have hb10 : Below w.heap.size w wr2 := hbr1.trans (hb9.mono hbr1.size)
      clear hb9 Hd1 hsa hre hbr1 hsb
      go_wp2
      go_roundw
      case rel => exact ⟨k + 1, by omega, by go_num, hb10, S.read, hd9.out, Hi.out, Hp.out, Hf.out⟩
      case measure => simp [intOf]; omega
    · have hlt' : ¬ (k : Int) < (s : Int) := by omega
      go_wp2
      go_ret
      exact ⟨rfl, hbr⟩
end Go.Proofs.Ytcofkdaakkfcfaa
