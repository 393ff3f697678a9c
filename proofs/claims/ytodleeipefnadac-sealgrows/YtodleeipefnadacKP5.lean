import Derived.Test.YtodleeipefnadacKP4
import Derived.Test.YtodleeipefnadacKP3
import Derived.OwnWalk
namespace Go.Proofs.Ytodleeipefnadac
open Go.RowKit

theorem results_tmp4 {P : Program} {fn : Func} {p q r s : Tmp} (h : fn.results = #[.tmp p, .tmp q, .tmp r, .tmp s]) (tmps : Array Value) (w : World) :
    (results fn tmps).run P w = .ok (.tuple #[tmps.getD p undef, tmps.getD q undef, tmps.getD r undef, tmps.getD s undef]) w := by
  simp [results, h]
theorem infoPairL {l r : List Int} (h : l.length = 512) (h2 : r.length = 512) : (Try.prog.info? 97).map (·.size) = some (bs (l ++ r)).length := by
  rw [sizePair, bs, List.length_map, List.length_append, h, h2]
theorem pair_srcs {w : World} {T : TypeId} {g : Nat} {l r : List Int} (h : Blk w T g (l ++ r)) (hl : l.length = 512) (hr : r.length = 512) : Src w (some ⟨g, 0, none⟩) 512 l ∧ Src w (some ⟨g, 512, none⟩) 512 r := by
  have hll : (l ++ r).length = 1024 := by simp; omega
  have h1 := h.src (o := 0) (n := 512) (by omega)
  have h2 := h.src (o := 512) (n := 512) (by omega)
  rw [List.drop_zero, List.take_left' hl] at h1
  rw [List.drop_left' hl, List.take_of_length_le (by omega)] at h2
  exact ⟨h1, h2⟩
theorem secOf_bytes {l : List Int} (h : Bytes l) : Bytes (secOf l) := by unfold secOf; split; exact h; exact Bytes.zeros 512

set_option maxRecDepth 20000 in
set_option maxHeartbeats 4000000 in
theorem pnewest_any (a : Option Addr) (n c : Nat) (l : List Int) (a2 : Option Addr) (m d : Nat) (r : List Int) (w : World) (hs : Src w a n l) (hs2 : Src w a2 m r) (hl : Bytes l) (hr : Bytes r) :
    Calls Try.prog 33 #[.slice a n c, .slice a2 m d] w fun e w' => ∃ v, e = .returned (.tuple #[.int .i64 (((snewest l r).1 : Nat) : Int), .int .i64 (((snewest l r).2.1 : Nat) : Int), v, .int .i64 (((snewest l r).2.2.2 : Nat) : Int)]) ∧ Lst w' w.heap.size v (snewest l r).2.2.1 ∧ Below w.heap.size w w' := by
  have hz := zeroPair
  have h1 := pairOf_any a n c l a2 m d r w hs hs2
  have hln := hs.1
  have hrn := hs2.1
  have hinfo := infoPairL (secOf_len l) (secOf_len r)
  have hone := bs_one (secOf l ++ secOf r)
  have hall := all_oneCell_toArray hone
  have hFl : (bs (secOf l ++ secOf r)).length = 1024 := by rw [bs, List.length_map, List.length_append, secOf_len, secOf_len]
  obtain ⟨F, hF⟩ : ∃ F, F = bs (secOf l ++ secOf r) := ⟨_, rfl⟩
  rw [← hF] at h1 hinfo hall hFl
  have HF := Hid.mk hF
  clear hone hF hs hs2
  go_enter Try.func33, Try.ntmps33
  go_wp2_with fail
  refine h1.mono ?_
  rintro e w1 ⟨rfl, hb1⟩
  have hw1 : (w1.alloc (.cells zpair 97)).heap[w1.heap.size]? = some (.cells zpair 97 (0, 0)) := heap_alloc_new _ _
  have hth := there_of hw1 zpair_size
  rw [← hFl] at hth
  have hB1 : Below w.heap.size w (w1.alloc (.cells zpair 97)) := hb1.alloc hb1.size _
  have hsz := hb1.size
  have hB2 := hB1.trans ((Keeps.setCells (F := fun j => j = w1.heap.size) rfl F 0 _).below (fun j hj => by omega) hB1.size)
  have hblk := blk_stored (l := secOf l ++ secOf r) hw1 (by rw [zpair_size, List.length_append, secOf_len, secOf_len])
  rw [← HF.out] at hblk
  obtain ⟨w2, hw2⟩ : ∃ w2, w2 = (w1.alloc (.cells zpair 97)).setCells w1.heap.size 0 F := ⟨_, rfl⟩
  rw [← hw2] at hB2 hblk
  have HB2 := Hid.mk hB2
  have Hblk := Hid.mk hblk
  have HW2 := Hid.mk hw2
  clear h1 hw1 hB1 hb1 hB2 hblk hw2
  by_cases hwh : n = 512 ∧ m = 512
  · obtain ⟨rfl, rfl⟩ := hwh
    have el := secOf_self hln
    have er := secOf_self hrn
    rw [el, er] at Hblk
    obtain ⟨s1, s2⟩ := pair_srcs Hblk.out hln hrn
    have k1 := newest_any w1.heap.size l r w2 s1 s2 hl hr
    have hse := snewest_eq hln hrn
    have hsm : (snewest l r).2.1 ≤ 9223372036854775807 := by
      have sl := sanchor_small l
      have sr := sanchor_small r
      rw [hse]; split
      · simp
      · split <;> simp only <;> omega
    have herr : ((snewest l r).2.1 = 0 ∧ (snewest l r).1 = 0 ∧ (snewest l r).2.2.1 = [] ∧ (snewest l r).2.2.2 = 30) ∨ (0 < (snewest l r).2.1 ∧ (snewest l r).2.2.2 = 0) := by
      rw [hse]
      by_cases q : (sanchor l).1 = 0 ∧ (sanchor r).1 = 0
      · rw [if_pos q]; exact .inl ⟨rfl, rfl, rfl, rfl⟩
      · rw [if_neg q]
        by_cases q2 : (sanchor l).1 < (sanchor r).1
        · rw [if_pos q2]; exact .inr ⟨by simp only; omega, rfl⟩
        · rw [if_neg q2]; exact .inr ⟨by simp only; omega, rfl⟩
    clear hse Hblk s1 s2 el er
    go_wp2_with (refine wpList_store_mid rfl 97 _ _ rfl w1.heap.size 0 F.toArray rfl rfl ?h1 ?h2 hall ?_)
    case h1 => simpa using hth
    case h2 => simpa using hinfo
    rw [← HW2.out]
    refine k1.mono ?_
    rintro e w3 ⟨v, rfl, hlst, hb3⟩
    obtain ⟨va, vc, hv, hq⟩ := hlst
    subst hv
    have hlst : LstIn w3 w1.heap.size _ _ := ⟨va, vc, rfl, hq⟩
    have hB3 := HB2.out.trans (hb3.mono HB2.out.size)
    have HL := Hid.mk (fun w' (h : Below w3.heap.size w3 w') => And.intro ((hlst.lst hsz).later h) (hB3.trans (h.mono hB3.size)))
    obtain ⟨A, hA⟩ : ∃ A, A = (snewest l r).1 := ⟨_, rfl⟩
    obtain ⟨B, hB⟩ : ∃ B, B = (snewest l r).2.1 := ⟨_, rfl⟩
    obtain ⟨D, hD⟩ : ∃ D, D = (snewest l r).2.2.1 := ⟨_, rfl⟩
    obtain ⟨E, hE⟩ : ∃ E, E = (snewest l r).2.2.2 := ⟨_, rfl⟩
    rw [← hA, ← hB, ← hD, ← hE] at herr
    rw [← hB] at hsm
    rw [← hD] at HL
    rw [← hA, ← hB, ← hD]
    have HE := Hid.mk (And.intro hA (And.intro hB (And.intro hD hE)))
    clear k1 hq hlst hb3 HW2 hth hinfo hall hB3 HB2 hA hB hD hE
    rcases herr with ⟨rfl, rfl, rfl, rfl⟩ | ⟨hB0, rfl⟩
    · go_wp2
      exact bodyPost_ret (results_tmp4 (P := Try.prog) rfl _ _) rfl ⟨.slice none 0 0, by rw [← HE.out.1, ← HE.out.2.1, ← HE.out.2.2.2]; rfl, by rw [← HE.out.2.2.1]; exact Lst.nil _ _, (HL.out _ ((Below.refl _ w3).alloc (Nat.le_refl _) _)).2⟩
    · have hB0' : ((B : Int) == 0) = false := by rw [beq_eq_false_iff_ne]; omega
      generalize hDL : D.length = DL at *
      have HDL := Hid.mk hDL
      clear hDL
      go_wp2
      go_quiet (fail)
      go_wp2
      exact bodyPost_ret (results_tmp4 (P := Try.prog) rfl _ _) rfl ⟨.slice va DL vc, by rw [← HE.out.1, ← HE.out.2.1, ← HE.out.2.2.2]; rfl, by rw [← HE.out.2.2.1]; exact (HL.out _ (below_drewN ((Below.refl _ w3).alloc (Nat.le_refl _) _) _)).1, (HL.out _ (below_drewN ((Below.refl _ w3).alloc (Nat.le_refl _) _) _)).2⟩
  · have e1 : snewest l r = (0, 0, [], 2) := by unfold snewest; rw [if_pos (by omega)]
    have hbb : (decide (n = 512) && decide (m = 512)) = false := by
      rw [← Bool.decide_and, decide_eq_false hwh]
    have He1 := Hid.mk e1
    rw [hbb]
    clear e1 hbb hwh
    go_wp2_with (refine wpList_store_mid rfl 97 _ _ rfl w1.heap.size 0 F.toArray rfl rfl ?h1 ?h2 hall ?_)
    case h1 => simpa using hth
    case h2 => simpa using hinfo
    rw [← HW2.out]
    exact bodyPost_ret (results_tmp4 (P := Try.prog) rfl _ _) rfl ⟨.slice none 0 0, by rw [He1.out]; rfl, by rw [He1.out]; exact Lst.nil _ _, HB2.out⟩
end Go.Proofs.Ytodleeipefnadac
