import Derived.Test.YtodleeipefnadaaXKP1
namespace Go.Proofs.Ytodleeipefnadaa
open Go.RowKit

theorem infoSec512 {F : List Value} (h : F.length = 512) : (Try.prog.info? 91).map (·.size) = some F.length := by rw [sizeSec, h]

theorem wpList_build_pair {ops : Array Oper} {rest : List Oper} {op : Oper} {a : Act} {w : World} {Q : Exit → Act → World → Prop} (hgd : op.guard = none) (x y : Operand) (ho : op.op = .build 93 #[(0, x), (1, y)])
    (F G P : Array Value) (hx : a.eval x = .agg F) (hy : a.eval y = .agg G) (hF : F.size = 512) (hG : G.size = 512) (hP : P = F ++ G)
    (h : wpList Try.prog ops Q rest (a.put op.dst (.agg P)) w) : wpList Try.prog ops Q (op :: rest) a w :=
  wpList_plain hgd fun K hK => by
    subst hP
    have hb := build_pair F G hF hG w
    unfold Oper.wp execOp
    simp only [ho]
    have e : (#[(0, x), (1, y)] : Array (Nat × Operand)).map (fun (i, o) => (i, a.eval o)) = #[(0, .agg F), (1, .agg G)] := by simp [hx, hy]
    rw [e, Sem.run_bind, hb]
    exact hK _ _ h

set_option maxRecDepth 20000 in
set_option maxHeartbeats 4000000 in
theorem pairOf_low (b1 b2 : Bool) (F G : List Value) (hF : F.length = 512) (hG : G.length = 512) (h1F : ∀ v ∈ F, v.oneCell' = true) (h1G : ∀ v ∈ G, v.oneCell' = true) (x y : Value) (w : World)
    (hc1 : ∀ w' : World, Below w.heap.size w w' → Calls Try.prog 71 #[x] w' fun e w'' => e = .returned (.tuple #[.agg F.toArray, .bool b1]) ∧ Below w'.heap.size w' w'')
    (hc2 : ∀ w' : World, Below w.heap.size w w' → Calls Try.prog 71 #[y] w' fun e w'' => e = .returned (.tuple #[.agg G.toArray, .bool b2]) ∧ Below w'.heap.size w' w'') :
    Calls Try.prog 59 #[x, y] w fun e w' => e = .returned (.tuple #[.agg (F.toArray ++ G.toArray), .bool (b1 && b2)]) ∧ Below w.heap.size w w' := by
  cases b1
  · have hz := zeroSec
    have hzp := zeroPair
    have hsF : F.toArray.size = 512 := by simpa using hF
    have hsG : G.toArray.size = 512 := by simpa using hG
    have hinfoF := infoSec512 hF
    have hinfoG := infoSec512 hG
    have hinfoP : (Try.prog.info? 93).map (·.size) = some (F.toArray ++ G.toArray).size := by rw [sizePair]; simp; omega
    have hallF := all_oneCell_toArray h1F
    have hallG := all_oneCell_toArray h1G
    have hallP : (F.toArray ++ G.toArray).all (·.oneCell') = true := by
      have := all_oneCell_toArray (cs := F ++ G) (fun v hv => (List.mem_append.1 hv).elim (h1F v) (h1G v))
      simpa using this
    have hB1 : Below w.heap.size w (w.alloc (.cells zpair 93)) := (Below.refl _ w).alloc (Nat.le_refl _) _
    have k1 := hc1 _ hB1
    have HB1 := Hid.mk hB1
    have hres0 : (w.alloc (.cells zpair 93)).heap[w.heap.size]? = some (.cells zpair 93 (0, 0)) := heap_alloc_new _ _
    have Hres0 := Hid.mk hres0
    have Hc2 := Hid.mk hc2
    have hw1 : w.heap.size < (w.alloc (.cells zpair 93)).heap.size := by simp
    clear hB1 hc1 hc2 hres0
    go_enter Try.func59, Try.ntmps59
    go_wp2_with fail
    refine k1.mono ?_
    rintro e w1 ⟨rfl, hb1⟩
    have hB2 := HB1.out.trans (hb1.mono HB1.out.size)
    have hres1 := (hb1.block w.heap.size hw1).trans Hres0.out
    have hz1 := hB2.size
    have hsz1 : w.heap.size < w1.heap.size := Nat.lt_of_lt_of_le hw1 hb1.size
    have hn1 : (w1.alloc (.cells zsec 91)).heap[w1.heap.size]? = some (.cells zsec 91 (0, 0)) := heap_alloc_new _ _
    have hth := there_of hn1 zsec_size
    rw [← hF] at hth
    have hB3 : Below w.heap.size w (w1.alloc (.cells zsec 91)) := hB2.alloc hz1 _
    have hB4 := hB3.trans ((Keeps.setCells (F := fun j => j = w1.heap.size) rfl F 0 _).below (fun j hj => by omega) hB3.size)
    have hrF := World.rangeAt_setCells_same (w1.alloc (.cells zsec 91)) w1.heap.size 0 F hth
    have hres2 : ((w1.alloc (.cells zsec 91)).setCells w1.heap.size 0 F).heap[w.heap.size]? = some (.cells zpair 93 (0, 0)) :=
      ((Keeps.setCells (F := fun j => j = w1.heap.size) rfl F 0 _).block w.heap.size (by simp; omega) (by omega)).trans ((heap_alloc_old w1 _ hsz1).trans hres1)
    have hsz2 : ((w1.alloc (.cells zsec 91)).setCells w1.heap.size 0 F).heap.size = w1.heap.size + 1 := by rw [size_setCells]; simp
    obtain ⟨w2, hw2⟩ : ∃ w2, w2 = (w1.alloc (.cells zsec 91)).setCells w1.heap.size 0 F := ⟨_, rfl⟩
    rw [← hw2] at hB4 hrF hres2 hsz2
    have k2 := Hc2.out w2 hB4
    have HW2 := Hid.mk hw2
    have HB4 := Hid.mk hB4
    have HrF := Hid.mk hrF
    have Hres2 := Hid.mk hres2
    clear k1 hb1 hB2 hres1 hn1 hB3 hB4 hrF hres2 hw2 Hc2 HB1 Hres0
    go_wp2_with (refine wpList_store_mid rfl 91 _ _ rfl w1.heap.size 0 F.toArray rfl rfl ?h1 ?h2 hallF ?_)
    case h1 => simpa using hth
    case h2 => simpa using hinfoF
    rw [← HW2.out]
    refine k2.mono ?_
    rintro e w3 ⟨rfl, hb3⟩
    have hB5 := HB4.out.trans (hb3.mono HB4.out.size)
    have hres3 := (hb3.block w.heap.size (by omega)).trans Hres2.out
    have hz3 := hB5.size
    have hsz3 : w2.heap.size ≤ w3.heap.size := hb3.size
    have hn3 : (w3.alloc (.cells zsec 91)).heap[w3.heap.size]? = some (.cells zsec 91 (0, 0)) := heap_alloc_new _ _
    have hth3 := there_of hn3 zsec_size
    rw [← hG] at hth3
    have hB6 : Below w.heap.size w (w3.alloc (.cells zsec 91)) := hB5.alloc hz3 _
    have hB7 := hB6.trans ((Keeps.setCells (F := fun j => j = w3.heap.size) rfl G 0 _).below (fun j hj => by omega) hB6.size)
    have hrG := World.rangeAt_setCells_same (w3.alloc (.cells zsec 91)) w3.heap.size 0 G hth3
    have hrF3 : ((w3.alloc (.cells zsec 91)).setCells w3.heap.size 0 G).rangeAt w1.heap.size 0 F := by
      intro j v hv
      have hq := HrF.out j v hv
      rw [World.cell?_of_block (w := w2) (a := ⟨w1.heap.size, 0 + j, none⟩)]
      · exact hq
      · exact ((Keeps.setCells (F := fun j => j = w3.heap.size) rfl G 0 _).block w1.heap.size (by simp; omega) (by omega)).trans ((heap_alloc_old w3 _ (show w1.heap.size < w3.heap.size by omega)).trans (hb3.block w1.heap.size (by omega)))
    have hres4 : ((w3.alloc (.cells zsec 91)).setCells w3.heap.size 0 G).heap[w.heap.size]? = some (.cells zpair 93 (0, 0)) :=
      ((Keeps.setCells (F := fun j => j = w3.heap.size) rfl G 0 _).block w.heap.size (by simp; omega) (by omega)).trans ((heap_alloc_old w3 _ (show w.heap.size < w3.heap.size by omega)).trans hres3)
    obtain ⟨w4, hw4⟩ : ∃ w4, w4 = (w3.alloc (.cells zsec 91)).setCells w3.heap.size 0 G := ⟨_, rfl⟩
    rw [← hw4] at hB7 hrG hrF3 hres4
    have hthP : w4.there w.heap.size 0 (F.toArray ++ G.toArray).toList.length := there_of hres4 (by rw [zpair_size]; simp; omega)
    have hrP := Hid.mk (World.rangeAt_setCells_same w4 w.heap.size 0 (F.toArray ++ G.toArray).toList hthP)
    have hB8 := Hid.mk (hB7.trans ((Keeps.setCells (F := fun j => j = w.heap.size) rfl (F.toArray ++ G.toArray).toList 0 w4).below (fun j hj => by omega) hB7.size))
    have HW4 := Hid.mk hw4
    have hinfoP' : (Try.prog.info? 93).map (·.size) = some (F.toArray ++ G.toArray).toList.length := by rw [sizePair]; simp; omega
    obtain ⟨P, hP⟩ : ∃ P, P = F.toArray ++ G.toArray := ⟨_, rfl⟩
    rw [← hP] at hinfoP hallP hthP hrP hB8 hinfoP'
    have HP := Hid.mk hP
    clear k2 hb3 hB5 hres3 hn3 hB6 hB7 hres4 hw4 hP HB4 HrF Hres2 HW2
    go_wp2_with (first | refine wpList_build_pair rfl _ _ rfl F.toArray G.toArray P rfl rfl hsF hsG HP.out ?_ | refine wpList_store_mid rfl 91 _ _ rfl w3.heap.size 0 G.toArray rfl rfl ?h1 ?h2 hallG ?_ | (rw [← HW4.out]; first | refine wpList_load_mid rfl 91 _ rfl w1.heap.size 0 rfl F _ hrF3 Try.underlying91 rfl hinfoF ?_ | refine wpList_load_mid rfl 91 _ rfl w3.heap.size 0 rfl G _ hrG Try.underlying91 rfl hinfoG ?_) | refine wpList_load_mid rfl 91 _ rfl w1.heap.size 0 rfl F _ hrF3 Try.underlying91 rfl hinfoF ?_ | refine wpList_load_mid rfl 91 _ rfl w3.heap.size 0 rfl G _ hrG Try.underlying91 rfl hinfoG ?_ | refine wpList_store_mid rfl 93 _ _ rfl w.heap.size 0 P rfl rfl ?h3 ?h4 hallP ?_)
    case h1 => simpa using hth3
    case h2 => simpa using hinfoG
    case h3 => simpa using hthP
    case h4 => simpa using hinfoP
    have eP : P.toList.toArray = (F ++ G).toArray := by rw [HP.out]; simp
    exact bodyPost_ret (results_cell_tmp (P := Try.prog) rfl _ _ w.heap.size P.toList _ _ rfl rfl hrP.out Try.underlying93 rfl hinfoP') rfl ⟨by rw [eP]; rfl, hB8.out⟩
  · have hz := zeroSec
    have hzp := zeroPair
    have hsF : F.toArray.size = 512 := by simpa using hF
    have hsG : G.toArray.size = 512 := by simpa using hG
    have hinfoF := infoSec512 hF
    have hinfoG := infoSec512 hG
    have hinfoP : (Try.prog.info? 93).map (·.size) = some (F.toArray ++ G.toArray).size := by rw [sizePair]; simp; omega
    have hallF := all_oneCell_toArray h1F
    have hallG := all_oneCell_toArray h1G
    have hallP : (F.toArray ++ G.toArray).all (·.oneCell') = true := by
      have := all_oneCell_toArray (cs := F ++ G) (fun v hv => (List.mem_append.1 hv).elim (h1F v) (h1G v))
      simpa using this
    have hB1 : Below w.heap.size w (w.alloc (.cells zpair 93)) := (Below.refl _ w).alloc (Nat.le_refl _) _
    have k1 := hc1 _ hB1
    have HB1 := Hid.mk hB1
    have hres0 : (w.alloc (.cells zpair 93)).heap[w.heap.size]? = some (.cells zpair 93 (0, 0)) := heap_alloc_new _ _
    have Hres0 := Hid.mk hres0
    have Hc2 := Hid.mk hc2
    have hw1 : w.heap.size < (w.alloc (.cells zpair 93)).heap.size := by simp
    clear hB1 hc1 hc2 hres0
    go_enter Try.func59, Try.ntmps59
    go_wp2_with fail
    refine k1.mono ?_
    rintro e w1 ⟨rfl, hb1⟩
    have hB2 := HB1.out.trans (hb1.mono HB1.out.size)
    have hres1 := (hb1.block w.heap.size hw1).trans Hres0.out
    have hz1 := hB2.size
    have hsz1 : w.heap.size < w1.heap.size := Nat.lt_of_lt_of_le hw1 hb1.size
    have hn1 : (w1.alloc (.cells zsec 91)).heap[w1.heap.size]? = some (.cells zsec 91 (0, 0)) := heap_alloc_new _ _
    have hth := there_of hn1 zsec_size
    rw [← hF] at hth
    have hB3 : Below w.heap.size w (w1.alloc (.cells zsec 91)) := hB2.alloc hz1 _
    have hB4 := hB3.trans ((Keeps.setCells (F := fun j => j = w1.heap.size) rfl F 0 _).below (fun j hj => by omega) hB3.size)
    have hrF := World.rangeAt_setCells_same (w1.alloc (.cells zsec 91)) w1.heap.size 0 F hth
    have hres2 : ((w1.alloc (.cells zsec 91)).setCells w1.heap.size 0 F).heap[w.heap.size]? = some (.cells zpair 93 (0, 0)) :=
      ((Keeps.setCells (F := fun j => j = w1.heap.size) rfl F 0 _).block w.heap.size (by simp; omega) (by omega)).trans ((heap_alloc_old w1 _ hsz1).trans hres1)
    have hsz2 : ((w1.alloc (.cells zsec 91)).setCells w1.heap.size 0 F).heap.size = w1.heap.size + 1 := by rw [size_setCells]; simp
    obtain ⟨w2, hw2⟩ : ∃ w2, w2 = (w1.alloc (.cells zsec 91)).setCells w1.heap.size 0 F := ⟨_, rfl⟩
    rw [← hw2] at hB4 hrF hres2 hsz2
    have k2 := Hc2.out w2 hB4
    have HW2 := Hid.mk hw2
    have HB4 := Hid.mk hB4
    have HrF := Hid.mk hrF
    have Hres2 := Hid.mk hres2
    clear k1 hb1 hB2 hres1 hn1 hB3 hB4 hrF hres2 hw2 Hc2 HB1 Hres0
    go_wp2_with (refine wpList_store_mid rfl 91 _ _ rfl w1.heap.size 0 F.toArray rfl rfl ?h1 ?h2 hallF ?_)
    case h1 => simpa using hth
    case h2 => simpa using hinfoF
    rw [← HW2.out]
    refine k2.mono ?_
    rintro e w3 ⟨rfl, hb3⟩
    have hB5 := HB4.out.trans (hb3.mono HB4.out.size)
    have hres3 := (hb3.block w.heap.size (by omega)).trans Hres2.out
    have hz3 := hB5.size
    have hsz3 : w2.heap.size ≤ w3.heap.size := hb3.size
    have hn3 : (w3.alloc (.cells zsec 91)).heap[w3.heap.size]? = some (.cells zsec 91 (0, 0)) := heap_alloc_new _ _
    have hth3 := there_of hn3 zsec_size
    rw [← hG] at hth3
    have hB6 : Below w.heap.size w (w3.alloc (.cells zsec 91)) := hB5.alloc hz3 _
    have hB7 := hB6.trans ((Keeps.setCells (F := fun j => j = w3.heap.size) rfl G 0 _).below (fun j hj => by omega) hB6.size)
    have hrG := World.rangeAt_setCells_same (w3.alloc (.cells zsec 91)) w3.heap.size 0 G hth3
    have hrF3 : ((w3.alloc (.cells zsec 91)).setCells w3.heap.size 0 G).rangeAt w1.heap.size 0 F := by
      intro j v hv
      have hq := HrF.out j v hv
      rw [World.cell?_of_block (w := w2) (a := ⟨w1.heap.size, 0 + j, none⟩)]
      · exact hq
      · exact ((Keeps.setCells (F := fun j => j = w3.heap.size) rfl G 0 _).block w1.heap.size (by simp; omega) (by omega)).trans ((heap_alloc_old w3 _ (show w1.heap.size < w3.heap.size by omega)).trans (hb3.block w1.heap.size (by omega)))
    have hres4 : ((w3.alloc (.cells zsec 91)).setCells w3.heap.size 0 G).heap[w.heap.size]? = some (.cells zpair 93 (0, 0)) :=
      ((Keeps.setCells (F := fun j => j = w3.heap.size) rfl G 0 _).block w.heap.size (by simp; omega) (by omega)).trans ((heap_alloc_old w3 _ (show w.heap.size < w3.heap.size by omega)).trans hres3)
    obtain ⟨w4, hw4⟩ : ∃ w4, w4 = (w3.alloc (.cells zsec 91)).setCells w3.heap.size 0 G := ⟨_, rfl⟩
    rw [← hw4] at hB7 hrG hrF3 hres4
    have hthP : w4.there w.heap.size 0 (F.toArray ++ G.toArray).toList.length := there_of hres4 (by rw [zpair_size]; simp; omega)
    have hrP := Hid.mk (World.rangeAt_setCells_same w4 w.heap.size 0 (F.toArray ++ G.toArray).toList hthP)
    have hB8 := Hid.mk (hB7.trans ((Keeps.setCells (F := fun j => j = w.heap.size) rfl (F.toArray ++ G.toArray).toList 0 w4).below (fun j hj => by omega) hB7.size))
    have HW4 := Hid.mk hw4
    have hinfoP' : (Try.prog.info? 93).map (·.size) = some (F.toArray ++ G.toArray).toList.length := by rw [sizePair]; simp; omega
    obtain ⟨P, hP⟩ : ∃ P, P = F.toArray ++ G.toArray := ⟨_, rfl⟩
    rw [← hP] at hinfoP hallP hthP hrP hB8 hinfoP'
    have HP := Hid.mk hP
    clear k2 hb3 hB5 hres3 hn3 hB6 hB7 hres4 hw4 hP HB4 HrF Hres2 HW2
    go_wp2_with (first | refine wpList_build_pair rfl _ _ rfl F.toArray G.toArray P rfl rfl hsF hsG HP.out ?_ | refine wpList_store_mid rfl 91 _ _ rfl w3.heap.size 0 G.toArray rfl rfl ?h1 ?h2 hallG ?_ | (rw [← HW4.out]; first | refine wpList_load_mid rfl 91 _ rfl w1.heap.size 0 rfl F _ hrF3 Try.underlying91 rfl hinfoF ?_ | refine wpList_load_mid rfl 91 _ rfl w3.heap.size 0 rfl G _ hrG Try.underlying91 rfl hinfoG ?_) | refine wpList_load_mid rfl 91 _ rfl w1.heap.size 0 rfl F _ hrF3 Try.underlying91 rfl hinfoF ?_ | refine wpList_load_mid rfl 91 _ rfl w3.heap.size 0 rfl G _ hrG Try.underlying91 rfl hinfoG ?_ | refine wpList_store_mid rfl 93 _ _ rfl w.heap.size 0 P rfl rfl ?h3 ?h4 hallP ?_)
    case h1 => simpa using hth3
    case h2 => simpa using hinfoG
    case h3 => simpa using hthP
    case h4 => simpa using hinfoP
    have eP : P.toList.toArray = (F ++ G).toArray := by rw [HP.out]; simp
    exact bodyPost_ret (results_cell_tmp (P := Try.prog) rfl _ _ w.heap.size P.toList _ _ rfl rfl hrP.out Try.underlying93 rfl hinfoP') rfl ⟨by rw [eP]; rfl, hB8.out⟩

theorem pairOf_any (a : Option Addr) (n c : Nat) (l : List Int) (a2 : Option Addr) (m d : Nat) (r : List Int) (w : World) (hs : Src w a n l) (hs2 : Src w a2 m r) :
    Calls Try.prog 59 #[.slice a n c, .slice a2 m d] w fun e w' => e = .returned (.tuple #[.agg (bs (secOf l ++ secOf r)).toArray, .bool (decide (n = 512) && decide (m = 512))]) ∧ Below w.heap.size w w' := by
  have h := pairOf_low (decide (n = 512)) (decide (m = 512)) (bs (secOf l)) (bs (secOf r)) (by rw [bs, List.length_map, secOf_len]) (by rw [bs, List.length_map, secOf_len]) (bs_one _) (bs_one _) (.slice a n c) (.slice a2 m d) w
    (fun w' hb => sectorOf_any a n c l w' (hs.later hb)) (fun w' hb => sectorOf_any a2 m d r w' (hs2.later hb))
  rw [List.append_toArray, ← bs_append] at h
  exact h
end Go.Proofs.Ytodleeipefnadaa
