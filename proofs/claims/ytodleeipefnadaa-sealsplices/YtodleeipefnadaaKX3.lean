import Derived.Test.YtodleeipefnadaaKX2
namespace Go.Proofs.Ytodleeipefnadaa
open Go.RowKit

set_option maxRecDepth 20000 in
set_option maxHeartbeats 8000000 in
theorem splice_ok (a : Option Addr) (c : Nat) (l : List Int) (a2 : Option Addr) (d : Nat) (r : List Int) (k : Nat) (w : World) (hs : Src w a 512 l) (hs2 : Src w a2 512 r) (hk : k ≤ 512) :
    Calls Try.prog 30 #[.slice a 512 c, .slice a2 512 d, .int .i64 (k : Int)] w fun e w' => ∃ v, e = .returned (.tuple #[v, .int .i64 0]) ∧ Lst w' w.heap.size v (smix l r k) ∧ Below w.heap.size w w' := by
  have hz := zeroPair
  have hzs := zeroSec
  have h1 := pairOf_any a 512 c l a2 512 d r w hs hs2
  have hln := hs.1
  have hrn := hs2.1
  rw [secOf_self hln, secOf_self hrn] at h1
  have hinfo := infoPairX hln hrn
  have hall := all_oneCell_toArray (bs_one (l ++ r))
  have hFl : (bs (l ++ r)).length = 1024 := by rw [bs, List.length_map, List.length_append, hln, hrn]
  obtain ⟨F, hF⟩ : ∃ F, F = bs (l ++ r) := ⟨_, rfl⟩
  rw [← hF] at h1 hinfo hall hFl
  have HF := Hid.mk hF
  have hk1 : ¬ ((k : Int) < 0) := by omega
  have hk2 : ¬ ((512 : Int) < (k : Int)) := by omega
  clear hF hs hs2
  go_enter Try.func30, Try.ntmps30
  go_wp2_with fail
  refine h1.mono ?_
  rintro e w1 ⟨rfl, hb1⟩
  have hw1 : (w1.alloc (.cells zpair 93)).heap[w1.heap.size]? = some (.cells zpair 93 (0, 0)) := heap_alloc_new _ _
  have hth := there_of hw1 zpair_size
  rw [← hFl] at hth
  have hB1 : Below w.heap.size w (w1.alloc (.cells zpair 93)) := hb1.alloc hb1.size _
  have hsz := hb1.size
  have hB2 := hB1.trans ((Keeps.setCells (F := fun j => j = w1.heap.size) rfl F 0 _).below (fun j hj => by omega) hB1.size)
  have hblk := blk_stored (l := l ++ r) hw1 (by rw [zpair_size, List.length_append, hln, hrn])
  rw [← HF.out] at hblk
  obtain ⟨w2, hw2⟩ : ∃ w2, w2 = (w1.alloc (.cells zpair 93)).setCells w1.heap.size 0 F := ⟨_, rfl⟩
  rw [← hw2] at hB2 hblk
  have HW2 := Hid.mk hw2
  have hglt := hblk.lt
  have hr1 : w2.rangeAt w1.heap.size 0 (bs l) := by
    intro j v hv
    have hj : j < l.length := by have := (List.getElem?_eq_some_iff.1 hv).1; simpa [bs] using this
    have := hblk.cell (i := j) (by simp; omega)
    rw [Nat.zero_add, this]
    rw [bs, List.getElem?_map] at hv
    rw [← hv, List.getD, List.getElem?_append_left hj, List.getElem?_eq_getElem hj]; rfl
  have hr2 : w2.rangeAt w1.heap.size 512 (bs r) := by
    intro j v hv
    have hj : j < r.length := by have := (List.getElem?_eq_some_iff.1 hv).1; simpa [bs] using this
    have := hblk.cell (i := 512 + j) (by simp; omega)
    rw [this]
    rw [bs, List.getElem?_map] at hv
    rw [← hv, List.getD, List.getElem?_append_right (by omega), show 512 + j - l.length = j by omega, List.getElem?_eq_getElem hj]; rfl
  have HC := Hid.mk (fun (w' : World) (hb : Below w2.heap.size w2 w') => And.intro (a := w'.rangeAt w1.heap.size 0 (bs l)) (b := w'.rangeAt w1.heap.size 512 (bs r)) (fun j v hv => (World.cell?_of_block (w := w2) (a := ⟨w1.heap.size, 0 + j, none⟩) (hb.block w1.heap.size hglt)).trans (hr1 j v hv)) (fun j v hv => (World.cell?_of_block (w := w2) (a := ⟨w1.heap.size, 512 + j, none⟩) (hb.block w1.heap.size hglt)).trans (hr2 j v hv)))
  have hFL : (bs l).length = 512 := by rw [bs, List.length_map, hln]
  have hFR : (bs r).length = 512 := by rw [bs, List.length_map, hrn]
  have hoL := bs_one l
  have hoR := bs_one r
  have hu := Try.underlying91
  have hiL : (Try.prog.info? 91).map (·.size) = some (bs l).length := by rw [sizeSec, hFL]
  have hiR : (Try.prog.info? 91).map (·.size) = some (bs r).length := by rw [sizeSec, hFR]
  have hcell : Try.prog.cellsOf 91 = 512 := by kernel_rfl
  have p0 := below_drew' (Below.refl w2.heap.size w2)
  have NN := two_new (T := 91) (z := zsec) (l := l) (r := r) zsec_size hln hrn p0 (Nat.le_refl _)
  have t1 : ((w2.drew.alloc (.cells zsec 91)).alloc (.cells zsec 91)).there w2.heap.size 0 512 := there_of (heap_alloc2_old _ _ _) zsec_size
  have t2 : ((w2.drew.alloc (.cells zsec 91)).alloc (.cells zsec 91)).there (w2.heap.size + 1) 0 512 := there_of (heap_alloc2_new _ _ _) zsec_size
  have t3 : (((w2.drew.alloc (.cells zsec 91)).alloc (.cells zsec 91)).setCells w2.heap.size 0 (bs l)).there (w2.heap.size + 1) 0 512 := World.there_setCells t2 _ _ _
  have t4 : (((w2.drew.alloc (.cells zsec 91)).alloc (.cells zsec 91)).setCells (w2.heap.size + 1) 0 (bs l)).there w2.heap.size 0 512 := World.there_setCells t1 _ _ _
  have p1 : Below w2.heap.size w2 (w2.drew.alloc (.cells zsec 91)) := p0.alloc (Nat.le_refl _) _
  have p2 : Below w2.heap.size w2 ((w2.drew.alloc (.cells zsec 91)).alloc (.cells zsec 91)) := p1.alloc (by simp) _
  have p3 : Below w2.heap.size w2 (((w2.drew.alloc (.cells zsec 91)).alloc (.cells zsec 91)).setCells w2.heap.size 0 (bs l)) := p2.trans ((Keeps.setCells (F := fun j => j = w2.heap.size) rfl (bs l) 0 _).below (fun j hj => by omega) p2.size)
  have p4 : Below w2.heap.size w2 (((w2.drew.alloc (.cells zsec 91)).alloc (.cells zsec 91)).setCells (w2.heap.size + 1) 0 (bs l)) := p2.trans ((Keeps.setCells (F := fun j => j = w2.heap.size + 1) rfl (bs l) 0 _).below (fun j hj => by omega) p2.size)
  have HP := Hid.mk (And.intro p0 (And.intro p1 (And.intro p2 (And.intro p3 p4))))
  have HN := Hid.mk NN
  have HB2 := Hid.mk hB2
  generalize hfl : bs l = FL at hFL hoL hiL t3 t4 HC HP HN
  generalize hfr : bs r = FR at hFR hoR hiR HC HN
  have HFL := Hid.mk (And.intro hfl hfr)
  clear h1 hw1 hB1 hb1 hB2 hblk hw2 hr1 hr2 p0 p1 p2 p3 p4 NN hfl hfr
  go_wp2_with (refine wpList_store_mid rfl 93 _ _ rfl w1.heap.size 0 F.toArray rfl rfl ?h1 ?h2 hall ?_)
  case h1 => simpa using hth
  case h2 => simpa using hinfo
  clear hth
  rw [← HW2.out]
  have eL : FL.toArray.size = 512 := by simpa using hFL
  have eR : FR.toArray.size = 512 := by simpa using hFR
  refine wp_region_noPanic ?_
  refine wp_region_held_drew (S := fun w' => w'.rangeAt w1.heap.size 0 FL ∧ w'.rangeAt w1.heap.size 512 FR) (by kernel_rfl) (HC.out _ HP.out.1) (fun hHeld => ?_)
  refine wpAnyH_take (i := 0) (oi := { dst := some 26, op := Op.indexAddr 93 (Operand.tmp 8) (Operand.const (Value.int IntKind.i64 0)), type := 0, pos := "seal.go:41", after := #[], guard := none }) (v := .pointer (some ⟨w1.heap.size, 0, none⟩)) rfl (by kernel_rfl) (by kernel_rfl) (by kernel_rfl) (fun _ _ _ h => h) (Or.inl ⟨by rfl, ?_⟩) (by assumption) ?_
  · intro w hSw
    go_simp
  try simp only [Act.put, List.setIfInBounds_toArray, List.set_cons_zero, List.set_cons_succ]
  refine wpAnyH_take (i := 1) (oi := { dst := some 27, op := Op.load 91 (Operand.tmp 26), type := 91, pos := "seal.go:41", after := #[{ on := 0, ground := Ground.data }], guard := none }) (v := .agg FL.toArray) rfl (by kernel_rfl) (by kernel_rfl) (by kernel_rfl) (fun _ _ _ h => h) (yieldsIf_load_mid (by rfl) _ _ rfl w1.heap.size 0 rfl FL _ (fun w hw => hw.1) hu rfl hiL) (by assumption) ?_
  try simp only [Act.put, List.setIfInBounds_toArray, List.set_cons_zero, List.set_cons_succ]
  refine wpAnyH_take (i := 2) (oi := { dst := some 28, op := Op.indexAddr 93 (Operand.tmp 8) (Operand.const (Value.int IntKind.i64 1)), type := 0, pos := "seal.go:41", after := #[], guard := none }) (v := .pointer (some ⟨w1.heap.size, 512, none⟩)) rfl (by kernel_rfl) (by kernel_rfl) (by kernel_rfl) (fun _ _ _ h => h) (Or.inl ⟨by rfl, ?_⟩) (by assumption) ?_
  · intro w hSw
    go_simp
  try simp only [Act.put, List.setIfInBounds_toArray, List.set_cons_zero, List.set_cons_succ]
  refine wpAnyH_take (i := 3) (oi := { dst := some 29, op := Op.load 91 (Operand.tmp 28), type := 91, pos := "seal.go:41", after := #[{ on := 2, ground := Ground.data }], guard := none }) (v := .agg FR.toArray) rfl (by kernel_rfl) (by kernel_rfl) (by kernel_rfl) (fun _ _ _ h => h) (yieldsIf_load_mid (by rfl) _ _ rfl w1.heap.size 512 rfl FR _ (fun w hw => hw.2) hu rfl hiR) (by assumption) ?_
  try simp only [Act.put, List.setIfInBounds_toArray, List.set_cons_zero, List.set_cons_succ]
  refine wpAnyH_ready (rs := [4, 5]) (by kernel_rfl) (by simp) ?_
  refine AllReadyH.cons (o := { dst := some 10, op := Op.alloc 91, type := 0, pos := "seal.go:41", after := #[], guard := none }) rfl (fun K hK => ?_) (AllReadyH.cons (o := { dst := some 11, op := Op.alloc 91, type := 0, pos := "seal.go:41", after := #[], guard := none }) rfl (fun K hK => ?_) AllReadyH.nil)
  · go_simp
    refine hK.out _ _ ?_ (fun hHeld => ?_)
    · exact HC.out _ HP.out.2.1
    clear hK K
    try simp only [Act.put, List.setIfInBounds_toArray, List.set_cons_zero, List.set_cons_succ]
    refine wpAnyH_ready (rs := [5]) (by kernel_rfl) (by simp) ?_
    refine AllReadyH.cons (o := { dst := some 11, op := Op.alloc 91, type := 0, pos := "seal.go:41", after := #[], guard := none }) rfl (fun K hK => ?_) AllReadyH.nil
    go_simp
    refine hK.out _ _ ?_ (fun hHeld => ?_)
    · exact HC.out _ HP.out.2.2.1
    clear hK K
    try simp only [Act.put, List.setIfInBounds_toArray, List.set_cons_zero, List.set_cons_succ]
    refine wpAnyH_ready (rs := [6]) (by kernel_rfl) (by simp) ?_
    refine AllReadyH.cons (o := { dst := none, op := Op.store 91 (Operand.tmp 10) (Operand.tmp 27), type := 0, pos := "seal.go:41", after := #[{ on := 4, ground := Ground.data }, { on := 1, ground := Ground.data }, { on := 0, ground := Ground.phase }, { on := 1, ground := Ground.phase }, { on := 2, ground := Ground.textOnly Departure.lateStoresUnsure }, { on := 3, ground := Ground.textOnly Departure.lateStoresUnsure }, { on := 4, ground := Ground.phase }, { on := 5, ground := Ground.phase }], guard := none }) rfl (fun K hK => ?_) AllReadyH.nil
    rw [if_pos (by rfl)]
    refine wp_store_mid _ _ _ rfl (w2.heap.size) 0 FL.toArray rfl rfl (by rw [eL]; exact t1) (by rw [eL]; exact sizeSec) (all_oneCell_toArray hoL) ?_
    simp only [Act.put]
    refine hK.out _ _ ?_ (fun hHeld => ?_)
    · exact HC.out _ HP.out.2.2.2.1
    clear hK K
    try simp only [Act.put, List.setIfInBounds_toArray, List.set_cons_zero, List.set_cons_succ]
    refine wpAnyH_ready (rs := [7]) (by kernel_rfl) (by simp) ?_
    refine AllReadyH.cons (o := { dst := none, op := Op.store 91 (Operand.tmp 11) (Operand.tmp 29), type := 0, pos := "seal.go:41", after := #[{ on := 5, ground := Ground.data }, { on := 3, ground := Ground.data }, { on := 6, ground := Ground.chain }, { on := 0, ground := Ground.phase }, { on := 1, ground := Ground.phase }, { on := 2, ground := Ground.phase }, { on := 3, ground := Ground.phase }, { on := 4, ground := Ground.phase }, { on := 5, ground := Ground.phase }, { on := 6, ground := Ground.phase }], guard := none }) rfl (fun K hK => ?_) AllReadyH.nil
    rw [if_pos (by rfl)]
    refine wp_store_mid _ _ _ rfl (w2.heap.size + 1) 0 FR.toArray rfl rfl (by rw [eR]; exact t3) (by rw [eR]; exact sizeSec) (all_oneCell_toArray hoR) ?_
    simp only [Act.put]
    refine hK.out _ _ ?_ (fun hHeld => ?_)
    · exact HC.out _ HN.out.1.2.2
    clear hK K
    try simp only [Act.put, List.setIfInBounds_toArray, List.set_cons_zero, List.set_cons_succ]
    refine wpAnyH_done (by kernel_rfl) ?_ _
    refine NoPanic.normal ?_
    have q1 := HN.out.1.1
    have q2 := HN.out.1.2.1
    have q3 := HN.out.1.2.2
    obtain ⟨w3, hw3⟩ : ∃ w3, w3 = (((((w2.alloc (.cells zsec 91)).alloc (.cells zsec 91)).drew).setCells (w2.heap.size) 0 FL).setCells (w2.heap.size + 1) 0 FR) := ⟨_, rfl⟩
    replace q1 : Blk w3 91 (w2.heap.size) l := by rw [hw3]; exact q1
    replace q2 : Blk w3 91 (w2.heap.size + 1) r := by rw [hw3]; exact q2
    replace q3 : Below w2.heap.size w2 w3 := by rw [hw3]; exact q3
    rw [← hw3]
    have hne : ¬ (w2.heap.size) = (w2.heap.size + 1) := by omega
    have hge : w.heap.size ≤ (w2.heap.size + 1) := by have := HB2.out.size; omega
    have hsrc : Src w3.drew (some ⟨w2.heap.size, 0, none⟩) k (l.take k) := (q1.keep (w' := w3.drew) rfl).src (o := 0) (n := k) (by omega)
    obtain ⟨w4, hrun, hblk4, hk4, hz4⟩ := copy_blk w3.drew 3 91 (w2.heap.size + 1) 0 512 512 (some ⟨w2.heap.size, 0, none⟩) k k r (l.take k) (q2.keep (w' := w3.drew) rfl) hsrc hk (by omega)
    rw [put_smix hln hk] at hblk4
    have hlst := hblk4.lst (B := w.heap.size) hge
    rw [smix_len hln hrn hk] at hlst
    have b3 := HB2.out.trans (q3.mono HB2.out.size)
    have b4 := (below_drew' b3).trans (hk4.below (fun j hj => by omega) b3.size)
    have HL := Hid.mk (And.intro hlst b4)
    clear q1 q2 q3 hsrc hblk4 hk4 hz4 hlst b3 b4 hw3 HN HP HC t1 t2 t3 t4 hne hge eL eR hFL hFR hoL hoR hiL hiR HFL hHeld
    go_wp2
    go_region_held3 (fun _ => True) (trivial)
      (first | (go_at_call 60; refine (cut_to (w2.heap.size) k hk _).mono ?_; rintro e w' ⟨rfl, hw⟩; have hw' := hw.symm; subst hw'; clear hw))
    go_wp2
    go_ret2
    exact ⟨_, rfl, HL.out.1, HL.out.2⟩
  · go_simp
    refine hK.out _ _ ?_ (fun hHeld => ?_)
    · exact HC.out _ HP.out.2.1
    clear hK K
    try simp only [Act.put, List.setIfInBounds_toArray, List.set_cons_zero, List.set_cons_succ]
    refine wpAnyH_ready (rs := [4]) (by kernel_rfl) (by simp) ?_
    refine AllReadyH.cons (o := { dst := some 10, op := Op.alloc 91, type := 0, pos := "seal.go:41", after := #[], guard := none }) rfl (fun K hK => ?_) AllReadyH.nil
    go_simp
    refine hK.out _ _ ?_ (fun hHeld => ?_)
    · exact HC.out _ HP.out.2.2.1
    clear hK K
    try simp only [Act.put, List.setIfInBounds_toArray, List.set_cons_zero, List.set_cons_succ]
    refine wpAnyH_ready (rs := [6]) (by kernel_rfl) (by simp) ?_
    refine AllReadyH.cons (o := { dst := none, op := Op.store 91 (Operand.tmp 10) (Operand.tmp 27), type := 0, pos := "seal.go:41", after := #[{ on := 4, ground := Ground.data }, { on := 1, ground := Ground.data }, { on := 0, ground := Ground.phase }, { on := 1, ground := Ground.phase }, { on := 2, ground := Ground.textOnly Departure.lateStoresUnsure }, { on := 3, ground := Ground.textOnly Departure.lateStoresUnsure }, { on := 4, ground := Ground.phase }, { on := 5, ground := Ground.phase }], guard := none }) rfl (fun K hK => ?_) AllReadyH.nil
    rw [if_pos (by rfl)]
    refine wp_store_mid _ _ _ rfl (w2.heap.size + 1) 0 FL.toArray rfl rfl (by rw [eL]; exact t2) (by rw [eL]; exact sizeSec) (all_oneCell_toArray hoL) ?_
    simp only [Act.put]
    refine hK.out _ _ ?_ (fun hHeld => ?_)
    · exact HC.out _ HP.out.2.2.2.2
    clear hK K
    try simp only [Act.put, List.setIfInBounds_toArray, List.set_cons_zero, List.set_cons_succ]
    refine wpAnyH_ready (rs := [7]) (by kernel_rfl) (by simp) ?_
    refine AllReadyH.cons (o := { dst := none, op := Op.store 91 (Operand.tmp 11) (Operand.tmp 29), type := 0, pos := "seal.go:41", after := #[{ on := 5, ground := Ground.data }, { on := 3, ground := Ground.data }, { on := 6, ground := Ground.chain }, { on := 0, ground := Ground.phase }, { on := 1, ground := Ground.phase }, { on := 2, ground := Ground.phase }, { on := 3, ground := Ground.phase }, { on := 4, ground := Ground.phase }, { on := 5, ground := Ground.phase }, { on := 6, ground := Ground.phase }], guard := none }) rfl (fun K hK => ?_) AllReadyH.nil
    rw [if_pos (by rfl)]
    refine wp_store_mid _ _ _ rfl (w2.heap.size) 0 FR.toArray rfl rfl (by rw [eR]; exact t4) (by rw [eR]; exact sizeSec) (all_oneCell_toArray hoR) ?_
    simp only [Act.put]
    refine hK.out _ _ ?_ (fun hHeld => ?_)
    · exact HC.out _ HN.out.2.2.2
    clear hK K
    try simp only [Act.put, List.setIfInBounds_toArray, List.set_cons_zero, List.set_cons_succ]
    refine wpAnyH_done (by kernel_rfl) ?_ _
    refine NoPanic.normal ?_
    have q1 := HN.out.2.1
    have q2 := HN.out.2.2.1
    have q3 := HN.out.2.2.2
    obtain ⟨w3, hw3⟩ : ∃ w3, w3 = (((((w2.alloc (.cells zsec 91)).alloc (.cells zsec 91)).drew).setCells (w2.heap.size + 1) 0 FL).setCells (w2.heap.size) 0 FR) := ⟨_, rfl⟩
    replace q1 : Blk w3 91 (w2.heap.size + 1) l := by rw [hw3]; exact q1
    replace q2 : Blk w3 91 (w2.heap.size) r := by rw [hw3]; exact q2
    replace q3 : Below w2.heap.size w2 w3 := by rw [hw3]; exact q3
    rw [← hw3]
    have hne : ¬ (w2.heap.size + 1) = (w2.heap.size) := by omega
    have hge : w.heap.size ≤ (w2.heap.size) := by have := HB2.out.size; omega
    have hsrc : Src w3.drew (some ⟨w2.heap.size + 1, 0, none⟩) k (l.take k) := (q1.keep (w' := w3.drew) rfl).src (o := 0) (n := k) (by omega)
    obtain ⟨w4, hrun, hblk4, hk4, hz4⟩ := copy_blk w3.drew 3 91 (w2.heap.size) 0 512 512 (some ⟨w2.heap.size + 1, 0, none⟩) k k r (l.take k) (q2.keep (w' := w3.drew) rfl) hsrc hk (by omega)
    rw [put_smix hln hk] at hblk4
    have hlst := hblk4.lst (B := w.heap.size) hge
    rw [smix_len hln hrn hk] at hlst
    have b3 := HB2.out.trans (q3.mono HB2.out.size)
    have b4 := (below_drew' b3).trans (hk4.below (fun j hj => by omega) b3.size)
    have HL := Hid.mk (And.intro hlst b4)
    clear q1 q2 q3 hsrc hblk4 hk4 hz4 hlst b3 b4 hw3 HN HP HC t1 t2 t3 t4 hne hge eL eR hFL hFR hoL hoR hiL hiR HFL hHeld
    go_wp2
    go_region_held3 (fun _ => True) (trivial)
      (first | (go_at_call 60; refine (cut_to (w2.heap.size + 1) k hk _).mono ?_; rintro e w' ⟨rfl, hw⟩; have hw' := hw.symm; subst hw'; clear hw))
    go_wp2
    go_ret2
    exact ⟨_, rfl, HL.out.1, HL.out.2⟩
end Go.Proofs.Ytodleeipefnadaa
