import Derived.Test.YtohgdjlgbnpobaaW06
section
namespace Go.Proofs.Ytohgdjlgbnpobaa
open Go.RowKit

set_option maxRecDepth 20000 in
set_option maxHeartbeats 8000000 in
theorem splice_ok (a : Option Addr) (c : Nat) (l : List Int) (a2 : Option Addr) (d : Nat) (r : List Int) (k : Nat) (w : World) (hs : Src w a 512 l) (hs2 : Src w a2 512 r) (hk : k ≤ 512) :
    Calls Try.prog 27 #[.slice a 512 c, .slice a2 512 d, .int .i64 (k : Int)] w fun e w' => ∃ v, e = .returned (.tuple #[v, .int .i64 0]) ∧ Lst w' w.heap.size v (smix l r k) ∧ Below w.heap.size w w' := by
  have hz := zeroPair
  have hzs := zeroSec
  have h1 := pairOf_any a 512 c l a2 512 d r w hs hs2
  have hln := hs.1
  have hrn := hs2.1
  rw [secOf_self hln, secOf_self hrn] at h1
  have hinfo := infoPairX hln hrn
  have hall := all_oneCell_toArray (bs_one (l ++ r))
  have hFl : (bs (l ++ r)).length = 1024 := by rw [bs, List.length_map, List.length_append, hln, hrn]
  obtain ⟨F, hF⟩ : ∃ F, F = bs (l ++ r) := ⟨_, rfl⟩
  rw [← hF] at h1 hinfo hall hFl
  have HF := Hid.mk hF
  have hk1 : ¬ ((k : Int) < 0) := by omega
  have hk2 : ¬ ((512 : Int) < (k : Int)) := by omega
  clear hF hs hs2
  go_enter Try.func27, Try.ntmps27
  go_wp2_with fail
  refine h1.mono ?_
  rintro e w1 ⟨rfl, hb1⟩
  have hw1 : (w1.alloc (.cells zpair 78)).heap[w1.heap.size]? = some (.cells zpair 78 (0, 0)) := heap_alloc_new _ _
  have hth := there_of hw1 zpair_size
  rw [← hFl] at hth
  have hB1 : Below w.heap.size w (w1.alloc (.cells zpair 78)) := hb1.alloc hb1.size _
  have hsz := hb1.size
  have hB2 := hB1.trans ((Keeps.setCells (F := fun j => j = w1.heap.size) rfl F 0 _).below (fun j hj => by omega) hB1.size)
  have hblk := blk_stored (l := l ++ r) hw1 (by rw [zpair_size, List.length_append, hln, hrn])
  rw [← HF.out] at hblk
  obtain ⟨w2, hw2⟩ : ∃ w2, w2 = (w1.alloc (.cells zpair 78)).setCells w1.heap.size 0 F := ⟨_, rfl⟩
  rw [← hw2] at hB2 hblk
  have HW2 := Hid.mk hw2
  have hglt := hblk.lt
  have hr1 : w2.rangeAt w1.heap.size 0 (bs l) := by
    intro j v hv
    have hj : j < l.length := by have := (List.getElem?_eq_some_iff.1 hv).1; simpa [bs] using this
    have := hblk.cell (i := j) (by simp; omega)
    rw [Nat.zero_add, this]
    rw [bs, List.getElem?_map] at hv
    rw [← hv, List.getD, List.getElem?_append_left hj, List.getElem?_eq_getElem hj]; rfl
  have hr2 : w2.rangeAt w1.heap.size 512 (bs r) := by
    intro j v hv
    have hj : j < r.length := by have := (List.getElem?_eq_some_iff.1 hv).1; simpa [bs] using this
    have := hblk.cell (i := 512 + j) (by simp; omega)
    rw [this]
    rw [bs, List.getElem?_map] at hv
    rw [← hv, List.getD, List.getElem?_append_right (by omega), show 512 + j - l.length = j by omega, List.getElem?_eq_getElem hj]; rfl
  have HC := Hid.mk (fun (w' : World) (hb : Below w2.heap.size w2 w') => And.intro (a := w'.rangeAt w1.heap.size 0 (bs l)) (b := w'.rangeAt w1.heap.size 512 (bs r)) (fun j v hv => (World.cell?_of_block (w := w2) (a := ⟨w1.heap.size, 0 + j, none⟩) (hb.block w1.heap.size hglt)).trans (hr1 j v hv)) (fun j v hv => (World.cell?_of_block (w := w2) (a := ⟨w1.heap.size, 512 + j, none⟩) (hb.block w1.heap.size hglt)).trans (hr2 j v hv)))
  have hFL : (bs l).length = 512 := by rw [bs, List.length_map, hln]
  have hFR : (bs r).length = 512 := by rw [bs, List.length_map, hrn]
  have hoL := bs_one l
  have hoR := bs_one r
  have hu := Try.underlying44
  have hiL : (Try.prog.info? 44).map (·.size) = some (bs l).length := by rw [sizeSec, hFL]
  have hiR : (Try.prog.info? 44).map (·.size) = some (bs r).length := by rw [sizeSec, hFR]
  have hcell : Try.prog.cellsOf 44 = 512 := by kernel_rfl
  have p0 := below_drew' (Below.refl w2.heap.size w2)
  have NN := two_new (T := 44) (z := zsec) (l := l) (r := r) zsec_size hln hrn p0 (Nat.le_refl _)
  have t1 : ((w2.drew.alloc (.cells zsec 44)).alloc (.cells zsec 44)).there w2.heap.size 0 512 := there_of (heap_alloc2_old _ _ _) zsec_size
  have t2 : ((w2.drew.alloc (.cells zsec 44)).alloc (.cells zsec 44)).there (w2.heap.size + 1) 0 512 := there_of (heap_alloc2_new _ _ _) zsec_size
  have t3 : (((w2.drew.alloc (.cells zsec 44)).alloc (.cells zsec 44)).setCells w2.heap.size 0 (bs l)).there (w2.heap.size + 1) 0 512 := World.there_setCells t2 _ _ _
  have t4 : (((w2.drew.alloc (.cells zsec 44)).alloc (.cells zsec 44)).setCells (w2.heap.size + 1) 0 (bs l)).there w2.heap.size 0 512 := World.there_setCells t1 _ _ _
  have p1 : Below w2.heap.size w2 (w2.drew.alloc (.cells zsec 44)) := p0.alloc (Nat.le_refl _) _
  have p2 : Below w2.heap.size w2 ((w2.drew.alloc (.cells zsec 44)).alloc (.cells zsec 44)) := p1.alloc (by simp) _
  have p3 : Below w2.heap.size w2 (((w2.drew.alloc (.cells zsec 44)).alloc (.cells zsec 44)).setCells w2.heap.size 0 (bs l)) := p2.trans ((Keeps.setCells (F := fun j => j = w2.heap.size) rfl (bs l) 0 _).below (fun j hj => by omega) p2.size)
  have p4 : Below w2.heap.size w2 (((w2.drew.alloc (.cells zsec 44)).alloc (.cells zsec 44)).setCells (w2.heap.size + 1) 0 (bs l)) := p2.trans ((Keeps.setCells (F := fun j => j = w2.heap.size + 1) rfl (bs l) 0 _).below (fun j hj => by omega) p2.size)
  have HP := Hid.mk (And.intro p0 (And.intro p1 (And.intro p2 (And.intro p3 p4))))
  have HN := Hid.mk NN
  have HB2 := Hid.mk hB2
  generalize hfl : bs l = FL at hFL hoL hiL t3 t4 HC HP HN
  generalize hfr : bs r = FR at hFR hoR hiR HC HN
  have HFL := Hid.mk (And.intro hfl hfr)
  clear h1 hw1 hB1 hb1 hB2 hblk hw2 hr1 hr2 p0 p1 p2 p3 p4 NN hfl hfr
  go_wp2_with (refine wpList_store_mid rfl 78 _ _ rfl w1.heap.size 0 F.toArray rfl rfl ?h1 ?h2 hall ?_)
  case h1 => simpa using hth
  case h2 => simpa using hinfo
  clear hth
  rw [← HW2.out]
  have eL : FL.toArray.size = 512 := by simpa using hFL
  have eR : FR.toArray.size = 512 := by simpa using hFR
  refine wp_region_noPanic ?_
  refine wp_region_held_drew (S := fun w' => w'.rangeAt w1.heap.size 0 FL ∧ w'.rangeAt w1.heap.size 512 FR) (by kernel_rfl) (HC.out _ HP.out.1) (fun hHeld => ?_)
  refine wpAnyH_take (i := 0) (oi := { dst := some 26, op := Op.indexAddr 78 (Operand.tmp 8) (Operand.const (Value.int IntKind.i64 0)), type := 0, pos := "seal.go:41", after := #[], guard := none }) (v := .pointer (some ⟨w1.heap.size, 0, none⟩)) rfl (by kernel_rfl) (by kernel_rfl) (by kernel_rfl) (fun _ _ _ h => h) (Or.inl ⟨by rfl, ?_⟩) (by assumption) ?_
  · intro w hSw
    go_simp
  try simp only [Act.put, List.setIfInBounds_toArray, List.set_cons_zero, List.set_cons_succ]
  refine wpAnyH_take (i := 1) (oi := { dst := some 27, op := Op.load 44 (Operand.tmp 26), type := 44, pos := "seal.go:41", after := #[{ on := 0, ground := Ground.data }], guard := none }) (v := .agg FL.toArray) rfl (by kernel_rfl) (by kernel_rfl) (by kernel_rfl) (fun _ _ _ h => h) (yieldsIf_load_mid (by rfl) _ _ rfl w1.heap.size 0 rfl FL _ (fun w hw => hw.1) hu rfl hiL) (by assumption) ?_
  try simp only [Act.put, List.setIfInBounds_toArray, List.set_cons_zero, List.set_cons_succ]
  refine wpAnyH_take (i := 2) (oi := { dst := some 28, op := Op.indexAddr 78 (Operand.tmp 8) (Operand.const (Value.int IntKind.i64 1)), type := 0, pos := "seal.go:41", after := #[], guard := none }) (v := .pointer (some ⟨w1.heap.size, 512, none⟩)) rfl (by kernel_rfl) (by kernel_rfl) (by kernel_rfl) (fun _ _ _ h => h) (Or.inl ⟨by rfl, ?_⟩) (by assumption) ?_
  · intro w hSw
    go_simp
  try simp only [Act.put, List.setIfInBounds_toArray, List.set_cons_zero, List.set_cons_succ]
  refine wpAnyH_take (i := 3) (oi := { dst := some 29, op := Op.load 44 (Operand.tmp 28), type := 44, pos := "seal.go:41", after := #[{ on := 2, ground := Ground.data }], guard := none }) (v := .agg FR.toArray) rfl (by kernel_rfl) (by kernel_rfl) (by kernel_rfl) (fun _ _ _ h => h) (yieldsIf_load_mid (by rfl) _ _ rfl w1.heap.size 512 rfl FR _ (fun w hw => hw.2) hu rfl hiR) (by assumption) ?_
  try simp only [Act.put, List.setIfInBounds_toArray, List.set_cons_zero, List.set_cons_succ]
  refine wpAnyH_ready (rs := [4, 5]) (by kernel_rfl) (by simp) ?_
  refine AllReadyH.cons (o := { dst := some 10, op := Op.alloc 44, type := 0, pos := "seal.go:41", after := #[], guard := none }) rfl (fun K hK => ?_) (AllReadyH.cons (o := { dst := some 11, op := Op.alloc 44, type := 0, pos := "seal.go:41", after := #[], guard := none }) rfl (fun K hK => ?_) AllReadyH.nil)
  · go_simp
    refine hK.out _ _ ?_ (fun hHeld => ?_)
    · exact HC.out _ HP.out.2.1
    clear hK K
    try simp only [Act.put, List.setIfInBounds_toArray, List.set_cons_zero, List.set_cons_succ]
    refine wpAnyH_ready (rs := [5]) (by kernel_rfl) (by simp) ?_
    refine AllReadyH.cons (o := { dst := some 11, op := Op.alloc 44, type := 0, pos := "seal.go:41", after := #[], guard := none }) rfl (fun K hK => ?_) AllReadyH.nil
    go_simp
    refine hK.out _ _ ?_ (fun hHeld => ?_)
    · exact HC.out _ HP.out.2.2.1
    clear hK K
    try simp only [Act.put, List.setIfInBounds_toArray, List.set_cons_zero, List.set_cons_succ]
    refine wpAnyH_ready (rs := [6]) (by kernel_rfl) (by simp) ?_
    refine AllReadyH.cons (o := { dst := none, op := Op.store 44 (Operand.tmp 10) (Operand.tmp 27), type := 0, pos := "seal.go:41", after := #[{ on := 4, ground := Ground.data }, { on := 1, ground := Ground.data }, { on := 0, ground := Ground.phase }, { on := 1, ground := Ground.phase }, { on := 2, ground := Ground.textOnly Departure.lateStoresUnsure }, { on := 3, ground := Ground.textOnly Departure.lateStoresUnsure }, { on := 4, ground := Ground.phase }, { on := 5, ground := Ground.phase }], guard := none }) rfl (fun K hK => ?_) AllReadyH.nil
    rw [if_pos (by rfl)]
    refine wp_store_mid _ _ _ rfl (w2.heap.size) 0 FL.toArray rfl rfl (by rw [eL]; exact t1) (by rw [eL]; exact sizeSec) (all_oneCell_toArray hoL) ?_
    simp only [Act.put]
    refine hK.out _ _ ?_ (fun hHeld => ?_)
    · exact HC.out _ HP.out.2.2.2.1
    clear hK K
    try simp only [Act.put, List.setIfInBounds_toArray, List.set_cons_zero, List.set_cons_succ]
    refine wpAnyH_ready (rs := [7]) (by kernel_rfl) (by simp) ?_
    refine AllReadyH.cons (o := { dst := none, op := Op.store 44 (Operand.tmp 11) (Operand.tmp 29), type := 0, pos := "seal.go:41", after := #[{ on := 5, ground := Ground.data }, { on := 3, ground := Ground.data }, { on := 6, ground := Ground.chain }, { on := 0, ground := Ground.phase }, { on := 1, ground := Ground.phase }, { on := 2, ground := Ground.phase }, { on := 3, ground := Ground.phase }, { on := 4, ground := Ground.phase }, { on := 5, ground := Ground.phase }, { on := 6, ground := Ground.phase }], guard := none }) rfl (fun K hK => ?_) AllReadyH.nil
    rw [if_pos (by rfl)]
    refine wp_store_mid _ _ _ rfl (w2.heap.size + 1) 0 FR.toArray rfl rfl (by rw [eR]; exact t3) (by rw [eR]; exact sizeSec) (all_oneCell_toArray hoR) ?_
    simp only [Act.put]
    refine hK.out _ _ ?_ (fun hHeld => ?_)
    · exact HC.out _ HN.out.1.2.2
    clear hK K
    try simp only [Act.put, List.setIfInBounds_toArray, List.set_cons_zero, List.set_cons_succ]
    refine wpAnyH_done (by kernel_rfl) ?_ _
    refine NoPanic.normal ?_
    have q1 := HN.out.1.1
    have q2 := HN.out.1.2.1
    have q3 := HN.out.1.2.2
    obtain ⟨w3, hw3⟩ : ∃ w3, w3 = (((((w2.alloc (.cells zsec 44)).alloc (.cells zsec 44)).drew).setCells (w2.heap.size) 0 FL).setCells (w2.heap.size + 1) 0 FR) := ⟨_, rfl⟩
    replace q1 : Blk w3 44 (w2.heap.size) l := by rw [hw3]; exact q1
    replace q2 : Blk w3 44 (w2.heap.size + 1) r := by rw [hw3]; exact q2
    replace q3 : Below w2.heap.size w2 w3 := by rw [hw3]; exact q3
    rw [← hw3]
    have hne : ¬ (w2.heap.size) = (w2.heap.size + 1) := by omega
    have hge : w.heap.size ≤ (w2.heap.size + 1) := by have := HB2.out.size; omega
    have hsrc : Src w3.drew (some ⟨w2.heap.size, 0, none⟩) k (l.take k) := (q1.keep (w' := w3.drew) rfl).src (o := 0) (n := k) (by omega)
    obtain ⟨w4, hrun, hblk4, hk4, hz4⟩ := copy_blk w3.drew 3 44 (w2.heap.size + 1) 0 512 512 (some ⟨w2.heap.size, 0, none⟩) k k r (l.take k) (q2.keep (w' := w3.drew) rfl) hsrc hk (by omega)
    rw [put_smix hln hk] at hblk4
    have hlst := hblk4.lst (B := w.heap.size) hge
    rw [smix_len hln hrn hk] at hlst
    have b3 := HB2.out.trans (q3.mono HB2.out.size)
    have b4 := (below_drew' b3).trans (hk4.below (fun j hj => by omega) b3.size)
    have HL := Hid.mk (And.intro hlst b4)
    clear q1 q2 q3 hsrc hblk4 hk4 hz4 hlst b3 b4 hw3 HN HP HC t1 t2 t3 t4 hne hge eL eR hFL hFR hoL hoR hiL hiR HFL hHeld
    go_wp2
    go_region_held3 (fun _ => True) (trivial)
      (first | (go_at_call 21; refine (cut_to (w2.heap.size) k hk _).mono ?_; rintro e w' ⟨rfl, hw⟩; have hw' := hw.symm; subst hw'; clear hw))
    go_wp2
    go_ret2
    exact ⟨_, rfl, HL.out.1, HL.out.2⟩
  · go_simp
    refine hK.out _ _ ?_ (fun hHeld => ?_)
    · exact HC.out _ HP.out.2.1
    clear hK K
    try simp only [Act.put, List.setIfInBounds_toArray, List.set_cons_zero, List.set_cons_succ]
    refine wpAnyH_ready (rs := [4]) (by kernel_rfl) (by simp) ?_
    refine AllReadyH.cons (o := { dst := some 10, op := Op.alloc 44, type := 0, pos := "seal.go:41", after := #[], guard := none }) rfl (fun K hK => ?_) AllReadyH.nil
    go_simp
    refine hK.out _ _ ?_ (fun hHeld => ?_)
    · exact HC.out _ HP.out.2.2.1
    clear hK K
    try simp only [Act.put, List.setIfInBounds_toArray, List.set_cons_zero, List.set_cons_succ]
    refine wpAnyH_ready (rs := [6]) (by kernel_rfl) (by simp) ?_
    refine AllReadyH.cons (o := { dst := none, op := Op.store 44 (Operand.tmp 10) (Operand.tmp 27), type := 0, pos := "seal.go:41", after := #[{ on := 4, ground := Ground.data }, { on := 1, ground := Ground.data }, { on := 0, ground := Ground.phase }, { on := 1, ground := Ground.phase }, { on := 2, ground := Ground.textOnly Departure.lateStoresUnsure }, { on := 3, ground := Ground.textOnly Departure.lateStoresUnsure }, { on := 4, ground := Ground.phase }, { on := 5, ground := Ground.phase }], guard := none }) rfl (fun K hK => ?_) AllReadyH.nil
    rw [if_pos (by rfl)]
    refine wp_store_mid _ _ _ rfl (w2.heap.size + 1) 0 FL.toArray rfl rfl (by rw [eL]; exact t2) (by rw [eL]; exact sizeSec) (all_oneCell_toArray hoL) ?_
    simp only [Act.put]
    refine hK.out _ _ ?_ (fun hHeld => ?_)
    · exact HC.out _ HP.out.2.2.2.2
    clear hK K
    try simp only [Act.put, List.setIfInBounds_toArray, List.set_cons_zero, List.set_cons_succ]
    refine wpAnyH_ready (rs := [7]) (by kernel_rfl) (by simp) ?_
    refine AllReadyH.cons (o := { dst := none, op := Op.store 44 (Operand.tmp 11) (Operand.tmp 29), type := 0, pos := "seal.go:41", after := #[{ on := 5, ground := Ground.data }, { on := 3, ground := Ground.data }, { on := 6, ground := Ground.chain }, { on := 0, ground := Ground.phase }, { on := 1, ground := Ground.phase }, { on := 2, ground := Ground.phase }, { on := 3, ground := Ground.phase }, { on := 4, ground := Ground.phase }, { on := 5, ground := Ground.phase }, { on := 6, ground := Ground.phase }], guard := none }) rfl (fun K hK => ?_) AllReadyH.nil
    rw [if_pos (by rfl)]
    refine wp_store_mid _ _ _ rfl (w2.heap.size) 0 FR.toArray rfl rfl (by rw [eR]; exact t4) (by rw [eR]; exact sizeSec) (all_oneCell_toArray hoR) ?_
    simp only [Act.put]
    refine hK.out _ _ ?_ (fun hHeld => ?_)
    · exact HC.out _ HN.out.2.2.2
    clear hK K
    try simp only [Act.put, List.setIfInBounds_toArray, List.set_cons_zero, List.set_cons_succ]
    refine wpAnyH_done (by kernel_rfl) ?_ _
    refine NoPanic.normal ?_
    have q1 := HN.out.2.1
    have q2 := HN.out.2.2.1
    have q3 := HN.out.2.2.2
    obtain ⟨w3, hw3⟩ : ∃ w3, w3 = (((((w2.alloc (.cells zsec 44)).alloc (.cells zsec 44)).drew).setCells (w2.heap.size + 1) 0 FL).setCells (w2.heap.size) 0 FR) := ⟨_, rfl⟩
    replace q1 : Blk w3 44 (w2.heap.size + 1) l := by rw [hw3]; exact q1
    replace q2 : Blk w3 44 (w2.heap.size) r := by rw [hw3]; exact q2
    replace q3 : Below w2.heap.size w2 w3 := by rw [hw3]; exact q3
    rw [← hw3]
    have hne : ¬ (w2.heap.size + 1) = (w2.heap.size) := by omega
    have hge : w.heap.size ≤ (w2.heap.size) := by have := HB2.out.size; omega
    have hsrc : Src w3.drew (some ⟨w2.heap.size + 1, 0, none⟩) k (l.take k) := (q1.keep (w' := w3.drew) rfl).src (o := 0) (n := k) (by omega)
    obtain ⟨w4, hrun, hblk4, hk4, hz4⟩ := copy_blk w3.drew 3 44 (w2.heap.size) 0 512 512 (some ⟨w2.heap.size + 1, 0, none⟩) k k r (l.take k) (q2.keep (w' := w3.drew) rfl) hsrc hk (by omega)
    rw [put_smix hln hk] at hblk4
    have hlst := hblk4.lst (B := w.heap.size) hge
    rw [smix_len hln hrn hk] at hlst
    have b3 := HB2.out.trans (q3.mono HB2.out.size)
    have b4 := (below_drew' b3).trans (hk4.below (fun j hj => by omega) b3.size)
    have HL := Hid.mk (And.intro hlst b4)
    clear q1 q2 q3 hsrc hblk4 hk4 hz4 hlst b3 b4 hw3 HN HP HC t1 t2 t3 t4 hne hge eL eR hFL hFR hoL hoR hiL hiR HFL hHeld
    go_wp2
    go_region_held3 (fun _ => True) (trivial)
      (first | (go_at_call 21; refine (cut_to (w2.heap.size + 1) k hk _).mono ?_; rintro e w' ⟨rfl, hw⟩; have hw' := hw.symm; subst hw'; clear hw))
    go_wp2
    go_ret2
    exact ⟨_, rfl, HL.out.1, HL.out.2⟩
end Go.Proofs.Ytohgdjlgbnpobaa
end

section
namespace Go.Proofs.Ytohgdjlgbnpobaa
open Go.RowKit

theorem numX_any (x : Int) (w : World) : Calls Try.prog 24 #[.int .i64 x] w fun e w' => e = .returned (.int .i64 x) ∧ w' = w := by
  go_enter Try.func24, Try.ntmps24
  go_wp2
  go_ret
  exact ⟨rfl, rfl⟩

set_option maxRecDepth 20000 in
set_option maxHeartbeats 8000000 in
theorem splice_no (a : Option Addr) (n c : Nat) (l : List Int) (a2 : Option Addr) (m d : Nat) (r : List Int) (cut : Int) (w : World) (hs : Src w a n l) (hs2 : Src w a2 m r) (hno : ¬ (n = 512 ∧ m = 512) ∨ cut < 0 ∨ 512 < cut) :
    Calls Try.prog 27 #[.slice a n c, .slice a2 m d, .int .i64 cut] w fun e w' => e = .returned (.tuple #[.slice none 0 0, .int .i64 (if n = 512 ∧ m = 512 then 1 else 2)]) ∧ Below w.heap.size w w' := by
  have hz := zeroPair
  have h1 := pairOf_any a n c l a2 m d r w hs hs2
  have hinfo := infoPairX (secOf_len l) (secOf_len r)
  have hall := all_oneCell_toArray (bs_one (secOf l ++ secOf r))
  have hFl : (bs (secOf l ++ secOf r)).length = 1024 := by rw [bs, List.length_map, List.length_append, secOf_len, secOf_len]
  generalize bs (secOf l ++ secOf r) = F at h1 hinfo hall hFl
  clear hs hs2
  have hB : ∀ w1 : World, Below w.heap.size w w1 → Below w.heap.size w ((w1.alloc (.cells zpair 78)).setCells w1.heap.size 0 F) := fun w1 hb => by
    have hb1 := hb.alloc hb.size (.cells zpair 78)
    have := hb.size
    exact hb1.trans ((Keeps.setCells (F := fun j => j = w1.heap.size) rfl F 0 _).below (fun j hj => by omega) hb1.size)
  have HB := Hid.mk hB
  clear hB
  by_cases hwh : n = 512 ∧ m = 512
  · have hno' : cut < 0 ∨ 512 < cut := by omega
    rw [if_pos hwh]
    have hd : (decide (n = 512) && decide (m = 512)) = true := by simp [hwh.1, hwh.2]
    rw [hd] at h1
    clear hno hwh hd
    by_cases h0 : cut < 0
    · go_enter Try.func27, Try.ntmps27
      go_wp2_with fail
      refine h1.mono ?_
      rintro e w1 ⟨rfl, hb1⟩
      have hw1 : (w1.alloc (.cells zpair 78)).heap[w1.heap.size]? = some (.cells zpair 78 (0, 0)) := heap_alloc_new _ _
      have hth := there_of hw1 zpair_size
      rw [← hFl] at hth
      have HB2 := Hid.mk (HB.out w1 hb1)
      clear h1 hw1 hb1
      go_wp2_with (refine wpList_store_mid rfl 78 _ _ rfl w1.heap.size 0 F.toArray rfl rfl ?h1 ?h2 hall ?_)
      case h1 => simpa using hth
      case h2 => simpa using hinfo
      go_ret2
      exact ⟨rfl, HB2.out⟩
    · have h2 : 512 < cut := by omega
      go_enter Try.func27, Try.ntmps27
      go_wp2_with fail
      refine h1.mono ?_
      rintro e w1 ⟨rfl, hb1⟩
      have hw1 : (w1.alloc (.cells zpair 78)).heap[w1.heap.size]? = some (.cells zpair 78 (0, 0)) := heap_alloc_new _ _
      have hth := there_of hw1 zpair_size
      rw [← hFl] at hth
      have HB2 := Hid.mk (HB.out w1 hb1)
      clear h1 hw1 hb1
      go_wp2_with (refine wpList_store_mid rfl 78 _ _ rfl w1.heap.size 0 F.toArray rfl rfl ?h1 ?h2 hall ?_)
      case h1 => simpa using hth
      case h2 => simpa using hinfo
      go_ret2
      exact ⟨rfl, HB2.out⟩
  · rw [if_neg hwh]
    have hd : (decide (n = 512) && decide (m = 512)) = false := by simp; omega
    rw [hd] at h1
    clear hno hwh hd
    go_enter Try.func27, Try.ntmps27
    go_wp2_with fail
    refine h1.mono ?_
    rintro e w1 ⟨rfl, hb1⟩
    have hw1 : (w1.alloc (.cells zpair 78)).heap[w1.heap.size]? = some (.cells zpair 78 (0, 0)) := heap_alloc_new _ _
    have hth := there_of hw1 zpair_size
    rw [← hFl] at hth
    have HB2 := Hid.mk (HB.out w1 hb1)
    clear h1 hw1 hb1
    go_wp2_with (refine wpList_store_mid rfl 78 _ _ rfl w1.heap.size 0 F.toArray rfl rfl ?h1 ?h2 hall ?_)
    case h1 => simpa using hth
    case h2 => simpa using hinfo
    go_ret2
    exact ⟨rfl, HB2.out⟩

theorem splice_any (a : Option Addr) (n c : Nat) (l : List Int) (a2 : Option Addr) (m d : Nat) (r : List Int) (cut : Int) (w : World) (hs : Src w a n l) (hs2 : Src w a2 m r) :
    Calls Try.prog 27 #[.slice a n c, .slice a2 m d, .int .i64 cut] w fun e w' => ∃ v, e = .returned (.tuple #[v, .int .i64 (((ssplice l r cut).2 : Nat) : Int)]) ∧ Lst w' w.heap.size v (ssplice l r cut).1 ∧ Below w.heap.size w w' := by
  have hln := hs.1
  have hrn := hs2.1
  by_cases hno : ¬ (n = 512 ∧ m = 512) ∨ cut < 0 ∨ 512 < cut
  · refine (splice_no a n c l a2 m d r cut w hs hs2 hno).mono ?_
    rintro e w' ⟨rfl, hb⟩
    have e : ssplice l r cut = ([], if n = 512 ∧ m = 512 then 1 else 2) := by
      unfold ssplice
      by_cases h : n = 512 ∧ m = 512
      · rw [if_neg (by omega), if_pos (by omega), if_pos h]
      · rw [if_pos (by omega), if_neg h]
    rw [e]
    refine ⟨.slice none 0 0, ?_, Lst.nil _ _, hb⟩
    split <;> rfl
  · obtain ⟨k, rfl⟩ : ∃ k : Nat, cut = (k : Int) := ⟨cut.toNat, by omega⟩
    obtain ⟨rfl, rfl⟩ : n = 512 ∧ m = 512 := by omega
    have e : ssplice l r (k : Int) = (smix l r k, 0) := by unfold ssplice; rw [if_neg (by omega), if_neg (by omega), Int.toNat_natCast]
    rw [e]
    exact splice_ok a c l a2 d r k w hs hs2 (by omega)
end Go.Proofs.Ytohgdjlgbnpobaa
end

section
namespace Go.Proofs.Ytohgdjlgbnpobaa
open Go.RowKit

theorem append_assoc3 (a b : List Int) (x : Int) : a ++ b ++ [x] = a ++ (b ++ [x]) := List.append_assoc _ _ _
theorem zs_snoc (k : Nat) : zs k ++ [0] = zs (k + 1) := by rw [zs_add]; rfl
theorem getD_app {a b : List Int} {i : Nat} (h : a.length ≤ i) : (a ++ b).getD i 0 = b.getD (i - a.length) 0 := by
  simp only [List.getD, List.getElem?_append_right h]

set_option maxRecDepth 20000 in
set_option maxHeartbeats 8000000 in
theorem rform_any (t : Nat) (a : Option Addr) (n c : Nat) (body : List Int) (w : World) (ht : t < 256) (hs : Src w a n body) (hn : n ≤ 504) (hb : Bytes body) :
    Calls Try.prog 36 #[.int .i64 (t : Int), .slice a n c] w fun e w' => ∃ v, e = .returned v ∧ Own w' w.heap.size v (sform t body) ∧ Below w.heap.size w w' := by
  have H := Hid.mk hs
  have hlb := hs.1
  have q1 : ((n : Int)).tmod 256 = ((n % 256 : Nat) : Int) := by rw [Int.tmod_eq_emod_of_nonneg (by omega)]; omega
  have q2 : ((n : Int)).tdiv 256 = ((n / 256 : Nat) : Int) := by rw [Int.tdiv_eq_ediv_of_nonneg (by omega)]; omega
  clear hs
  go_enter Try.func36, Try.ntmps36
  go_wp2_with (at_builtin; refine wpList_app1 rfl _ _ rfl w.heap.size _ [] _ rfl rfl (Own.nil w _) ?b1 ?b2 ?_)
  case b1 => simp
  case b2 => exact Nat.le_refl _
  intro v1 w1 ho1 hb1
  have hz1 := hb1.size
  have Ho1 := Hid.mk ho1
  have HB1 := Hid.mk hb1
  clear ho1 hb1
  go_wp2_with (at_builtin; refine wpList_app1 rfl _ _ rfl w.heap.size v1 _ _ rfl rfl Ho1.out ?b1 ?b2 ?_)
  case b1 => simp
  case b2 => exact hz1
  intro v2 w2 ho2 hb2
  have hB2 := HB1.out.trans (hb2.mono (Nat.le_refl _))
  have ho2' : Own w2 w.heap.size v2 ([((n % 256 : Nat) : Int), ((n / 256 : Nat) : Int)] ++ body.take 0) := ho2
  have Ho2 := Hid.mk ho2'
  have HB2 := Hid.mk hB2
  obtain ⟨hd, hhd⟩ : ∃ hd, hd = [((n % 256 : Nat) : Int), ((n / 256 : Nat) : Int)] := ⟨_, rfl⟩
  have hdl : hd.length = 2 := by rw [hhd]; rfl
  rw [← hhd] at Ho2
  have Hhd := Hid.mk hhd
  clear ho2 ho2' hb2 hB2 hhd Ho1 HB1 hz1 q1 q2
  go_wp2
  go_loopw [5, 6] (fun v i wr => ∃ k : Nat, k ≤ n ∧ i = .int .i64 k ∧ Own wr w.heap.size v (hd ++ body.take k) ∧ Below w.heap.size w wr) (fun _ i _ => n - (intOf i).toNat)
  case atStart => exact ⟨0, Nat.zero_le _, rfl, Ho2.out, HB2.out⟩
  case round =>
    clear Ho2 HB2
    obtain ⟨k, hk, rfl, hown, hbr⟩ := hrel
    have Hown := Hid.mk hown
    have HB := Hid.mk hbr
    have hz := hbr.size
    clear hown hbr
    by_cases hlt : k < n
    · have hlt' : (k : Int) < (n : Int) := by omega
      obtain ⟨x0, rfl⟩ : ∃ x, a = some x := by
        cases a with
        | none => have := H.out.2.1 rfl; omega
        | some x => exact ⟨x, rfl⟩
      obtain ⟨b, o, rfl, hcell⟩ := H.out.spot (by omega)
      have hc := cell_later HB.out (hcell k hlt)
      have eN := take_snoc body k (by omega)
      have HeN := Hid.mk eN
      clear hcell eN
      generalize body.getD k 0 = x at *
      go_wp2_with (at_builtin; refine wpList_app1 rfl _ _ rfl w.heap.size u5 _ x rfl rfl Hown.out ?b1 ?b2 ?_)
      case b1 => simp; omega
      case b2 => exact hz
      intro v' w' ho hb'
      have HO : Hid (Own w' w.heap.size v' (hd ++ body.take (k + 1))) := by rw [← HeN.out]; exact ho
      have HB' := Hid.mk (HB.out.trans (hb'.mono (Nat.le_refl _)))
      clear ho hb' Hown HB HeN
      go_wp2
      go_roundw
      case rel => exact ⟨k + 1, by omega, by go_num, HO.out, HB'.out⟩
      case measure => simp [intOf]; omega
    · have hlt' : ¬ (k : Int) < (n : Int) := by omega
      have e : body.take k = body := List.take_of_length_le (by omega)
      rw [e] at Hown
      clear e
      have Hown2 : Hid (Own wr w.heap.size u5 (hd ++ body ++ zs 0)) := by show Own wr w.heap.size u5 (hd ++ body ++ []); rw [List.append_nil]; exact Hown.out
      obtain ⟨T, hT⟩ : ∃ T, T = hd ++ body := ⟨_, rfl⟩
      have hTl : T.length = 2 + n := by rw [hT]; simp; omega
      rw [← hT] at Hown2
      have HT := Hid.mk hT
      clear hT Hown
      go_wp2
      go_loopw [5] (fun v wr => ∃ k : Nat, k ≤ 504 - n ∧ Own wr w.heap.size v (T ++ zs k) ∧ Below w.heap.size w wr) (fun v _ => 506 - lenV v)
      case atStart => exact ⟨0, Nat.zero_le _, Hown2.out, HB.out⟩
      case round =>
        clear Hown2 HB hz
        obtain ⟨j, hj, hown, hbr⟩ := hrel
        obtain ⟨at', ct', rfl, _, _, _⟩ := hown.src
        have hlen : (T ++ zs j).length = 2 + n + j := by rw [List.length_append, zs_len, hTl]
        rw [hlen] at hown
        have Hown := Hid.mk hown
        have HB := Hid.mk hbr
        have hz := hbr.size
        clear hown hbr
        rw [hlen]
        by_cases hlj : j < 504 - n
        · have hlj' : ((2 + n + j : Nat) : Int) < 506 := by omega
          obtain ⟨N, hN⟩ : ∃ N, N = 2 + n + j := ⟨_, rfl⟩
          rw [← hN] at hlj' hlen Hown ⊢
          have HN := Hid.mk hN
          clear hN
          go_wp2_with (at_builtin; refine wpList_app1 rfl _ _ rfl w.heap.size (.slice at' N ct') _ 0 rfl rfl Hown.out ?b1 ?b2 ?_)
          case b1 => omega
          case b2 => exact hz
          intro v' w' ho hb'
          have HO : Hid (Own w' w.heap.size v' (T ++ zs (j + 1))) := by rw [← zs_snoc, ← append_assoc3]; first | exact ho | (rw [List.append_assoc]; exact ho)
          have HB' := Hid.mk (HB.out.trans (hb'.mono (Nat.le_refl _)))
          clear ho hb' Hown HB
          go_wp2
          go_roundw
          case rel => exact ⟨j + 1, by omega, HO.out, HB'.out⟩
          case measure =>
            obtain ⟨a1, c1, rfl, _, _, _⟩ := HO.out.src
            have : (T ++ zs (j + 1)).length = 2 + n + (j + 1) := by rw [List.length_append, zs_len, hTl]
            have hN := HN.out
            simp only [lenV, this]
            omega
        · obtain rfl : j = 504 - n := by omega
          have e6 : 2 + n + (504 - n) = 506 := by omega
          rw [e6] at Hown hlen ⊢
          have eT : T ++ zs (504 - n) = stext body := by
            rw [HT.out, Hhd.out, ← hlb]
            simp [stext, zs]
          rw [eT] at Hown hlen
          have htb : Bytes (stext body) := stext_bytes hb (by omega)
          have hEl := sumOf_lt htb
          obtain ⟨E, hE⟩ : ∃ E, E = sumOf (stext body) := ⟨_, rfl⟩
          obtain ⟨X, hX⟩ : ∃ X, X = stext body := ⟨_, rfl⟩
          have hdrop : X.drop 2 = body ++ zs (504 - n) := by rw [hX, ← hlb]; simp [stext, zs]
          have hx0 : X.getD 0 0 = ((n % 256 : Nat) : Int) := by rw [hX, ← hlb]; rfl
          have hx1 : X.getD 1 0 = ((n / 256 : Nat) : Int) := by rw [hX, ← hlb]; rfl
          have hfin : sform t body = [(t : Int), X.getD 0 0, X.getD 1 0] ++ leb 4 E ++ X.drop 2 ++ [(t : Int)] := by
            rw [hdrop, hx0, hx1, hE, leb4, ← hlb]
            simp [sform, zs]
          rw [← hX] at Hown hlen htb
          rw [← hE] at hEl
          have Hfin := Hid.mk hfin
          have hsumE : E = sumOf X := by rw [hE, hX]
          clear hfin hdrop hx0 hx1 hE hX eT e6 HT Hhd
          have hown6 := Hown.out
          rw [← hlen] at hown6
          obtain ⟨g, ct, hge, hgB, hrow⟩ := Own.row' (l := X) hown6 (by omega)
          have hae : at' = some ⟨g, 0, none⟩ := by cases hge; rfl
          have hce : ct' = ct := by cases hge; rfl
          subst hae
          subst hce
          have hq := qsum_any (some ⟨g, 0, none⟩) 506 ct' X wr htb (by omega) (by have := hrow.src; rw [hlen] at this; exact this)
          rw [← hsumE] at hq
          have Hrow := Hid.mk hrow
          clear hown6 hge hrow Hown hsumE htb hlj
          go_wp2_with fail
          refine hq.mono ?_
          rintro e w3 ⟨rfl, hb3⟩
          have hrow3 := Hrow.out.agree (hb3.block g Hrow.out.lt)
          have hB3 : Below w.heap.size w w3 := HB.out.trans (hb3.mono HB.out.size)
          have hz3 := hB3.size
          have c0 := hrow3.get (i := 0) (by omega)
          have c1 := hrow3.get (i := 1) (by omega)
          have Hrow3 := Hid.mk hrow3
          have HB3 := Hid.mk hB3
          have hz' := hz
          clear hq hb3 hrow3 hB3 Hrow HB hz
          obtain ⟨x0, hx0⟩ : ∃ x0, x0 = X.getD 0 0 := ⟨_, rfl⟩
          obtain ⟨x1, hx1⟩ : ∃ x1, x1 = X.getD 1 0 := ⟨_, rfl⟩
          rw [← hx0] at c0
          rw [← hx1] at c1
          rw [← hx0, ← hx1] at Hfin
          clear hx0 hx1
          have hgl := Hrow3.out.lt
          have hz3r := Nat.le_refl w3.heap.size
          go_wp2_with (at_builtin; refine wpList_app1 rfl _ _ rfl w3.heap.size (.slice none 0 0) [] (t : Int) rfl rfl (Own.nil w3 _) ?b1 ?b2 ?_)
          case b1 => simp
          case b2 => exact hz3r
          intro v4 w4 ho4 hb4
          have Ho4 := Hid.mk ho4
          have HB4 := Hid.mk hb4
          have hz4 := hb4.size
          have d0 : w4.cell? ⟨g, 0, none⟩ = some (.int .u8 x0) := cell_later hb4 c0
          have d1 : w4.cell? ⟨g, 1, none⟩ = some (.int .u8 x1) := cell_later hb4 c1
          clear ho4 hb4 c0 c1
          go_wp2_with (at_builtin; refine wpList_app1 rfl _ _ rfl w3.heap.size v4 _ x0 rfl rfl Ho4.out ?b1 ?b2 ?_)
          case b1 => simp
          case b2 => exact hz4
          intro v5 w5 ho5 hb5
          have Ho5 := Hid.mk ho5
          have HB5 := Hid.mk (HB4.out.trans (hb5.mono (Nat.le_refl _)))
          have hz5 := HB5.out.size
          have d1' : w5.cell? ⟨g, 1, none⟩ = some (.int .u8 x1) := (World.cell?_of_block (hb5.block g hgl)).trans d1
          clear ho5 hb5 d0 d1 Ho4 HB4 hz4
          go_wp2_with (at_builtin; refine wpList_app1 rfl _ _ rfl w3.heap.size v5 _ x1 rfl rfl Ho5.out ?b1 ?b2 ?_)
          case b1 => simp
          case b2 => exact hz5
          intro v6 w6 ho6 hb6
          have Ho6 : Hid (Own w6 w3.heap.size v6 ([(t : Int), x0, x1] ++ leb 0 E)) := ho6
          have HB6 := Hid.mk (HB5.out.trans (hb6.mono (Nat.le_refl _)))
          clear ho6 hb6 d1' Ho5 HB5 hz5
          obtain ⟨P, hP⟩ : ∃ P, P = [(t : Int), x0, x1] := ⟨_, rfl⟩
          have hPl : P.length = 3 := by rw [hP]; rfl
          rw [← hP] at Ho6 Hfin
          clear hP
          go_wp2
          go_loopw [7, 8, 9] (fun s v i wx => ∃ m : Nat, m ≤ 4 ∧ i = .int .i64 m ∧ s = .int .i64 ((E / 256 ^ m : Nat) : Int) ∧ Own wx w3.heap.size v (P ++ leb m E) ∧ Below w3.heap.size w3 wx) (fun _ _ i _ => 4 - (intOf i).toNat)
          case atStart => exact ⟨0, Nat.zero_le _, rfl, by simp, Ho6.out, HB6.out⟩
          case round =>
            clear Ho6 HB6
            obtain ⟨m, hm, rfl, rfl, hown, hbx⟩ := hrel
            have Hown := Hid.mk hown
            have HB := Hid.mk hbx
            have hz := hbx.size
            clear hown hbx
            by_cases hlm : m < 4
            · have hlm' : (m : Int) < 4 := by omega
              have e1 : E / 256 ^ (m + 1) = E / 256 ^ m / 256 := by rw [Nat.div_div_eq_div_mul, Nat.pow_succ]
              have e2 := leb_snoc m E
              rw [show (2 : Nat) ^ (8 * m) = 256 ^ m by rw [Nat.pow_mul]] at e2
              have hQ : E / 256 ^ m < 4294967296 := Nat.lt_of_le_of_lt (Nat.div_le_self _ _) hEl
              generalize E / 256 ^ m = Q at *
              have q1 : ((Q : Int)).tmod 256 = ((Q % 256 : Nat) : Int) := by rw [Int.tmod_eq_emod_of_nonneg (by omega)]; omega
              have q2 : ((Q : Int)).tdiv 256 = ((Q / 256 : Nat) : Int) := by rw [Int.tdiv_eq_ediv_of_nonneg (by omega)]; omega
              have He1 := Hid.mk e1
              have He2 := Hid.mk e2
              have hll : (P ++ leb m E).length = 3 + m := by rw [List.length_append, hPl, leb_len]
              clear e1 e2
              go_wp2_with (at_builtin; refine wpList_app1 rfl _ _ rfl w3.heap.size u8 _ _ rfl rfl Hown.out ?b1 ?b2 ?_)
              case b1 => omega
              case b2 => exact hz
              intro v' w' ho hb'
              have HO : Hid (Own w' w3.heap.size v' (P ++ leb (m + 1) E)) := by rw [He2.out]; first | exact ho | (rw [← List.append_assoc]; exact ho)
              have HB' := Hid.mk (HB.out.trans (hb'.mono (Nat.le_refl _)))
              clear ho hb' Hown HB He2
              go_wp2
              go_roundw
              case rel => exact ⟨m + 1, by omega, by go_num, by rw [He1.out]; simp, HO.out, HB'.out⟩
              case measure => simp [intOf]; omega
            · have hlm' : ¬ (m : Int) < 4 := by omega
              obtain rfl : m = 4 := by omega
              obtain ⟨R, hR⟩ : ∃ R, R = P ++ leb 4 E := ⟨_, rfl⟩
              have hRl : R.length = 7 := by rw [hR, List.length_append, hPl, leb_len]
              rw [← hR] at Hown Hfin
              have Hown2 : Hid (Own wr w3.heap.size u8 (R ++ (X.drop 2).take 0)) := by show Own wr w3.heap.size u8 (R ++ []); rw [List.append_nil]; exact Hown.out
              clear hR Hown hm
              go_wp2
              go_loopw [8, 10] (fun v i wx => ∃ m : Nat, m ≤ 504 ∧ i = .int .i64 ((m + 2 : Nat) : Int) ∧ Own wx w3.heap.size v (R ++ (X.drop 2).take m) ∧ Below w3.heap.size w3 wx) (fun _ i _ => 506 - (intOf i).toNat)
              case atStart => exact ⟨0, Nat.zero_le _, rfl, Hown2.out, HB.out⟩
              case round =>
                clear Hown2 HB hz
                obtain ⟨m, hm, rfl, hown, hbx⟩ := hrel
                have Hown := Hid.mk hown
                have HB := Hid.mk hbx
                have hz := hbx.size
                clear hown hbx
                have hdl2 : (X.drop 2).length = 504 := by simp; omega
                have hll : (R ++ (X.drop 2).take m).length = 7 + m := by rw [List.length_append, hRl, List.length_take]; omega
                by_cases hlm : m < 504
                · have hlm' : ((m + 2 : Nat) : Int) < 506 := by omega
                  have hcx : wr.cell? ⟨g, m + 2, none⟩ = some (.int .u8 (X.getD (m + 2) 0)) := cell_later HB.out (Hrow3.out.get (i := m + 2) (by omega))
                  have eN := take_snoc (X.drop 2) m (by omega)
                  have eX : (X.drop 2).getD m 0 = X.getD (m + 2) 0 := by simp [List.getD, Nat.add_comm]
                  rw [eX] at eN
                  have HeN := Hid.mk eN
                  clear eN eX
                  generalize X.getD (m + 2) 0 = x at *
                  generalize hM : m + 2 = M at *
                  have HM := Hid.mk hM
                  clear hM
                  go_wp2_with (at_builtin; refine wpList_app1 rfl _ _ rfl w3.heap.size u8 _ x rfl rfl Hown.out ?b1 ?b2 ?_)
                  case b1 => omega
                  case b2 => exact hz
                  intro v' w' ho hb'
                  have HO : Hid (Own w' w3.heap.size v' (R ++ (X.drop 2).take (m + 1))) := by rw [← HeN.out]; first | exact ho | (rw [← List.append_assoc]; exact ho)
                  have HB' := Hid.mk (HB.out.trans (hb'.mono (Nat.le_refl _)))
                  clear ho hb' Hown HB HeN
                  go_wp2
                  go_roundw
                  case rel => exact ⟨m + 1, by omega, by have := HM.out; subst this; go_num, HO.out, HB'.out⟩
                  case measure => have := HM.out; simp [intOf]; omega
                · obtain rfl : m = 504 := by omega
                  have e5 : (X.drop 2).take 504 = X.drop 2 := List.take_of_length_le (by omega)
                  rw [e5] at Hown hll
                  obtain ⟨Y, hY⟩ : ∃ Y, Y = R ++ X.drop 2 := ⟨_, rfl⟩
                  rw [← hY] at Hown hll Hfin
                  clear hY e5
                  go_wp2_with (at_builtin; refine wpList_app1 rfl _ _ rfl w3.heap.size u8 _ (t : Int) rfl rfl Hown.out ?b1 ?b2 ?_)
                  case b1 => omega
                  case b2 => exact hz
                  intro v' w' ho hb'
                  have HO : Hid (Own w' w.heap.size v' (sform t body)) := by rw [Hfin.out]; exact Own.down ho hz3
                  have HB' : Hid (Below w.heap.size w w') := HB3.out.trans ((HB.out.trans (hb'.mono (Nat.le_refl _))).mono hz3)
                  clear ho hb' Hown HB
                  go_wp2
                  go_ret
                  exact ⟨_, rfl, HO.out, HB'.out⟩
end Go.Proofs.Ytohgdjlgbnpobaa
end

section
namespace Go.Proofs.Ytohgdjlgbnpobaa
open Go.RowKit

theorem turn_least {a b : Int} : ∀ k : Nat, k < turnOf a b → (k : Int) = a ∨ (k : Int) = b := by
  intro k hk
  unfold turnOf at hk
  split at hk
  · omega
  · split at hk
    · next h1 h2 => omega
    · next h1 h2 => omega

set_option maxRecDepth 20000 in
set_option maxHeartbeats 4000000 in
theorem rseal_no1 (a : Option Addr) (n c : Nat) (a2 : Option Addr) (m c2 : Nat) (w : World) (hn : n ≠ 512) :
    Calls Try.prog 23 #[.slice a n c, .slice a2 m c2] w fun e w' => e = .returned (.tuple #[.slice none 0 0, .int .i64 2]) ∧ w' = w := by
  have h1 : (((n : Int)) != 512) = true := by rw [bne_iff_ne]; omega
  go_enter Try.func23, Try.ntmps23
  go_wp2
  go_ret2
  exact ⟨rfl, rfl⟩
set_option maxRecDepth 20000 in
set_option maxHeartbeats 4000000 in
theorem rseal_no2 (a : Option Addr) (c : Nat) (a2 : Option Addr) (m c2 : Nat) (w : World) (hm : 504 < m) :
    Calls Try.prog 23 #[.slice a 512 c, .slice a2 m c2] w fun e w' => e = .returned (.tuple #[.slice none 0 0, .int .i64 7]) ∧ w' = w := by
  have hm' : 504 < (m : Int) := by omega
  go_enter Try.func23, Try.ntmps23
  go_wp2
  go_ret2
  exact ⟨rfl, rfl⟩
set_option maxRecDepth 20000 in
set_option maxHeartbeats 4000000 in
theorem rseal_ok (b o c : Nat) (old : List Int) (a2 : Option Addr) (m c2 : Nat) (body : List Int) (w : World) (hs : Src w (some ⟨b, o, none⟩) 512 old) (hs2 : Src w a2 m body) (hm : m ≤ 504) (hb : Bytes body) (hbo : Bytes old) :
    Calls Try.prog 23 #[.slice (some ⟨b, o, none⟩) 512 c, .slice a2 m c2] w fun e w' => ∃ v, e = .returned (.tuple #[v, .int .i64 0]) ∧ Own w' w.heap.size v (sform (turnOf (old.getD 0 0) (old.getD 511 0)) body) ∧ Below w.heap.size w w' := by
  have hm' : ¬ 504 < (m : Int) := by omega
  have c0 := hs.2.2 _ rfl 0 (by omega)
  have c1 := hs.2.2 _ rfl 511 (by omega)
  rw [addr_add] at c0 c1
  rw [Nat.add_zero] at c0
  have hle := turnOf_le (old.getD 0 0) (old.getD 511 0)
  have Hm := Hid.mk (turn_least (a := old.getD 0 0) (b := old.getD 511 0))
  have Hn := Hid.mk (turnOf_ne (old.getD 0 0) (old.getD 511 0))
  have hf := Hid.mk (fun t (ht : t < 256) => rform_any t a2 m c2 body w ht hs2 hm hb)
  obtain ⟨x0, x1⟩ := hbo.getD 0
  obtain ⟨y0, y1⟩ := hbo.getD 511
  generalize old.getD 0 0 = x at *
  generalize old.getD 511 0 = y at *
  generalize turnOf x y = t at *
  clear hs hs2
  go_enter Try.func23, Try.ntmps23
  go_wp2
  go_loopw [6] (fun i wr => ∃ k : Nat, k ≤ t ∧ i = .int .i64 k ∧ wr = w) (fun i _ => t - (intOf i).toNat)
  case atStart => exact ⟨0, Nat.zero_le _, rfl, rfl⟩
  case round =>
    obtain ⟨k, hk, rfl, rfl⟩ := hrel
    by_cases hlt : k < t
    · by_cases h1 : (k : Int) = x
      · have q1 : (x == (k : Int)) = true := by rw [beq_iff_eq]; exact h1.symm
        clear h1
        go_wp2
        go_roundw
        case rel => exact ⟨k + 1, by omega, by go_num, trivial⟩
        case measure => simp [intOf]; omega
      · have h2 : (k : Int) = y := (Hm.out k hlt).resolve_left h1
        have q1 : (x == (k : Int)) = false := by rw [beq_eq_false_iff_ne]; exact fun h => h1 h.symm
        have q2 : (y == (k : Int)) = true := by rw [beq_iff_eq]; exact h2.symm
        clear h1 h2
        go_wp2
        go_roundw
        case rel => exact ⟨k + 1, by omega, by go_num, trivial⟩
        case measure => simp [intOf]; omega
    · obtain rfl : k = t := by omega
      have q1 : (x == (k : Int)) = false := by rw [beq_eq_false_iff_ne]; exact fun h => Hn.out.1 h.symm
      have q2 : (y == (k : Int)) = false := by rw [beq_eq_false_iff_ne]; exact fun h => Hn.out.2 h.symm
      go_wp2_with fail
      refine (hf.out k (by omega)).mono ?_
      rintro e w1 ⟨v, rfl, ho, hb1⟩
      have HH := Hid.mk (And.intro ho hb1)
      clear hf ho hb1
      go_wp2
      go_ret2
      exact ⟨v, rfl, HH.out⟩
end Go.Proofs.Ytohgdjlgbnpobaa
end

section
namespace Go.Proofs.Ytohgdjlgbnpobaa
open Go.RowKit

theorem src_spot {w : World} {a : Option Addr} {n : Nat} {l : List Int} (h : Src w a n l) (hn : 0 < n) : ∃ b o, a = some ⟨b, o, none⟩ := by
  cases a with
  | none => have := h.2.1 rfl; omega
  | some x =>
    obtain ⟨b, o, rfl, _⟩ := h.spot hn
    exact ⟨b, o, rfl⟩

theorem seal_any (a : Option Addr) (n c : Nat) (old : List Int) (a2 : Option Addr) (m c2 : Nat) (body : List Int) (w : World) (hs : Src w a n old) (hs2 : Src w a2 m body) (hb : Bytes body) :
    Calls Try.prog 4 #[.slice a n c, .slice a2 m c2] w fun e w' => ∃ v, e = .returned (.tuple #[v, .int .i64 (((sseal old body).2 : Nat) : Int)]) ∧ Lst w' w.heap.size v (sseal old body).1 ∧ Below w.heap.size w w' := by
  have h1 := hs.1
  have h2 := hs2.1
  by_cases hn : n = 512
  · subst hn
    obtain ⟨b, o, rfl⟩ := src_spot hs (by omega)
    by_cases hm : 504 < m
    · refine (seal_no2 b o c old a2 m c2 w hs hm).mono ?_
      rintro e w' ⟨rfl, hbel⟩
      have e : sseal old body = ([], 7) := by unfold sseal; rw [if_neg (by omega), if_pos (by omega)]
      rw [e]
      exact ⟨_, rfl, Lst.nil _ _, hbel⟩
    · refine (seal_ok b o c old a2 m c2 body w hs hs2 (by omega) hb).mono ?_
      rintro e w' ⟨g, rfl, hblk, hg, hbel⟩
      have e : sseal old body = (sform (turnOf (old.getD 0 0) (old.getD 511 0)) body, 0) := by unfold sseal; rw [if_neg (by omega), if_neg (by omega)]
      rw [e]
      have hl : (sform (turnOf (old.getD 0 0) (old.getD 511 0)) body).length = 512 := sform_len (by omega)
      have := hblk.lst hg
      rw [hl] at this
      exact ⟨_, rfl, this, hbel⟩
  · refine (seal_no1 a n c a2 m c2 w hn).mono ?_
    rintro e w' ⟨rfl, hbel⟩
    have e : sseal old body = ([], 2) := by unfold sseal; rw [if_pos (by omega)]
    rw [e]
    exact ⟨_, rfl, Lst.nil _ _, hbel⟩
theorem rseal_any (a : Option Addr) (n c : Nat) (old : List Int) (a2 : Option Addr) (m c2 : Nat) (body : List Int) (w : World) (hs : Src w a n old) (hs2 : Src w a2 m body) (hb : Bytes body) (hbo : Bytes old) :
    Calls Try.prog 23 #[.slice a n c, .slice a2 m c2] w fun e w' => ∃ v, e = .returned (.tuple #[v, .int .i64 (((sseal old body).2 : Nat) : Int)]) ∧ Own w' w.heap.size v (sseal old body).1 ∧ Below w.heap.size w w' := by
  have h1 := hs.1
  have h2 := hs2.1
  by_cases hn : n = 512
  · subst hn
    obtain ⟨b, o, rfl⟩ := src_spot hs (by omega)
    by_cases hm : 504 < m
    · refine (rseal_no2 (some ⟨b, o, none⟩) c a2 m c2 w hm).mono ?_
      rintro e w' ⟨rfl, rfl⟩
      have e : sseal old body = ([], 7) := by unfold sseal; rw [if_neg (by omega), if_pos (by omega)]
      rw [e]
      exact ⟨_, rfl, Own.nil _ _, Below.refl _ _⟩
    · refine (rseal_ok b o c old a2 m c2 body w hs hs2 (by omega) hb hbo).mono ?_
      rintro e w' ⟨v, rfl, ho, hbel⟩
      have e : sseal old body = (sform (turnOf (old.getD 0 0) (old.getD 511 0)) body, 0) := by unfold sseal; rw [if_neg (by omega), if_neg (by omega)]
      rw [e]
      exact ⟨_, rfl, ho, hbel⟩
  · refine (rseal_no1 a n c a2 m c2 w hn).mono ?_
    rintro e w' ⟨rfl, rfl⟩
    have e : sseal old body = ([], 2) := by unfold sseal; rw [if_pos (by omega)]
    rw [e]
    exact ⟨_, rfl, Own.nil _ _, Below.refl _ _⟩

set_option maxHeartbeats 1000000 in
theorem lnum_any (x : Int) (w : World) : Calls Try.prog 24 #[.int .i64 x] w fun e w' => e = .returned (.int .i64 x) ∧ w' = w := by
  go_enter Try.func24, Try.ntmps24
  go_wp2
  go_ret
  exact ⟨rfl, rfl⟩

set_option maxHeartbeats 4000000 in
theorem upTo_any (a : Option Addr) (n c N : Nat) (l : List Int) (w : World) (hN : N ≤ 1000000) (hs : Src w a n l) (hn : n ≤ 140737488355328) :
    Calls Try.prog 32 #[.slice a n c, .int .i64 (N : Int)] w fun e w' => ∃ v, e = .returned v ∧ Own w' w.heap.size v (l.take N) ∧ Below w.heap.size w w' := by
  have H := Hid.mk hs
  have hl := hs.1
  clear hs
  go_enter Try.func32, Try.ntmps32
  go_wp2
  go_loopw [5, 6] (fun v i wr => ∃ k : Nat, k ≤ n ∧ k ≤ N ∧ i = .int .i64 k ∧ Own wr w.heap.size v (l.take k) ∧ Below w.heap.size w wr) (fun _ i _ => n - (intOf i).toNat)
  case atStart => exact ⟨0, Nat.zero_le _, Nat.zero_le _, rfl, Own.nil _ _, Below.refl _ _⟩
  case round =>
    obtain ⟨k, hk, hkN, rfl, hown, hbr⟩ := hrel
    have Hown := Hid.mk hown
    have HB := Hid.mk hbr
    have hz := hbr.size
    clear hown hbr
    by_cases hlt : k < n
    · have hlt' : (k : Int) < (n : Int) := by omega
      by_cases hlN : k < N
      · have hlN' : (k : Int) < (N : Int) := by omega
        obtain ⟨b, o, rfl⟩ := src_spot H.out (by omega)
        have hc := H.out.2.2 _ rfl k hlt
        rw [addr_add] at hc
        have hc := cell_later HB.out hc
        have HeN := Hid.mk (take_snoc l k (by omega))
        have hll : (l.take k).length ≤ 1000000 := by rw [List.length_take]; omega
        generalize l.getD k 0 = x at *
        go_wp2_with (at_builtin; refine wpList_app1 rfl _ _ rfl w.heap.size u5 _ x rfl rfl Hown.out ?b1 ?b2 ?_)
        case b1 => omega
        case b2 => exact hz
        intro v' w' ho hb'
        have HO : Hid (Own w' w.heap.size v' (l.take (k + 1))) := by rw [← HeN.out]; exact ho
        have HB' := Hid.mk (HB.out.trans (hb'.mono (Nat.le_refl _)))
        clear ho hb' Hown HB HeN
        go_wp2
        go_roundw
        case rel => exact ⟨k + 1, by omega, by omega, by go_num, HO.out, HB'.out⟩
        case measure => simp [intOf]; omega
      · have hlN' : ¬ (k : Int) < (N : Int) := by omega
        obtain rfl : k = N := by omega
        go_wp2
        go_ret
        exact ⟨_, rfl, Hown.out, HB.out⟩
    · have hlt' : ¬ (k : Int) < (n : Int) := by omega
      have e : l.take N = l.take k := by rw [List.take_of_length_le (by omega), List.take_of_length_le (by omega)]
      have HE := Hid.mk e
      clear e
      go_wp2
      go_ret
      exact ⟨_, rfl, by rw [HE.out]; exact Hown.out, HB.out⟩
end Go.Proofs.Ytohgdjlgbnpobaa
end

section
namespace Go.Proofs.Ytohgdjlgbnpobaa
open Go.RowKit

set_option maxRecDepth 20000 in
set_option maxHeartbeats 2000000 in
theorem rsame_ne (a b : Option Addr) (n m c d : Nat) (w : World) (h : n ≠ m) :
    Calls Try.prog 38 #[.slice a n c, .slice b m d] w fun e w' => e = .returned (.bool false) ∧ w' = w := by
  have h' : (((n : Int)) != (m : Int)) = true := by rw [bne_iff_ne]; omega
  go_enter Try.func38, Try.ntmps38
  go_wp2
  go_ret
  exact ⟨rfl, rfl⟩
set_option maxRecDepth 20000 in
set_option maxHeartbeats 2000000 in
theorem rsame_low (b o b' o' : Nat) (n c d : Nat) (l l' : List Int) (w : World) (hn : n ≤ 140737488355328) (hl : l.length = n) (hl' : l'.length = n) (h1 : ∀ i, i < n → w.cell? ⟨b, o + i, none⟩ = some (.int .u8 (l.getD i 0))) (h2 : ∀ i, i < n → w.cell? ⟨b', o' + i, none⟩ = some (.int .u8 (l'.getD i 0))) :
    Calls Try.prog 38 #[.slice (some ⟨b, o, none⟩) n c, .slice (some ⟨b', o', none⟩) n d] w fun e w' => e = .returned (.bool (decide (l = l'))) ∧ Below w.heap.size w w' := by
  have h' : (((n : Int)) != (n : Int)) = false := by simp
  have H1 := Hid.mk h1
  have H2 := Hid.mk h2
  clear h1 h2
  go_enter Try.func38, Try.ntmps38
  go_wp2
  go_loopw [5] (fun i wr => ∃ k : Nat, k ≤ n ∧ i = .int .i64 k ∧ l.take k = l'.take k ∧ Below w.heap.size w wr) (fun i _ => n - (intOf i).toNat)
  case atStart => exact ⟨0, Nat.zero_le _, rfl, by simp, Below.refl _ _⟩
  case round =>
    obtain ⟨k, hk, rfl, htk, hb⟩ := hrel
    have Htk := Hid.mk htk
    clear htk
    by_cases hlt : k < n
    · have c1 := cell_later hb (H1.out k hlt)
      have c2 := cell_later hb (H2.out k hlt)
      have hlt' : (k : Int) < (n : Int) := by omega
      by_cases hx : l.getD k 0 = l'.getD k 0
      · have Hnx := Hid.mk (take_eq_next Htk.out (by omega) (by omega) hx)
        have hb2 := Hid.mk (fun j => below_drewN hb j)
        rw [hx] at c1
        generalize l'.getD k 0 = x at *
        clear hx
        go_wp2
        go_quiet (fail)
        go_wp2
        go_roundw
        case rel => exact ⟨k + 1, by omega, by go_num, Hnx.out, below_drewN hb _⟩
        case measure => simp [intOf]; omega
      · have hne : l ≠ l' := ne_of_getD hx
        have hd : Hid (decide (l = l') = false) := by show decide (l = l') = false; simp [hne]
        have hxx : ((l.getD k 0) != (l'.getD k 0)) = true := by rw [bne_iff_ne]; exact hx
        generalize l'.getD k 0 = x at *
        generalize l.getD k 0 = y at *
        clear hx hne
        go_wp2
        go_quiet (fail)
        go_wp2
        go_ret
        exact ⟨by rw [hd.out]; rfl, below_drewN hb _⟩
    · have hlt' : ¬ (k : Int) < (n : Int) := by omega
      have hd : Hid (decide (l = l') = true) := by
        have := Htk.out
        rw [List.take_of_length_le (by omega), List.take_of_length_le (by omega)] at this
        show decide (l = l') = true
        simp [this]
      go_wp2
      go_ret
      exact ⟨by rw [hd.out]; rfl, hb⟩
set_option maxRecDepth 20000 in
set_option maxHeartbeats 1000000 in
theorem rsame_zero (a b : Option Addr) (c d : Nat) (w : World) :
    Calls Try.prog 38 #[.slice a 0 c, .slice b 0 d] w fun e w' => e = .returned (.bool true) ∧ w' = w := by
  go_enter Try.func38, Try.ntmps38
  go_wp2
  refine wp_loop_rounds 1 ?_; rw [rounds_succ]; go_wp2
  go_ret
  exact ⟨rfl, rfl⟩
theorem rsame_any (a b : Option Addr) (n m c d : Nat) (l l' : List Int) (w : World) (hn : n ≤ 140737488355328) (h1 : Src w a n l) (h2 : Src w b m l') :
    Calls Try.prog 38 #[.slice a n c, .slice b m d] w fun e w' => e = .returned (.bool (decide (l = l'))) ∧ Below w.heap.size w w' := by
  by_cases hnm : n = m
  · subst hnm
    by_cases h0 : n = 0
    · subst h0
      have e1 := List.eq_nil_of_length_eq_zero h1.1
      have e2 := List.eq_nil_of_length_eq_zero h2.1
      subst e1 e2
      exact (rsame_zero a b c d w).mono (by rintro e w' ⟨rfl, rfl⟩; exact ⟨rfl, Below.refl _ _⟩)
    · cases a with
      | none => exact absurd (h1.2.1 rfl) h0
      | some x =>
        cases b with
        | none => exact absurd (h2.2.1 rfl) h0
        | some y =>
          obtain ⟨b1, o1, rfl, k1⟩ := h1.spot (by omega)
          obtain ⟨b2, o2, rfl, k2⟩ := h2.spot (by omega)
          exact rsame_low b1 o1 b2 o2 n c d l l' w hn h1.1 h2.1 k1 k2
  · have hd : decide (l = l') = false := by
      have : l ≠ l' := fun e => hnm (by rw [← h1.1, ← h2.1, e])
      simp [this]
    rw [hd]
    exact (rsame_ne a b n m c d w hnm).mono (by rintro e w' ⟨rfl, rfl⟩; exact ⟨rfl, Below.refl _ _⟩)

end Go.Proofs.Ytohgdjlgbnpobaa
end
