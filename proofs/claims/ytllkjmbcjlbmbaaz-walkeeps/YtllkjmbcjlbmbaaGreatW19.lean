import Derived.Test.YtllkjmbcjlbmbaaGreatW18
section
namespace Go.Proofs.YtllkjmbcjlbmbaaGreat
open Go.RowKit

theorem results_cell1 {fn : Func} {p : Tmp} (h : fn.results = #[.cell p 41]) (tmps : Array Value) (w : World) (g : Nat) (v : Int)
    (hp : tmps.getD p undef = .pointer (some ⟨g, 0, none⟩)) (hv : w.cell? ⟨g, 0, none⟩ = some (.int .i64 v)) : (results fn tmps).run Tryz.prog w = .ok (.int .i64 v) w := by
  have hp' : tmps[p]?.getD undef = .pointer (some ⟨g, 0, none⟩) := by simpa using hp
  have h2 : (loadVar 41 ⟨g, 0, none⟩).run Tryz.prog w = .ok (.int .i64 v) w := by simp [go_sem, hv]
  simp [results, h, hp', asAddr, h2]

/-- The k-th piece of a record. -/
def partOf (d : List Int) (k : Nat) : List Int := (d.drop (492 * k)).take 492
theorem partOf_len (d : List Int) (k : Nat) : (partOf d k).length = chLen d.length k := by
  unfold partOf chLen
  simp
def cntOf (x : Nat) : Nat := (x + 491) / 492
/-- The laying of the first k pieces. -/
def appTo (L : LG) (S : DS) (s : Nat) (d : List Int) (k : Nat) : Int × DS := stepsTo S (fun j T => aput T s L.f L.n L.ep (L.head + j) j (cntOf d.length) (partOf d j)) k
/-- What stands against an append. -/
def LG.refuses (L : LG) (S : DS) (x : Nat) : Int :=
  if L.unready S ≠ 0 then L.unready S else if x = 0 then 2 else if 8364 < x then 7 else if 1073741824 < L.head + cntOf x then 41 else if L.tail + L.n < L.head + cntOf x then 40 else 0
def LG.append (L : LG) (S : DS) (s : Nat) (d : List Int) : Int × DS × LG :=
  if L.refuses S d.length ≠ 0 then (L.refuses S d.length, S, L)
  else if (appTo L S s d (cntOf d.length)).1 ≠ 0 then ((appTo L S s d (cntOf d.length)).1, (appTo L S s d (cntOf d.length)).2, L)
  else (0, (appTo L S s d (cntOf d.length)).2, { L with head := L.head + cntOf d.length })

section
variable {w : World} {F : Nat → Prop} {p s l : Nat} {S : DS} {L : LG}

/-- The two boxes of Append. -/
def AppBox (W : World) (b l : Nat) : Prop := W.heap[b]? = some (.cells #[.pointer (some ⟨l, 0, none⟩)] 24 (0, 0)) ∧ W.heap[b + 1]? = some (.cells #[.int .i64 0] 41 (0, 0))
theorem AppBox.err {W : World} {b l : Nat} (h : AppBox W b l) (v : Int) : (W.setCell ⟨b + 1, 0, none⟩ (.int .i64 v)).cell? ⟨b + 1, 0, none⟩ = some (.int .i64 v) :=
  cell_of_block (cur := #[.int .i64 v]) (e := 41) ((heap_setCell_same _ _ 0 _ _ _ h.2).trans (by simp)) (j := 0) rfl
theorem AppBox.later {W W' : World} {b l : Nat} (h : AppBox W b l) (hb : Below W.heap.size W W') : AppBox W' b l := ⟨(hb.block _ (lt_there h.1)).trans h.1, (hb.block _ (lt_there h.2)).trans h.2⟩

set_option maxRecDepth 20000 in
set_option maxHeartbeats 8000000 in
theorem Append_no (h : DiskR w F p s S) (hl : LogP w l p L) (hk : L.Ok s) (a : Option Addr) (x k : Nat) (hx : x ≤ 140737488355328) (hr : L.refuses S x ≠ 0) :
    Calls Tryz.prog 8 #[.pointer (some ⟨l, 0, none⟩), .slice a x k] w fun e w' => e = .returned (.int .i64 (L.refuses S x)) ∧ Below w.heap.size w w' := by
  obtain ⟨W0, hW0⟩ : ∃ W0, (w.alloc (.cells #[.pointer (some ⟨l, 0, none⟩)] 24)).alloc (.cells #[.int .i64 0] 41) = W0 := ⟨_, rfl⟩
  have hb0 : Below w.heap.size w W0 := by rw [← hW0]; exact below_two _ _ _
  have hq0 : AppBox W0 w.heap.size l := by
    rw [← hW0]
    refine ⟨(Below.heap_alloc _ _ _ (by simp)).trans (heap_alloc_new _ _), ?_⟩
    have := heap_alloc_new (w.alloc (.cells #[.pointer (some ⟨l, 0, none⟩)] 24)) (.cells #[.int .i64 0] 41)
    rwa [World.size_alloc] at this
  have h1 := unready_any (h.later hb0) (hl.later hb0)
  have hsz := hl.lt
  have HW := Hid.mk hW0
  have HQ := Hid.mk hq0
  have HB := Hid.mk hb0
  have HL := Hid.mk (hl.later hb0)
  have hhi := hk.hi
  have HO := Hid.mk hk
  unfold LG.refuses at hr ⊢
  clear h hl hb0 hq0 hW0 hk
  by_cases k0 : L.unready S = 0
  · simp only [if_neg (fun h : ¬ L.unready S = 0 => h k0)] at hr ⊢
    rw [k0] at h1
    clear k0
    by_cases k1 : x = 0
    · simp only [if_pos k1]
      have d1 : ((x : Int) == 0) = true := by rw [beq_iff_eq]; omega
      clear hr k1
      go_enter Tryz.func8, Tryz.ntmps8
      go_wp2_with fail
      rw [HW.out]
      refine h1.mono ?_
      rintro e w1 ⟨rfl, hb1⟩
      have hq1 := AppBox.later HQ.out hb1
      have b0 : w1.cell? ⟨w.heap.size, 0, none⟩ = some (.pointer (some ⟨l, 0, none⟩)) := cell_of_block hq1.1 (j := 0) rfl
      have b1 : w1.cell? ⟨w.heap.size + 1, 0, none⟩ = some (.int .i64 0) := cell_of_block hq1.2 (j := 0) rfl
      have f1 : w1.frozen? ⟨w.heap.size + 1, 0, none⟩ = false := frozen_of_block hq1.2 0
      have hl1 := HL.out.later hb1
      have hB1 := HB.out.trans (hb1.mono HB.out.size)
      have h2 := fun wx => sectorsOf_any x wx hx
      clear h1 hb1
      go_wp2_with fail
      refine (h2 _).mono ?_
      rintro e w2 ⟨rfl, hw2⟩
      have hw3 := hw2.symm
      subst hw3
      clear h2 hw2
      have HZ := Hid.mk (hB1.setCell (p := ⟨w.heap.size + 1, 0, none⟩) (by show _ ≤ w.heap.size + 1; omega) (.int .i64 2))
      have HV := Hid.mk (show (w1.setCell ⟨w.heap.size + 1, 0, none⟩ (.int .i64 2)).cell? ⟨w.heap.size + 1, 0, none⟩ = some (.int .i64 2) from hq1.err _)
      clear hB1 hq1 hl1
      go_wp2_with fail
      exact bodyPost_ret (results_cell1 rfl _ _ (w.heap.size + 1) _ rfl HV.out) rfl ⟨rfl, HZ.out⟩
    · simp only [if_neg k1] at hr ⊢
      have d1 : ((x : Int) == 0) = false := by rw [beq_eq_false_iff_ne]; omega
      clear k1
      by_cases k2 : 8364 < x
      · simp only [if_pos k2]
        have d2 : (8364 : Int) < (x : Int) := by omega
        clear hr k2
        go_enter Tryz.func8, Tryz.ntmps8
        go_wp2_with fail
        rw [HW.out]
        refine h1.mono ?_
        rintro e w1 ⟨rfl, hb1⟩
        have hq1 := AppBox.later HQ.out hb1
        have b0 : w1.cell? ⟨w.heap.size, 0, none⟩ = some (.pointer (some ⟨l, 0, none⟩)) := cell_of_block hq1.1 (j := 0) rfl
        have b1 : w1.cell? ⟨w.heap.size + 1, 0, none⟩ = some (.int .i64 0) := cell_of_block hq1.2 (j := 0) rfl
        have f1 : w1.frozen? ⟨w.heap.size + 1, 0, none⟩ = false := frozen_of_block hq1.2 0
        have hl1 := HL.out.later hb1
        have hB1 := HB.out.trans (hb1.mono HB.out.size)
        have h2 := fun wx => sectorsOf_any x wx hx
        clear h1 hb1
        go_wp2_with fail
        refine (h2 _).mono ?_
        rintro e w2 ⟨rfl, hw2⟩
        have hw3 := hw2.symm
        subst hw3
        clear h2 hw2
        have HZ := Hid.mk (hB1.setCell (p := ⟨w.heap.size + 1, 0, none⟩) (by show _ ≤ w.heap.size + 1; omega) (.int .i64 7))
        have HV := Hid.mk (show (w1.setCell ⟨w.heap.size + 1, 0, none⟩ (.int .i64 7)).cell? ⟨w.heap.size + 1, 0, none⟩ = some (.int .i64 7) from hq1.err _)
        clear hB1 hq1 hl1
        go_wp2_with fail
        exact bodyPost_ret (results_cell1 rfl _ _ (w.heap.size + 1) _ rfl HV.out) rfl ⟨rfl, HZ.out⟩
      · simp only [if_neg k2] at hr ⊢
        have d2 : ¬ (8364 : Int) < (x : Int) := by omega
        clear k2
        have hcc : cntOf x = (x + 491) / 492 := rfl
        by_cases k3 : 1073741824 < L.head + cntOf x
        · simp only [if_pos k3]
          clear hr
          obtain ⟨C, hC⟩ : ∃ C, C = (x + 491) / 492 := ⟨_, rfl⟩
          have hC2 : C ≤ 17 := by omega
          have d3 : (1073741824 : Int) < (L.head : Int) + (C : Int) := by omega
          have HC := Hid.mk hC
          clear k3 hcc hC
          go_enter Tryz.func8, Tryz.ntmps8
          go_wp2_with fail
          rw [HW.out]
          refine h1.mono ?_
          rintro e w1 ⟨rfl, hb1⟩
          have hq1 := AppBox.later HQ.out hb1
          have b0 : w1.cell? ⟨w.heap.size, 0, none⟩ = some (.pointer (some ⟨l, 0, none⟩)) := cell_of_block hq1.1 (j := 0) rfl
          have b1 : w1.cell? ⟨w.heap.size + 1, 0, none⟩ = some (.int .i64 0) := cell_of_block hq1.2 (j := 0) rfl
          have f1 : w1.frozen? ⟨w.heap.size + 1, 0, none⟩ = false := frozen_of_block hq1.2 0
          have hl1 := HL.out.later hb1
          have hB1 := HB.out.trans (hb1.mono HB.out.size)
          have c7 := hl1.c7
          have h2 := fun wx => sectorsOf_any x wx hx
          clear h1 hb1
          go_wp2_with fail
          refine (h2 _).mono ?_
          rintro e w2 ⟨rfl, hw2⟩
          have hw3 := hw2.symm
          subst hw3
          clear h2 hw2
          rw [← HC.out]
          have HZ := Hid.mk (hB1.setCell (p := ⟨w.heap.size + 1, 0, none⟩) (by show _ ≤ w.heap.size + 1; omega) (.int .i64 41))
          have HV := Hid.mk (show (w1.setCell ⟨w.heap.size + 1, 0, none⟩ (.int .i64 41)).cell? ⟨w.heap.size + 1, 0, none⟩ = some (.int .i64 41) from hq1.err _)
          clear hB1 hq1 hl1
          go_wp2_with fail
          exact bodyPost_ret (results_cell1 rfl _ _ (w.heap.size + 1) _ rfl HV.out) rfl ⟨rfl, HZ.out⟩
        · simp only [if_neg k3] at hr ⊢
          by_cases k4 : L.tail + L.n < L.head + cntOf x
          · simp only [if_pos k4]
            clear hr
            obtain ⟨C, hC⟩ : ∃ C, C = (x + 491) / 492 := ⟨_, rfl⟩
            have hC2 : C ≤ 17 := by omega
            have d3 : ¬ (1073741824 : Int) < (L.head : Int) + (C : Int) := by omega
            have d4 : (L.n : Int) - ((L.head : Int) - (L.tail : Int)) < (C : Int) := by omega
            have HC := Hid.mk hC
            clear k3 k4 hcc hC
            go_enter Tryz.func8, Tryz.ntmps8
            go_wp2_with fail
            rw [HW.out]
            refine h1.mono ?_
            rintro e w1 ⟨rfl, hb1⟩
            have hq1 := AppBox.later HQ.out hb1
            have b0 : w1.cell? ⟨w.heap.size, 0, none⟩ = some (.pointer (some ⟨l, 0, none⟩)) := cell_of_block hq1.1 (j := 0) rfl
            have b1 : w1.cell? ⟨w.heap.size + 1, 0, none⟩ = some (.int .i64 0) := cell_of_block hq1.2 (j := 0) rfl
            have f1 : w1.frozen? ⟨w.heap.size + 1, 0, none⟩ = false := frozen_of_block hq1.2 0
            have hl1 := HL.out.later hb1
            have hB1 := HB.out.trans (hb1.mono HB.out.size)
            have c7 := hl1.c7
            have h3 := room_any hl1 HO.out
            have h2 := fun wx => sectorsOf_any x wx hx
            clear h1 hb1
            go_wp2_with fail
            refine (h2 _).mono ?_
            rintro e w2 ⟨rfl, hw2⟩
            have hw3 := hw2.symm
            subst hw3
            clear h2 hw2
            rw [← HC.out]
            have HB1 := Hid.mk hB1
            have HQ1 := Hid.mk hq1
            clear hB1 hq1
            go_wp2_with fail
            refine h3.mono ?_
            rintro e w2 ⟨rfl, hb2⟩
            have hq2 := AppBox.later HQ1.out hb2
            have hB2 := HB1.out.trans (hb2.mono HB1.out.size)
            have b2 : w2.cell? ⟨w.heap.size + 1, 0, none⟩ = some (.int .i64 0) := cell_of_block hq2.2 (j := 0) rfl
            have f2 : w2.frozen? ⟨w.heap.size + 1, 0, none⟩ = false := frozen_of_block hq2.2 0
            clear h3 hb2
            have HZ := Hid.mk (hB2.setCell (p := ⟨w.heap.size + 1, 0, none⟩) (by show _ ≤ w.heap.size + 1; omega) (.int .i64 40))
            have HV := Hid.mk (show (w2.setCell ⟨w.heap.size + 1, 0, none⟩ (.int .i64 40)).cell? ⟨w.heap.size + 1, 0, none⟩ = some (.int .i64 40) from hq2.err _)
            clear hB2 hq2 hl1
            go_wp2_with fail
            exact bodyPost_ret (results_cell1 rfl _ _ (w.heap.size + 1) _ rfl HV.out) rfl ⟨rfl, HZ.out⟩
          · exact absurd (if_neg k4) hr
  · simp only [if_pos (fun h => k0 h : ¬ L.unready S = 0)]
    have d0 : (L.unready S == 0) = false := by rw [beq_eq_false_iff_ne]; exact k0
    clear hr k0
    go_enter Tryz.func8, Tryz.ntmps8
    go_wp2_with fail
    rw [HW.out]
    refine h1.mono ?_
    rintro e w1 ⟨rfl, hb1⟩
    have hq1 := AppBox.later HQ.out hb1
    have b0 : w1.cell? ⟨w.heap.size, 0, none⟩ = some (.pointer (some ⟨l, 0, none⟩)) := cell_of_block hq1.1 (j := 0) rfl
    have b1 : w1.cell? ⟨w.heap.size + 1, 0, none⟩ = some (.int .i64 0) := cell_of_block hq1.2 (j := 0) rfl
    have f1 : w1.frozen? ⟨w.heap.size + 1, 0, none⟩ = false := frozen_of_block hq1.2 0
    have hl1 := HL.out.later hb1
    have hB1 := HB.out.trans (hb1.mono HB.out.size)
    have HZ := Hid.mk (hB1.setCell (p := ⟨w.heap.size + 1, 0, none⟩) (by show _ ≤ w.heap.size + 1; omega) (.int .i64 (L.unready S)))
    have HV := Hid.mk (show (w1.setCell ⟨w.heap.size + 1, 0, none⟩ (.int .i64 (L.unready S))).cell? ⟨w.heap.size + 1, 0, none⟩ = some (.int .i64 (L.unready S)) from hq1.err _)
    clear hB1 hq1 hl1
    go_wp2_with fail
    exact bodyPost_ret (results_cell1 rfl _ _ (w.heap.size + 1) _ rfl HV.out) rfl ⟨rfl, HZ.out⟩
end
end Go.Proofs.YtllkjmbcjlbmbaaGreat
end

section
namespace Go.Proofs.YtllkjmbcjlbmbaaGreat
open Go.RowKit

theorem stepsTo_congr {S : DS} {g g' : Nat → DS → Int × DS} : ∀ k, (∀ j T, j < k → g j T = g' j T) → stepsTo S g k = stepsTo S g' k
  | 0, _ => rfl
  | k + 1, h => by
    have ih := stepsTo_congr (S := S) k (fun j T hj => h j T (by omega))
    rw [stepsTo, stepsTo, ih, h k _ (by omega)]
/-- The laying of pieces as they come. -/
def appL (L : LG) (S : DS) (s : Nat) (d : List Int) (xs : List Nat) : Int × DS := stepsTo S (fun j T => aput T s L.f L.n L.ep (L.head + j) j (cntOf d.length) (partOf d (xs.getD j 0))) xs.length
theorem appL_snoc {L : LG} {S : DS} {s : Nat} {d : List Int} {xs : List Nat} (x : Nat) (h : (appL L S s d xs).1 = 0) :
    appL L S s d (xs ++ [x]) = aput (appL L S s d xs).2 s L.f L.n L.ep (L.head + xs.length) xs.length (cntOf d.length) (partOf d x) := by
  have e : stepsTo S (fun j T => aput T s L.f L.n L.ep (L.head + j) j (cntOf d.length) (partOf d ((xs ++ [x]).getD j 0))) xs.length = appL L S s d xs := by
    unfold appL
    refine stepsTo_congr _ (fun j T hj => ?_)
    rw [show (xs ++ [x]).getD j 0 = xs.getD j 0 by simp [List.getElem?_append_left hj]]
  unfold appL at *
  rw [List.length_append, List.length_singleton, stepsTo_ok (by rw [e]; exact h), e]
  simp
theorem appL_range {L : LG} {S : DS} {s : Nat} {d : List Int} (k : Nat) : appL L S s d (List.range k) = appTo L S s d k := by
  unfold appL appTo
  rw [List.length_range]
  refine stepsTo_congr _ (fun j T hj => ?_)
  rw [show (List.range k).getD j 0 = j by simp [hj]]
theorem aput_puts (S : DS) (s f n E P i c : Nat) (l : List Int) : (aput S s f n E P i c l).2.puts.length ≤ S.puts.length + 1 := by
  unfold aput
  split
  · simp
  · exact wr_puts _ _ _ _ _
theorem appL_puts (L : LG) (S : DS) (s : Nat) (d : List Int) (xs : List Nat) : (appL L S s d xs).2.puts.length ≤ S.puts.length + xs.length := stepsTo_puts (fun _ _ => aput_puts _ _ _ _ _ _ _ _ _) _

/-- What holds between the rounds of Append. -/
structure AppI (w W : World) (F : Nat → Prop) (l p s m M n0 : Nat) (L : LG) (S : DS) (d : List Int) (xs : List Nat) : Prop where
  ok : (appL L S s d xs).1 = 0
  dk : DiskRM W (FC F n0 m W) p s (appL L S s d xs).2 m
  mrk : W.heap[M]? = some (.cells #[.int .i64 (L.ep : Int), .int .i64 ((L.head + xs.length : Nat) : Int), .int .i64 ((xs.length : Nat) : Int), .int .i64 ((cntOf d.length : Nat) : Int)] 68 (0, 0))
  bx : AppBox W w.heap.size l
  kp : Keeps F w W
  sz : n0 ≤ W.heap.size
/-- What holds behind a round that is refused. -/
structure AppX (w W : World) (F : Nat → Prop) (p s m n0 : Nat) (L : LG) (S : DS) (d : List Int) (xs : List Nat) : Prop where
  no : (appL L S s d xs).1 ≠ 0
  dk : DiskRM W (FC F n0 m W) p s (appL L S s d xs).2 m
  er : W.heap[w.heap.size + 1]? = some (.cells #[.int .i64 (appL L S s d xs).1] 41 (0, 0))
  kp : Keeps F w W
  sz : n0 ≤ W.heap.size

theorem DiskRM.carry {W W' : World} {F : Nat → Prop} {p s m n0 : Nat} {S : DS} (h : DiskRM W (FC F n0 m W) p s S m) (hc : CellsIn W W') (hm : W'.heap[m]? = W.heap[m]?) (hz : W.heap.size ≤ W'.heap.size) : DiskRM W' (FC F n0 m W') p s S m := by
  obtain ⟨r, h⟩ := h
  refine ⟨r, (h.agree hz (fun k hk => ?_)).mono (fun k hk => ⟨hk.1, ?_, by have := hk.2.2; omega⟩) (fun _ hk => hk.2.2)⟩
  · rcases hk.2.1 with ⟨cur, t, fz, hb⟩ | rfl
    · rw [hc _ _ _ _ hb, hb]
    · exact hm
  · rcases hk.2.1 with ⟨cur, t, fz, hb⟩ | h
    · exact .inl ⟨cur, t, fz, hc _ _ _ _ hb⟩
    · exact .inr h
theorem Keeps.grown {w W W' : World} {F : Nat → Prop} {row : Option Nat} (h : Keeps F w W) (hg : W.grownBy W' row) (hr : ∀ r, row = some r → w.heap.size ≤ r) : Keeps F w W' :=
  h.trans (G := fun k => some k = row) ⟨hg.os, hg.tape, hg.output, hg.size, fun k hk hn => hg.block k hk hn⟩ (fun k hk => .inr (hr k hk.symm))
section
variable {w W W' : World} {F : Nat → Prop} {l p s m M n0 : Nat} {L : LG} {S : DS} {d : List Int} {xs : List Nat}
theorem AppI.step (h : AppI w W F l p s m M n0 L S d xs) (hc : CellsIn W W') (hm : W'.heap[m]? = W.heap[m]?) (hz : W.heap.size ≤ W'.heap.size) (hk : Keeps F w W') : AppI w W' F l p s m M n0 L S d xs :=
  ⟨h.ok, h.dk.carry hc hm hz, hc _ _ _ _ h.mrk, ⟨hc _ _ _ _ h.bx.1, hc _ _ _ _ h.bx.2⟩, hk, Nat.le_trans h.sz hz⟩
theorem AppX.step (h : AppX w W F p s m n0 L S d xs) (hc : CellsIn W W') (hm : W'.heap[m]? = W.heap[m]?) (hz : W.heap.size ≤ W'.heap.size) (hk : Keeps F w W') : AppX w W' F p s m n0 L S d xs :=
  ⟨h.no, h.dk.carry hc hm hz, hc _ _ _ _ h.er, hk, Nat.le_trans h.sz hz⟩
theorem fc_lt_m (h : DiskRM W (FC F n0 m W) p s S m) : m < W.heap.size := h.fm.2.2
theorem AppI.grown {row : Option Nat} (h : AppI w W F l p s m M n0 L S d xs) (hm : m < n0) (hw : w.heap.size ≤ n0) (hg : W.grownBy W' row) (hr : ∀ r, row = some r → n0 ≤ r ∧ ∃ o : Obj, W.heap[r]? = some o ∧ o.isCells = false) : AppI w W' F l p s m M n0 L S d xs :=
  h.step (cellsIn_grown hg (fun r e => (hr r e).2)) (hg.block m (fc_lt_m h.dk) (fun e => by have := (hr m e.symm).1; omega)) hg.size (h.kp.grown hg (fun r e => by have := (hr r e).1; omega))
theorem AppX.grown {row : Option Nat} (h : AppX w W F p s m n0 L S d xs) (hm : m < n0) (hw : w.heap.size ≤ n0) (hg : W.grownBy W' row) (hr : ∀ r, row = some r → n0 ≤ r ∧ ∃ o : Obj, W.heap[r]? = some o ∧ o.isCells = false) : AppX w W' F p s m n0 L S d xs :=
  h.step (cellsIn_grown hg (fun r e => (hr r e).2)) (hg.block m (fc_lt_m h.dk) (fun e => by have := (hr m e.symm).1; omega)) hg.size (h.kp.grown hg (fun r e => by have := (hr r e).1; omega))
end
end Go.Proofs.YtllkjmbcjlbmbaaGreat
end
