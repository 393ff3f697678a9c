import Derived.Test.YtokcgifpljeoiaaGreatW05
import Derived.Test.YtokcgifpljeoiaaGreatW11
import Derived.Scope
import Derived.WalkMore
section
namespace Go.Proofs.YtokcgifpljeoiaaGreat
open Go.RowKit

theorem results_cell1 {fn : Func} {p : Tmp} (h : fn.results = #[.cell p 25]) (tmps : Array Value) (w : World) (g : Nat) (v : Int)
    (hp : tmps.getD p undef = .pointer (some ⟨g, 0, none⟩)) (hv : w.cell? ⟨g, 0, none⟩ = some (.int .i64 v)) : (results fn tmps).run Tryz.prog w = .ok (.int .i64 v) w := by
  have hp' : tmps[p]?.getD undef = .pointer (some ⟨g, 0, none⟩) := by simpa using hp
  have h2 : (loadVar 25 ⟨g, 0, none⟩).run Tryz.prog w = .ok (.int .i64 v) w := by simp [go_sem, hv]
  simp [results, h, hp', asAddr, h2]

/-- The k-th piece of a record. -/
def partOf (d : List Int) (k : Nat) : List Int := (d.drop (492 * k)).take 492
theorem partOf_len (d : List Int) (k : Nat) : (partOf d k).length = chLen d.length k := by
  unfold partOf chLen
  simp
def cntOf (x : Nat) : Nat := (x + 491) / 492
/-- The laying of the first k pieces. -/
def appTo (L : LG) (S : DS) (s : Nat) (d : List Int) (k : Nat) : Int × DS := stepsTo S (fun j T => aput T s L.f L.n L.ep (L.head + j) j (cntOf d.length) (partOf d j)) k
/-- What stands against an append. -/
def LG.refuses (L : LG) (S : DS) (x : Nat) : Int :=
  if L.unready S ≠ 0 then L.unready S else if x = 0 then 2 else if 8364 < x then 7 else if 1073741824 < L.head + cntOf x then 41 else if L.tail + L.n < L.head + cntOf x then 40 else 0
def LG.append (L : LG) (S : DS) (s : Nat) (d : List Int) : Int × DS × LG :=
  if L.refuses S d.length ≠ 0 then (L.refuses S d.length, S, L)
  else if (appTo L S s d (cntOf d.length)).1 ≠ 0 then ((appTo L S s d (cntOf d.length)).1, (appTo L S s d (cntOf d.length)).2, L)
  else (0, (appTo L S s d (cntOf d.length)).2, { L with head := L.head + cntOf d.length })

section
variable {w : World} {F : Nat → Prop} {p s l : Nat} {S : DS} {L : LG}

/-- The two boxes of Append. -/
def AppBox (W : World) (b l : Nat) : Prop := W.heap[b]? = some (.cells #[.pointer (some ⟨l, 0, none⟩)] 98 (0, 0)) ∧ W.heap[b + 1]? = some (.cells #[.int .i64 0] 25 (0, 0))
theorem AppBox.err {W : World} {b l : Nat} (h : AppBox W b l) (v : Int) : (W.setCell ⟨b + 1, 0, none⟩ (.int .i64 v)).cell? ⟨b + 1, 0, none⟩ = some (.int .i64 v) :=
  cell_of_block (cur := #[.int .i64 v]) (e := 25) ((heap_setCell_same _ _ 0 _ _ _ h.2).trans (by simp)) (j := 0) rfl
theorem AppBox.later {W W' : World} {b l : Nat} (h : AppBox W b l) (hb : Below W.heap.size W W') : AppBox W' b l := ⟨(hb.block _ (lt_there h.1)).trans h.1, (hb.block _ (lt_there h.2)).trans h.2⟩

set_option maxRecDepth 20000 in
set_option maxHeartbeats 8000000 in
theorem Append_no (h : DiskR w F p s S) (hl : LogP w l p L) (hk : L.Ok s) (a : Option Addr) (x k : Nat) (hx : x ≤ 140737488355328) (hr : L.refuses S x ≠ 0) :
    Calls Tryz.prog 98 #[.pointer (some ⟨l, 0, none⟩), .slice a x k] w fun e w' => e = .returned (.int .i64 (L.refuses S x)) ∧ Below w.heap.size w w' := by
  obtain ⟨W0, hW0⟩ : ∃ W0, (w.alloc (.cells #[.pointer (some ⟨l, 0, none⟩)] 98)).alloc (.cells #[.int .i64 0] 25) = W0 := ⟨_, rfl⟩
  have hb0 : Below w.heap.size w W0 := by rw [← hW0]; exact below_two _ _ _
  have hq0 : AppBox W0 w.heap.size l := by
    rw [← hW0]
    refine ⟨(Below.heap_alloc _ _ _ (by simp)).trans (heap_alloc_new _ _), ?_⟩
    have := heap_alloc_new (w.alloc (.cells #[.pointer (some ⟨l, 0, none⟩)] 98)) (.cells #[.int .i64 0] 25)
    rwa [World.size_alloc] at this
  have h1 := unready_any (h.later hb0) (hl.later hb0)
  have HW := Hid.mk hW0
  have HQ := Hid.mk hq0
  have HB := Hid.mk hb0
  have HL := Hid.mk (hl.later hb0)
  have hhi := hk.hi
  have HO := Hid.mk hk
  unfold LG.refuses at hr ⊢
  clear h hl hb0 hq0 hW0 hk
  by_cases k0 : L.unready S = 0
  · simp only [if_neg (fun h : ¬ L.unready S = 0 => h k0)] at hr ⊢
    rw [k0] at h1
    clear k0
    by_cases k1 : x = 0
    · simp only [if_pos k1]
      have d1 : ((x : Int) == 0) = true := by rw [beq_iff_eq]; omega
      clear hr k1
      go_enter Tryz.func98, Tryz.ntmps98
      go_wp2_with fail
      rw [HW.out]
      refine h1.mono ?_
      rintro e w1 ⟨rfl, hb1⟩
      have hq1 := AppBox.later HQ.out hb1
      have b0 : w1.cell? ⟨w.heap.size, 0, none⟩ = some (.pointer (some ⟨l, 0, none⟩)) := cell_of_block hq1.1 (j := 0) rfl
      have b1 : w1.cell? ⟨w.heap.size + 1, 0, none⟩ = some (.int .i64 0) := cell_of_block hq1.2 (j := 0) rfl
      have f1 := frozen_of_block hq1.2 0
      have hl1 := HL.out.later hb1
      have hB1 := HB.out.trans (hb1.mono HB.out.size)
      clear h1 hb1
      go_wp2_with fail
      refine ((fun wx => sectorsOf_any x wx hx) _).mono ?_
      rintro e w2 ⟨rfl, hw2⟩
      have hw3 := hw2.symm
      subst hw3
      clear hw2
      have HZ := Hid.mk (hB1.setCell (p := ⟨w.heap.size + 1, 0, none⟩) (by show _ ≤ w.heap.size + 1; omega) (.int .i64 2))
      have HV := Hid.mk (show (w1.setCell ⟨w.heap.size + 1, 0, none⟩ (.int .i64 2)).cell? ⟨w.heap.size + 1, 0, none⟩ = some (.int .i64 2) from hq1.err _)
      clear hB1 hq1 hl1
      go_wp2_with fail
      exact bodyPost_ret (results_cell1 rfl _ _ (w.heap.size + 1) _ rfl HV.out) rfl ⟨rfl, HZ.out⟩
    · simp only [if_neg k1] at hr ⊢
      have d1 : ((x : Int) == 0) = false := by rw [beq_eq_false_iff_ne]; omega
      clear k1
      by_cases k2 : 8364 < x
      · simp only [if_pos k2]
        have d2 : (8364 : Int) < (x : Int) := by omega
        clear hr k2
        go_enter Tryz.func98, Tryz.ntmps98
        go_wp2_with fail
        rw [HW.out]
        refine h1.mono ?_
        rintro e w1 ⟨rfl, hb1⟩
        have hq1 := AppBox.later HQ.out hb1
        have b0 : w1.cell? ⟨w.heap.size, 0, none⟩ = some (.pointer (some ⟨l, 0, none⟩)) := cell_of_block hq1.1 (j := 0) rfl
        have b1 : w1.cell? ⟨w.heap.size + 1, 0, none⟩ = some (.int .i64 0) := cell_of_block hq1.2 (j := 0) rfl
        have f1 := frozen_of_block hq1.2 0
        have hl1 := HL.out.later hb1
        have hB1 := HB.out.trans (hb1.mono HB.out.size)
        clear h1 hb1
        go_wp2_with fail
        refine ((fun wx => sectorsOf_any x wx hx) _).mono ?_
        rintro e w2 ⟨rfl, hw2⟩
        have hw3 := hw2.symm
        subst hw3
        clear hw2
        have HZ := Hid.mk (hB1.setCell (p := ⟨w.heap.size + 1, 0, none⟩) (by show _ ≤ w.heap.size + 1; omega) (.int .i64 7))
        have HV := Hid.mk (show (w1.setCell ⟨w.heap.size + 1, 0, none⟩ (.int .i64 7)).cell? ⟨w.heap.size + 1, 0, none⟩ = some (.int .i64 7) from hq1.err _)
        clear hB1 hq1 hl1
        go_wp2_with fail
        exact bodyPost_ret (results_cell1 rfl _ _ (w.heap.size + 1) _ rfl HV.out) rfl ⟨rfl, HZ.out⟩
      · simp only [if_neg k2] at hr ⊢
        have d2 : ¬ (8364 : Int) < (x : Int) := by omega
        clear k2
        have hcc : cntOf x = (x + 491) / 492 := rfl
        by_cases k3 : 1073741824 < L.head + cntOf x
        · simp only [if_pos k3]
          clear hr
          obtain ⟨C, hC⟩ : ∃ C, C = (x + 491) / 492 := ⟨_, rfl⟩
          have hC2 : C ≤ 17 := by omega
          have d3 : (1073741824 : Int) < (L.head : Int) + (C : Int) := by omega
          have HC := Hid.mk hC
          clear k3 hcc hC
          go_enter Tryz.func98, Tryz.ntmps98
          go_wp2_with fail
          rw [HW.out]
          refine h1.mono ?_
          rintro e w1 ⟨rfl, hb1⟩
          have hq1 := AppBox.later HQ.out hb1
          have b0 : w1.cell? ⟨w.heap.size, 0, none⟩ = some (.pointer (some ⟨l, 0, none⟩)) := cell_of_block hq1.1 (j := 0) rfl
          have b1 : w1.cell? ⟨w.heap.size + 1, 0, none⟩ = some (.int .i64 0) := cell_of_block hq1.2 (j := 0) rfl
          have f1 := frozen_of_block hq1.2 0
          have hB1 := HB.out.trans (hb1.mono HB.out.size)
          have c7 := (HL.out.later hb1).c7
          clear h1 hb1
          go_wp2_with fail
          refine ((fun wx => sectorsOf_any x wx hx) _).mono ?_
          rintro e w2 ⟨rfl, hw2⟩
          have hw3 := hw2.symm
          subst hw3
          clear hw2
          rw [← HC.out]
          have HZ := Hid.mk (hB1.setCell (p := ⟨w.heap.size + 1, 0, none⟩) (by show _ ≤ w.heap.size + 1; omega) (.int .i64 41))
          have HV := Hid.mk (show (w1.setCell ⟨w.heap.size + 1, 0, none⟩ (.int .i64 41)).cell? ⟨w.heap.size + 1, 0, none⟩ = some (.int .i64 41) from hq1.err _)
          clear hB1 hq1
          go_wp2_with fail
          exact bodyPost_ret (results_cell1 rfl _ _ (w.heap.size + 1) _ rfl HV.out) rfl ⟨rfl, HZ.out⟩
        · simp only [if_neg k3] at hr ⊢
          by_cases k4 : L.tail + L.n < L.head + cntOf x
          · simp only [if_pos k4]
            clear hr
            obtain ⟨C, hC⟩ : ∃ C, C = (x + 491) / 492 := ⟨_, rfl⟩
            have hC2 : C ≤ 17 := by omega
            have d3 : ¬ (1073741824 : Int) < (L.head : Int) + (C : Int) := by omega
            have d4 : (L.n : Int) - ((L.head : Int) - (L.tail : Int)) < (C : Int) := by omega
            have HC := Hid.mk hC
            clear k3 k4 hcc hC
            go_enter Tryz.func98, Tryz.ntmps98
            go_wp2_with fail
            rw [HW.out]
            refine h1.mono ?_
            rintro e w1 ⟨rfl, hb1⟩
            have hq1 := AppBox.later HQ.out hb1
            have b0 : w1.cell? ⟨w.heap.size, 0, none⟩ = some (.pointer (some ⟨l, 0, none⟩)) := cell_of_block hq1.1 (j := 0) rfl
            have b1 : w1.cell? ⟨w.heap.size + 1, 0, none⟩ = some (.int .i64 0) := cell_of_block hq1.2 (j := 0) rfl
            have f1 := frozen_of_block hq1.2 0
            have hl1 := HL.out.later hb1
            have hB1 := HB.out.trans (hb1.mono HB.out.size)
            have c7 := hl1.c7
            clear h1 hb1
            go_wp2_with fail
            refine ((fun wx => sectorsOf_any x wx hx) _).mono ?_
            rintro e w2 ⟨rfl, hw2⟩
            have hw3 := hw2.symm
            subst hw3
            clear hw2
            rw [← HC.out]
            have HB1 := Hid.mk hB1
            have HQ1 := Hid.mk hq1
            clear hB1 hq1
            go_wp2_with fail
            refine (room_any hl1 HO.out).mono ?_
            rintro e w2 ⟨rfl, hb2⟩
            have hq2 := AppBox.later HQ1.out hb2
            have hB2 := HB1.out.trans (hb2.mono HB1.out.size)
            have b2 : w2.cell? ⟨w.heap.size + 1, 0, none⟩ = some (.int .i64 0) := cell_of_block hq2.2 (j := 0) rfl
            have f2 := frozen_of_block hq2.2 0
            clear hb2
            have HZ := Hid.mk (hB2.setCell (p := ⟨w.heap.size + 1, 0, none⟩) (by show _ ≤ w.heap.size + 1; omega) (.int .i64 40))
            have HV := Hid.mk (show (w2.setCell ⟨w.heap.size + 1, 0, none⟩ (.int .i64 40)).cell? ⟨w.heap.size + 1, 0, none⟩ = some (.int .i64 40) from hq2.err _)
            clear hB2 hq2 hl1
            go_wp2_with fail
            exact bodyPost_ret (results_cell1 rfl _ _ (w.heap.size + 1) _ rfl HV.out) rfl ⟨rfl, HZ.out⟩
          · exact absurd (if_neg k4) hr
  · simp only [if_pos (fun h => k0 h : ¬ L.unready S = 0)]
    have d0 : (L.unready S == 0) = false := by rw [beq_eq_false_iff_ne]; exact k0
    clear hr k0
    go_enter Tryz.func98, Tryz.ntmps98
    go_wp2_with fail
    rw [HW.out]
    refine h1.mono ?_
    rintro e w1 ⟨rfl, hb1⟩
    have hq1 := AppBox.later HQ.out hb1
    have b0 : w1.cell? ⟨w.heap.size, 0, none⟩ = some (.pointer (some ⟨l, 0, none⟩)) := cell_of_block hq1.1 (j := 0) rfl
    have b1 : w1.cell? ⟨w.heap.size + 1, 0, none⟩ = some (.int .i64 0) := cell_of_block hq1.2 (j := 0) rfl
    have f1 := frozen_of_block hq1.2 0
    have hl1 := HL.out.later hb1
    have HZ := Hid.mk ((HB.out.trans (hb1.mono HB.out.size)).setCell (p := ⟨w.heap.size + 1, 0, none⟩) (by show _ ≤ w.heap.size + 1; omega) (.int .i64 (L.unready S)))
    have HV := Hid.mk (show (w1.setCell ⟨w.heap.size + 1, 0, none⟩ (.int .i64 (L.unready S))).cell? ⟨w.heap.size + 1, 0, none⟩ = some (.int .i64 (L.unready S)) from hq1.err _)
    clear hq1 hl1
    go_wp2_with fail
    exact bodyPost_ret (results_cell1 rfl _ _ (w.heap.size + 1) _ rfl HV.out) rfl ⟨rfl, HZ.out⟩
end
end Go.Proofs.YtokcgifpljeoiaaGreat
end

section
namespace Go.Proofs.YtokcgifpljeoiaaGreat
open Go.RowKit

theorem stepsTo_congr {S : DS} {g g' : Nat → DS → Int × DS} : ∀ k, (∀ j T, j < k → g j T = g' j T) → stepsTo S g k = stepsTo S g' k
  | 0, _ => rfl
  | k + 1, h => by
    rw [stepsTo, stepsTo, (stepsTo_congr (S := S) k (fun j T hj => h j T (by omega))), h k _ (by omega)]
/-- The laying of pieces as they come. -/
def appL (L : LG) (S : DS) (s : Nat) (d : List Int) (xs : List Nat) : Int × DS := stepsTo S (fun j T => aput T s L.f L.n L.ep (L.head + j) j (cntOf d.length) (partOf d (xs.getD j 0))) xs.length
theorem appL_snoc {L : LG} {S : DS} {s : Nat} {d : List Int} {xs : List Nat} (x : Nat) (h : (appL L S s d xs).1 = 0) :
    appL L S s d (xs ++ [x]) = aput (appL L S s d xs).2 s L.f L.n L.ep (L.head + xs.length) xs.length (cntOf d.length) (partOf d x) := by
  have e : stepsTo S (fun j T => aput T s L.f L.n L.ep (L.head + j) j (cntOf d.length) (partOf d ((xs ++ [x]).getD j 0))) xs.length = appL L S s d xs := by
    unfold appL
    refine stepsTo_congr _ (fun j T hj => ?_)
    rw [show (xs ++ [x]).getD j 0 = xs.getD j 0 by simp [List.getElem?_append_left hj]]
  unfold appL at *
  rw [List.length_append, List.length_singleton, stepsTo_ok (by rw [e]; exact h), e]
  simp
theorem appL_range {L : LG} {S : DS} {s : Nat} {d : List Int} (k : Nat) : appL L S s d (List.range k) = appTo L S s d k := by
  unfold appL appTo
  rw [List.length_range]
  refine stepsTo_congr _ (fun j T hj => ?_)
  rw [show (List.range k).getD j 0 = j by simp [hj]]
theorem aput_puts (S : DS) (s f n E P i c : Nat) (l : List Int) : (aput S s f n E P i c l).2.puts.length ≤ S.puts.length + 1 := by
  unfold aput
  split
  · simp
  · exact wr_puts _ _ _ _ _
theorem appL_puts (L : LG) (S : DS) (s : Nat) (d : List Int) (xs : List Nat) : (appL L S s d xs).2.puts.length ≤ S.puts.length + xs.length := stepsTo_puts (fun _ _ => aput_puts _ _ _ _ _ _ _ _ _) _

theorem Keeps.grown {w W W' : World} {F : Nat → Prop} {row : Option Nat} (h : Keeps F w W) (hg : W.grownBy W' row) (hr : ∀ r, row = some r → w.heap.size ≤ r) : Keeps F w W' :=
  h.trans (G := fun k => some k = row) ⟨hg.os, hg.tape, hg.output, hg.size, fun k hk hn => hg.block k hk hn⟩ (fun k hk => .inr (hr k hk.symm))
section
variable {w W W' : World} {F : Nat → Prop} {l p s m M n0 : Nat} {L : LG} {S : DS} {d : List Int} {xs : List Nat}
end
end Go.Proofs.YtokcgifpljeoiaaGreat
end

section
namespace Go.Proofs.YtokcgifpljeoiaaGreat
open Go.RowKit Go.Shelf

attribute [local go_sem] Oper.semAt_some

theorem Src.sub {w : World} {b o n : Nat} {l : List Int} (h : Src w (some ⟨b, o, none⟩) n l) (i k : Nat) (hk : i + k ≤ n) : Src w (some ⟨b, o + i, none⟩) k ((l.drop i).take k) := by
  have hl := h.1
  refine ⟨by simp; omega, by simp, ?_⟩
  intro z hz t ht
  cases hz
  have h0 := h.2.2 _ rfl (i + t) (by omega)
  have e1 : (Addr.add ⟨b, o, none⟩ (i + t)) = Addr.add ⟨b, o + i, none⟩ t := by
    unfold Addr.add
    by_cases h1 : i + t = 0
    · obtain ⟨rfl, rfl⟩ : i = 0 ∧ t = 0 := by omega
      simp
    · by_cases h2 : t = 0
      · subst h2
        rw [if_neg h1, if_pos rfl]
        rfl
      · simp [h2, Nat.add_assoc]
  rw [e1] at h0
  rw [h0]
  congr 2
  simp [List.getD, ht]
theorem fcw_not {w W : World} {F : Nat → Prop} {n0 m k : Nat} (hF : ∀ j, F j → j < w.heap.size) (h1 : w.heap.size ≤ k) (h2 : k < n0) : ¬ FC F n0 m W k := fun h => by
  rcases h.1 with h | h
  · have := hF k h; omega
  · omega
theorem partOf_bytes {d : List Int} (h : Bytes d) (k : Nat) : Bytes (partOf d k) := fun v hv => h v (List.mem_of_mem_drop (List.mem_of_mem_take hv))

section
variable {w : World} {F : Nat → Prop} {p s l : Nat} {S : DS} {L : LG}

theorem refuses_zero {x : Nat} (h : L.refuses S x = 0) : L.unready S = 0 ∧ 1 ≤ x ∧ x ≤ 8364 ∧ L.head + cntOf x ≤ 1073741824 ∧ L.head + cntOf x ≤ L.tail + L.n := by
  unfold LG.refuses at h
  split at h
  · exact absurd h (by assumption)
  · rename_i h0
    split at h
    · omega
    · split at h
      · omega
      · split at h
        · omega
        · split at h
          · omega
          · refine ⟨by omega, by omega, by omega, by omega, by omega⟩

end
end Go.Proofs.YtokcgifpljeoiaaGreat
end

section
namespace Go.Proofs.YtokcgifpljeoiaaGreat
open Go.RowKit

end Go.Proofs.YtokcgifpljeoiaaGreat
end

section
namespace Go.Proofs.YtokcgifpljeoiaaGreat
open Go.RowKit

/-- The newest contents are written home, in rising order. -/
def sbring (S : DS) (s home : Nat) : CM → Int × DS
  | [] => (0, S)
  | q :: qs => if (S.wr s ((home + q.1 : Nat) : Int) 512 q.2).1 ≠ 0 then S.wr s ((home + q.1 : Nat) : Int) 512 q.2 else sbring (S.wr s ((home + q.1 : Nat) : Int) 512 q.2).2 s home qs

/-- Where things lie. -/
structure LY where
  log : Nat
  home : Nat
  blocks : Nat
  nodes : Nat
  data : Nat
/-- A store that is open: where things lie, its log, what is committed and not home, whether a transaction is open. -/
structure SG where
  y : LY
  L : LG
  ov : CM
  busy : Bool
/-- A transaction: what was put; what spoilt it; has it ended? -/
structure TG where
  puts : CM
  bad : Int
  ended : Bool

/-- Checkpoint. -/
def SG.check (G : SG) (S : DS) (s : Nat) : Int × DS × SG :=
  if (G.L.sync S s).1 ≠ 0 then ((G.L.sync S s).1, (G.L.sync S s).2, G) else
  if (sbring (G.L.sync S s).2 s G.y.home G.ov).1 ≠ 0 then ((sbring (G.L.sync S s).2 s G.y.home G.ov).1, (sbring (G.L.sync S s).2 s G.y.home G.ov).2, G) else
  if (G.L.trim (sbring (G.L.sync S s).2 s G.y.home G.ov).2 s).1 ≠ 0 then ((G.L.trim (sbring (G.L.sync S s).2 s G.y.home G.ov).2 s).1, (G.L.trim (sbring (G.L.sync S s).2 s G.y.home G.ov).2 s).2.1, { G with L := (G.L.trim (sbring (G.L.sync S s).2 s G.y.home G.ov).2 s).2.2 })
  else (0, (G.L.trim (sbring (G.L.sync S s).2 s G.y.home G.ov).2 s).2.1, { G with L := (G.L.trim (sbring (G.L.sync S s).2 s G.y.home G.ov).2 s).2.2, ov := [] })
/-- Is there room for a record of so many bytes? -/
def SG.roomy (G : SG) (S : DS) (x : Nat) : Bool := decide ((cntOf x : Int) ≤ (G.L.room S).1)
/-- What Checkpoint leaves, where the record wants it. -/
def SG.made (G : SG) (S : DS) (s : Nat) (x : Nat) : Int × DS × SG := if G.roomy S x = true then (0, S, G) else G.check S s
/-- The changes are given to the log, and to everybody. -/
def SG.commit (G : SG) (S : DS) (s : Nat) (c : CM) : Int × DS × SG :=
  if (G.L.room S).2 ≠ 0 then ((G.L.room S).2, S, G) else
  if (G.made S s (recOf c).length).1 ≠ 0 then G.made S s (recOf c).length else
  if ((G.made S s (recOf c).length).2.2.L.append (G.made S s (recOf c).length).2.1 s (recOf c)).1 ≠ 0 then
    (((G.made S s (recOf c).length).2.2.L.append (G.made S s (recOf c).length).2.1 s (recOf c)).1, ((G.made S s (recOf c).length).2.2.L.append (G.made S s (recOf c).length).2.1 s (recOf c)).2.1, { (G.made S s (recOf c).length).2.2 with L := ((G.made S s (recOf c).length).2.2.L.append (G.made S s (recOf c).length).2.1 s (recOf c)).2.2 })
  else (0, ((G.made S s (recOf c).length).2.2.L.append (G.made S s (recOf c).length).2.1 s (recOf c)).2.1, { (G.made S s (recOf c).length).2.2 with L := ((G.made S s (recOf c).length).2.2.L.append (G.made S s (recOf c).length).2.1 s (recOf c)).2.2, ov := CM.over (G.made S s (recOf c).length).2.2.ov c })
/-- A block as all that was committed has left it. -/
def SG.block (G : SG) (S : DS) (b : Nat) : List Int := (CM.get G.ov b).getD (S.now (G.y.home + b))
/-- .. as a transaction sees it. -/
def TG.sees (T : TG) (G : SG) (S : DS) (b : Nat) : List Int := (CM.get T.puts b).getD (G.block S b)
/-- State. -/
def TG.over (T : TG) (G : SG) (S : DS) : Int := if G.L.dead S = true then 3 else if T.ended = true then 4 else 0
def TG.state (T : TG) (G : SG) (S : DS) : Int := if T.over G S ≠ 0 then T.over G S else T.bad
def TG.refusal (T : TG) (G : SG) (S : DS) (b : Int) : Int := if T.state G S ≠ 0 then T.state G S else if b < 0 ∨ (G.y.blocks : Int) ≤ b then 11 else 0
end Go.Proofs.YtokcgifpljeoiaaGreat
end

section
namespace Go.Proofs.YtokcgifpljeoiaaGreat.B
open Go.RowKit

/-- So many reads at most (while they can be counted at all). -/
def Rb (r : Int) (c : Nat) : Prop := c < 4611686018427387904 → 0 ≤ r ∧ r ≤ (c : Int)
theorem Rb.read {r : Int} {c : Nat} (h : Rb r c) : Rb (wrap64 (r + 1)) (c + 1) := by
  intro hc
  have h1 := h (by omega)
  have e : wrap64 (r + 1) = r + 1 := by unfold wrap64; omega
  rw [e]
  omega
theorem Rb.le {r : Int} {c d : Nat} (h : Rb r c) (hd : c ≤ d) : Rb r d := by
  intro hc
  have h1 := h (by omega)
  omega
/-- A disk that was asked to read so often at most. -/
def DiskR (w : World) (F : Nat → Prop) (p s : Nat) (S : DS) (c : Nat) : Prop := ∃ r, DiskAt w F p s (S.rds r) ∧ Rb r c

section
variable {w w' : World} {F G : Nat → Prop} {p s c : Nat} {S : DS}
theorem DiskR.old (h : DiskR w F p s S c) : Go.Proofs.YtokcgifpljeoiaaGreat.DiskR w F p s S := by obtain ⟨r, h, _⟩ := h; exact ⟨r, h⟩
theorem DiskR.le {d : Nat} (h : DiskR w F p s S c) (hd : c ≤ d) : DiskR w F p s S d := by obtain ⟨r, h, hr⟩ := h; exact ⟨r, h, hr.le hd⟩
theorem DiskR.ok (h : DiskR w F p s S c) : S.Ok s := h.old.ok
theorem DiskR.lt (h : DiskR w F p s S c) : ∀ k, F k → k < w.heap.size := h.old.lt
theorem DiskR.keep (h : DiskR w F p s S c) (k : Keeps G w w') (hd : ∀ k, F k → ¬ G k) : DiskR w' F p s S c := by obtain ⟨r, h, hr⟩ := h; exact ⟨r, h.keep k hd, hr⟩
theorem DiskR.later (h : DiskR w F p s S c) (hb : Below w.heap.size w w') : DiskR w' F p s S c := h.keep (Keeps.of_below (fun _ => False) hb) (fun _ _ h => h)
theorem DiskR.boxed (h : DiskR w F p s S c) (o : Obj) : DiskR (w.alloc o) F p s S c := h.later ((Below.refl w.heap.size w).alloc (Nat.le_refl _) o)
theorem DiskR.mono (h : DiskR w F p s S c) (hG : ∀ k, F k → G k) (hl : ∀ k, G k → k < w.heap.size) : DiskR w G p s S c := by obtain ⟨r, h, hr⟩ := h; exact ⟨r, h.mono hG hl, hr⟩
theorem DiskR.more (h : DiskR w' F p s S c) : DiskR w' (more F w w') p s S c := by obtain ⟨r, h, hr⟩ := h; exact ⟨r, h.more, hr⟩

theorem dsectors (h : DiskR w F p s S c) : Calls Tryz.prog 20 #[.pointer (some ⟨p, 0, none⟩)] w fun e w' => e = .returned (.int .i64 s) ∧ w' = w := Go.Proofs.YtokcgifpljeoiaaGreat.dsectors h.old
theorem dburnt (h : DiskR w F p s S c) : Calls Tryz.prog 51 #[.pointer (some ⟨p, 0, none⟩)] w fun e w' => e = .returned (.bool (S.fuse == 0)) ∧ w' = w := Go.Proofs.YtokcgifpljeoiaaGreat.dburnt h.old
theorem dtake (h : DiskR w F p s S c) : Calls Tryz.prog 75 #[.pointer (some ⟨p, 0, none⟩)] w fun e w' => e = .returned (.int .i64 (wrap64 (S.life + 1))) ∧ DiskR w' F p s S.take c ∧ Keeps F w w' := by
  obtain ⟨r, h, hr⟩ := h
  refine (take_at h).mono ?_
  rintro e w' ⟨rfl, h1, h2⟩
  exact ⟨rfl, ⟨r, h1, hr⟩, h2⟩
theorem dread_dead (h : DiskR w F p s S c) (x : Int) (hf : S.fuse = 0) : Calls Tryz.prog 80 #[.pointer (some ⟨p, 0, none⟩), .int .i64 x] w fun e w' => e = .returned (.tuple #[.slice none 0 0, .int .i64 3]) ∧ w' = w := Go.Proofs.YtokcgifpljeoiaaGreat.dread_dead h.old x hf
theorem dread_ok (h : DiskR w F p s S c) (k : Nat) (hk : k < s) (hbig : S.puts.length + 1 ≤ 4000000000000) (hf : S.fuse ≠ 0) :
    Calls Tryz.prog 80 #[.pointer (some ⟨p, 0, none⟩), .int .i64 (k : Int)] w fun e w' => ∃ v, e = .returned (.tuple #[v, .int .i64 0]) ∧ Out w.heap.size w' (S.now k) v ∧ DiskR w' F p s S (c + 1) ∧ Keeps F w w' := by
  obtain ⟨r, h, hr⟩ := h
  have h1 := read_all h (k : Int) hbig
  rw [rd_in (S := S.rds r) hf hk] at h1
  refine h1.mono ?_
  rintro e w' ⟨v, rfl, h2, h3, h4⟩
  exact ⟨v, rfl, h2, ⟨_, h3, hr.read⟩, h4⟩
theorem dwrite (h : DiskR w F p s S c) (x : Int) (a : Option Addr) (n k : Nat) (l : List Int) (hs : Src w a n l) (hbig : S.puts.length + 1 ≤ 4000000000000) :
    Calls Tryz.prog 78 #[.pointer (some ⟨p, 0, none⟩), .int .i64 x, .slice a n k] w fun e w' => e = .returned (.int .i64 (S.wr s x n l).1) ∧ DiskR w' (Go.Proofs.YtokcgifpljeoiaaGreat.more F w w') p s (S.wr s x n l).2 c ∧ Keeps F w w' := by
  obtain ⟨r, h, hr⟩ := h
  have h1 := write_all h x a n k l hs hbig
  rw [rds_wr] at h1
  refine h1.mono ?_
  rintro e w' ⟨rfl, h2, h3⟩
  exact ⟨rfl, ⟨r, h2, hr⟩, h3⟩
theorem dflush (h : DiskR w F p s S c) (hbig : S.puts.length + 1 ≤ 4000000000000) :
    Calls Tryz.prog 79 #[.pointer (some ⟨p, 0, none⟩)] w fun e w' => e = .returned (.int .i64 (S.fl s).1) ∧ DiskR w' F p s (S.fl s).2 c ∧ Keeps F w w' := by
  obtain ⟨r, h, hr⟩ := h
  have h1 := flush_all h hbig
  rw [rds_fl] at h1
  refine h1.mono ?_
  rintro e w' ⟨rfl, h2, h3⟩
  exact ⟨rfl, ⟨r, h2, hr⟩, h3⟩
theorem dcrash (h : DiskR w F p s S c) (hbig : S.puts.length + 1 ≤ 4000000000000) (a : Option Addr) (n k : Nat) (l : List P3) (hps : PSrc w a n l) (hn : n ≤ 140737488355328) (hF : ∀ x, a = some x → ¬ F x.block) :
    Calls Tryz.prog 16 #[.pointer (some ⟨p, 0, none⟩), .slice a n k] w fun e w' => e = .returned (.tuple #[]) ∧ DiskR w' F p s (S.crash s l) c ∧ Keeps F w w' := by
  obtain ⟨r, h, hr⟩ := h
  refine (crash_ok sorts sortn h (by show S.puts.length + 1 ≤ _; omega) a n k l hps hn hF).mono ?_
  rintro e w' ⟨rfl, h2, h3⟩
  exact ⟨rfl, ⟨r, h2, hr⟩, h3⟩
theorem dimage (h : DiskR w F p s S c) : Calls Tryz.prog 26 #[.pointer (some ⟨p, 0, none⟩)] w fun e w' => ∃ g c, e = .returned (.slice (some ⟨g, 0, none⟩) (s * 512) c) ∧ w.heap.size ≤ g ∧ RowAt w' 5 g c (bs S.im) ∧ Below w.heap.size w w' := Go.Proofs.YtokcgifpljeoiaaGreat.dimage h.old
/-- Counts tells the very number: from there on that is the bound. -/
theorem dcounts (h : DiskR w F p s S c) (hbig : S.puts.length ≤ 140737488355328) (hc : c < 4611686018427387904) : Calls Tryz.prog 19 #[.pointer (some ⟨p, 0, none⟩)] w fun e w' => ∃ r : Nat, e = .returned (.agg #[.int .i64 (r : Int), .int .i64 S.writes, .int .i64 S.flushes, .int .i64 S.refused, .int .i64 (S.puts.length : Int)]) ∧ r ≤ c ∧ DiskR w' F p s S r ∧ Below w.heap.size w w' := by
  obtain ⟨r, h, hr⟩ := h
  have hr' := hr hc
  obtain ⟨k, rfl⟩ : ∃ k : Nat, r = (k : Int) := ⟨r.toNat, by omega⟩
  refine (counts_any p s F _ w h hbig).mono ?_
  rintro e w' ⟨rfl, h2⟩
  exact ⟨k, rfl, by omega, DiskR.later ⟨_, h, fun _ => by omega⟩ h2, h2⟩

theorem rds_anew (S : DS) (r : Int) (s f : Nat) (num : Int) (hf : S.fuse ≠ 0) : arenew (S.rds r) s f num = ((anew S s f num).1, (anew S s f num).2.rds (wrap64 (wrap64 (r + 1) + 1))) := by
  unfold arenew anew
  rw [if_neg hf]
  simp only [rds_now]
  have e : (S.rds r).read.read = S.rds (wrap64 (wrap64 (r + 1) + 1)) := rfl
  simp only [e, rds_wr]
  split
  · rfl
  · split
    · rfl
    · simp only [rds_fl]
theorem dnewest (h : DiskR w F p s S c) (f : Nat) (n : Int) (hbig : S.puts.length + 1 ≤ 4000000000000) (hf : S.fuse ≠ 0) (hs : f + 1 < s) (hb1 : Bytes (S.now f)) (hb2 : Bytes (S.now (f + 1))) :
    Calls Tryz.prog 118 #[areaV p f n] w fun e w' => e = .returned (.tuple #[.int .i64 ((lnewest (S.now f) (S.now (f + 1))).1 : Int), .int .i64 ((lnewest (S.now f) (S.now (f + 1))).2.1 : Int), .int .i64 ((lnewest (S.now f) (S.now (f + 1))).2.2 : Int)]) ∧ DiskR w' F p s S (c + 2) ∧ Keeps F w w' := by
  obtain ⟨r, h, hr⟩ := h
  refine (anewest_ok h f n hbig hf hs hb1 hb2).mono ?_
  rintro e w' ⟨rfl, h2, h3⟩
  exact ⟨rfl, ⟨_, h2, hr.read.read⟩, h3⟩
theorem drefusal (h : DiskR w F p s S c) (f n : Int) : Calls Tryz.prog 83 #[areaV p f n] w fun e w' => e = .returned (.int .i64 (lrefuse S s f n)) ∧ Below w.heap.size w w' := Go.Proofs.YtokcgifpljeoiaaGreat.drefusal h.old f n
end

set_option maxRecDepth 20000 in
set_option maxHeartbeats 4000000 in
theorem renew_dead {w : World} {F : Nat → Prop} {p s c : Nat} {S : DS} (h : DiskR w F p s S c) (f : Nat) (n : Int) (E T : Int) (hbig : S.puts.length + 1 ≤ 4000000000000) (hf : S.fuse = 0) :
    Calls Tryz.prog 89 #[areaV p f n, .int .i64 E, .int .i64 T] w fun e w' => e = .returned (.int .i64 3) ∧ DiskR w' F p s S c ∧ Keeps F w w' := by
  obtain ⟨r, h, hr⟩ := h
  go_enter Tryz.func89, Tryz.ntmps89
  go_wp2_with fail
  refine (pair_dead (h.boxed (.cells #[.pointer (some ⟨p, 0, none⟩), .int .i64 f, .int .i64 n] 134)) f n hbig hf).mono ?_
  rintro e w1 ⟨rfl, hd, hk⟩
  go_wp2
  go_ret
  exact ⟨rfl, ⟨r, hd, hr⟩, ((Keeps.boxed (w := w) F (.cells #[.pointer (some ⟨p, 0, none⟩), .int .i64 f, .int .i64 n] 134)).trans hk (fun _ h => .inl h))⟩

theorem drenew {w : World} {F : Nat → Prop} {p s c : Nat} {S : DS} (h : DiskR w F p s S c) (f : Nat) (n : Int) (E T : Nat) (hE : E ≤ 1073741824) (hT : T ≤ 1073741824) (hbig : S.puts.length + 2 ≤ 4000000000000) (hs : f + 1 < s) (hb1 : Bytes (S.now f)) (hb2 : Bytes (S.now (f + 1))) :
    Calls Tryz.prog 89 #[areaV p f n, .int .i64 (E : Int), .int .i64 (T : Int)] w fun e w' => e = .returned (.int .i64 (anew S s f ((E : Int) * 4294967296 + T)).1) ∧ DiskR w' (more F w w') p s (anew S s f ((E : Int) * 4294967296 + T)).2 (c + 2) ∧ Keeps F w w' := by
  by_cases hf : S.fuse = 0
  · refine (renew_dead h f n E T (by omega) hf).mono ?_
    rintro e w' ⟨rfl, h1, h2⟩
    unfold anew
    rw [if_pos hf]
    exact ⟨rfl, h1.more.le (by omega), h2⟩
  · obtain ⟨r, h, hr⟩ := h
    have h1 := arenew_ok h f n E T hE hT hbig hf hs hb1 hb2
    rw [(rds_anew S r s f ((E : Int) * 4294967296 + T) hf)] at h1
    refine h1.mono ?_
    rintro e w' ⟨rfl, h2, h3⟩
    exact ⟨rfl, ⟨_, h2, hr.read.read⟩, h3⟩
end Go.Proofs.YtokcgifpljeoiaaGreat.B
end

section
namespace Go.Proofs.YtokcgifpljeoiaaGreat.B
open Go.RowKit

/-- A disk that has grown, told from an earlier world on. -/
theorem DiskR.from {w w1 w2 : World} {F : Nat → Prop} {p s c : Nat} {S : DS} (h : DiskR w2 (Go.Proofs.YtokcgifpljeoiaaGreat.more F w1 w2) p s S c) (hl : ∀ k, F k → k < w.heap.size) (h1 : w.heap.size ≤ w1.heap.size) (h2 : w1.heap.size ≤ w2.heap.size) : DiskR w2 (Go.Proofs.YtokcgifpljeoiaaGreat.more F w w2) p s S c :=
  h.mono (fun k hk => by rcases hk with hk | hk; exact .inl hk; exact .inr ⟨by omega, hk.2⟩) (more_lt hl (by omega))
/-- Widened by what is new. -/
theorem DiskR.wide {w w1 w2 : World} {F : Nat → Prop} {p s c : Nat} {S : DS} (h : DiskR w2 (Go.Proofs.YtokcgifpljeoiaaGreat.more F w w1) p s S c) (hl : ∀ k, F k → k < w.heap.size) (h1 : w.heap.size ≤ w1.heap.size) (h2 : w1.heap.size ≤ w2.heap.size) : DiskR w2 (Go.Proofs.YtokcgifpljeoiaaGreat.more F w w2) p s S c :=
  h.mono (fun k hk => by rcases hk with hk | hk; exact .inl hk; exact .inr ⟨hk.1, by omega⟩) (more_lt hl (by omega))
section
variable {w : World} {F : Nat → Prop} {p s l cR : Nat} {S : DS} {L : LG}

theorem dead_any (h : DiskR w F p s S cR) (hl : LogP w l p L) :
    Calls Tryz.prog 88 #[.pointer (some ⟨l, 0, none⟩)] w fun e w' => e = .returned (.bool (L.dead S)) ∧ Below w.heap.size w w' := Go.Proofs.YtokcgifpljeoiaaGreat.dead_any h.old hl
theorem unready_any (h : DiskR w F p s S cR) (hl : LogP w l p L) :
    Calls Tryz.prog 100 #[.pointer (some ⟨l, 0, none⟩)] w fun e w' => e = .returned (.int .i64 (L.unready S)) ∧ Below w.heap.size w w' := Go.Proofs.YtokcgifpljeoiaaGreat.unready_any h.old hl

set_option maxRecDepth 20000 in
set_option maxHeartbeats 4000000 in
theorem Sync_any (h : DiskR w F p s S cR) (hl : LogP w l p L) (hF : ¬ F l) (hbig : S.puts.length + 1 ≤ 4000000000000) :
    Calls Tryz.prog 62 #[.pointer (some ⟨l, 0, none⟩)] w fun e w' => e = .returned (.int .i64 (L.sync S s).1) ∧ DiskR w' F p s (L.sync S s).2 cR ∧ LogP w' l p L ∧ Keeps F w w' := by
  have h1 := unready_any h hl
  have HL := hl
  have HD := h
  unfold LG.sync
  generalize L.unready S = U at *
  go_enter Tryz.func62, Tryz.ntmps62
  by_cases q : U = 0
  · subst q
    rw [if_neg (by decide)]
    go_wp2_with fail
    refine h1.mono ?_
    rintro e w1 ⟨rfl, hb⟩
    have hl := HL.later hb
    have c0 := hl.c0
    go_wp2_with fail
    refine (dflush (HD.later hb) hbig).mono ?_
    rintro e w2 ⟨rfl, hd, hk⟩
    go_wp2
    go_ret
    exact ⟨rfl, (And.intro hd (And.intro (hl.keep hk hF) ((Keeps.of_below F hb).trans hk (fun _ h => .inl h))))⟩
  · rw [if_pos q]
    have d : (U == 0) = false := by rw [beq_eq_false_iff_ne]; exact q
    go_wp2_with fail
    refine h1.mono ?_
    rintro e w1 ⟨rfl, hb⟩
    go_wp2
    go_ret
    exact ⟨rfl, (And.intro (HD.later hb) (And.intro (HL.later hb) (Keeps.of_below F hb)))⟩
end
end Go.Proofs.YtokcgifpljeoiaaGreat.B
end

section
namespace Go.Proofs.YtokcgifpljeoiaaGreat
open Go.RowKit Go.Maps

/-- A store as it lies in memory. -/
abbrev stC (p l m : Nat) (y : LY) (busy : Bool) : Array Value := #[.pointer (some ⟨p, 0, none⟩), .pointer (some ⟨l, 0, none⟩), .int .i64 (y.log : Int), .int .i64 (y.home : Int), .int .i64 (y.blocks : Int), .int .i64 (y.nodes : Int), .int .i64 (y.data : Int), .map (some m), .bool busy]
def StP (w : World) (q p l m : Nat) (y : LY) (busy : Bool) : Prop := w.heap[q]? = some (.cells (stC p l m y busy) 104 (0, 0))
section
variable {w w' : World} {q p l m : Nat} {y : LY} {busy : Bool}
theorem StP.lt (h : StP w q p l m y busy) : q < w.heap.size := lt_there h
theorem StP.keep {G : Nat → Prop} (h : StP w q p l m y busy) (k : Keeps G w w') (hn : ¬ G q) : StP w' q p l m y busy := (k.block q h.lt hn).trans h
theorem StP.later (h : StP w q p l m y busy) (hb : Below w.heap.size w w') : StP w' q p l m y busy := (hb.block q h.lt).trans h
theorem StP.c0 (h : StP w q p l m y busy) : w.cell? ⟨q, 0, none⟩ = some (.pointer (some ⟨p, 0, none⟩)) := cell_of_block h (j := 0) rfl
theorem StP.c1 (h : StP w q p l m y busy) : w.cell? ⟨q, 1, none⟩ = some (.pointer (some ⟨l, 0, none⟩)) := cell_of_block h (j := 1) rfl
theorem StP.c3 (h : StP w q p l m y busy) : w.cell? ⟨q, 3, none⟩ = some (.int .i64 (y.home : Int)) := cell_of_block h (j := 3) rfl
theorem StP.c4 (h : StP w q p l m y busy) : w.cell? ⟨q, 4, none⟩ = some (.int .i64 (y.blocks : Int)) := cell_of_block h (j := 4) rfl
theorem StP.c7 (h : StP w q p l m y busy) : w.cell? ⟨q, 7, none⟩ = some (.map (some m)) := cell_of_block h (j := 7) rfl
theorem StP.c8 (h : StP w q p l m y busy) : w.cell? ⟨q, 8, none⟩ = some (.bool busy) := cell_of_block h (j := 8) rfl
end

set_option maxRecDepth 20000 in
theorem home_any {w : World} {q p l m : Nat} {y : LY} {busy : Bool} (h : StP w q p l m y busy) (b : Nat) (hb : y.home + b ≤ 1000000) :
    Calls Tryz.prog 124 #[.pointer (some ⟨q, 0, none⟩), .int .i64 (b : Int)] w fun e w' => e = .returned (.int .i64 ((y.home : Int) + (b : Int))) ∧ w' = w := by
  have c3 := h.c3
  go_enter Tryz.func124, Tryz.ntmps124
  go_wp2
  go_ret
  exact ⟨rfl, rfl⟩

theorem sbring_cons (S : DS) (s h : Nat) (q : Nat × List Int) (qs : CM) : sbring S s h (q :: qs) = if (S.wr s ((h + q.1 : Nat) : Int) 512 q.2).1 ≠ 0 then S.wr s ((h + q.1 : Nat) : Int) 512 q.2 else sbring (S.wr s ((h + q.1 : Nat) : Int) 512 q.2).2 s h qs := rfl
theorem sbring_append (S : DS) (s h : Nat) : ∀ (a b : CM), sbring S s h (a ++ b) = if (sbring S s h a).1 ≠ 0 then sbring S s h a else sbring (sbring S s h a).2 s h b
  | [], b => by simp [sbring]
  | q :: qs, b => by
    rw [List.cons_append, sbring_cons, sbring_cons]
    by_cases e : (S.wr s ((h + q.1 : Nat) : Int) 512 q.2).1 ≠ 0
    · rw [if_pos e, if_pos e, if_pos e]
    · rw [if_neg e, if_neg e]
      exact sbring_append _ s h qs b
theorem sbring_puts (S : DS) (s h : Nat) : ∀ (ms : CM), (sbring S s h ms).2.puts.length ≤ S.puts.length + ms.length := fun ms => by
  induction ms generalizing S with
  | nil => exact Nat.le_refl _
  | cons q qs ih =>
    have h1 := wr_puts S s ((h + q.1 : Nat) : Int) 512 q.2
    unfold sbring
    split
    · rw [List.length_cons]; omega
    · have := ih (S.wr s ((h + q.1 : Nat) : Int) 512 q.2).2
      rw [List.length_cons]
      omega

set_option maxRecDepth 20000 in
set_option maxHeartbeats 8000000 in
theorem bringHome_any {w : World} {F : Nat → Prop} {p s c q l m : Nat} {S : DS} {y : LY} {busy : Bool} {ms : CM} (hd : B.DiskR w F p s S c) (hs : StP w q p l m y busy) (hm : Ch w m ms) (hq : ¬ F q) (hFm : ¬ F m) (hk : ∀ x ∈ ms, y.home + x.1 < s) (hbig : S.puts.length + 3000 ≤ 4000000000000) :
    Calls Tryz.prog 87 #[.pointer (some ⟨q, 0, none⟩)] w fun e w' => e = .returned (.int .i64 (sbring S s y.home ms).1) ∧ B.DiskR w' (more F w w') p s (sbring S s y.home ms).2 c ∧ Keeps F w w' := by
  have h1 := inOrder_any hm
  have hsm := hm.small
  have hlen := hm.len
  have hok := hm.ok
  have hss := hd.ok.hi
  have hkl : (CM.keys ms).length = ms.length := by simp [CM.keys]
  rw [hkl] at h1
  have hzc := zeroCon
  have c7 := hs.c7
  have HLt := Hid.mk hd.lt
  have HD := Hid.mk hd
  have HS := Hid.mk hs
  have HM := Hid.mk hm
  clear hd hs hm
  go_enter Tryz.func87, Tryz.ntmps87
  go_wp2_with fail
  refine h1.mono ?_
  rintro e w1 ⟨a, ca, rfl, hrow, hb1⟩
  have hz1 := hb1.size
  have HRow := Hid.mk hrow
  have HD1 := Hid.mk (HD.out.later hb1)
  have HS1 := Hid.mk (HS.out.later hb1)
  have HM1 := Hid.mk (HM.out.later hb1)
  have HB1 := Hid.mk hb1
  clear h1 hrow hb1 HD HS HM c7
  go_wp2
  go_loopw [13] (fun i wr => ∃ j : Nat, j ≤ ms.length ∧ i = .int .i64 (j : Int) ∧ (sbring S s y.home (ms.take j)).1 = 0 ∧ B.DiskR wr (more F w1 wr) p s (sbring S s y.home (ms.take j)).2 c ∧ Keeps F w1 wr) (fun i _ => ms.length - (intOf i).toNat)
  case atStart => exact ⟨0, Nat.zero_le _, rfl, rfl, HD1.out.more, Keeps.refl _ _⟩
  case round =>
    clear HD1
    obtain ⟨j, hj, rfl, hz, hd, hkp⟩ := hrel
    have hkz := hkp.size
    by_cases hlt : j < ms.length
    · have hlt' : (j : Int) < (ms.length : Int) := by omega
      have hj0 : (0 : Int) ≤ (j : Int) := by omega
      obtain ⟨g, rfl, hg, hr⟩ := HRow.out (by simp [CM.keys]; intro e; rw [e] at hlt; simp at hlt)
      have hgF : ¬ F g := fun hf => by have := HLt.out _ hf; omega
      have hc4 := (hr.agree (hkp.block g hr.lt hgF)).cell (keys_at hlt)
      have hq5 := hlen _ (List.getElem_mem hlt)
      have hks := hk _ (List.getElem_mem hlt)
      have hsr := HS1.out.keep hkp hq
      have c7 := hsr.c7
      have hst := con_stored wr hq5.2.1
      have hinfo := infoConL hq5.2.1
      have hone := bs_one (ms[j]).2
      have hF5 : (bs (ms[j]).2).length = 512 := by rw [bs, List.length_map, hq5.2.1]
      have hpu := sbring_puts S s y.home (ms.take j)
      have hsn : sbring S s y.home (ms.take (j + 1)) = (sbring S s y.home (ms.take j)).2.wr s ((y.home + (ms[j]).1 : Nat) : Int) 512 (ms[j]).2 := by
        rw [List.take_succ_eq_append_getElem hlt, sbring_append, if_neg (fun h => h hz)]
        simp only [sbring]
        split
        · rfl
        · rename_i h
          generalize DS.wr _ _ _ _ _ = Z at *
          rw [← (Decidable.byContradiction h)]
      have hend : sbring S s y.home ms = if (sbring S s y.home (ms.take (j + 1))).1 ≠ 0 then sbring S s y.home (ms.take (j + 1)) else sbring (sbring S s y.home (ms.take (j + 1))).2 s y.home (ms.drop (j + 1)) := by
        conv => lhs; rw [← List.take_append_drop (j + 1) ms]
        exact sbring_append S s y.home _ _
      obtain ⟨wS, hwS⟩ : ∃ wS, wS = (wr.alloc (.cells zsec 118)).setCells wr.heap.size 0 (bs (ms[j]).2) := ⟨_, rfl⟩
      have hbS : Below wr.heap.size wr wS := by rw [hwS]; exact hst.2.1
      have hblk : Blk wS 118 wr.heap.size (ms[j]).2 := by rw [hwS]; exact hst.1
      have hsrc : Src wS (some ⟨wr.heap.size, 0, none⟩) 512 (ms[j]).2 := by
        have := hblk.src (o := 0) (n := 512) (by omega)
        rwa [List.drop_zero, List.take_of_length_le (by omega)] at this
      have hsS := hsr.later hbS
      have hhome := fun (wx : World) (hb : Below wS.heap.size wS wx) => home_any (hsS.later hb) (ms[j]).1 (by omega)
      have hwrt := fun (wx : World) (hb : Below wS.heap.size wS wx) => B.dwrite ((hd.later hbS).later hb) ((y.home + (ms[j]).1 : Nat) : Int) (some ⟨wr.heap.size, 0, none⟩) 512 512 (ms[j]).2 (hsrc.later hb) (by rw [List.length_take] at hpu; omega)
      rw [← hsn, Int.natCast_add] at hwrt
      have c0 := hsS.c0
      obtain ⟨A, hA⟩ : ∃ A, A = bs (ms[j]).2 := ⟨_, rfl⟩
      rw [← hA] at hinfo hone hF5 hwS
      have hread' : (Instr.lookup 102 (.map (some m)) (.int .i64 ((ms[j]).1 : Int)) false).run Tryz.prog wr = .ok (.agg A.toArray) wr := by rw [hA]; exact ((HM1.out.keep hkp hFm).read (ms[j]).1 (CM.get_of_mem hok (List.getElem_mem hlt)))
      have hth := hst.2.2
      rw [← hA] at hth
      have hall := all_oneCell_toArray hone
      have HsS := Hid.mk hsS
      have HH := Hid.mk hhome
      have HWr := Hid.mk hwrt
      have HBS := Hid.mk hbS
      have HK := Hid.mk hkp
      have HE := Hid.mk hend
      clear hst hr hd hkp hsr hsS hbS hblk hsrc hA hq5 hhome hwrt hsn hend hpu hz
      obtain ⟨Y, hY⟩ : ∃ Y, Y = sbring S s y.home (ms.take (j + 1)) := ⟨_, rfl⟩
      rw [← hY] at HWr HE
      have HY := Hid.mk hY
      clear hY
      generalize (ms[j]).1 = K at *
      generalize zsec = Z at *
      go_wp2_with (refine wpList_store_mid rfl 118 _ _ rfl wr.heap.size 0 A.toArray rfl rfl ?h1 ?h2 hall ?_)
      case h1 => first | simpa using hth | (rw [hF5] at hth; simpa using hth)
      case h2 => simpa using hinfo
      have hwS' := (Hid.mk hwS).out
      subst hwS'
      have hqm : ¬ more F w1 wr q := fun h => by
        rcases h with h | h
        · exact hq h
        · have := HS1.out.lt; omega
      have HLr : Hid (∀ k, F k → k < w1.heap.size) := fun k hf => by have := HLt.out k hf; omega
      generalize hwS' : (wr.alloc (.cells Z 118)).setCells wr.heap.size 0 A = wS at *
      clear hwS'
      have hzS := HBS.out.size
      by_cases kY : Y.1 = 0
      · have dY : (Y.1 != 0) = false := by rw [kY]; rfl
        go_region_held3 (fun w' => w'.cell? ⟨q, 0, none⟩ = some (.pointer (some ⟨p, 0, none⟩)))
          (first | exact c0 | exact c05)
          (first
            | (go_at_call 124; refine (HH.out _ (below_drew (Below.refl _ _))).mono ?_; rintro e wy ⟨rfl, hwy⟩; have hwy' := hwy.symm; subst hwy'; clear hwy)
            | (go_at_call 78; refine (HWr.out _ (below_drew (Below.refl _ _))).mono ?_; rintro e w5 ⟨rfl, hd5, hk5⟩; have c05 := ((HsS.out.later (below_drew (Below.refl _ _))).keep hk5 hqm).c0))
        have hz5 : wS.heap.size ≤ w5.heap.size := hk5.size
        have hdN := hd5.mono (fun k hk => by
          rcases hk with (hk | hk) | hk
          · exact .inl hk
          · exact .inr ⟨hk.1, by omega⟩
          · have : wS.heap.size ≤ k := hk.1
            exact .inr ⟨by omega, hk.2⟩) (more_lt (F := F) (w := w1) HLr.out (by omega))
        have hkN := (HK.out.trans (Keeps.of_below (fun _ => False) (below_drew HBS.out)) (fun _ h => h.elim)).trans hk5 (fun k hk => by
          rcases hk with hk | hk
          · exact .inl hk
          · exact .inr hk.1)
        have HN := Hid.mk (And.intro hdN hkN)
        have HKY := Hid.mk kY
        clear hd5 hk5 c05 hdN hkN kY c0 c7 hc4
        go_wp2
        go_roundw
        case rel => exact ⟨j + 1, by omega, by go_num, by rw [← HY.out]; exact HKY.out, by rw [← HY.out]; exact HN.out.1, HN.out.2⟩
        case measure => simp [intOf]; omega
      · have dY : (Y.1 != 0) = true := by rw [bne_iff_ne]; exact kY
        go_region_held3 (fun w' => w'.cell? ⟨q, 0, none⟩ = some (.pointer (some ⟨p, 0, none⟩)))
          (first | exact c0 | exact c05)
          (first
            | (go_at_call 124; refine (HH.out _ (below_drew (Below.refl _ _))).mono ?_; rintro e wy ⟨rfl, hwy⟩; have hwy' := hwy.symm; subst hwy'; clear hwy)
            | (go_at_call 78; refine (HWr.out _ (below_drew (Below.refl _ _))).mono ?_; rintro e w5 ⟨rfl, hd5, hk5⟩; have c05 := ((HsS.out.later (below_drew (Below.refl _ _))).keep hk5 hqm).c0))
        have hz5 : wS.heap.size ≤ w5.heap.size := hk5.size
        have hdN := hd5.mono (fun k hk => by
          rcases hk with (hk | hk) | hk
          · exact .inl hk
          · exact .inr ⟨hk.1, by omega⟩
          · have : wS.heap.size ≤ k := hk.1
            exact .inr ⟨by omega, hk.2⟩) (more_lt (F := F) (w := w1) HLr.out (by omega))
        have hkN := (HK.out.trans (Keeps.of_below (fun _ => False) (below_drew HBS.out)) (fun _ h => h.elim)).trans hk5 (fun k hk => by
          rcases hk with hk | hk
          · exact .inl hk
          · exact .inr hk.1)
        have hE := HE.out
        rw [if_pos kY] at hE
        have HN := Hid.mk (And.intro (hdN.from HLt.out hz1 (by omega)) ((Keeps.of_below F HB1.out).trans hkN (fun _ h => .inl h)))
        have HEq := Hid.mk hE
        clear hd5 hk5 c05 hdN hkN kY c0 c7 hc4 hE
        go_wp2
        go_ret
        exact ⟨by rw [HEq.out]; rfl, by rw [HEq.out]; exact HN.out.1, HN.out.2⟩
    · have hlt' : ¬ (j : Int) < (ms.length : Int) := by omega
      obtain rfl : j = ms.length := by omega
      rw [List.take_length] at hz hd
      have HZ := Hid.mk hz
      have HN := Hid.mk (And.intro (hd.from HLt.out hz1 hkz) ((Keeps.of_below F HB1.out).trans hkp (fun _ h => .inl h)))
      clear hd hkp hz
      go_wp2
      go_ret
      exact ⟨by rw [HZ.out]; rfl, HN.out⟩
end Go.Proofs.YtokcgifpljeoiaaGreat
end

section
namespace Go.Proofs.YtokcgifpljeoiaaGreat
open Go.RowKit Go.Maps

theorem smust_t (w : World) : Calls Tryz.prog 85 #[.bool true] w fun e w' => e = .returned (.tuple #[]) ∧ w' = w := by
  go_enter Tryz.func85, Tryz.ntmps85
  go_wp2
  go_end0
  exact ⟨rfl, rfl⟩
/-- How a reader of records gives up. -/
abbrev sGave : List PanicEntry := [{ v := .iface 25 (.int .i64 6), recovered := false }]
theorem smust_f (w : World) : Calls Tryz.prog 85 #[.bool false] w fun e w' => e = .panicked sGave ∧ w' = w := by
  go_enter Tryz.func85, Tryz.ntmps85
  go_wp2
  exact ⟨rfl, rfl, rfl⟩

set_option maxRecDepth 20000 in
set_option maxHeartbeats 4000000 in
/-- The number that was laid there. -/
theorem staken_any (b o k c : Nat) (l : List Int) (w1 : World) (hs : Src w1 (some ⟨b, o, none⟩) k l) (hb : Bytes l) (hk4 : k ≤ 4) :
    Calls Tryz.prog 148 #[.slice (some ⟨b, o, none⟩) k c] w1 fun e w' => e = .returned (.int .i64 ((le l : Nat) : Int)) ∧ w' = w1 := by
  have hl : l.length = k := hs.1
  have Hs : Hid (∀ i, i < k → w1.cell? ⟨b, o + i, none⟩ = some (.int .u8 (l.getD i 0))) := fun i hi => by
    have := hs.2.2 _ rfl i hi
    rwa [addr_add] at this
  clear hs
  go_enter Tryz.func148, Tryz.ntmps148
  go_wp2
  go_loopw [3, 8] (fun r i wr => ∃ j : Nat, j ≤ k ∧ i = .int .i64 j ∧ wr = w1 ∧ r = .int .i64 ((le (l.take j) : Nat) : Int)) (fun _ i _ => k - (intOf i).toNat)
  case atStart => exact ⟨0, Nat.zero_le _, rfl, rfl, by simp [le]⟩
  case round =>
    obtain ⟨j, hj, rfl, hww, rfl⟩ := hrel
    subst hww
    by_cases hlt : j < k
    · have hlt' : (j : Int) < (k : Int) := by omega
      have hc := Hs.out j hlt
      obtain ⟨x, hx, hx1⟩ : ∃ x : Nat, l.getD j 0 = (x : Int) ∧ x < 256 := by
        have := hb.getD j
        exact ⟨(l.getD j 0).toNat, by omega, by omega⟩
      have hsucc := le_take_succ (l := l) (k := j) (by omega)
      have hA : le (l.take j) < 2 ^ (8 * j) := by
        have := le_lt (hb.take j)
        have e : (l.take j).length = j := by simp; omega
        rwa [e] at this
      have hB : le (l.take (j + 1)) < 9223372036854775808 := le_small4 (hb.take _) (by simp; omega)
      rw [hx] at hc hsucc
      simp only [Int.toNat_natCast] at hsucc
      rw [hsucc] at hB
      have hor := or_i64 (8 * j) _ x hA hB
      rw [← hsucc] at hor
      have hsh := shl_pow (x : Int) j (by omega)
      have hsh2 : ((x : Int) * 2 ^ (8 * j)) = ((2 ^ (8 * j) * x : Nat) : Int) := by rw [Int.natCast_mul, Int.natCast_pow, Int.mul_comm]; rfl
      have hlt2 : ((2 ^ (8 * j) * x : Nat) : Int) < 9223372036854775808 := by omega
      have hnn : (0 : Int) ≤ 8 * (j : Int) := by omega
      generalize 2 ^ (8 * j) * x = Y at *
      generalize le (l.take j) = A at *
      have Hor := Hid.mk hor
      clear hA hB hsucc
      go_wp2
      go_roundw
      case rel => exact ⟨j + 1, by omega, by go_num, trivial, by rw [← Hor.out]⟩
      case measure => simp [intOf]; omega
    · have hlt' : ¬ (j : Int) < (k : Int) := by omega
      have ej : l.take j = l := List.take_of_length_le (by omega)
      rw [ej] at *
      go_wp2
      go_ret
      exact ⟨rfl, rfl⟩

end Go.Proofs.YtokcgifpljeoiaaGreat
end

section
namespace Go.Proofs.YtokcgifpljeoiaaGreat
open Go.RowKit Go.Maps

set_option maxRecDepth 20000 in
set_option maxHeartbeats 4000000 in
theorem sdead_any {w : World} {F : Nat → Prop} {p s c q l m : Nat} {S : DS} {y : LY} {busy : Bool} {L : LG} (hd : B.DiskR w F p s S c) (hs : StP w q p l m y busy) (hl : LogP w l p L) (hk : L.Ok s) (hb : L.begun = true) :
    Calls Tryz.prog 54 #[.pointer (some ⟨q, 0, none⟩)] w fun e w' => e = .returned (.bool (L.dead S)) ∧ Below w.heap.size w w' := by
  have h1 := Room_any hd.old hl hk
  have hr : ((L.room S).2 == 3) = L.dead S := by
    unfold LG.room LG.unready
    cases hdd : L.dead S
    · rw [if_neg (show ¬ false = true by decide), if_pos hb, if_neg (fun h => h rfl)]; rfl
    · rw [if_pos rfl, if_pos (by decide)]; rfl
  have c1 := hs.c1
  generalize (L.room S).2 = E at *
  generalize (L.room S).1 = E1 at *
  go_enter Tryz.func54, Tryz.ntmps54
  go_wp2_with fail
  refine h1.mono ?_
  rintro e w1 ⟨rfl, hb1⟩
  go_wp2
  go_ret
  exact ⟨rfl, hb1⟩

theorem con_there (w : World) : (w.alloc (.cells zsec 118)).there w.heap.size 0 512 := there_of (heap_alloc_new _ _) zsec_size
theorem arrayCon (a : Option Addr) (c : Nat) (w : World) : (Instr.arrayAt 118 (.slice a 512 c)).run Tryz.prog w = .ok (.pointer a) w := by
  simp [Instr.arrayAt, run_underlying Tryz.underlying118]
theorem there_keep {w w' : World} {g n : Nat} (h : w.there g 0 n) (hb : w'.heap[g]? = w.heap[g]?) : w'.there g 0 n := by
  intro j hj
  obtain ⟨h1, h2⟩ := h j hj
  refine ⟨?_, ?_⟩
  · rw [World.cell?_of_block (w := w) (w' := w') (a := ⟨g, 0 + j, none⟩) hb]; exact h1
  · unfold World.frozen? at h2 ⊢
    rw [show w'.heap[g]? = w.heap[g]? from hb]
    exact h2

set_option maxRecDepth 20000 in
set_option maxHeartbeats 8000000 in
theorem committed_in {w : World} {q p l m : Nat} {y : LY} {busy : Bool} {ov : CM} (hs : StP w q p l m y busy) (hm : Ch w m ov) (b : Nat) {c : List Int} (hg : CM.get ov b = some c) :
    Calls Tryz.prog 94 #[.pointer (some ⟨q, 0, none⟩), .int .i64 (b : Int)] w fun e w' => e = .returned (.tuple #[cV c, .int .i64 0]) ∧ Below w.heap.size w w' := by
  have hq5 := hm.len _ (CM.get_mem hg)
  have hzc := zeroCon
  have hB1 : Below w.heap.size w (w.alloc (.cells zsec 118)) := (Below.refl _ w).alloc (Nat.le_refl _) _
  have c7 := (hs.later hB1).c7
  have hlook := (hm.later hB1).look b hq5.1
  rw [hg] at hlook
  have hst := con_stored (w.alloc (.cells zsec 118)) hq5.2.1
  rw [World.size_alloc] at hst
  have hinfo := infoConL hq5.2.1
  have hone := bs_one c
  have hF5 : (bs c).length = 512 := by rw [bs, List.length_map, hq5.2.1]
  obtain ⟨A, hA⟩ : ∃ A, A = bs c := ⟨_, rfl⟩
  have hlook' : (Instr.lookup 102 (.map (some m)) (.int .i64 (b : Int)) true).run Tryz.prog (w.alloc (.cells zsec 118)) = .ok (.tuple #[.agg A.toArray, .bool true]) (w.alloc (.cells zsec 118)) := by rw [hA]; exact hlook
  have hra : (((w.alloc (.cells zsec 118)).alloc (.cells zsec 118)).setCells (w.heap.size + 1) 0 (bs c)).rangeAt (w.heap.size + 1) 0 (bs c) := fun j v hv => by
    have := hst.1.news j v hv
    rwa [addr_add] at this
  rw [← hA] at hinfo hone hF5 hst hra
  have hth2 := there_keep (con_there w) (hst.2.1.block _ (by simp))
  have hrs := Hid.mk (World.rangeAt_setCells_same _ w.heap.size 0 A (by rw [hF5]; exact hth2))
  have hall := all_oneCell_toArray hone
  have hB2 := hB1.trans (hst.2.1.mono (by omega))
  have hB3 := Hid.mk (hB2.trans ((Keeps.setCells (F := fun j => j = w.heap.size) rfl A 0 _).below (fun j hj => by omega) hB2.size))
  have hth1 := hst.2.2
  have HA := Hid.mk hA
  clear hlook hst hs hm hB1 hB2 hone hg hq5 hA
  generalize zsec = Z at *
  go_enter Tryz.func94, Tryz.ntmps94
  go_wp2_with (first | refine wpList_load_mid rfl 118 _ rfl (w.heap.size + 1) 0 rfl A _ hra Tryz.underlying118 rfl hinfo ?_ | refine wpList_store_mid rfl 118 _ _ rfl (w.heap.size + 1) 0 A.toArray rfl rfl ?h1 ?h2 hall ?_ | refine wpList_store_mid rfl 118 _ _ rfl w.heap.size 0 A.toArray rfl rfl ?h3 ?h4 hall ?_)
  case h1 => first | simpa using hth1 | (rw [hF5] at hth1; simpa using hth1)
  case h2 => simpa using hinfo
  case h3 =>
    have e : A.toArray.size = 512 := by simpa using hF5
    rw [e]; exact hth2
  case h4 => simpa using hinfo
  refine bodyPost_ret (results_cell_tmp (P := Tryz.prog) rfl _ _ w.heap.size A _ _ rfl rfl hrs.out Tryz.underlying118 rfl hinfo) rfl ⟨?_, hB3.out⟩
  show _ = Ending.returned (.tuple #[.agg (bs c).toArray, .int .i64 0])
  rw [← HA.out]
  rfl

set_option maxRecDepth 20000 in
set_option maxHeartbeats 8000000 in
theorem committed_out {w : World} {F : Nat → Prop} {p s cR q l m : Nat} {S : DS} {y : LY} {busy : Bool} {ov : CM} (hd : B.DiskR w F p s S cR) (hs : StP w q p l m y busy) (hm : Ch w m ov) (hq : ¬ F q) (b : Nat) (hb : b < 2048) (hg : CM.get ov b = none) (hk : y.home + b < s) (hf : S.fuse ≠ 0) (hbig : S.puts.length + 1 ≤ 4000000000000) :
    Calls Tryz.prog 94 #[.pointer (some ⟨q, 0, none⟩), .int .i64 (b : Int)] w fun e w' => e = .returned (.tuple #[cV (S.now (y.home + b)), .int .i64 0]) ∧ B.DiskR w' F p s S (cR + 1) ∧ Keeps F w w' := by
  have hzc := zeroCon
  have hss := hd.ok.hi
  have hB1 : Below w.heap.size w (w.alloc (.cells zsec 118)) := (Below.refl _ w).alloc (Nat.le_refl _) _
  have c7 := (hs.later hB1).c7
  have hlook := (hm.later hB1).look b hb
  rw [hg] at hlook
  have hlook' : (Instr.lookup 102 (.map (some m)) (.int .i64 (b : Int)) true).run Tryz.prog (w.alloc (.cells zsec 118)) = .ok (.tuple #[.agg zsec, .bool false]) (w.alloc (.cells zsec 118)) := hlook
  have hst := con_stored (w.alloc (.cells zsec 118)) (zs_len 512)
  rw [World.size_alloc] at hst
  have hinfoZ := infoConL (zs_len 512)
  have hallZ := all_oneCell_toArray (bs_one (zs 512))
  have hthZ := hst.2.2
  have hzz : (bs (zs 512)).toArray = zsec := rfl
  obtain ⟨ZL, hZL⟩ : ∃ ZL, ZL = bs (zs 512) := ⟨_, rfl⟩
  rw [← hZL] at hst hinfoZ hallZ hthZ hzz
  have hZ5 : ZL.length = 512 := by rw [hZL, bs, List.length_map, zs_len]
  obtain ⟨wA, hwA⟩ : ∃ wA, wA = ((w.alloc (.cells zsec 118)).alloc (.cells zsec 118)).setCells (w.heap.size + 1) 0 ZL := ⟨_, rfl⟩
  have hBA : Below w.heap.size w wA := by rw [hwA]; exact hB1.trans (hst.2.1.mono (by omega))
  have hthA : wA.there w.heap.size 0 512 := by rw [hwA]; exact there_keep (con_there w) (hst.2.1.block _ (by simp))
  have hszA : w.heap.size < wA.heap.size := by
    have := hst.2.1.size
    rw [hwA]
    rw [World.size_alloc] at this
    omega
  have hsA := hs.later hBA
  have c0 := hsA.c0
  have hhome := fun (wx : World) (hb : Below wA.heap.size wA wx) => home_any (hsA.later hb) b (by omega)
  have hrd := fun (wx : World) (hb : Below wA.heap.size wA wx) => B.dread_ok ((hd.later hBA).later hb) (y.home + b) hk hbig hf
  rw [Int.natCast_add] at hrd
  have HH := Hid.mk hhome
  have HRd := Hid.mk hrd
  have HsA := Hid.mk hsA
  have HTh := Hid.mk hthA
  have HBA := Hid.mk hBA
  have HLt := Hid.mk hd.lt
  have HwA := Hid.mk hwA
  have HNl := Hid.mk (now_len hd.ok (y.home + b) hk)
  clear hlook hst hs hm hB1 hBA hd hsA hhome hrd hthA hg hwA hZL
  rw [← hzz] at hzc c7 hlook' hthZ HwA
  clear hzz
  go_enter Tryz.func94, Tryz.ntmps94
  go_wp2_with (refine wpList_store_mid rfl 118 _ _ rfl (w.heap.size + 1) 0 ZL.toArray rfl rfl ?h1 ?h2 hallZ ?_)
  case h1 => first | simpa using hthZ | (rw [hZ5] at hthZ; simpa using hthZ)
  case h2 => simpa using hinfoZ
  have hwA' := HwA.out
  subst hwA'
  generalize hww : ((w.alloc (.cells ZL.toArray 118)).alloc (.cells ZL.toArray 118)).setCells (w.heap.size + 1) 0 ZL = wA at *
  clear hww hlook' c7 hthZ HwA
  go_region_held3 (fun w' => w'.cell? ⟨q, 0, none⟩ = some (.pointer (some ⟨p, 0, none⟩)))
    (first | exact c0 | exact c05)
    (first
      | (go_at_call 124; refine (HH.out _ (below_drew (Below.refl _ _))).mono ?_; rintro e wy ⟨rfl, hwy⟩; have hwy' := hwy.symm; subst hwy'; clear hwy)
      | (go_at_call 80; refine (HRd.out _ (below_drew (Below.refl _ _))).mono ?_; rintro e w5 ⟨v, rfl, ho, hd5, hk5⟩; have c05 := ((HsA.out.later (below_drew (Below.refl _ _))).keep hk5 hq).c0))
  obtain ⟨av, cv, rfl, hsv, hlov⟩ := ho
  rw [HNl.out] at hsv ⊢
  obtain ⟨b5, o5, rfl⟩ := src_spot hsv (by omega)
  have harr := arrayCon (some ⟨b5, o5, none⟩) cv
  have hra := src_range hsv
  have hinfo := infoConL HNl.out
  have hone := bs_one (S.now (y.home + b))
  obtain ⟨A, hA⟩ : ∃ A, A = bs (S.now (y.home + b)) := ⟨_, rfl⟩
  rw [← hA] at hra hinfo hone
  have hF5 : A.length = 512 := by rw [hA, bs, List.length_map, HNl.out]
  have hall := all_oneCell_toArray hone
  have hnF : ¬ F w.heap.size := fun h => by have := HLt.out _ h; omega
  have hth5 := there_keep HTh.out (hk5.block _ hszA hnF)
  have hrs := Hid.mk (World.rangeAt_setCells_same w5 w.heap.size 0 A (by rw [hF5]; exact hth5))
  have hks := Keeps.setCells (F := fun j => j = w.heap.size) rfl A 0 w5
  have HD5 := Hid.mk (hd5.keep hks (fun k hk e => hnF (e ▸ hk)))
  have HK5 := Hid.mk ((((Keeps.of_below F HBA.out).trans (Keeps.of_below (fun _ => False) (below_drew (Below.refl wA.heap.size wA))) (fun _ h => h.elim)).trans hk5 (fun _ h => .inl h)).trans hks (fun k e => .inr (by omega)) : Keeps F w (w5.setCells w.heap.size 0 A))
  have HA := Hid.mk hA
  clear hd5 hk5 hsv hlov c0 c05 hone hks hA
  go_wp2_with (first | refine wpList_load_mid rfl 118 _ rfl b5 o5 rfl A _ hra Tryz.underlying118 rfl hinfo ?_ | refine wpList_store_mid rfl 118 _ _ rfl w.heap.size 0 A.toArray rfl rfl ?h3 ?h4 hall ?_)
  case h3 =>
    have e : A.toArray.size = 512 := by simpa using hF5
    rw [e]; exact hth5
  case h4 => simpa using hinfo
  refine bodyPost_ret (results_cell_tmp (P := Tryz.prog) rfl _ _ w.heap.size A _ _ rfl rfl hrs.out Tryz.underlying118 rfl hinfo) rfl ⟨?_, HD5.out, HK5.out⟩
  show _ = Ending.returned (.tuple #[.agg (bs (S.now (y.home + b))).toArray, .int .i64 0])
  rw [← HA.out]
  rfl
end Go.Proofs.YtokcgifpljeoiaaGreat
end
