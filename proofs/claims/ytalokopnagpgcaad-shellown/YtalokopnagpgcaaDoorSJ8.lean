import Derived.Test.YtalokopnagpgcaaDoorSJ7
namespace Go.Proofs.YtalokopnagpgcaaDoor
open Go.RowKit Go.Maps

def GoodS (s : RS) : Prop := (s.i = 0 ∨ s.i = 1 ∨ s.i = 2 ∨ s.i = 3 ∨ s.i = 4 ∨ s.i = 5 ∨ s.i = 6 ∨ s.i = 7) ∧ (s.i = 5 → s.bad = false → ∃ k : Nat, k < 16 ∧ s.d = (k : Int))
theorem next_good {s : RS} {c : UInt8} (h : GoodS s) (_hb : s.bad = false) : GoodS (s.next c) ∧ (s.next c).wd.length ≤ s.wd.length + 1 ∧ (s.next c).ws.length ≤ s.ws.length + 1 := by
  obtain ⟨hi, h5⟩ := h
  unfold RS.next
  rcases hi with hi | hi | hi | hi | hi | hi | hi | hi
  · rw [if_pos hi]
    unfold RS.first
    repeat' split
    all_goals simp [GoodS, RS.plain]
  · rw [if_neg (by rw [hi]; decide), if_pos hi]
    repeat' split
    all_goals simp [GoodS, RS.plain, RS.ends, hi]
  · rw [if_neg (by rw [hi]; decide), if_neg (by rw [hi]; decide), if_pos hi]
    unfold RS.inside
    repeat' split
    all_goals simp [GoodS, RS.ends, hi]
  · rw [if_neg (by rw [hi]; decide), if_neg (by rw [hi]; decide), if_neg (by rw [hi]; decide), if_pos hi]
    unfold RS.escaped
    repeat' split
    all_goals simp [GoodS]
  · rw [if_neg (by rw [hi]; decide), if_neg (by rw [hi]; decide), if_neg (by rw [hi]; decide), if_neg (by rw [hi]; decide), if_pos hi]
    refine ⟨⟨by simp, fun _ hbd => ?_⟩, by simp, by simp⟩
    cases hN : hexN c.toNat with
    | none => simp [hexI, hN] at hbd
    | some d => exact ⟨d, hexN_lt hN, by simp [hexI, hN]⟩
  · rw [if_neg (by rw [hi]; decide), if_neg (by rw [hi]; decide), if_neg (by rw [hi]; decide), if_neg (by rw [hi]; decide), if_neg (by rw [hi]; decide), if_pos hi]
    repeat' split
    all_goals simp [GoodS]
  · rw [if_neg (by rw [hi]; decide), if_neg (by rw [hi]; decide), if_neg (by rw [hi]; decide), if_neg (by rw [hi]; decide), if_neg (by rw [hi]; decide), if_neg (by rw [hi]; decide), if_pos hi]
    simp [GoodS]
  · rw [if_neg (by rw [hi]; decide), if_neg (by rw [hi]; decide), if_neg (by rw [hi]; decide), if_neg (by rw [hi]; decide), if_neg (by rw [hi]; decide), if_neg (by rw [hi]; decide), if_neg (by rw [hi]; decide)]
    simp [GoodS, hi]
theorem rnext_any (p : Nat) (s : RS) (c : UInt8) (w : World) (h : Rd w p s) (hl : s.wd.length ≤ 100000000) (hl2 : s.ws.length ≤ 100000000) (hg : GoodS s) (hb : s.bad = false) :
    Calls Tryd.prog 16 #[.pointer (some ⟨p, 0, none⟩), .int .u8 c.toNat] w fun e w' => e = .returned (.tuple #[]) ∧ Rd w' p (s.next c) ∧ Below p w w' := by
  obtain ⟨hi, h5⟩ := hg
  rcases hi with hi | hi | hi | hi | hi | hi | hi | hi
  · exact rnext_first p s c w h hl hi
  · exact rnext_bare p s c w h hl hl2 hi
  · exact rnext_inside p s c w h hl hl2 hi
  · exact rnext_escaped p s c w h hl hi
  · exact rnext_high p s c w h hi
  · obtain ⟨k, hk, hd⟩ := h5 hi hb
    exact rnext_low p s c w h hl hi k hk hd
  · exact rnext_behind p s c w h hi
  · exact rnext_note p s c w h hi
def runS : List UInt8 → RS → RS
  | [], s => s
  | c :: t, s => if s.bad then s else runS t (s.next c)
def RS.ends1 (s : RS) : RS := if s.i = 1 then s.ends else s
def finS (s : RS) : List (List UInt8) × Int := if s.bad = true ∨ s.i = 2 ∨ s.i = 3 ∨ s.i = 4 ∨ s.i = 5 then ([], 160) else (s.ends1.ws, 0)
def rs0 : RS := ⟨0, [], [], 0, false⟩
def ansR (l : List UInt8) : List (List UInt8) × Int := if 65536 < l.length then ([], 7) else finS (runS l rs0)
theorem told_down {w : World} {B B' : Nat} {v : Value} {ws : List (List UInt8)} (h : Told B w v ws) (hB : B' ≤ B) : Told B' w v ws := by
  obtain ⟨h1, h2 | ⟨g, c, cur, e, hg, h3⟩⟩ := h
  · exact ⟨h1, .inl h2⟩
  · exact ⟨h1, .inr ⟨g, c, cur, e, by omega, h3⟩⟩
set_option maxRecDepth 20000 in
set_option maxHeartbeats 4000000 in
theorem rwords_any (s : ByteArray) (w : World) :
    Calls Tryd.prog 10 #[.string s] w fun e w' => ∃ v, e = .returned (.tuple #[v, .int .i64 (ansR s.data.toList).2]) ∧ Told w.heap.size w' v (ansR s.data.toList).1 ∧ Below w.heap.size w w' := by
  by_cases hs : s.size ≤ 65536
  · have hgt : ¬ ((65536 : Int) < (s.size : Int)) := by omega
    have hans : ansR s.data.toList = finS (runS s.data.toList rs0) := by
      unfold ansR
      rw [len_size, if_neg (by omega)]
    rw [hans]
    clear hans
    have hnx := rnext_any w.heap.size
    have hen := rends_any w.heap.size
    have Hs := Hid.mk hs
    clear hs
    go_enter Tryd.func10, Tryd.ntmps10
    go_wp2
    go_loopw [5] (fun iv wr => ∃ (k : Nat) (s1 : RS), k ≤ s.size ∧ iv = .int .i64 k ∧ Rd wr w.heap.size s1 ∧ runS s.data.toList rs0 = runS (s.data.toList.drop k) s1 ∧ GoodS s1 ∧ s1.wd.length ≤ k ∧ s1.ws.length ≤ k ∧ Below w.heap.size w wr) (fun iv _ => s.size - (intOf iv).toNat)
    case atStart =>
      refine ⟨0, rs0, Nat.zero_le _, rfl, ⟨.slice none 0 0, .slice none 0 0, ⟨heap_alloc_new w _, Own.nil _ _, told_nil _ _⟩⟩, rfl, ⟨.inl rfl, fun h => by cases h⟩, Nat.le_refl _, Nat.le_refl _, (Below.refl _ _).alloc (Nat.le_refl _) _⟩
    case round =>
      obtain ⟨k, s1, hk, rfl, hrd, hrun, hgood, hw1, hw2, hbr⟩ := hrel
      by_cases hlt : k < s.size
      · have hlt' : (k : Int) < (s.size : Int) := by omega
        have hlt0 : (0 : Int) ≤ (k : Int) := by omega
        have hd1 := drop_one s hlt
        rw [hd1] at hrun
        cases hbad : s1.bad with
        | false =>
          have hgx : s.data.toList[k]? = some (s.get! k) := getb s hlt
          have g1 := get_at (s := s) (i := k) (c := s.get! k) hgx
          have hn1 := hnx s1 (s.get! k) wr hrd (by have := Hs.out; omega) (by have := Hs.out; omega) hgood hbad
          have hng := next_good (c := s.get! k) hgood hbad
          obtain ⟨vw, vs, hv⟩ := hrd
          have c4 := hv.c4
          rw [hbad] at c4
          have hrun' : runS s.data.toList rs0 = runS (s.data.toList.drop (k + 1)) (s1.next (s.get! k)) := by rw [hrun, runS, hbad]; rfl
          have HM := Hid.mk (And.intro hrun' (And.intro hng (And.intro hw1 hw2)))
          have HB := Hid.mk hbr
          clear hv hrun hrun' hng hgood hw1 hw2 hbr hd1 hnx hen hgx
          generalize s.get! k = x at *
          go_wp2_with fail
          refine hn1.mono ?_
          rintro e w2 ⟨rfl, hrd2, hb2⟩
          have HR := Hid.mk (And.intro hrd2 (HB.out.trans hb2))
          clear hrd2 hb2 hn1
          go_wp2
          go_roundw
          case rel =>
            have h1 := HM.out.2.1.2.1
            have h2 := HM.out.2.1.2.2
            have h3 := HM.out.2.2
            exact ⟨k + 1, s1.next x, by omega, by go_num, HR.out.1, HM.out.1, HM.out.2.1.1, by omega, by omega, HR.out.2⟩
          case measure => simp [intOf]; omega
        | true =>
          have hrun' : runS s.data.toList rs0 = s1 := by rw [hrun, runS, hbad]; rfl
          have HFN := Hid.mk (And.intro hrun' (And.intro hbr (And.intro hgood (show s1.ws.length ≤ s.size by omega))))
          obtain ⟨vw, vs, hv⟩ := hrd
          have b4 := hv.c4
          rw [hbad] at b4
          clear hrun hrun' hbr hgood hd1 hnx hw1 hw2
          by_cases hi : s1.i = 1
          · have hfin : finS s1 = ([], 160) := by simp [finS, hi, hbad]
            have c0 := hv.c0
            rw [hi] at c0
            have he := hen s1 wr ⟨_, _, hv⟩ (by have := HFN.out.2.2.2; have := Hs.out; omega)
            clear hv
            go_wp2_with fail
            refine he.mono ?_
            rintro e w2 ⟨rfl, ⟨vw2, vs2, hv2⟩, hb2⟩
            have d0 : w2.cell? ⟨w.heap.size, 0, none⟩ = some (.int .i64 1) := by have := hv2.c0; rw [show s1.ends.i = 1 from hi] at this; exact this
            have d4 : w2.cell? ⟨w.heap.size, 4, none⟩ = some (.bool true) := by have := hv2.c4; rw [show s1.ends.bad = true from hbad] at this; exact this
            have d2 := hv2.c2
            have HV := Hid.mk (And.intro hv2 (HFN.out.2.1.trans hb2))
            clear hv2 hb2 he
            go_wp2
            go_ret2
            exact ⟨_, by rw [HFN.out.1, hfin]; rfl, by rw [HFN.out.1, hfin]; exact told_nil _ _, HV.out.2⟩
          · have hi1 : (s1.i == 1) = false := by simpa using hi
            have hfin : finS s1 = ([], 160) := by simp [finS, hbad]
            have c0 := hv.c0
            have c4 := hv.c4
            rw [hbad] at c4
            clear hv
            generalize s1.i = I at *
            go_wp2
            go_ret2
            exact ⟨_, by rw [HFN.out.1, hfin]; rfl, by rw [HFN.out.1, hfin]; exact told_nil _ _, HFN.out.2.1⟩
      · have hlt' : ¬ ((k : Int) < (s.size : Int)) := by omega
        have hrun' : runS s.data.toList rs0 = s1 := by
          rw [hrun, List.drop_eq_nil_of_le (by rw [len_size]; omega)]
          rfl
        have HFN := Hid.mk (And.intro hrun' (And.intro hbr (And.intro hgood (show s1.ws.length ≤ s.size by omega))))
        obtain ⟨vw, vs, hv⟩ := hrd
        clear hrun hrun' hbr hgood hnx hw1 hw2
        rcases (show s1.bad = true ∨ s1.bad = false by cases s1.bad <;> simp) with hbad | hbad
        · by_cases hi : s1.i = 1
          · have hfin : finS s1 = ([], 160) := by simp [finS, hi, hbad]
            have c0 := hv.c0
            rw [hi] at c0
            have he := hen s1 wr ⟨_, _, hv⟩ (by have := HFN.out.2.2.2; have := Hs.out; omega)
            clear hv
            go_wp2_with fail
            refine he.mono ?_
            rintro e w2 ⟨rfl, ⟨vw2, vs2, hv2⟩, hb2⟩
            have d0 : w2.cell? ⟨w.heap.size, 0, none⟩ = some (.int .i64 1) := by have := hv2.c0; rw [show s1.ends.i = 1 from hi] at this; exact this
            have d4 : w2.cell? ⟨w.heap.size, 4, none⟩ = some (.bool true) := by have := hv2.c4; rw [show s1.ends.bad = true from hbad] at this; exact this
            have d2 := hv2.c2
            have HV := Hid.mk (And.intro hv2 (HFN.out.2.1.trans hb2))
            clear hv2 hb2 he
            go_wp2
            go_ret2
            exact ⟨_, by rw [HFN.out.1, hfin]; rfl, by rw [HFN.out.1, hfin]; exact told_nil _ _, HV.out.2⟩
          · have hi1 : (s1.i == 1) = false := by simpa using hi
            have hfin : finS s1 = ([], 160) := by simp [finS, hbad]
            have c0 := hv.c0
            have c4 := hv.c4
            rw [hbad] at c4
            clear hv
            generalize s1.i = I at *
            go_wp2
            go_ret2
            exact ⟨_, by rw [HFN.out.1, hfin]; rfl, by rw [HFN.out.1, hfin]; exact told_nil _ _, HFN.out.2.1⟩
        · rcases HFN.out.2.2.1.1 with hi | hi | hi | hi | hi | hi | hi | hi
          · have hfin : finS s1 = (s1.ws, 0) := by simp [finS, RS.ends1, hi, hbad]
            have c0 := hv.c0
            have c4 := hv.c4
            have c2 := hv.c2
            rw [hi] at c0
            rw [hbad] at c4
            have HV := Hid.mk hv
            clear hv
            go_wp2
            go_ret2
            exact ⟨_, by rw [HFN.out.1, hfin]; rfl, by rw [HFN.out.1, hfin]; exact told_down HV.out.told (by omega), HFN.out.2.1⟩
          · have hfin : finS s1 = (s1.ws ++ [s1.wd], 0) := by simp [finS, RS.ends1, RS.ends, hi, hbad]
            have c0 := hv.c0
            rw [hi] at c0
            have he := hen s1 wr ⟨_, _, hv⟩ (by have := HFN.out.2.2.2; have := Hs.out; omega)
            clear hv
            go_wp2_with fail
            refine he.mono ?_
            rintro e w2 ⟨rfl, ⟨vw2, vs2, hv2⟩, hb2⟩
            have d0 : w2.cell? ⟨w.heap.size, 0, none⟩ = some (.int .i64 1) := by have := hv2.c0; rw [show s1.ends.i = 1 from hi] at this; exact this
            have d4 : w2.cell? ⟨w.heap.size, 4, none⟩ = some (.bool false) := by have := hv2.c4; rw [show s1.ends.bad = false from hbad] at this; exact this
            have d2 := hv2.c2
            have HV := Hid.mk (And.intro hv2 (HFN.out.2.1.trans hb2))
            clear hv2 hb2 he
            go_wp2
            go_ret2
            exact ⟨_, by rw [HFN.out.1, hfin]; rfl, by rw [HFN.out.1, hfin]; exact told_down HV.out.1.told (by omega), HV.out.2⟩
          · have hfin : finS s1 = ([], 160) := by simp [finS, hi, hbad]
            have c0 := hv.c0
            have c4 := hv.c4
            have c2 := hv.c2
            rw [hi] at c0
            rw [hbad] at c4
            have HV := Hid.mk hv
            clear hv
            go_wp2
            go_ret2
            exact ⟨_, by rw [HFN.out.1, hfin]; rfl, by rw [HFN.out.1, hfin]; exact told_nil _ _, HFN.out.2.1⟩
          · have hfin : finS s1 = ([], 160) := by simp [finS, hi, hbad]
            have c0 := hv.c0
            have c4 := hv.c4
            have c2 := hv.c2
            rw [hi] at c0
            rw [hbad] at c4
            have HV := Hid.mk hv
            clear hv
            go_wp2
            go_ret2
            exact ⟨_, by rw [HFN.out.1, hfin]; rfl, by rw [HFN.out.1, hfin]; exact told_nil _ _, HFN.out.2.1⟩
          · have hfin : finS s1 = ([], 160) := by simp [finS, hi, hbad]
            have c0 := hv.c0
            have c4 := hv.c4
            have c2 := hv.c2
            rw [hi] at c0
            rw [hbad] at c4
            have HV := Hid.mk hv
            clear hv
            go_wp2
            go_ret2
            exact ⟨_, by rw [HFN.out.1, hfin]; rfl, by rw [HFN.out.1, hfin]; exact told_nil _ _, HFN.out.2.1⟩
          · have hfin : finS s1 = ([], 160) := by simp [finS, hi, hbad]
            have c0 := hv.c0
            have c4 := hv.c4
            have c2 := hv.c2
            rw [hi] at c0
            rw [hbad] at c4
            have HV := Hid.mk hv
            clear hv
            go_wp2
            go_ret2
            exact ⟨_, by rw [HFN.out.1, hfin]; rfl, by rw [HFN.out.1, hfin]; exact told_nil _ _, HFN.out.2.1⟩
          · have hfin : finS s1 = (s1.ws, 0) := by simp [finS, RS.ends1, hi, hbad]
            have c0 := hv.c0
            have c4 := hv.c4
            have c2 := hv.c2
            rw [hi] at c0
            rw [hbad] at c4
            have HV := Hid.mk hv
            clear hv
            go_wp2
            go_ret2
            exact ⟨_, by rw [HFN.out.1, hfin]; rfl, by rw [HFN.out.1, hfin]; exact told_down HV.out.told (by omega), HFN.out.2.1⟩
          · have hfin : finS s1 = (s1.ws, 0) := by simp [finS, RS.ends1, hi, hbad]
            have c0 := hv.c0
            have c4 := hv.c4
            have c2 := hv.c2
            rw [hi] at c0
            rw [hbad] at c4
            have HV := Hid.mk hv
            clear hv
            go_wp2
            go_ret2
            exact ⟨_, by rw [HFN.out.1, hfin]; rfl, by rw [HFN.out.1, hfin]; exact told_down HV.out.told (by omega), HFN.out.2.1⟩
  · have hgt : (65536 : Int) < (s.size : Int) := by omega
    have hans : ansR s.data.toList = ([], 7) := by
      unfold ansR
      rw [len_size, if_pos (by omega)]
    rw [hans]
    go_enter Tryd.func10, Tryd.ntmps10
    go_wp2
    go_ret2
    exact ⟨_, rfl, told_nil _ _, Below.refl _ _⟩
end Go.Proofs.YtalokopnagpgcaaDoor
