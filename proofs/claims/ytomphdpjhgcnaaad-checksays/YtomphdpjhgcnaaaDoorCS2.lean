import Derived.Test.YtomphdpjhgcnaaaDoorCS1
import Derived.Test.YtomphdpjhgcnaaaDoorRows
namespace Go.Proofs.YtomphdpjhgcnaaaDoor
open Go.RowKit Go.Maps

/-- The texts of a datum. -/
def strsOf : DataW Unit → List (List UInt8)
  | .agg l => l.map fun d => match d with
    | .lit (.string b) => b
    | _ => []
  | _ => []
/-- The document's sentences, a letter for each number. -/
def tmpl (k : Nat) : List UInt8 := (strsOf Rows.laid_vellum_vellumlaw12_words).getD k []
theorem tmpl_len : ∀ k, k < 22 → (tmpl k).length ≤ 60 := by decide
/-- A letter of a sentence. -/
def exc (n i b o : Int) (c : UInt8) : List UInt8 := if c = 78 then Lib.itoa n else if c = 73 then Lib.itoa i else if c = 66 then Lib.itoa b else if c = 79 then Lib.itoa o else [c]
def exs (n i b o : Int) (l : List UInt8) : List UInt8 := l.flatMap (exc n i b o)
def noF : List UInt8 := [110, 111, 32, 102, 97, 117, 108, 116]
/-- What is said of a fault. -/
def saidL (k n i b o : Int) : List UInt8 := if 1 ≤ k ∧ k ≤ 21 then exs n i b o (tmpl k.toNat) else noF
theorem exc_len {n i b o : Int} (h1 : I64 n) (h2 : I64 i) (h3 : I64 b) (h4 : I64 o) (c : UInt8) : (exc n i b o c).length ≤ 21 := by
  unfold exc
  repeat' split
  · exact Lib.itoa_length_le n h1.1 h1.2
  · exact Lib.itoa_length_le i h2.1 h2.2
  · exact Lib.itoa_length_le b h3.1 h3.2
  · exact Lib.itoa_length_le o h4.1 h4.2
  · simp
theorem exs_len {n i b o : Int} (h1 : I64 n) (h2 : I64 i) (h3 : I64 b) (h4 : I64 o) (l : List UInt8) : (exs n i b o l).length ≤ 21 * l.length := by
  induction l with
  | nil => simp [exs]
  | cons c t ih =>
    have := exc_len h1 h2 h3 h4 c
    simp only [exs, List.flatMap_cons, List.length_append, List.length_cons] at ih ⊢
    omega
theorem exs_snoc (n i b o : Int) (l : List UInt8) (c : UInt8) : exs n i b o (l ++ [c]) = exs n i b o l ++ exc n i b o c := by simp [exs]
/-- The document's sentences lie in the first variable. -/
def WD (w : World) : Prop := ∀ k, k < 22 → w.cell? ⟨0, k, none⟩ = some (.string ⟨(tmpl k).toArray⟩)
theorem WD.lt {w : World} (h : WD w) : 0 < w.heap.size := World.block_lt_of_cell? _ _ (h 0 (by decide))
theorem WD.later {w w' : World} (h : WD w) (hb : Below w.heap.size w w') : WD w' := fun k hk => (World.cell?_of_block (w := w) (a := ⟨0, k, none⟩) (hb.block 0 h.lt)).trans (h k hk)
/-- The cells of a fault. -/
def fcs (k n i b o : Int) : Array Value := #[.int .i64 k, .int .i64 n, .int .i64 i, .int .i64 b, .int .i64 o]
theorem get_atc {s : ByteArray} {i : Nat} {c : UInt8} (h : s.data.toList[i]? = some c) : ∀ h', ((s[i]'h').toNat : Int) = (c.toNat : Int) := fun h' => by
  have h1 := getb s h'
  rw [h] at h1
  rw [Option.some.inj h1, byte_at s h']
theorem ext_onec {s : ByteArray} {i : Nat} {c : UInt8} (h : s.data.toList[i]? = some c) : (s.extract i (i + 1)).data.toList = [c] := by
  obtain ⟨hk, e⟩ := List.getElem?_eq_some_iff.1 h
  rw [ext_list, show i + 1 - i = 1 by omega, List.drop_eq_getElem_cons hk, e]
  rfl
theorem take_nextc {l : List UInt8} {k : Nat} {c : UInt8} (h : l[k]? = some c) : l.take (k + 1) = l.take k ++ [c] := by
  obtain ⟨hk, e⟩ := List.getElem?_eq_some_iff.1 h
  rw [List.take_succ_eq_append_getElem hk, e]
theorem boxed_cell {w w' : World} {o : Obj} {cs : Array Value} {T : TypeId} (ho : o = .cells cs T) (hb : Below (w.heap.size + 1) (w.alloc o) w') {j : Nat} {v : Value} (hv : cs[j]? = some v) : w'.cell? ⟨w.heap.size, j, none⟩ = some v := by
  subst ho
  have h1 := heap_alloc_new w (.cells cs T)
  have h2 := (hb.block w.heap.size (by omega)).trans h1
  exact cell_of_block h2 (j := j) hv

set_option maxRecDepth 20000 in
set_option maxHeartbeats 4000000 in
theorem said_any (k n i b o : Int) (hk : I64 k) (h1 : I64 n) (h2 : I64 i) (h3 : I64 b) (h4 : I64 o) (w : World) (hW : WD w) :
    Calls Tryd.prog 5 #[.agg #[.int .i64 k, .int .i64 n, .int .i64 i, .int .i64 b, .int .i64 o]] w fun e w' => e = .returned (.string ⟨(saidL k n i b o).toArray⟩) ∧ Below w.heap.size w w' := by
  have hB0 := below_box w (.cells #[.int .i64 k, .int .i64 n, .int .i64 i, .int .i64 b, .int .i64 o] 25)
  have HB0 := Hid.mk hB0
  by_cases hlo : k < 1
  · have hs : saidL k n i b o = noF := by unfold saidL; rw [if_neg (by omega)]
    rw [hs]
    clear hB0
    go_enter Tryd.func5, Tryd.ntmps5
    go_wp2
    go_ret
    exact ⟨rfl, HB0.out⟩
  · by_cases hhi : 22 ≤ k
    · have hs : saidL k n i b o = noF := by unfold saidL; rw [if_neg (by omega)]
      rw [hs]
      clear hB0
      go_enter Tryd.func5, Tryd.ntmps5
      go_wp2
      go_ret
      exact ⟨rfl, HB0.out⟩
    · obtain ⟨K, rfl⟩ : ∃ K : Nat, k = (K : Int) := ⟨k.toNat, by omega⟩
      have hK : K < 22 := by omega
      have hs : saidL K n i b o = exs n i b o (tmpl K) := by unfold saidL; rw [if_pos (by omega)]; rfl
      rw [hs]
      have hcell := (hW.later hB0) K hK
      obtain ⟨T, hT⟩ : ∃ T : ByteArray, T = ⟨(tmpl K).toArray⟩ := ⟨_, rfl⟩
      have hTl : T.data.toList = tmpl K := by rw [hT]
      have hTs : T.size ≤ 60 := by rw [← len_size, hTl]; exact tmpl_len K hK
      rw [← hT] at hcell
      rw [← hTl]
      have hdec := decimal_any
      have HI := Hid.mk (And.intro h1 (And.intro h2 (And.intro h3 h4)))
      have HWD := Hid.mk (And.intro hW (And.intro hT hTl))
      clear hs hT hTl h1 h2 h3 h4 hW hB0
      go_enter Tryd.func5, Tryd.ntmps5
      go_wp2
      go_loopw [3, 5] (fun sv iv wr => ∃ (q : Nat) (S : ByteArray), sv = .string S ∧ iv = .int .i64 q ∧ q ≤ T.size ∧ S.data.toList = exs n i b o (T.data.toList.take q) ∧ Below (w.heap.size + 1) (w.alloc (.cells #[.int .i64 K, .int .i64 n, .int .i64 i, .int .i64 b, .int .i64 o] 25)) wr) (fun _ iv _ => T.size - (intOf iv).toNat)
      case atStart => exact ⟨0, ⟨#[]⟩, rfl, rfl, Nat.zero_le _, by simp [exs], Below.refl _ _⟩
      case round =>
        obtain ⟨q, S, rfl, rfl, hq, hS, hb⟩ := hrel
        by_cases hlt : q < T.size
        · have hlt' : (q : Int) < (T.size : Int) := by omega
          have hlt2 : (q : Int) + 1 ≤ (T.size : Int) := by omega
          have hw64 : wrap64 ((q : Int) + 1) = ((q + 1 : Nat) : Int) := by
            rw [IntWalk.wrap64_in _ (by omega)]
            rfl
          obtain ⟨c, hc⟩ : ∃ c, T.data.toList[q]? = some c := ⟨_, List.getElem?_eq_getElem (by rw [len_size]; exact hlt)⟩
          have hg := get_atc hc
          have hx1 := ext_onec hc
          have hSs : S.size ≤ 1260 := by
            have h5 := exs_len HI.out.1 HI.out.2.1 HI.out.2.2.1 HI.out.2.2.2 (T.data.toList.take q)
            rw [← hS, len_size, List.length_take] at h5
            omega
          have hstep : ∀ X : ByteArray, X.data.toList = exc n i b o c → (S ++ X).data.toList = exs n i b o (T.data.toList.take (q + 1)) := fun X hX => by
            rw [cat_list, hS, hX, take_nextc hc, exs_snoc]
          have f1 := boxed_cell rfl hb (j := 1) (v := .int .i64 n) rfl
          have f2 := boxed_cell rfl hb (j := 2) (v := .int .i64 i) rfl
          have f3 := boxed_cell rfl hb (j := 3) (v := .int .i64 b) rfl
          have f4 := boxed_cell rfl hb (j := 4) (v := .int .i64 o) rfl
          have hz : w.heap.size + 1 ≤ wr.heap.size := by simpa using hb.size
          have HH := Hid.mk (And.intro hstep hb)
          clear hstep hb hS hcell
          rcases (show c = 78 ∨ c = 73 ∨ c = 66 ∨ c = 79 ∨ (c ≠ 78 ∧ c ≠ 73 ∧ c ≠ 66 ∧ c ≠ 79) by by_cases h1 : c = 78 <;> by_cases h2 : c = 73 <;> by_cases h3 : c = 66 <;> by_cases h4 : c = 79 <;> simp [*]) with rfl | rfl | rfl | rfl | ⟨n1, n2, n3, n4⟩
          · have hg' : ∀ h', ((T[q]'h').toNat : Int) = 78 := hg
            have hd := hdec n HI.out.1.1 HI.out.1.2
            have hX := HH.out.1 ⟨(Lib.itoa n).toArray⟩ rfl
            have hXs : (⟨(Lib.itoa n).toArray⟩ : ByteArray).size ≤ 21 := by rw [← len_size]; exact Lib.itoa_length_le n HI.out.1.1 HI.out.1.2
            generalize (⟨(Lib.itoa n).toArray⟩ : ByteArray) = X at *
            have k1 : (9223372036854775807 < S.size + X.size) = False := eq_false (by omega)
            have HX := Hid.mk hX
            clear hX hg hx1 hc hdec
            go_wp2_with fail
            refine (hd _).mono ?_
            rintro e w1 ⟨rfl, hb1⟩
            have HB1 := Hid.mk (HH.out.2.trans (hb1.mono hz))
            clear hb1 hd
            go_wp2
            go_roundw
            case rel => exact ⟨q + 1, _, rfl, by first | rfl | go_num | rw [hw64], by omega, HX.out, HB1.out⟩
            case measure => first | (simp [intOf]; omega) | (rw [hw64]; simp [intOf]; omega)
          · have hg' : ∀ h', ((T[q]'h').toNat : Int) = 73 := hg
            have hd := hdec i HI.out.2.1.1 HI.out.2.1.2
            have hX := HH.out.1 ⟨(Lib.itoa i).toArray⟩ rfl
            have hXs : (⟨(Lib.itoa i).toArray⟩ : ByteArray).size ≤ 21 := by rw [← len_size]; exact Lib.itoa_length_le i HI.out.2.1.1 HI.out.2.1.2
            generalize (⟨(Lib.itoa i).toArray⟩ : ByteArray) = X at *
            have k1 : (9223372036854775807 < S.size + X.size) = False := eq_false (by omega)
            have HX := Hid.mk hX
            clear hX hg hx1 hc hdec
            go_wp2_with fail
            refine (hd _).mono ?_
            rintro e w1 ⟨rfl, hb1⟩
            have HB1 := Hid.mk (HH.out.2.trans (hb1.mono hz))
            clear hb1 hd
            go_wp2
            go_roundw
            case rel => exact ⟨q + 1, _, rfl, by first | rfl | go_num | rw [hw64], by omega, HX.out, HB1.out⟩
            case measure => first | (simp [intOf]; omega) | (rw [hw64]; simp [intOf]; omega)
          · have hg' : ∀ h', ((T[q]'h').toNat : Int) = 66 := hg
            have hd := hdec b HI.out.2.2.1.1 HI.out.2.2.1.2
            have hX := HH.out.1 ⟨(Lib.itoa b).toArray⟩ rfl
            have hXs : (⟨(Lib.itoa b).toArray⟩ : ByteArray).size ≤ 21 := by rw [← len_size]; exact Lib.itoa_length_le b HI.out.2.2.1.1 HI.out.2.2.1.2
            generalize (⟨(Lib.itoa b).toArray⟩ : ByteArray) = X at *
            have k1 : (9223372036854775807 < S.size + X.size) = False := eq_false (by omega)
            have HX := Hid.mk hX
            clear hX hg hx1 hc hdec
            go_wp2_with fail
            refine (hd _).mono ?_
            rintro e w1 ⟨rfl, hb1⟩
            have HB1 := Hid.mk (HH.out.2.trans (hb1.mono hz))
            clear hb1 hd
            go_wp2
            go_roundw
            case rel => exact ⟨q + 1, _, rfl, by first | rfl | go_num | rw [hw64], by omega, HX.out, HB1.out⟩
            case measure => first | (simp [intOf]; omega) | (rw [hw64]; simp [intOf]; omega)
          · have hg' : ∀ h', ((T[q]'h').toNat : Int) = 79 := hg
            have hd := hdec o HI.out.2.2.2.1 HI.out.2.2.2.2
            have hX := HH.out.1 ⟨(Lib.itoa o).toArray⟩ rfl
            have hXs : (⟨(Lib.itoa o).toArray⟩ : ByteArray).size ≤ 21 := by rw [← len_size]; exact Lib.itoa_length_le o HI.out.2.2.2.1 HI.out.2.2.2.2
            generalize (⟨(Lib.itoa o).toArray⟩ : ByteArray) = X at *
            have k1 : (9223372036854775807 < S.size + X.size) = False := eq_false (by omega)
            have HX := Hid.mk hX
            clear hX hg hx1 hc hdec
            go_wp2_with fail
            refine (hd _).mono ?_
            rintro e w1 ⟨rfl, hb1⟩
            have HB1 := Hid.mk (HH.out.2.trans (hb1.mono hz))
            clear hb1 hd
            go_wp2
            go_roundw
            case rel => exact ⟨q + 1, _, rfl, by first | rfl | go_num | rw [hw64], by omega, HX.out, HB1.out⟩
            case measure => first | (simp [intOf]; omega) | (rw [hw64]; simp [intOf]; omega)
          · have c1 : ((c.toNat : Int) == 78) = false := ne_lit (k := 78) n1
            have c2 : ((c.toNat : Int) == 73) = false := ne_lit (k := 73) n2
            have c3 : ((c.toNat : Int) == 66) = false := ne_lit (k := 66) n3
            have c4 : ((c.toNat : Int) == 79) = false := ne_lit (k := 79) n4
            have hX := HH.out.1 (T.extract q (q + 1)) (by rw [hx1]; unfold exc; rw [if_neg n1, if_neg n2, if_neg n3, if_neg n4])
            have hXs : (T.extract q (q + 1)).size = 1 := by rw [← len_size, hx1]; rfl
            have k1 : (9223372036854775807 < S.size + (T.extract q (q + 1)).size) = False := eq_false (by omega)
            have HX := Hid.mk hX
            clear hX n1 n2 n3 n4 hx1 hc
            generalize (c.toNat : Int) = y at *
            go_wp2
            go_roundw
            case rel => exact ⟨q + 1, _, rfl, by first | rfl | go_num | rw [hw64], by omega, HX.out, HH.out.2⟩
            case measure => first | (simp [intOf]; omega) | (rw [hw64]; simp [intOf]; omega)
        · have hlt' : ¬ (q : Int) < (T.size : Int) := by omega
          have hqe : q = T.size := by omega
          subst hqe
          rw [← len_size, List.take_length] at hS
          have hans : (⟨(exs n i b o T.data.toList).toArray⟩ : ByteArray) = S := by
            rw [← hS]
          have HA := Hid.mk (And.intro hans (HB0.out.trans (hb.mono (Nat.le_succ _))))
          clear hans hb hS hcell
          go_wp2
          go_ret
          exact ⟨by rw [HA.out.1]; rfl, HA.out.2⟩
end Go.Proofs.YtomphdpjhgcnaaaDoor
