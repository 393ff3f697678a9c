import Derived.Test.YtkcakpcmpbjhlaaDoorSH1
import Derived.Test.YtkcakpcmpbjhlaaDoorLays
import Derived.Lib.ItoaLen
import Derived.Shelf.Strconv.Itoa3
import Derived.Lib.AppendIntMem
namespace Go.Proofs.YtkcakpcmpbjhlaaDoor
open Go.RowKit Go.Maps

theorem cat_list (a b : ByteArray) : (a ++ b).data.toList = a.data.toList ++ b.data.toList := by simp
theorem cat_size (a b : ByteArray) : (a ++ b).size = a.size + b.size := by
  rw [← len_size, cat_list, List.length_append, len_size, len_size]
/-- Chapter 17's sentences, a letter for each number. -/
def vtab : List (List UInt8) := [[], [110, 111, 32, 115, 117, 112, 101, 114, 98, 108, 111, 99, 107], [110, 111, 32, 108, 111, 103, 58, 32, 101, 114, 114, 111, 114, 32, 79], [114, 101, 99, 111, 114, 100, 32, 73, 32, 98, 114, 111, 107, 101, 110, 58, 32, 79, 32, 108, 101, 116, 32, 103, 111], [110, 111, 32, 114, 111, 111, 116], [110, 111, 100, 101, 32, 78, 58, 32, 98, 114, 111, 107, 101, 110, 32, 115, 108, 111, 116], [110, 111, 100, 101, 32, 78, 58, 32, 105, 110, 100, 101, 120, 32, 73, 44, 32, 100, 101, 112, 116, 104, 32, 79, 58, 32, 112, 111, 105, 110, 116, 101, 114, 32, 66, 32, 111, 117, 116, 32, 111, 102, 32, 114, 97, 110, 103, 101], [110, 111, 100, 101, 32, 78, 58, 32, 105, 110, 100, 101, 120, 32, 73, 44, 32, 100, 101, 112, 116, 104, 32, 79, 58, 32, 98, 108, 111, 99, 107, 32, 66, 32, 105, 115, 32, 97, 110, 111, 116, 104, 101, 114, 39, 115], [110, 111, 100, 101, 32, 78, 58, 32, 105, 110, 100, 101, 120, 32, 73, 58, 32, 98, 108, 111, 99, 107, 32, 66, 32, 98, 101, 104, 105, 110, 100, 32, 116, 104, 101, 32, 115, 105, 122, 101], [110, 111, 100, 101, 32, 78, 58, 32, 105, 110, 100, 101, 120, 32, 73, 58, 32, 98, 108, 111, 99, 107, 32, 66, 32, 104, 97, 115, 32, 98, 121, 116, 101, 115, 32, 98, 101, 104, 105, 110, 100, 32, 116, 104, 101, 32, 115, 105, 122, 101], [110, 111, 100, 101, 32, 78, 58, 32, 79, 32, 104, 111, 108, 101, 115, 32, 105, 110, 32, 97, 32, 100, 105, 114, 101, 99, 116, 111, 114, 121], [110, 111, 100, 101, 32, 78, 58, 32, 115, 108, 111, 116, 32, 73, 58, 32, 98, 114, 111, 107, 101, 110, 32, 101, 110, 116, 114, 121], [110, 111, 100, 101, 32, 78, 58, 32, 115, 108, 111, 116, 32, 73, 58, 32, 97, 32, 110, 97, 109, 101, 32, 116, 119, 105, 99, 101], [110, 111, 100, 101, 32, 78, 58, 32, 115, 108, 111, 116, 32, 73, 58, 32, 101, 110, 116, 114, 121, 32, 111, 102, 32, 110, 111, 100, 101, 32, 79], [110, 111, 100, 101, 32, 78, 58, 32, 110, 111, 32, 116, 101, 120, 116], [110, 111, 100, 101, 32, 78, 58, 32, 115, 108, 111, 116, 32, 73, 58, 32, 100, 105, 114, 101, 99, 116, 111, 114, 121, 32, 79, 32, 111, 110, 99, 101, 32, 109, 111, 114, 101], [110, 111, 100, 101, 32, 78, 58, 32, 115, 108, 111, 116, 32, 73, 58, 32, 116, 104, 101, 32, 112, 97, 116, 104, 32, 111, 102, 32, 110, 111, 100, 101, 32, 79, 32, 105, 115, 32, 116, 111, 111, 32, 108, 111, 110, 103], [110, 111, 100, 101, 32, 78, 58, 32, 108, 111, 111, 115, 101], [79, 32, 105, 116, 101, 109, 115, 32, 116, 111, 111, 32, 109, 97, 110, 121]]
/-- A letter of a sentence. -/
def exc (n i b o : Int) (c : UInt8) : List UInt8 := if c = 78 then Lib.itoa n else if c = 73 then Lib.itoa i else if c = 66 then Lib.itoa b else if c = 79 then Lib.itoa o else [c]
def exs (n i b o : Int) (l : List UInt8) : List UInt8 := l.flatMap (exc n i b o)
/-- What is said of a loss. -/
def saidV (k n i b o : Int) : List UInt8 := if 1 ≤ k ∧ k ≤ 18 then exs n i b o (vtab.getD k.toNat []) else [110, 111, 32, 108, 111, 115, 115]
theorem boxed_cell {w w' : World} {o : Obj} {cs : Array Value} {T : TypeId} (ho : o = .cells cs T) (hb : Below (w.heap.size + 1) (w.alloc o) w') {j : Nat} {v : Value} (hv : cs[j]? = some v) : w'.cell? ⟨w.heap.size, j, none⟩ = some v := by
  subst ho
  have h1 := heap_alloc_new w (.cells cs T)
  have h2 := (hb.block w.heap.size (by omega)).trans h1
  exact cell_of_block h2 (j := j) hv
/-- The library's table of powers of ten. -/
def PT (w : World) : Prop := Lib.TabIs Tryd.prog w "internal/strconv.uint64pow10" .u64 Lib.pow10Tab
theorem PT.later {w w' : World} (h : PT w) (hb : Below w.heap.size w w') : PT w' := Lib.tabBelow_of_tabIs h w' hb
theorem itoa_any (m : Int) (hm : I64 m) (w : World) (h : PT w) :
    Calls Tryd.prog 6 #[.int .i64 m] w fun e w' => e = .returned (.string ⟨(Lib.itoa m).toArray⟩) ∧ Below w.heap.size w w' := by
  refine (Any.strconv_Itoa (P := Tryd.prog) (ρ := Tryd.laysM171_ren) Tryd.laysM171 m hm.1 hm.2 w h).mono ?_
  rintro e w' ⟨rfl, k, os, rfl⟩
  exact ⟨rfl, Lib.below_grow _ _ (Nat.le_refl _) _ _⟩
/-- The texts that are put together. -/
def SayV (n i b o : Int) (S3 S4 S5 IS BS OS S9 : ByteArray) : Prop :=
  S3.data.toList = [110, 111, 100, 101, 32] ++ Lib.itoa n ∧ S4.data.toList = [110, 111, 100, 101, 32] ++ (Lib.itoa n ++ ([58, 32, 105, 110, 100, 101, 120, 32] ++ Lib.itoa i)) ∧
  S5.data.toList = [110, 111, 100, 101, 32] ++ (Lib.itoa n ++ ([58, 32, 115, 108, 111, 116, 32] ++ Lib.itoa i)) ∧ IS.data.toList = Lib.itoa i ∧ BS.data.toList = Lib.itoa b ∧ OS.data.toList = Lib.itoa o ∧ S9.data.toList = [110, 111, 100, 101, 32] ++ (Lib.itoa n ++ [58, 32])
theorem ret_str {X : ByteArray} {l : List UInt8} (h : X.data.toList = l) : Ending.returned (.string X) = .returned (.string ⟨l.toArray⟩) := by
  subst h
  rfl
set_option maxRecDepth 100000 in
theorem sayEq1 {n i b o : Int} {S3 S4 S5 IS BS OS S9 : ByteArray} (_h : SayV n i b o S3 S4 S5 IS BS OS S9) : ((⟨#[110, 111, 32, 115, 117, 112, 101, 114, 98, 108, 111, 99, 107]⟩ : ByteArray)).data.toList = saidV 1 n i b o := by
  unfold saidV
  rw [if_pos (by decide)]
  rfl
set_option maxRecDepth 100000 in
theorem sayEq2 {n i b o : Int} {S3 S4 S5 IS BS OS S9 : ByteArray} (h : SayV n i b o S3 S4 S5 IS BS OS S9) : ((⟨#[110, 111, 32, 108, 111, 103, 58, 32, 101, 114, 114, 111, 114, 32]⟩ : ByteArray) ++ OS).data.toList = saidV 2 n i b o := by
  obtain ⟨_, _, _, _, _, h8, _⟩ := h
  unfold saidV
  rw [if_pos (by decide)]
  simp only [cat_list, h8]
  first | rfl | (rw [← List.append_nil (Lib.itoa o)]; rfl)
set_option maxRecDepth 100000 in
theorem sayEq3 {n i b o : Int} {S3 S4 S5 IS BS OS S9 : ByteArray} (h : SayV n i b o S3 S4 S5 IS BS OS S9) : ((⟨#[114, 101, 99, 111, 114, 100, 32]⟩ : ByteArray) ++ IS ++ (⟨#[32, 98, 114, 111, 107, 101, 110, 58, 32]⟩ : ByteArray) ++ OS ++ (⟨#[32, 108, 101, 116, 32, 103, 111]⟩ : ByteArray)).data.toList = saidV 3 n i b o := by
  obtain ⟨_, _, _, h6, _, h8, _⟩ := h
  unfold saidV
  rw [if_pos (by decide)]
  simp only [cat_list, h6, h8, List.append_assoc]
  first | rfl | (rw [← List.append_nil (Lib.itoa o)]; rfl)
set_option maxRecDepth 100000 in
theorem sayEq4 {n i b o : Int} {S3 S4 S5 IS BS OS S9 : ByteArray} (_h : SayV n i b o S3 S4 S5 IS BS OS S9) : ((⟨#[110, 111, 32, 114, 111, 111, 116]⟩ : ByteArray)).data.toList = saidV 4 n i b o := by
  unfold saidV
  rw [if_pos (by decide)]
  rfl
set_option maxRecDepth 100000 in
theorem sayEq5 {n i b o : Int} {S3 S4 S5 IS BS OS S9 : ByteArray} (h : SayV n i b o S3 S4 S5 IS BS OS S9) : (S3 ++ (⟨#[58, 32, 98, 114, 111, 107, 101, 110, 32, 115, 108, 111, 116]⟩ : ByteArray)).data.toList = saidV 5 n i b o := by
  obtain ⟨h3, _, _, _, _, _, _⟩ := h
  unfold saidV
  rw [if_pos (by decide)]
  simp only [cat_list, h3, List.append_assoc]
  rfl
set_option maxRecDepth 100000 in
theorem sayEq6 {n i b o : Int} {S3 S4 S5 IS BS OS S9 : ByteArray} (h : SayV n i b o S3 S4 S5 IS BS OS S9) : (S4 ++ (⟨#[44, 32, 100, 101, 112, 116, 104, 32]⟩ : ByteArray) ++ OS ++ (⟨#[58, 32, 112, 111, 105, 110, 116, 101, 114, 32]⟩ : ByteArray) ++ BS ++ (⟨#[32, 111, 117, 116, 32, 111, 102, 32, 114, 97, 110, 103, 101]⟩ : ByteArray)).data.toList = saidV 6 n i b o := by
  obtain ⟨_, h4, _, _, h7, h8, _⟩ := h
  unfold saidV
  rw [if_pos (by decide)]
  simp only [cat_list, h4, h7, h8, List.append_assoc]
  first | rfl | (rw [← List.append_nil (Lib.itoa o)]; rfl)
set_option maxRecDepth 100000 in
theorem sayEq7 {n i b o : Int} {S3 S4 S5 IS BS OS S9 : ByteArray} (h : SayV n i b o S3 S4 S5 IS BS OS S9) : (S4 ++ (⟨#[44, 32, 100, 101, 112, 116, 104, 32]⟩ : ByteArray) ++ OS ++ (⟨#[58, 32, 98, 108, 111, 99, 107, 32]⟩ : ByteArray) ++ BS ++ (⟨#[32, 105, 115, 32, 97, 110, 111, 116, 104, 101, 114, 39, 115]⟩ : ByteArray)).data.toList = saidV 7 n i b o := by
  obtain ⟨_, h4, _, _, h7, h8, _⟩ := h
  unfold saidV
  rw [if_pos (by decide)]
  simp only [cat_list, h4, h7, h8, List.append_assoc]
  first | rfl | (rw [← List.append_nil (Lib.itoa o)]; rfl)
set_option maxRecDepth 100000 in
theorem sayEq8 {n i b o : Int} {S3 S4 S5 IS BS OS S9 : ByteArray} (h : SayV n i b o S3 S4 S5 IS BS OS S9) : (S4 ++ (⟨#[58, 32, 98, 108, 111, 99, 107, 32]⟩ : ByteArray) ++ BS ++ (⟨#[32, 98, 101, 104, 105, 110, 100, 32, 116, 104, 101, 32, 115, 105, 122, 101]⟩ : ByteArray)).data.toList = saidV 8 n i b o := by
  obtain ⟨_, h4, _, _, h7, _, _⟩ := h
  unfold saidV
  rw [if_pos (by decide)]
  simp only [cat_list, h4, h7, List.append_assoc]
  rfl
set_option maxRecDepth 100000 in
theorem sayEq9 {n i b o : Int} {S3 S4 S5 IS BS OS S9 : ByteArray} (h : SayV n i b o S3 S4 S5 IS BS OS S9) : (S4 ++ (⟨#[58, 32, 98, 108, 111, 99, 107, 32]⟩ : ByteArray) ++ BS ++ (⟨#[32, 104, 97, 115, 32, 98, 121, 116, 101, 115, 32, 98, 101, 104, 105, 110, 100, 32, 116, 104, 101, 32, 115, 105, 122, 101]⟩ : ByteArray)).data.toList = saidV 9 n i b o := by
  obtain ⟨_, h4, _, _, h7, _, _⟩ := h
  unfold saidV
  rw [if_pos (by decide)]
  simp only [cat_list, h4, h7, List.append_assoc]
  rfl
set_option maxRecDepth 100000 in
theorem sayEq10 {n i b o : Int} {S3 S4 S5 IS BS OS S9 : ByteArray} (h : SayV n i b o S3 S4 S5 IS BS OS S9) : (S3 ++ (⟨#[58, 32]⟩ : ByteArray) ++ OS ++ (⟨#[32, 104, 111, 108, 101, 115, 32, 105, 110, 32, 97, 32, 100, 105, 114, 101, 99, 116, 111, 114, 121]⟩ : ByteArray)).data.toList = saidV 10 n i b o := by
  obtain ⟨h3, _, _, _, _, h8, _⟩ := h
  unfold saidV
  rw [if_pos (by decide)]
  simp only [cat_list, h3, h8, List.append_assoc]
  first | rfl | (rw [← List.append_nil (Lib.itoa o)]; rfl)
set_option maxRecDepth 100000 in
theorem sayEq11 {n i b o : Int} {S3 S4 S5 IS BS OS S9 : ByteArray} (h : SayV n i b o S3 S4 S5 IS BS OS S9) : (S5 ++ (⟨#[58, 32, 98, 114, 111, 107, 101, 110, 32, 101, 110, 116, 114, 121]⟩ : ByteArray)).data.toList = saidV 11 n i b o := by
  obtain ⟨_, _, h5, _, _, _, _⟩ := h
  unfold saidV
  rw [if_pos (by decide)]
  simp only [cat_list, h5, List.append_assoc]
  rfl
set_option maxRecDepth 100000 in
theorem sayEq12 {n i b o : Int} {S3 S4 S5 IS BS OS S9 : ByteArray} (h : SayV n i b o S3 S4 S5 IS BS OS S9) : (S5 ++ (⟨#[58, 32, 97, 32, 110, 97, 109, 101, 32, 116, 119, 105, 99, 101]⟩ : ByteArray)).data.toList = saidV 12 n i b o := by
  obtain ⟨_, _, h5, _, _, _, _⟩ := h
  unfold saidV
  rw [if_pos (by decide)]
  simp only [cat_list, h5, List.append_assoc]
  rfl
set_option maxRecDepth 100000 in
theorem sayEq13 {n i b o : Int} {S3 S4 S5 IS BS OS S9 : ByteArray} (h : SayV n i b o S3 S4 S5 IS BS OS S9) : (S5 ++ (⟨#[58, 32, 101, 110, 116, 114, 121, 32, 111, 102, 32, 110, 111, 100, 101, 32]⟩ : ByteArray) ++ OS).data.toList = saidV 13 n i b o := by
  obtain ⟨_, _, h5, _, _, h8, _⟩ := h
  unfold saidV
  rw [if_pos (by decide)]
  simp only [cat_list, h5, h8, List.append_assoc]
  first | rfl | (rw [← List.append_nil (Lib.itoa o)]; rfl)
set_option maxRecDepth 100000 in
theorem sayEq14 {n i b o : Int} {S3 S4 S5 IS BS OS S9 : ByteArray} (h : SayV n i b o S3 S4 S5 IS BS OS S9) : (S3 ++ (⟨#[58, 32, 110, 111, 32, 116, 101, 120, 116]⟩ : ByteArray)).data.toList = saidV 14 n i b o := by
  obtain ⟨h3, _, _, _, _, _, _⟩ := h
  unfold saidV
  rw [if_pos (by decide)]
  simp only [cat_list, h3, List.append_assoc]
  rfl
set_option maxRecDepth 100000 in
theorem sayEq15 {n i b o : Int} {S3 S4 S5 IS BS OS S9 : ByteArray} (h : SayV n i b o S3 S4 S5 IS BS OS S9) : (S5 ++ (⟨#[58, 32, 100, 105, 114, 101, 99, 116, 111, 114, 121, 32]⟩ : ByteArray) ++ OS ++ (⟨#[32, 111, 110, 99, 101, 32, 109, 111, 114, 101]⟩ : ByteArray)).data.toList = saidV 15 n i b o := by
  obtain ⟨_, _, h5, _, _, h8, _⟩ := h
  unfold saidV
  rw [if_pos (by decide)]
  simp only [cat_list, h5, h8, List.append_assoc]
  first | rfl | (rw [← List.append_nil (Lib.itoa o)]; rfl)
set_option maxRecDepth 100000 in
theorem sayEq16 {n i b o : Int} {S3 S4 S5 IS BS OS S9 : ByteArray} (h : SayV n i b o S3 S4 S5 IS BS OS S9) : (S5 ++ (⟨#[58, 32, 116, 104, 101, 32, 112, 97, 116, 104, 32, 111, 102, 32, 110, 111, 100, 101, 32]⟩ : ByteArray) ++ OS ++ (⟨#[32, 105, 115, 32, 116, 111, 111, 32, 108, 111, 110, 103]⟩ : ByteArray)).data.toList = saidV 16 n i b o := by
  obtain ⟨_, _, h5, _, _, h8, _⟩ := h
  unfold saidV
  rw [if_pos (by decide)]
  simp only [cat_list, h5, h8, List.append_assoc]
  first | rfl | (rw [← List.append_nil (Lib.itoa o)]; rfl)
set_option maxRecDepth 100000 in
theorem sayEq17 {n i b o : Int} {S3 S4 S5 IS BS OS S9 : ByteArray} (h : SayV n i b o S3 S4 S5 IS BS OS S9) : (S3 ++ (⟨#[58, 32, 108, 111, 111, 115, 101]⟩ : ByteArray)).data.toList = saidV 17 n i b o := by
  obtain ⟨h3, _, _, _, _, _, _⟩ := h
  unfold saidV
  rw [if_pos (by decide)]
  simp only [cat_list, h3, List.append_assoc]
  rfl
set_option maxRecDepth 100000 in
theorem sayEq18 {n i b o : Int} {S3 S4 S5 IS BS OS S9 : ByteArray} (h : SayV n i b o S3 S4 S5 IS BS OS S9) : (OS ++ (⟨#[32, 105, 116, 101, 109, 115, 32, 116, 111, 111, 32, 109, 97, 110, 121]⟩ : ByteArray)).data.toList = saidV 18 n i b o := by
  obtain ⟨_, _, _, _, _, h8, _⟩ := h
  unfold saidV
  rw [if_pos (by decide)]
  simp only [cat_list, h8]
  first | rfl | (rw [← List.append_nil (Lib.itoa o)]; rfl)
set_option maxRecDepth 100000 in
theorem rsayEq1 {n i b o : Int} {S3 S4 S5 IS BS OS S9 : ByteArray} (_h : SayV n i b o S3 S4 S5 IS BS OS S9) : ((⟨#[110, 111, 32, 115, 117, 112, 101, 114, 98, 108, 111, 99, 107]⟩ : ByteArray)).data.toList = saidV 1 n i b o := by
  unfold saidV
  rw [if_pos (by decide)]
  rfl
set_option maxRecDepth 100000 in
theorem rsayEq2 {n i b o : Int} {S3 S4 S5 IS BS OS S9 : ByteArray} (h : SayV n i b o S3 S4 S5 IS BS OS S9) : ((⟨#[110, 111, 32, 108, 111, 103, 58, 32, 101, 114, 114, 111, 114, 32]⟩ : ByteArray) ++ OS).data.toList = saidV 2 n i b o := by
  obtain ⟨_, _, _, _, _, h8, _⟩ := h
  unfold saidV
  rw [if_pos (by decide)]
  simp only [cat_list, h8]
  first | rfl | (rw [← List.append_nil (Lib.itoa o)]; rfl)
set_option maxRecDepth 100000 in
theorem rsayEq3 {n i b o : Int} {S3 S4 S5 IS BS OS S9 : ByteArray} (h : SayV n i b o S3 S4 S5 IS BS OS S9) : ((⟨#[114, 101, 99, 111, 114, 100, 32]⟩ : ByteArray) ++ IS ++ (⟨#[32, 98, 114, 111, 107, 101, 110, 58, 32]⟩ : ByteArray) ++ OS ++ (⟨#[32, 108, 101, 116, 32, 103, 111]⟩ : ByteArray)).data.toList = saidV 3 n i b o := by
  obtain ⟨_, _, _, h6, _, h8, _⟩ := h
  unfold saidV
  rw [if_pos (by decide)]
  simp only [cat_list, h6, h8, List.append_assoc]
  first | rfl | (rw [← List.append_nil (Lib.itoa o)]; rfl)
set_option maxRecDepth 100000 in
theorem rsayEq4 {n i b o : Int} {S3 S4 S5 IS BS OS S9 : ByteArray} (_h : SayV n i b o S3 S4 S5 IS BS OS S9) : ((⟨#[110, 111, 32, 114, 111, 111, 116]⟩ : ByteArray)).data.toList = saidV 4 n i b o := by
  unfold saidV
  rw [if_pos (by decide)]
  rfl
set_option maxRecDepth 100000 in
theorem rsayEq5 {n i b o : Int} {S3 S4 S5 IS BS OS S9 : ByteArray} (h : SayV n i b o S3 S4 S5 IS BS OS S9) : (S9 ++ (⟨#[98, 114, 111, 107, 101, 110, 32, 115, 108, 111, 116]⟩ : ByteArray)).data.toList = saidV 5 n i b o := by
  obtain ⟨_, _, _, _, _, _, h9⟩ := h
  unfold saidV
  rw [if_pos (by decide)]
  simp only [cat_list, h9, List.append_assoc]
  rfl
set_option maxRecDepth 100000 in
theorem rsayEq6 {n i b o : Int} {S3 S4 S5 IS BS OS S9 : ByteArray} (h : SayV n i b o S3 S4 S5 IS BS OS S9) : (S9 ++ (⟨#[105, 110, 100, 101, 120, 32]⟩ : ByteArray) ++ IS ++ (⟨#[44, 32, 100, 101, 112, 116, 104, 32]⟩ : ByteArray) ++ OS ++ (⟨#[58, 32, 112, 111, 105, 110, 116, 101, 114, 32]⟩ : ByteArray) ++ BS ++ (⟨#[32, 111, 117, 116, 32, 111, 102, 32, 114, 97, 110, 103, 101]⟩ : ByteArray)).data.toList = saidV 6 n i b o := by
  obtain ⟨_, _, _, h6, h7, h8, h9⟩ := h
  unfold saidV
  rw [if_pos (by decide)]
  simp only [cat_list, h6, h7, h8, h9, List.append_assoc]
  first | rfl | (rw [← List.append_nil (Lib.itoa o)]; rfl)
set_option maxRecDepth 100000 in
theorem rsayEq7 {n i b o : Int} {S3 S4 S5 IS BS OS S9 : ByteArray} (h : SayV n i b o S3 S4 S5 IS BS OS S9) : (S9 ++ (⟨#[105, 110, 100, 101, 120, 32]⟩ : ByteArray) ++ IS ++ (⟨#[44, 32, 100, 101, 112, 116, 104, 32]⟩ : ByteArray) ++ OS ++ (⟨#[58, 32, 98, 108, 111, 99, 107, 32]⟩ : ByteArray) ++ BS ++ (⟨#[32, 105, 115, 32, 97, 110, 111, 116, 104, 101, 114, 39, 115]⟩ : ByteArray)).data.toList = saidV 7 n i b o := by
  obtain ⟨_, _, _, h6, h7, h8, h9⟩ := h
  unfold saidV
  rw [if_pos (by decide)]
  simp only [cat_list, h6, h7, h8, h9, List.append_assoc]
  first | rfl | (rw [← List.append_nil (Lib.itoa o)]; rfl)
set_option maxRecDepth 100000 in
theorem rsayEq8 {n i b o : Int} {S3 S4 S5 IS BS OS S9 : ByteArray} (h : SayV n i b o S3 S4 S5 IS BS OS S9) : (S9 ++ (⟨#[105, 110, 100, 101, 120, 32]⟩ : ByteArray) ++ IS ++ (⟨#[58, 32, 98, 108, 111, 99, 107, 32]⟩ : ByteArray) ++ BS ++ (⟨#[32, 98, 101, 104, 105, 110, 100, 32, 116, 104, 101, 32, 115, 105, 122, 101]⟩ : ByteArray)).data.toList = saidV 8 n i b o := by
  obtain ⟨_, _, _, h6, h7, _, h9⟩ := h
  unfold saidV
  rw [if_pos (by decide)]
  simp only [cat_list, h6, h7, h9, List.append_assoc]
  rfl
set_option maxRecDepth 100000 in
theorem rsayEq9 {n i b o : Int} {S3 S4 S5 IS BS OS S9 : ByteArray} (h : SayV n i b o S3 S4 S5 IS BS OS S9) : (S9 ++ (⟨#[105, 110, 100, 101, 120, 32]⟩ : ByteArray) ++ IS ++ (⟨#[58, 32, 98, 108, 111, 99, 107, 32]⟩ : ByteArray) ++ BS ++ (⟨#[32, 104, 97, 115, 32, 98, 121, 116, 101, 115, 32, 98, 101, 104, 105, 110, 100, 32, 116, 104, 101, 32, 115, 105, 122, 101]⟩ : ByteArray)).data.toList = saidV 9 n i b o := by
  obtain ⟨_, _, _, h6, h7, _, h9⟩ := h
  unfold saidV
  rw [if_pos (by decide)]
  simp only [cat_list, h6, h7, h9, List.append_assoc]
  rfl
set_option maxRecDepth 100000 in
theorem rsayEq10 {n i b o : Int} {S3 S4 S5 IS BS OS S9 : ByteArray} (h : SayV n i b o S3 S4 S5 IS BS OS S9) : (S9 ++ OS ++ (⟨#[32, 104, 111, 108, 101, 115, 32, 105, 110, 32, 97, 32, 100, 105, 114, 101, 99, 116, 111, 114, 121]⟩ : ByteArray)).data.toList = saidV 10 n i b o := by
  obtain ⟨_, _, _, _, _, h8, h9⟩ := h
  unfold saidV
  rw [if_pos (by decide)]
  simp only [cat_list, h8, h9, List.append_assoc]
  first | rfl | (rw [← List.append_nil (Lib.itoa o)]; rfl)
set_option maxRecDepth 100000 in
theorem rsayEq11 {n i b o : Int} {S3 S4 S5 IS BS OS S9 : ByteArray} (h : SayV n i b o S3 S4 S5 IS BS OS S9) : (S9 ++ (⟨#[115, 108, 111, 116, 32]⟩ : ByteArray) ++ IS ++ (⟨#[58, 32, 98, 114, 111, 107, 101, 110, 32, 101, 110, 116, 114, 121]⟩ : ByteArray)).data.toList = saidV 11 n i b o := by
  obtain ⟨_, _, _, h6, _, _, h9⟩ := h
  unfold saidV
  rw [if_pos (by decide)]
  simp only [cat_list, h6, h9, List.append_assoc]
  rfl
set_option maxRecDepth 100000 in
theorem rsayEq12 {n i b o : Int} {S3 S4 S5 IS BS OS S9 : ByteArray} (h : SayV n i b o S3 S4 S5 IS BS OS S9) : (S9 ++ (⟨#[115, 108, 111, 116, 32]⟩ : ByteArray) ++ IS ++ (⟨#[58, 32, 97, 32, 110, 97, 109, 101, 32, 116, 119, 105, 99, 101]⟩ : ByteArray)).data.toList = saidV 12 n i b o := by
  obtain ⟨_, _, _, h6, _, _, h9⟩ := h
  unfold saidV
  rw [if_pos (by decide)]
  simp only [cat_list, h6, h9, List.append_assoc]
  rfl
set_option maxRecDepth 100000 in
theorem rsayEq13 {n i b o : Int} {S3 S4 S5 IS BS OS S9 : ByteArray} (h : SayV n i b o S3 S4 S5 IS BS OS S9) : (S9 ++ (⟨#[115, 108, 111, 116, 32]⟩ : ByteArray) ++ IS ++ (⟨#[58, 32, 101, 110, 116, 114, 121, 32, 111, 102, 32, 110, 111, 100, 101, 32]⟩ : ByteArray) ++ OS).data.toList = saidV 13 n i b o := by
  obtain ⟨_, _, _, h6, _, h8, h9⟩ := h
  unfold saidV
  rw [if_pos (by decide)]
  simp only [cat_list, h6, h8, h9, List.append_assoc]
  first | rfl | (rw [← List.append_nil (Lib.itoa o)]; rfl)
set_option maxRecDepth 100000 in
theorem rsayEq14 {n i b o : Int} {S3 S4 S5 IS BS OS S9 : ByteArray} (h : SayV n i b o S3 S4 S5 IS BS OS S9) : (S9 ++ (⟨#[110, 111, 32, 116, 101, 120, 116]⟩ : ByteArray)).data.toList = saidV 14 n i b o := by
  obtain ⟨_, _, _, _, _, _, h9⟩ := h
  unfold saidV
  rw [if_pos (by decide)]
  simp only [cat_list, h9, List.append_assoc]
  rfl
set_option maxRecDepth 100000 in
theorem rsayEq15 {n i b o : Int} {S3 S4 S5 IS BS OS S9 : ByteArray} (h : SayV n i b o S3 S4 S5 IS BS OS S9) : (S9 ++ (⟨#[115, 108, 111, 116, 32]⟩ : ByteArray) ++ IS ++ (⟨#[58, 32, 100, 105, 114, 101, 99, 116, 111, 114, 121, 32]⟩ : ByteArray) ++ OS ++ (⟨#[32, 111, 110, 99, 101, 32, 109, 111, 114, 101]⟩ : ByteArray)).data.toList = saidV 15 n i b o := by
  obtain ⟨_, _, _, h6, _, h8, h9⟩ := h
  unfold saidV
  rw [if_pos (by decide)]
  simp only [cat_list, h6, h8, h9, List.append_assoc]
  first | rfl | (rw [← List.append_nil (Lib.itoa o)]; rfl)
set_option maxRecDepth 100000 in
theorem rsayEq16 {n i b o : Int} {S3 S4 S5 IS BS OS S9 : ByteArray} (h : SayV n i b o S3 S4 S5 IS BS OS S9) : (S9 ++ (⟨#[115, 108, 111, 116, 32]⟩ : ByteArray) ++ IS ++ (⟨#[58, 32, 116, 104, 101, 32, 112, 97, 116, 104, 32, 111, 102, 32, 110, 111, 100, 101, 32]⟩ : ByteArray) ++ OS ++ (⟨#[32, 105, 115, 32, 116, 111, 111, 32, 108, 111, 110, 103]⟩ : ByteArray)).data.toList = saidV 16 n i b o := by
  obtain ⟨_, _, _, h6, _, h8, h9⟩ := h
  unfold saidV
  rw [if_pos (by decide)]
  simp only [cat_list, h6, h8, h9, List.append_assoc]
  first | rfl | (rw [← List.append_nil (Lib.itoa o)]; rfl)
set_option maxRecDepth 100000 in
theorem rsayEq17 {n i b o : Int} {S3 S4 S5 IS BS OS S9 : ByteArray} (h : SayV n i b o S3 S4 S5 IS BS OS S9) : (S9 ++ (⟨#[108, 111, 111, 115, 101]⟩ : ByteArray)).data.toList = saidV 17 n i b o := by
  obtain ⟨_, _, _, _, _, _, h9⟩ := h
  unfold saidV
  rw [if_pos (by decide)]
  simp only [cat_list, h9, List.append_assoc]
  rfl
set_option maxRecDepth 100000 in
theorem rsayEq18 {n i b o : Int} {S3 S4 S5 IS BS OS S9 : ByteArray} (h : SayV n i b o S3 S4 S5 IS BS OS S9) : (OS ++ (⟨#[32, 105, 116, 101, 109, 115, 32, 116, 111, 111, 32, 109, 97, 110, 121]⟩ : ByteArray)).data.toList = saidV 18 n i b o := by
  obtain ⟨_, _, _, _, _, h8, _⟩ := h
  unfold saidV
  rw [if_pos (by decide)]
  simp only [cat_list, h8]
  first | rfl | (rw [← List.append_nil (Lib.itoa o)]; rfl)
end Go.Proofs.YtkcakpcmpbjhlaaDoor
