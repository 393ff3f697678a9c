import Derived.Test.YtomphdpjhgcnaaaDoorCS2
import Derived.Test.YtomphdpjhgcnaaaDoorLays
import Derived.Shelf.Strconv.Itoa3
import Derived.Lib.AppendIntMem
namespace Go.Proofs.YtomphdpjhgcnaaaDoor
open Go.RowKit Go.Maps

/-- The library's table of powers of ten. -/
def PT (w : World) : Prop := Lib.TabIs Tryd.prog w "internal/strconv.uint64pow10" .u64 Lib.pow10Tab
theorem PT.later {w w' : World} (h : PT w) (hb : Below w.heap.size w w') : PT w' := Lib.tabBelow_of_tabIs h w' hb
theorem itoa_any (m : Int) (hm : I64 m) (w : World) (h : PT w) :
    Calls Tryd.prog 6 #[.int .i64 m] w fun e w' => e = .returned (.string ⟨(Lib.itoa m).toArray⟩) ∧ Below w.heap.size w w' := by
  refine (Any.strconv_Itoa (P := Tryd.prog) (ρ := Tryd.laysM171_ren) Tryd.laysM171 m hm.1 hm.2 w h).mono ?_
  rintro e w' ⟨rfl, k, os, rfl⟩
  exact ⟨rfl, Lib.below_grow _ _ (Nat.le_refl _) _ _⟩
/-- The texts that the program puts together. -/
def SayS (n i b o : Int) (S3 S4 S5 S6 OS BS : ByteArray) : Prop :=
  S3.data.toList = [110, 111, 100, 101, 32] ++ Lib.itoa n ∧ S4.data.toList = [110, 111, 100, 101, 32] ++ (Lib.itoa n ++ ([58, 32, 105, 110, 100, 101, 120, 32] ++ Lib.itoa i)) ∧
  S5.data.toList = [110, 111, 100, 101, 32] ++ (Lib.itoa n ++ ([58, 32, 115, 108, 111, 116, 32] ++ Lib.itoa i)) ∧ S6.data.toList = [98, 108, 111, 99, 107, 32] ++ Lib.itoa b ∧ OS.data.toList = Lib.itoa o ∧ BS.data.toList = Lib.itoa b
theorem ret_str {X : ByteArray} {l : List UInt8} (h : X.data.toList = l) : Ending.returned (.string X) = .returned (.string ⟨l.toArray⟩) := by
  subst h
  rfl
set_option maxRecDepth 100000 in
theorem sayEq1 {n i b o : Int} {S3 S4 S5 S6 OS BS : ByteArray} (h : SayS n i b o S3 S4 S5 S6 OS BS) : (S3 ++ (⟨#[58, 32, 98, 114, 111, 107, 101, 110, 32, 115, 108, 111, 116]⟩ : ByteArray)).data.toList = saidL 1 n i b o := by
  obtain ⟨h3, _, _, _, _, _⟩ := h
  unfold saidL
  rw [if_pos (by decide)]
  simp only [cat_list, h3, List.append_assoc]
  rfl
set_option maxRecDepth 100000 in
theorem sayEq2 {n i b o : Int} {S3 S4 S5 S6 OS BS : ByteArray} (_h : SayS n i b o S3 S4 S5 S6 OS BS) : ((⟨#[110, 111, 100, 101, 32, 49, 32, 105, 115, 32, 110, 111, 32, 114, 111, 111, 116]⟩ : ByteArray)).data.toList = saidL 2 n i b o := by
  unfold saidL
  rw [if_pos (by decide)]
  rfl
set_option maxRecDepth 100000 in
theorem sayEq3 {n i b o : Int} {S3 S4 S5 S6 OS BS : ByteArray} (h : SayS n i b o S3 S4 S5 S6 OS BS) : (S3 ++ (⟨#[58, 32, 115, 105, 122, 101, 32]⟩ : ByteArray) ++ OS ++ (⟨#[32, 109, 97, 121, 32, 110, 111, 116, 32, 98, 101]⟩ : ByteArray)).data.toList = saidL 3 n i b o := by
  obtain ⟨h3, _, _, _, h7, _⟩ := h
  unfold saidL
  rw [if_pos (by decide)]
  simp only [cat_list, h3, h7, List.append_assoc]
  first | rfl | (rw [← List.append_nil (Lib.itoa o)]; rfl)
set_option maxRecDepth 100000 in
theorem sayEq4 {n i b o : Int} {S3 S4 S5 S6 OS BS : ByteArray} (h : SayS n i b o S3 S4 S5 S6 OS BS) : (S4 ++ (⟨#[44, 32, 100, 101, 112, 116, 104, 32]⟩ : ByteArray) ++ OS ++ (⟨#[58, 32, 112, 111, 105, 110, 116, 101, 114, 32]⟩ : ByteArray) ++ BS ++ (⟨#[32, 111, 117, 116, 32, 111, 102, 32, 114, 97, 110, 103, 101]⟩ : ByteArray)).data.toList = saidL 4 n i b o := by
  obtain ⟨_, h4, _, _, h7, h8⟩ := h
  unfold saidL
  rw [if_pos (by decide)]
  simp only [cat_list, h4, h7, h8, List.append_assoc]
  first | rfl | (rw [← List.append_nil (Lib.itoa o)]; rfl)
set_option maxRecDepth 100000 in
theorem sayEq5 {n i b o : Int} {S3 S4 S5 S6 OS BS : ByteArray} (h : SayS n i b o S3 S4 S5 S6 OS BS) : (S4 ++ (⟨#[44, 32, 100, 101, 112, 116, 104, 32]⟩ : ByteArray) ++ OS ++ (⟨#[58, 32]⟩ : ByteArray) ++ S6 ++ (⟨#[32, 105, 115, 32, 111, 119, 110, 101, 100, 32, 97, 108, 114, 101, 97, 100, 121]⟩ : ByteArray)).data.toList = saidL 5 n i b o := by
  obtain ⟨_, h4, _, h6, h7, _⟩ := h
  unfold saidL
  rw [if_pos (by decide)]
  simp only [cat_list, h4, h6, h7, List.append_assoc]
  first | rfl | (rw [← List.append_nil (Lib.itoa o)]; rfl)
set_option maxRecDepth 100000 in
theorem sayEq6 {n i b o : Int} {S3 S4 S5 S6 OS BS : ByteArray} (h : SayS n i b o S3 S4 S5 S6 OS BS) : (S4 ++ (⟨#[58, 32]⟩ : ByteArray) ++ S6 ++ (⟨#[32, 98, 101, 104, 105, 110, 100, 32, 116, 104, 101, 32, 115, 105, 122, 101]⟩ : ByteArray)).data.toList = saidL 6 n i b o := by
  obtain ⟨_, h4, _, h6, _, _⟩ := h
  unfold saidL
  rw [if_pos (by decide)]
  simp only [cat_list, h4, h6, List.append_assoc]
  rfl
set_option maxRecDepth 100000 in
theorem sayEq7 {n i b o : Int} {S3 S4 S5 S6 OS BS : ByteArray} (h : SayS n i b o S3 S4 S5 S6 OS BS) : (S4 ++ (⟨#[44, 32, 100, 101, 112, 116, 104, 32]⟩ : ByteArray) ++ OS ++ (⟨#[58, 32]⟩ : ByteArray) ++ S6 ++ (⟨#[32, 104, 97, 115, 32, 110, 111, 32, 112, 111, 105, 110, 116, 101, 114]⟩ : ByteArray)).data.toList = saidL 7 n i b o := by
  obtain ⟨_, h4, _, h6, h7, _⟩ := h
  unfold saidL
  rw [if_pos (by decide)]
  simp only [cat_list, h4, h6, h7, List.append_assoc]
  first | rfl | (rw [← List.append_nil (Lib.itoa o)]; rfl)
set_option maxRecDepth 100000 in
theorem sayEq8 {n i b o : Int} {S3 S4 S5 S6 OS BS : ByteArray} (h : SayS n i b o S3 S4 S5 S6 OS BS) : (S3 ++ (⟨#[58, 32, 111, 119, 110, 115, 32]⟩ : ByteArray) ++ OS).data.toList = saidL 8 n i b o := by
  obtain ⟨h3, _, _, _, h7, _⟩ := h
  unfold saidL
  rw [if_pos (by decide)]
  simp only [cat_list, h3, h7, List.append_assoc]
  first | rfl | (rw [← List.append_nil (Lib.itoa o)]; rfl)
set_option maxRecDepth 100000 in
theorem sayEq9 {n i b o : Int} {S3 S4 S5 S6 OS BS : ByteArray} (h : SayS n i b o S3 S4 S5 S6 OS BS) : (S4 ++ (⟨#[58, 32]⟩ : ByteArray) ++ S6 ++ (⟨#[32, 104, 97, 115, 32, 98, 121, 116, 101, 115, 32, 98, 101, 104, 105, 110, 100, 32, 116, 104, 101, 32, 115, 105, 122, 101]⟩ : ByteArray)).data.toList = saidL 9 n i b o := by
  obtain ⟨_, h4, _, h6, _, _⟩ := h
  unfold saidL
  rw [if_pos (by decide)]
  simp only [cat_list, h4, h6, List.append_assoc]
  rfl
set_option maxRecDepth 100000 in
theorem sayEq10 {n i b o : Int} {S3 S4 S5 S6 OS BS : ByteArray} (h : SayS n i b o S3 S4 S5 S6 OS BS) : (S6 ++ (⟨#[58, 32, 98, 105, 116, 32]⟩ : ByteArray) ++ OS).data.toList = saidL 10 n i b o := by
  obtain ⟨_, _, _, h6, h7, _⟩ := h
  unfold saidL
  rw [if_pos (by decide)]
  simp only [cat_list, h6, h7, List.append_assoc]
  first | rfl | (rw [← List.append_nil (Lib.itoa o)]; rfl)
set_option maxRecDepth 100000 in
theorem sayEq11 {n i b o : Int} {S3 S4 S5 S6 OS BS : ByteArray} (h : SayS n i b o S3 S4 S5 S6 OS BS) : (S3 ++ (⟨#[58, 32, 98, 105, 116, 32]⟩ : ByteArray) ++ OS).data.toList = saidL 11 n i b o := by
  obtain ⟨h3, _, _, _, h7, _⟩ := h
  unfold saidL
  rw [if_pos (by decide)]
  simp only [cat_list, h3, h7, List.append_assoc]
  first | rfl | (rw [← List.append_nil (Lib.itoa o)]; rfl)
set_option maxRecDepth 100000 in
theorem sayEq12 {n i b o : Int} {S3 S4 S5 S6 OS BS : ByteArray} (h : SayS n i b o S3 S4 S5 S6 OS BS) : (S5 ++ (⟨#[58, 32, 98, 114, 111, 107, 101, 110, 32, 101, 110, 116, 114, 121]⟩ : ByteArray)).data.toList = saidL 12 n i b o := by
  obtain ⟨_, _, h5, _, _, _⟩ := h
  unfold saidL
  rw [if_pos (by decide)]
  simp only [cat_list, h5, List.append_assoc]
  rfl
set_option maxRecDepth 100000 in
theorem sayEq13 {n i b o : Int} {S3 S4 S5 S6 OS BS : ByteArray} (h : SayS n i b o S3 S4 S5 S6 OS BS) : (S5 ++ (⟨#[58, 32, 97, 32, 110, 97, 109, 101, 32, 116, 119, 105, 99, 101]⟩ : ByteArray)).data.toList = saidL 13 n i b o := by
  obtain ⟨_, _, h5, _, _, _⟩ := h
  unfold saidL
  rw [if_pos (by decide)]
  simp only [cat_list, h5, List.append_assoc]
  rfl
set_option maxRecDepth 100000 in
theorem sayEq14 {n i b o : Int} {S3 S4 S5 S6 OS BS : ByteArray} (h : SayS n i b o S3 S4 S5 S6 OS BS) : (S5 ++ (⟨#[58, 32, 101, 110, 116, 114, 121, 32, 111, 102, 32, 110, 111, 100, 101, 32]⟩ : ByteArray) ++ OS).data.toList = saidL 14 n i b o := by
  obtain ⟨_, _, h5, _, h7, _⟩ := h
  unfold saidL
  rw [if_pos (by decide)]
  simp only [cat_list, h5, h7, List.append_assoc]
  first | rfl | (rw [← List.append_nil (Lib.itoa o)]; rfl)
set_option maxRecDepth 100000 in
theorem sayEq15 {n i b o : Int} {S3 S4 S5 S6 OS BS : ByteArray} (h : SayS n i b o S3 S4 S5 S6 OS BS) : (S4 ++ (⟨#[58, 32, 104, 111, 108, 101, 32, 105, 110, 32, 97, 32, 100, 105, 114, 101, 99, 116, 111, 114, 121]⟩ : ByteArray)).data.toList = saidL 15 n i b o := by
  obtain ⟨_, h4, _, _, _, _⟩ := h
  unfold saidL
  rw [if_pos (by decide)]
  simp only [cat_list, h4, List.append_assoc]
  rfl
set_option maxRecDepth 100000 in
theorem sayEq16 {n i b o : Int} {S3 S4 S5 S6 OS BS : ByteArray} (h : SayS n i b o S3 S4 S5 S6 OS BS) : (S3 ++ (⟨#[58, 32, 108, 97, 115, 116, 32, 98, 108, 111, 99, 107, 32, 119, 105, 116, 104, 111, 117, 116, 32, 97, 110, 32, 101, 110, 116, 114, 121]⟩ : ByteArray)).data.toList = saidL 16 n i b o := by
  obtain ⟨h3, _, _, _, _, _⟩ := h
  unfold saidL
  rw [if_pos (by decide)]
  simp only [cat_list, h3, List.append_assoc]
  rfl
set_option maxRecDepth 100000 in
theorem sayEq17 {n i b o : Int} {S3 S4 S5 S6 OS BS : ByteArray} (h : SayS n i b o S3 S4 S5 S6 OS BS) : (S3 ++ (⟨#[58, 32, 108, 105, 110, 107, 115, 32, 115, 104, 111, 117, 108, 100, 32, 98, 101, 32]⟩ : ByteArray) ++ OS).data.toList = saidL 17 n i b o := by
  obtain ⟨h3, _, _, _, h7, _⟩ := h
  unfold saidL
  rw [if_pos (by decide)]
  simp only [cat_list, h3, h7, List.append_assoc]
  first | rfl | (rw [← List.append_nil (Lib.itoa o)]; rfl)
set_option maxRecDepth 100000 in
theorem sayEq18 {n i b o : Int} {S3 S4 S5 S6 OS BS : ByteArray} (h : SayS n i b o S3 S4 S5 S6 OS BS) : (S3 ++ (⟨#[58, 32, 104, 97, 110, 103, 115, 32, 119, 114, 111, 110, 103, 32]⟩ : ByteArray) ++ OS).data.toList = saidL 18 n i b o := by
  obtain ⟨h3, _, _, _, h7, _⟩ := h
  unfold saidL
  rw [if_pos (by decide)]
  simp only [cat_list, h3, h7, List.append_assoc]
  first | rfl | (rw [← List.append_nil (Lib.itoa o)]; rfl)
set_option maxRecDepth 100000 in
theorem sayEq19 {n i b o : Int} {S3 S4 S5 S6 OS BS : ByteArray} (h : SayS n i b o S3 S4 S5 S6 OS BS) : (S3 ++ (⟨#[58, 32, 119, 105, 116, 104, 111, 117, 116, 32, 97, 32, 110, 97, 109, 101]⟩ : ByteArray)).data.toList = saidL 19 n i b o := by
  obtain ⟨h3, _, _, _, _, _⟩ := h
  unfold saidL
  rw [if_pos (by decide)]
  simp only [cat_list, h3, List.append_assoc]
  rfl
set_option maxRecDepth 100000 in
theorem sayEq20 {n i b o : Int} {S3 S4 S5 S6 OS BS : ByteArray} (h : SayS n i b o S3 S4 S5 S6 OS BS) : (S3 ++ (⟨#[58, 32, 110, 111, 116, 32, 98, 101, 108, 111, 119, 32, 116, 104, 101, 32, 114, 111, 111, 116]⟩ : ByteArray)).data.toList = saidL 20 n i b o := by
  obtain ⟨h3, _, _, _, _, _⟩ := h
  unfold saidL
  rw [if_pos (by decide)]
  simp only [cat_list, h3, List.append_assoc]
  rfl
set_option maxRecDepth 100000 in
theorem sayEq21 {n i b o : Int} {S3 S4 S5 S6 OS BS : ByteArray} (h : SayS n i b o S3 S4 S5 S6 OS BS) : (S3 ++ (⟨#[58, 32, 116, 101, 120, 116, 32, 119, 105, 116, 104, 32, 97, 32, 122, 101, 114, 111]⟩ : ByteArray)).data.toList = saidL 21 n i b o := by
  obtain ⟨h3, _, _, _, _, _⟩ := h
  unfold saidL
  rw [if_pos (by decide)]
  simp only [cat_list, h3, List.append_assoc]
  rfl
set_option maxRecDepth 20000 in
set_option maxHeartbeats 16000000 in
theorem say_any (k n i b o : Int) (h1 : I64 n) (h2 : I64 i) (h3 : I64 b) (h4 : I64 o) (w : World) (hP : PT w) :
    Calls Tryd.prog 4 #[.agg #[.int .i64 k, .int .i64 n, .int .i64 i, .int .i64 b, .int .i64 o]] w fun e w' => e = .returned (.string ⟨(saidL k n i b o).toArray⟩) ∧ Below w.heap.size w w' := by
  have hB0 := below_box w (.cells #[.int .i64 k, .int .i64 n, .int .i64 i, .int .i64 b, .int .i64 o] 25)
  obtain ⟨W1, hW1⟩ : ∃ W1, W1 = w.alloc (.cells #[.int .i64 k, .int .i64 n, .int .i64 i, .int .i64 b, .int .i64 o] 25) := ⟨_, rfl⟩
  have hsz1 : W1.heap.size = w.heap.size + 1 := by rw [hW1]; simp
  rw [← hW1] at hB0
  have hP1 : PT W1 := hP.later hB0
  have hitA : ∀ m, I64 m → ∀ w', Below (w.heap.size + 1) W1 w' → Calls Tryd.prog 6 #[.int .i64 m] w' fun e w'' => e = .returned (.string ⟨(Lib.itoa m).toArray⟩) ∧ Below (w.heap.size + 1) W1 w'' := fun m hm w' hb => by
    have hz : w.heap.size + 1 ≤ w'.heap.size := by rw [← hsz1]; exact hb.size
    refine (itoa_any m hm w' (hP1.later (by rw [hsz1]; exact hb))).mono ?_
    rintro e w'' ⟨rfl, hb2⟩
    exact ⟨rfl, hb.trans (hb2.mono hz)⟩
  have hcA : ∀ w', Below (w.heap.size + 1) W1 w' → w'.cell? ⟨w.heap.size, 0, none⟩ = some (.int .i64 k) ∧ w'.cell? ⟨w.heap.size, 1, none⟩ = some (.int .i64 n) ∧ w'.cell? ⟨w.heap.size, 2, none⟩ = some (.int .i64 i) ∧ w'.cell? ⟨w.heap.size, 3, none⟩ = some (.int .i64 b) ∧ w'.cell? ⟨w.heap.size, 4, none⟩ = some (.int .i64 o) := fun w' hb => by
    rw [hW1] at hb
    exact ⟨boxed_cell rfl hb rfl, boxed_cell rfl hb rfl, boxed_cell rfl hb rfl, boxed_cell rfl hb rfl, boxed_cell rfl hb rfl⟩
  have HC := Hid.mk hcA
  have hfinA : ∀ w', Below (w.heap.size + 1) W1 w' → Below w.heap.size w w' := fun w' hb => hB0.trans (hb.mono (Nat.le_succ _))
  have fin := hfinA
  obtain ⟨NS, hNS⟩ : ∃ NS : ByteArray, NS = ⟨(Lib.itoa n).toArray⟩ := ⟨_, rfl⟩
  obtain ⟨IS, hIS⟩ : ∃ NS : ByteArray, NS = ⟨(Lib.itoa i).toArray⟩ := ⟨_, rfl⟩
  obtain ⟨BS, hBS⟩ : ∃ NS : ByteArray, NS = ⟨(Lib.itoa b).toArray⟩ := ⟨_, rfl⟩
  obtain ⟨OS, hOS⟩ : ∃ NS : ByteArray, NS = ⟨(Lib.itoa o).toArray⟩ := ⟨_, rfl⟩
  have hitN := hitA n h1
  have hitI := hitA i h2
  have hitB := hitA b h3
  have hitO := hitA o h4
  rw [← hNS] at hitN
  rw [← hIS] at hitI
  rw [← hBS] at hitB
  rw [← hOS] at hitO
  have l1 : NS.data.toList = Lib.itoa n := by rw [hNS]
  have l2 : IS.data.toList = Lib.itoa i := by rw [hIS]
  have l3 : BS.data.toList = Lib.itoa b := by rw [hBS]
  have l4 : OS.data.toList = Lib.itoa o := by rw [hOS]
  have z1 : NS.size ≤ 21 := by rw [← len_size, l1]; exact Lib.itoa_length_le n h1.1 h1.2
  have z2 : IS.size ≤ 21 := by rw [← len_size, l2]; exact Lib.itoa_length_le i h2.1 h2.2
  have h8s : BS.size ≤ 21 := by rw [← len_size, l3]; exact Lib.itoa_length_le b h3.1 h3.2
  have h7s : OS.size ≤ 21 := by rw [← len_size, l4]; exact Lib.itoa_length_le o h4.1 h4.2
  obtain ⟨S3, e3⟩ : ∃ S3 : ByteArray, S3 = (⟨#[110, 111, 100, 101, 32]⟩ : ByteArray) ++ NS := ⟨_, rfl⟩
  obtain ⟨S4, e4⟩ : ∃ S4 : ByteArray, S4 = S3 ++ (⟨#[58, 32, 105, 110, 100, 101, 120, 32]⟩ : ByteArray) ++ IS := ⟨_, rfl⟩
  obtain ⟨S5, e5⟩ : ∃ S5 : ByteArray, S5 = S3 ++ (⟨#[58, 32, 115, 108, 111, 116, 32]⟩ : ByteArray) ++ IS := ⟨_, rfl⟩
  obtain ⟨S6, e6⟩ : ∃ S6 : ByteArray, S6 = (⟨#[98, 108, 111, 99, 107, 32]⟩ : ByteArray) ++ BS := ⟨_, rfl⟩
  have m3 : S3.data.toList = [110, 111, 100, 101, 32] ++ Lib.itoa n := by rw [e3, cat_list, l1]
  have m4 : S4.data.toList = [110, 111, 100, 101, 32] ++ (Lib.itoa n ++ ([58, 32, 105, 110, 100, 101, 120, 32] ++ Lib.itoa i)) := by rw [e4, cat_list, cat_list, m3, l2]; simp only [List.append_assoc]
  have m5 : S5.data.toList = [110, 111, 100, 101, 32] ++ (Lib.itoa n ++ ([58, 32, 115, 108, 111, 116, 32] ++ Lib.itoa i)) := by rw [e5, cat_list, cat_list, m3, l2]; simp only [List.append_assoc]
  have m6 : S6.data.toList = [98, 108, 111, 99, 107, 32] ++ Lib.itoa b := by rw [e6, cat_list, l3]
  have h3s : S3.size ≤ 26 := by rw [e3, cat_size]; show 5 + NS.size ≤ 26; omega
  have h4s : S4.size ≤ 60 := by rw [e4, cat_size, cat_size]; show S3.size + 8 + IS.size ≤ 60; omega
  have h5s : S5.size ≤ 60 := by rw [e5, cat_size, cat_size]; show S3.size + 7 + IS.size ≤ 60; omega
  have h6s : S6.size ≤ 60 := by rw [e6, cat_size]; show 6 + BS.size ≤ 60; omega
  have HS : Hid (SayS n i b o S3 S4 S5 S6 OS BS) := ⟨m3, m4, m5, m6, l4, l3⟩
  have HE := Hid.mk (And.intro e3.symm (And.intro e4.symm (And.intro e5.symm e6.symm)))
  have p1 : (9223372036854775807 < 5 + NS.size) = False := eq_false (by omega)
  have p2 : (9223372036854775807 < S3.size + 8) = False := eq_false (by omega)
  have p3 : (9223372036854775807 < S3.size + 8 + IS.size) = False := eq_false (by omega)
  have p4 : (9223372036854775807 < S3.size + 7) = False := eq_false (by omega)
  have p5 : (9223372036854775807 < S3.size + 7 + IS.size) = False := eq_false (by omega)
  have p6 : (9223372036854775807 < 6 + BS.size) = False := eq_false (by omega)
  have hW1' := hW1.symm
  clear m3 m4 m5 m6 l1 l2 l3 l4 e3 e4 e5 e6 hNS hIS hBS hOS h1 h2 h3 h4 hcA hfinA hitA hP hP1 hsz1 hB0 hW1 z1 z2
  have hb0 : Below (w.heap.size + 1) W1 W1 := Below.refl _ _
  obtain ⟨c0, c1, c2, c3, c4⟩ := HC.out W1 hb0
  go_enter Tryd.func4, Tryd.ntmps4
  go_wp2_with fail
  refine (hitN _ hb0).mono ?_
  rintro e w2 ⟨rfl, hb2⟩
  clear hitN c0 c1 c2 c3 c4 hb0 hW1'
  go_wp2_with fail
  rw [HE.out.1]
  have hb9 := hb2
  go_region_held3 (fun w' => w'.cell? ⟨w.heap.size, 0, none⟩ = some (.int .i64 k) ∧ w'.cell? ⟨w.heap.size, 1, none⟩ = some (.int .i64 n) ∧ w'.cell? ⟨w.heap.size, 2, none⟩ = some (.int .i64 i) ∧ w'.cell? ⟨w.heap.size, 3, none⟩ = some (.int .i64 b) ∧ w'.cell? ⟨w.heap.size, 4, none⟩ = some (.int .i64 o))
    (first | exact HC.out _ hb9 | exact HC.out _ (below_drew hb9))
    (first
      | (go_at_call 6; refine (hitI _ (by first | exact hb9 | exact below_drew hb9)).mono ?_; rintro e w9 ⟨rfl, hb9⟩))
  rw [HE.out.2.1, HE.out.2.2.1]
  clear p1 p2 p3 p4 p5 hitI
  go_wp2_with fail
  go_region_held3 (fun w' => w'.cell? ⟨w.heap.size, 0, none⟩ = some (.int .i64 k) ∧ w'.cell? ⟨w.heap.size, 1, none⟩ = some (.int .i64 n) ∧ w'.cell? ⟨w.heap.size, 2, none⟩ = some (.int .i64 i) ∧ w'.cell? ⟨w.heap.size, 3, none⟩ = some (.int .i64 b) ∧ w'.cell? ⟨w.heap.size, 4, none⟩ = some (.int .i64 o))
    (first | exact HC.out _ hb9 | exact HC.out _ (below_drew hb9))
    (first
      | (go_at_call 6; refine (hitB _ (by first | exact hb9 | exact below_drew hb9)).mono ?_; rintro e w9 ⟨rfl, hb9⟩)
      | (go_at_call 6; refine (hitO _ (by first | exact hb9 | exact below_drew hb9)).mono ?_; rintro e w9 ⟨rfl, hb9⟩))
  rw [HE.out.2.2.2]
  clear p6 hitO HE
  obtain ⟨c0, c1, c2, c3, c4⟩ := HC.out w9 hb9
  clear c1 c2 c4 HC
  rcases (show k = 1 ∨ k = 2 ∨ k = 3 ∨ k = 4 ∨ k = 5 ∨ k = 6 ∨ k = 7 ∨ k = 8 ∨ k = 9 ∨ k = 10 ∨ k = 11 ∨ k = 12 ∨ k = 13 ∨ k = 14 ∨ k = 15 ∨ k = 16 ∨ k = 17 ∨ k = 18 ∨ k = 19 ∨ k = 20 ∨ k = 21 ∨ (k < 1 ∨ 21 < k) by omega) with hkk | hkk | hkk | hkk | hkk | hkk | hkk | hkk | hkk | hkk | hkk | hkk | hkk | hkk | hkk | hkk | hkk | hkk | hkk | hkk | hkk | hkk
  · subst hkk
    have k0 : (9223372036854775807 < S3.size + 13) = False := eq_false (by omega)
    clear h3s h4s h5s h6s h7s h8s
    go_wp2
    go_ret
    exact ⟨ret_str (X := S3 ++ (⟨#[58, 32, 98, 114, 111, 107, 101, 110, 32, 115, 108, 111, 116]⟩ : ByteArray)) (sayEq1 HS.out), fin _ (by first | exact hb9 | exact below_drew hb9)⟩
  · subst hkk
    clear h3s h4s h5s h6s h7s h8s
    go_wp2
    go_ret
    exact ⟨ret_str (X := (⟨#[110, 111, 100, 101, 32, 49, 32, 105, 115, 32, 110, 111, 32, 114, 111, 111, 116]⟩ : ByteArray)) (sayEq2 HS.out), fin _ (by first | exact hb9 | exact below_drew hb9)⟩
  · subst hkk
    have k0 : (9223372036854775807 < S3.size + 7) = False := eq_false (by omega)
    have k1 : (9223372036854775807 < S3.size + 7 + OS.size) = False := eq_false (by omega)
    have k2 : (9223372036854775807 < S3.size + 7 + OS.size + 11) = False := eq_false (by omega)
    clear h3s h4s h5s h6s h7s h8s
    go_wp2
    go_ret
    exact ⟨ret_str (X := S3 ++ (⟨#[58, 32, 115, 105, 122, 101, 32]⟩ : ByteArray) ++ OS ++ (⟨#[32, 109, 97, 121, 32, 110, 111, 116, 32, 98, 101]⟩ : ByteArray)) (sayEq3 HS.out), fin _ (by first | exact hb9 | exact below_drew hb9)⟩
  · subst hkk
    have k0 : (9223372036854775807 < S4.size + 8) = False := eq_false (by omega)
    have k1 : (9223372036854775807 < S4.size + 8 + OS.size) = False := eq_false (by omega)
    have k2 : (9223372036854775807 < S4.size + 8 + OS.size + 10) = False := eq_false (by omega)
    have k3 : (9223372036854775807 < S4.size + 8 + OS.size + 10 + BS.size) = False := eq_false (by omega)
    have k4 : (9223372036854775807 < S4.size + 8 + OS.size + 10 + BS.size + 13) = False := eq_false (by omega)
    clear h3s h4s h5s h6s h7s h8s
    go_wp2_with fail
    refine (hitB _ (by first | exact hb9 | exact below_drew hb9)).mono ?_
    rintro e w9 ⟨rfl, hb9⟩
    go_wp2
    go_ret
    exact ⟨ret_str (X := S4 ++ (⟨#[44, 32, 100, 101, 112, 116, 104, 32]⟩ : ByteArray) ++ OS ++ (⟨#[58, 32, 112, 111, 105, 110, 116, 101, 114, 32]⟩ : ByteArray) ++ BS ++ (⟨#[32, 111, 117, 116, 32, 111, 102, 32, 114, 97, 110, 103, 101]⟩ : ByteArray)) (sayEq4 HS.out), fin _ (by first | exact hb9 | exact below_drew hb9)⟩
  · subst hkk
    have k0 : (9223372036854775807 < S4.size + 8) = False := eq_false (by omega)
    have k1 : (9223372036854775807 < S4.size + 8 + OS.size) = False := eq_false (by omega)
    have k2 : (9223372036854775807 < S4.size + 8 + OS.size + 2) = False := eq_false (by omega)
    have k3 : (9223372036854775807 < S4.size + 8 + OS.size + 2 + S6.size) = False := eq_false (by omega)
    have k4 : (9223372036854775807 < S4.size + 8 + OS.size + 2 + S6.size + 17) = False := eq_false (by omega)
    clear h3s h4s h5s h6s h7s h8s
    go_wp2
    go_ret
    exact ⟨ret_str (X := S4 ++ (⟨#[44, 32, 100, 101, 112, 116, 104, 32]⟩ : ByteArray) ++ OS ++ (⟨#[58, 32]⟩ : ByteArray) ++ S6 ++ (⟨#[32, 105, 115, 32, 111, 119, 110, 101, 100, 32, 97, 108, 114, 101, 97, 100, 121]⟩ : ByteArray)) (sayEq5 HS.out), fin _ (by first | exact hb9 | exact below_drew hb9)⟩
  · subst hkk
    have k0 : (9223372036854775807 < S4.size + 2) = False := eq_false (by omega)
    have k1 : (9223372036854775807 < S4.size + 2 + S6.size) = False := eq_false (by omega)
    have k2 : (9223372036854775807 < S4.size + 2 + S6.size + 16) = False := eq_false (by omega)
    clear h3s h4s h5s h6s h7s h8s
    go_wp2
    go_ret
    exact ⟨ret_str (X := S4 ++ (⟨#[58, 32]⟩ : ByteArray) ++ S6 ++ (⟨#[32, 98, 101, 104, 105, 110, 100, 32, 116, 104, 101, 32, 115, 105, 122, 101]⟩ : ByteArray)) (sayEq6 HS.out), fin _ (by first | exact hb9 | exact below_drew hb9)⟩
  · subst hkk
    have k0 : (9223372036854775807 < S4.size + 8) = False := eq_false (by omega)
    have k1 : (9223372036854775807 < S4.size + 8 + OS.size) = False := eq_false (by omega)
    have k2 : (9223372036854775807 < S4.size + 8 + OS.size + 2) = False := eq_false (by omega)
    have k3 : (9223372036854775807 < S4.size + 8 + OS.size + 2 + S6.size) = False := eq_false (by omega)
    have k4 : (9223372036854775807 < S4.size + 8 + OS.size + 2 + S6.size + 15) = False := eq_false (by omega)
    clear h3s h4s h5s h6s h7s h8s
    go_wp2
    go_ret
    exact ⟨ret_str (X := S4 ++ (⟨#[44, 32, 100, 101, 112, 116, 104, 32]⟩ : ByteArray) ++ OS ++ (⟨#[58, 32]⟩ : ByteArray) ++ S6 ++ (⟨#[32, 104, 97, 115, 32, 110, 111, 32, 112, 111, 105, 110, 116, 101, 114]⟩ : ByteArray)) (sayEq7 HS.out), fin _ (by first | exact hb9 | exact below_drew hb9)⟩
  · subst hkk
    have k0 : (9223372036854775807 < S3.size + 7) = False := eq_false (by omega)
    have k1 : (9223372036854775807 < S3.size + 7 + OS.size) = False := eq_false (by omega)
    clear h3s h4s h5s h6s h7s h8s
    go_wp2
    go_ret
    exact ⟨ret_str (X := S3 ++ (⟨#[58, 32, 111, 119, 110, 115, 32]⟩ : ByteArray) ++ OS) (sayEq8 HS.out), fin _ (by first | exact hb9 | exact below_drew hb9)⟩
  · subst hkk
    have k0 : (9223372036854775807 < S4.size + 2) = False := eq_false (by omega)
    have k1 : (9223372036854775807 < S4.size + 2 + S6.size) = False := eq_false (by omega)
    have k2 : (9223372036854775807 < S4.size + 2 + S6.size + 26) = False := eq_false (by omega)
    clear h3s h4s h5s h6s h7s h8s
    go_wp2
    go_ret
    exact ⟨ret_str (X := S4 ++ (⟨#[58, 32]⟩ : ByteArray) ++ S6 ++ (⟨#[32, 104, 97, 115, 32, 98, 121, 116, 101, 115, 32, 98, 101, 104, 105, 110, 100, 32, 116, 104, 101, 32, 115, 105, 122, 101]⟩ : ByteArray)) (sayEq9 HS.out), fin _ (by first | exact hb9 | exact below_drew hb9)⟩
  · subst hkk
    have k0 : (9223372036854775807 < S6.size + 6) = False := eq_false (by omega)
    have k1 : (9223372036854775807 < S6.size + 6 + OS.size) = False := eq_false (by omega)
    clear h3s h4s h5s h6s h7s h8s
    go_wp2
    go_ret
    exact ⟨ret_str (X := S6 ++ (⟨#[58, 32, 98, 105, 116, 32]⟩ : ByteArray) ++ OS) (sayEq10 HS.out), fin _ (by first | exact hb9 | exact below_drew hb9)⟩
  · subst hkk
    have k0 : (9223372036854775807 < S3.size + 6) = False := eq_false (by omega)
    have k1 : (9223372036854775807 < S3.size + 6 + OS.size) = False := eq_false (by omega)
    clear h3s h4s h5s h6s h7s h8s
    go_wp2
    go_ret
    exact ⟨ret_str (X := S3 ++ (⟨#[58, 32, 98, 105, 116, 32]⟩ : ByteArray) ++ OS) (sayEq11 HS.out), fin _ (by first | exact hb9 | exact below_drew hb9)⟩
  · subst hkk
    have k0 : (9223372036854775807 < S5.size + 14) = False := eq_false (by omega)
    clear h3s h4s h5s h6s h7s h8s
    go_wp2
    go_ret
    exact ⟨ret_str (X := S5 ++ (⟨#[58, 32, 98, 114, 111, 107, 101, 110, 32, 101, 110, 116, 114, 121]⟩ : ByteArray)) (sayEq12 HS.out), fin _ (by first | exact hb9 | exact below_drew hb9)⟩
  · subst hkk
    have k0 : (9223372036854775807 < S5.size + 14) = False := eq_false (by omega)
    clear h3s h4s h5s h6s h7s h8s
    go_wp2
    go_ret
    exact ⟨ret_str (X := S5 ++ (⟨#[58, 32, 97, 32, 110, 97, 109, 101, 32, 116, 119, 105, 99, 101]⟩ : ByteArray)) (sayEq13 HS.out), fin _ (by first | exact hb9 | exact below_drew hb9)⟩
  · subst hkk
    have k0 : (9223372036854775807 < S5.size + 16) = False := eq_false (by omega)
    have k1 : (9223372036854775807 < S5.size + 16 + OS.size) = False := eq_false (by omega)
    clear h3s h4s h5s h6s h7s h8s
    go_wp2
    go_ret
    exact ⟨ret_str (X := S5 ++ (⟨#[58, 32, 101, 110, 116, 114, 121, 32, 111, 102, 32, 110, 111, 100, 101, 32]⟩ : ByteArray) ++ OS) (sayEq14 HS.out), fin _ (by first | exact hb9 | exact below_drew hb9)⟩
  · subst hkk
    have k0 : (9223372036854775807 < S4.size + 21) = False := eq_false (by omega)
    clear h3s h4s h5s h6s h7s h8s
    go_wp2
    go_ret
    exact ⟨ret_str (X := S4 ++ (⟨#[58, 32, 104, 111, 108, 101, 32, 105, 110, 32, 97, 32, 100, 105, 114, 101, 99, 116, 111, 114, 121]⟩ : ByteArray)) (sayEq15 HS.out), fin _ (by first | exact hb9 | exact below_drew hb9)⟩
  · subst hkk
    have k0 : (9223372036854775807 < S3.size + 29) = False := eq_false (by omega)
    clear h3s h4s h5s h6s h7s h8s
    go_wp2
    go_ret
    exact ⟨ret_str (X := S3 ++ (⟨#[58, 32, 108, 97, 115, 116, 32, 98, 108, 111, 99, 107, 32, 119, 105, 116, 104, 111, 117, 116, 32, 97, 110, 32, 101, 110, 116, 114, 121]⟩ : ByteArray)) (sayEq16 HS.out), fin _ (by first | exact hb9 | exact below_drew hb9)⟩
  · subst hkk
    have k0 : (9223372036854775807 < S3.size + 18) = False := eq_false (by omega)
    have k1 : (9223372036854775807 < S3.size + 18 + OS.size) = False := eq_false (by omega)
    clear h3s h4s h5s h6s h7s h8s
    go_wp2
    go_ret
    exact ⟨ret_str (X := S3 ++ (⟨#[58, 32, 108, 105, 110, 107, 115, 32, 115, 104, 111, 117, 108, 100, 32, 98, 101, 32]⟩ : ByteArray) ++ OS) (sayEq17 HS.out), fin _ (by first | exact hb9 | exact below_drew hb9)⟩
  · subst hkk
    have k0 : (9223372036854775807 < S3.size + 14) = False := eq_false (by omega)
    have k1 : (9223372036854775807 < S3.size + 14 + OS.size) = False := eq_false (by omega)
    clear h3s h4s h5s h6s h7s h8s
    go_wp2
    go_ret
    exact ⟨ret_str (X := S3 ++ (⟨#[58, 32, 104, 97, 110, 103, 115, 32, 119, 114, 111, 110, 103, 32]⟩ : ByteArray) ++ OS) (sayEq18 HS.out), fin _ (by first | exact hb9 | exact below_drew hb9)⟩
  · subst hkk
    have k0 : (9223372036854775807 < S3.size + 16) = False := eq_false (by omega)
    clear h3s h4s h5s h6s h7s h8s
    go_wp2
    go_ret
    exact ⟨ret_str (X := S3 ++ (⟨#[58, 32, 119, 105, 116, 104, 111, 117, 116, 32, 97, 32, 110, 97, 109, 101]⟩ : ByteArray)) (sayEq19 HS.out), fin _ (by first | exact hb9 | exact below_drew hb9)⟩
  · subst hkk
    have k0 : (9223372036854775807 < S3.size + 20) = False := eq_false (by omega)
    clear h3s h4s h5s h6s h7s h8s
    go_wp2
    go_ret
    exact ⟨ret_str (X := S3 ++ (⟨#[58, 32, 110, 111, 116, 32, 98, 101, 108, 111, 119, 32, 116, 104, 101, 32, 114, 111, 111, 116]⟩ : ByteArray)) (sayEq20 HS.out), fin _ (by first | exact hb9 | exact below_drew hb9)⟩
  · subst hkk
    have k0 : (9223372036854775807 < S3.size + 18) = False := eq_false (by omega)
    clear h3s h4s h5s h6s h7s h8s
    go_wp2
    go_ret
    exact ⟨ret_str (X := S3 ++ (⟨#[58, 32, 116, 101, 120, 116, 32, 119, 105, 116, 104, 32, 97, 32, 122, 101, 114, 111]⟩ : ByteArray)) (sayEq21 HS.out), fin _ (by first | exact hb9 | exact below_drew hb9)⟩
  · clear h3s h4s h5s h6s h7s h8s
    have n1 : (k == 1) = false := by rw [beq_eq_false_iff_ne]; omega
    have n2 : (k == 2) = false := by rw [beq_eq_false_iff_ne]; omega
    have n3 : (k == 3) = false := by rw [beq_eq_false_iff_ne]; omega
    have n4 : (k == 4) = false := by rw [beq_eq_false_iff_ne]; omega
    have n5 : (k == 5) = false := by rw [beq_eq_false_iff_ne]; omega
    have n6 : (k == 6) = false := by rw [beq_eq_false_iff_ne]; omega
    have n7 : (k == 7) = false := by rw [beq_eq_false_iff_ne]; omega
    have n8 : (k == 8) = false := by rw [beq_eq_false_iff_ne]; omega
    have n9 : (k == 9) = false := by rw [beq_eq_false_iff_ne]; omega
    have n10 : (k == 10) = false := by rw [beq_eq_false_iff_ne]; omega
    have n11 : (k == 11) = false := by rw [beq_eq_false_iff_ne]; omega
    have n12 : (k == 12) = false := by rw [beq_eq_false_iff_ne]; omega
    have n13 : (k == 13) = false := by rw [beq_eq_false_iff_ne]; omega
    have n14 : (k == 14) = false := by rw [beq_eq_false_iff_ne]; omega
    have n15 : (k == 15) = false := by rw [beq_eq_false_iff_ne]; omega
    have n16 : (k == 16) = false := by rw [beq_eq_false_iff_ne]; omega
    have n17 : (k == 17) = false := by rw [beq_eq_false_iff_ne]; omega
    have n18 : (k == 18) = false := by rw [beq_eq_false_iff_ne]; omega
    have n19 : (k == 19) = false := by rw [beq_eq_false_iff_ne]; omega
    have n20 : (k == 20) = false := by rw [beq_eq_false_iff_ne]; omega
    have n21 : (k == 21) = false := by rw [beq_eq_false_iff_ne]; omega
    have hno : saidL k n i b o = noF := by unfold saidL; rw [if_neg (by omega)]
    clear hkk
    go_wp2
    go_ret
    exact ⟨ret_str (X := ⟨#[110, 111, 32, 102, 97, 117, 108, 116]⟩) (by rw [hno]; rfl), fin _ (by first | exact hb9 | exact below_drew hb9)⟩
end Go.Proofs.YtomphdpjhgcnaaaDoor
