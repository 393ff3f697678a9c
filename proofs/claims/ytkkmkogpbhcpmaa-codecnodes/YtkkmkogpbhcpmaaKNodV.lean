import Derived.Test.YtkkmkogpbhcpmaaKNodU
namespace Go.Proofs.Ytkkmkogpbhcpmaa
open Go.RowKit

/-- A reader reads, two boxes of nodes are made: what is kept. -/
structure ReadsN (p : Nat) (w w' : World) (cs : Array Value) : Prop where
  k : Keeps (fun j => j = p) w w'
  out : w'.heap[w.heap.size]? = some (.cells (ndc 0 0 0 0 0 (fun _ => 0)) 76 (0, 0))
  box : w'.heap[w.heap.size + 1]? = some (.cells cs 76 (0, 0))
  lt : p < w.heap.size
theorem ReadsN.step {p : Nat} {w w1 w2 : World} {cs : Array Value} (h : ReadsN p w w1 cs) (hk : Keeps (fun j => j = p) w1 w2) : ReadsN p w w2 cs :=
  ⟨h.k.trans hk (fun _ h => .inl h), (hk.block _ (Array.getElem?_eq_some_iff.1 h.out).1 (by have := h.lt; omega)).trans h.out, (hk.block _ (Array.getElem?_eq_some_iff.1 h.box).1 (by have := h.lt; omega)).trans h.box, h.lt⟩
theorem ReadsN.put {p : Nat} {w w1 : World} {cs : Array Value} (h : ReadsN p w w1 cs) (i : Nat) (v : Value) : ReadsN p w (w1.setCell ⟨w.heap.size + 1, i, none⟩ v) (cs.setIfInBounds i v) :=
  ⟨h.k.put (by omega) v, (Below.heap_setCell _ _ _ _ (by simp)).trans h.out, heap_setCell_same _ _ _ _ _ _ h.box, h.lt⟩
/-- An array with a list laid into it. -/
def setArr (cs : Array Value) (o : Nat) : List Value → Array Value
  | [] => cs
  | v :: r => setArr (cs.setIfInBounds o v) (o + 1) r
theorem heap_setCells_same {b : Nat} {t : TypeId} : ∀ (vs : List Value) (o : Nat) (w : World) (cs : Array Value), w.heap[b]? = some (.cells cs t (0, 0)) → (w.setCells b o vs).heap[b]? = some (.cells (setArr cs o vs) t (0, 0))
  | [], _, _, _, h => h
  | _v :: r, o, _w, _cs, h => heap_setCells_same r (o + 1) _ _ (heap_setCell_same _ _ _ _ _ _ h)
theorem arr_ten (k l pp s o : Int) (f : Nat → Int) : setArr (ndc k l pp s o (fun _ => 0)) 5 (dirL f) = ndc k l pp s o (fun i => if i < 10 then f i else 0) := by
  apply Array.ext'
  have e : dirL f = tenl f := rfl
  rw [e]
  simp [setArr]
theorem ReadsN.puts {p : Nat} {w w1 : World} {k l pp s o : Int} (h : ReadsN p w w1 (ndc k l pp s o (fun _ => 0))) (f : Nat → Int) : ReadsN p w (w1.setCells (w.heap.size + 1) 5 (dirL f)) (ndc k l pp s o (fun i => if i < 10 then f i else 0)) := by
  have hk := Keeps.setCells (F := fun j => j = w.heap.size + 1) rfl (dirL f) 5 w1
  have hb := heap_setCells_same (dirL f) 5 _ _ h.box
  rw [arr_ten] at hb
  have hd := h.k
  exact ⟨⟨hk.os.trans hd.os, hk.tape.trans hd.tape, hk.output.trans hd.output, Nat.le_trans hd.size hk.size, fun q hq hne => (hk.block q (Nat.lt_of_lt_of_le hq hd.size) (by omega)).trans (hd.block q hq hne)⟩, (hk.block _ (Array.getElem?_eq_some_iff.1 h.out).1 (by omega)).trans h.out, hb, h.lt⟩
theorem Rd.puts {w : World} {p b o c k : Nat} {l : List Int} (h : Rd w p b o c k l) {g q : Nat} (vs : List Value) (hp : g ≠ p) (hb : g ≠ b) (h0 : 0 < l.length) : Rd (w.setCells g q vs) p b o c k l := by
  have hk := Keeps.setCells (F := fun j => j = g) rfl vs q w
  have hpl2 : p < w.heap.size := (Array.getElem?_eq_some_iff.1 h.rd).1
  have hbl2 : b < w.heap.size := h.old h0
  exact ⟨(hk.block p hpl2 (by omega)).trans h.rd, h.ne, fun i hi => (World.cell?_of_block (w := w) (a := ⟨b, o + i, none⟩) (hk.block b hbl2 (by omega))).trans (h.src i hi), h.bytes, h.small, h.cap, h.huge, fun _ => by rw [size_setCells]; exact hbl2⟩

/-- Two bytes at k; eight bytes, as they come out. -/
def u16 (l : List Int) (k : Nat) : Nat := le (part l k 2)
def s64 (l : List Int) (k : Nat) : Int := wrap64 ((le (part l k 8) : Nat) : Int)
theorem u16_lt {l : List Int} (h : Bytes l) {k : Nat} (hk : k + 2 ≤ l.length) : u16 l k < 65536 := by
  have := le_lt (part_bytes h k 2)
  rw [part_len hk] at this
  exact this
theorem rnum2 (p b o c k : Nat) (l : List Int) (w : World) (h : Rd w p b o c k l) (hk : k + 2 ≤ l.length) (hkc : k < c) :
    Calls Try.prog 109 #[.pointer (some ⟨p, 0, none⟩), .int .i64 2] w fun e w' => e = .returned (.int .i64 ((u16 l k : Nat) : Int)) ∧ Rd w' p b o c (k + 2) l ∧ Keeps (fun j => j = p) w w' := by
  refine (rnumber_any p b o c k 2 l w h hk hkc (by omega)).mono ?_
  rintro e w' ⟨rfl, h1, h2⟩
  refine ⟨?_, h1, h2⟩
  have := u16_lt h.bytes hk
  unfold u16 at *
  congr 2
  unfold wrap64
  omega
theorem rnum8 (p b o c k : Nat) (l : List Int) (w : World) (h : Rd w p b o c k l) (hk : k + 8 ≤ l.length) (hkc : k < c) :
    Calls Try.prog 109 #[.pointer (some ⟨p, 0, none⟩), .int .i64 8] w fun e w' => e = .returned (.int .i64 (s64 l k)) ∧ Rd w' p b o c (k + 8) l ∧ Keeps (fun j => j = p) w w' :=
  rnumber_any p b o c k 8 l w h hk hkc (by omega)

/-- The node that the bytes say. -/
abbrev ndOf (l : List Int) : Value := nd ((u8 l 0 : Nat) : Int) ((u16 l 2 : Nat) : Int) ((u32 l 4 : Nat) : Int) (s64 l 8) ((u32 l 16 : Nat) : Int) (fun i => ((u32 l (24 + 4 * i) : Nat) : Int))
/-- The layout of a node's body is right. -/
structure NodOk (l : List Int) : Prop where
  z1 : Zeros (part l 1 1)
  z2 : Zeros (part l 20 4)
  z3 : Zeros (part l 72 52)
  fits : NFits ((u8 l 0 : Nat) : Int) ((u16 l 2 : Nat) : Int) ((u32 l 4 : Nat) : Int) (s64 l 8) ((u32 l 16 : Nat) : Int) (fun i => ((u32 l (24 + 4 * i) : Nat) : Int))
/-- What readNode does. -/
def RdN (l : List Int) (e : Ending) : Prop := (NodOk l ∧ e = .returned (ndOf l)) ∨ (¬ NodOk l ∧ e = .panicked gaveUp)

set_option maxRecDepth 20000 in
set_option maxHeartbeats 8000000 in
theorem readnode_any (p b o c : Nat) (l : List Int) (w : World) (h : Rd w p b o c 0 l) (hl : l.length = 124) (hcc : 124 < c) :
    Calls Try.prog 84 #[.pointer (some ⟨p, 0, none⟩)] w fun e w' => RdN l e ∧ Keeps (fun j => j = p) w w' := by
  have hpl : p < w.heap.size := (Array.getElem?_eq_some_iff.1 h.rd).1
  have hbl : b < w.heap.size := h.old (by omega)
  obtain ⟨w1, hw1⟩ : ∃ w1, w1 = (w.alloc (.cells (ndc 0 0 0 0 0 (fun _ => 0)) 76)).alloc (.cells (ndc 0 0 0 0 0 (fun _ => 0)) 76) := ⟨_, rfl⟩
  have hB1 : Below w.heap.size w w1 := by rw [hw1]; exact below_two w _ _
  have R1 : ReadsN p w w1 (ndc 0 0 0 0 0 (fun _ => 0)) := ⟨Keeps.of_below _ hB1, by rw [hw1]; exact heap_alloc2_old _ _ _, by rw [hw1]; exact heap_alloc2_new _ _ _, hpl⟩
  have hn0 := rnum1 p b o c 0 l w1 (h.far hB1) (by omega) (by omega)
  have HR0 := Hid.mk R1
  clear h hB1 R1
  go_enter Try.func84, Try.ntmps84
  go_wp2_with fail
  rw [← hw1]
  clear hw1
  refine hn0.mono ?_
  rintro e wa0 ⟨rfl, hr0, hk0⟩
  have R0 := HR0.out.step hk0
  have c0 := cell_of_block R0.box (j := 0) (u := .int .i64 0) rfl
  have f0 := frozen_of_block R0.box 0
  have Rp0 : ReadsN p w (wa0.setCell ⟨w.heap.size + 1, 0, none⟩ (.int .i64 ((u8 l 0 : Nat) : Int))) (ndc ((u8 l 0 : Nat) : Int) 0 0 0 0 (fun _ => 0)) := R0.put 0 (.int .i64 ((u8 l 0 : Nat) : Int))
  have hrp0 := hr0.put (g := w.heap.size + 1) (i := 0) (v := .int .i64 ((u8 l 0 : Nat) : Int)) (by omega) (by omega)
  by_cases hz1 : Zeros (part l 1 1)
  rotate_left
  · have hno1 := rzeros_no p b o c 1 1 l _ hrp0 (by omega) (by omega) hz1
    have HNO1 : Hid (¬ NodOk l) := fun h => hz1 h.z1
    have HR1 := Hid.mk (Rp0)
    clear hn0 hk0 R0 Rp0 hr0 hrp0 HR0
    go_wp2_with fail
    refine hno1.mono ?_
    rintro e wz ⟨rfl, hkz⟩
    have HKz := Hid.mk (HR1.out.step hkz).k
    clear hno1 hkz HR1
    go_wp2
    exact ⟨rfl, .inr ⟨HNO1.out, rfl⟩, HKz.out⟩
  have hn1 := rzeros_ok p b o c 1 1 l _ hrp0 (by omega) (by omega) hz1
  have HZ1 := Hid.mk hz1
  clear hz1
  have HR1 := Hid.mk Rp0
  clear hn0 hk0 R0 Rp0 hr0 hrp0 HR0
  go_wp2_with fail
  refine hn1.mono ?_
  rintro e wa1 ⟨rfl, hr1, hk1⟩
  have R1 := HR1.out.step hk1
  have hn2 := rnum2 p b o c 2 l _ hr1 (by omega) (by omega)
  have HR2 := Hid.mk R1
  clear hn1 hk1 R1 hr1 HR1
  clear c0 f0
  go_wp2_with fail
  refine hn2.mono ?_
  rintro e wa2 ⟨rfl, hr2, hk2⟩
  have R2 := HR2.out.step hk2
  have c2 := cell_of_block R2.box (j := 1) (u := .int .i64 0) rfl
  have f2 := frozen_of_block R2.box 1
  have Rp2 : ReadsN p w (wa2.setCell ⟨w.heap.size + 1, 1, none⟩ (.int .i64 ((u16 l 2 : Nat) : Int))) (ndc ((u8 l 0 : Nat) : Int) ((u16 l 2 : Nat) : Int) 0 0 0 (fun _ => 0)) := R2.put 1 (.int .i64 ((u16 l 2 : Nat) : Int))
  have hrp2 := hr2.put (g := w.heap.size + 1) (i := 1) (v := .int .i64 ((u16 l 2 : Nat) : Int)) (by omega) (by omega)
  have hn3 := rnum4 p b o c 4 l _ hrp2 (by omega) (by omega)
  have HR3 := Hid.mk Rp2
  clear hn2 hk2 R2 Rp2 hr2 hrp2 HR2
  go_wp2_with fail
  refine hn3.mono ?_
  rintro e wa3 ⟨rfl, hr3, hk3⟩
  have R3 := HR3.out.step hk3
  have c3 := cell_of_block R3.box (j := 2) (u := .int .i64 0) rfl
  have f3 := frozen_of_block R3.box 2
  have Rp3 : ReadsN p w (wa3.setCell ⟨w.heap.size + 1, 2, none⟩ (.int .i64 ((u32 l 4 : Nat) : Int))) (ndc ((u8 l 0 : Nat) : Int) ((u16 l 2 : Nat) : Int) ((u32 l 4 : Nat) : Int) 0 0 (fun _ => 0)) := R3.put 2 (.int .i64 ((u32 l 4 : Nat) : Int))
  have hrp3 := hr3.put (g := w.heap.size + 1) (i := 2) (v := .int .i64 ((u32 l 4 : Nat) : Int)) (by omega) (by omega)
  have hn4 := rnum8 p b o c 8 l _ hrp3 (by omega) (by omega)
  have HR4 := Hid.mk Rp3
  clear hn3 hk3 R3 Rp3 hr3 hrp3 HR3
  clear c2 f2
  go_wp2_with fail
  refine hn4.mono ?_
  rintro e wa4 ⟨rfl, hr4, hk4⟩
  have R4 := HR4.out.step hk4
  have c4 := cell_of_block R4.box (j := 3) (u := .int .i64 0) rfl
  have f4 := frozen_of_block R4.box 3
  have Rp4 : ReadsN p w (wa4.setCell ⟨w.heap.size + 1, 3, none⟩ (.int .i64 (s64 l 8))) (ndc ((u8 l 0 : Nat) : Int) ((u16 l 2 : Nat) : Int) ((u32 l 4 : Nat) : Int) (s64 l 8) 0 (fun _ => 0)) := R4.put 3 (.int .i64 (s64 l 8))
  have hrp4 := hr4.put (g := w.heap.size + 1) (i := 3) (v := .int .i64 (s64 l 8)) (by omega) (by omega)
  have hn5 := rnum4 p b o c 16 l _ hrp4 (by omega) (by omega)
  have HR5 := Hid.mk Rp4
  clear hn4 hk4 R4 Rp4 hr4 hrp4 HR4
  clear c3 f3
  go_wp2_with fail
  refine hn5.mono ?_
  rintro e wa5 ⟨rfl, hr5, hk5⟩
  have R5 := HR5.out.step hk5
  have c5 := cell_of_block R5.box (j := 4) (u := .int .i64 0) rfl
  have f5 := frozen_of_block R5.box 4
  have Rp5 : ReadsN p w (wa5.setCell ⟨w.heap.size + 1, 4, none⟩ (.int .i64 ((u32 l 16 : Nat) : Int))) (ndc ((u8 l 0 : Nat) : Int) ((u16 l 2 : Nat) : Int) ((u32 l 4 : Nat) : Int) (s64 l 8) ((u32 l 16 : Nat) : Int) (fun _ => 0)) := R5.put 4 (.int .i64 ((u32 l 16 : Nat) : Int))
  have hrp5 := hr5.put (g := w.heap.size + 1) (i := 4) (v := .int .i64 ((u32 l 16 : Nat) : Int)) (by omega) (by omega)
  by_cases hz6 : Zeros (part l 20 4)
  rotate_left
  · have hno6 := rzeros_no p b o c 20 4 l _ hrp5 (by omega) (by omega) hz6
    have HNO6 : Hid (¬ NodOk l) := fun h => hz6 h.z2
    have HR6 := Hid.mk (Rp5)
    clear hn5 hk5 R5 Rp5 hr5 hrp5 HR5
    go_wp2_with fail
    refine hno6.mono ?_
    rintro e wz ⟨rfl, hkz⟩
    have HKz := Hid.mk (HR6.out.step hkz).k
    clear hno6 hkz HR6
    go_wp2
    exact ⟨rfl, .inr ⟨HNO6.out, rfl⟩, HKz.out⟩
  have hn6 := rzeros_ok p b o c 20 4 l _ hrp5 (by omega) (by omega) hz6
  have HZ6 := Hid.mk hz6
  clear hz6
  have HR6 := Hid.mk Rp5
  clear hn5 hk5 R5 Rp5 hr5 hrp5 HR5
  clear c4 f4
  go_wp2_with fail
  refine hn6.mono ?_
  rintro e wa6 ⟨rfl, hr6, hk6⟩
  have R6 := HR6.out.step hk6
  have hn7 := readdir_any p b o c 24 l _ hr6 (by omega) (by omega)
  have HR7 := Hid.mk R6
  clear hn6 hk6 R6 hr6 HR6
  clear c5 f5
  go_wp2_with fail
  refine hn7.mono ?_
  rintro e wa7 ⟨rfl, hr7, hk7⟩
  have R7 := HR7.out.step hk7
  have hth7 : wa7.there (w.heap.size + 1) 5 (dirL (fun i => ((u32 l (24 + 4 * i) : Nat) : Int))).length := by
    intro j hj
    rw [dirL_len] at hj
    refine ⟨?_, frozen_of_block R7.box _⟩
    rw [cell_of_block R7.box (j := 5 + j) (u := (ndc ((u8 l 0 : Nat) : Int) ((u16 l 2 : Nat) : Int) ((u32 l 4 : Nat) : Int) (s64 l 8) ((u32 l 16 : Nat) : Int) (fun _ => 0))[5 + j]'(by show 5 + j < 17; omega)) (Array.getElem?_eq_getElem (by show 5 + j < 17; omega))]
    rfl
  have Rp7 := R7.puts (fun i => ((u32 l (24 + 4 * i) : Nat) : Int))
  have hrp7 := hr7.puts (g := w.heap.size + 1) (q := 5) (dirL (fun i => ((u32 l (24 + 4 * i) : Nat) : Int))) (by omega) (by omega) (by omega)
  have hn8 := rnum4 p b o c 64 l _ hrp7 (by omega) (by omega)
  have hinfo7 := infoDir (fun i => ((u32 l (24 + 4 * i) : Nat) : Int))
  have hall7 := all_oneCell_toArray (dirL_one (fun i => ((u32 l (24 + 4 * i) : Nat) : Int)))
  have HR8 := Hid.mk Rp7
  clear hn7 hk7 R7 Rp7 hr7 hrp7 HR7
  generalize hF7 : dirL (fun i => ((u32 l (24 + 4 * i) : Nat) : Int)) = F at *
  go_wp2_with (refine wpList_store_mid rfl 74 _ _ rfl (w.heap.size + 1) 5 F.toArray rfl rfl ?h1 ?h2 hall7 ?_)
  case h1 => simpa using hth7
  case h2 => simpa using hinfo7
  clear hth7 hinfo7 hall7
  refine hn8.mono ?_
  rintro e wa8 ⟨rfl, hr8, hk8⟩
  have R8 := HR8.out.step hk8
  have c8 := cell_of_block R8.box (j := 15) (u := .int .i64 0) rfl
  have f8 := frozen_of_block R8.box 15
  have Rp8 : ReadsN p w (wa8.setCell ⟨w.heap.size + 1, 15, none⟩ (.int .i64 ((u32 l 64 : Nat) : Int))) (ndc ((u8 l 0 : Nat) : Int) ((u16 l 2 : Nat) : Int) ((u32 l 4 : Nat) : Int) (s64 l 8) ((u32 l 16 : Nat) : Int) (fun i => if i < 11 then ((u32 l (24 + 4 * i) : Nat) : Int) else 0)) := R8.put 15 (.int .i64 ((u32 l 64 : Nat) : Int))
  have hrp8 := hr8.put (g := w.heap.size + 1) (i := 15) (v := .int .i64 ((u32 l 64 : Nat) : Int)) (by omega) (by omega)
  have hn9 := rnum4 p b o c 68 l _ hrp8 (by omega) (by omega)
  have HR9 := Hid.mk Rp8
  clear hn8 hk8 R8 Rp8 hr8 hrp8 HR8
  go_wp2_with fail
  refine hn9.mono ?_
  rintro e wa9 ⟨rfl, hr9, hk9⟩
  have R9 := HR9.out.step hk9
  have c9 := cell_of_block R9.box (j := 16) (u := .int .i64 0) rfl
  have f9 := frozen_of_block R9.box 16
  have Rp9 : ReadsN p w (wa9.setCell ⟨w.heap.size + 1, 16, none⟩ (.int .i64 ((u32 l 68 : Nat) : Int))) (ndc ((u8 l 0 : Nat) : Int) ((u16 l 2 : Nat) : Int) ((u32 l 4 : Nat) : Int) (s64 l 8) ((u32 l 16 : Nat) : Int) (fun i => if i < 12 then ((u32 l (24 + 4 * i) : Nat) : Int) else 0)) := R9.put 16 (.int .i64 ((u32 l 68 : Nat) : Int))
  have hrp9 := hr9.put (g := w.heap.size + 1) (i := 16) (v := .int .i64 ((u32 l 68 : Nat) : Int)) (by omega) (by omega)
  by_cases hz10 : Zeros (part l 72 52)
  rotate_left
  · have hno10 := rzeros_no p b o c 72 52 l _ hrp9 (by omega) (by omega) hz10
    have HNO10 : Hid (¬ NodOk l) := fun h => hz10 h.z3
    have HR10 := Hid.mk (Rp9)
    clear hn9 hk9 R9 Rp9 hr9 hrp9 HR9
    go_wp2_with fail
    refine hno10.mono ?_
    rintro e wz ⟨rfl, hkz⟩
    have HKz := Hid.mk (HR10.out.step hkz).k
    clear hno10 hkz HR10
    go_wp2
    exact ⟨rfl, .inr ⟨HNO10.out, rfl⟩, HKz.out⟩
  have hn10 := rzeros_ok p b o c 72 52 l _ hrp9 (by omega) (by omega) hz10
  have HZ10 := Hid.mk hz10
  clear hz10
  have HR10 := Hid.mk Rp9
  clear hn9 hk9 R9 Rp9 hr9 hrp9 HR9
  clear c8 f8
  go_wp2_with fail
  refine hn10.mono ?_
  rintro e wa10 ⟨rfl, _, hk10⟩
  have R10 : ReadsN p w wa10 (ndc ((u8 l 0 : Nat) : Int) ((u16 l 2 : Nat) : Int) ((u32 l 4 : Nat) : Int) (s64 l 8) ((u32 l 16 : Nat) : Int) (fun i => ((u32 l (24 + 4 * i) : Nat) : Int))) := HR10.out.step hk10
  have hl10 := range_of (cs := ndl ((u8 l 0 : Nat) : Int) ((u16 l 2 : Nat) : Int) ((u32 l 4 : Nat) : Int) (s64 l 8) ((u32 l 16 : Nat) : Int) (fun i => ((u32 l (24 + 4 * i) : Nat) : Int))) R10.box
  have Hl10 := Hid.mk hl10
  have HR11 := Hid.mk R10
  have hfit := nfit_any ((u8 l 0 : Nat) : Int) ((u16 l 2 : Nat) : Int) ((u32 l 4 : Nat) : Int) (s64 l 8) ((u32 l 16 : Nat) : Int) (fun i => ((u32 l (24 + 4 * i) : Nat) : Int)) wa10
  clear hn10 hk10 R10 HR10 hl10 c9 f9
  go_wp2_with (refine wpList_load_mid rfl 76 _ rfl (w.heap.size + 1) 0 rfl (ndl ((u8 l 0 : Nat) : Int) ((u16 l 2 : Nat) : Int) ((u32 l 4 : Nat) : Int) (s64 l 8) ((u32 l 16 : Nat) : Int) (fun i => ((u32 l (24 + 4 * i) : Nat) : Int))) _ Hl10.out Try.underlying76 rfl infoNode ?_)
  refine hfit.mono ?_
  rintro e wf ⟨⟨bb, rfl, hbb⟩, hbf⟩
  have Rf := HR11.out.step (Keeps.of_below _ hbf)
  have HF := Hid.mk hbb
  have HRf := Hid.mk Rf
  clear hfit hbb hbf Rf HR11 Hl10
  cases bb with
  | false =>
    have hm := must_f
    have HX : Hid (¬ NodOk l) := fun h => absurd (HF.out.2 h.fits) (by simp)
    go_wp2_with fail
    refine (hm _).mono ?_
    rintro e wg ⟨rfl, hw⟩
    have hw' := hw.symm
    subst hw'
    clear hw hm
    go_wp2
    exact ⟨rfl, .inr ⟨HX.out, rfl⟩, HRf.out.k⟩
  | true =>
    have hm := must_t
    have HX : Hid (NodOk l) := ⟨HZ1.out, HZ6.out, HZ10.out, HF.out.1 rfl⟩
    clear HF
    go_wp2_with fail
    refine (hm _).mono ?_
    rintro e wg ⟨rfl, hw⟩
    have hw' := hw.symm
    subst hw'
    clear hw hm
    have hra := Hid.mk (range_of (cs := ndl ((u8 l 0 : Nat) : Int) ((u16 l 2 : Nat) : Int) ((u32 l 4 : Nat) : Int) (s64 l 8) ((u32 l 16 : Nat) : Int) (fun i => ((u32 l (24 + 4 * i) : Nat) : Int))) HRf.out.box)
    have hth : wf.there w.heap.size 0 (ndl ((u8 l 0 : Nat) : Int) ((u16 l 2 : Nat) : Int) ((u32 l 4 : Nat) : Int) (s64 l 8) ((u32 l 16 : Nat) : Int) (fun i => ((u32 l (24 + 4 * i) : Nat) : Int))).length := by
      intro j hj
      have hj' : j < 17 := hj
      rw [Nat.zero_add]
      refine ⟨?_, frozen_of_block HRf.out.out _⟩
      rw [cell_of_block HRf.out.out (j := j) (u := (ndc 0 0 0 0 0 (fun _ => 0))[j]'hj') (Array.getElem?_eq_getElem hj')]
      rfl
    have hrs := Hid.mk (World.rangeAt_setCells_same wf w.heap.size 0 _ hth)
    have Hth := Hid.mk hth
    have hone : ∀ v ∈ ndl ((u8 l 0 : Nat) : Int) ((u16 l 2 : Nat) : Int) ((u32 l 4 : Nat) : Int) (s64 l 8) ((u32 l 16 : Nat) : Int) (fun i => ((u32 l (24 + 4 * i) : Nat) : Int)), v.oneCell' = true := by simp [Value.oneCell']
    have hall := all_oneCell_toArray hone
    have HK : Hid (∀ vs : List Value, Keeps (fun j => j = p) w (wf.setCells w.heap.size 0 vs)) := fun vs => by
      have hk := Keeps.setCells (F := fun j => j = w.heap.size) rfl vs 0 wf
      have hd := HRf.out.k
      exact ⟨hk.os.trans hd.os, hk.tape.trans hd.tape, hk.output.trans hd.output, Nat.le_trans hd.size hk.size, fun q hq hne => (hk.block q (Nat.lt_of_lt_of_le hq hd.size) (by omega)).trans (hd.block q hq hne)⟩
    clear hth hone HRf
    go_wp2_with (first | refine wpList_load_mid rfl 76 _ rfl (w.heap.size + 1) 0 rfl (ndl ((u8 l 0 : Nat) : Int) ((u16 l 2 : Nat) : Int) ((u32 l 4 : Nat) : Int) (s64 l 8) ((u32 l 16 : Nat) : Int) (fun i => ((u32 l (24 + 4 * i) : Nat) : Int))) _ hra.out Try.underlying76 rfl infoNode ?_ | refine wpList_store_mid rfl 76 _ _ rfl w.heap.size 0 (ndc ((u8 l 0 : Nat) : Int) ((u16 l 2 : Nat) : Int) ((u32 l 4 : Nat) : Int) (s64 l 8) ((u32 l 16 : Nat) : Int) (fun i => ((u32 l (24 + 4 * i) : Nat) : Int))) rfl rfl ?h1 ?h2 hall ?_)
    case h1 => exact Hth.out
    case h2 => exact infoNode
    exact bodyPost_ret (results_cell_mid (P := Try.prog) rfl _ _ w.heap.size _ _ rfl hrs.out Try.underlying76 rfl infoNode) rfl ⟨.inl ⟨HX.out, rfl⟩, HK.out _⟩
end Go.Proofs.Ytkkmkogpbhcpmaa
