import Derived.Test.YtkkmkogpbhcpmaaKWriter
import Derived.Test.YtkkmkogpbhcpmaaKPlan
namespace Go.Proofs.Ytkkmkogpbhcpmaa
open Go.RowKit

theorem WAt.far {w w' : World} {B p : Nat} {l : List Int} (h : WAt w B p l) (hb : Below w.heap.size w w') : WAt w' B p l := by
  obtain ⟨hB, hz, v, hp, hown, hn⟩ := h
  have hpl : p < w.heap.size := (Array.getElem?_eq_some_iff.1 hp).1
  exact ⟨hB, Nat.le_trans hz hb.size, v, (hb.block p hpl).trans hp, hown.kept (row := none) ⟨hb.os, hb.tape, hb.output, hb.size, fun k hk _ => hb.block k hk⟩ (by cases hv : v.ownBlock <;> simp), hn⟩
theorem WAt.new (w : World) : WAt (w.alloc (.cells #[.slice none 0 0] 125)) w.heap.size w.heap.size [] :=
  ⟨Nat.le_refl _, by simp, _, heap_alloc_new w _, World.ownsRow_nil _ _ _ _, by simp [Value.ownBlock]⟩
/-- The writer's bytes, as a row. -/
theorem WAt.row {w : World} {B p : Nat} {l : List Int} (h : WAt w B p l) (h0 : 0 < l.length) : ∃ g c, w.cell? ⟨p, 0, none⟩ = some (.slice (some ⟨g, 0, none⟩) l.length c) ∧ B ≤ g ∧ RowAt w 5 g c (bs l) := by
  obtain ⟨hB, hz, v, hp, hown, hn⟩ := h
  obtain ⟨g, c, hv, hgB, hr, _⟩ := RowAt.of_owns hown (by rintro rfl; rcases hown.2 with ⟨_, h⟩ | ⟨_, _, _, h, _⟩; omega; cases h)
  subst hv
  exact ⟨g, c, cell_of_block hp rfl, hgB, hr⟩

/-- The bytes with their sum behind them. -/
def sealed (l : List Int) : List Int := l ++ leb 4 (sumOf l)
theorem sealed_len (l : List Int) : (sealed l).length = l.length + 4 := by simp [sealed, leb_len]

set_option maxHeartbeats 2000000 in
theorem wsummed_any (p B : Nat) (l : List Int) (w : World) (h : WAt w B p l) (h0 : 0 < l.length) (hl : l.length + 4 ≤ 100000) (hb : Bytes l) :
    Calls Try.prog 89 #[.pointer (some ⟨p, 0, none⟩)] w fun e w' => ∃ g c, e = .returned (.slice (some ⟨g, 0, none⟩) (l.length + 4) c) ∧ B ≤ g ∧ RowAt w' 5 g c (bs (sealed l)) ∧ Below B w w' := by
  obtain ⟨g, c, hcell, hg, hr⟩ := h.row h0
  have hz := h.2.1
  have hsum := sum_any (some ⟨g, 0, none⟩) l.length c l w hb (by omega) hr.src
  have hs := sumOf_lt hb
  have H := Hid.mk h
  have hS := Hid.mk (show sealed l = l ++ leb 4 (sumOf l) from rfl)
  clear h hr
  generalize sumOf l = S at *
  go_enter Try.func89, Try.ntmps89
  go_wp2_with fail
  refine hsum.mono ?_
  rintro e w1 ⟨rfl, hb1⟩
  have hnum : Calls Try.prog 87 #[.pointer (some ⟨p, 0, none⟩), .int .i64 (S : Int), .int .i64 4] w1 fun e w' => e = .returned (.tuple #[]) ∧ WAt w' B p (l ++ leb 4 S) ∧ Below B w1 w' := wnumber_any p B l S 4 w1 (H.out.far hb1) hl (by omega)
  have HB1 : Below B w w1 := hb1.mono hz
  clear hsum hb1 hcell
  go_wp2_with fail
  refine hnum.mono ?_
  rintro e w2 ⟨rfl, hat2, hb2⟩
  obtain ⟨g2, c2, hcell2, hg2, hr2⟩ := hat2.row (by simp [leb_len])
  have eL : (l ++ leb 4 S).length = l.length + 4 := by simp [leb_len]
  rw [eL] at hcell2
  have HF : Hid (B ≤ g2 ∧ RowAt w2 5 g2 c2 (bs (sealed l)) ∧ Below B w w2) := ⟨hg2, by rw [hS.out]; exact hr2, HB1.trans hb2⟩
  clear hnum hat2 hb2 hr2 hg2 eL HB1 H hS
  go_wp2
  go_ret
  exact ⟨g2, c2, rfl, HF.out⟩

/-- The superblock's head. -/
def headB : ByteArray := ⟨#[118, 101, 108, 108, 117, 109, 0, 1]⟩
def headL : List Int := [118, 101, 108, 108, 117, 109, 0, 1]
theorem head_txt : txt headB = headL := by decide +kernel
/-- What a superblock holds ahead of its sum. -/
def supBody (s l n : Nat) : List Int := headL ++ leb 4 s ++ leb 4 l ++ leb 4 n ++ List.replicate 488 0
theorem supBody_len (s l n : Nat) : (supBody s l n).length = 508 := by simp only [supBody, headL, List.length_append, leb_len, List.length_replicate, List.length_cons, List.length_nil]
theorem supBody_bytes (s l n : Nat) : Bytes (supBody s l n) := by
  intro x hx
  simp only [supBody, List.mem_append] at hx
  rcases hx with (((h | h) | h) | h) | h
  · simp [headL] at h; omega
  · exact leb_bytes _ _ x h
  · exact leb_bytes _ _ x h
  · exact leb_bytes _ _ x h
  · have := List.eq_of_mem_replicate h; omega

/-- What is answered: a new row. -/
def Made (w w' : World) (v : Value) (l : List Int) : Prop := ∃ g c, v = .slice (some ⟨g, 0, none⟩) l.length c ∧ w.heap.size ≤ g ∧ RowAt w' 5 g c (bs l) ∧ Below w.heap.size w w'

set_option maxHeartbeats 4000000 in
theorem encsuper_ok (s l n : Nat) (w : World) (hg : Geo s l n) :
    Calls Try.prog 57 #[.agg #[.int .i64 (s : Int), .int .i64 (l : Int), .int .i64 (n : Int)]] w fun e w' => ∃ v, e = .returned (.tuple #[v, .int .i64 0]) ∧ Made w w' v (sealed (supBody s l n)) := by
  obtain ⟨⟨l1, l2⟩, ⟨n1, n2⟩, h3, s1, s2⟩ := hg
  have hp := fun w => plan_good s l n w l1 l2 n1 n2 h3 s1 s2
  clear h3
  go_enter Try.func57, Try.ntmps57
  go_wp2_with fail
  refine (hp _).mono ?_
  rintro e w1 ⟨rfl, hb1⟩
  have hB1 : Below w.heap.size w w1 := ((Below.refl _ w).alloc (Nat.le_refl _) _).trans (hb1.mono (by simp))
  have hq : w1.heap[w.heap.size]? = some (.cells #[.int .i64 (s : Int), .int .i64 (l : Int), .int .i64 (n : Int)] 85 (0, 0)) := (hb1.block _ (by simp)).trans (heap_alloc_new _ _)
  have hql : w.heap.size < w1.heap.size := (Array.getElem?_eq_some_iff.1 hq).1
  have hnew : ∀ o, WAt ((w1.alloc o).alloc (.cells #[.slice none 0 0] 125)) (w1.heap.size + 1) (w1.heap.size + 1) [] := fun o => by have := WAt.new (w1.alloc o); simpa using this
  have hold : ∀ o, Below w.heap.size w ((w1.alloc o).alloc (.cells #[.slice none 0 0] 125)) ∧ ((w1.alloc o).alloc (.cells #[.slice none 0 0] 125)).heap[w.heap.size]? = some (.cells #[.int .i64 (s : Int), .int .i64 (l : Int), .int .i64 (n : Int)] 85 (0, 0)) := fun o =>
    ⟨(hB1.alloc (by omega) _).alloc (by simp; omega) _, (Below.heap_alloc _ _ _ (by simp; omega)).trans ((Below.heap_alloc _ _ _ hql).trans hq)⟩
  have htx := fun o => wtext_any (w1.heap.size + 1) (w1.heap.size + 1) [] headB _ (hnew o) (by decide) (by decide)
  have Hold := Hid.mk hold
  have hne : ¬ w.heap.size = w1.heap.size + 1 := by omega
  have hlt : w.heap.size < w1.heap.size + 1 := by omega
  clear hp hb1 hB1 hq hnew hold
  go_wp2_with fail
  refine (htx _).mono ?_
  rintro e w2 ⟨rfl, hat2, hb2⟩
  obtain ⟨hB2, hq2⟩ : Below w.heap.size w w2 ∧ w2.heap[w.heap.size]? = some (.cells #[.int .i64 (s : Int), .int .i64 (l : Int), .int .i64 (n : Int)] 85 (0, 0)) := ⟨(Hold.out _).1.trans (hb2.mono (by omega)), (hb2.block _ hlt).trans (Hold.out _).2⟩
  rw [head_txt, List.nil_append] at hat2
  have c2 := cell_of_block hq2 (j := 0) rfl
  have hn2 : Calls Try.prog 87 #[.pointer (some ⟨w1.heap.size + 1, 0, none⟩), .int .i64 (s : Int), .int .i64 4] w2 fun e w' => e = .returned (.tuple #[]) ∧ WAt w' (w1.heap.size + 1) (w1.heap.size + 1) (headL ++ leb 4 s) ∧ Below (w1.heap.size + 1) w2 w' := wnumber_any _ _ _ s 4 w2 hat2 (by decide) (by omega)
  have HB2 := Hid.mk hB2
  have HQ2 := Hid.mk hq2
  clear htx hat2 hb2 hB2 hq2 Hold
  go_wp2_with fail
  refine hn2.mono ?_
  rintro e w3 ⟨rfl, hat3, hb3⟩
  obtain ⟨hB3, hq3⟩ : Below w.heap.size w w3 ∧ w3.heap[w.heap.size]? = some (.cells #[.int .i64 (s : Int), .int .i64 (l : Int), .int .i64 (n : Int)] 85 (0, 0)) := ⟨HB2.out.trans (hb3.mono (by omega)), (hb3.block _ hlt).trans HQ2.out⟩
  have c3 := cell_of_block hq3 (j := 1) rfl
  have hn3 : Calls Try.prog 87 #[.pointer (some ⟨w1.heap.size + 1, 0, none⟩), .int .i64 (l : Int), .int .i64 4] w3 fun e w' => e = .returned (.tuple #[]) ∧ WAt w' (w1.heap.size + 1) (w1.heap.size + 1) (headL ++ leb 4 s ++ leb 4 l) ∧ Below (w1.heap.size + 1) w3 w' := wnumber_any _ _ _ l 4 w3 hat3 (by rw [List.length_append, leb_len]; decide) (by omega)
  have HB3 := Hid.mk hB3
  have HQ3 := Hid.mk hq3
  clear hn2 hat3 hb3 hB3 hq3 HB2 HQ2 c2
  go_wp2_with fail
  refine hn3.mono ?_
  rintro e w4 ⟨rfl, hat4, hb4⟩
  obtain ⟨hB4, hq4⟩ : Below w.heap.size w w4 ∧ w4.heap[w.heap.size]? = some (.cells #[.int .i64 (s : Int), .int .i64 (l : Int), .int .i64 (n : Int)] 85 (0, 0)) := ⟨HB3.out.trans (hb4.mono (by omega)), (hb4.block _ hlt).trans HQ3.out⟩
  have c4 := cell_of_block hq4 (j := 2) rfl
  have hn4 : Calls Try.prog 87 #[.pointer (some ⟨w1.heap.size + 1, 0, none⟩), .int .i64 (n : Int), .int .i64 4] w4 fun e w' => e = .returned (.tuple #[]) ∧ WAt w' (w1.heap.size + 1) (w1.heap.size + 1) (headL ++ leb 4 s ++ leb 4 l ++ leb 4 n) ∧ Below (w1.heap.size + 1) w4 w' := wnumber_any _ _ _ n 4 w4 hat4 (by rw [List.length_append, List.length_append, leb_len, leb_len]; decide) (by omega)
  have HB4 := Hid.mk hB4
  clear hn3 hat4 hb4 hB4 hq4 HB3 HQ3 c3
  go_wp2_with fail
  refine hn4.mono ?_
  rintro e w5 ⟨rfl, hat5, hb5⟩
  have hB5 : Below w.heap.size w w5 := HB4.out.trans (hb5.mono (by omega))
  have e20 : (headL ++ leb 4 s ++ leb 4 l ++ leb 4 n).length = 20 := by rw [List.length_append, List.length_append, List.length_append, leb_len, leb_len, leb_len]; rfl
  have hn5 : Calls Try.prog 88 #[.pointer (some ⟨w1.heap.size + 1, 0, none⟩), .int .i64 508] w5 fun e w' => e = .returned (.tuple #[]) ∧ WAt w' (w1.heap.size + 1) (w1.heap.size + 1) (supBody s l n) ∧ Below (w1.heap.size + 1) w5 w' := by
    have := wzeros_any _ _ _ 488 w5 hat5 (by rw [e20]; decide) (by rw [e20]; decide)
    rw [e20] at this
    exact this
  have HB5 := Hid.mk hB5
  clear hn4 hat5 hb5 hB5 HB4 c4 e20
  go_wp2_with fail
  refine hn5.mono ?_
  rintro e w6 ⟨rfl, hat6, hb6⟩
  have hB6 : Below w.heap.size w w6 := HB5.out.trans (hb6.mono (by omega))
  have hn6 := wsummed_any _ _ _ w6 hat6 (by rw [supBody_len]; decide) (by rw [supBody_len]; decide) (supBody_bytes s l n)
  rw [supBody_len] at hn6
  have HB6 := Hid.mk hB6
  clear hn5 hat6 hb6 hB6 HB5
  go_wp2_with fail
  refine hn6.mono ?_
  rintro e w7 ⟨g, c, rfl, hg, hr, hb7⟩
  have HF : Hid (Made w w7 (.slice (some ⟨g, 0, none⟩) 512 c) (sealed (supBody s l n))) := ⟨g, c, by rw [sealed_len, supBody_len], by omega, hr, HB6.out.trans (hb7.mono (by omega))⟩
  clear hn6 hr hb7 HB6
  go_wp2
  go_ret2
  exact ⟨_, rfl, HF.out⟩

set_option maxHeartbeats 2000000 in
theorem encsuper_bad (s l n : Int) (w : World) (hg : ¬ Geo s l n) :
    Calls Try.prog 57 #[.agg #[.int .i64 s, .int .i64 l, .int .i64 n]] w fun e w' => e = .returned (.tuple #[.slice none 0 0, .int .i64 22]) ∧ Below w.heap.size w w' := by
  have hp : ∀ w, Calls Try.prog 102 #[.agg #[.int .i64 s, .int .i64 l, .int .i64 n]] w fun e w' => e = .returned (.tuple #[.agg #[.int .i64 0, .int .i64 0, .int .i64 0, .int .i64 0, .int .i64 0], .int .i64 22]) ∧ Below w.heap.size w w' := fun w => by
    refine (plan_any s l n w).mono ?_
    rintro e w' ⟨v, x, rfl, ⟨h, _⟩ | ⟨_, rfl, rfl⟩, hb⟩
    · exact absurd h hg
    · exact ⟨rfl, hb⟩
  clear hg
  go_enter Try.func57, Try.ntmps57
  go_wp2_with fail
  refine (hp _).mono ?_
  rintro e w1 ⟨rfl, hb1⟩
  have hB1 : Below w.heap.size w w1 := ((Below.refl _ w).alloc (Nat.le_refl _) _).trans (hb1.mono (by simp))
  have HB := Hid.mk (fun o => hB1.alloc hB1.size o)
  clear hp hb1 hB1
  go_wp2
  go_ret2
  exact ⟨rfl, HB.out _⟩
end Go.Proofs.Ytkkmkogpbhcpmaa
