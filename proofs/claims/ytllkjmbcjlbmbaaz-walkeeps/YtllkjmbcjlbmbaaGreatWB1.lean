import Derived.Test.YtllkjmbcjlbmbaaGreatWT4
import Derived.Test.YtllkjmbcjlbmbaaGreatRV15
namespace Go.Proofs.YtllkjmbcjlbmbaaGreat
open Go.RowKit Go.Maps

/-- Lists of bytes as they are told by a list of them. -/
def LLs (w : World) (a : Option Addr) (rs : List (List Int)) : Prop := ∀ i (hi : i < rs.length), ∃ b x y, a = some ⟨b, 0, none⟩ ∧ w.cell? ⟨b, i, none⟩ = some (.slice x (rs[i]).length y) ∧ Src w x (rs[i]).length rs[i]
theorem LLs.take {w : World} {a : Option Addr} {rs : List (List Int)} (h : LLs w a rs) (k : Nat) : LLs w a (rs.take k) := fun i hi => by
  have hi2 : i < rs.length := by rw [List.length_take] at hi; omega
  obtain ⟨b, x, y, h1, h2, h3⟩ := h i hi2
  rw [List.getElem_take]
  exact ⟨b, x, y, h1, h2, h3⟩
theorem LLs.later {w w' : World} {a : Option Addr} {rs : List (List Int)} (h : LLs w a rs) (hb : Below w.heap.size w w') : LLs w' a rs := fun i hi => by
  obtain ⟨b, x, y, h1, h2, h3⟩ := h i hi
  exact ⟨b, x, y, h1, cell_later hb h2, h3.later hb⟩
theorem RecsAt.lls {W : World} {B : Nat} {v : Value} {rs : List (List Int)} {X : Nat → Prop} (h : RecsAt W B v rs X) : ∃ a c, v = .slice a rs.length c ∧ rs.length ≤ c ∧ LLs W a rs := by
  obtain ⟨vs, h1, h2⟩ := h
  by_cases h0 : rs.length = 0
  · obtain ⟨hl, ⟨rfl, h3⟩ | ⟨g, cap, cur, rfl, hg, hb, h4⟩⟩ := h1
    · exact ⟨none, 0, by rw [h0], by omega, fun i hi => by omega⟩
    · exact ⟨_, _, rfl, by omega, fun i hi => by omega⟩
  · obtain ⟨g, c, rfl, hg, hr, _⟩ := RowAt.of_owns h1 (by
      intro e
      obtain ⟨hl, ⟨rfl, h3⟩ | ⟨g, cap, cur, rfl, hg, hb, h4⟩⟩ := h1
      · exact h0 h3
      · cases e)
    have hvl : vs.length = rs.length := by have := h1.1; simpa using this
    refine ⟨_, _, rfl, by have := hr.le; omega, fun i hi => ?_⟩
    obtain ⟨g2, c2, e1, e2, e3, _⟩ := h2 i hi
    exact ⟨g, _, c2, rfl, hr.cell e1, by have := e2.src; simpa using this⟩

set_option maxRecDepth 20000 in
set_option maxHeartbeats 2000000 in
theorem alikeG {w : World} {a a' : Option Addr} {c c' : Nat} {rs : List (List Int)} (h1 : LLs w a rs) (h2 : LLs w a' rs) (hn : rs.length ≤ 1000000) (hl : ∀ i (hi : i < rs.length), (rs[i]).length ≤ 1000000) :
    Calls Tryz.prog 72 #[.slice a rs.length c, .slice a' rs.length c'] w fun e w' => e = .returned (.bool true) ∧ Below w.heap.size w w' := by
  have H1 := Hid.mk h1
  have H2 := Hid.mk h2
  have hne : (((rs.length : Nat) : Int) != ((rs.length : Nat) : Int)) = false := by simp
  clear h1 h2
  go_enter Tryz.func72, Tryz.ntmps72
  go_wp2
  go_loopw [5] (fun i wr => ∃ j : Nat, j ≤ rs.length ∧ i = .int .i64 (j : Int) ∧ Below w.heap.size w wr) (fun i _ => rs.length - (intOf i).toNat)
  case atStart => exact ⟨0, Nat.zero_le _, rfl, Below.refl _ _⟩
  case round =>
    obtain ⟨j, hj, rfl, hbr⟩ := hrel
    have HB := Hid.mk hbr
    have hz := hbr.size
    by_cases hlt : j < rs.length
    · have hlt' : (j : Int) < (rs.length : Int) := by omega
      obtain ⟨b, x, y, rfl, c1, s1⟩ := H1.out j hlt
      obtain ⟨b', x', y', rfl, c2, s2⟩ := H2.out j hlt
      have c1 := cell_later hbr c1
      have c2 := cell_later hbr c2
      have h3 := same_any x x' (rs[j]).length y y' rs[j] wr.drew (by have := hl j hlt; omega) ((s1.later hbr).later (below_drew (Below.refl wr.heap.size wr))) ((s2.later hbr).later (below_drew (Below.refl wr.heap.size wr)))
      clear hbr s1 s2
      go_wp2_with fail
      go_region_held3 (fun w' => w'.cell? ⟨b, j, none⟩ = some (.slice x (rs[j]).length y) ∧ w'.cell? ⟨b', j, none⟩ = some (.slice x' (rs[j]).length y'))
        (first | exact ⟨c1, c2⟩ | exact ⟨cell_later hw1 c1, cell_later hw1 c2⟩)
        ((go_at_call 27; refine h3.mono ?_; rintro e w1 ⟨rfl, hw1⟩))
      have HB1 : Hid (Below w.heap.size w w1) := HB.out.trans ((below_drew (Below.refl wr.heap.size wr)).trans hw1 |>.mono hz)
      clear h3 hw1
      go_wp2
      go_roundw
      case rel => exact ⟨j + 1, by omega, by go_num, HB1.out⟩
      case measure => simp [intOf]; omega
    · obtain rfl : j = rs.length := by omega
      have hge : ¬ (rs.length : Int) < (rs.length : Int) := by omega
      go_wp2
      go_ret
      exact ⟨rfl, HB.out⟩

/-- What may be told. -/
def May (ds : List (List Int)) (low : Nat) (nn : Bool) (rs : List (List Int)) : Prop := (nn = true ∧ rs = []) ∨ (low ≤ rs.length ∧ rs.length ≤ ds.length ∧ rs = ds.take rs.length)

set_option maxRecDepth 20000 in
set_option maxHeartbeats 2000000 in
theorem may_any {w : World} {bb : Nat} {la a : Option Addr} {lc c low : Nat} {nn : Bool} {ds rs : List (List Int)} (hb : w.heap[bb]? = some (.cells #[.slice la ds.length lc, .int .i64 (low : Int), .bool nn] 31 (0, 0))) (hL : LLs w la ds) (hlc : ds.length ≤ lc) (hR : LLs w a rs) (hm : May ds low nn rs) (hn : rs.length ≤ 1000000) (hl : ∀ i (hi : i < rs.length), (rs[i]).length ≤ 1000000) :
    Calls Tryz.prog 49 #[.pointer (some ⟨bb, 0, none⟩), .slice a rs.length c] w fun e w' => e = .returned (.bool true) ∧ Below w.heap.size w w' := by
  have c0 := cell_of_block hb (j := 0) rfl
  have c1 := cell_of_block hb (j := 1) rfl
  have c2 := cell_of_block hb (j := 2) rfl
  clear hb
  by_cases hq : nn = true ∧ rs = []
  · obtain ⟨rfl, rfl⟩ := hq
    have HB := Hid.mk (Below.refl w.heap.size w)
    clear hL hR hm hl
    go_enter Tryz.func49, Tryz.ntmps49
    go_wp2
    go_ret
    exact ⟨rfl, HB.out⟩
  · obtain ⟨h1, h2, h3⟩ := hm.resolve_left hq
    have h4 := hL.take rs.length
    rw [← h3] at h4
    have hal := fun c c' => alikeG (c := c) (c' := c') hR h4 hn hl
    have hz : nn = false ∨ (nn = true ∧ ((rs.length : Int) == 0) = false) := by
      cases nn with
      | false => exact .inl rfl
      | true => exact .inr ⟨rfl, by rw [beq_eq_false_iff_ne]; intro e; exact hq ⟨rfl, List.eq_nil_of_length_eq_zero (by omega)⟩⟩
    have g1 : ¬ ((rs.length : Int) < (low : Int)) := by omega
    have g2 : ¬ ((ds.length : Int) < (rs.length : Int)) := by omega
    have g3 : (rs.length : Int) ≤ (lc : Int) := by omega
    have g4 : (0 : Int) ≤ (rs.length : Int) := by omega
    clear hL hR hm hl h4 h3 hq
    rcases hz with rfl | ⟨rfl, hz⟩
    · go_enter Tryz.func49, Tryz.ntmps49
      go_wp2_with fail
      refine (hal _ _).mono ?_
      rintro e w1 ⟨rfl, hb1⟩
      have HB := Hid.mk hb1
      clear hb1 hal
      go_wp2
      go_ret
      exact ⟨rfl, HB.out⟩
    · go_enter Tryz.func49, Tryz.ntmps49
      go_wp2_with fail
      refine (hal _ _).mono ?_
      rintro e w1 ⟨rfl, hb1⟩
      have HB := Hid.mk hb1
      clear hb1 hal
      go_wp2
      go_ret
      exact ⟨rfl, HB.out⟩
section
variable {w : World} {F : Nat → Prop} {p s l : Nat} {S : DS} {L : LG}
/-- A dead log's calls. -/
theorem append_dead (h : DiskR w F p s S) (hl : LogP w l p L) (hk : L.Ok s) (hd : L.dead S = true) (a : Option Addr) (x k : Nat) (hx : x ≤ 140737488355328) :
    Calls Tryz.prog 8 #[.pointer (some ⟨l, 0, none⟩), .slice a x k] w fun e w' => e = .returned (.int .i64 3) ∧ Below w.heap.size w w' := by
  have hu : L.unready S = 3 := by unfold LG.unready; rw [if_pos hd]
  have hr : L.refuses S x = 3 := by unfold LG.refuses; rw [if_pos (by rw [hu]; decide), hu]
  have := Append_no h hl hk a x k hx (by rw [hr]; decide)
  rw [hr] at this
  exact this
set_option maxRecDepth 20000 in
set_option maxHeartbeats 2000000 in
theorem sync_dead (h : DiskR w F p s S) (hl : LogP w l p L) (hd : L.dead S = true) :
    Calls Tryz.prog 10 #[.pointer (some ⟨l, 0, none⟩)] w fun e w' => e = .returned (.int .i64 3) ∧ Below w.heap.size w w' := by
  have h1 := unready_any h hl
  have hu : L.unready S = 3 := by unfold LG.unready; rw [if_pos hd]
  rw [hu] at h1
  have c0 := hl.c0
  clear h hl
  go_enter Tryz.func10, Tryz.ntmps10
  go_wp2_with fail
  refine h1.mono ?_
  rintro e w1 ⟨rfl, hb⟩
  have HB := Hid.mk hb
  clear hb h1
  go_wp2
  go_ret
  exact ⟨rfl, HB.out⟩
set_option maxRecDepth 20000 in
set_option maxHeartbeats 2000000 in
theorem trim_dead (h : DiskR w F p s S) (hl : LogP w l p L) (hd : L.dead S = true) :
    Calls Tryz.prog 11 #[.pointer (some ⟨l, 0, none⟩)] w fun e w' => e = .returned (.int .i64 3) ∧ Below w.heap.size w w' := by
  have h1 := sync_dead h hl hd
  clear h hl
  go_enter Tryz.func11, Tryz.ntmps11
  go_wp2_with fail
  refine h1.mono ?_
  rintro e w1 ⟨rfl, hb⟩
  have HB := Hid.mk hb
  clear hb h1
  go_wp2
  go_ret
  exact ⟨rfl, HB.out⟩
end
end Go.Proofs.YtllkjmbcjlbmbaaGreat
