import Derived.Test.YtodleeipefnadaaKBase
import Derived.Test.YtodleeipefnadaaSM
import Derived.OwnWalk
import Derived.RegionTactic
import Derived.BigRegion
import Derived.Deep.RegionLaw
namespace Go.Proofs.Ytodleeipefnadaa
open Go.RowKit

/-- A list that a call made: v is a slice of l, its memory (if any) at B or above. -/
def Own (w : World) (B : Nat) (v : Value) (l : List Int) : Prop := w.ownsRow B 5 1 v l.length (bs l)
theorem Own.nil (w : World) (B : Nat) : Own w B (.slice none 0 0) [] := ⟨by simp, .inl ⟨rfl, rfl⟩⟩
theorem Own.src {w : World} {B : Nat} {v : Value} {l : List Int} (h : Own w B v l) : ∃ a c, v = .slice a l.length c ∧ Src w a l.length l ∧ l.length ≤ c ∧ (∀ x, a = some x → B ≤ x.block ∧ x.off = 0) := by
  by_cases hv : v = .slice none 0 0
  · subst hv
    have h0 : l.length = 0 := by
      obtain ⟨_, ⟨_, hn⟩ | ⟨g, c, cur, e, _⟩⟩ := h
      · exact hn
      · cases e
    obtain rfl := List.eq_nil_of_length_eq_zero h0
    exact ⟨none, 0, rfl, ⟨rfl, fun _ => rfl, fun x hx => by cases hx⟩, Nat.le_refl _, fun x hx => by cases hx⟩
  · obtain ⟨g, c, rfl, hg, hr, _⟩ := RowAt.of_owns h hv
    refine ⟨some ⟨g, 0, none⟩, c, rfl, hr.src, ?_, fun x hx => by cases hx; exact ⟨hg, rfl⟩⟩
    have := hr.le
    simpa [bs] using this
theorem Own.row {w : World} {B : Nat} {a : Option Addr} {n c : Nat} {l : List Int} (h : Own w B (.slice a n c) l) (h0 : 0 < l.length) : ∃ g, a = some ⟨g, 0, none⟩ ∧ n = l.length ∧ B ≤ g ∧ RowAt w 5 g c (bs l) := by
  obtain ⟨g, c', e, hg, hr, _⟩ := RowAt.of_owns h (by
    intro e
    cases e
    obtain ⟨_, ⟨_, hn⟩ | ⟨g, c, cur, e, _⟩⟩ := h
    · omega
    · cases e)
  cases e
  exact ⟨g, rfl, rfl, hg, hr⟩
theorem Own.later {w w' : World} {B : Nat} {v : Value} {l : List Int} (h : Own w B v l) (hb : Below w.heap.size w w') : Own w' B v l := by
  by_cases hv : v = .slice none 0 0
  · subst hv
    obtain ⟨h1, ⟨_, hn⟩ | ⟨g, c, cur, e, _⟩⟩ := h
    · exact ⟨h1, .inl ⟨rfl, hn⟩⟩
    · cases e
  · obtain ⟨g, c, rfl, hg, hr, hl⟩ := RowAt.of_owns h hv
    have hr' := hr.agree (hb.block g hr.lt)
    have hle := hr'.le
    obtain ⟨cur, hb', hc, ht, hm⟩ := hr'
    have hl' : (bs l).length = l.length := by simp [bs]
    exact ⟨by simp [bs], .inr ⟨g, c, cur, rfl, hg, hb', by omega, hm, by simpa using hc, by rw [hl'] at ht; simpa using ht⟩⟩
theorem Own.down {w : World} {B B' : Nat} {v : Value} {l : List Int} (h : Own w B v l) (hB : B' ≤ B) : Own w B' v l := by
  obtain ⟨h1, h2 | ⟨g, c, cur, e, hg, h3⟩⟩ := h
  · exact ⟨h1, .inl h2⟩
  · exact ⟨h1, .inr ⟨g, c, cur, e, by omega, h3⟩⟩

theorem bs_append (a b : List Int) : bs (a ++ b) = bs a ++ bs b := List.map_append
theorem bs_snoc (a : List Int) (x : Int) : bs a ++ [.int .u8 x] = bs (a ++ [x]) := by rw [bs_append]; rfl
theorem take_snoc (l : List Int) (k : Nat) (h : k < l.length) : l.take k ++ [l.getD k 0] = l.take (k + 1) := by
  rw [List.take_succ_eq_append_getElem h]
  simp [List.getD, h]
theorem bs_take_succ (l : List Int) (k : Nat) (h : k < l.length) : bs (l.take k) ++ [.int .u8 (l.getD k 0)] = bs (l.take (k + 1)) := by
  rw [bs_snoc, take_snoc l k h]

set_option maxHeartbeats 4000000 in
theorem ltwin_low (b o n c : Nat) (l : List Int) (w : World) (hl : l.length = n) (hn : n ≤ 140737488355328) (hs : ∀ i, i < n → w.cell? ⟨b, o + i, none⟩ = some (.int .u8 (l.getD i 0))) :
    Calls Try.prog 34 #[.slice (some ⟨b, o, none⟩) n c] w fun e w' => ∃ v, e = .returned v ∧ Own w' w.heap.size v l ∧ Below w.heap.size w w' := by
  obtain ⟨i0, hi, hz0, hz1, hz2⟩ := info_parts infoU8
  have H := Hid.mk hs
  clear hs
  go_enter Try.func34, Try.ntmps34
  go_wp2
  go_loopw [3, 4] (fun v i wr => ∃ k : Nat, k ≤ n ∧ i = .int .i64 k ∧ wr.ownsRow w.heap.size 5 1 v k (bs (l.take k)) ∧ Below w.heap.size w wr) (fun _ i _ => n - (intOf i).toNat)
  case atStart => exact ⟨0, Nat.zero_le _, rfl, ⟨by simp, .inl ⟨rfl, rfl⟩⟩, Below.refl _ _⟩
  case round =>
    obtain ⟨k, hk, rfl, hown, hbr⟩ := hrel
    by_cases hlt : k < n
    · have hlt' : (k : Int) < (n : Int) := by omega
      have hc := cell_later hbr (H.out k hlt)
      have hz := hbr.size
      have eN := bs_take_succ l k (by omega)
      obtain ⟨X, hX⟩ : ∃ X, X = bs (l.take k) := ⟨_, rfl⟩
      rw [← hX] at hown eN
      have Hown := Hid.mk hown
      have HB := Hid.mk hbr
      have HeN := Hid.mk eN
      clear hown hbr eN hX
      generalize hx : l.getD k 0 = x at *
      go_wp2_with (at_builtin; refine wpList_append_own _ rfl _ _ 30 rfl w.heap.size 5 i0 (.int .u8 0) 1 1 Try.underlying30 hi hz0 hz1 hz2 rfl (by decide) _ _ _ rfl (Hown.out.alloc _) ⟨wr.heap.size, 0, none⟩ 1 1 [.int .u8 x] rfl rfl ?n1 ?n2 ?n3 ?n4 ?n5 ?_)
      case n1 => exact cell_one_new _ _ _
      case n2 => intro u hu; simp at hu; subst hu; rfl
      case n3 => unfold maxLen; omega
      case n4 => omega
      case n5 => simp; omega
      intro v' w1 hown' hgrow' hnil
      have HO : Hid (w1.ownsRow w.heap.size 5 1 v' (k + 1) (bs (l.take (k + 1)))) := by rw [← HeN.out]; exact hown'
      have HB1 : Hid (Below w.heap.size w w1) := (HB.out.alloc hz _).grown hgrow' (by simp; omega) (fun q e => (Hown.out.lt q e).1)
      clear hown' hgrow' hnil HeN Hown HB
      go_wp2
      go_roundw
      case rel => exact ⟨k + 1, by omega, by go_num, HO.out, HB1.out⟩
      case measure => simp [intOf]; omega
    · have hlt' : ¬ (k : Int) < (n : Int) := by omega
      have e : l.take k = l := List.take_of_length_le (by omega)
      have e2 : k = l.length := by omega
      rw [e, e2] at hown
      have Hown : Hid (Own wr w.heap.size _ l) := hown
      clear hown
      go_wp2
      go_ret
      exact ⟨_, rfl, Hown.out, hbr⟩
set_option maxHeartbeats 1000000 in
theorem ltwin_none (a : Option Addr) (c : Nat) (w : World) :
    Calls Try.prog 34 #[.slice a 0 c] w fun e w' => e = .returned (.slice none 0 0) ∧ Below w.heap.size w w' := by
  have HB := Hid.mk (Below.refl w.heap.size w)
  go_enter Try.func34, Try.ntmps34
  go_wp2
  refine wp_loop_rounds 1 ?_; rw [rounds_succ]; go_wp2
  go_ret
  exact ⟨rfl, HB.out⟩
theorem ltwin_any (a : Option Addr) (n c : Nat) (l : List Int) (w : World) (hn : n ≤ 140737488355328) (hs : Src w a n l) :
    Calls Try.prog 34 #[.slice a n c] w fun e w' => ∃ v, e = .returned v ∧ Own w' w.heap.size v l ∧ Below w.heap.size w w' := by
  by_cases h0 : n = 0
  · subst h0
    have : l = [] := List.eq_nil_of_length_eq_zero hs.1
    subst this
    refine (ltwin_none a c w).mono ?_
    rintro e w' ⟨rfl, hb⟩
    exact ⟨_, rfl, Own.nil _ _, hb⟩
  · cases a with
    | none => exact absurd (hs.2.1 rfl) h0
    | some x =>
      obtain ⟨b, o, rfl, k⟩ := hs.spot (by omega)
      exact ltwin_low b o n c l w hs.1 hn k
end Go.Proofs.Ytodleeipefnadaa
