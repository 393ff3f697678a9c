import Derived.Test.YtodleeipefnadacKQ1
import Derived.Test.YtodleeipefnadacSMT
namespace Go.Proofs.Ytodleeipefnadac
open Go.RowKit

theorem leb8 (n : Nat) : leb 8 n = bytes8 n := by
  rw [bytes8_eq]
  simp only [leb, Nat.div_div_eq_div_mul]
theorem own_blk {w : World} {B g n : Nat} {p q : List Int} (h : Blk w 5 g (p ++ q)) (hg : B ≤ g) (hn : n = (p ++ q).length) (hm : n ≤ maxLen) : Own w B (.slice (some ⟨g, 0, none⟩) p.length n) p := by
  subst hn
  refine ⟨by simp [bs], .inr ⟨g, (p ++ q).length, _, rfl, hg, h, by simp, hm, by simp [bs], ?_⟩⟩
  rw [bs_append]
  simp [bs]

theorem Own.capz {w : World} {B : Nat} {a : Option Addr} {n c : Nat} {l : List Int} (h : Own w B (.slice a n c) l) : a = none → c = 0 := by
  rintro rfl
  obtain ⟨_, ⟨e, _⟩ | ⟨g, c', cur, e, _⟩⟩ := h
  · cases e; rfl
  · cases e

set_option maxRecDepth 20000 in
set_option maxHeartbeats 4000000 in
theorem anchorBody_any (N : Nat) (a : Option Addr) (n c : Nat) (l : List Int) (w : World) (hN : N < 9223372036854775808) (hs : Src w a n l) (hn : n ≤ 496) (hca : a = none → c = 0) :
    Calls Try.prog 50 #[.int .i64 (N : Int), .slice a n c] w fun e w' => ∃ v, e = .returned v ∧ Own w' w.heap.size v (bytes8 N ++ l) ∧ Below w.heap.size w w' := by
  obtain ⟨i0, hi, hz0, hz1, hz2⟩ := info_parts infoU8
  have H := Hid.mk hs
  have hl := hs.1
  clear hs
  have hN' : (N : Int) < 9223372036854775808 := by omega
  go_enter Try.func50, Try.ntmps50
  go_wp2_with (at_make; refine wpList_make_part _ rfl _ _ rfl _ 8 (8 + n) rfl rfl ?c1 ?c2 ?c3 ?_)
  case c1 => omega
  case c2 => omega
  case c3 => omega
  intro w1 hblk hb1
  have hl1 := lay_any w.heap.size 0 8 (8 + n) N 5 (zs (8 + n)) w1 hblk (by omega) (by rw [zs_len]; omega)
  have e1 : put (zs (8 + n)) 0 (leb 8 N) = bytes8 N ++ zs n := by
    rw [leb8, put, zs_add, bytes8_len]
    simp only [List.take_zero, List.nil_append, Nat.zero_add]
    rw [List.drop_left' (zs_len 8)]
  rw [e1] at hl1
  have HB1 := Hid.mk hb1
  clear hblk hb1 e1
  go_wp2_with fail
  refine hl1.mono ?_
  rintro e w2 ⟨rfl, hblk2, hk2, hz2'⟩
  have hB2 : Below w.heap.size w w2 := HB1.out.trans (hk2.below (fun j hj => by omega) HB1.out.size)
  have hown : Own w2 w.heap.size (.slice (some ⟨w.heap.size, 0, none⟩) (bytes8 N).length (8 + n)) (bytes8 N) := own_blk hblk2 (Nat.le_refl _) (by rw [List.length_append, bytes8_len, zs_len]) (by unfold maxLen; omega)
  rw [bytes8_len] at hown
  have hrow : w2.ownsRow w.heap.size 5 1 (.slice (some ⟨w.heap.size, 0, none⟩) 8 (8 + n)) 8 (bs (bytes8 N)) := by
    have := hown
    unfold Own at this
    rwa [bytes8_len] at this
  have Hrow := Hid.mk hrow
  have Hown := Hid.mk hown
  have HB2 := Hid.mk hB2
  have hz := hB2.size
  clear hl1 hblk2 hk2 hz2' hB2 hown hrow HB1
  cases a with
  | none =>
    have hn0 : n = 0 := H.out.2.1 rfl
    subst hn0
    have hl0 : l = [] := List.eq_nil_of_length_eq_zero hl
    subst hl0
    have hc0 := hca rfl
    subst hc0
    go_wp2_with (at_builtin; refine wpList_append_own_none rfl _ _ 22 rfl w.heap.size 5 i0 1 Try.underlying22 hi _ 8 (bs (bytes8 N)) rfl Hrow.out rfl ?_)
    go_ret
    exact ⟨_, rfl, by rw [List.append_nil]; exact Hown.out, HB2.out⟩
  | some x =>
    have hcells := Hid.mk (fun j u (hj : (bs l)[j]? = some u) => show w2.cell? (x.add j) = some u by
      obtain ⟨hj1, rfl⟩ := bs_getElem hj
      exact cell_later HB2.out (H.out.2.2 _ rfl j (by omega)))
    have hll : (bs l).length = n := by rw [bs, List.length_map, hl]
    go_wp2_with (at_builtin; refine wpList_append_own _ rfl _ _ 22 rfl w.heap.size 5 i0 (.int .u8 0) 1 1 Try.underlying22 hi hz0 hz1 hz2 rfl (by decide) _ 8 (bs (bytes8 N)) rfl Hrow.out x n c (bs l) rfl ?n0 hcells.out ?n2 ?n3 ?n4 ?n5 ?_)
    case n0 => omega
    case n2 => exact bs_one _
    case n3 => unfold maxLen; omega
    case n4 => omega
    case n5 => exact hz
    intro v' w3 hown' hgrow' _
    rw [← bs_append] at hown'
    have HO := Hid.mk (own_of (m := bytes8 N ++ l) hown' (by rw [List.length_append, bytes8_len]; omega) rfl)
    have HB3 := Hid.mk (HB2.out.grown hgrow' hz (fun q e => (Hrow.out.lt q e).1))
    clear hown' hgrow'
    go_wp2
    go_ret
    exact ⟨_, rfl, HO.out, HB3.out⟩
end Go.Proofs.Ytodleeipefnadac
