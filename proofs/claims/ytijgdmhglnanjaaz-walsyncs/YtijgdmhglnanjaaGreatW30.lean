import Derived.Test.YtijgdmhglnanjaaGreatW29
section
namespace Go.Proofs.YtijgdmhglnanjaaGreat
open Go.RowKit

theorem drop_take_cons {l : List Int} {p m : Nat} (hp : p < l.length) : (l.drop p).take (m + 1) = l.getD p 0 :: (l.drop (p + 1)).take m := by
  rw [List.drop_eq_getElem_cons hp, List.take_succ_cons]
  simp [List.getD, List.getElem?_eq_getElem hp]

set_option maxRecDepth 20000 in
set_option maxHeartbeats 4000000 in
theorem rnumber_any (a : Option Addr) (m c : Nat) (l : List Int) (w : World) (hs : Src w a m l) (hb : Bytes l) (at_ n : Nat) (hn : n ≤ 4) (hat : at_ + n ≤ m) (hm : m ≤ 140737488355328) :
    Calls Tryz.prog 118 #[.slice a m c, .int .i64 (at_ : Int), .int .i64 (n : Int)] w fun e w' => e = .returned (.int .i64 ((le ((l.drop at_).take n) : Nat) : Int)) ∧ w' = w := by
  have hl := hs.1
  have HS := Hid.mk hs
  clear hs
  go_enter Tryz.func118, Tryz.ntmps118
  go_wp2
  go_loopw [7, 8] (fun v i wr => ∃ j : Nat, j ≤ n ∧ i = .int .i64 ((j : Int) - 1) ∧ v = .int .i64 ((le ((l.drop (at_ + j)).take (n - j)) : Nat) : Int) ∧ wr = w) (fun _ i _ => (intOf i + 1).toNat)
  case atStart => exact ⟨n, Nat.le_refl _, rfl, by simp [le], rfl⟩
  case round =>
    obtain ⟨j, hj, rfl, rfl, rfl⟩ := hrel
    by_cases q : 1 ≤ j
    · obtain ⟨i, rfl⟩ : ∃ i, j = i + 1 := ⟨j - 1, by omega⟩
      have hge : (0 : Int) ≤ ((i + 1 : Nat) : Int) - 1 := by omega
      have hle := le_room (hb.drop (at_ + (i + 1))|>.take (n - (i + 1))) (k := 3) (by rw [List.length_take]; omega)
      have e1 := drop_take_cons (l := l) (p := at_ + i) (m := n - (i + 1)) (by omega)
      rw [show n - (i + 1) + 1 = n - i by omega, show at_ + i + 1 = at_ + (i + 1) by omega] at e1
      obtain ⟨V, hV⟩ : ∃ V, V = le ((l.drop (at_ + (i + 1))).take (n - (i + 1))) := ⟨_, rfl⟩
      rw [← hV] at hle ⊢
      obtain ⟨b, o, rfl⟩ := src_spot HS.out (by omega)
      have hcell : wr.cell? ⟨b, o + (at_ + i), none⟩ = some (.int .u8 (l.getD (at_ + i) 0)) := by have := HS.out.2.2 _ rfl (at_ + i) (by omega); rwa [addr_add] at this
      have hby := hb.getD (at_ + i)
      have HE1 := Hid.mk e1
      have HV := Hid.mk hV
      obtain ⟨X, hX⟩ : ∃ X, X = l.getD (at_ + i) 0 := ⟨_, rfl⟩
      rw [← hX] at hcell hby HE1
      have hi1 : ((i + 1 : Nat) : Int) - 1 = (i : Int) := by omega
      rw [hi1] at hge ⊢
      have hlt1 : (at_ : Int) + (i : Int) < (m : Int) := by omega
      clear hV e1 hi1 hX
      go_wp2
      go_roundw
      case rel =>
        refine ⟨i, by omega, by go_num, ?_, trivial⟩
        rw [HE1.out]
        congr 1
        show _ = ((X.toNat + 256 * le ((l.drop (at_ + (i + 1))).take (n - (i + 1))) : Nat) : Int)
        rw [← HV.out]
        omega
      case measure => simp [intOf]
    · obtain rfl : j = 0 := by omega
      have hge : ¬ (0 : Int) ≤ ((0 : Nat) : Int) - 1 := by omega
      go_wp2
      go_ret
      exact ⟨rfl, rfl⟩


/-- The reading of one field of a sector's body. -/
theorem pc_fields {l : List Int} (h1 : (sopens l).2 = 0) (h2 : 12 ≤ (sopens l).1.length) : (pcOf l).e = le (((sopens l).1.drop 0).take 4) ∧ (pcOf l).p = le (((sopens l).1.drop 4).take 4) ∧ (pcOf l).i = le (((sopens l).1.drop 8).take 2) ∧ (pcOf l).c = le (((sopens l).1.drop 10).take 2) ∧ (pcOf l).d = (sopens l).1.drop 12 := by
  unfold pcOf
  rw [if_neg (by omega)]
  exact ⟨rfl, rfl, rfl, rfl, rfl⟩
theorem pc_none {l : List Int} (h : (sopens l).2 ≠ 0 ∨ (sopens l).1.length ≤ 12) : (pcOf l).d = [] := by
  unfold pcOf
  split
  · rfl
  · show (sopens l).1.drop 12 = []
    exact List.drop_eq_nil_of_le (by omega)

section
variable {w w' : World} {F G : Nat → Prop} {r s k : Nat} {S : DS} {L : LG}

/-- What Part answers. -/
def PartOut (w w' : World) (q : PC) (E P i c : Nat) (v : Value) : Prop :=
  (q.ok E P i c ∧ ∃ body, Own w' w.heap.size v body ∧ body.drop 12 = q.d ∧ 12 < body.length ∧ body.length ≤ 504) ∨ (¬ q.ok E P i c ∧ v = .slice none 0 0)

set_option maxRecDepth 20000 in
set_option maxHeartbeats 2000000 in
theorem rpart_any (E P i c : Nat) (h : RefAt w F r s S) (hl : LogR w k r L) (hby : Bytes (S.now (L.f + 2 + P % L.n))) (hs : L.f + 2 + L.n ≤ s) (hn1 : 1 ≤ L.n) (hbig : S.puts.length + 1 ≤ 4000000000000) (_hE : E ≤ 4294967296) (hP : P ≤ 4294967296) (_hi : i ≤ 65536) (hc : c ≤ 65536) (hc1 : 1 ≤ c) :
    Calls Tryz.prog 119 #[.pointer (some ⟨k, 0, none⟩), .int .i64 (E : Int), .int .i64 (P : Int), .int .i64 (i : Int), .int .i64 (c : Int)] w fun e w' => ∃ v, e = .returned v ∧ PartOut w w' (pcOf (S.now (L.f + 2 + P % L.n))) E P i c v ∧ Below w.heap.size w w' := by
  have hss := h.ok.hi
  have hmd : P % L.n < L.n := Nat.mod_lt _ hn1
  have hnl := now_len h.ok (L.f + 2 + P % L.n) (by omega)
  have h1 := rnow_at (h.later (below_drew (Below.refl w.heap.size w))) (L.f + 2 + P % L.n) (by omega) (by omega)
  have c0 := hl.c0
  have c2 := hl.c2
  have c3 := hl.c3
  have ht1 : (P : Int).tmod (L.n : Int) = ((P % L.n : Nat) : Int) := by rw [Int.tmod_eq_emod_of_nonneg (by omega), ← Int.natCast_emod]
  have ht2 : (P : Int) % (L.n : Int) = ((P % L.n : Nat) : Int) := by rw [← Int.natCast_emod]
  have hn0 : ((L.n : Int) == 0) = false := by rw [beq_eq_false_iff_ne]; omega
  obtain ⟨M, hM⟩ : ∃ M, M = P % L.n := ⟨_, rfl⟩
  rw [← hM] at ht1 ht2 hmd h1 hnl hby ⊢
  rw [show ((L.f + 2 + M : Nat) : Int) = (L.f : Int) + 2 + (M : Int) by omega] at h1
  have hwr : IntKind.i64.wrap ((L.f : Int) + 2) = (L.f : Int) + 2 := by rw [IntKind.wrap_i64]; omega
  have hwr2 : IntKind.i64.wrap ((L.f : Int) + 2 + (M : Int)) = (L.f : Int) + 2 + (M : Int) := by rw [IntKind.wrap_i64]; omega
  have hwr3 : IntKind.i64.wrap (M : Int) = (M : Int) := by rw [IntKind.wrap_i64]; omega
  have hn0' : ¬ (L.n : Int) = 0 := by omega
  have hn0'' : ¬ L.n = 0 := by omega
  clear hM h hl
  generalize S.now (L.f + 2 + M) = l at *
  have hlen := so_len l
  have hbb := so_bytes hby
  by_cases k1 : (sopens l).2 = 0
  · by_cases k2 : (sopens l).1.length ≤ 12
    · have HNo := Hid.mk (show ¬ (pcOf l).ok E P i c from fun h => by have := h.2.2.2.2.1; rw [pc_none (.inr k2)] at this; simp at this)
      have d2 : ((sopens l).1.length : Int) ≤ 12 := by omega
      clear k2
      go_enter Tryz.func119, Tryz.ntmps119
      go_wp2_with fail
      go_region_held3 (fun w' => w'.cell? ⟨k, 0, none⟩ = some (.pointer (some ⟨r, 0, none⟩)) ∧ w'.cell? ⟨k, 2, none⟩ = some (.int .i64 (L.f : Int)) ∧ w'.cell? ⟨k, 3, none⟩ = some (.int .i64 (L.n : Int)))
        (first | exact ⟨c0, c2, c3⟩)
        ((go_at_call 36; refine h1.mono ?_; rintro e w1 ⟨g, cg, rfl, hFg, hrow, hw1⟩; have hw1' := hw1.symm; clear hw1; subst hw1'))
      have hsn := hrow.src
      rw [hnl] at hsn
      have h2 := ropen_any (some ⟨g, 0, none⟩) 512 cg l w.drew hsn hby
      rw [k1] at h2
      clear h1 hrow hsn c0 c2 c3
      go_wp2_with fail
      refine h2.mono ?_
      rintro e w2 ⟨v2, rfl, ho2, hb2⟩
      have hB2 : Below w.heap.size w w2 := (below_drew (Below.refl w.heap.size w)).trans hb2
      obtain ⟨a2, cc2, rfl, hs2, _, _⟩ := ho2.src
      have HO2 := Hid.mk (show Own w2 w.heap.size _ _ from ho2)
      have HB2 := Hid.mk hB2
      clear h2 hb2 hB2 ho2 hs2
      go_wp2
      go_ret
      exact ⟨_, rfl, .inr ⟨HNo.out, rfl⟩, HB2.out⟩
    · have hpf := pc_fields k1 (by omega)
      have d2 : ¬ ((sopens l).1.length : Int) ≤ 12 := by omega
      have hd0 : 0 < (pcOf l).d.length := by rw [hpf.2.2.2.2, List.length_drop]; omega
      have hdl : (pcOf l).d.length + 12 = (sopens l).1.length := by rw [hpf.2.2.2.2, List.length_drop]; omega
      by_cases gE : (pcOf l).e = E
      · by_cases gP : (pcOf l).p = P
        · by_cases gi : (pcOf l).i = i
          · by_cases gc : (pcOf l).c = c
            · by_cases gl : i + 1 = c ∨ (sopens l).1.length = 504
              · have HOk := Hid.mk (show (pcOf l).ok E P i c from ⟨gE, gP, gi, gc, hd0, fun h => by omega⟩)
                have HDr := Hid.mk hpf.2.2.2.2
                have HBn := Hid.mk (show 12 < (sopens l).1.length ∧ (sopens l).1.length ≤ 504 from ⟨by omega, hlen⟩)
                by_cases gm : i + 1 = c
                · have dm : ((i : Int) != (c : Int) - 1) = false := by rw [bne_eq_false_iff_eq]; omega
                  have dm' : ((i : Int) == (c : Int) - 1) = true := by rw [beq_iff_eq]; omega
                  clear gl gm
                  go_enter Tryz.func119, Tryz.ntmps119
                  go_wp2_with fail
                  go_region_held3 (fun w' => w'.cell? ⟨k, 0, none⟩ = some (.pointer (some ⟨r, 0, none⟩)) ∧ w'.cell? ⟨k, 2, none⟩ = some (.int .i64 (L.f : Int)) ∧ w'.cell? ⟨k, 3, none⟩ = some (.int .i64 (L.n : Int)))
                    (first | exact ⟨c0, c2, c3⟩)
                    ((go_at_call 36; refine h1.mono ?_; rintro e w1 ⟨g, cg, rfl, hFg, hrow, hw1⟩; have hw1' := hw1.symm; clear hw1; subst hw1'))
                  have hsn := hrow.src
                  rw [hnl] at hsn
                  have h2 := ropen_any (some ⟨g, 0, none⟩) 512 cg l w.drew hsn hby
                  rw [k1] at h2
                  clear h1 hrow hsn c0 c2 c3
                  go_wp2_with fail
                  refine h2.mono ?_
                  rintro e w2 ⟨v2, rfl, ho2, hb2⟩
                  have hB2 : Below w.heap.size w w2 := (below_drew (Below.refl w.heap.size w)).trans hb2
                  obtain ⟨a2, cc2, rfl, hs2, _, _⟩ := ho2.src
                  have HO2 := Hid.mk (show Own w2 w.heap.size _ _ from ho2)
                  have HB2 := Hid.mk hB2
                  have hN0 := rnumber_any a2 _ cc2 _ w2 hs2 hbb 0 4 (by omega) (by omega) (by omega)
                  rw [← hpf.1, gE, show (((0 : Nat)) : Int) = 0 from rfl, show (((4 : Nat)) : Int) = 4 from rfl] at hN0
                  have hN1 := rnumber_any a2 _ cc2 _ w2 hs2 hbb 4 4 (by omega) (by omega) (by omega)
                  rw [← hpf.2.1, gP, show (((4 : Nat)) : Int) = 4 from rfl] at hN1
                  have hN2 := rnumber_any a2 _ cc2 _ w2 hs2 hbb 8 2 (by omega) (by omega) (by omega)
                  rw [← hpf.2.2.1, gi, show (((8 : Nat)) : Int) = 8 from rfl, show (((2 : Nat)) : Int) = 2 from rfl] at hN2
                  have hN3 := rnumber_any a2 _ cc2 _ w2 hs2 hbb 10 2 (by omega) (by omega) (by omega)
                  rw [← hpf.2.2.2.1, gc, show (((10 : Nat)) : Int) = 10 from rfl, show (((2 : Nat)) : Int) = 2 from rfl] at hN3
                  clear h2 hb2 hB2 ho2 hs2 hpf
                  go_wp2_with (first | (go_at_call 118; refine hN0.mono ?_; rintro e w3 ⟨rfl, hw3⟩; have hw3' := hw3.symm; clear hw3 hN0; subst hw3') | (go_at_call 118; refine hN1.mono ?_; rintro e w3 ⟨rfl, hw3⟩; have hw3' := hw3.symm; clear hw3 hN1; subst hw3') | (go_at_call 118; refine hN2.mono ?_; rintro e w3 ⟨rfl, hw3⟩; have hw3' := hw3.symm; clear hw3 hN2; subst hw3') | (go_at_call 118; refine hN3.mono ?_; rintro e w3 ⟨rfl, hw3⟩; have hw3' := hw3.symm; clear hw3 hN3; subst hw3'))
                  go_ret
                  exact ⟨_, rfl, .inl ⟨HOk.out, _, HO2.out, HDr.out.symm, HBn.out.1, HBn.out.2⟩, HB2.out⟩
                · have dm : ((i : Int) != (c : Int) - 1) = true := by rw [bne_iff_ne]; omega
                  have dm' : ((i : Int) == (c : Int) - 1) = false := by rw [beq_eq_false_iff_ne]; omega
                  have dl : (((sopens l).1.length : Int) != 504) = false := by rw [bne_eq_false_iff_eq]; omega
                  have dl' : (((sopens l).1.length : Int) == 504) = true := by rw [beq_iff_eq]; omega
                  clear gl gm
                  go_enter Tryz.func119, Tryz.ntmps119
                  go_wp2_with fail
                  go_region_held3 (fun w' => w'.cell? ⟨k, 0, none⟩ = some (.pointer (some ⟨r, 0, none⟩)) ∧ w'.cell? ⟨k, 2, none⟩ = some (.int .i64 (L.f : Int)) ∧ w'.cell? ⟨k, 3, none⟩ = some (.int .i64 (L.n : Int)))
                    (first | exact ⟨c0, c2, c3⟩)
                    ((go_at_call 36; refine h1.mono ?_; rintro e w1 ⟨g, cg, rfl, hFg, hrow, hw1⟩; have hw1' := hw1.symm; clear hw1; subst hw1'))
                  have hsn := hrow.src
                  rw [hnl] at hsn
                  have h2 := ropen_any (some ⟨g, 0, none⟩) 512 cg l w.drew hsn hby
                  rw [k1] at h2
                  clear h1 hrow hsn c0 c2 c3
                  go_wp2_with fail
                  refine h2.mono ?_
                  rintro e w2 ⟨v2, rfl, ho2, hb2⟩
                  have hB2 : Below w.heap.size w w2 := (below_drew (Below.refl w.heap.size w)).trans hb2
                  obtain ⟨a2, cc2, rfl, hs2, _, _⟩ := ho2.src
                  have HO2 := Hid.mk (show Own w2 w.heap.size _ _ from ho2)
                  have HB2 := Hid.mk hB2
                  have hN0 := rnumber_any a2 _ cc2 _ w2 hs2 hbb 0 4 (by omega) (by omega) (by omega)
                  rw [← hpf.1, gE, show (((0 : Nat)) : Int) = 0 from rfl, show (((4 : Nat)) : Int) = 4 from rfl] at hN0
                  have hN1 := rnumber_any a2 _ cc2 _ w2 hs2 hbb 4 4 (by omega) (by omega) (by omega)
                  rw [← hpf.2.1, gP, show (((4 : Nat)) : Int) = 4 from rfl] at hN1
                  have hN2 := rnumber_any a2 _ cc2 _ w2 hs2 hbb 8 2 (by omega) (by omega) (by omega)
                  rw [← hpf.2.2.1, gi, show (((8 : Nat)) : Int) = 8 from rfl, show (((2 : Nat)) : Int) = 2 from rfl] at hN2
                  have hN3 := rnumber_any a2 _ cc2 _ w2 hs2 hbb 10 2 (by omega) (by omega) (by omega)
                  rw [← hpf.2.2.2.1, gc, show (((10 : Nat)) : Int) = 10 from rfl, show (((2 : Nat)) : Int) = 2 from rfl] at hN3
                  clear h2 hb2 hB2 ho2 hs2 hpf
                  go_wp2_with (first | (go_at_call 118; refine hN0.mono ?_; rintro e w3 ⟨rfl, hw3⟩; have hw3' := hw3.symm; clear hw3 hN0; subst hw3') | (go_at_call 118; refine hN1.mono ?_; rintro e w3 ⟨rfl, hw3⟩; have hw3' := hw3.symm; clear hw3 hN1; subst hw3') | (go_at_call 118; refine hN2.mono ?_; rintro e w3 ⟨rfl, hw3⟩; have hw3' := hw3.symm; clear hw3 hN2; subst hw3') | (go_at_call 118; refine hN3.mono ?_; rintro e w3 ⟨rfl, hw3⟩; have hw3' := hw3.symm; clear hw3 hN3; subst hw3'))
                  go_ret
                  exact ⟨_, rfl, .inl ⟨HOk.out, _, HO2.out, HDr.out.symm, HBn.out.1, HBn.out.2⟩, HB2.out⟩
              · have HNo := Hid.mk (show ¬ (pcOf l).ok E P i c from fun h => by have := h.2.2.2.2.2; omega)
                have dm : ((i : Int) != (c : Int) - 1) = true := by rw [bne_iff_ne]; omega
                have dm' : ((i : Int) == (c : Int) - 1) = false := by rw [beq_eq_false_iff_ne]; omega
                have dl : (((sopens l).1.length : Int) != 504) = true := by rw [bne_iff_ne]; omega
                have dl' : (((sopens l).1.length : Int) == 504) = false := by rw [beq_eq_false_iff_ne]; omega
                clear gl
                go_enter Tryz.func119, Tryz.ntmps119
                go_wp2_with fail
                go_region_held3 (fun w' => w'.cell? ⟨k, 0, none⟩ = some (.pointer (some ⟨r, 0, none⟩)) ∧ w'.cell? ⟨k, 2, none⟩ = some (.int .i64 (L.f : Int)) ∧ w'.cell? ⟨k, 3, none⟩ = some (.int .i64 (L.n : Int)))
                  (first | exact ⟨c0, c2, c3⟩)
                  ((go_at_call 36; refine h1.mono ?_; rintro e w1 ⟨g, cg, rfl, hFg, hrow, hw1⟩; have hw1' := hw1.symm; clear hw1; subst hw1'))
                have hsn := hrow.src
                rw [hnl] at hsn
                have h2 := ropen_any (some ⟨g, 0, none⟩) 512 cg l w.drew hsn hby
                rw [k1] at h2
                clear h1 hrow hsn c0 c2 c3
                go_wp2_with fail
                refine h2.mono ?_
                rintro e w2 ⟨v2, rfl, ho2, hb2⟩
                have hB2 : Below w.heap.size w w2 := (below_drew (Below.refl w.heap.size w)).trans hb2
                obtain ⟨a2, cc2, rfl, hs2, _, _⟩ := ho2.src
                have HO2 := Hid.mk (show Own w2 w.heap.size _ _ from ho2)
                have HB2 := Hid.mk hB2
                have hN0 := rnumber_any a2 _ cc2 _ w2 hs2 hbb 0 4 (by omega) (by omega) (by omega)
                rw [← hpf.1, gE, show (((0 : Nat)) : Int) = 0 from rfl, show (((4 : Nat)) : Int) = 4 from rfl] at hN0
                have hN1 := rnumber_any a2 _ cc2 _ w2 hs2 hbb 4 4 (by omega) (by omega) (by omega)
                rw [← hpf.2.1, gP, show (((4 : Nat)) : Int) = 4 from rfl] at hN1
                have hN2 := rnumber_any a2 _ cc2 _ w2 hs2 hbb 8 2 (by omega) (by omega) (by omega)
                rw [← hpf.2.2.1, gi, show (((8 : Nat)) : Int) = 8 from rfl, show (((2 : Nat)) : Int) = 2 from rfl] at hN2
                have hN3 := rnumber_any a2 _ cc2 _ w2 hs2 hbb 10 2 (by omega) (by omega) (by omega)
                rw [← hpf.2.2.2.1, gc, show (((10 : Nat)) : Int) = 10 from rfl, show (((2 : Nat)) : Int) = 2 from rfl] at hN3
                clear h2 hb2 hB2 ho2 hs2 hpf
                go_wp2_with (first | (go_at_call 118; refine hN0.mono ?_; rintro e w3 ⟨rfl, hw3⟩; have hw3' := hw3.symm; clear hw3 hN0; subst hw3') | (go_at_call 118; refine hN1.mono ?_; rintro e w3 ⟨rfl, hw3⟩; have hw3' := hw3.symm; clear hw3 hN1; subst hw3') | (go_at_call 118; refine hN2.mono ?_; rintro e w3 ⟨rfl, hw3⟩; have hw3' := hw3.symm; clear hw3 hN2; subst hw3') | (go_at_call 118; refine hN3.mono ?_; rintro e w3 ⟨rfl, hw3⟩; have hw3' := hw3.symm; clear hw3 hN3; subst hw3'))
                go_ret
                exact ⟨_, rfl, .inr ⟨HNo.out, rfl⟩, HB2.out⟩
            · have HNo := Hid.mk (show ¬ (pcOf l).ok E P i c from fun h => gc h.2.2.2.1)
              have dn : (((pcOf l).c : Int) == (c : Int)) = false := by rw [beq_eq_false_iff_ne]; omega
              have dn' : (((pcOf l).c : Int) != (c : Int)) = true := by rw [bne_iff_ne]; omega
              have dm : ((pcOf l).c == c) = false := by rw [beq_eq_false_iff_ne]; exact gc
              have dm' : ((pcOf l).c != c) = true := by rw [bne_iff_ne]; exact gc
              have dz : ¬ ((pcOf l).c : Int) = (c : Int) := by omega
              go_enter Tryz.func119, Tryz.ntmps119
              go_wp2_with fail
              go_region_held3 (fun w' => w'.cell? ⟨k, 0, none⟩ = some (.pointer (some ⟨r, 0, none⟩)) ∧ w'.cell? ⟨k, 2, none⟩ = some (.int .i64 (L.f : Int)) ∧ w'.cell? ⟨k, 3, none⟩ = some (.int .i64 (L.n : Int)))
                (first | exact ⟨c0, c2, c3⟩)
                ((go_at_call 36; refine h1.mono ?_; rintro e w1 ⟨g, cg, rfl, hFg, hrow, hw1⟩; have hw1' := hw1.symm; clear hw1; subst hw1'))
              have hsn := hrow.src
              rw [hnl] at hsn
              have h2 := ropen_any (some ⟨g, 0, none⟩) 512 cg l w.drew hsn hby
              rw [k1] at h2
              clear h1 hrow hsn c0 c2 c3
              go_wp2_with fail
              refine h2.mono ?_
              rintro e w2 ⟨v2, rfl, ho2, hb2⟩
              have hB2 : Below w.heap.size w w2 := (below_drew (Below.refl w.heap.size w)).trans hb2
              obtain ⟨a2, cc2, rfl, hs2, _, _⟩ := ho2.src
              have HO2 := Hid.mk (show Own w2 w.heap.size _ _ from ho2)
              have HB2 := Hid.mk hB2
              have hN0 := rnumber_any a2 _ cc2 _ w2 hs2 hbb 0 4 (by omega) (by omega) (by omega)
              rw [← hpf.1, gE, show (((0 : Nat)) : Int) = 0 from rfl, show (((4 : Nat)) : Int) = 4 from rfl] at hN0
              have hN1 := rnumber_any a2 _ cc2 _ w2 hs2 hbb 4 4 (by omega) (by omega) (by omega)
              rw [← hpf.2.1, gP, show (((4 : Nat)) : Int) = 4 from rfl] at hN1
              have hN2 := rnumber_any a2 _ cc2 _ w2 hs2 hbb 8 2 (by omega) (by omega) (by omega)
              rw [← hpf.2.2.1, gi, show (((8 : Nat)) : Int) = 8 from rfl, show (((2 : Nat)) : Int) = 2 from rfl] at hN2
              have hN3 := rnumber_any a2 _ cc2 _ w2 hs2 hbb 10 2 (by omega) (by omega) (by omega)
              rw [← hpf.2.2.2.1, show (((10 : Nat)) : Int) = 10 from rfl, show (((2 : Nat)) : Int) = 2 from rfl] at hN3
              clear h2 hb2 hB2 ho2 hs2 hpf
              go_wp2_with (first | (go_at_call 118; refine hN0.mono ?_; rintro e w3 ⟨rfl, hw3⟩; have hw3' := hw3.symm; clear hw3 hN0; subst hw3') | (go_at_call 118; refine hN1.mono ?_; rintro e w3 ⟨rfl, hw3⟩; have hw3' := hw3.symm; clear hw3 hN1; subst hw3') | (go_at_call 118; refine hN2.mono ?_; rintro e w3 ⟨rfl, hw3⟩; have hw3' := hw3.symm; clear hw3 hN2; subst hw3') | (go_at_call 118; refine hN3.mono ?_; rintro e w3 ⟨rfl, hw3⟩; have hw3' := hw3.symm; clear hw3 hN3; subst hw3'))
              go_ret
              exact ⟨_, rfl, .inr ⟨HNo.out, rfl⟩, HB2.out⟩
          · have HNo := Hid.mk (show ¬ (pcOf l).ok E P i c from fun h => gi h.2.2.1)
            have dn : (((pcOf l).i : Int) == (i : Int)) = false := by rw [beq_eq_false_iff_ne]; omega
            have dn' : (((pcOf l).i : Int) != (i : Int)) = true := by rw [bne_iff_ne]; omega
            have dm : ((pcOf l).i == i) = false := by rw [beq_eq_false_iff_ne]; exact gi
            have dm' : ((pcOf l).i != i) = true := by rw [bne_iff_ne]; exact gi
            have dz : ¬ ((pcOf l).i : Int) = (i : Int) := by omega
            go_enter Tryz.func119, Tryz.ntmps119
            go_wp2_with fail
            go_region_held3 (fun w' => w'.cell? ⟨k, 0, none⟩ = some (.pointer (some ⟨r, 0, none⟩)) ∧ w'.cell? ⟨k, 2, none⟩ = some (.int .i64 (L.f : Int)) ∧ w'.cell? ⟨k, 3, none⟩ = some (.int .i64 (L.n : Int)))
              (first | exact ⟨c0, c2, c3⟩)
              ((go_at_call 36; refine h1.mono ?_; rintro e w1 ⟨g, cg, rfl, hFg, hrow, hw1⟩; have hw1' := hw1.symm; clear hw1; subst hw1'))
            have hsn := hrow.src
            rw [hnl] at hsn
            have h2 := ropen_any (some ⟨g, 0, none⟩) 512 cg l w.drew hsn hby
            rw [k1] at h2
            clear h1 hrow hsn c0 c2 c3
            go_wp2_with fail
            refine h2.mono ?_
            rintro e w2 ⟨v2, rfl, ho2, hb2⟩
            have hB2 : Below w.heap.size w w2 := (below_drew (Below.refl w.heap.size w)).trans hb2
            obtain ⟨a2, cc2, rfl, hs2, _, _⟩ := ho2.src
            have HO2 := Hid.mk (show Own w2 w.heap.size _ _ from ho2)
            have HB2 := Hid.mk hB2
            have hN0 := rnumber_any a2 _ cc2 _ w2 hs2 hbb 0 4 (by omega) (by omega) (by omega)
            rw [← hpf.1, gE, show (((0 : Nat)) : Int) = 0 from rfl, show (((4 : Nat)) : Int) = 4 from rfl] at hN0
            have hN1 := rnumber_any a2 _ cc2 _ w2 hs2 hbb 4 4 (by omega) (by omega) (by omega)
            rw [← hpf.2.1, gP, show (((4 : Nat)) : Int) = 4 from rfl] at hN1
            have hN2 := rnumber_any a2 _ cc2 _ w2 hs2 hbb 8 2 (by omega) (by omega) (by omega)
            rw [← hpf.2.2.1, show (((8 : Nat)) : Int) = 8 from rfl, show (((2 : Nat)) : Int) = 2 from rfl] at hN2
            clear h2 hb2 hB2 ho2 hs2 hpf
            go_wp2_with (first | (go_at_call 118; refine hN0.mono ?_; rintro e w3 ⟨rfl, hw3⟩; have hw3' := hw3.symm; clear hw3 hN0; subst hw3') | (go_at_call 118; refine hN1.mono ?_; rintro e w3 ⟨rfl, hw3⟩; have hw3' := hw3.symm; clear hw3 hN1; subst hw3') | (go_at_call 118; refine hN2.mono ?_; rintro e w3 ⟨rfl, hw3⟩; have hw3' := hw3.symm; clear hw3 hN2; subst hw3'))
            go_ret
            exact ⟨_, rfl, .inr ⟨HNo.out, rfl⟩, HB2.out⟩
        · have HNo := Hid.mk (show ¬ (pcOf l).ok E P i c from fun h => gP h.2.1)
          have dn : (((pcOf l).p : Int) == (P : Int)) = false := by rw [beq_eq_false_iff_ne]; omega
          have dn' : (((pcOf l).p : Int) != (P : Int)) = true := by rw [bne_iff_ne]; omega
          have dm : ((pcOf l).p == P) = false := by rw [beq_eq_false_iff_ne]; exact gP
          have dm' : ((pcOf l).p != P) = true := by rw [bne_iff_ne]; exact gP
          have dz : ¬ ((pcOf l).p : Int) = (P : Int) := by omega
          go_enter Tryz.func119, Tryz.ntmps119
          go_wp2_with fail
          go_region_held3 (fun w' => w'.cell? ⟨k, 0, none⟩ = some (.pointer (some ⟨r, 0, none⟩)) ∧ w'.cell? ⟨k, 2, none⟩ = some (.int .i64 (L.f : Int)) ∧ w'.cell? ⟨k, 3, none⟩ = some (.int .i64 (L.n : Int)))
            (first | exact ⟨c0, c2, c3⟩)
            ((go_at_call 36; refine h1.mono ?_; rintro e w1 ⟨g, cg, rfl, hFg, hrow, hw1⟩; have hw1' := hw1.symm; clear hw1; subst hw1'))
          have hsn := hrow.src
          rw [hnl] at hsn
          have h2 := ropen_any (some ⟨g, 0, none⟩) 512 cg l w.drew hsn hby
          rw [k1] at h2
          clear h1 hrow hsn c0 c2 c3
          go_wp2_with fail
          refine h2.mono ?_
          rintro e w2 ⟨v2, rfl, ho2, hb2⟩
          have hB2 : Below w.heap.size w w2 := (below_drew (Below.refl w.heap.size w)).trans hb2
          obtain ⟨a2, cc2, rfl, hs2, _, _⟩ := ho2.src
          have HO2 := Hid.mk (show Own w2 w.heap.size _ _ from ho2)
          have HB2 := Hid.mk hB2
          have hN0 := rnumber_any a2 _ cc2 _ w2 hs2 hbb 0 4 (by omega) (by omega) (by omega)
          rw [← hpf.1, gE, show (((0 : Nat)) : Int) = 0 from rfl, show (((4 : Nat)) : Int) = 4 from rfl] at hN0
          have hN1 := rnumber_any a2 _ cc2 _ w2 hs2 hbb 4 4 (by omega) (by omega) (by omega)
          rw [← hpf.2.1, show (((4 : Nat)) : Int) = 4 from rfl] at hN1
          clear h2 hb2 hB2 ho2 hs2 hpf
          go_wp2_with (first | (go_at_call 118; refine hN0.mono ?_; rintro e w3 ⟨rfl, hw3⟩; have hw3' := hw3.symm; clear hw3 hN0; subst hw3') | (go_at_call 118; refine hN1.mono ?_; rintro e w3 ⟨rfl, hw3⟩; have hw3' := hw3.symm; clear hw3 hN1; subst hw3'))
          go_ret
          exact ⟨_, rfl, .inr ⟨HNo.out, rfl⟩, HB2.out⟩
      · have HNo := Hid.mk (show ¬ (pcOf l).ok E P i c from fun h => gE h.1)
        have dn : (((pcOf l).e : Int) == (E : Int)) = false := by rw [beq_eq_false_iff_ne]; omega
        have dn' : (((pcOf l).e : Int) != (E : Int)) = true := by rw [bne_iff_ne]; omega
        have dm : ((pcOf l).e == E) = false := by rw [beq_eq_false_iff_ne]; exact gE
        have dm' : ((pcOf l).e != E) = true := by rw [bne_iff_ne]; exact gE
        have dz : ¬ ((pcOf l).e : Int) = (E : Int) := by omega
        go_enter Tryz.func119, Tryz.ntmps119
        go_wp2_with fail
        go_region_held3 (fun w' => w'.cell? ⟨k, 0, none⟩ = some (.pointer (some ⟨r, 0, none⟩)) ∧ w'.cell? ⟨k, 2, none⟩ = some (.int .i64 (L.f : Int)) ∧ w'.cell? ⟨k, 3, none⟩ = some (.int .i64 (L.n : Int)))
          (first | exact ⟨c0, c2, c3⟩)
          ((go_at_call 36; refine h1.mono ?_; rintro e w1 ⟨g, cg, rfl, hFg, hrow, hw1⟩; have hw1' := hw1.symm; clear hw1; subst hw1'))
        have hsn := hrow.src
        rw [hnl] at hsn
        have h2 := ropen_any (some ⟨g, 0, none⟩) 512 cg l w.drew hsn hby
        rw [k1] at h2
        clear h1 hrow hsn c0 c2 c3
        go_wp2_with fail
        refine h2.mono ?_
        rintro e w2 ⟨v2, rfl, ho2, hb2⟩
        have hB2 : Below w.heap.size w w2 := (below_drew (Below.refl w.heap.size w)).trans hb2
        obtain ⟨a2, cc2, rfl, hs2, _, _⟩ := ho2.src
        have HO2 := Hid.mk (show Own w2 w.heap.size _ _ from ho2)
        have HB2 := Hid.mk hB2
        have hN0 := rnumber_any a2 _ cc2 _ w2 hs2 hbb 0 4 (by omega) (by omega) (by omega)
        rw [← hpf.1, show (((0 : Nat)) : Int) = 0 from rfl, show (((4 : Nat)) : Int) = 4 from rfl] at hN0
        clear h2 hb2 hB2 ho2 hs2 hpf
        go_wp2_with (first | (go_at_call 118; refine hN0.mono ?_; rintro e w3 ⟨rfl, hw3⟩; have hw3' := hw3.symm; clear hw3 hN0; subst hw3'))
        go_ret
        exact ⟨_, rfl, .inr ⟨HNo.out, rfl⟩, HB2.out⟩
  · have HNo := Hid.mk (show ¬ (pcOf l).ok E P i c from fun h => by have := h.2.2.2.2.1; rw [pc_none (.inl k1)] at this; simp at this)
    have d1 : (((sopens l).2 : Int) == 0) = false := by rw [beq_eq_false_iff_ne]; omega
    have d1' : (((sopens l).2 : Int) != 0) = true := by rw [bne_iff_ne]; omega
    clear k1
    go_enter Tryz.func119, Tryz.ntmps119
    go_wp2_with fail
    go_region_held3 (fun w' => w'.cell? ⟨k, 0, none⟩ = some (.pointer (some ⟨r, 0, none⟩)) ∧ w'.cell? ⟨k, 2, none⟩ = some (.int .i64 (L.f : Int)) ∧ w'.cell? ⟨k, 3, none⟩ = some (.int .i64 (L.n : Int)))
      (first | exact ⟨c0, c2, c3⟩)
      ((go_at_call 36; refine h1.mono ?_; rintro e w1 ⟨g, cg, rfl, hFg, hrow, hw1⟩; have hw1' := hw1.symm; clear hw1; subst hw1'))
    have hsn := hrow.src
    rw [hnl] at hsn
    have h2 := ropen_any (some ⟨g, 0, none⟩) 512 cg l w.drew hsn hby
    clear h1 hrow hsn c0 c2 c3
    go_wp2_with fail
    refine h2.mono ?_
    rintro e w2 ⟨v2, rfl, ho2, hb2⟩
    have hB2 : Below w.heap.size w w2 := (below_drew (Below.refl w.heap.size w)).trans hb2
    obtain ⟨a2, cc2, rfl, hs2, _, _⟩ := ho2.src
    have HO2 := Hid.mk (show Own w2 w.heap.size _ _ from ho2)
    have HB2 := Hid.mk hB2
    clear h2 hb2 hB2 ho2 hs2
    go_wp2
    go_ret
    exact ⟨_, rfl, .inr ⟨HNo.out, rfl⟩, HB2.out⟩
end
end Go.Proofs.YtijgdmhglnanjaaGreat
end

section
namespace Go.Proofs.YtijgdmhglnanjaaGreat
open Go.RowKit

section
variable {w w' : World} {F G : Nat → Prop} {r s k : Nat} {S : DS} {L : LG}

/-- What At answers. -/
def AtOut (w w' : World) (R : Nat → PC) (E P : Nat) (v : Value) (n : Int) : Prop :=
  (∃ c d, Rec R E P c d ∧ n = (c : Int) ∧ Own w' w.heap.size v d) ∨ (n = 0 ∧ v = .slice none 0 0 ∧ ∀ c d, ¬ Rec R E P c d)
theorem no_rec {R : Nat → PC} {E P : Nat} (h : (R P).d = []) : ∀ c d, ¬ Rec R E P c d := fun c d h1 => by
  have := (h1.2.2.1 0 (by have := h1.1; omega)).2.2.2.2.1
  rw [Nat.add_zero, h] at this
  simp at this
theorem no_rec_count {R : Nat → PC} {E P : Nat} (h : (R P).c < 1 ∨ 17 < (R P).c) : ∀ c d, ¬ Rec R E P c d := fun c d h1 => by
  have := h1.count
  have := h1.1
  have := h1.2.1
  omega
theorem no_rec_part {R : Nat → PC} {E P i : Nat} (hi : i < (R P).c) (h : ¬ (R (P + i)).ok E (P + i) i (R P).c) : ∀ c d, ¬ Rec R E P c d := fun c d h1 => by
  have e := h1.count
  rw [e] at hi h
  exact h (h1.2.2.1 i hi)

set_option maxRecDepth 20000 in
set_option maxHeartbeats 2000000 in
theorem rat_any (E P : Nat) (h : RefAt w F r s S) (hl : LogR w k r L) (hby0 : S.Byt) (hs : L.f + 2 + L.n ≤ s) (hn1 : 1 ≤ L.n) (hbig : S.puts.length + 1 ≤ 4000000000000) (hE : E ≤ 1073741824) (hP : P ≤ 2147483648) :
    Calls Tryz.prog 89 #[.pointer (some ⟨k, 0, none⟩), .int .i64 (E : Int), .int .i64 (P : Int)] w fun e w' => ∃ v n, e = .returned (.tuple #[v, .int .i64 n]) ∧ AtOut w w' (Rp (oRing S L.f) L.n) E P v n ∧ Below w.heap.size w w' := by
  have hss := h.ok.hi
  have hmd : P % L.n < L.n := Nat.mod_lt _ hn1
  have hnl := now_len h.ok (L.f + 2 + P % L.n) (by omega)
  have hby := hby0.now (L.f + 2 + P % L.n)
  have h1 := rnow_at (h.later (below_drew (Below.refl w.heap.size w))) (L.f + 2 + P % L.n) (by omega) (by omega)
  have c0 := hl.c0
  have c2 := hl.c2
  have c3 := hl.c3
  have hRP : Rp (oRing S L.f) L.n P = pcOf (S.now (L.f + 2 + P % L.n)) := rfl
  have HPt := Hid.mk (fun (wx : World) (i c : Nat) (hb : Below w.heap.size w wx) (hi : i ≤ 17) (hc : c ≤ 65536) (hc1 : 1 ≤ c) => rpart_any E (P + i) i c (h.later hb) (hl.later hb) (hby0.now _) hs hn1 hbig (by omega) (by omega) (by omega) hc hc1)
  have ht1 : (P : Int).tmod (L.n : Int) = ((P % L.n : Nat) : Int) := by rw [Int.tmod_eq_emod_of_nonneg (by omega), ← Int.natCast_emod]
  have ht2 : (P : Int) % (L.n : Int) = ((P % L.n : Nat) : Int) := by rw [← Int.natCast_emod]
  have hn0 : ((L.n : Int) == 0) = false := by rw [beq_eq_false_iff_ne]; omega
  have hcs := (pcOf_small hby).2.2.2.1
  obtain ⟨M, hM⟩ : ∃ M, M = P % L.n := ⟨_, rfl⟩
  rw [← hM] at ht1 ht2 hmd h1 hnl hby hRP hcs
  rw [show ((L.f + 2 + M : Nat) : Int) = (L.f : Int) + 2 + (M : Int) by omega] at h1
  have hwr : IntKind.i64.wrap ((L.f : Int) + 2) = (L.f : Int) + 2 := by rw [IntKind.wrap_i64]; omega
  have hwr2 : IntKind.i64.wrap ((L.f : Int) + 2 + (M : Int)) = (L.f : Int) + 2 + (M : Int) := by rw [IntKind.wrap_i64]; omega
  have hwr3 : IntKind.i64.wrap (M : Int) = (M : Int) := by rw [IntKind.wrap_i64]; omega
  have hn0' : ¬ (L.n : Int) = 0 := by omega
  have hn0'' : ¬ L.n = 0 := by omega
  have hRe : ∀ q, pcOf (S.now (L.f + 2 + q % L.n)) = Rp (oRing S L.f) L.n q := fun q => rfl
  simp only [hRe] at HPt
  clear hM h hl hRe
  generalize S.now (L.f + 2 + M) = l at *
  have hbR : ∀ q, (Rp (oRing S L.f) L.n q).d.length ≤ 492 := fun q => (pcOf_small (hby0.now _)).2.2.2.2.1
  generalize Rp (oRing S L.f) L.n = R at *
  have hlen := so_len l
  have hbb := so_bytes hby
  by_cases k1 : (sopens l).2 = 0
  · by_cases k2 : (sopens l).1.length ≤ 12
    · have HNo := Hid.mk (show ∀ c d, ¬ Rec R E P c d from no_rec (by rw [hRP]; exact pc_none (.inr k2)))
      have d2 : ((sopens l).1.length : Int) ≤ 12 := by omega
      clear k2 HPt hRP
      go_enter Tryz.func89, Tryz.ntmps89
      go_wp2_with fail
      go_region_held3 (fun w' => w'.cell? ⟨k, 0, none⟩ = some (.pointer (some ⟨r, 0, none⟩)) ∧ w'.cell? ⟨k, 2, none⟩ = some (.int .i64 (L.f : Int)) ∧ w'.cell? ⟨k, 3, none⟩ = some (.int .i64 (L.n : Int)))
        (first | exact ⟨c0, c2, c3⟩)
        ((go_at_call 36; refine h1.mono ?_; rintro e w1 ⟨g, cg, rfl, hFg, hrow, hw1⟩; have hw1' := hw1.symm; clear hw1; subst hw1'))
      have hsn := hrow.src
      rw [hnl] at hsn
      have h2 := ropen_any (some ⟨g, 0, none⟩) 512 cg l w.drew hsn hby
      rw [k1] at h2
      clear h1 hrow hsn c0 c2 c3
      go_wp2_with fail
      refine h2.mono ?_
      rintro e w2 ⟨v2, rfl, ho2, hb2⟩
      have hB2 : Below w.heap.size w w2 := (below_drew (Below.refl w.heap.size w)).trans hb2
      obtain ⟨a2, cc2, rfl, hs2, _, _⟩ := ho2.src
      have HB2 := Hid.mk hB2
      clear h2 hb2 hB2 ho2 hs2
      go_wp2
      go_ret2
      exact ⟨_, _, rfl, .inr ⟨rfl, rfl, HNo.out⟩, HB2.out⟩
    · have hpf := pc_fields k1 (by omega)
      have d2 : ¬ ((sopens l).1.length : Int) ≤ 12 := by omega
      by_cases k3 : (pcOf l).c < 1 ∨ 17 < (pcOf l).c
      · have HNo := Hid.mk (show ∀ c d, ¬ Rec R E P c d from no_rec_count (by rw [hRP]; exact k3))
        by_cases k4 : (pcOf l).c < 1
        · have d4 : ((pcOf l).c : Int) < 1 := by omega
          clear k3 HPt hRP
          go_enter Tryz.func89, Tryz.ntmps89
          go_wp2_with fail
          go_region_held3 (fun w' => w'.cell? ⟨k, 0, none⟩ = some (.pointer (some ⟨r, 0, none⟩)) ∧ w'.cell? ⟨k, 2, none⟩ = some (.int .i64 (L.f : Int)) ∧ w'.cell? ⟨k, 3, none⟩ = some (.int .i64 (L.n : Int)))
            (first | exact ⟨c0, c2, c3⟩)
            ((go_at_call 36; refine h1.mono ?_; rintro e w1 ⟨g, cg, rfl, hFg, hrow, hw1⟩; have hw1' := hw1.symm; clear hw1; subst hw1'))
          have hsn := hrow.src
          rw [hnl] at hsn
          have h2 := ropen_any (some ⟨g, 0, none⟩) 512 cg l w.drew hsn hby
          rw [k1] at h2
          clear h1 hrow hsn c0 c2 c3
          go_wp2_with fail
          refine h2.mono ?_
          rintro e w2 ⟨v2, rfl, ho2, hb2⟩
          have hB2 : Below w.heap.size w w2 := (below_drew (Below.refl w.heap.size w)).trans hb2
          obtain ⟨a2, cc2, rfl, hs2, _, _⟩ := ho2.src
          have HB2 := Hid.mk hB2
          have hN := rnumber_any a2 _ cc2 _ w2 hs2 hbb 10 2 (by omega) (by omega) (by omega)
          rw [← hpf.2.2.2.1, show (((10 : Nat)) : Int) = 10 from rfl, show (((2 : Nat)) : Int) = 2 from rfl] at hN
          clear h2 hb2 hB2 ho2 hs2 hpf
          go_wp2_with fail
          refine hN.mono ?_
          rintro e w3 ⟨rfl, hw3⟩
          have hw3' := hw3.symm
          clear hw3 hN
          subst hw3'
          go_wp2
          go_ret2
          exact ⟨_, _, rfl, .inr ⟨rfl, rfl, HNo.out⟩, HB2.out⟩
        · have d4 : ¬ ((pcOf l).c : Int) < 1 := by omega
          have d5 : (17 : Int) < ((pcOf l).c : Int) := by omega
          clear k3 HPt hRP
          go_enter Tryz.func89, Tryz.ntmps89
          go_wp2_with fail
          go_region_held3 (fun w' => w'.cell? ⟨k, 0, none⟩ = some (.pointer (some ⟨r, 0, none⟩)) ∧ w'.cell? ⟨k, 2, none⟩ = some (.int .i64 (L.f : Int)) ∧ w'.cell? ⟨k, 3, none⟩ = some (.int .i64 (L.n : Int)))
            (first | exact ⟨c0, c2, c3⟩)
            ((go_at_call 36; refine h1.mono ?_; rintro e w1 ⟨g, cg, rfl, hFg, hrow, hw1⟩; have hw1' := hw1.symm; clear hw1; subst hw1'))
          have hsn := hrow.src
          rw [hnl] at hsn
          have h2 := ropen_any (some ⟨g, 0, none⟩) 512 cg l w.drew hsn hby
          rw [k1] at h2
          clear h1 hrow hsn c0 c2 c3
          go_wp2_with fail
          refine h2.mono ?_
          rintro e w2 ⟨v2, rfl, ho2, hb2⟩
          have hB2 : Below w.heap.size w w2 := (below_drew (Below.refl w.heap.size w)).trans hb2
          obtain ⟨a2, cc2, rfl, hs2, _, _⟩ := ho2.src
          have HB2 := Hid.mk hB2
          have hN := rnumber_any a2 _ cc2 _ w2 hs2 hbb 10 2 (by omega) (by omega) (by omega)
          rw [← hpf.2.2.2.1, show (((10 : Nat)) : Int) = 10 from rfl, show (((2 : Nat)) : Int) = 2 from rfl] at hN
          clear h2 hb2 hB2 ho2 hs2 hpf
          go_wp2_with fail
          refine hN.mono ?_
          rintro e w3 ⟨rfl, hw3⟩
          have hw3' := hw3.symm
          clear hw3 hN
          subst hw3'
          go_wp2
          go_ret2
          exact ⟨_, _, rfl, .inr ⟨rfl, rfl, HNo.out⟩, HB2.out⟩
      · have d4 : ¬ ((pcOf l).c : Int) < 1 := by omega
        have d5 : ¬ (17 : Int) < ((pcOf l).c : Int) := by omega
        have hRc : (R P).c = (pcOf l).c := by rw [hRP]
        have hpf3 := hpf.2.2.2.1
        go_enter Tryz.func89, Tryz.ntmps89
        go_wp2_with fail
        go_region_held3 (fun w' => w'.cell? ⟨k, 0, none⟩ = some (.pointer (some ⟨r, 0, none⟩)) ∧ w'.cell? ⟨k, 2, none⟩ = some (.int .i64 (L.f : Int)) ∧ w'.cell? ⟨k, 3, none⟩ = some (.int .i64 (L.n : Int)))
          (first | exact ⟨c0, c2, c3⟩)
          ((go_at_call 36; refine h1.mono ?_; rintro e w1 ⟨g, cg, rfl, hFg, hrow, hw1⟩; have hw1' := hw1.symm; clear hw1; subst hw1'))
        have hsn := hrow.src
        rw [hnl] at hsn
        have h2 := ropen_any (some ⟨g, 0, none⟩) 512 cg l w.drew hsn hby
        rw [k1] at h2
        clear h1 hrow hsn c0 c2 c3
        go_wp2_with fail
        refine h2.mono ?_
        rintro e w2 ⟨v2, rfl, ho2, hb2⟩
        have hB2 : Below w.heap.size w w2 := (below_drew (Below.refl w.heap.size w)).trans hb2
        obtain ⟨a2, cc2, rfl, hs2, _, _⟩ := ho2.src
        have HB2 := Hid.mk hB2
        have hN := rnumber_any a2 _ cc2 _ w2 hs2 hbb 10 2 (by omega) (by omega) (by omega)
        rw [← hpf.2.2.2.1, show (((10 : Nat)) : Int) = 10 from rfl, show (((2 : Nat)) : Int) = 2 from rfl] at hN
        clear h2 hb2 hB2 ho2 hs2 hpf
        go_wp2_with fail
        refine hN.mono ?_
        rintro e w3 ⟨rfl, hw3⟩
        have hw3' := hw3.symm
        clear hw3 hN
        subst hw3'
        obtain ⟨C, hC⟩ : ∃ C, C = (pcOf l).c := ⟨_, rfl⟩
        rw [← hC] at d4 d5 hRc k3 ⊢
        have HRc := Hid.mk hRc
        clear hRc hC hpf3 hRP
        go_wp2
        go_loopw [12, 13] (fun v i wr => ∃ j : Nat, j ≤ C ∧ i = .int .i64 (j : Int) ∧ (∀ t, t < j → (R (P + t)).ok E (P + t) t C) ∧ Own wr w.heap.size v (dataTo R P j) ∧ (dataTo R P j).length ≤ 492 * j ∧ Below w.heap.size w wr) (fun _ i _ => C - (intOf i).toNat)
        case atStart => exact ⟨0, Nat.zero_le _, rfl, fun t ht => by omega, by rw [dataTo_zero]; exact Own.nil _ _, by rw [dataTo_zero]; simp, HB2.out⟩
        case round =>
          obtain ⟨j, hj, rfl, hall, hown, hdl, hbr⟩ := hrel
          have Hown := Hid.mk hown
          have HB := Hid.mk hbr
          have HAll := Hid.mk hall
          have hz := hbr.size
          clear hown hbr hall
          by_cases hlt : j < C
          · have hlt' : (j : Int) < (C : Int) := by omega
            have hp := HPt.out wr j C HB.out (by omega) (by omega) (by omega)
            rw [show ((P + j : Nat) : Int) = (P : Int) + (j : Int) by omega] at hp
            go_wp2_with fail
            refine hp.mono ?_
            rintro e w4 ⟨v4, rfl, hpo, hb4⟩
            have hB4 := HB.out.trans (hb4.mono hz)
            have hz4 := hb4.size
            rcases hpo with ⟨hok, body, hob, hdr, hl12, hl504⟩ | ⟨hno, rfl⟩
            · obtain ⟨a4, c4, rfl, hs4, hcap, _⟩ := hob.src
              obtain ⟨b4, o4, rfl⟩ := src_spot hs4 (by omega)
              have hs5 : Src w4 (some ⟨b4, o4 + 12, none⟩) (body.length - 12) ((R (P + j)).d) := by
                have := hs4.sub 12 (body.length - 12) (by omega)
                rwa [List.take_of_length_le (by simp), hdr] at this
              have hd5 := hbR (P + j)
              have hl5 : (R (P + j)).d.length = body.length - 12 := by rw [← hdr]; simp
              obtain ⟨x5, w5, hrun, hown5, hb5⟩ := own_app (B := w.heap.size) (Hown.out.later hb4) (c4 - 12) hs5 (by omega) (by omega) (by omega)
              have HRun := Hid.mk hrun
              have HO5 := Hid.mk hown5
              have HB5 := Hid.mk (hB4.trans hb5)
              have HOk := Hid.mk hok
              obtain ⟨N, hN⟩ : ∃ N, N = body.length := ⟨_, rfl⟩
              rw [← hN] at hl12 hl504 hcap HRun hl5 ⊢
              have hn1 : ¬ (N : Int) = 0 := by omega
              have hn2 : ¬ N = 0 := by omega
              have hn3 : ((N : Int) == 0) = false := by rw [beq_eq_false_iff_ne]; omega
              have hn4 : (12 : Int) ≤ (N : Int) := by omega
              have hn5 : ¬ 12 = c4 := by omega
              have hn6 : N ≤ c4 := by omega
              clear hp hok hob hdr hs4 hs5 hrun hown5 hb5 hb4 hB4 hN
              go_wp2_with (at_builtin; refine wpList_append_run rfl _ _ 34 rfl u12 (.slice (some ⟨b4, o4 + 12, none⟩) (N - 12) (c4 - 12)) _ rfl rfl HRun.out ?_)
              go_wp2
              go_roundw
              case rel =>
                refine ⟨j + 1, by omega, by go_num, fun t ht => ?_, by rw [dataTo_succ]; exact HO5.out, by rw [dataTo_succ, List.length_append]; omega, HB5.out⟩
                by_cases e : t = j
                · subst e; exact HOk.out
                · exact HAll.out t (by omega)
              case measure => simp [intOf]; omega
            · have HNo := Hid.mk (show ∀ c d, ¬ Rec R E P c d from no_rec_part (by rw [HRc.out]; exact hlt) (by rw [HRc.out]; exact hno))
              have HB4 := Hid.mk hB4
              clear hno hb4 hB4 hp
              go_wp2
              go_ret2
              exact ⟨_, _, rfl, .inr ⟨rfl, rfl, HNo.out⟩, HB4.out⟩
          · obtain rfl : j = C := by omega
            have hge : ¬ (j : Int) < (j : Int) := by omega
            have HRec := Hid.mk (show Rec R E P j (dataTo R P j) from ⟨by omega, by omega, HAll.out, rfl⟩)
            go_wp2
            go_ret2
            exact ⟨_, _, rfl, .inl ⟨_, _, HRec.out, rfl, Hown.out⟩, HB.out⟩
  · have HNo := Hid.mk (show ∀ c d, ¬ Rec R E P c d from no_rec (by rw [hRP]; exact pc_none (.inl k1)))
    have d1 : (((sopens l).2 : Int) == 0) = false := by rw [beq_eq_false_iff_ne]; omega
    have d1' : (((sopens l).2 : Int) != 0) = true := by rw [bne_iff_ne]; omega
    clear k1 HPt hRP
    go_enter Tryz.func89, Tryz.ntmps89
    go_wp2_with fail
    go_region_held3 (fun w' => w'.cell? ⟨k, 0, none⟩ = some (.pointer (some ⟨r, 0, none⟩)) ∧ w'.cell? ⟨k, 2, none⟩ = some (.int .i64 (L.f : Int)) ∧ w'.cell? ⟨k, 3, none⟩ = some (.int .i64 (L.n : Int)))
      (first | exact ⟨c0, c2, c3⟩)
      ((go_at_call 36; refine h1.mono ?_; rintro e w1 ⟨g, cg, rfl, hFg, hrow, hw1⟩; have hw1' := hw1.symm; clear hw1; subst hw1'))
    have hsn := hrow.src
    rw [hnl] at hsn
    have h2 := ropen_any (some ⟨g, 0, none⟩) 512 cg l w.drew hsn hby
    clear h1 hrow hsn c0 c2 c3
    go_wp2_with fail
    refine h2.mono ?_
    rintro e w2 ⟨v2, rfl, ho2, hb2⟩
    have hB2 : Below w.heap.size w w2 := (below_drew (Below.refl w.heap.size w)).trans hb2
    obtain ⟨a2, cc2, rfl, hs2, _, _⟩ := ho2.src
    have HB2 := Hid.mk hB2
    clear h2 hb2 hB2 ho2 hs2
    go_wp2
    go_ret2
    exact ⟨_, _, rfl, .inr ⟨rfl, rfl, HNo.out⟩, HB2.out⟩
end
end Go.Proofs.YtijgdmhglnanjaaGreat
end
