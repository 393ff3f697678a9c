import Derived.Test.YtijgdmhglnanjaaGreatW30
section
namespace Go.Proofs.YtijgdmhglnanjaaGreat
open Go.RowKit

theorem pc_zero_e {l : List Int} (h : (sopens l).2 ≠ 0 ∨ (sopens l).1.length < 12) : (pcOf l).e = 0 := by
  unfold pcOf
  rw [if_pos h]
  rfl
theorem rtop_same {R : Nat → PC} {E j : Nat} (h : (R j).e < 1 ∨ 1073741824 < (R j).e ∨ (R j).e ≤ max E (rtop R j)) : max E (rtop R (j + 1)) = max E (rtop R j) := by
  show max E (if (R j).e ≤ 1073741824 then max (rtop R j) (R j).e else rtop R j) = _
  split <;> omega
theorem rtop_more {R : Nat → PC} {E j : Nat} (h : (R j).e ≤ 1073741824) (h2 : max E (rtop R j) < (R j).e) : max E (rtop R (j + 1)) = (R j).e := by
  show max E (if (R j).e ≤ 1073741824 then max (rtop R j) (R j).e else rtop R j) = _
  rw [if_pos h]
  omega

section
variable {w w' : World} {F G : Nat → Prop} {r s k : Nat} {S : DS} {L : LG}

set_option maxRecDepth 20000 in
set_option maxHeartbeats 2000000 in
theorem rtop_any (E : Nat) (h : RefAt w F r s S) (hl : LogR w k r L) (hby0 : S.Byt) (hs : L.f + 2 + L.n ≤ s) (hbig : S.puts.length + 1 ≤ 4000000000000) (hE : E ≤ 1073741824) :
    Calls Tryz.prog 88 #[.pointer (some ⟨k, 0, none⟩), .int .i64 (E : Int)] w fun e w' => e = .returned (.int .i64 ((max E (rtop (oRing S L.f) L.n) : Nat) : Int)) ∧ Below w.heap.size w w' := by
  have hss := h.ok.hi
  have HD := Hid.mk h
  have HL := Hid.mk hl
  have HOk := Hid.mk h.ok
  have HBy := Hid.mk hby0
  have hRe : ∀ q, pcOf (S.now (L.f + 2 + q)) = oRing S L.f q := fun q => rfl
  have HRe := Hid.mk hRe
  clear h hl hby0 hRe
  obtain ⟨R, hR⟩ : ∃ R, R = oRing S L.f := ⟨_, rfl⟩
  rw [← hR] at HRe ⊢
  clear hR
  go_enter Tryz.func88, Tryz.ntmps88
  go_wp2
  go_loopw [5, 6] (fun m i wr => ∃ j : Nat, j ≤ L.n ∧ i = .int .i64 (j : Int) ∧ m = .int .i64 ((max E (rtop R j) : Nat) : Int) ∧ Below w.heap.size w wr) (fun _ i _ => L.n - (intOf i).toNat)
  case atStart => exact ⟨0, Nat.zero_le _, rfl, by simp [rtop], Below.refl _ _⟩
  case round =>
    obtain ⟨j, hj, rfl, rfl, hbr⟩ := hrel
    have HB := Hid.mk hbr
    have hl1 := HL.out.later hbr
    have c0 := hl1.c0
    have c2 := hl1.c2
    have c3 := hl1.c3
    have hz := hbr.size
    have hrt := rtop_le R j
    have HSame := Hid.mk (rtop_same (R := R) (E := E) (j := j))
    have HMore := Hid.mk (rtop_more (R := R) (E := E) (j := j))
    obtain ⟨M, hM⟩ : ∃ M, M = max E (rtop R j) := ⟨_, rfl⟩
    rw [← hM] at HSame HMore ⊢
    have hM1 : M ≤ 1073741824 := by omega
    have HM := Hid.mk hM
    clear hM hrt hl1
    by_cases hlt : j < L.n
    · have hlt' : (j : Int) < (L.n : Int) := by omega
      have h1 := rnow_at ((HD.out.later hbr).later (below_drew (Below.refl wr.heap.size wr))) (L.f + 2 + j) (by omega) (by omega)
      have hnl := now_len HOk.out (L.f + 2 + j) (by omega)
      have hby := HBy.out.now (L.f + 2 + j)
      have hpc := HRe.out j
      rw [show ((L.f + 2 + j : Nat) : Int) = (L.f : Int) + 2 + (j : Int) by omega] at h1
      have hwr : IntKind.i64.wrap ((L.f : Int) + 2) = (L.f : Int) + 2 := by rw [IntKind.wrap_i64]; omega
      have hwr2 : IntKind.i64.wrap ((L.f : Int) + 2 + (j : Int)) = (L.f : Int) + 2 + (j : Int) := by rw [IntKind.wrap_i64]; omega
      generalize S.now (L.f + 2 + j) = l at *
      have hlen := so_len l
      have hbb := so_bytes hby
      have HZe := Hid.mk (pc_zero_e (l := l))
      have HFi := Hid.mk (fun a b => (pc_fields (l := l) a b).1)
      have hes := (pcOf_small hby).1
      rw [hpc] at HZe HFi hes
      clear hbr hpc
      go_wp2_with fail
      go_region_held3 (fun w' => w'.cell? ⟨k, 0, none⟩ = some (.pointer (some ⟨r, 0, none⟩)) ∧ w'.cell? ⟨k, 2, none⟩ = some (.int .i64 (L.f : Int)))
        (first | exact ⟨c0, c2⟩)
        ((go_at_call 36; refine h1.mono ?_; rintro e w1 ⟨g, cg, rfl, hFg, hrow, hw1⟩; have hw1' := hw1.symm; clear hw1; subst hw1'))
      have hsn := hrow.src
      rw [hnl] at hsn
      have h2 := ropen_any (some ⟨g, 0, none⟩) 512 cg l wr.drew hsn hby
      clear h1 hrow hsn c0 c2 c3
      go_wp2_with fail
      refine h2.mono ?_
      rintro e w2 ⟨v2, rfl, ho2, hb2⟩
      have hB2 : Below w.heap.size w w2 := HB.out.trans ((below_drew (Below.refl wr.heap.size wr)).trans hb2 |>.mono hz)
      obtain ⟨a2, cc2, rfl, hs2, _, _⟩ := ho2.src
      have HB2 := Hid.mk hB2
      have HS2 := Hid.mk hs2
      clear h2 hb2 hB2 ho2 hs2
      by_cases k1 : (sopens l).2 = 0
      · by_cases k2 : (sopens l).1.length < 12
        · have d2 : ((sopens l).1.length : Int) < 12 := by omega
          have HE := Hid.mk (HSame.out (.inl (by rw [HZe.out (.inr k2)]; omega)))
          rw [k1]
          go_wp2
          go_roundw
          case rel => exact ⟨j + 1, by omega, by go_num, by rw [HE.out], HB2.out⟩
          case measure => simp [intOf]; omega
        · have d2 : ¬ ((sopens l).1.length : Int) < 12 := by omega
          have hN := rnumber_any a2 _ cc2 _ w2 HS2.out hbb 0 4 (by omega) (by omega) (by omega)
          rw [← HFi.out k1 (by omega), show (((0 : Nat)) : Int) = 0 from rfl, show (((4 : Nat)) : Int) = 4 from rfl] at hN
          rw [k1]
          clear HFi HZe
          obtain ⟨X, hX⟩ : ∃ X, X = (R j).e := ⟨_, rfl⟩
          rw [← hX] at hN hes HSame HMore
          clear hX
          go_wp2_with fail
          refine hN.mono ?_
          rintro e w3 ⟨rfl, hw3⟩
          have hw3' := hw3.symm
          clear hw3 hN
          subst hw3'
          by_cases x1 : X < 1
          · have y1 : ¬ (1 : Int) ≤ (X : Int) := by omega
            have HE := Hid.mk (HSame.out (.inl x1))
            go_wp2
            go_roundw
            case rel => exact ⟨j + 1, by omega, by go_num, by rw [HE.out], HB2.out⟩
            case measure => simp [intOf]; omega
          · have y1 : (1 : Int) ≤ (X : Int) := by omega
            by_cases x2 : 1073741824 < X
            · have y2 : ¬ (X : Int) ≤ 1073741824 := by omega
              have HE := Hid.mk (HSame.out (.inr (.inl x2)))
              go_wp2
              go_roundw
              case rel => exact ⟨j + 1, by omega, by go_num, by rw [HE.out], HB2.out⟩
              case measure => simp [intOf]; omega
            · have y2 : (X : Int) ≤ 1073741824 := by omega
              by_cases x3 : M < X
              · have y3 : (M : Int) < (X : Int) := by omega
                have HE := Hid.mk (HMore.out (by omega) x3)
                go_wp2
                go_roundw
                case rel => exact ⟨j + 1, by omega, by go_num, by rw [HE.out], HB2.out⟩
                case measure => simp [intOf]; omega
              · have y3 : ¬ (M : Int) < (X : Int) := by omega
                have HE := Hid.mk (HSame.out (.inr (.inr (by omega))))
                go_wp2
                go_roundw
                case rel => exact ⟨j + 1, by omega, by go_num, by rw [HE.out], HB2.out⟩
                case measure => simp [intOf]; omega
      · have d1 : (((sopens l).2 : Int) == 0) = false := by rw [beq_eq_false_iff_ne]; omega
        have d1' : (((sopens l).2 : Int) != 0) = true := by rw [bne_iff_ne]; omega
        have d1'' : ¬ ((sopens l).2 : Int) = 0 := by omega
        have HE := Hid.mk (HSame.out (.inl (by rw [HZe.out (.inl k1)]; omega)))
        go_wp2
        go_roundw
        case rel => exact ⟨j + 1, by omega, by go_num, by rw [HE.out], HB2.out⟩
        case measure => simp [intOf]; omega
    · obtain rfl : j = L.n := by omega
      have hge : ¬ (L.n : Int) < (L.n : Int) := by omega
      go_wp2
      go_ret
      exact ⟨by rw [← HM.out]; rfl, HB.out⟩
end
end Go.Proofs.YtijgdmhglnanjaaGreat
end

section
namespace Go.Proofs.YtijgdmhglnanjaaGreat
open Go.RowKit

theorem dataTo_low {R : Nat → PC} {P : Nat} : ∀ c, 1 ≤ c → (R P).d.length ≤ (dataTo R P c).length
  | 0, h => by omega
  | c + 1, _ => by
    rw [dataTo_succ, List.length_append]
    by_cases e : c = 0
    · subst e; rw [Nat.add_zero]; omega
    · have := dataTo_low (R := R) (P := P) c (by omega); omega
theorem Rec.some {R : Nat → PC} {E P c : Nat} {d : List Int} (h : Rec R E P c d) : 0 < d.length := by
  have h1 := (h.2.2.1 0 (by have := h.1; omega)).2.2.2.2.1
  rw [Nat.add_zero] at h1
  have := dataTo_low (R := R) (P := P) c h.1
  rw [h.2.2.2]
  omega

section
variable {w w' : World} {F G : Nat → Prop} {r s k : Nat} {S : DS} {L : LG}

/-- What the document's Open tells. -/
structure RTold (w' : World) (B k r : Nat) (L : LG) (S : DS) (v : Value) (rs : List (List Int)) (hd : Nat) : Prop where
  rc : RecsAt w' B v rs (fun _ => False)
  t : Tells (Rp (oRing S L.f) L.n) (oNew S L.f).1 (oNew S L.f).2.1 rs hd
  x : ∀ c d, ¬ Rec (Rp (oRing S L.f) L.n) (oNew S L.f).1 hd c d
  p : LogR w' k r { L with ep := (oNew S L.f).1, tail := (oNew S L.f).2.1, head := hd, top := oTop S L.f L.n }
def ROpened (w w' : World) (r s : Nat) (S : DS) (f n : Int) (e : Ending) : Prop :=
  if (lopen S s f n).1 ≠ 0 then e = .returned (.tuple #[.pointer none, .slice none 0 0, .int .i64 (lopen S s f n).1])
  else ∃ k v rs hd, e = .returned (.tuple #[.pointer (some ⟨k, 0, none⟩), v, .int .i64 0]) ∧ w.heap.size ≤ k ∧ RTold w' w.heap.size k r (LG.new S f.toNat n.toNat) S v rs hd

theorem LogR.topped (h : LogR w k r L) (T : Nat) : LogR (w.setCell ⟨k, 7, none⟩ (.int .i64 (T : Int))) k r { L with top := T } :=
  (heap_setCell_same _ _ 7 _ _ _ h).trans (by simp)
theorem LogR.headed (h : LogR w k r L) (T : Int) (n : Nat) (hT : T = (n : Int)) : LogR (w.setCell ⟨k, 6, none⟩ (.int .i64 T)) k r { L with head := n } := by
  subst hT
  exact (heap_setCell_same _ _ 6 _ _ _ h).trans (by simp)
/-- Records beside a log's marks. -/
theorem RecsAt.marked {B : Nat} {v : Value} {rs : List (List Int)} {X : Nat → Prop} (h : RecsAt w B v rs X) (hl : LogR w k r L) (j : Nat) (u : Value) : RecsAt (w.setCell ⟨k, j, none⟩ u) B v rs X := by
  have hne : ∀ (g : Nat) (t : TypeId) (cur : Array Value), w.heap[g]? = some (Obj.cells cur t (0, 0)) → t ≠ 127 → (w.setCell ⟨k, j, none⟩ u).heap[g]? = w.heap[g]? := fun g t cur hc ht => by
    have : g ≠ k := fun e => by subst e; exact type_ne hc hl ht
    exact (keeps_set (F := fun b => b = k) w rfl j u).block g (lt_there hc) this
  refine h.step (fun g hg => ?_) (fun g cur hc _ => hne g _ cur hc (by decide)) (fun _ _ h => h)
  obtain ⟨vs, h1, _⟩ := h
  obtain ⟨cur, hc⟩ := owns_block h1 hg
  exact hne g _ cur hc (by decide)

/-- The next record is appended. -/
theorem recs_next {W : World} {B : Nat} {v : Value} {rs : List (List Int)} (h : RecsAt W B v rs (fun _ => False)) {g c : Nat} {d : List Int} (hr : RowAt W 5 g c (bs d)) (hB : B ≤ g) (hBW : B ≤ W.heap.size) (hrs : rs.length ≤ 1000000) :
    ∃ v' w', (Builtin.append_ #[70, 70] 70 #[v, .slice (some ⟨W.heap.size, 0, none⟩) 1 1]).run Tryz.prog (W.alloc (.cells #[.slice (some ⟨g, 0, none⟩) d.length c] 34)) = .ok v' w' ∧ RecsAt w' B v' (rs ++ [d]) (fun _ => False) ∧ Below B W w' ∧ ∀ (b : Nat) (cur : Array Value), W.heap[b]? = some (.cells cur 127 (0, 0)) → w'.heap[b]? = some (.cells cur 127 (0, 0)) := by
  obtain ⟨vs, h1, h2⟩ := h
  obtain ⟨g', cap', w', hrun, ho, hg⟩ := app_rec h1 (.slice (some ⟨g, 0, none⟩) d.length c) rfl hrs hBW
  have hbx := below_box W (.cells #[.slice (some ⟨g, 0, none⟩) d.length c] 34)
  have h1' : (W.alloc (.cells #[.slice (some ⟨g, 0, none⟩) d.length c] 34)).ownsRow B 34 1 v rs.length vs := owns_agree h1 (fun x hx => by
    obtain ⟨cur, hc⟩ := owns_block h1 hx
    exact hbx.block x (lt_there hc))
  refine ⟨_, w', hrun, recs_push h1' (fun i hi => ?_) (hr.agree (hbx.block g hr.lt)) hB ho hg, ?_, fun b cur hb => ?_⟩
  · obtain ⟨x, y, e1, e2, e3, _⟩ := h2 i hi
    exact ⟨x, y, e1, e2.agree (hbx.block x e2.lt), e3⟩
  · exact (hbx.mono hBW).grown hg (Nat.le_trans hBW hbx.size) (fun x hx => own_lo h1 hx)
  · exact grown_other hg (fun x hx => owns_block h1' hx) ((hbx.block b (lt_there hb)).trans hb) (by decide)
end
end Go.Proofs.YtijgdmhglnanjaaGreat
end

section
namespace Go.Proofs.YtijgdmhglnanjaaGreat
open Go.RowKit

theorem lopen_refused {S : DS} {s : Nat} {f n : Int} (h : lrefuse S s f n ≠ 0) : lopen S s f n = (lrefuse S s f n, S) := by unfold lopen; rw [if_pos h]
theorem lopen_corrupt {S : DS} {s a b : Nat} (h : lrefuse S s a b = 0) (h2 : (oNew S a).2.2 = 6) : lopen S s a b = (6, S.take) := by
  unfold lopen
  rw [if_neg (by omega), Int.toNat_natCast, if_pos (by omega), h2]
  rfl
theorem lopen_worn {S : DS} {s a b : Nat} (h : lrefuse S s a b = 0) (h2 : (oNew S a).2.2 = 0) (h3 : oTop S a b = 1073741824) : lopen S s a b = (41, S.take) := by
  unfold lopen
  rw [if_neg (by omega), Int.toNat_natCast, Int.toNat_natCast, if_neg (by omega), if_pos h3]
theorem lopen_right {S : DS} {s a b : Nat} (h : lrefuse S s a b = 0) (h2 : (oNew S a).2.2 = 0) (h3 : oTop S a b ≠ 1073741824) : lopen S s a b = S.take.fl s := by
  unfold lopen
  rw [if_neg (by omega), Int.toNat_natCast, Int.toNat_natCast, if_neg (by omega), if_neg h3]

section
variable {w w' : World} {F G : Nat → Prop} {r s k : Nat} {S : DS} {L : LG}

theorem ropened_no {f n : Int} {c : Int} {T : DS} (h : lopen S s f n = (c, T)) (hc : c ≠ 0) (hd : RefAt w' F r s T) (hk : Keeps F w w') : ROpened w w' r s S f n (.returned (.tuple #[.pointer none, .slice none 0 0, .int .i64 c])) ∧ RefAt w' F r s (lopen S s f n).2 ∧ Keeps F w w' := by
  unfold ROpened
  rw [h]
  exact ⟨by rw [if_pos hc], hd, hk⟩

theorem ropened_yes {a b : Nat} {v : Value} {rs : List (List Int)} {hd : Nat} (h : lopen S s (a : Int) (b : Int) = S.take.fl s) (hc : (S.take.fl s).1 = 0) (hd' : RefAt w' F r s (S.take.fl s).2) (hk : Keeps F w w') (hlo : w.heap.size ≤ k) (ht : RTold w' w.heap.size k r (LG.new S a b) S v rs hd) :
    ROpened w w' r s S (a : Int) (b : Int) (.returned (.tuple #[.pointer (some ⟨k, 0, none⟩), v, .int .i64 0])) ∧ RefAt w' F r s (lopen S s (a : Int) (b : Int)).2 ∧ Keeps F w w' := by
  unfold ROpened
  rw [h]
  refine ⟨?_, hd', hk⟩
  rw [if_neg (fun h => h hc)]
  exact ⟨k, v, rs, hd, rfl, hlo, ht⟩
theorem owns_lt' {W : World} {B : Nat} {e : TypeId} {v : Value} {n : Nat} {xs : List Value} {g : Nat} (h : W.ownsRow B e 1 v n xs) (hv : v.ownBlock = some g) : g < W.heap.size := by
  obtain ⟨cur, hc⟩ := owns_block h hv
  exact lt_there hc

set_option maxRecDepth 20000 in
set_option maxHeartbeats 8000000 in
theorem rOpen_any (h : RefAt w F r s S) (hby : S.Byt) (f n : Int) (hbig : S.puts.length + 500 ≤ 4000000000000) :
    Calls Tryz.prog 52 #[.pointer (some ⟨r, 0, none⟩), .int .i64 f, .int .i64 n] w fun e w' => ROpened w w' r s S f n e ∧ RefAt w' F r s (lopen S s f n).2 ∧ Keeps F w w' := by
  have h1 := rargs_any h f n
  have HLt := Hid.mk h.lt
  have HD := Hid.mk h
  by_cases q : lrefuse S s f n = 0
  · have HQ := Hid.mk q
    obtain ⟨hf0, a, b, rfl, rfl, hab, hb1, hb2⟩ := lrefuse_zero q
    rw [q] at h1
    have hs := h.ok.hi
    have h2 := rtake_at h
    have hlA := now_len h.ok a (by omega)
    have hlB := now_len h.ok (a + 1) (by omega)
    have hbA := hby.now a
    have hbB := hby.now (a + 1)
    have hsm := snewest_small (S.now a) (S.now (a + 1))
    have hon : oNew S a = lnewest (S.now a) (S.now (a + 1)) := rfl
    have HBy := Hid.mk hby
    have HN := Hid.mk (fun a1 c1 a2 c2 w1 q1 q2 => rnewest_any a1 512 c1 (S.now a) a2 512 c2 (S.now (a + 1)) w1 q1 q2 hbA hbB)
    have hnl := snewest_len (S.now a) (S.now (a + 1))
    unfold lnewest at hon
    generalize snewest (S.now a) (S.now (a + 1)) = X at *
    obtain ⟨x1, N, D, ER⟩ := X
    simp only at hon hsm HN hnl
    have HoN := Hid.mk hon
    clear h q hby hbA hbB hon
    go_enter Tryz.func52, Tryz.ntmps52
    go_wp2_with fail
    refine h1.mono ?_
    rintro e w1 ⟨rfl, hw1⟩
    have hw1' := hw1.symm
    clear hw1
    subst hw1'
    clear h1
    go_wp2_with fail
    refine h2.mono ?_
    rintro e w2 ⟨rfl, hd2, hk2⟩
    have HD2 := Hid.mk hd2
    have HK2 := Hid.mk hk2
    have hz2 := hk2.size
    have h3 := rnow_at hd2 a (by omega) (by show S.puts.length ≤ _; omega)
    have h4 := rnow_at hd2 (a + 1) (by omega) (by show S.puts.length ≤ _; omega)
    rw [show ((a + 1 : Nat) : Int) = (a : Int) + 1 by omega] at h4
    clear h2 hd2 hk2
    go_wp2_with fail
    refine h3.mono ?_
    rintro e w3 ⟨g3, c3, rfl, _, hrow3, hw3⟩
    have hw3' := hw3.symm
    clear hw3
    subst hw3'
    have hs3 := hrow3.src
    rw [show S.take.now a = S.now a from rfl, hlA] at hs3
    have HS3 := Hid.mk hs3
    clear h3 hrow3 hs3
    go_wp2_with fail
    refine h4.mono ?_
    rintro e w4 ⟨g4, c4, rfl, _, hrow4, hw4⟩
    have hw4' := hw4.symm
    clear hw4
    subst hw4'
    have hs4 := hrow4.src
    rw [show S.take.now (a + 1) = S.now (a + 1) from rfl, hlB] at hs4
    have h5 := HN.out (some ⟨g3, 0, none⟩) c3 (some ⟨g4, 0, none⟩) c4 w2 HS3.out hs4
    clear h4 hrow4 hs4 HN HS3
    go_wp2_with fail
    refine h5.mono ?_
    rintro e w5 ⟨v5, rfl, ho5, hb5⟩
    obtain ⟨a5, c5, rfl, hs5, _, _⟩ := ho5.src
    have HB5 := Hid.mk hb5
    have hz5 := hb5.size
    have HKd : Hid (Keeps F w w5) := HK2.out.trans (Keeps.of_below F hb5) (fun _ h => .inl h)
    have HDd := Hid.mk (HD2.out.later hb5)
    clear h5 ho5 hb5 hs5
    have q1 : (N : Int).tdiv 4294967296 = ((N / 4294967296 : Nat) : Int) := by rw [Int.tdiv_eq_ediv_of_nonneg (by omega)]; omega
    have q2 : (N : Int).tmod 4294967296 = ((N % 4294967296 : Nat) : Int) := by rw [Int.tmod_eq_emod_of_nonneg (by omega)]; omega
    have hE0 : N / 4294967296 ≤ 2147483647 := by omega
    have hT0 : N % 4294967296 < 4294967296 := by omega
    obtain ⟨E, hE⟩ : ∃ E, E = N / 4294967296 := ⟨_, rfl⟩
    obtain ⟨T, hT⟩ : ∃ T, T = N % 4294967296 := ⟨_, rfl⟩
    obtain ⟨dl, hdl⟩ : ∃ dl, dl = D.length := ⟨_, rfl⟩
    rw [← hE] at q1 hE0 HoN
    rw [← hT] at q2 hT0 HoN
    rw [← hdl] at HoN hnl ⊢
    clear hE hT hdl
    by_cases k1 : ER = 0
    · subst k1
      by_cases k2 : 0 < dl
      · have HP := Hid.mk (lopen_corrupt (b := b) HQ.out (by rw [HoN.out, if_pos (.inr (.inl k2))]))
        have d2 : (0 : Int) < (dl : Int) := by omega
        clear HoN
        go_wp2
        go_ret3
        exact ropened_no HP.out (by omega) HDd.out HKd.out
      · have d2 : ¬ (0 : Int) < (dl : Int) := by omega
        obtain rfl : dl = 0 := by omega
        by_cases k3 : E < 1
        · have HP := Hid.mk (lopen_corrupt (b := b) HQ.out (by rw [HoN.out, if_pos (.inr (.inr (.inl k3)))]))
          have d3 : (E : Int) < 1 := by omega
          clear HoN
          go_wp2
          go_ret3
          exact ropened_no HP.out (by omega) HDd.out HKd.out
        · have d3 : ¬ (E : Int) < 1 := by omega
          by_cases k4 : 1073741824 < E
          · have HP := Hid.mk (lopen_corrupt (b := b) HQ.out (by rw [HoN.out, if_pos (.inr (.inr (.inr (.inl k4))))]))
            have d4 : (1073741824 : Int) < (E : Int) := by omega
            clear HoN
            go_wp2
            go_ret3
            exact ropened_no HP.out (by omega) HDd.out HKd.out
          · have d4 : ¬ (1073741824 : Int) < (E : Int) := by omega
            by_cases k5 : 1073741824 < T
            · have HP := Hid.mk (lopen_corrupt (b := b) HQ.out (by rw [HoN.out, if_pos (.inr (.inr (.inr (.inr k5))))]))
              have d5 : (1073741824 : Int) < (T : Int) := by omega
              clear HoN
              go_wp2
              go_ret3
              exact ropened_no HP.out (by omega) HDd.out HKd.out
            · have d5 : ¬ (1073741824 : Int) < (T : Int) := by omega
              have HO : Hid (oNew S a = (E, T, 0)) := by
                have := HoN.out
                rw [if_neg (by omega)] at this
                exact this
              clear HoN
              have hl6 : LogR (w5.alloc (.cells (lrC r ⟨a, b, wrap64 (S.life + 1), false, E, T, T, 0⟩) 127)) w5.heap.size r ⟨a, b, wrap64 (S.life + 1), false, E, T, T, 0⟩ := heap_alloc_new _ _
              have hb6 := below_box w5 (.cells (lrC r ⟨a, b, wrap64 (S.life + 1), false, E, T, T, 0⟩) 127)
              have h6 := rtop_any E (HDd.out.later hb6) hl6 HBy.out.take (by show a + 2 + b ≤ s; omega) (by show S.puts.length + 1 ≤ _; omega) (by omega)
              have htop : max E (rtop (oRing S.take a) b) = oTop S a b := by unfold oTop; rw [HO.out]; rfl
              rw [show (({ f := a, n := b, life := wrap64 (S.life + 1), begun := false, ep := E, tail := T, head := T, top := 0 } : LG).f) = a from rfl, show (({ f := a, n := b, life := wrap64 (S.life + 1), begun := false, ep := E, tail := T, head := T, top := 0 } : LG).n) = b from rfl, htop] at h6
              have htl := oTop_le (S := S) (f := a) (n := b) (by rw [HO.out])
              obtain ⟨Q, hQ⟩ : ∃ Q, Q = oTop S a b := ⟨_, rfl⟩
              rw [← hQ] at h6 htl
              have HTp := Hid.mk hQ
              have HL6 := Hid.mk hl6
              have HB6 := Hid.mk hb6
              have hz6 : (w5.alloc (.cells (lrC r ⟨a, b, wrap64 (S.life + 1), false, E, T, T, 0⟩) 127)).heap.size = w5.heap.size + 1 := by simp
              clear hQ htop hl6 hb6
              go_wp2_with fail
              refine h6.mono ?_
              rintro e w7 ⟨rfl, hb7⟩
              have hl7 := HL6.out.later hb7
              have hz7 := hb7.size
              have HB7 : Hid (Below w2.heap.size w2 w7) := HB5.out.trans ((HB6.out.trans (hb7.mono (by omega))).mono hz5)
              have c7 := hl7.c7
              have f7 := hl7.fz 7
              have hl8 := hl7.topped Q
              have HL8 := Hid.mk hl8
              have c7' : (w7.setCell ⟨w5.heap.size, 7, none⟩ (.int .i64 (Q : Int))).cell? ⟨w5.heap.size, 7, none⟩ = some (.int .i64 (Q : Int)) := hl8.c7
              have HB8 : Hid (Below w2.heap.size w2 (w7.setCell ⟨w5.heap.size, 7, none⟩ (.int .i64 (Q : Int)))) := HB7.out.setCell (p := ⟨w5.heap.size, 7, none⟩) hz5 _
              clear h6 hb7 hl7 hl8 HB7
              by_cases k6 : Q = 1073741824
              · have HP := Hid.mk (lopen_worn HQ.out (by rw [HO.out]) (HTp.out.symm.trans k6))
                have d6 : ((Q : Int) == 1073741824) = true := by rw [k6]; rfl
                have HK6 := Hid.mk k6
                clear k6
                have HDe := Hid.mk (HD2.out.later HB8.out)
                have HKe : Hid (Keeps F w _) := HK2.out.trans (Keeps.of_below F HB8.out) (fun _ h => .inl h)
                go_wp2
                go_ret3
                exact ropened_no HP.out (by omega) HDe.out HKe.out
              · have d6 : ¬ (Q : Int) = 1073741824 := by omega
                have d6' : ((Q : Int) == 1073741824) = false := by rw [beq_eq_false_iff_ne]; omega
                have HP := Hid.mk (lopen_right HQ.out (by rw [HO.out]) (fun h => k6 (HTp.out.trans h)))
                have HK6 := Hid.mk k6
                go_wp2
                generalize w7.setCell ⟨w5.heap.size, 7, none⟩ (.int .i64 (Q : Int)) = w8 at *
                clear c7 c7' f7 k6 d6 d6'
                have hz8 := HB8.out.size
                go_loopw [20] (fun v wr => ∃ (rs : List (List Int)) (hd : Nat), LogR wr w5.heap.size r ⟨a, b, wrap64 (S.life + 1), false, E, T, hd, Q⟩ ∧ RecsAt wr w2.heap.size v rs (fun _ => False) ∧ Tells (Rp (oRing S a) b) E T rs hd ∧ Below w2.heap.size w2 wr) (fun _ wr => T + b - (intOf ((wr.cell? ⟨w5.heap.size, 6, none⟩).getD (.bool false))).toNat)
                case atStart => exact ⟨[], T, HL8.out, RecsAt.nil _ _ _, Tells.nil _ _ _, HB8.out⟩
                case round =>
                  obtain ⟨rs, hd, hlr, hrec, htl, hbr⟩ := hrel
                  have hdb := Tells.round (by omega) (Rp_round (oRing S a) b) htl
                  have hrl := Tells.length htl
                  have c6 : wr.cell? ⟨w5.heap.size, 6, none⟩ = some (.int .i64 (hd : Int)) := hlr.c6
                  have hat := rat_any E hd (HD2.out.later hbr) hlr HBy.out.take (by show a + 2 + b ≤ s; omega) (by show 1 ≤ b; omega) (by show S.puts.length + 1 ≤ _; omega) (by omega) (by omega)
                  have HLr := Hid.mk hlr
                  have HRc := Hid.mk hrec
                  have HTl := Hid.mk htl
                  have HBr := Hid.mk hbr
                  have hzr := hbr.size
                  have HC6 := Hid.mk c6
                  clear hlr hrec htl hbr
                  go_wp2_with fail
                  refine hat.mono ?_
                  rintro e w9 ⟨v9, n9, rfl, hao, hb9⟩
                  have hz9 := hb9.size
                  rcases hao with ⟨c, d, hrc, rfl, hown⟩ | ⟨rfl, rfl, hno⟩
                  · have hc1 := hrc.1
                    have hc17 := hrc.2.1
                    have d9 : ((c : Int) == 0) = false := by rw [beq_eq_false_iff_ne]; omega
                    have d9' : ¬ (c : Int) = 0 := by omega
                    obtain ⟨g, cg, rfl, hg, hrow⟩ := hown.row' hrc.some
                    obtain ⟨v', w10, hrun, hr10, hb10, hlg⟩ := recs_next (HRc.out.cells (cellsIn_below hb9)) hrow (by omega) (by omega) (by omega)
                    have hl10 : LogR w10 w5.heap.size r ⟨a, b, wrap64 (S.life + 1), false, E, T, hd, Q⟩ := hlg _ _ (HLr.out.later hb9)
                    have c6' : w10.cell? ⟨w5.heap.size, 6, none⟩ = some (.int .i64 (hd : Int)) := hl10.c6
                    have f6 := hl10.fz 6
                    have htn := HTl.out.snoc (show Rec (Rp (oRing S a) b) E hd c d from hrc)
                    have hdn := Tells.round (by omega) (Rp_round (oRing S a) b) htn
                    have HRun := Hid.mk hrun
                    have hlh : LogR (w10.setCell ⟨w5.heap.size, 6, none⟩ (.int .i64 ((hd : Int) + (c : Int)))) w5.heap.size r ⟨a, b, wrap64 (S.life + 1), false, E, T, hd + c, Q⟩ := hl10.headed ((hd : Int) + (c : Int)) (hd + c) (by omega)
                    have HZ := Hid.mk (And.intro hlh (And.intro (hr10.marked hl10 6 (.int .i64 ((hd : Int) + (c : Int)))) (And.intro htn ((HBr.out.trans ((hb9.mono hzr).trans hb10)).setCell (p := ⟨w5.heap.size, 6, none⟩) hz5 (.int .i64 ((hd : Int) + (c : Int)))))))
                    have HC6' : Hid ((w10.setCell ⟨w5.heap.size, 6, none⟩ (.int .i64 ((hd : Int) + (c : Int)))).cell? ⟨w5.heap.size, 6, none⟩ = some (.int .i64 ((hd + c : Nat) : Int))) := hlh.c6
                    clear hat hb9 hrun hr10 hb10 hlg hl10 hlh htn hrow hown hrc c6
                    go_wp2_with (at_builtin; refine wpList_append_run rfl _ _ 70 rfl u20 (.slice (some ⟨w9.heap.size, 0, none⟩) 1 1) _ rfl rfl HRun.out ?_)
                    go_wp2
                    go_roundw
                    case rel => exact ⟨rs ++ [d], hd + c, HZ.out⟩
                    case measure =>
                      rw [HC6.out, HC6'.out]
                      simp [intOf]
                      omega
                  · have hfl := rflush_w (HD2.out.later (HBr.out.trans (hb9.mono hzr))) (by show S.puts.length + 1 ≤ _; omega)
                    have HRc9 := Hid.mk (HRc.out.cells (cellsIn_below hb9))
                    have HL9 := Hid.mk (HLr.out.later hb9)
                    have HB9 : Hid (Below w2.heap.size w2 w9) := HBr.out.trans (hb9.mono hzr)
                    have HNo := Hid.mk hno
                    clear hat hb9 hno c6
                    by_cases k7 : (S.take.fl s).1 = 0
                    · rw [k7] at hfl
                      go_wp2_with fail
                      refine hfl.mono ?_
                      rintro e w10 ⟨rfl, hd10, hk10⟩
                      have hz10 := hk10.size
                      have HKf : Hid (Keeps F w w10) := HK2.out.trans ((Keeps.of_below F HB9.out).trans hk10 (fun _ h => .inl h)) (fun _ h => .inl h)
                      have HDf := Hid.mk hd10
                      have hFk : ∀ k, F k → k < w.heap.size := HLt.out
                      have HT : Hid (RTold w10 w.heap.size w5.heap.size r (LG.new S a b) S u20 rs hd) := by
                        refine ⟨?_, by show Tells (Rp (oRing S a) b) (oNew S a).1 (oNew S a).2.1 rs hd; rw [HO.out]; exact HTl.out, by show ∀ c d, ¬ Rec (Rp (oRing S a) b) (oNew S a).1 hd c d; rw [HO.out]; exact HNo.out, ?_⟩
                        · obtain ⟨vs, h1, h2⟩ := HRc9.out.low hz2 (fun _ h => h)
                          refine ⟨vs, owns_agree h1 (fun g hg => hk10.block g (owns_lt' h1 hg) (fun hf => by have := own_lo h1 hg; have := hFk _ hf; omega)), fun i hi => ?_⟩
                          obtain ⟨g, c, e, hr, hb, hx⟩ := h2 i hi
                          exact ⟨g, c, e, hr.agree (hk10.block g hr.lt (fun hf => by have := hFk _ hf; omega)), hb, hx⟩
                        · have e1 : ({ LG.new S a b with ep := (oNew S a).1, tail := (oNew S a).2.1, head := hd, top := oTop S a b } : LG) = ⟨a, b, wrap64 (S.life + 1), false, E, T, hd, Q⟩ := by rw [HO.out, HTp.out]; rfl
                          show LogR w10 w5.heap.size r ({ LG.new S a b with ep := (oNew S a).1, tail := (oNew S a).2.1, head := hd, top := oTop S a b } : LG)
                          rw [e1]
                          exact HL9.out.keep hk10 (fun hf => by have := hFk _ hf; omega)
                      have HK7 := Hid.mk k7
                      clear hfl hd10 hk10 k7 hFk
                      go_wp2
                      go_ret3
                      exact ropened_yes HP.out HK7.out HDf.out HKf.out (by omega) HT.out
                    · have hfe := fl_err k7
                      have d7 : ((S.take.fl s).1 == 0) = false := by rw [beq_eq_false_iff_ne]; exact k7
                      have d7' : ((S.take.fl s).1 != 0) = true := by rw [bne_iff_ne]; exact k7
                      have HP3 : Hid (lopen S s (a : Int) (b : Int) = (3, (S.take.fl s).2)) := by
                        have h1 := HP.out
                        rw [h1]
                        exact Prod.ext hfe.2.2 rfl
                      obtain ⟨z, hz⟩ : ∃ z, z = (S.take.fl s).1 := ⟨_, rfl⟩
                      rw [← hz] at hfl d7 d7'
                      clear k7 hfe hz
                      go_wp2_with fail
                      refine hfl.mono ?_
                      rintro e w10 ⟨rfl, hd10, hk10⟩
                      have HKf : Hid (Keeps F w w10) := HK2.out.trans ((Keeps.of_below F HB9.out).trans hk10 (fun _ h => .inl h)) (fun _ h => .inl h)
                      have HDf := Hid.mk hd10
                      clear hfl hd10 hk10
                      go_wp2
                      go_ret3
                      exact ropened_no HP3.out (by omega) HDf.out HKf.out
    · have HP := Hid.mk (lopen_corrupt (b := b) HQ.out (by rw [HoN.out, if_pos (.inl k1)]))
      have d1 : ((ER : Int) == 0) = false := by rw [beq_eq_false_iff_ne]; omega
      have d1' : ((ER : Int) != 0) = true := by rw [bne_iff_ne]; omega
      have d1'' : ¬ (ER : Int) = 0 := by omega
      clear HoN
      go_wp2
      go_ret3
      exact ropened_no HP.out (by omega) HDd.out HKd.out
  · have d : (lrefuse S s f n == 0) = false := by rw [beq_eq_false_iff_ne]; exact q
    have d' : (lrefuse S s f n != 0) = true := by rw [bne_iff_ne]; exact q
    have HP := Hid.mk (lopen_refused q)
    go_enter Tryz.func52, Tryz.ntmps52
    go_wp2_with fail
    refine h1.mono ?_
    rintro e w1 ⟨rfl, hw1⟩
    have hw1' := hw1.symm
    clear hw1
    subst hw1'
    clear h1
    go_wp2
    go_ret3
    exact ropened_no HP.out q HD.out (Keeps.refl _ _)
end
end Go.Proofs.YtijgdmhglnanjaaGreat
end

section
namespace Go.Proofs.YtijgdmhglnanjaaGreat
open Go.RowKit

section
variable {w w' : World} {q p r s i l : Nat} {lab : Nat → Nat} {S T S' T' : DS} {v u : Value} {ps rs : List Nat} {ls ms : List LG} {L : LG}

theorem Wd.lpAt (h : Wd w q lab p r s S T v u ps rs ls ms) (hi : ls[i]? = some L) (hl : ps[i]? = some l) : LogP w l p L ∧ lab l = 6 + 2 * i := by
  obtain ⟨l0, e1, e2, e3⟩ := h.lp i L hi
  rw [hl] at e1
  obtain rfl := Option.some.inj e1
  exact ⟨e2, e3⟩
theorem Wd.lrAt (h : Wd w q lab p r s S T v u ps rs ls ms) (hi : ms[i]? = some L) (hl : rs[i]? = some l) : LogR w l r L ∧ lab l = 7 + 2 * i := by
  obtain ⟨l0, e1, e2, e3⟩ := h.lr i L hi
  rw [hl] at e1
  obtain rfl := Option.some.inj e1
  exact ⟨e2, e3⟩
theorem labP {x : Nat} (hx : x ≠ 0) {a : Nat} (ha : lab a ≠ 0) : ∀ k, (ofL lab x k ∨ k = a) → lab k ≠ 0 := fun k hk => by
  rcases hk with hk | hk
  · have : lab k = x := hk; omega
  · rw [hk]; exact ha
theorem labF {x : Nat} (hx : x ≠ 0) : ∀ k, ofL lab x k → lab k ≠ 0 := fun k hk => by have : lab k = x := hk; omega

theorem wStart (h : Wd w q lab p r s S T v u ps rs ls ms) (hi : ls[i]? = some L) (hl : ps[i]? = some l) (hk : L.Ok s) (hby : S.Byt) (hbig : S.puts.length ≤ 600) :
    Calls Tryz.prog 59 #[ptrL l] w fun e w' => e = .returned (.int .i64 (L.start S s).1) ∧ Wd w' q (relab lab w.heap.size w'.heap.size 1) p r s (L.start S s).2.1 T v u ps rs (ls.set i (L.start S s).2.2) ms ∧ Kept w w' lab (relab lab w.heap.size w'.heap.size 1) := by
  obtain ⟨h1, h2⟩ := h.lpAt hi hl
  refine (Start_any h.d h1 hk (fun hf => by have : lab l = 1 := hf; omega) hby (by omega)).mono ?_
  rintro e w' ⟨rfl, hd, hp, hkk⟩
  exact ⟨rfl, h.log hi hl hd hp hkk, Kept.new 1 hkk (labP (by omega) (by omega))⟩
theorem rwStart (h : Wd w q lab p r s S T v u ps rs ls ms) (hi : ms[i]? = some L) (hl : rs[i]? = some l) (hk : L.Ok s) (hby : T.Byt) (hbig : T.puts.length ≤ 600) (hb : L.dead T = false → L.begun = false → T.num L.f < (L.top + 1) * 4294967296) :
    Calls Tryz.prog 60 #[ptrL l] w fun e w' => e = .returned (.int .i64 (L.start T s).1) ∧ Wd w' q (relab lab w.heap.size w'.heap.size 2) p r s S (L.start T s).2.1 v u ps rs ls (ms.set i (L.start T s).2.2) ∧ Kept w w' lab (relab lab w.heap.size w'.heap.size 2) := by
  obtain ⟨h1, h2⟩ := h.lrAt hi hl
  refine (rStart_any h.e h1 hk (fun hf => by have : lab l = 2 := hf; omega) hby (by omega) hb).mono ?_
  rintro e w' ⟨rfl, hd, hp, hkk⟩
  exact ⟨rfl, h.rlog hi hl hd hp hkk, Kept.new 2 hkk (labP (by omega) (by omega))⟩
theorem wTrim (h : Wd w q lab p r s S T v u ps rs ls ms) (hi : ls[i]? = some L) (hl : ps[i]? = some l) (hk : L.Ok s) (hby : S.Byt) (hbig : S.puts.length ≤ 600) :
    Calls Tryz.prog 65 #[ptrL l] w fun e w' => e = .returned (.int .i64 (L.trim S s).1) ∧ Wd w' q (relab lab w.heap.size w'.heap.size 1) p r s (L.trim S s).2.1 T v u ps rs (ls.set i (L.trim S s).2.2) ms ∧ Kept w w' lab (relab lab w.heap.size w'.heap.size 1) := by
  obtain ⟨h1, h2⟩ := h.lpAt hi hl
  refine (Trim_any h.d h1 hk (fun hf => by have : lab l = 1 := hf; omega) hby (by omega)).mono ?_
  rintro e w' ⟨rfl, hd, hp, hkk⟩
  exact ⟨rfl, h.log hi hl hd hp hkk, Kept.new 1 hkk (labP (by omega) (by omega))⟩
theorem rwTrim (h : Wd w q lab p r s S T v u ps rs ls ms) (hi : ms[i]? = some L) (hl : rs[i]? = some l) (hk : L.Ok s) (hby : T.Byt) (hbig : T.puts.length ≤ 600) (hb : L.unready T = 0 → T.num L.f ≤ L.ep * 4294967296 + L.tail) :
    Calls Tryz.prog 66 #[ptrL l] w fun e w' => e = .returned (.int .i64 (L.trim T s).1) ∧ Wd w' q (relab lab w.heap.size w'.heap.size 2) p r s S (L.trim T s).2.1 v u ps rs ls (ms.set i (L.trim T s).2.2) ∧ Kept w w' lab (relab lab w.heap.size w'.heap.size 2) := by
  obtain ⟨h1, h2⟩ := h.lrAt hi hl
  refine (rTrim_any h.e h1 hk (fun hf => by have : lab l = 2 := hf; omega) hby (by omega) hb).mono ?_
  rintro e w' ⟨rfl, hd, hp, hkk⟩
  exact ⟨rfl, h.rlog hi hl hd hp hkk, Kept.new 2 hkk (labP (by omega) (by omega))⟩
theorem wSync (h : Wd w q lab p r s S T v u ps rs ls ms) (hi : ls[i]? = some L) (hl : ps[i]? = some l) (hbig : S.puts.length ≤ 600) :
    Calls Tryz.prog 63 #[ptrL l] w fun e w' => e = .returned (.int .i64 (L.sync S s).1) ∧ Wd w' q (relab lab w.heap.size w'.heap.size 1) p r s (L.sync S s).2 T v u ps rs (ls.set i L) ms ∧ Kept w w' lab (relab lab w.heap.size w'.heap.size 1) := by
  obtain ⟨h1, h2⟩ := h.lpAt hi hl
  refine (Sync_any h.d h1 (fun hf => by have : lab l = 1 := hf; omega) (by omega)).mono ?_
  rintro e w' ⟨rfl, hd, hp, hkk⟩
  exact ⟨rfl, h.log hi hl hd.more hp (hkk.mono (fun _ h => .inl h)), Kept.new 1 hkk (labF (by omega))⟩
theorem rwSync (h : Wd w q lab p r s S T v u ps rs ls ms) (hi : ms[i]? = some L) (hl : rs[i]? = some l) (hbig : T.puts.length ≤ 600) :
    Calls Tryz.prog 64 #[ptrL l] w fun e w' => e = .returned (.int .i64 (L.sync T s).1) ∧ Wd w' q (relab lab w.heap.size w'.heap.size 2) p r s S (L.sync T s).2 v u ps rs ls (ms.set i L) ∧ Kept w w' lab (relab lab w.heap.size w'.heap.size 2) := by
  obtain ⟨h1, h2⟩ := h.lrAt hi hl
  refine (rSync_any h.e h1 (fun hf => by have : lab l = 2 := hf; omega) (by omega)).mono ?_
  rintro e w' ⟨rfl, hd, hp, hkk⟩
  exact ⟨rfl, h.rlog hi hl hd.more hp (hkk.mono (fun _ h => .inl h)), Kept.new 2 hkk (labF (by omega))⟩
theorem wAppend (h : Wd w q lab p r s S T v u ps rs ls ms) (hi : ls[i]? = some L) (hl : ps[i]? = some l) (hk : L.Ok s) (a : Option Addr) (x c : Nat) (d : List Int) (hs : Src w a x d) (hF : ∀ y, a = some y → 0 < x → lab y.block = 0) (hd : Bytes d) (hxk : x ≤ c) (hx : x ≤ 140737488355328) (hbig : S.puts.length ≤ 600) :
    Calls Tryz.prog 61 #[ptrL l, .slice a x c] w fun e w' => e = .returned (.int .i64 (L.append S s d).1) ∧ Wd w' q (relab lab w.heap.size w'.heap.size 1) p r s (L.append S s d).2.1 T v u ps rs (ls.set i (L.append S s d).2.2) ms ∧ Kept w w' lab (relab lab w.heap.size w'.heap.size 1) := by
  obtain ⟨h1, h2⟩ := h.lpAt hi hl
  refine (Append_any h.d h1 hk (fun hf => by have : lab l = 1 := hf; omega) a x c d hs (fun y e1 e2 hf => by have := hF y e1 e2; have : lab y.block = 1 := hf; omega) hd hxk hx (by omega)).mono ?_
  rintro e w' ⟨rfl, hd, hp, hkk⟩
  exact ⟨rfl, h.log hi hl hd hp hkk, Kept.new 1 hkk (labP (by omega) (by omega))⟩
theorem rwAppend (h : Wd w q lab p r s S T v u ps rs ls ms) (hi : ms[i]? = some L) (hl : rs[i]? = some l) (hk : L.Ok s) (hby : T.Byt) (a : Option Addr) (x c : Nat) (d : List Int) (hs : Src w a x d) (hF : ∀ y, a = some y → 0 < x → lab y.block = 0) (hd : Bytes d) (hxk : x ≤ c) (hx : x ≤ 140737488355328) (hbig : T.puts.length ≤ 600) :
    Calls Tryz.prog 62 #[ptrL l, .slice a x c] w fun e w' => e = .returned (.int .i64 (L.append T s d).1) ∧ Wd w' q (relab lab w.heap.size w'.heap.size 2) p r s S (L.append T s d).2.1 v u ps rs ls (ms.set i (L.append T s d).2.2) ∧ Kept w w' lab (relab lab w.heap.size w'.heap.size 2) := by
  obtain ⟨h1, h2⟩ := h.lrAt hi hl
  refine (rAppend_any h.e h1 hk (fun hf => by have : lab l = 2 := hf; omega) hby a x c d hs (fun y e1 e2 hf => by have := hF y e1 e2; have : lab y.block = 2 := hf; omega) hd hxk hx (by omega)).mono ?_
  rintro e w' ⟨rfl, hd, hp, hkk⟩
  exact ⟨rfl, h.rlog hi hl hd hp hkk, Kept.new 2 hkk (labP (by omega) (by omega))⟩
theorem wFormat (h : Wd w q lab p r s S T v u ps rs ls ms) (hby : S.Byt) (hbig : S.puts.length ≤ 600) (f n : Int) :
    Calls Tryz.prog 16 #[ptrL p, .int .i64 f, .int .i64 n] w fun e w' => e = .returned (.int .i64 (lformat S s f n).1) ∧ Wd w' q (relab lab w.heap.size w'.heap.size 1) p r s (lformat S s f n).2 T v u ps rs ls ms ∧ Kept w w' lab (relab lab w.heap.size w'.heap.size 1) := by
  refine (Format_any h.d hby f n (by omega)).mono ?_
  rintro e w' ⟨rfl, hd, hkk⟩
  exact ⟨rfl, h.disk hd hkk, Kept.new 1 hkk (labF (by omega))⟩
theorem rwFormat (h : Wd w q lab p r s S T v u ps rs ls ms) (hby : T.Byt) (hbig : T.puts.length ≤ 600) (f n : Int) :
    Calls Tryz.prog 17 #[ptrL r, .int .i64 f, .int .i64 n] w fun e w' => e = .returned (.int .i64 (lformat T s f n).1) ∧ Wd w' q (relab lab w.heap.size w'.heap.size 2) p r s S (lformat T s f n).2 v u ps rs ls ms ∧ Kept w w' lab (relab lab w.heap.size w'.heap.size 2) := by
  refine (rFormat_any h.e hby f n (by omega)).mono ?_
  rintro e w' ⟨rfl, hd, hkk⟩
  exact ⟨rfl, h.ref hd hkk, Kept.new 2 hkk (labF (by omega))⟩
theorem wFuse (h : Wd w q lab p r s S T v u ps rs ls ms) (x : Int) (hx : x ≤ 9223372036854775807) :
    Calls Tryz.prog 20 #[ptrL p, .int .i64 x] w fun e w' => e = .returned (.tuple #[]) ∧ Wd w' q lab p r s (S.lay x) T v u ps rs ls ms ∧ Kept w w' lab lab := by
  refine (dfuse h.d x hx).mono ?_
  rintro e w' ⟨rfl, hd, hkk⟩
  exact ⟨rfl, h.disk0 hd hkk, Kept.same hkk (labF (by omega))⟩
theorem rwFuse (h : Wd w q lab p r s S T v u ps rs ls ms) (x : Int) (hx : x ≤ 9223372036854775807) :
    Calls Tryz.prog 21 #[ptrL r, .int .i64 x] w fun e w' => e = .returned (.tuple #[]) ∧ Wd w' q lab p r s S (T.lay x) v u ps rs ls ms ∧ Kept w w' lab lab := by
  refine (rfuse_at h.e x hx).mono ?_
  rintro e w' ⟨rfl, hd, hkk⟩
  exact ⟨rfl, h.ref0 hd hkk, Kept.same hkk (labF (by omega))⟩
theorem wTake (h : Wd w q lab p r s S T v u ps rs ls ms) :
    Calls Tryz.prog 25 #[ptrL p] w fun e w' => e = .returned (.int .i64 (wrap64 (S.life + 1))) ∧ Wd w' q lab p r s S.take T v u ps rs ls ms ∧ Kept w w' lab lab := by
  refine (dtake h.d).mono ?_
  rintro e w' ⟨rfl, hd, hkk⟩
  exact ⟨rfl, h.disk0 hd hkk, Kept.same hkk (labF (by omega))⟩
theorem rwTake (h : Wd w q lab p r s S T v u ps rs ls ms) :
    Calls Tryz.prog 26 #[ptrL r] w fun e w' => e = .returned (.int .i64 (wrap64 (T.life + 1))) ∧ Wd w' q lab p r s S T.take v u ps rs ls ms ∧ Kept w w' lab lab := by
  refine (rtake_at h.e).mono ?_
  rintro e w' ⟨rfl, hd, hkk⟩
  exact ⟨rfl, h.ref0 hd hkk, Kept.same hkk (labF (by omega))⟩
theorem wCrash (h : Wd w q lab p r s S T v u ps rs ls ms) (hbig : S.puts.length ≤ 600) (a : Option Addr) (n c : Nat) (l : List P3) (hps : PSrc w a n l) (hn : n ≤ 140737488355328) (hF : ∀ x, a = some x → lab x.block = 0) :
    Calls Tryz.prog 22 #[ptrL p, .slice a n c] w fun e w' => e = .returned (.tuple #[]) ∧ Wd w' q lab p r s (S.crash s l) T v u ps rs ls ms ∧ Kept w w' lab lab := by
  refine (dcrash h.d (by omega) a n c l hps hn (fun x e hf => by have := hF x e; have : lab x.block = 1 := hf; omega)).mono ?_
  rintro e w' ⟨rfl, hd, hkk⟩
  exact ⟨rfl, h.disk0 hd hkk, Kept.same hkk (labF (by omega))⟩
theorem rwCrash (h : Wd w q lab p r s S T v u ps rs ls ms) (hbig : T.puts.length ≤ 600) (a : Option Addr) (n c : Nat) (l : List P3) (hps : PSrc w a n l) (hn : n ≤ 140737488355328) :
    Calls Tryz.prog 24 #[ptrL r, .slice a n c] w fun e w' => e = .returned (.tuple #[]) ∧ Wd w' q (relab lab w.heap.size w'.heap.size 2) p r s S (T.crash s l) v u ps rs ls ms ∧ Kept w w' lab (relab lab w.heap.size w'.heap.size 2) := by
  refine (rcrash_all h.e (by omega) a n c l hps hn).mono ?_
  rintro e w' ⟨rfl, hd, hkk⟩
  exact ⟨rfl, h.ref hd hkk, Kept.new 2 hkk (labF (by omega))⟩

theorem Wd.vform (h : Wd w q lab p r s S T v u ps rs ls ms) : ∃ a c, v = .slice a ls.length c ∧ ∀ i L, ls[i]? = some L → ∃ g l, a = some ⟨g, 0, none⟩ ∧ w.cell? ⟨g, i, none⟩ = some (ptrL l) ∧ ps[i]? = some l := by
  by_cases h0 : ls.length = 0
  · obtain ⟨hl, ⟨e, h3⟩ | ⟨g, cap, cur, e, hg, hb, h4⟩⟩ := h.vs
    · exact ⟨none, 0, by rw [e, h0], fun i L hi => by have := (List.getElem?_eq_some_iff.1 hi).1; omega⟩
    · exact ⟨_, _, e, fun i L hi => by have := (List.getElem?_eq_some_iff.1 hi).1; omega⟩
  · obtain ⟨g, c, e, hg, hr, _⟩ := RowAt.of_owns h.vs (by
      intro e
      obtain ⟨hl, ⟨_, h3⟩ | ⟨g, cap, cur, e2, hg, hb, h4⟩⟩ := h.vs
      · exact h0 h3
      · rw [e] at e2; cases e2)
    refine ⟨_, _, e, fun i L hi => ?_⟩
    obtain ⟨l, e1, e2, e3⟩ := h.lp i L hi
    exact ⟨g, l, rfl, hr.cell (by rw [List.getElem?_map, e1]; rfl), e1⟩
theorem Wd.uform (h : Wd w q lab p r s S T v u ps rs ls ms) : ∃ a c, u = .slice a ms.length c ∧ ∀ i L, ms[i]? = some L → ∃ g l, a = some ⟨g, 0, none⟩ ∧ w.cell? ⟨g, i, none⟩ = some (ptrL l) ∧ rs[i]? = some l := by
  by_cases h0 : ms.length = 0
  · obtain ⟨hl, ⟨e, h3⟩ | ⟨g, cap, cur, e, hg, hb, h4⟩⟩ := h.us
    · exact ⟨none, 0, by rw [e, h0], fun i L hi => by have := (List.getElem?_eq_some_iff.1 hi).1; omega⟩
    · exact ⟨_, _, e, fun i L hi => by have := (List.getElem?_eq_some_iff.1 hi).1; omega⟩
  · obtain ⟨g, c, e, hg, hr, _⟩ := RowAt.of_owns h.us (by
      intro e
      obtain ⟨hl, ⟨_, h3⟩ | ⟨g, cap, cur, e2, hg, hb, h4⟩⟩ := h.us
      · exact h0 h3
      · rw [e] at e2; cases e2)
    refine ⟨_, _, e, fun i L hi => ?_⟩
    obtain ⟨l, e1, e2, e3⟩ := h.lr i L hi
    exact ⟨g, l, rfl, hr.cell (by rw [List.getElem?_map, e1]; rfl), e1⟩

/-- What a step leaves. -/
def StepOut (w w' : World) (q : Nat) (lab : Nat → Nat) (p r s m t : Nat) : Prop :=
  ∃ lab' S' v' u' ps' rs' ls', Wd w' q lab' p r s S' S' v' u' ps' rs' ls' ls' ∧ Inv S' s ls' t ∧ ls'.length ≤ m ∧ Kept w w' lab lab'
end
end Go.Proofs.YtijgdmhglnanjaaGreat
end
