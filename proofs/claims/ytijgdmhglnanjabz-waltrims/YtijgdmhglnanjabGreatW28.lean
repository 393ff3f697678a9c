import Derived.Test.YtijgdmhglnanjabGreatW27
section
namespace Go.Proofs.YtijgdmhglnanjabGreat
open Go.RowKit

section
variable {w w' : World} {F G : Nat → Prop} {r s k : Nat} {S : DS} {L : LG}

theorem LogR.started (h : LogR w k r L) (E : Int) (n : Nat) (hE : E = (n : Int)) : LogR ((((w.setCell ⟨k, 8, none⟩ (.bool true)).setCell ⟨k, 4, none⟩ (.int .i64 E)).setCell ⟨k, 5, none⟩ (.int .i64 0)).setCell ⟨k, 6, none⟩ (.int .i64 0)) k r { L with begun := true, ep := n, tail := 0, head := 0 } := by
  subst hE
  exact (heap_setCell_same _ _ 6 _ _ _ (heap_setCell_same _ _ 5 _ _ _ (heap_setCell_same _ _ 4 _ _ _ (heap_setCell_same _ _ 8 _ _ _ h)))).trans (by simp)
theorem LogR.trimmed (h : LogR w k r L) : LogR (w.setCell ⟨k, 5, none⟩ (.int .i64 (L.head : Int))) k r { L with tail := L.head } := (heap_setCell_same _ _ 5 _ _ _ h).trans (by simp)
theorem more_not {F : Nat → Prop} {w3 w2 : World} {l : Nat} (hF : ¬ F l) (hl : l < w3.heap.size) : ∀ k, more F w3 w2 k → ¬ k = l := fun k hk e => by
  subst e
  rcases hk with hk | hk
  · exact hF hk
  · omega
/-- Where the log's own cells alone have turned behind the disk's. -/
theorem RefAt.turned {w w3 w2 w' : World} (hd : RefAt w2 (Go.Proofs.YtijgdmhglnanjabGreat.more F w3 w2) r s S) (hL : ∀ j, F j → j < w.heap.size) (hk : Keeps (fun j => j = k) w2 w') (hF : ¬ F k) (hk3 : k < w3.heap.size) (h3 : w.heap.size ≤ w3.heap.size) (h2 : w3.heap.size ≤ w2.heap.size) : RefAt w' (Go.Proofs.YtijgdmhglnanjabGreat.more F w w') r s S :=
  (hd.keep hk (more_not hF hk3)).mono (fun j hj => by
    rcases hj with hj | hj
    · exact .inl hj
    · exact .inr ⟨by omega, by have := hk.size; omega⟩) (more_lt hL (by have := hk.size; omega))

set_option maxRecDepth 20000 in
set_option maxHeartbeats 8000000 in
theorem rStart_any (h : RefAt w F r s S) (hl : LogR w k r L) (hk : L.Ok s) (hF : ¬ F k) (hby : S.Byt) (hbig : S.puts.length + 2 ≤ 4000000000000) (hb : L.dead S = false → L.begun = false → S.num L.f < (L.top + 1) * 4294967296) :
    Calls Tryz.prog 68 #[.pointer (some ⟨k, 0, none⟩)] w fun e w' => e = .returned (.int .i64 (L.start S s).1) ∧ RefAt w' (more F w w') r s (L.start S s).2.1 ∧ LogR w' k r (L.start S s).2.2 ∧ Keeps (fun j => F j ∨ j = k) w w' := by
  have h1 := rdead_any h hl
  have HL := Hid.mk hl
  have HD := Hid.mk h
  have HLt := Hid.mk h.lt
  have hlt := hl.lt
  have hs := hk.s
  have htop := hk.top
  have hn1 := hk.n1
  unfold LG.start
  have hok := h.ok
  cases hd : L.dead S
  · rw [hd] at h1
    rw [if_neg (by decide)]
    cases hbg : L.begun
    · rw [if_neg (by decide)]
      have hrn := renew_ok (now_len hok L.f (by omega)) (now_len hok (L.f + 1) (by omega)) (N := (L.top + 1) * 4294967296) (by omega) (hb hd hbg)
      rw [show (((L.top + 1) * 4294967296 : Nat) : Int) = ((L.top + 1 : Nat) : Int) * 4294967296 + ((0 : Nat) : Int) by omega] at hrn
      have H3 := Hid.mk (fun w2 (hd2 : RefAt w2 F r s S) => rrenewed_any hd2 L.f (L.top + 1) 0 (by omega) (by omega) hbig (by omega) hby hrn)
      clear h hl hk hby hok hb hd hrn
      generalize hY : anew S s L.f (((L.top + 1 : Nat) : Int) * 4294967296 + ((0 : Nat) : Int)) = Y at *
      clear hY
      rw [show ((L.top + 1 : Nat) : Int) = (L.top : Int) + 1 by omega, show (((0 : Nat) : Int)) = 0 from rfl, ← show IntKind.i64.wrap ((L.top : Int) + 1) = (L.top : Int) + 1 by rw [IntKind.wrap_i64]; omega] at H3
      by_cases q : Y.1 = 0
      · rw [if_neg (fun h => h q)]
        have d : (Y.1 == 0) = true := by rw [beq_iff_eq]; exact q
        clear q
        go_enter Tryz.func68, Tryz.ntmps68
        go_wp2_with fail
        refine h1.mono ?_
        rintro e w1 ⟨rfl, hb1⟩
        have hl1 := HL.out.later hb1
        have c0 := hl1.c0
        have c2 := hl1.c2
        have c7 := hl1.c7
        have c8 := hl1.c8
        rw [hbg] at c8
        have HD1 := Hid.mk (HD.out.later (below_drew hb1))
        have HL1 := Hid.mk hl1
        have HK1 := Hid.mk (Keeps.of_below F hb1)
        clear h1 hb1 hl1
        go_wp2_with fail
        go_region_held3 (fun w' => w'.cell? ⟨k, 0, none⟩ = some (.pointer (some ⟨r, 0, none⟩)) ∧ w'.cell? ⟨k, 2, none⟩ = some (.int .i64 (L.f : Int)) ∧ w'.cell? ⟨k, 7, none⟩ = some (.int .i64 (L.top : Int)))
          (first | exact ⟨c0, c2, c7⟩ | exact ⟨hl4.c0, hl4.c2, hl4.c7⟩)
          ((go_at_call 51; refine (H3.out _ HD1.out).mono ?_; rintro e w2 ⟨rfl, hd2, hk2⟩; have hk3 := HK1.out.trans (Keeps.of_below (fun _ => False) (below_drew (Below.refl w1.heap.size w1))) (fun _ h => h.elim); have hl3 := HL1.out.later (below_drew (Below.refl w1.heap.size w1)); have hl4 := hl3.keep hk2 hF))
        generalize w1.drew = w3 at *
        have c4' := hl4.c4
        have c5' := hl4.c5
        have c6' := hl4.c6
        have c7' := hl4.c7
        have c8' := hl4.c8
        have f4 := hl4.fz 4
        have f5 := hl4.fz 5
        have f6 := hl4.fz 6
        have f8 := hl4.fz 8
        have hz3 := hk3.size
        have hz2 := hk2.size
        have hks : Keeps (fun j => j = k) w2 ((((w2.setCell ⟨k, 8, none⟩ (.bool true)).setCell ⟨k, 4, none⟩ (.int .i64 ((L.top : Int) + 1))).setCell ⟨k, 5, none⟩ (.int .i64 0)).setCell ⟨k, 6, none⟩ (.int .i64 0)) := (((keeps_set (F := fun j => j = k) _ rfl 8 _).trans (keeps_set (F := fun j => j = k) _ rfl 4 _) (fun _ h => .inl h)).trans (keeps_set (F := fun j => j = k) _ rfl 5 _) (fun _ h => .inl h)).trans (keeps_set (F := fun j => j = k) _ rfl 6 _) (fun _ h => .inl h)
        have HZ := Hid.mk (And.intro (hd2.turned (w := w) (k := k) HLt.out hks hF (by omega) hz3 hz2) (And.intro (hl4.started ((L.top : Int) + 1) (L.top + 1) (by omega)) (((hk3.mono (fun _ h => .inl h) : Keeps (fun j => F j ∨ j = k) w w3).trans hk2 (fun _ h => .inl (.inl h))).trans hks (fun _ h => .inl (.inr h)))))
        clear hd2 hk2 hl4 hk3 hl3 hks
        go_wp2
        go_ret
        exact ⟨rfl, HZ.out⟩
      · rw [if_pos q]
        have d : (Y.1 == 0) = false := by rw [beq_eq_false_iff_ne]; exact q
        clear q
        go_enter Tryz.func68, Tryz.ntmps68
        go_wp2_with fail
        refine h1.mono ?_
        rintro e w1 ⟨rfl, hb1⟩
        have hl1 := HL.out.later hb1
        have c0 := hl1.c0
        have c2 := hl1.c2
        have c7 := hl1.c7
        have c8 := hl1.c8
        rw [hbg] at c8
        have HD1 := Hid.mk (HD.out.later (below_drew hb1))
        have HL1 := Hid.mk hl1
        have HK1 := Hid.mk (Keeps.of_below F hb1)
        clear h1 hb1 hl1
        go_wp2_with fail
        go_region_held3 (fun w' => w'.cell? ⟨k, 0, none⟩ = some (.pointer (some ⟨r, 0, none⟩)) ∧ w'.cell? ⟨k, 2, none⟩ = some (.int .i64 (L.f : Int)) ∧ w'.cell? ⟨k, 7, none⟩ = some (.int .i64 (L.top : Int)))
          (first | exact ⟨c0, c2, c7⟩ | exact ⟨hl4.c0, hl4.c2, hl4.c7⟩)
          ((go_at_call 51; refine (H3.out _ HD1.out).mono ?_; rintro e w2 ⟨rfl, hd2, hk2⟩; have hk3 := HK1.out.trans (Keeps.of_below (fun _ => False) (below_drew (Below.refl w1.heap.size w1))) (fun _ h => h.elim); have hl3 := HL1.out.later (below_drew (Below.refl w1.heap.size w1)); have hl4 := hl3.keep hk2 hF))
        generalize w1.drew = w3 at *
        have hz3 := hk3.size
        have hz2 := hk2.size
        have HZ := Hid.mk (And.intro (hd2.from HLt.out hz3 hz2) (And.intro hl4 ((hk3.mono (fun _ h => .inl h) : Keeps (fun j => F j ∨ j = k) w w3).trans hk2 (fun _ h => .inl (.inl h)))))
        clear hd2 hk2 hl4 hk3 hl3
        go_wp2
        go_ret
        exact ⟨rfl, HZ.out⟩
    · rw [if_pos rfl]
      clear h hl hk hby hok hb hd
      go_enter Tryz.func68, Tryz.ntmps68
      go_wp2_with fail
      refine h1.mono ?_
      rintro e w1 ⟨rfl, hb1⟩
      have hl1 := HL.out.later hb1
      have c8 := hl1.c8
      rw [hbg] at c8
      have HZ := Hid.mk (And.intro ((HD.out.later hb1).more (w := w)) (And.intro hl1 (Keeps.of_below (fun j => F j ∨ j = k) hb1)))
      clear h1 hb1 hl1
      go_wp2
      go_ret
      exact ⟨rfl, HZ.out⟩
  · rw [hd] at h1
    rw [if_pos rfl]
    clear h hl hk hby hok hb hd
    go_enter Tryz.func68, Tryz.ntmps68
    go_wp2_with fail
    refine h1.mono ?_
    rintro e w1 ⟨rfl, hb1⟩
    have HZ := Hid.mk (And.intro ((HD.out.later hb1).more (w := w)) (And.intro (HL.out.later hb1) (Keeps.of_below (fun j => F j ∨ j = k) hb1)))
    clear h1 hb1
    go_wp2
    go_ret
    exact ⟨rfl, HZ.out⟩
end
end Go.Proofs.YtijgdmhglnanjabGreat
end

section
namespace Go.Proofs.YtijgdmhglnanjabGreat
open Go.RowKit

section
variable {w w' : World} {F G : Nat → Prop} {r s k : Nat} {S : DS} {L : LG}

set_option maxRecDepth 20000 in
set_option maxHeartbeats 2000000 in
theorem rTrim_any (h : RefAt w F r s S) (hl : LogR w k r L) (hk : L.Ok s) (hF : ¬ F k) (hby : S.Byt) (hbig : S.puts.length + 3 ≤ 4000000000000) (hb : L.unready S = 0 → S.num L.f ≤ L.ep * 4294967296 + L.tail) :
    Calls Tryz.prog 73 #[.pointer (some ⟨k, 0, none⟩)] w fun e w' => e = .returned (.int .i64 (L.trim S s).1) ∧ RefAt w' (more F w w') r s (L.trim S s).2.1 ∧ LogR w' k r (L.trim S s).2.2 ∧ Keeps (fun j => F j ∨ j = k) w w' := by
  have h1 := rready_any h hl
  have HL := Hid.mk hl
  have HD := Hid.mk h
  have HLt := Hid.mk h.lt
  have hlt := hl.lt
  have hs := hk.s
  have hn1 := hk.n1
  have hep := hk.ep
  have hth := hk.th
  have hok := h.ok
  unfold LG.trim
  by_cases u : L.unready S = 0
  · have hhb : L.begun = true := by
      unfold LG.unready at u
      split at u
      · omega
      · split at u
        · assumption
        · omega
    have hhd := hk.hb hhb
    have es : L.sync S s = S.fl s := by unfold LG.sync; rw [if_neg (by omega)]
    rw [es]
    rw [u] at h1
    have hbn := hb u
    obtain ⟨Z, hZ⟩ : ∃ Z, Z = S.fl s := ⟨_, rfl⟩
    have hZok : Z.2.Ok s := by rw [hZ]; exact fl_ok hok
    have hZby : Z.2.Byt := by rw [hZ]; exact hby.fl s
    have hZp : Z.2.puts.length ≤ S.puts.length + 1 := by rw [hZ]; exact fl_puts S s
    have hZn : Z.2.num L.f = S.num L.f := by
      rw [hZ]
      unfold DS.num
      rw [fl_now hok (by omega), fl_now hok (by omega)]
    rw [← hZ]
    have HZe := Hid.mk hZ
    clear h hl hk hby hb u es hZ hok
    by_cases z0 : Z.1 = 0
    · rw [if_neg (fun h => h z0)]
      have HZ0 := Hid.mk z0
      clear z0
      by_cases k1 : L.tail = L.head
      · rw [if_pos k1]
        have d1 : ((L.tail : Int) == (L.head : Int)) = true := by rw [beq_iff_eq]; omega
        clear k1
        go_enter Tryz.func73, Tryz.ntmps73
        go_wp2_with fail
        refine h1.mono ?_
        rintro e w1 ⟨rfl, hb1⟩
        have hl1 := HL.out.later hb1
        have c0 := hl1.c0
        have h2 := rflush_all (HD.out.later hb1) (by omega)
        rw [← HZe.out] at h2
        rw [HZ0.out] at h2
        have HB1 := Hid.mk hb1
        have HL1 := Hid.mk hl1
        clear h1 hb1 hl1
        go_wp2_with fail
        refine h2.mono ?_
        rintro e w2 ⟨rfl, hd2, hk2⟩
        have hl2 := HL1.out.keep hk2 hF
        have hk3 := (Keeps.of_below F HB1.out).trans hk2 (fun _ h => .inl h)
        clear h2 c0
        have c5 := hl2.c5
        have c6 := hl2.c6
        have HZ := Hid.mk (fun j => And.intro ((hd2.later (below_drewN (Below.refl _ _) j)).more (w := w)) (And.intro (hl2.later (below_drewN (Below.refl _ _) j)) ((hk3.mono (fun _ h => .inl h) : Keeps (fun j => F j ∨ j = k) w w2).trans (Keeps.of_below (fun _ => False) (below_drewN (Below.refl w2.heap.size w2) j)) (fun _ h => h.elim))))
        clear hd2 hk2 hl2 hk3
        go_wp2_with fail
        go_quiet (fail)
        go_wp2
        go_ret
        exact ⟨rfl, HZ.out _⟩
      · rw [if_neg k1]
        have d1 : ((L.tail : Int) == (L.head : Int)) = false := by rw [beq_eq_false_iff_ne]; omega
        have hrn := renew_ok (now_len hZok L.f (by omega)) (now_len hZok (L.f + 1) (by omega)) (N := L.ep * 4294967296 + L.head) (by omega) (by unfold DS.num at hZn hbn; omega)
        rw [show ((L.ep * 4294967296 + L.head : Nat) : Int) = (L.ep : Int) * 4294967296 + (L.head : Int) by omega] at hrn
        have H3 := Hid.mk (fun w2 (hd2 : RefAt w2 F r s Z.2) => rrenewed_any hd2 L.f L.ep L.head hep hhd (by omega) (by omega) hZby hrn)
        generalize hY : anew Z.2 s L.f ((L.ep : Int) * 4294967296 + (L.head : Int)) = Y at *
        clear k1 hrn hY
        by_cases q : Y.1 = 0
        · rw [if_neg (fun h => h q)]
          have d : (Y.1 == 0) = true := by rw [beq_iff_eq]; exact q
          have HY0 := Hid.mk q
          clear q
          go_enter Tryz.func73, Tryz.ntmps73
          go_wp2_with fail
          refine h1.mono ?_
          rintro e w1 ⟨rfl, hb1⟩
          have hl1 := HL.out.later hb1
          have c0 := hl1.c0
          have h2 := rflush_all (HD.out.later hb1) (by omega)
          rw [← HZe.out] at h2
          rw [HZ0.out] at h2
          have HB1 := Hid.mk hb1
          have HL1 := Hid.mk hl1
          clear h1 hb1 hl1
          go_wp2_with fail
          refine h2.mono ?_
          rintro e w2 ⟨rfl, hd2, hk2⟩
          have hl2 := HL1.out.keep hk2 hF
          have hk3 := (Keeps.of_below F HB1.out).trans hk2 (fun _ h => .inl h)
          clear h2 c0
          have c0 := hl2.c0
          have c2 := hl2.c2
          have c4 := hl2.c4
          have c5 := hl2.c5
          have c6 := hl2.c6
          have HD2 := Hid.mk hd2
          have HL2 := Hid.mk hl2
          have HK3 := Hid.mk hk3
          clear hd2 hl2 hk2 hk3
          go_wp2_with fail
          go_quiet (fail)
          go_wp2_with fail
          go_region_held3 (fun w' => w'.cell? ⟨k, 0, none⟩ = some (.pointer (some ⟨r, 0, none⟩)) ∧ w'.cell? ⟨k, 2, none⟩ = some (.int .i64 (L.f : Int)) ∧ w'.cell? ⟨k, 4, none⟩ = some (.int .i64 (L.ep : Int)) ∧ w'.cell? ⟨k, 6, none⟩ = some (.int .i64 (L.head : Int)))
            (first | exact ⟨c0, c2, c4, c6⟩ | exact ⟨hl4.c0, hl4.c2, hl4.c4, hl4.c6⟩)
            ((go_at_call 51; refine (H3.out _ (HD2.out.later (below_drewN (Below.refl _ _) (nq + 1)))).mono ?_; rintro e w4 ⟨rfl, hd4, hk4⟩; have hk5 := HK3.out.trans (Keeps.of_below (fun _ => False) (below_drewN (Below.refl w2.heap.size w2) (nq + 1))) (fun _ h => h.elim); have hl3 := HL2.out.later (below_drewN (Below.refl w2.heap.size w2) (nq + 1)); have hl4 := hl3.keep hk4 hF))
          generalize w2.drewN (nq + 1) = w3 at *
          have hz3 := hk5.size
          have hz4 := hk4.size
          have c5' := hl4.c5
          have c6' := hl4.c6
          have f5 := hl4.fz 5
          have hks : Keeps (fun j => j = k) w4 (w4.setCell ⟨k, 5, none⟩ (.int .i64 (L.head : Int))) := keeps_set (F := fun j => j = k) _ rfl 5 _
          have HZ := Hid.mk (And.intro (hd4.turned (w := w) (k := k) HLt.out hks hF (by omega) hz3 hz4) (And.intro hl4.trimmed (((hk5.mono (fun _ h => .inl h) : Keeps (fun j => F j ∨ j = k) w w3).trans hk4 (fun _ h => .inl (.inl h))).trans hks (fun _ h => .inl (.inr h)))))
          clear hd4 hk4 hl4 hk5 hl3 hks
          go_wp2
          go_ret
          exact ⟨by rw [← HY0.out]; rfl, HZ.out⟩
        · rw [if_pos q]
          have d : (Y.1 == 0) = false := by rw [beq_eq_false_iff_ne]; exact q
          clear q
          go_enter Tryz.func73, Tryz.ntmps73
          go_wp2_with fail
          refine h1.mono ?_
          rintro e w1 ⟨rfl, hb1⟩
          have hl1 := HL.out.later hb1
          have c0 := hl1.c0
          have h2 := rflush_all (HD.out.later hb1) (by omega)
          rw [← HZe.out] at h2
          rw [HZ0.out] at h2
          have HB1 := Hid.mk hb1
          have HL1 := Hid.mk hl1
          clear h1 hb1 hl1
          go_wp2_with fail
          refine h2.mono ?_
          rintro e w2 ⟨rfl, hd2, hk2⟩
          have hl2 := HL1.out.keep hk2 hF
          have hk3 := (Keeps.of_below F HB1.out).trans hk2 (fun _ h => .inl h)
          clear h2 c0
          have c0 := hl2.c0
          have c2 := hl2.c2
          have c4 := hl2.c4
          have c5 := hl2.c5
          have c6 := hl2.c6
          have HD2 := Hid.mk hd2
          have HL2 := Hid.mk hl2
          have HK3 := Hid.mk hk3
          clear hd2 hl2 hk2 hk3
          go_wp2_with fail
          go_quiet (fail)
          go_wp2_with fail
          go_region_held3 (fun w' => w'.cell? ⟨k, 0, none⟩ = some (.pointer (some ⟨r, 0, none⟩)) ∧ w'.cell? ⟨k, 2, none⟩ = some (.int .i64 (L.f : Int)) ∧ w'.cell? ⟨k, 4, none⟩ = some (.int .i64 (L.ep : Int)) ∧ w'.cell? ⟨k, 6, none⟩ = some (.int .i64 (L.head : Int)))
            (first | exact ⟨c0, c2, c4, c6⟩ | exact ⟨hl4.c0, hl4.c2, hl4.c4, hl4.c6⟩)
            ((go_at_call 51; refine (H3.out _ (HD2.out.later (below_drewN (Below.refl _ _) (nq + 1)))).mono ?_; rintro e w4 ⟨rfl, hd4, hk4⟩; have hk5 := HK3.out.trans (Keeps.of_below (fun _ => False) (below_drewN (Below.refl w2.heap.size w2) (nq + 1))) (fun _ h => h.elim); have hl3 := HL2.out.later (below_drewN (Below.refl w2.heap.size w2) (nq + 1)); have hl4 := hl3.keep hk4 hF))
          generalize w2.drewN (nq + 1) = w3 at *
          have hz3 := hk5.size
          have hz4 := hk4.size
          have HZ := Hid.mk (And.intro (hd4.from HLt.out hz3 hz4) (And.intro hl4 ((hk5.mono (fun _ h => .inl h) : Keeps (fun j => F j ∨ j = k) w w3).trans hk4 (fun _ h => .inl (.inl h)))))
          clear hd4 hk4 hl4 hk5 hl3
          go_wp2
          go_ret
          exact ⟨rfl, HZ.out⟩
    · rw [if_pos z0]
      have d0 : (Z.1 == 0) = false := by rw [beq_eq_false_iff_ne]; exact z0
      have dn : (Z.1 != 0) = true := by rw [bne_iff_ne]; exact z0
      clear z0
      go_enter Tryz.func73, Tryz.ntmps73
      go_wp2_with fail
      refine h1.mono ?_
      rintro e w1 ⟨rfl, hb1⟩
      have hl1 := HL.out.later hb1
      have c0 := hl1.c0
      have h2 := rflush_all (HD.out.later hb1) (by omega)
      rw [← HZe.out] at h2
      have HB1 := Hid.mk hb1
      have HL1 := Hid.mk hl1
      clear h1 hb1 hl1
      go_wp2_with fail
      refine h2.mono ?_
      rintro e w2 ⟨rfl, hd2, hk2⟩
      have hl2 := HL1.out.keep hk2 hF
      have hk3 := (Keeps.of_below F HB1.out).trans hk2 (fun _ h => .inl h)
      clear h2 c0
      have c5 := hl2.c5
      have c6 := hl2.c6
      have HZ := Hid.mk (fun j => And.intro ((hd2.later (below_drewN (Below.refl _ _) j)).more (w := w)) (And.intro (hl2.later (below_drewN (Below.refl _ _) j)) ((hk3.mono (fun _ h => .inl h) : Keeps (fun j => F j ∨ j = k) w w2).trans (Keeps.of_below (fun _ => False) (below_drewN (Below.refl w2.heap.size w2) j)) (fun _ h => h.elim))))
      clear hd2 hk2 hl2 hk3
      go_wp2_with fail
      go_quiet (fail)
      go_wp2
      go_ret
      exact ⟨rfl, HZ.out _⟩
  · have es : L.sync S s = (L.unready S, S) := by unfold LG.sync; rw [if_pos u]
    rw [es]
    simp only
    rw [if_pos u]
    have d0 : (L.unready S == 0) = false := by rw [beq_eq_false_iff_ne]; exact u
    clear h hl hk hby hb u es hok
    go_enter Tryz.func73, Tryz.ntmps73
    go_wp2_with fail
    refine h1.mono ?_
    rintro e w1 ⟨rfl, hb1⟩
    have HZ := Hid.mk (And.intro ((HD.out.later hb1).more (w := w)) (And.intro (HL.out.later hb1) (Keeps.of_below (fun j => F j ∨ j = k) hb1)))
    clear h1 hb1
    go_wp2
    go_ret
    exact ⟨rfl, HZ.out⟩
end
end Go.Proofs.YtijgdmhglnanjabGreat
end

section
namespace Go.Proofs.YtijgdmhglnanjabGreat
open Go.RowKit

set_option maxRecDepth 20000 in
set_option maxHeartbeats 4000000 in
theorem rcount_any (x : Nat) (w : World) (hx : x ≤ 140737488355328) : Calls Tryz.prog 103 #[.int .i64 (x : Int)] w fun e w' => e = .returned (.int .i64 (((x + 491) / 492 : Nat) : Int)) ∧ w' = w := by
  have e1 : ((x : Int) + 492 - 1).tdiv 492 = (((x + 491) / 492 : Nat) : Int) := by rw [Int.tdiv_eq_ediv_of_nonneg (by omega)]; omega
  go_enter Tryz.func103, Tryz.ntmps103
  go_wp2
  go_ret
  refine ⟨?_, rfl⟩
  first | rfl | (simp; omega)

/-- An append by its run, outside of rounds. -/
theorem wpList_append_run {P : Program} {ops : Array Oper} {Q : Exit → Act → World → Prop} {o : Oper} {rest : List Oper} {a : Act} {w w' : World} (hg : o.guard = none) (s x : Operand) (t : TypeId) (ho : o.op = .call { callee := .builtin .append, args := #[s, x], argTypes := #[t, t] }) (v u r : Value) (hs : a.eval s = v) (hx : a.eval x = u)
    (hr : (Builtin.append_ #[t, t] o.type #[v, u]).run P w = .ok r w') (h : wpList P ops Q rest (a.put o.dst r) w') : wpList P ops Q (o :: rest) a w :=
  wpList_plain hg fun _ hK => wp_append_run s x t ho v u r hs hx hr (hK _ _ h)
/-- Bytes appended to a new slice. -/
theorem own_app {W : World} {B : Nat} {v : Value} {rc : List Int} (hown : Own W B v rc) {a : Option Addr} {n : Nat} (c : Nat) {d : List Int} (hs : Src W a n d) (hd : 0 < n) (hlen : rc.length + n ≤ 1000000) (hB : B ≤ W.heap.size) :
    ∃ v' w', (Builtin.append_ #[22, 22] 22 #[v, .slice a n c]).run Tryz.prog W = .ok v' w' ∧ Own w' B v' (rc ++ d) ∧ Below B W w' := by
  obtain ⟨g, cap, w', h1, h2, h3, _⟩ := app_bytes hown c hs hd hlen hB
  refine ⟨_, w', h1, ?_, (Below.refl B W).grown h3 hB (fun k e => own_lo hown e)⟩
  rw [← bs_append] at h2
  have e : rc.length + d.length = (rc ++ d).length := by simp
  unfold Own
  rw [e] at h2 ⊢
  exact h2

set_option maxRecDepth 20000 in
set_option maxHeartbeats 4000000 in
theorem rbytesOf_any (m n : Nat) (w : World) (hm : m ≤ 9223372036854775807) (hn : n ≤ 8) :
    Calls Tryz.prog 104 #[.int .i64 (m : Int), .int .i64 (n : Int)] w fun e w' => ∃ v, e = .returned v ∧ Own w' w.heap.size v (leb n m) ∧ Below w.heap.size w w' := by
  go_enter Tryz.func104, Tryz.ntmps104
  go_wp2
  go_loopw [0, 5, 6] (fun x v i wr => ∃ k : Nat, k ≤ n ∧ x = .int .i64 ((m / 2 ^ (8 * k) : Nat) : Int) ∧ i = .int .i64 (k : Int) ∧ Own wr w.heap.size v (leb k m) ∧ Below w.heap.size w wr) (fun _ _ i _ => n - (intOf i).toNat)
  case atStart => exact ⟨0, Nat.zero_le _, by simp, rfl, Own.nil _ _, Below.refl _ _⟩
  case round =>
    obtain ⟨k, hk, rfl, rfl, hown, hbr⟩ := hrel
    have Hown := Hid.mk hown
    have HB := Hid.mk hbr
    have hz := hbr.size
    have hlen : (leb k m).length = k := leb_len k m
    clear hown hbr
    by_cases hlt : k < n
    · have hlt' : (k : Int) < (n : Int) := by omega
      have hM : m / 2 ^ (8 * k) ≤ 9223372036854775807 := Nat.le_trans (Nat.div_le_self _ _) hm
      have e1 : m / 2 ^ (8 * (k + 1)) = m / 2 ^ (8 * k) / 256 := by rw [Nat.div_div_eq_div_mul, Nat.mul_succ, Nat.pow_add]
      have e2 := leb_snoc k m
      have HE1 := Hid.mk e1
      have HE2 := Hid.mk e2
      clear e1 e2
      obtain ⟨Q, hQ⟩ : ∃ Q, Q = m / 2 ^ (8 * k) := ⟨_, rfl⟩
      rw [← hQ] at hM HE1 HE2 ⊢
      clear hQ
      have q1 : (Q : Int).tmod 256 = ((Q % 256 : Nat) : Int) := by rw [Int.tmod_eq_emod_of_nonneg (by omega)]; omega
      have q2 : (Q : Int).tdiv 256 = ((Q / 256 : Nat) : Int) := by rw [Int.tdiv_eq_ediv_of_nonneg (by omega)]; omega
      have q3 : ((Q % 256 : Nat) : Int) < 256 := by omega
      go_wp2_with (at_builtin; refine wpList_app1 rfl _ _ rfl w.heap.size u5 (leb k m) _ rfl rfl Hown.out ?b1 ?b2 ?_)
      case b1 => omega
      case b2 => omega
      intro v' w1 ho1 hb1
      have HZ := Hid.mk (And.intro ho1 (HB.out.trans hb1))
      clear ho1 hb1
      go_wp2
      go_roundw
      case rel => exact ⟨k + 1, by omega, by rw [HE1.out]; first | rfl | simp, by go_num, by rw [HE2.out]; exact HZ.out.1, HZ.out.2⟩
      case measure => simp [intOf]; omega
    · obtain rfl : k = n := by omega
      have hge : ¬ (k : Int) < (k : Int) := by omega
      go_wp2
      go_ret
      exact ⟨_, rfl, Hown.out, HB.out⟩
end Go.Proofs.YtijgdmhglnanjabGreat
end

section
namespace Go.Proofs.YtijgdmhglnanjabGreat
open Go.RowKit

theorem aput_eq (S : DS) (s f n E P i c : Nat) (part : List Int) : aput S s f n E P i c part = S.wr s ((f + 2 + P % n : Nat) : Int) 512 (sseal (S.now (f + 2 + P % n)) (pbody E P i c part)).1 := by
  unfold aput
  split
  · rename_i h
    unfold DS.wr
    rw [if_pos h]
  · rfl

section
variable {w w' : World} {F G : Nat → Prop} {r s k : Nat} {S : DS} {L : LG}

set_option maxRecDepth 20000 in
set_option maxHeartbeats 2000000 in
theorem rAppend_go (h : RefAt w F r s S) (hl : LogR w k r L) (hk : L.Ok s) (hF : ¬ F k) (hby : S.Byt) (b o x c : Nat) (d : List Int) (hs : Src w (some ⟨b, o, none⟩) x d) (hFb : ¬ F b) (hd : Bytes d) (hxc : x ≤ c) (hr : L.refuses S x = 0) (hbig : S.puts.length + 100 ≤ 4000000000000) :
    Calls Tryz.prog 69 #[.pointer (some ⟨k, 0, none⟩), .slice (some ⟨b, o, none⟩) x c] w fun e w' => e = .returned (.int .i64 (L.append S s d).1) ∧ RefAt w' (more F w w') r s (L.append S s d).2.1 ∧ LogR w' k r (L.append S s d).2.2 ∧ Keeps (fun j => F j ∨ j = k) w w' := by
  obtain ⟨k0, k1, k2, k3, k4⟩ := refuses_zero hr
  have h1 := rready_any h hl
  rw [k0] at h1
  have hxd : d.length = x := hs.1
  obtain ⟨C, hC⟩ : ∃ C, C = (x + 491) / 492 := ⟨_, rfl⟩
  have hC1 : cntOf x = C := by rw [hC]; rfl
  rw [hC1] at k3 k4
  have hC2 : C ≤ 17 := by omega
  have hlt := hl.lt
  have hhi := hk.hi
  have hth := hk.th
  have hn1 := hk.n1
  have hn2 := hk.n2
  have hsz := hk.s
  have hep := hk.ep
  have hss := h.ok.hi
  have hblt : b < w.heap.size := hs.old _ rfl (by omega)
  obtain ⟨P, hP⟩ : ∃ P, P = L.append S s d := ⟨_, rfl⟩
  rw [← hP]
  have eP : P = if (appTo L S s d C).1 ≠ 0 then ((appTo L S s d C).1, (appTo L S s d C).2, L) else (0, (appTo L S s d C).2, { L with head := L.head + C }) := by
    rw [hP]
    unfold LG.append
    rw [hxd, hr, hC1, if_neg (by decide)]
  have HP := Hid.mk eP
  have HC := Hid.mk hC
  have HL := Hid.mk hl
  have HD := Hid.mk h
  have HLt := Hid.mk h.lt
  have HSd := Hid.mk hs
  have HBy := Hid.mk hby
  have hd1 : ((x : Int) == 0) = false := by rw [beq_eq_false_iff_ne]; omega
  have hd2 : ¬ (8364 : Int) < (x : Int) := by omega
  have hd3 : ¬ (1073741824 : Int) < (L.head : Int) + (C : Int) := by omega
  have hd4 : ¬ (L.n : Int) - ((L.head : Int) - (L.tail : Int)) < (C : Int) := by omega
  have h2 := fun wx => rcount_any x wx (by omega)
  clear h hl hk hby hs hP eP hC hr k0
  go_enter Tryz.func69, Tryz.ntmps69
  go_wp2_with fail
  refine h1.mono ?_
  rintro e w1 ⟨rfl, hb1⟩
  have hl1 := HL.out.later hb1
  have c3 := hl1.c3
  have c5 := hl1.c5
  have c6 := hl1.c6
  clear h1
  go_wp2_with fail
  refine (h2 _).mono ?_
  rintro e w2 ⟨rfl, hw2⟩
  have hw3 := hw2.symm
  subst hw3
  rw [← HC.out]
  have HB1 := Hid.mk hb1
  have HL1 := Hid.mk hl1
  clear h2 hw2 hb1 hl1
  go_wp2_with fail
  go_quiet (fail)
  have HW2 := Hid.mk (below_drewN HB1.out nq)
  have HL2 := Hid.mk (HL1.out.later (below_drewN (Below.refl w1.heap.size w1) nq))
  generalize w1.drewN nq = w2 at *
  clear c3 c5 c6 HL1 HB1
  go_wp2
  have hz2 := HW2.out.size
  go_loopw [7] (fun i wr => ∃ j : Nat, j ≤ C ∧ i = .int .i64 (j : Int) ∧ (appTo L S s d j).1 = 0 ∧ RefAt wr (more F w2 wr) r s (appTo L S s d j).2 ∧ Keeps F w2 wr) (fun i _ => C - (intOf i).toNat)
  case atStart => exact ⟨0, Nat.zero_le _, rfl, rfl, (HD.out.later HW2.out).more, Keeps.refl _ _⟩
  case round =>
    obtain ⟨j, hj, rfl, he, hdk, hkp⟩ := hrel
    have hlr := HL2.out.keep hkp hF
    have HE := Hid.mk he
    have HDr := Hid.mk hdk
    have HKr := Hid.mk hkp
    have HLr := Hid.mk hlr
    have hzr := hkp.size
    clear he hdk hkp
    by_cases q : j < C
    · have hlt' : (j : Int) < (C : Int) := by omega
      have c4 := hlr.c4
      have hxI : 492 * j < x := by have := HC.out; omega
      clear hlr
      have hpl : (min (x : Int) (((j : Int) + 1) * 492)).toNat - j * 492 = chLen x j := by unfold chLen; omega
      have hcl : chLen x j = min 492 (x - 492 * j) := rfl
      have hcl1 : 1 ≤ chLen x j ∧ chLen x j ≤ 492 := by omega
      have hsr := HSd.out.avoid ((Keeps.of_below F HW2.out).trans HKr.out (fun _ h => .inl h)) (fun z hz _ => by cases hz; exact hFb)
      have hsP : Src wr (some ⟨b, o + j * 492, none⟩) (chLen x j) (partOf d j) := by
        have := hsr.sub (492 * j) (chLen x j) (by omega)
        rwa [show (d.drop (492 * j)).take (chLen x j) = partOf d j by unfold partOf; rw [List.take_eq_take_iff, List.length_drop, hxd]; omega, Nat.mul_comm] at this
      have HSP := Hid.mk hsP
      have HPl := Hid.mk hpl
      clear hsP hsr hpl hcl
      go_wp2_with fail
      rw [HPl.out]
      have hq1 := rbytesOf_any L.ep 4 wr (by omega) (by omega)
      rw [show (((4 : Nat)) : Int) = 4 from rfl] at hq1
      refine hq1.mono ?_
      rintro e wa1 ⟨v1, rfl, ho, hb⟩
      obtain ⟨a1, c1, rfl, hsv, _, _⟩ := ho.src
      rw [leb_len] at hsv ⊢
      have hz1a := hb.size
      obtain ⟨x1, wb1, hrun, hown, hbel⟩ := own_app (B := wr.heap.size) (show Own wa1 wr.heap.size (.slice none 0 0) ([]) from Own.nil _ _) c1 hsv (by omega) (by simp) (by omega)
      have hz1b := hbel.size
      have HRun1 := Hid.mk hrun
      have HO1 := Hid.mk hown
      have HB1 : Hid (Below wr.heap.size wr wb1) := (hb.mono (by omega)).trans hbel
      have hlx1 := HLr.out.later HB1.out
      have cc1 := hlx1.c6
      clear hq1 ho hb hsv hrun hown hbel hlx1
      go_wp2_with (at_builtin; refine wpList_append_run rfl _ _ 22 rfl (.slice none 0 0) (.slice a1 4 c1) _ rfl rfl HRun1.out ?_)
      have hq2 := rbytesOf_any (L.head + j) 4 wb1 (by omega) (by omega)
      rw [show (((4 : Nat)) : Int) = 4 from rfl] at hq2
      rw [show ((L.head + j : Nat) : Int) = (L.head : Int) + (j : Int) by omega] at hq2
      refine hq2.mono ?_
      rintro e wa2 ⟨v2, rfl, ho, hb⟩
      obtain ⟨a2, c2, rfl, hsv, _, _⟩ := ho.src
      rw [leb_len] at hsv ⊢
      have hz2a := hb.size
      obtain ⟨x2, wb2, hrun, hown, hbel⟩ := own_app (B := wr.heap.size) (show Own wa2 wr.heap.size x1 ([] ++ leb 4 L.ep) from HO1.out.later hb) c2 hsv (by omega) (by simp [leb_len]) (by omega)
      have hz2b := hbel.size
      have HRun2 := Hid.mk hrun
      have HO2 := Hid.mk hown
      have HB2 : Hid (Below wr.heap.size wr wb2) := HB1.out.trans ((hb.mono (by omega)).trans hbel)
      have hlx2 := HLr.out.later HB2.out
      clear hq2 ho hb hsv hrun hown hbel hlx2
      go_wp2_with (at_builtin; refine wpList_append_run rfl _ _ 22 rfl x1 (.slice a2 4 c2) _ rfl rfl HRun2.out ?_)
      have hq3 := rbytesOf_any j 2 wb2 (by omega) (by omega)
      rw [show (((2 : Nat)) : Int) = 2 from rfl] at hq3
      refine hq3.mono ?_
      rintro e wa3 ⟨v3, rfl, ho, hb⟩
      obtain ⟨a3, c3, rfl, hsv, _, _⟩ := ho.src
      rw [leb_len] at hsv ⊢
      have hz3a := hb.size
      obtain ⟨x3, wb3, hrun, hown, hbel⟩ := own_app (B := wr.heap.size) (show Own wa3 wr.heap.size x2 ([] ++ leb 4 L.ep ++ leb 4 (L.head + j)) from HO2.out.later hb) c3 hsv (by omega) (by simp [leb_len]) (by omega)
      have hz3b := hbel.size
      have HRun3 := Hid.mk hrun
      have HO3 := Hid.mk hown
      have HB3 : Hid (Below wr.heap.size wr wb3) := HB2.out.trans ((hb.mono (by omega)).trans hbel)
      have hlx3 := HLr.out.later HB3.out
      clear hq3 ho hb hsv hrun hown hbel hlx3
      go_wp2_with (at_builtin; refine wpList_append_run rfl _ _ 22 rfl x2 (.slice a3 2 c3) _ rfl rfl HRun3.out ?_)
      have hq4 := rbytesOf_any C 2 wb3 (by omega) (by omega)
      rw [show (((2 : Nat)) : Int) = 2 from rfl] at hq4
      refine hq4.mono ?_
      rintro e wa4 ⟨v4, rfl, ho, hb⟩
      obtain ⟨a4, c4, rfl, hsv, _, _⟩ := ho.src
      rw [leb_len] at hsv ⊢
      have hz4a := hb.size
      obtain ⟨x4, wb4, hrun, hown, hbel⟩ := own_app (B := wr.heap.size) (show Own wa4 wr.heap.size x3 ([] ++ leb 4 L.ep ++ leb 4 (L.head + j) ++ leb 2 j) from HO3.out.later hb) c4 hsv (by omega) (by simp [leb_len]) (by omega)
      have hz4b := hbel.size
      have HRun4 := Hid.mk hrun
      have HO4 := Hid.mk hown
      have HB4 : Hid (Below wr.heap.size wr wb4) := HB3.out.trans ((hb.mono (by omega)).trans hbel)
      have hlx4 := HLr.out.later HB4.out
      clear hq4 ho hb hsv hrun hown hbel hlx4
      obtain ⟨x5, wb5, hrun, hown, hbel⟩ := own_app (B := wr.heap.size) HO4.out (c - j * 492) (HSP.out.later HB4.out) (by omega) (by simp [leb_len]; omega) (by omega)
      have HRun5 := Hid.mk hrun
      have HO5 : Hid (Own wb5 wr.heap.size x5 (pbody L.ep (L.head + j) j C (partOf d j))) := by
        refine Hid.mk ?_
        unfold pbody
        simpa [List.append_assoc] using hown
      have HB5 : Hid (Below wr.heap.size wr wb5) := HB4.out.trans hbel
      have hz5 := hbel.size
      have hl5 := HLr.out.later HB5.out
      have g0 := hl5.c0
      have g2 := hl5.c2
      have g3 := hl5.c3
      have g6 := hl5.c6
      clear hrun hown hbel hl5
      go_wp2_with (at_builtin; first | refine wpList_append_run rfl _ _ 22 rfl x3 (.slice a4 2 c4) _ rfl rfl HRun4.out ?_ | refine wpList_append_run rfl _ _ 22 rfl x4 (.slice (some ⟨b, o + j * 492, none⟩) (chLen x j) (c - j * 492)) _ rfl rfl HRun5.out ?_)
      have hn0 : ((L.n : Int) == 0) = false := by rw [beq_eq_false_iff_ne]; omega
      have ht1 : ((L.head : Int) + (j : Int)).tmod (L.n : Int) = (((L.head + j) % L.n : Nat) : Int) := by rw [Int.tmod_eq_emod_of_nonneg (by omega), ← Int.natCast_add, ← Int.natCast_emod]
      have ht2 : ((L.head : Int) + (j : Int)) % (L.n : Int) = (((L.head + j) % L.n : Nat) : Int) := by rw [← Int.natCast_add, ← Int.natCast_emod]
      have hmd : (L.head + j) % L.n < L.n := Nat.mod_lt _ (by omega)
      obtain ⟨M, hM⟩ : ∃ M, M = (L.head + j) % L.n := ⟨_, rfl⟩
      rw [← hM] at ht1 ht2 hmd
      have HM := Hid.mk hM
      clear hM
      go_quiet (fail)
      have hbq := below_drewN (Below.refl wb5.heap.size wb5) nq
      have hB6 : Below wr.heap.size wr (wb5.drewN nq) := HB5.out.trans (hbq.mono HB5.out.size)
      have ho6 := HO5.out.later hbq
      have hl6 := HLr.out.later hB6
      have hd6 := HDr.out.later hB6
      have hzq := hbq.size
      generalize wb5.drewN nq = w6 at *
      have hpj := (appTo_keeps (L := L) (S := S) (s := s) (d := d) (by omega) hsz j).2.2.2
      have hokj := HDr.out.ok
      have hbyj : (appTo L S s d j).2.Byt := stepsTo_byt HBy.out (fun i T hT => by
        rw [aput_eq]
        exact hT.wr s _ _ (sseal_bytes (pbody_bytes (partOf_bytes hd _)))) j
      have hnl := now_len hokj (L.f + 2 + M) (by omega)
      have hso := sseal_full (old := (appTo L S s d j).2.now (L.f + 2 + M)) (body := pbody L.ep (L.head + j) j C (partOf d j)) hnl (by rw [pbody_len, partOf_len, hxd]; omega)
      have h3 := rnow_at hd6 (L.f + 2 + M) (by omega) (by omega)
      rw [show ((L.f + 2 + M : Nat) : Int) = (L.f : Int) + 2 + (M : Int) by omega] at h3
      have g0' := hl6.c0
      have HD6 := Hid.mk hd6
      have HB6 := Hid.mk hB6
      have HO6 := Hid.mk ho6
      have HL6 := Hid.mk hl6
      have HBj := Hid.mk (hbyj.now (L.f + 2 + M))
      have hej : appTo L S s d (j + 1) = (appTo L S s d j).2.wr s ((L.f + 2 + M : Nat) : Int) 512 (sseal ((appTo L S s d j).2.now (L.f + 2 + M)) (pbody L.ep (L.head + j) j C (partOf d j))).1 := by
        have : appTo L S s d (j + 1) = aput (appTo L S s d j).2 s L.f L.n L.ep (L.head + j) j (cntOf d.length) (partOf d j) := stepsTo_ok HE.out
        rw [this, aput_eq, hxd, hC1, ← HM.out]
      have HEj := Hid.mk hej
      clear hd6 hB6 ho6 hl6 hbyj hej hbq
      go_wp2_with fail
      refine h3.mono ?_
      rintro e w7 ⟨gn, cn, rfl, hFg, hrow, hw7⟩
      have hw7' := hw7.symm
      clear hw7
      subst hw7'
      obtain ⟨a7, c7, hx5, hs7, _, _⟩ := HO6.out.src
      subst hx5
      have hsn := hrow.src
      rw [hnl] at hsn
      have h4 := rseal_any (some ⟨gn, 0, none⟩) 512 cn ((appTo L S s d j).2.now (L.f + 2 + M)) a7 _ c7 (pbody L.ep (L.head + j) j C (partOf d j)) w6 hsn hs7 (pbody_bytes (partOf_bytes hd _)) HBj.out
      rw [hso.1] at h4
      clear h3 hrow hsn hs7
      go_wp2_with fail
      refine h4.mono ?_
      rintro e w8 ⟨v8, rfl, ho8, hb8⟩
      obtain ⟨a8, c8, rfl, hs8, _, _⟩ := ho8.src
      have h5 := rwrite_all (HD6.out.later hb8) ((L.f + 2 + M : Nat) : Int) a8 _ c8 _ hs8 (by omega)
      rw [hso.2, ← HEj.out, show ((L.f + 2 + M : Nat) : Int) = (L.f : Int) + 2 + (M : Int) by omega] at h5
      rw [hso.2]
      have g0'' := (HL6.out.later hb8).c0
      have HB8 := Hid.mk (HB6.out.trans (hb8.mono HB6.out.size))
      have hz8 := hb8.size
      clear h4 ho8 hs8 hb8
      go_wp2_with fail
      refine h5.mono ?_
      rintro e w9 ⟨rfl, hd9, hk9⟩
      have hz9 := hk9.size
      have hj9 : RefAt w9 (more F w2 w9) r s (appTo L S s d (j + 1)).2 := hd9.mono (fun i hi => by
        rcases hi with (hi | hi) | hi
        · exact .inl hi
        · exact .inr ⟨hi.1, by omega⟩
        · exact .inr ⟨by omega, hi.2⟩) (more_lt (F := F) (w := w2) (fun i hi => by have := HLt.out i hi; omega) (by omega))
      have hkj : Keeps F w2 w9 := (HKr.out.trans (Keeps.of_below (fun _ => False) HB8.out) (fun _ h => h.elim)).trans hk9 (fun i hi => by
        rcases hi with hi | hi
        · exact .inl hi
        · exact .inr hi.1)
      have HDj := Hid.mk hj9
      have HKj := Hid.mk hkj
      clear hd9 hk9 h5 hj9 hkj
      by_cases q2 : (appTo L S s d (j + 1)).1 = 0
      · have d9 : ((appTo L S s d (j + 1)).1 == 0) = true := by rw [beq_iff_eq]; exact q2
        have HQ := Hid.mk q2
        clear q2
        go_wp2
        go_roundw
        case rel => exact ⟨j + 1, by omega, by go_num, HQ.out, HDj.out, HKj.out⟩
        case measure => simp [intOf]; omega
      · have d9 : ((appTo L S s d (j + 1)).1 == 0) = false := by rw [beq_eq_false_iff_ne]; exact q2
        have e2 : appTo L S s d C = appTo L S s d (j + 1) := stepsTo_err q2 C (by omega)
        have eP : P = ((appTo L S s d (j + 1)).1, (appTo L S s d (j + 1)).2, L) := by rw [HP.out, e2, if_pos q2]
        have HQ := Hid.mk eP
        clear q2 e2 eP
        go_wp2
        go_ret
        rw [HQ.out]
        exact ⟨rfl, HDj.out.from HLt.out hz2 (by omega), HL2.out.keep HKj.out hF, ((Keeps.of_below F HW2.out).trans HKj.out (fun _ h => .inl h)).mono (fun _ h => .inl h)⟩
    · obtain rfl : j = C := by omega
      have hge : ¬ (j : Int) < (j : Int) := by omega
      have c6 := hlr.c6
      have f6 := hlr.fz 6
      have eP : P = (0, (appTo L S s d j).2, { L with head := L.head + j }) := by rw [HP.out, if_neg (by rw [HE.out]; decide)]
      have HQ := Hid.mk eP
      have hks : Keeps (fun i => i = k) wr (wr.setCell ⟨k, 6, none⟩ (.int .i64 ((L.head : Int) + (j : Int)))) := keeps_set (F := fun i => i = k) _ rfl 6 _
      have hlX : LogR (wr.setCell ⟨k, 6, none⟩ (.int .i64 ((L.head : Int) + (j : Int)))) k r { L with head := L.head + j } := (heap_setCell_same _ _ 6 _ _ _ hlr).trans (by simp)
      have HZ := Hid.mk (And.intro (HDr.out.turned (w := w) (k := k) HLt.out hks hF (by omega) hz2 hzr) (And.intro hlX ((((Keeps.of_below F HW2.out).trans HKr.out (fun _ h => .inl h)).mono (fun _ h => .inl h) : Keeps (fun i => F i ∨ i = k) w wr).trans hks (fun _ h => .inl (.inr h)))))
      clear eP hks hlX hlr
      go_wp2
      go_ret
      rw [HQ.out]
      exact ⟨rfl, HZ.out⟩
end
end Go.Proofs.YtijgdmhglnanjabGreat
end
