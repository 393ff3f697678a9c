import Derived.Test.YtkelfidmpnapoaaGreatW12
import Derived.Deep.RegionHeld3
section
namespace Go.Proofs.YtkelfidmpnapoaaGreat
open Go.RowKit

/-- What Start does. -/
def LG.start (L : LG) (S : DS) (s : Nat) : Int × DS × LG :=
  if L.dead S = true then (3, S, L) else if L.begun = true then (5, S, L) else
  if (anew S s L.f (((L.top + 1 : Nat) : Int) * 4294967296 + ((0 : Nat) : Int))).1 ≠ 0 then ((anew S s L.f (((L.top + 1 : Nat) : Int) * 4294967296 + ((0 : Nat) : Int))).1, (anew S s L.f (((L.top + 1 : Nat) : Int) * 4294967296 + ((0 : Nat) : Int))).2, L)
  else (0, (anew S s L.f (((L.top + 1 : Nat) : Int) * 4294967296 + ((0 : Nat) : Int))).2, { L with begun := true, ep := L.top + 1, tail := 0, head := 0 })
/-- What Trim does. -/
def LG.trim (L : LG) (S : DS) (s : Nat) : Int × DS × LG :=
  if (L.sync S s).1 ≠ 0 then ((L.sync S s).1, (L.sync S s).2, L) else if L.tail = L.head then (0, (L.sync S s).2, L) else
  if (anew (L.sync S s).2 s L.f ((L.ep : Int) * 4294967296 + (L.head : Int))).1 ≠ 0 then ((anew (L.sync S s).2 s L.f ((L.ep : Int) * 4294967296 + (L.head : Int))).1, (anew (L.sync S s).2 s L.f ((L.ep : Int) * 4294967296 + (L.head : Int))).2, L)
  else (0, (anew (L.sync S s).2 s L.f ((L.ep : Int) * 4294967296 + (L.head : Int))).2, { L with tail := L.head })

theorem LogP.started {w : World} {l p : Nat} {L : LG} (h : LogP w l p L) (E : Int) (n : Nat) (hE : E = (n : Int)) :
    LogP ((((w.setCell ⟨l, 4, none⟩ (.bool true)).setCell ⟨l, 5, none⟩ (.int .i64 E)).setCell ⟨l, 6, none⟩ (.int .i64 0)).setCell ⟨l, 7, none⟩ (.int .i64 0)) l p { L with begun := true, ep := n, tail := 0, head := 0 } := by
  subst hE
  have h1 := heap_setCell_same _ _ 4 _ _ (.bool true) h
  have h2 := heap_setCell_same _ _ 5 _ _ (.int .i64 (n : Int)) h1
  have h3 := heap_setCell_same _ _ 6 _ _ (.int .i64 0) h2
  have h4 := heap_setCell_same _ _ 7 _ _ (.int .i64 0) h3
  exact h4.trans (by simp [lgC])
theorem LogP.trimmed {w : World} {l p : Nat} {L : LG} (h : LogP w l p L) : LogP (w.setCell ⟨l, 6, none⟩ (.int .i64 (L.head : Int))) l p { L with tail := L.head } :=
  (heap_setCell_same _ _ 6 _ _ (.int .i64 (L.head : Int)) h).trans (by simp [lgC])
theorem keeps_set {F : Nat → Prop} (w : World) {l : Nat} (hF : F l) (j : Nat) (v : Value) : Keeps F w (w.setCell ⟨l, j, none⟩ v) := Keeps.setCell (F := F) w (p := ⟨l, j, none⟩) hF v

section
variable {w : World} {F : Nat → Prop} {p s l : Nat} {S : DS} {L : LG}

set_option maxRecDepth 20000 in
set_option maxHeartbeats 8000000 in
theorem Start_any (h : DiskR w F p s S) (hl : LogP w l p L) (hk : L.Ok s) (hF : ¬ F l) (hby : S.Byt) (hbig : S.puts.length + 2 ≤ 4000000000000) :
    Calls Tryz.prog 16 #[.pointer (some ⟨l, 0, none⟩)] w fun e w' => e = .returned (.int .i64 (L.start S s).1) ∧ DiskR w' (more F w w') p s (L.start S s).2.1 ∧ LogP w' l p (L.start S s).2.2 ∧ Keeps (fun k => F k ∨ k = l) w w' := by
  have h1 := dead_any h hl
  have HL := Hid.mk hl
  have HD := Hid.mk h
  have hlt := hl.lt
  have hs := hk.s
  have htop := hk.top
  unfold LG.start
  have H3 := Hid.mk (fun w2 (hd2 : DiskR w2 F p s S) => drenew hd2 L.f L.n (L.top + 1) 0 (by omega) (by omega) hbig (by have := hk.n1; omega) (hby.now _) (hby.now _))
  clear h hl hk hby
  cases hd : L.dead S
  · rw [hd] at h1
    rw [if_neg (by decide)]
    clear hd
    cases hb : L.begun
    · rw [if_neg (by decide)]
      generalize hY : anew S s L.f (((L.top + 1 : Nat) : Int) * 4294967296 + ((0 : Nat) : Int)) = Y at *
      clear hY
      by_cases k : Y.1 = 0
      · rw [if_neg (fun h => h k)]
        have d : (Y.1 == 0) = true := by rw [beq_iff_eq]; exact k
        clear k
        go_enter Tryz.func16, Tryz.ntmps16
        go_wp2_with fail
        refine h1.mono ?_
        rintro e w1 ⟨rfl, hb1⟩
        have hl1 := HL.out.later hb1
        have c0 := hl1.c0
        have c1 := hl1.c1
        have c2 := hl1.c2
        have c4 := hl1.c4
        have c8 := hl1.c8
        rw [hb] at c4
        have h3 := H3.out w1 (HD.out.later hb1)
        rw [show ((L.top + 1 : Nat) : Int) = (L.top : Int) + 1 by omega, show (((0 : Nat) : Int)) = 0 from rfl] at h3
        have HB1 := Hid.mk hb1
        have HL1 := Hid.mk hl1
        clear h1 hb1 hl1
        go_wp2_with fail
        refine h3.mono ?_
        rintro e w2 ⟨rfl, hd2, hk2⟩
        have hl2 := HL1.out.keep hk2 hF
        have f4 := hl2.fz 4
        have f5 := hl2.fz 5
        have f6 := hl2.fz 6
        have f7 := hl2.fz 7
        have c4 := hl2.c4
        have c5 := hl2.c5
        have c6 := hl2.c6
        have c7 := hl2.c7
        have hz1 := HB1.out.size
        have hz2 := hk2.size
        have hK : Keeps (fun k => F k ∨ k = l) w ((((w2.setCell ⟨l, 4, none⟩ (.bool true)).setCell ⟨l, 5, none⟩ (.int .i64 ((L.top : Int) + 1))).setCell ⟨l, 6, none⟩ (.int .i64 0)).setCell ⟨l, 7, none⟩ (.int .i64 0)) :=
          (((((Keeps.of_below (fun k => F k ∨ k = l) HB1.out).trans hk2 (fun _ h => .inl (.inl h))).trans (keeps_set (F := fun k => k = l) w2 rfl 4 _) (fun _ h => .inl (.inr h))).trans (keeps_set (F := fun k => k = l) _ rfl 5 _) (fun _ h => .inl (.inr h))).trans (keeps_set (F := fun k => k = l) _ rfl 6 _) (fun _ h => .inl (.inr h))).trans (keeps_set (F := fun k => k = l) _ rfl 7 _) (fun _ h => .inl (.inr h))
        have hD4 : DiskR ((((w2.setCell ⟨l, 4, none⟩ (.bool true)).setCell ⟨l, 5, none⟩ (.int .i64 ((L.top : Int) + 1))).setCell ⟨l, 6, none⟩ (.int .i64 0)).setCell ⟨l, 7, none⟩ (.int .i64 0)) (more F w1 w2) p s Y.2 := by
          have hne : ∀ k, more F w1 w2 k → ¬ k = l := fun k hk e => by
            subst e
            rcases hk with hk | hk
            · exact hF hk
            · omega
          exact (((hd2.keep (keeps_set (F := fun k => k = l) w2 rfl 4 _) hne).keep (keeps_set (F := fun k => k = l) _ rfl 5 _) hne).keep (keeps_set (F := fun k => k = l) _ rfl 6 _) hne).keep (keeps_set (F := fun k => k = l) _ rfl 7 _) hne
        have hsz : ((((w2.setCell ⟨l, 4, none⟩ (.bool true)).setCell ⟨l, 5, none⟩ (.int .i64 ((L.top : Int) + 1))).setCell ⟨l, 6, none⟩ (.int .i64 0)).setCell ⟨l, 7, none⟩ (.int .i64 0)).heap.size = w2.heap.size := by simp [World.setCell]
        have HZ := Hid.mk (And.intro ((hD4.mono (G := more F w ((((w2.setCell ⟨l, 4, none⟩ (.bool true)).setCell ⟨l, 5, none⟩ (.int .i64 ((L.top : Int) + 1))).setCell ⟨l, 6, none⟩ (.int .i64 0)).setCell ⟨l, 7, none⟩ (.int .i64 0))) (fun k hk => by
            rcases hk with hk | hk
            · exact .inl hk
            · exact .inr ⟨by omega, by rw [hsz]; exact hk.2⟩) (more_lt (F := F) (w := w) HD.out.lt (by rw [hsz]; omega)))) (And.intro (hl2.started ((L.top : Int) + 1) (L.top + 1) (by omega)) hK))
        clear h3 hd2 hk2 hl2 hK hD4 hsz
        go_wp2
        go_ret
        exact ⟨rfl, HZ.out⟩
      · rw [if_pos k]
        have d : (Y.1 == 0) = false := by rw [beq_eq_false_iff_ne]; exact k
        clear k
        go_enter Tryz.func16, Tryz.ntmps16
        go_wp2_with fail
        refine h1.mono ?_
        rintro e w1 ⟨rfl, hb1⟩
        have hl1 := HL.out.later hb1
        have c0 := hl1.c0
        have c1 := hl1.c1
        have c2 := hl1.c2
        have c4 := hl1.c4
        have c8 := hl1.c8
        rw [hb] at c4
        have h3 := H3.out w1 (HD.out.later hb1)
        rw [show ((L.top + 1 : Nat) : Int) = (L.top : Int) + 1 by omega, show (((0 : Nat) : Int)) = 0 from rfl] at h3
        have HB1 := Hid.mk hb1
        have HL1 := Hid.mk hl1
        clear h1 hb1 hl1
        go_wp2_with fail
        refine h3.mono ?_
        rintro e w2 ⟨rfl, hd2, hk2⟩
        have HZ := Hid.mk (And.intro (hd2.from HD.out.lt HB1.out.size hk2.size) (And.intro (HL1.out.keep hk2 hF) ((Keeps.of_below (fun k => F k ∨ k = l) HB1.out).trans hk2 (fun _ h => .inl (.inl h)))))
        clear h3 hd2 hk2
        go_wp2
        go_ret
        exact ⟨rfl, HZ.out⟩
    · rw [if_pos rfl]
      go_enter Tryz.func16, Tryz.ntmps16
      go_wp2_with fail
      refine h1.mono ?_
      rintro e w1 ⟨rfl, hb1⟩
      have c4 := (HL.out.later hb1).c4
      rw [hb] at c4
      have HZ := Hid.mk (And.intro ((HD.out.later hb1).more (w := w)) (And.intro (HL.out.later hb1) (Keeps.of_below (fun k => F k ∨ k = l) hb1)))
      clear h1 hb1
      go_wp2
      go_ret
      exact ⟨rfl, HZ.out⟩
  · rw [hd] at h1
    rw [if_pos rfl]
    go_enter Tryz.func16, Tryz.ntmps16
    go_wp2_with fail
    refine h1.mono ?_
    rintro e w1 ⟨rfl, hb1⟩
    have HZ := Hid.mk (And.intro ((HD.out.later hb1).more (w := w)) (And.intro (HL.out.later hb1) (Keeps.of_below (fun k => F k ∨ k = l) hb1)))
    clear h1 hb1
    go_wp2
    go_ret
    exact ⟨rfl, HZ.out⟩
end
end Go.Proofs.YtkelfidmpnapoaaGreat
end

section
namespace Go.Proofs.YtkelfidmpnapoaaGreat
open Go.RowKit

theorem sync_puts (L : LG) (S : DS) (s : Nat) : (L.sync S s).2.puts.length ≤ S.puts.length + 1 := by
  unfold LG.sync
  split
  · simp
  · exact fl_puts S s
theorem sync_byt {S : DS} (h : S.Byt) (L : LG) (s : Nat) : (L.sync S s).2.Byt := by
  unfold LG.sync
  split
  · exact h
  · exact h.fl s

theorem sync_begun {L : LG} {S : DS} {s : Nat} (h : (L.sync S s).1 = 0) : L.begun = true := by
  unfold LG.sync at h
  split at h
  · rename_i h1; exact absurd h h1
  · rename_i h1
    unfold LG.unready at h1
    split at h1
    · omega
    · split at h1
      · assumption
      · omega

section
variable {w : World} {F : Nat → Prop} {p s l : Nat} {S : DS} {L : LG}

set_option maxRecDepth 20000 in
set_option maxHeartbeats 8000000 in
theorem Trim_any (h : DiskR w F p s S) (hl : LogP w l p L) (hk : L.Ok s) (hF : ¬ F l) (hby : S.Byt) (hbig : S.puts.length + 3 ≤ 4000000000000) :
    Calls Tryz.prog 30 #[.pointer (some ⟨l, 0, none⟩)] w fun e w' => e = .returned (.int .i64 (L.trim S s).1) ∧ DiskR w' (more F w w') p s (L.trim S s).2.1 ∧ LogP w' l p (L.trim S s).2.2 ∧ Keeps (fun k => F k ∨ k = l) w w' := by
  have h1 := Sync_any h hl hF (by omega)
  have HLt := Hid.mk h.lt
  have hlt := hl.lt
  have hs := hk.s
  have hn1 := hk.n1
  have hhb := fun (hb : (L.sync S s).1 = 0) => hk.hb (sync_begun hb)
  have hep := hk.ep
  have hp := sync_puts L S s
  have hby2 := sync_byt hby L s
  unfold LG.trim
  generalize L.sync S s = Z at *
  have H3 := Hid.mk (fun (hz : Z.1 = 0) w2 (hd2 : DiskR w2 F p s Z.2) => drenew hd2 L.f L.n L.ep L.head hep (hhb hz) (by omega) (by omega) (hby2.now _) (hby2.now _))
  clear h hl hk hby hby2
  by_cases k0 : Z.1 = 0
  · rw [if_neg (fun h => h k0)]
    have d0 : (Z.1 == 0) = true := by rw [beq_iff_eq]; exact k0
    have H4 := Hid.mk (H3.out k0)
    clear k0 H3 hhb
    by_cases k1 : L.tail = L.head
    · rw [if_pos k1]
      have d1 : ((L.tail : Int) == (L.head : Int)) = true := by rw [beq_iff_eq]; omega
      clear k1
      go_enter Tryz.func30, Tryz.ntmps30
      go_wp2_with fail
      refine h1.mono ?_
      rintro e w1 ⟨rfl, hd1, hl1, hk1⟩
      have c6 := hl1.c6
      have c7 := hl1.c7
      have HZ := Hid.mk (fun j => And.intro ((hd1.later (below_drewN (Below.refl _ _) j)).more (w := w)) (And.intro (hl1.later (below_drewN (Below.refl _ _) j)) ((hk1.mono (fun _ h => .inl h)).trans (Keeps.of_below (fun _ => False) (below_drewN (Below.refl w1.heap.size w1) j)) (fun _ h => h.elim) : Keeps (fun k => F k ∨ k = l) w (w1.drewN j))))
      clear h1 hd1 hl1 hk1
      go_wp2_with fail
      go_quiet (fail)
      go_wp2
      go_ret
      exact ⟨rfl, HZ.out _⟩
    · rw [if_neg k1]
      have d1 : ((L.tail : Int) == (L.head : Int)) = false := by rw [beq_eq_false_iff_ne]; omega
      clear k1
      generalize hY : anew Z.2 s L.f ((L.ep : Int) * 4294967296 + (L.head : Int)) = Y at *
      clear hY
      by_cases k : Y.1 = 0
      · rw [if_neg (fun h => h k)]
        have d : (Y.1 == 0) = true := by rw [beq_iff_eq]; exact k
        clear k
        go_enter Tryz.func30, Tryz.ntmps30
        go_wp2_with fail
        refine h1.mono ?_
        rintro e w1 ⟨rfl, hd1, hl1, hk1⟩
        have c6 := hl1.c6
        have c7 := hl1.c7
        have c0 := hl1.c0
        have c1 := hl1.c1
        have c2 := hl1.c2
        have c5 := hl1.c5
        have HD1 := Hid.mk hd1
        have HL1 := Hid.mk hl1
        have HK1 := Hid.mk hk1
        clear h1 hd1 hl1 hk1
        go_wp2_with fail
        go_quiet (fail)
        go_wp2_with fail
        go_region_held3 (fun w' => w'.cell? ⟨l, 0, none⟩ = some (.pointer (some ⟨p, 0, none⟩)) ∧ w'.cell? ⟨l, 1, none⟩ = some (.int .i64 (L.f : Int)) ∧ w'.cell? ⟨l, 2, none⟩ = some (.int .i64 (L.n : Int)) ∧ w'.cell? ⟨l, 5, none⟩ = some (.int .i64 (L.ep : Int)) ∧ w'.cell? ⟨l, 7, none⟩ = some (.int .i64 (L.head : Int)))
          (first | exact ⟨c0, c1, c2, c5, c7⟩ | exact ⟨hl4.c0, hl4.c1, hl4.c2, hl4.c5, hl4.c7⟩)
          ((go_at_call 27; refine (H4.out _ (HD1.out.later (below_drewN (Below.refl _ _) (nq + 1)))).mono ?_; rintro e w2 ⟨rfl, hd2, hk2⟩; have hk3 := HK1.out.trans (Keeps.of_below (fun _ => False) (below_drewN (Below.refl w1.heap.size w1) (nq + 1))) (fun _ h => h.elim); have hl3 := HL1.out.later (below_drewN (Below.refl w1.heap.size w1) (nq + 1)); have hl4 := hl3.keep hk2 hF))
        generalize w1.drewN (nq + 1) = w3 at *
        have hz3 := hk3.size
        have hz2 := hk2.size
        have f6 := hl4.fz 6
        have c6' := hl4.c6
        have c7' := hl4.c7
        have hne : ∀ k, more F w3 w2 k → ¬ k = l := fun k hk e => by
          subst e
          rcases hk with hk | hk
          · exact hF hk
          · omega
        have hsz : (w2.setCell ⟨l, 6, none⟩ (.int .i64 (L.head : Int))).heap.size = w2.heap.size := by simp [World.setCell]
        have HZ := Hid.mk (And.intro (((hd2.keep (keeps_set (F := fun k => k = l) w2 rfl 6 (.int .i64 (L.head : Int))) hne).mono (G := more F w (w2.setCell ⟨l, 6, none⟩ (.int .i64 (L.head : Int)))) (fun k hk => by
            rcases hk with hk | hk
            · exact .inl hk
            · exact .inr ⟨by omega, by rw [hsz]; exact hk.2⟩) (more_lt (F := F) (w := w) HLt.out (by rw [hsz]; omega)))) (And.intro hl4.trimmed (((hk3.mono (fun _ h => .inl h) : Keeps (fun k => F k ∨ k = l) w w3).trans hk2 (fun _ h => .inl (.inl h))).trans (keeps_set (F := fun k => k = l) w2 rfl 6 (.int .i64 (L.head : Int))) (fun _ h => .inl (.inr h)))))
        clear hd2 hk2 hl4 hk3 hl3 hsz hne
        go_wp2
        go_ret
        exact ⟨rfl, HZ.out⟩
      · rw [if_pos k]
        have d : (Y.1 == 0) = false := by rw [beq_eq_false_iff_ne]; exact k
        clear k
        go_enter Tryz.func30, Tryz.ntmps30
        go_wp2_with fail
        refine h1.mono ?_
        rintro e w1 ⟨rfl, hd1, hl1, hk1⟩
        have c6 := hl1.c6
        have c7 := hl1.c7
        have c0 := hl1.c0
        have c1 := hl1.c1
        have c2 := hl1.c2
        have c5 := hl1.c5
        have HD1 := Hid.mk hd1
        have HL1 := Hid.mk hl1
        have HK1 := Hid.mk hk1
        clear h1 hd1 hl1 hk1
        go_wp2_with fail
        go_quiet (fail)
        go_wp2_with fail
        go_region_held3 (fun w' => w'.cell? ⟨l, 0, none⟩ = some (.pointer (some ⟨p, 0, none⟩)) ∧ w'.cell? ⟨l, 1, none⟩ = some (.int .i64 (L.f : Int)) ∧ w'.cell? ⟨l, 2, none⟩ = some (.int .i64 (L.n : Int)) ∧ w'.cell? ⟨l, 5, none⟩ = some (.int .i64 (L.ep : Int)) ∧ w'.cell? ⟨l, 7, none⟩ = some (.int .i64 (L.head : Int)))
          (first | exact ⟨c0, c1, c2, c5, c7⟩ | exact ⟨hl4.c0, hl4.c1, hl4.c2, hl4.c5, hl4.c7⟩)
          ((go_at_call 27; refine (H4.out _ (HD1.out.later (below_drewN (Below.refl _ _) (nq + 1)))).mono ?_; rintro e w2 ⟨rfl, hd2, hk2⟩; have hk3 := HK1.out.trans (Keeps.of_below (fun _ => False) (below_drewN (Below.refl w1.heap.size w1) (nq + 1))) (fun _ h => h.elim); have hl3 := HL1.out.later (below_drewN (Below.refl w1.heap.size w1) (nq + 1)); have hl4 := hl3.keep hk2 hF))
        generalize w1.drewN (nq + 1) = w3 at *
        have hz3 := hk3.size
        have hz2 := hk2.size
        have HZ := Hid.mk (And.intro (hd2.from HLt.out hz3 hz2) (And.intro hl4 ((hk3.mono (fun _ h => .inl h) : Keeps (fun k => F k ∨ k = l) w w3).trans hk2 (fun _ h => .inl (.inl h)))))
        clear hd2 hk2 hl4 hk3 hl3
        go_wp2
        go_ret
        exact ⟨rfl, HZ.out⟩
  · rw [if_pos k0]
    have d0 : (Z.1 == 0) = false := by rw [beq_eq_false_iff_ne]; exact k0
    clear k0
    go_enter Tryz.func30, Tryz.ntmps30
    go_wp2_with fail
    refine h1.mono ?_
    rintro e w1 ⟨rfl, hd1, hl1, hk1⟩
    have HZ := Hid.mk (And.intro (hd1.more (w := w)) (And.intro hl1 (hk1.mono (fun _ h => .inl h) : Keeps (fun k => F k ∨ k = l) w w1)))
    clear h1 hd1 hl1 hk1
    go_wp2
    go_ret
    exact ⟨rfl, HZ.out⟩
end
end Go.Proofs.YtkelfidmpnapoaaGreat
end

section
namespace Go.Proofs.YtkelfidmpnapoaaGreat
open Go.RowKit

/-- A piece as a value. -/
abbrev pieceV (e q i c : Int) (a : Option Addr) (n k : Nat) : Value := .agg #[.int .i64 e, .int .i64 q, .int .i64 i, .int .i64 c, .slice a n k]
abbrev pieceC (e q i c : Int) (a : Option Addr) (n k : Nat) : Array Value := #[.int .i64 e, .int .i64 q, .int .i64 i, .int .i64 c, .slice a n k]
/-- What is sealed of a piece. -/
def pbody (E P i c : Nat) (part : List Int) : List Int := leb 4 E ++ (leb 4 P ++ (leb 2 i ++ (leb 2 c ++ part)))

theorem put_zs (A X : List Int) (m : Nat) (h : X.length ≤ m) : put (A ++ zs m) A.length X = (A ++ X) ++ zs (m - X.length) := by
  unfold put
  have e : zs m = zs X.length ++ zs (m - X.length) := by rw [← zs_add]; congr 1; omega
  have e2 : A.length + X.length = (A ++ zs X.length).length := by rw [List.length_append, zs_len]
  rw [List.take_left, e2, e, ← List.append_assoc A (zs X.length), List.drop_left, List.append_assoc]
theorem pbody_len (E P i c : Nat) (l : List Int) : (pbody E P i c l).length = 12 + l.length := by
  simp only [pbody, List.length_append, leb_len]; omega
theorem pbody_bytes {E P i c : Nat} {l : List Int} (h : Bytes l) : Bytes (pbody E P i c l) := (leb_bytes _ _).append ((leb_bytes _ _).append ((leb_bytes _ _).append ((leb_bytes _ _).append h)))
theorem pbody_eq (E P i c : Nat) (l : List Int) : pbody E P i c l = (((leb 4 E ++ leb 4 P) ++ leb 2 i) ++ leb 2 c) ++ l := by
  simp only [pbody, List.append_assoc]

set_option maxRecDepth 20000 in
set_option maxHeartbeats 4000000 in
theorem body_any (E P i c : Nat) (a : Option Addr) (n k : Nat) (l : List Int) (w : World) (hs : Src w a n l) (hn : n ≤ 492) (hca : a = none → k = 0) :
    Calls Tryz.prog 40 #[pieceV E P i c a n k] w fun e w' => ∃ v, e = .returned v ∧ Own w' w.heap.size v (pbody E P i c l) ∧ Below w.heap.size w w' := by
  obtain ⟨i0, hi, hz0, hz1, hz2⟩ := info_parts infoU8
  have H := Hid.mk hs
  have hl := hs.1
  have HB := Hid.mk (below_box w (.cells (pieceC E P i c a n k) 57))
  obtain ⟨m, hm⟩ : ∃ m : Nat, m = 12 + n := ⟨_, rfl⟩
  have b4 : (4 : Int) ≤ (m : Int) := by omega
  have b8 : (8 : Int) ≤ (m : Int) := by omega
  have b10 : (10 : Int) ≤ (m : Int) := by omega
  have b12 : (12 : Int) ≤ (m : Int) := by omega
  have n4 : ¬ m = 4 := by omega
  have n8 : ¬ m = 8 := by omega
  have n10 : ¬ m = 10 := by omega
  have HM := Hid.mk hm
  rw [pbody_eq]
  obtain ⟨A, hA⟩ : ∃ A, A = (((leb 4 E ++ leb 4 P) ++ leb 2 i) ++ leb 2 c) := ⟨_, rfl⟩
  rw [← hA]
  have HA := Hid.mk hA
  clear hs hA hm
  go_enter Tryz.func40, Tryz.ntmps40
  go_wp2_with (at_make; refine wpList_make_part _ rfl _ _ rfl _ 12 m rfl rfl ?c1 ?c2 ?c3 ?_)
  case c1 => have := HM.out; omega
  case c2 => omega
  case c3 => have := HM.out; omega
  intro w1 hblk hb1
  have hbox : w1.heap[w.heap.size]? = some (.cells (pieceC E P i c a n k) 57 (0, 0)) := (hb1.block _ (by simp)).trans (heap_alloc_new _ _)
  have HB1 := Hid.mk (HB.out.trans (hb1.mono (by simp)))
  have hgz : w.heap.size + 1 < w1.heap.size := hblk.lt
  clear hb1
  have HX1 := Hid.mk hbox
  have HK1 := Hid.mk (HM.out ▸ hblk : Blk w1 5 (w.heap.size + 1) (zs (12 + n)))
  clear hblk
  have c0 := cell_of_block HX1.out (j := 0) rfl
  have e1 : put (zs (12 + n)) 0 (leb 4 E) = leb 4 E ++ zs (8 + n) := by
    have := put_zs ([] : List Int) (leb 4 E) (12 + n) (by rw [leb_len]; omega)
    simp only [leb_len, List.nil_append, List.length_nil] at this
    rw [show 12 + n - 4 = 8 + n by omega] at this
    exact this
  have hl1 := fun (cp : Nat) (wx : World) (hx : Blk wx 5 (w.heap.size + 1) (zs (12 + n))) => wlay_any (w.heap.size + 1) 0 4 cp E 5 (zs (12 + n)) wx hx (by omega) (by simp only [zs_len]; omega)
  rw [e1] at hl1
  have HL1 := Hid.mk hl1
  clear e1 hl1
  go_wp2_with fail
  go_region_with ((go_at_call 62; refine (HL1.out _ w1.drew HK1.out).mono ?_; rintro e w2 ⟨rfl, hb, hk, hz⟩; have hx := box_after (w := w1.drew) (w1 := w2) HX1.out hk (by omega)))
  have HX2 := Hid.mk hx
  have HK2 := Hid.mk hb
  have HB2 := Hid.mk ((below_drew HB1.out).trans (hk.below (B := w.heap.size) (fun j hj => by omega) (below_drew HB1.out).size))
  clear c0 HL1 hx hb hk hz
  have c1 := cell_of_block HX2.out (j := 1) rfl
  have e2 : put (leb 4 E ++ zs (8 + n)) 4 (leb 4 P) = (leb 4 E ++ leb 4 P) ++ zs (4 + n) := by
    have := put_zs (leb 4 E) (leb 4 P) (8 + n) (by rw [leb_len]; omega)
    simp only [leb_len] at this
    rw [show 8 + n - 4 = 4 + n by omega] at this
    exact this
  have hl2 := fun (cp : Nat) (wx : World) (hx : Blk wx 5 (w.heap.size + 1) (leb 4 E ++ zs (8 + n))) => wlay_any (w.heap.size + 1) 4 4 cp P 5 (leb 4 E ++ zs (8 + n)) wx hx (by omega) (by simp only [List.length_append, leb_len, zs_len]; omega)
  rw [e2] at hl2
  have HL2 := Hid.mk hl2
  clear e2 hl2
  go_wp2_with fail
  go_region_with ((go_at_call 62; refine (HL2.out _ w2.drew HK2.out).mono ?_; rintro e w3 ⟨rfl, hb, hk, hz⟩; have hx := box_after (w := w2.drew) (w1 := w3) HX2.out hk (by omega)))
  have HX3 := Hid.mk hx
  have HK3 := Hid.mk hb
  have HB3 := Hid.mk ((below_drew HB2.out).trans (hk.below (B := w.heap.size) (fun j hj => by omega) (below_drew HB2.out).size))
  clear c1 HL2 hx hb hk hz
  have c2 := cell_of_block HX3.out (j := 2) rfl
  have e3 : put ((leb 4 E ++ leb 4 P) ++ zs (4 + n)) 8 (leb 2 i) = ((leb 4 E ++ leb 4 P) ++ leb 2 i) ++ zs (2 + n) := by
    have := put_zs (leb 4 E ++ leb 4 P) (leb 2 i) (4 + n) (by rw [leb_len]; omega)
    simp only [List.length_append, leb_len, Nat.reduceAdd] at this
    rw [show 4 + n - 2 = 2 + n by omega] at this
    exact this
  have hl3 := fun (cp : Nat) (wx : World) (hx : Blk wx 5 (w.heap.size + 1) ((leb 4 E ++ leb 4 P) ++ zs (4 + n))) => wlay_any (w.heap.size + 1) 8 2 cp i 5 ((leb 4 E ++ leb 4 P) ++ zs (4 + n)) wx hx (by omega) (by simp only [List.length_append, leb_len, zs_len]; omega)
  rw [e3] at hl3
  have HL3 := Hid.mk hl3
  clear e3 hl3
  go_wp2_with fail
  go_region_with ((go_at_call 62; refine (HL3.out _ w3.drew HK3.out).mono ?_; rintro e w4 ⟨rfl, hb, hk, hz⟩; have hx := box_after (w := w3.drew) (w1 := w4) HX3.out hk (by omega)))
  have HX4 := Hid.mk hx
  have HK4 := Hid.mk hb
  have HB4 := Hid.mk ((below_drew HB3.out).trans (hk.below (B := w.heap.size) (fun j hj => by omega) (below_drew HB3.out).size))
  clear c2 HL3 hx hb hk hz
  have c3 := cell_of_block HX4.out (j := 3) rfl
  have e4 : put (((leb 4 E ++ leb 4 P) ++ leb 2 i) ++ zs (2 + n)) 10 (leb 2 c) = (((leb 4 E ++ leb 4 P) ++ leb 2 i) ++ leb 2 c) ++ zs (0 + n) := by
    have := put_zs ((leb 4 E ++ leb 4 P) ++ leb 2 i) (leb 2 c) (2 + n) (by rw [leb_len]; omega)
    simp only [List.length_append, leb_len, Nat.reduceAdd] at this
    rw [show 2 + n - 2 = 0 + n by omega] at this
    exact this
  have hl4 := fun (cp : Nat) (wx : World) (hx : Blk wx 5 (w.heap.size + 1) (((leb 4 E ++ leb 4 P) ++ leb 2 i) ++ zs (2 + n))) => wlay_any (w.heap.size + 1) 10 2 cp c 5 (((leb 4 E ++ leb 4 P) ++ leb 2 i) ++ zs (2 + n)) wx hx (by omega) (by simp only [List.length_append, leb_len, zs_len]; omega)
  rw [e4] at hl4
  have HL4 := Hid.mk hl4
  clear e4 hl4
  go_wp2_with fail
  go_region_with ((go_at_call 62; refine (HL4.out _ w4.drew HK4.out).mono ?_; rintro e w5 ⟨rfl, hb, hk, hz⟩; have hx := box_after (w := w4.drew) (w1 := w5) HX4.out hk (by omega)))
  have HX5 := Hid.mk hx
  have HK5 := Hid.mk hb
  have HB5 := Hid.mk ((below_drew HB4.out).trans (hk.below (B := w.heap.size) (fun j hj => by omega) (below_drew HB4.out).size))
  clear c3 HL4 hx hb hk hz
  have c4 := cell_of_block HX5.out (j := 4) rfl
  have hown : Own w5 w.heap.size (.slice (some ⟨w.heap.size + 1, 0, none⟩) (((leb 4 E ++ leb 4 P) ++ leb 2 i) ++ leb 2 c).length m) (((leb 4 E ++ leb 4 P) ++ leb 2 i) ++ leb 2 c) := own_blk HK5.out (by omega) (by simp only [List.length_append, leb_len, zs_len]; have := HM.out; omega) (by unfold maxLen; have := HM.out; omega)
  have hll : (((leb 4 E ++ leb 4 P) ++ leb 2 i) ++ leb 2 c).length = 12 := by simp only [List.length_append, leb_len]
  rw [hll] at hown
  have hrow : w5.ownsRow w.heap.size 5 1 (.slice (some ⟨w.heap.size + 1, 0, none⟩) 12 m) 12 (bs (((leb 4 E ++ leb 4 P) ++ leb 2 i) ++ leb 2 c)) := by
    have := hown
    unfold Own at this
    rwa [hll] at this
  have Hrow := Hid.mk hrow
  have Hown := Hid.mk hown
  have hz := HB5.out.size
  rw [← HA.out] at hll Hrow Hown
  clear hown hrow HX1 HX2 HX3 HX4 HK1 HK2 HK3 HK4 HK5 HB1 HB2 HB3 HB4 HB
  cases a with
  | none =>
    have hn0 : n = 0 := H.out.2.1 rfl
    subst hn0
    have hl0 : l = [] := List.eq_nil_of_length_eq_zero hl
    subst hl0
    have hc0 := hca rfl
    subst hc0
    go_wp2_with (at_builtin; refine wpList_append_own_none rfl _ _ 29 rfl w.heap.size 5 i0 1 Tryz.underlying29 hi _ 12 (bs A) rfl Hrow.out rfl ?_)
    go_ret
    exact ⟨_, rfl, by first | exact Hown.out | (rw [List.append_nil]; exact Hown.out), HB5.out⟩
  | some x =>
    have hcells := Hid.mk (fun j u (hj : (bs l)[j]? = some u) => show w5.cell? (x.add j) = some u by
      obtain ⟨hj1, rfl⟩ := bs_getElem hj
      exact cell_later HB5.out (H.out.2.2 _ rfl j (by omega)))
    have hll2 : (bs l).length = n := by rw [bs, List.length_map, hl]
    go_wp2_with (at_builtin; refine wpList_append_own _ rfl _ _ 29 rfl w.heap.size 5 i0 (.int .u8 0) 1 1 Tryz.underlying29 hi hz0 hz1 hz2 rfl (by decide) _ 12 (bs A) rfl Hrow.out x n k (bs l) rfl ?n0 hcells.out ?n2 ?n3 ?n4 ?n5 ?_)
    case n0 => omega
    case n2 => exact bs_one _
    case n3 => unfold maxLen; omega
    case n4 => omega
    case n5 => exact hz
    intro v' w6 hown' hgrow' _
    rw [← bs_append] at hown'
    have HO := Hid.mk (own_of (m := A ++ l) hown' (by rw [List.length_append, hll]; omega) rfl)
    have HB6 := Hid.mk (HB5.out.grown hgrow' hz (fun q e => (Hrow.out.lt q e).1))
    clear hown' hgrow'
    go_wp2
    go_ret
    exact ⟨_, rfl, HO.out, HB6.out⟩
end Go.Proofs.YtkelfidmpnapoaaGreat
end

section
namespace Go.Proofs.YtkelfidmpnapoaaGreat
open Go.RowKit

/-- A disk, whatever it was asked to read, whose map is block m. -/
def DiskRM (w : World) (F : Nat → Prop) (p s : Nat) (S : DS) (m : Nat) : Prop := ∃ r, DiskM w F p s (S.rds r) m

section
variable {w w' : World} {F G : Nat → Prop} {p s m : Nat} {S : DS}
theorem DiskRM.r (h : DiskRM w F p s S m) : DiskR w F p s S := by obtain ⟨r, h⟩ := h; exact ⟨r, h.at⟩
theorem DiskR.some_m (h : DiskR w F p s S) : ∃ m, DiskRM w F p s S m := by
  obtain ⟨r, h⟩ := h
  obtain ⟨m, h⟩ := h.m
  exact ⟨m, r, h⟩
theorem DiskRM.keep (h : DiskRM w F p s S m) (k : Keeps G w w') (hd : ∀ k, F k → ¬ G k) : DiskRM w' F p s S m := by obtain ⟨r, h⟩ := h; exact ⟨r, h.keep k hd⟩
theorem DiskRM.later (h : DiskRM w F p s S m) (hb : Below w.heap.size w w') : DiskRM w' F p s S m := h.keep (Keeps.of_below (fun _ => False) hb) (fun _ _ h => h)
theorem DiskRM.mono (h : DiskRM w F p s S m) (hG : ∀ k, F k → G k) (hl : ∀ k, G k → k < w.heap.size) : DiskRM w G p s S m := by obtain ⟨r, h⟩ := h; exact ⟨r, h.mono hG hl⟩
theorem mread (h : DiskRM w F p s S m) (k : Nat) (hk : k < s) (hbig : S.puts.length + 1 ≤ 4000000000000) (hf : S.fuse ≠ 0) :
    Calls Tryz.prog 38 #[.pointer (some ⟨p, 0, none⟩), .int .i64 (k : Int)] w fun e w' => ∃ g c, e = .returned (.tuple #[.slice (some ⟨g, 0, none⟩) 512 c, .int .i64 0]) ∧ w.heap.size ≤ g ∧ RowAt w' 5 g c (bs (S.now k)) ∧ DiskRM w' F p s S m ∧ Keeps F w w' := by
  obtain ⟨r, h⟩ := h
  refine (read_okm h k hf hk (by show S.puts.length ≤ _; omega)).mono ?_
  rintro e w' ⟨g, c, h1, h2, h3, h4, h5⟩
  exact ⟨g, c, h1, h2, h3, ⟨_, h4⟩, h5⟩
theorem wr_in {S : DS} {s k : Nat} (hf : S.fuse ≠ 0) (hk : k < s) (l : List Int) : S.wr s (k : Int) 512 l = (0, (S.put k l).wrote.spend) := by
  unfold DS.wr
  rw [if_neg hf, if_neg (by omega), if_neg (by omega), Int.toNat_natCast]
theorem mwrite (h : DiskRM w F p s S m) (k : Nat) (hk : k < s) (hbig : S.puts.length + 1 ≤ 4000000000000) (hf : S.fuse ≠ 0) (x : Addr) (c : Nat) (l : List Int) (hs : Src w (some x) 512 l) :
    Calls Tryz.prog 41 #[.pointer (some ⟨p, 0, none⟩), .int .i64 (k : Int), .slice (some x) 512 c] w fun e w' => e = .returned (.int .i64 0) ∧ DiskRM w' (more F w w') p s (S.wr s (k : Int) 512 l).2 m ∧ Keeps F w w' := by
  obtain ⟨r, h⟩ := h
  refine (write_okm h k hk hf (by show S.puts.length + 1 ≤ _; omega) x c l hs).mono ?_
  rintro e w' ⟨h1, h2, h3⟩
  refine ⟨h1, ⟨r, ?_⟩, h3⟩
  rw [wr_in hf hk]
  exact h2
end

/-- What the laying of one piece does. -/
def aput (S : DS) (s f n E P i c : Nat) (part : List Int) : Int × DS :=
  if S.fuse = 0 then (3, S) else S.wr s ((f + 2 + P % n : Nat) : Int) 512 (sseal (S.now (f + 2 + P % n)) (pbody E P i c part)).1
theorem sseal_full {old body : List Int} (h1 : old.length = 512) (h2 : body.length ≤ 504) : (sseal old body).2 = 0 ∧ (sseal old body).1.length = 512 := by
  unfold sseal
  rw [if_neg (by omega), if_neg (by omega)]
  exact ⟨rfl, sform_len h2⟩

theorem Src.avoid {w w' : World} {a : Option Addr} {n : Nat} {l : List Int} {F : Nat → Prop} (h : Src w a n l) (hk : Keeps F w w') (ha : ∀ y, a = some y → 0 < n → ¬ F y.block) : Src w' a n l :=
  ⟨h.1, h.2.1, fun x hx i hi => by
    have h0 := h.2.2 x hx i hi
    have hb : (x.add i).block = x.block := by unfold Addr.add; split <;> rfl
    rw [World.cell?_of_block (w := w) (hk.block _ (World.block_lt_of_cell? _ _ h0) (fun hf => by rw [hb] at hf; exact ha x hx (by omega) hf))]
    exact h0⟩
theorem below_two (w : World) (o1 o2 : Obj) : Below w.heap.size w ((w.alloc o1).alloc o2) := ((Below.refl _ _).alloc (Nat.le_refl _) _).alloc (by simp) _

set_option maxRecDepth 20000 in
set_option maxHeartbeats 8000000 in
theorem put_any {w : World} {F : Nat → Prop} {p s m : Nat} {S : DS} (h : DiskRM w F p s S m) (f n E P i c : Nat) (a : Option Addr) (x k : Nat) (l : List Int) (hs : Src w a x l) (hFs : ∀ y, a = some y → 0 < x → ¬ F y.block) (hb : Bytes l) (hx : x ≤ 492) (hca : a = none → k = 0) (hn : 1 ≤ n) (hfn : f + 2 + n ≤ s) (hbig : S.puts.length + 2 ≤ 4000000000000) :
    Calls Tryz.prog 21 #[areaV p f n, pieceV E P i c a x k] w fun e w' => e = .returned (.int .i64 (aput S s f n E P i c l).1) ∧ DiskRM w' (more F w w') p s (aput S s f n E P i c l).2 m ∧ Keeps F w w' := by
  have hss := h.r.ok.hi
  have hok := h.r.ok
  have HLt := Hid.mk h.r.lt
  have hFa : ¬ F w.heap.size := fun h1 => by have := h.r.lt _ h1; omega
  have hFb : ¬ F (w.heap.size + 1) := fun h1 => by have := h.r.lt _ h1; omega
  have HN := Hid.mk (And.intro hFa hFb)
  have hmod : P % n < n := Nat.mod_lt _ hn
  have hB := below_two w (.cells #[.pointer (some ⟨p, 0, none⟩), .int .i64 f, .int .i64 n] 47) (.cells (pieceC E P i c a x k) 57)
  have hxA : ((w.alloc (.cells #[.pointer (some ⟨p, 0, none⟩), .int .i64 f, .int .i64 n] 47)).alloc (.cells (pieceC E P i c a x k) 57)).heap[w.heap.size]? = some (.cells #[.pointer (some ⟨p, 0, none⟩), .int .i64 f, .int .i64 n] 47 (0, 0)) := (Below.heap_alloc _ _ _ (by simp)).trans (heap_alloc_new _ _)
  have hxP : ((w.alloc (.cells #[.pointer (some ⟨p, 0, none⟩), .int .i64 f, .int .i64 n] 47)).alloc (.cells (pieceC E P i c a x k) 57)).heap[w.heap.size + 1]? = some (.cells (pieceC E P i c a x k) 57 (0, 0)) := by
    have := heap_alloc_new (w.alloc (.cells #[.pointer (some ⟨p, 0, none⟩), .int .i64 f, .int .i64 n] 47)) (.cells (pieceC E P i c a x k) 57)
    rwa [World.size_alloc] at this
  have hd0 := h.later hB
  have hs0 := hs.later hB
  have h1 := fun wx => aat_any p f n P wx (by omega) (by omega) (by omega) (by omega) (by omega)
  have HB := Hid.mk hB
  have HXA := Hid.mk hxA
  have HXP := Hid.mk hxP
  have HD := Hid.mk hd0
  have HS := Hid.mk hs0
  have HFs := Hid.mk hFs
  clear h hB hxA hxP hd0 hs0 hs hFa hFb hFs
  unfold aput
  by_cases q : S.fuse = 0
  · rw [if_pos q]
    go_enter Tryz.func21, Tryz.ntmps21
    go_wp2_with fail
    refine (h1 _).mono ?_
    rintro e w1 ⟨rfl, hb1⟩
    have hxA := (hb1.block _ (by simp; omega)).trans HXA.out
    have c0 := cell_of_block hxA (j := 0) rfl
    have h2 := dread_dead (HD.out.later hb1).r ((f : Int) + 2 + (P : Int) % (n : Int)) q
    have HZ := Hid.mk (And.intro (((HD.out.later hb1).mono (G := more F w w1) (fun _ h => .inl h) (more_lt HLt.out (HB.out.trans (hb1.mono HB.out.size)).size))) (Keeps.of_below F (HB.out.trans (hb1.mono HB.out.size))))
    clear h1 hb1 hxA
    go_wp2_with fail
    refine h2.mono ?_
    rintro e w2 ⟨rfl, rfl⟩
    clear h2
    go_wp2
    go_ret
    exact ⟨rfl, HZ.out⟩
  · rw [if_neg q]
    have hnl := now_len hok (f + 2 + P % n) (by omega)
    have hlx := HS.out.1
    have hso := sseal_full (old := S.now (f + 2 + P % n)) (body := pbody E P i c l) hnl (by rw [pbody_len]; omega)
    obtain ⟨Y, hY⟩ : ∃ Y, Y = sseal (S.now (f + 2 + P % n)) (pbody E P i c l) := ⟨_, rfl⟩
    rw [← hY] at hso ⊢
    have HY := Hid.mk hY
    clear hY
    have e1 : (f : Int) + 2 + (P : Int) % (n : Int) = ((f + 2 + P % n : Nat) : Int) := by omega
    rw [e1] at h1
    have HW1 := Hid.mk (wr_in q (show f + 2 + P % n < s by omega) Y.1)
    clear e1
    go_enter Tryz.func21, Tryz.ntmps21
    go_wp2_with fail
    refine (h1 _).mono ?_
    rintro e w1 ⟨rfl, hb1⟩
    have hxA := (hb1.block _ (by simp; omega)).trans HXA.out
    have hxP := (hb1.block _ (by simp)).trans HXP.out
    have c0 := cell_of_block hxA (j := 0) rfl
    have h2 := mread (HD.out.later hb1) (f + 2 + P % n) (by omega) (by omega) q
    have HB1 := Hid.mk (HB.out.trans (hb1.mono HB.out.size))
    have HS1 := Hid.mk (HS.out.later hb1)
    have HXA1 := Hid.mk hxA
    have HXP1 := Hid.mk hxP
    have HLt1 : Hid (∀ k, F k → k < w1.heap.size) := fun k hk => Nat.lt_of_lt_of_le (HLt.out k hk) HB1.out.size
    clear h1 hb1 hxA hxP
    go_wp2_with fail
    refine h2.mono ?_
    rintro e w2 ⟨g, cg, rfl, hg, hr, hd2, hk2⟩
    have hxA := box_after HXA1.out hk2 HN.out.1
    have hxP := box_after HXP1.out hk2 HN.out.2
    have q0 : w2.cell? ⟨w.heap.size + 1, 0, none⟩ = some (.int .i64 (E : Int)) := cell_of_block hxP (j := 0) rfl
    have q1 : w2.cell? ⟨w.heap.size + 1, 1, none⟩ = some (.int .i64 (P : Int)) := cell_of_block hxP (j := 1) rfl
    have q2 : w2.cell? ⟨w.heap.size + 1, 2, none⟩ = some (.int .i64 (i : Int)) := cell_of_block hxP (j := 2) rfl
    have q3 : w2.cell? ⟨w.heap.size + 1, 3, none⟩ = some (.int .i64 (c : Int)) := cell_of_block hxP (j := 3) rfl
    have q4 : w2.cell? ⟨w.heap.size + 1, 4, none⟩ = some (.slice a x k) := cell_of_block hxP (j := 4) rfl
    have hsrc2 : Src w2 a x l := HS1.out.avoid hk2 HFs.out
    have h3 := body_any E P i c a x k l w2 hsrc2 hx hca
    have hrs := hr.src
    rw [hnl] at hrs
    have HR := Hid.mk hrs
    have HD2 := Hid.mk hd2
    have HK2 := Hid.mk ((Keeps.of_below F HB1.out).trans hk2 (fun _ h => .inl h))
    have HXA2 := Hid.mk hxA
    clear h2 hr hrs hd2 hk2 hxA hxP hsrc2
    go_wp2_with fail
    refine h3.mono ?_
    rintro e w3 ⟨v, rfl, ho3, hb3⟩
    obtain ⟨a3, c3, rfl, hs3, _, _⟩ := ho3.src
    have h4 := seal_any (some ⟨g, 0, none⟩) 512 cg (S.now (f + 2 + P % n)) a3 _ c3 (pbody E P i c l) w3 (HR.out.later hb3) hs3 (pbody_bytes hb)
    rw [← HY.out, hso.1] at h4
    have HD3 := Hid.mk (HD2.out.later hb3)
    have HK3 := Hid.mk (HK2.out.trans (Keeps.of_below (fun _ => False) hb3) (fun _ h => h.elim))
    have HXA3 := Hid.mk ((hb3.block _ (lt_there HXA2.out)).trans HXA2.out)
    clear h3 ho3 hb3 hs3
    go_wp2_with fail
    refine h4.mono ?_
    rintro e w4 ⟨v4, rfl, ⟨a4, c4, rfl, hs4, _, _⟩, hb4⟩
    have hxA := (hb4.block _ (lt_there HXA3.out)).trans HXA3.out
    have c0 := cell_of_block hxA (j := 0) rfl
    rw [hso.2] at hs4 ⊢
    obtain ⟨b5, o5, rfl⟩ := src_spot hs4 (by omega)
    have h5 := mwrite (HD3.out.later hb4) (f + 2 + P % n) (by omega) (by omega) q ⟨b5, o5, none⟩ c4 Y.1 hs4
    have HK4 := Hid.mk (HK3.out.trans (Keeps.of_below (fun _ => False) hb4) (fun _ h => h.elim))
    clear h4 hb4 hs4 hxA
    go_wp2_with fail
    refine h5.mono ?_
    rintro e w5 ⟨rfl, hd5, hk5⟩
    have hz4 := HK4.out.size
    have hz5 := hk5.size
    have HZ := Hid.mk (And.intro ((hd5.mono (G := more F w w5) (fun k hk => by
        rcases hk with hk | hk
        · exact .inl hk
        · exact .inr ⟨by omega, hk.2⟩) (more_lt HLt.out (by omega)))) (HK4.out.trans hk5 (fun _ h => .inl h)))
    clear h5 hd5 hk5
    go_wp2
    go_ret
    rw [HW1.out] at HZ ⊢
    exact ⟨rfl, HZ.out⟩
end Go.Proofs.YtkelfidmpnapoaaGreat
end
