import Derived.Test.YtokcgifpljeoiaaGreatW12
import Derived.Test.YtokcgifpljeoiaaGreatW13
import Derived.Scope
import Derived.WalkMore
section
namespace Go.Proofs.YtokcgifpljeoiaaGreat.B
open Go.RowKit

section
variable {w : World} {F : Nat → Prop} {p s l cR : Nat} {S : DS} {L : LG}

set_option maxRecDepth 20000 in
set_option maxHeartbeats 8000000 in
theorem Trim_any (h : DiskR w F p s S cR) (hl : LogP w l p L) (hk : L.Ok s) (hF : ¬ F l) (hby : S.Byt) (hbig : S.puts.length + 3 ≤ 4000000000000) :
    Calls Tryz.prog 132 #[.pointer (some ⟨l, 0, none⟩)] w fun e w' => e = .returned (.int .i64 (L.trim S s).1) ∧ DiskR w' (more F w w') p s (L.trim S s).2.1 (cR + 2) ∧ LogP w' l p (L.trim S s).2.2 ∧ Keeps (fun k => F k ∨ k = l) w w' := by
  have h1 := Sync_any h hl hF (by omega)
  have HLt := h.lt
  have hlt := hl.lt
  have hs := hk.s
  have hn1 := hk.n1
  have hhb := fun (hb : (L.sync S s).1 = 0) => hk.hb (sync_begun hb)
  have hep := hk.ep
  have hp := sync_puts L S s
  have hby2 := sync_byt hby L s
  unfold LG.trim
  generalize L.sync S s = Z at *
  have H3 := (fun (hz : Z.1 = 0) w2 (hd2 : DiskR w2 F p s Z.2 cR) => drenew hd2 L.f L.n L.ep L.head hep (hhb hz) (by omega) (by omega) (hby2.now _) (hby2.now _))
  by_cases k0 : Z.1 = 0
  · rw [if_neg (fun h => h k0)]
    have d0 : (Z.1 == 0) = true := by rw [beq_iff_eq]; exact k0
    have H4 := (H3 k0)
    by_cases k1 : L.tail = L.head
    · rw [if_pos k1]
      have d1 : ((L.tail : Int) == (L.head : Int)) = true := by rw [beq_iff_eq]; omega
      go_enter Tryz.func132, Tryz.ntmps132
      go_wp2_with fail
      refine h1.mono ?_
      rintro e w1 ⟨rfl, hd1, hl1, hk1⟩
      have c6 := hl1.c6
      have c7 := hl1.c7
      go_wp2_with fail
      go_quiet (fail)
      go_wp2
      go_ret
      exact ⟨rfl, (fun j => And.intro (((hd1.later (below_drewN (Below.refl _ _) j)).more (w := w)).le (by omega : cR ≤ cR + 2)) (And.intro (hl1.later (below_drewN (Below.refl _ _) j)) ((hk1.mono (fun _ h => .inl h)).trans (Keeps.of_below (fun _ => False) (below_drewN (Below.refl w1.heap.size w1) j)) (fun _ h => h.elim) : Keeps (fun k => F k ∨ k = l) w (w1.drewN j)))) _⟩
    · rw [if_neg k1]
      have d1 : ((L.tail : Int) == (L.head : Int)) = false := by rw [beq_eq_false_iff_ne]; omega
      generalize hY : anew Z.2 s L.f ((L.ep : Int) * 4294967296 + (L.head : Int)) = Y at *
      by_cases k : Y.1 = 0
      · rw [if_neg (fun h => h k)]
        have d : (Y.1 == 0) = true := by rw [beq_iff_eq]; exact k
        go_enter Tryz.func132, Tryz.ntmps132
        go_wp2_with fail
        refine h1.mono ?_
        rintro e w1 ⟨rfl, hd1, hl1, hk1⟩
        have c6 := hl1.c6
        have c7 := hl1.c7
        have c0 := hl1.c0
        have c1 := hl1.c1
        have c2 := hl1.c2
        have c5 := hl1.c5
        go_wp2_with fail
        go_quiet (fail)
        go_wp2_with fail
        go_region_held3 (fun w' => w'.cell? ⟨l, 0, none⟩ = some (.pointer (some ⟨p, 0, none⟩)) ∧ w'.cell? ⟨l, 1, none⟩ = some (.int .i64 (L.f : Int)) ∧ w'.cell? ⟨l, 2, none⟩ = some (.int .i64 (L.n : Int)) ∧ w'.cell? ⟨l, 5, none⟩ = some (.int .i64 (L.ep : Int)) ∧ w'.cell? ⟨l, 7, none⟩ = some (.int .i64 (L.head : Int)))
          (first | exact ⟨c0, c1, c2, c5, c7⟩ | exact ⟨hl4.c0, hl4.c1, hl4.c2, hl4.c5, hl4.c7⟩)
          ((go_at_call 89; refine (H4 _ (hd1.later (below_drewN (Below.refl _ _) (nq + 1)))).mono ?_; rintro e w2 ⟨rfl, hd2, hk2⟩; have hk3 := hk1.trans (Keeps.of_below (fun _ => False) (below_drewN (Below.refl w1.heap.size w1) (nq + 1))) (fun _ h => h.elim); have hl3 := hl1.later (below_drewN (Below.refl w1.heap.size w1) (nq + 1)); have hl4 := hl3.keep hk2 hF))
        generalize w1.drewN (nq + 1) = w3 at *
        have hz3 := hk3.size
        have hz2 := hk2.size
        have f6 := hl4.fz 6
        have c6' := hl4.c6
        have c7' := hl4.c7
        have hne : ∀ k, more F w3 w2 k → ¬ k = l := fun k hk e => by
          subst e
          rcases hk with hk | hk
          · exact hF hk
          · omega
        have hsz : (w2.setCell ⟨l, 6, none⟩ (.int .i64 (L.head : Int))).heap.size = w2.heap.size := by simp [World.setCell]
        have HZ := (And.intro (((hd2.keep (keeps_set (F := fun k => k = l) w2 rfl 6 (.int .i64 (L.head : Int))) hne).mono (G := more F w (w2.setCell ⟨l, 6, none⟩ (.int .i64 (L.head : Int)))) (fun k hk => by
            rcases hk with hk | hk
            · exact .inl hk
            · exact .inr ⟨by omega, by rw [hsz]; exact hk.2⟩) (more_lt (F := F) (w := w) HLt (by rw [hsz]; omega)))) (And.intro hl4.trimmed (((hk3.mono (fun _ h => .inl h) : Keeps (fun k => F k ∨ k = l) w w3).trans hk2 (fun _ h => .inl (.inl h))).trans (keeps_set (F := fun k => k = l) w2 rfl 6 (.int .i64 (L.head : Int))) (fun _ h => .inl (.inr h)))))
        go_wp2
        go_ret
        exact ⟨rfl, HZ⟩
      · rw [if_pos k]
        have d : (Y.1 == 0) = false := by rw [beq_eq_false_iff_ne]; exact k
        go_enter Tryz.func132, Tryz.ntmps132
        go_wp2_with fail
        refine h1.mono ?_
        rintro e w1 ⟨rfl, hd1, hl1, hk1⟩
        have c6 := hl1.c6
        have c7 := hl1.c7
        have c0 := hl1.c0
        have c1 := hl1.c1
        have c2 := hl1.c2
        have c5 := hl1.c5
        go_wp2_with fail
        go_quiet (fail)
        go_wp2_with fail
        go_region_held3 (fun w' => w'.cell? ⟨l, 0, none⟩ = some (.pointer (some ⟨p, 0, none⟩)) ∧ w'.cell? ⟨l, 1, none⟩ = some (.int .i64 (L.f : Int)) ∧ w'.cell? ⟨l, 2, none⟩ = some (.int .i64 (L.n : Int)) ∧ w'.cell? ⟨l, 5, none⟩ = some (.int .i64 (L.ep : Int)) ∧ w'.cell? ⟨l, 7, none⟩ = some (.int .i64 (L.head : Int)))
          (first | exact ⟨c0, c1, c2, c5, c7⟩ | exact ⟨hl4.c0, hl4.c1, hl4.c2, hl4.c5, hl4.c7⟩)
          ((go_at_call 89; refine (H4 _ (hd1.later (below_drewN (Below.refl _ _) (nq + 1)))).mono ?_; rintro e w2 ⟨rfl, hd2, hk2⟩; have hk3 := hk1.trans (Keeps.of_below (fun _ => False) (below_drewN (Below.refl w1.heap.size w1) (nq + 1))) (fun _ h => h.elim); have hl3 := hl1.later (below_drewN (Below.refl w1.heap.size w1) (nq + 1)); have hl4 := hl3.keep hk2 hF))
        generalize w1.drewN (nq + 1) = w3 at *
        go_wp2
        go_ret
        exact ⟨rfl, (And.intro (hd2.from HLt hk3.size hk2.size) (And.intro hl4 ((hk3.mono (fun _ h => .inl h) : Keeps (fun k => F k ∨ k = l) w w3).trans hk2 (fun _ h => .inl (.inl h)))))⟩
  · rw [if_pos k0]
    have d0 : (Z.1 == 0) = false := by rw [beq_eq_false_iff_ne]; exact k0
    go_enter Tryz.func132, Tryz.ntmps132
    go_wp2_with fail
    refine h1.mono ?_
    rintro e w1 ⟨rfl, hd1, hl1, hk1⟩
    go_wp2
    go_ret
    exact ⟨rfl, (And.intro ((hd1.more (w := w)).le (by omega : cR ≤ cR + 2)) (And.intro hl1 (hk1.mono (fun _ h => .inl h) : Keeps (fun k => F k ∨ k = l) w w1)))⟩
end
end Go.Proofs.YtokcgifpljeoiaaGreat.B
end

section
namespace Go.Proofs.YtokcgifpljeoiaaGreat
open Go.RowKit Go.Maps

theorem sbring_byt {S : DS} (hS : S.Byt) (s h : Nat) : ∀ {ms : CM}, (∀ q ∈ ms, Bytes q.2) → (sbring S s h ms).2.Byt := fun {ms} hm => by
  induction ms generalizing S with
  | nil => exact hS
  | cons q qs ih =>
    rw [sbring_cons]
    have h1 : (S.wr s ((h + q.1 : Nat) : Int) 512 q.2).2.Byt := hS.wr s _ _ (hm q List.mem_cons_self)
    split
    · exact h1
    · exact ih h1 (fun x hx => hm x (List.mem_cons_of_mem _ hx))
theorem trim_lk {L : LG} {s : Nat} (h : L.Ok s) (S : DS) : (L.trim S s).2.2.Ok s ∧ (L.trim S s).2.2.begun = L.begun := by
  unfold LG.trim
  split
  · exact ⟨h, rfl⟩
  · split
    · exact ⟨h, rfl⟩
    · split
      · exact ⟨h, rfl⟩
      · exact ⟨⟨h.s, h.n1, h.n2, h.ep, h.top, Nat.le_refl _, Nat.le_add_right _ _, h.hi, h.hb⟩, rfl⟩

section
variable {w w' : World} {F : Nat → Prop} {p s cR q l m t n : Nat} {S : DS} {G : SG} {T : TG}
theorem StW.moved {c' : Nat} {S' : DS} {L' : LG} {ov' : CM} (h : StW w F p s cR q l m S G) (hd : B.DiskR w' (more F w w') p s S' c') (hst : StP w' q p l m G.y G.busy) (hl : LogP w' l p L') (hch : Ch w' m ov') (hlk : L'.Ok s) (hbg : L'.begun = true) (hkb : ∀ x ∈ ov', x.1 < G.y.blocks) : StW w' (more F w w') p s c' q l m S' { G with L := L', ov := ov' } := by
  have h1 := h.st.lt
  have h2 := h.lp.lt
  have h3 := h.ch.lt
  exact ⟨hd, hst, hl, hch, fun e => e.elim h.nq (fun e => by omega), fun e => e.elim h.nl (fun e => by omega), fun e => e.elim h.nm (fun e => by omega), h.ql, h.qm, h.lm, hlk, hbg, h.hs, hkb⟩

set_option maxRecDepth 20000 in
set_option maxHeartbeats 8000000 in
theorem check_any (h : StW w F p s cR q l m S G) (hby : S.Byt) (hbig : S.puts.length + 4000 ≤ 4000000000000) :
    Calls Tryz.prog 97 #[.pointer (some ⟨q, 0, none⟩)] w fun e w' => e = .returned (.int .i64 (G.check S s).1) ∧ StW w' (more F w w') p s (cR + 2) q l m (G.check S s).2.1 (G.check S s).2.2 ∧ Keeps (fun k => F k ∨ k = l ∨ k = m) w w' := by
  have h1 := B.Sync_any h.d h.lp h.nl (by omega)
  have hZp := sync_puts G.L S s
  have hZb := sync_byt hby G.L s
  have hsm := h.ch.small
  have hYp := sbring_puts (G.L.sync S s).2 s G.y.home G.ov
  have hYb := sbring_byt hZb s G.y.home (fun x hx => (h.ch.len x hx).2.2)
  have hXk := trim_lk h.lk (sbring (G.L.sync S s).2 s G.y.home G.ov).2
  have hhs := h.hs
  have h2 := fun (w1 : World) (hd1 : B.DiskR w1 F p s (G.L.sync S s).2 cR) (hs1 : StP w1 q p l m G.y G.busy) (hm1 : Ch w1 m G.ov) => bringHome_any hd1 hs1 hm1 h.nq h.nm (fun x hx => by have := h.kb x hx; omega) (by omega)
  have h3 := fun (w1 : World) (F1 : Nat → Prop) (hd1 : B.DiskR w1 F1 p s (sbring (G.L.sync S s).2 s G.y.home G.ov).2 cR) (hl1 : LogP w1 l p G.L) (hn1 : ¬ F1 l) => B.Trim_any hd1 hl1 h.lk hn1 hYb (by omega)
  have c1 := h.st.c1
  have H := h
  obtain ⟨R, hR⟩ : ∃ R, R = G.check S s := ⟨_, rfl⟩
  rw [← hR]
  unfold SG.check at hR
  generalize G.L.sync S s = Z at *
  generalize sbring Z.2 s G.y.home G.ov = Y at *
  generalize G.L.trim Y.2 s = X at *
  have HLt := h.d.lt
  have hql := h.ql
  have hqm := h.qm
  have hlm := h.lm
  have hqw := h.st.lt
  have hlw := h.lp.lt
  have hmw := h.ch.lt
  go_enter Tryz.func97, Tryz.ntmps97
  go_wp2_with fail
  refine h1.mono ?_
  rintro e w1 ⟨rfl, hd1, hl1, hk1⟩
  by_cases k1 : Z.1 = 0
  · have d1 : (Z.1 != 0) = false := by rw [k1]; rfl
    rw [if_neg (fun h => h k1)] at hR
    have hz1 := hk1.size
    have hs1 := H.st.keep hk1 H.nq
    have hm1 := H.ch.keep hk1 H.nm
    have hb := h2 w1 hd1 hs1 hm1
    have HS1 := (And.intro hs1 (And.intro hm1 (And.intro hl1 hk1)))
    go_wp2_with fail
    refine hb.mono ?_
    rintro e w2 ⟨rfl, hd2, hk2⟩
    have hz2 := hk2.size
    have hs2 := HS1.1.keep hk2 H.nq
    have hm2 := HS1.2.1.keep hk2 H.nm
    have hl2 := HS1.2.2.1.keep hk2 H.nl
    have hkw := HS1.2.2.2.trans hk2 (fun _ h => .inl h)
    by_cases k2 : Y.1 = 0
    · have d2 : (Y.1 != 0) = false := by rw [k2]; rfl
      rw [if_neg (fun h => h k2)] at hR
      have hnl : ¬ more F w1 w2 l := fun e => e.elim H.nl (fun e => by omega)
      have hnq : ¬ more F w1 w2 q := fun e => e.elim H.nq (fun e => by omega)
      have hnm : ¬ more F w1 w2 m := fun e => e.elim H.nm (fun e => by omega)
      have ht := h3 w2 (more F w1 w2) hd2 hl2 hnl
      have c12 := hs2.c1
      have HS2 := (And.intro hs2 (And.intro hm2 hkw))
      go_wp2_with fail
      refine ht.mono ?_
      rintro e w3 ⟨rfl, hd3, hl3, hk3⟩
      have hz3 := hk3.size
      have hs3 := HS2.1.keep hk3 (fun e => e.elim hnq hql)
      have hm3 := HS2.2.1.keep hk3 (fun e => e.elim hnm (fun e => hlm e.symm))
      have hd3' := hd3.mono (fun k hk => by
        rcases hk with (hk | hk) | hk
        · exact .inl hk
        · exact .inr ⟨by omega, by omega⟩
        · exact .inr ⟨by omega, hk.2⟩) (more_lt (F := F) (w := w) HLt (by omega))
      have hkw3 : Keeps (fun k => F k ∨ k = l ∨ k = m) w w3 := (HS2.2.2.mono (fun _ h => .inl h)).trans hk3 (fun k hk => by
        rcases hk with (hk | hk) | hk
        · exact .inl (.inl hk)
        · exact .inr (by omega)
        · exact .inl (.inr (.inl hk)))
      by_cases k3 : X.1 = 0
      · have d3 : (X.1 != 0) = false := by rw [k3]; rfl
        rw [if_neg (fun h => h k3)] at hR
        obtain ⟨wC, hcl, hch, hkc, hsz⟩ := hm3.cleared
        have c7 := hs3.c7
        have HN : (StW wC (more F w wC) p s (cR + 2) q l m X.2.1 { G with L := X.2.2, ov := [] } ∧ Keeps (fun k => F k ∨ k = l ∨ k = m) w wC) := by
          refine ⟨H.moved ((hd3'.keep hkc (fun k hk e => by
            subst e
            exact hk.elim H.nm (fun h => by omega))).mono (fun k hk => hk.elim .inl (fun h => .inr ⟨h.1, by omega⟩)) (more_lt (F := F) (w := w) HLt (by omega))) (hs3.keep hkc hqm) (hl3.keep hkc hlm) hch hXk.1 (hXk.2.trans H.bg) (fun x hx => by cases hx), hkw3.trans hkc (fun _ e => .inl (.inr (.inr e)))⟩
        go_wp2
        go_ret
        rw [hR]
        exact ⟨rfl, HN⟩
      · have d3 : (X.1 != 0) = true := by rw [bne_iff_ne]; exact k3
        rw [if_pos k3] at hR
        have HN : (StW w3 (more F w w3) p s (cR + 2) q l m X.2.1 { G with L := X.2.2 } ∧ Keeps (fun k => F k ∨ k = l ∨ k = m) w w3) := ⟨H.moved hd3' hs3 hl3 hm3 hXk.1 (hXk.2.trans H.bg) H.kb, hkw3⟩
        go_wp2
        go_ret
        rw [hR]
        exact ⟨rfl, HN⟩
    · have d2 : (Y.1 != 0) = true := by rw [bne_iff_ne]; exact k2
      rw [if_pos k2] at hR
      have HN : (StW w2 (more F w w2) p s (cR + 2) q l m Y.2 G ∧ Keeps (fun k => F k ∨ k = l ∨ k = m) w w2) := ⟨H.moved ((hd2.from HLt hz1 hz2).le (by omega)) hs2 hl2 hm2 H.lk H.bg H.kb, hkw.mono (fun _ h => .inl h)⟩
      go_wp2
      go_ret
      rw [hR]
      exact ⟨rfl, HN⟩
  · have d1 : (Z.1 != 0) = true := by rw [bne_iff_ne]; exact k1
    rw [if_pos k1] at hR
    have HN : (StW w1 (more F w w1) p s (cR + 2) q l m Z.2 G ∧ Keeps (fun k => F k ∨ k = l ∨ k = m) w w1) := ⟨H.moved (hd1.more.le (by omega)) (H.st.keep hk1 H.nq) hl1 (H.ch.keep hk1 H.nm) H.lk H.bg H.kb, hk1.mono (fun _ h => .inl h)⟩
    go_wp2
    go_ret
    rw [hR]
    exact ⟨rfl, HN⟩
end
end Go.Proofs.YtokcgifpljeoiaaGreat
end

section
namespace Go.Proofs.YtokcgifpljeoiaaGreat.B
open Go.RowKit

/-- The same, its map block m. -/
def DiskRM (w : World) (F : Nat → Prop) (p s : Nat) (S : DS) (m c : Nat) : Prop := ∃ r, DiskM w F p s (S.rds r) m ∧ Rb r c

section
variable {w w' : World} {F G : Nat → Prop} {p s m c : Nat} {S : DS}
theorem DiskRM.old (h : DiskRM w F p s S m c) : Go.Proofs.YtokcgifpljeoiaaGreat.DiskRM w F p s S m := by obtain ⟨r, h, _⟩ := h; exact ⟨r, h⟩
theorem DiskRM.le {d : Nat} (h : DiskRM w F p s S m c) (hd : c ≤ d) : DiskRM w F p s S m d := by obtain ⟨r, h, hr⟩ := h; exact ⟨r, h, hr.le hd⟩
theorem DiskRM.r (h : DiskRM w F p s S m c) : DiskR w F p s S c := by obtain ⟨r, h, hr⟩ := h; exact ⟨r, h.at, hr⟩
theorem DiskR.some_m (h : DiskR w F p s S c) : ∃ m, DiskRM w F p s S m c := by
  obtain ⟨r, h, hr⟩ := h
  obtain ⟨m, h⟩ := h.m
  exact ⟨m, r, h, hr⟩
theorem DiskRM.keep (h : DiskRM w F p s S m c) (k : Keeps G w w') (hd : ∀ k, F k → ¬ G k) : DiskRM w' F p s S m c := by obtain ⟨r, h, hr⟩ := h; exact ⟨r, h.keep k hd, hr⟩
theorem DiskRM.later (h : DiskRM w F p s S m c) (hb : Below w.heap.size w w') : DiskRM w' F p s S m c := h.keep (Keeps.of_below (fun _ => False) hb) (fun _ _ h => h)
theorem DiskRM.mono (h : DiskRM w F p s S m c) (hG : ∀ k, F k → G k) (hl : ∀ k, G k → k < w.heap.size) : DiskRM w G p s S m c := by obtain ⟨r, h, hr⟩ := h; exact ⟨r, h.mono hG hl, hr⟩
theorem mread (h : DiskRM w F p s S m c) (k : Nat) (hk : k < s) (hbig : S.puts.length + 1 ≤ 4000000000000) (hf : S.fuse ≠ 0) :
    Calls Tryz.prog 80 #[.pointer (some ⟨p, 0, none⟩), .int .i64 (k : Int)] w fun e w' => ∃ g k', e = .returned (.tuple #[.slice (some ⟨g, 0, none⟩) 512 k', .int .i64 0]) ∧ w.heap.size ≤ g ∧ RowAt w' 5 g k' (bs (S.now k)) ∧ DiskRM w' F p s S m (c + 1) ∧ Keeps F w w' := by
  obtain ⟨r, h, hr⟩ := h
  refine (read_okm h k hf hk (by show S.puts.length ≤ _; omega)).mono ?_
  rintro e w' ⟨g, k', h1, h2, h3, h4, h5⟩
  exact ⟨g, k', h1, h2, h3, ⟨_, h4, hr.read⟩, h5⟩
theorem mwrite (h : DiskRM w F p s S m c) (k : Nat) (hk : k < s) (hbig : S.puts.length + 1 ≤ 4000000000000) (hf : S.fuse ≠ 0) (x : Addr) (k' : Nat) (l : List Int) (hs : Src w (some x) 512 l) :
    Calls Tryz.prog 78 #[.pointer (some ⟨p, 0, none⟩), .int .i64 (k : Int), .slice (some x) 512 k'] w fun e w' => e = .returned (.int .i64 0) ∧ DiskRM w' (more F w w') p s (S.wr s (k : Int) 512 l).2 m c ∧ Keeps F w w' := by
  obtain ⟨r, h, hr⟩ := h
  refine (write_okm h k hk hf (by show S.puts.length + 1 ≤ _; omega) x k' l hs).mono ?_
  rintro e w' ⟨h1, h2, h3⟩
  refine ⟨h1, ⟨r, ?_, hr⟩, h3⟩
  rw [wr_in hf hk]
  exact h2
end

set_option maxRecDepth 20000 in
set_option maxHeartbeats 8000000 in
theorem put_any {w : World} {F : Nat → Prop} {p s m cR : Nat} {S : DS} (h : DiskRM w F p s S m cR) (f n E P i c : Nat) (a : Option Addr) (x k : Nat) (l : List Int) (hs : Src w a x l) (hFs : ∀ y, a = some y → 0 < x → ¬ F y.block) (hb : Bytes l) (hx : x ≤ 492) (hca : a = none → k = 0) (hn : 1 ≤ n) (hfn : f + 2 + n ≤ s) (hbig : S.puts.length + 2 ≤ 4000000000000) :
    Calls Tryz.prog 135 #[areaV p f n, pieceV E P i c a x k] w fun e w' => e = .returned (.int .i64 (aput S s f n E P i c l).1) ∧ DiskRM w' (more F w w') p s (aput S s f n E P i c l).2 m (cR + 1) ∧ Keeps F w w' := by
  have hss := h.r.ok.hi
  have hok := h.r.ok
  have HLt := h.r.lt
  have hFa : ¬ F w.heap.size := fun h1 => by have := h.r.lt _ h1; omega
  have hFb : ¬ F (w.heap.size + 1) := fun h1 => by have := h.r.lt _ h1; omega
  have HN := (And.intro hFa hFb)
  have hmod : P % n < n := Nat.mod_lt _ hn
  have hB := below_two w (.cells #[.pointer (some ⟨p, 0, none⟩), .int .i64 f, .int .i64 n] 134) (.cells (pieceC E P i c a x k) 187)
  have hxA : ((w.alloc (.cells #[.pointer (some ⟨p, 0, none⟩), .int .i64 f, .int .i64 n] 134)).alloc (.cells (pieceC E P i c a x k) 187)).heap[w.heap.size]? = some (.cells #[.pointer (some ⟨p, 0, none⟩), .int .i64 f, .int .i64 n] 134 (0, 0)) := (Below.heap_alloc _ _ _ (by simp)).trans (heap_alloc_new _ _)
  have hxP : ((w.alloc (.cells #[.pointer (some ⟨p, 0, none⟩), .int .i64 f, .int .i64 n] 134)).alloc (.cells (pieceC E P i c a x k) 187)).heap[w.heap.size + 1]? = some (.cells (pieceC E P i c a x k) 187 (0, 0)) := by
    have := heap_alloc_new (w.alloc (.cells #[.pointer (some ⟨p, 0, none⟩), .int .i64 f, .int .i64 n] 134)) (.cells (pieceC E P i c a x k) 187)
    rwa [World.size_alloc] at this
  have h1 := fun wx => aat_any p f n P wx (by omega) (by omega) (by omega) (by omega) (by omega)
  have HB := hB
  have HXA := hxA
  have HXP := hxP
  have HD := h.later hB
  have HS := hs.later hB
  have HFs := hFs
  clear h hB hxA hxP hs hFa hFb hFs
  unfold aput
  go_enter Tryz.func135, Tryz.ntmps135
  by_cases q : S.fuse = 0
  · rw [if_pos q]
    go_wp2_with fail
    refine (h1 _).mono ?_
    rintro e w1 ⟨rfl, hb1⟩
    have hxA := (hb1.block _ (by simp; omega)).trans HXA
    have c0 := cell_of_block hxA (j := 0) rfl
    have h2 := dread_dead (HD.later hb1).r ((f : Int) + 2 + (P : Int) % (n : Int)) q
    have HZ := (And.intro ((((HD.later hb1).mono (G := more F w w1) (fun _ h => .inl h) (more_lt HLt (HB.trans (hb1.mono HB.size)).size))).le (by omega : cR ≤ cR + 1)) (Keeps.of_below F (HB.trans (hb1.mono HB.size))))
    clear h1 hb1 hxA
    go_wp2_with fail
    refine h2.mono ?_
    rintro e w2 ⟨rfl, rfl⟩
    clear h2
    go_wp2
    go_ret
    exact ⟨rfl, HZ⟩
  · rw [if_neg q]
    have hnl := now_len hok (f + 2 + P % n) (by omega)
    have hlx := HS.1
    have hso := sseal_full (old := S.now (f + 2 + P % n)) (body := pbody E P i c l) hnl (by rw [pbody_len]; omega)
    obtain ⟨Y, hY⟩ : ∃ Y, Y = sseal (S.now (f + 2 + P % n)) (pbody E P i c l) := ⟨_, rfl⟩
    rw [← hY] at hso ⊢
    have HY := hY
    clear hY
    have e1 : (f : Int) + 2 + (P : Int) % (n : Int) = ((f + 2 + P % n : Nat) : Int) := by omega
    rw [e1] at h1
    clear e1
    go_wp2_with fail
    refine (h1 _).mono ?_
    rintro e w1 ⟨rfl, hb1⟩
    have hxA := (hb1.block _ (by simp; omega)).trans HXA
    have hxP := (hb1.block _ (by simp)).trans HXP
    have c0 := cell_of_block hxA (j := 0) rfl
    have h2 := mread (HD.later hb1) (f + 2 + P % n) (by omega) (by omega) q
    have HB1 := (HB.trans (hb1.mono HB.size))
    have HS1 := (HS.later hb1)
    have HXA1 := hxA
    have HXP1 := hxP
    clear h1 hb1 hxA hxP
    go_wp2_with fail
    refine h2.mono ?_
    rintro e w2 ⟨g, cg, rfl, hg, hr, hd2, hk2⟩
    have hxA := box_after HXA1 hk2 HN.1
    have hxP := box_after HXP1 hk2 HN.2
    have q0 : w2.cell? ⟨w.heap.size + 1, 0, none⟩ = some (.int .i64 (E : Int)) := cell_of_block hxP (j := 0) rfl
    have q1 : w2.cell? ⟨w.heap.size + 1, 1, none⟩ = some (.int .i64 (P : Int)) := cell_of_block hxP (j := 1) rfl
    have q2 : w2.cell? ⟨w.heap.size + 1, 2, none⟩ = some (.int .i64 (i : Int)) := cell_of_block hxP (j := 2) rfl
    have q3 : w2.cell? ⟨w.heap.size + 1, 3, none⟩ = some (.int .i64 (c : Int)) := cell_of_block hxP (j := 3) rfl
    have q4 : w2.cell? ⟨w.heap.size + 1, 4, none⟩ = some (.slice a x k) := cell_of_block hxP (j := 4) rfl
    have h3 := body_any E P i c a x k l w2 (HS1.avoid hk2 HFs) hx hca
    have hrs := hr.src
    rw [hnl] at hrs
    have HR := hrs
    have HD2 := hd2
    have HK2 := ((Keeps.of_below F HB1).trans hk2 (fun _ h => .inl h))
    have HXA2 := hxA
    clear h2 hr hrs hd2 hk2 hxA hxP
    go_wp2_with fail
    refine h3.mono ?_
    rintro e w3 ⟨v, rfl, ho3, hb3⟩
    obtain ⟨a3, c3, rfl, hs3, _, _⟩ := ho3.src
    have h4 := seal_any (some ⟨g, 0, none⟩) 512 cg (S.now (f + 2 + P % n)) a3 _ c3 (pbody E P i c l) w3 (HR.later hb3) hs3 (pbody_bytes hb)
    rw [← HY, hso.1] at h4
    have HD3 := (HD2.later hb3)
    have HK3 := (HK2.trans (Keeps.of_below (fun _ => False) hb3) (fun _ h => h.elim))
    have HXA3 := ((hb3.block _ (lt_there HXA2)).trans HXA2)
    clear h3 ho3 hb3 hs3
    go_wp2_with fail
    refine h4.mono ?_
    rintro e w4 ⟨v4, rfl, ⟨a4, c4, rfl, hs4, _, _⟩, hb4⟩
    have c0 := cell_of_block ((hb4.block _ (lt_there HXA3)).trans HXA3) (j := 0) rfl
    rw [hso.2] at hs4 ⊢
    obtain ⟨b5, o5, rfl⟩ := src_spot hs4 (by omega)
    have h5 := mwrite (HD3.later hb4) (f + 2 + P % n) (by omega) (by omega) q ⟨b5, o5, none⟩ c4 Y.1 hs4
    have HK4 := (HK3.trans (Keeps.of_below (fun _ => False) hb4) (fun _ h => h.elim))
    clear h4 hb4 hs4
    go_wp2_with fail
    refine h5.mono ?_
    rintro e w5 ⟨rfl, hd5, hk5⟩
    have hz4 := HK4.size
    have hz5 := hk5.size
    have HZ := (And.intro ((hd5.mono (G := more F w w5) (fun k hk => by
        rcases hk with hk | hk
        · exact .inl hk
        · exact .inr ⟨by omega, hk.2⟩) (more_lt HLt (by omega)))) (HK4.trans hk5 (fun _ h => .inl h)))
    clear h5 hd5 hk5
    go_wp2
    go_ret
    rw [(wr_in q (show f + 2 + P % n < s by omega) Y.1)] at HZ ⊢
    exact ⟨rfl, HZ⟩
end Go.Proofs.YtokcgifpljeoiaaGreat.B
end

section
namespace Go.Proofs.YtokcgifpljeoiaaGreat.B
open Go.RowKit

theorem DiskRM.narrow {w : World} {F G : Nat → Prop} {p s : Nat} {S : DS} {m cR : Nat} (h : DiskRM w F p s S m cR) (hG : ∀ k, F k → (IsC w k ∨ k = m) → G k) (hl : ∀ k, G k → k < w.heap.size) : DiskRM w G p s S m cR := by
  obtain ⟨r, h, hr⟩ := h
  exact ⟨r, h.narrow hG hl, hr⟩
theorem DiskRM.fm {w : World} {F : Nat → Prop} {p s : Nat} {S : DS} {m cR : Nat} (h : DiskRM w F p s S m cR) : F m := h.old.fm
theorem DiskRM.fc {w0 w w' : World} {F : Nat → Prop} {B p s : Nat} {S : DS} {m cR : Nat} (h : DiskRM w' (more (FC F B m w) w w') p s S m cR) (hB : B ≤ w.heap.size) (_h0 : w0 = w0) : DiskRM w' (FC F B m w') p s S m cR :=
  h.narrow (fun k hk hc => ⟨by
    rcases hk with hk | hk
    · exact hk.1
    · exact .inr (by omega), hc, h.r.lt k hk⟩) (fun _ hk => hk.2.2)
/-- What holds between the rounds of Append. -/
structure AppI (w W : World) (F : Nat → Prop) (l p s m M n0 : Nat) (L : LG) (S : DS) (d : List Int) (xs : List Nat) (cR : Nat) : Prop where
  ok : (appL L S s d xs).1 = 0
  dk : DiskRM W (FC F n0 m W) p s (appL L S s d xs).2 m (cR + xs.length)
  mrk : W.heap[M]? = some (.cells #[.int .i64 (L.ep : Int), .int .i64 ((L.head + xs.length : Nat) : Int), .int .i64 ((xs.length : Nat) : Int), .int .i64 ((cntOf d.length : Nat) : Int)] 181 (0, 0))
  bx : AppBox W w.heap.size l
  kp : Keeps F w W
  sz : n0 ≤ W.heap.size
/-- What holds behind a round that is refused. -/
structure AppX (w W : World) (F : Nat → Prop) (p s m n0 : Nat) (L : LG) (S : DS) (d : List Int) (xs : List Nat) (cR : Nat) : Prop where
  no : (appL L S s d xs).1 ≠ 0
  dk : DiskRM W (FC F n0 m W) p s (appL L S s d xs).2 m (cR + xs.length)
  er : W.heap[w.heap.size + 1]? = some (.cells #[.int .i64 (appL L S s d xs).1] 25 (0, 0))
  kp : Keeps F w W
  sz : n0 ≤ W.heap.size
theorem DiskRM.carry {W W' : World} {F : Nat → Prop} {p s m n0 cR : Nat} {S : DS} (h : DiskRM W (FC F n0 m W) p s S m cR) (hc : CellsIn W W') (hm : W'.heap[m]? = W.heap[m]?) (hz : W.heap.size ≤ W'.heap.size) : DiskRM W' (FC F n0 m W') p s S m cR := by
  obtain ⟨r, h, hr⟩ := h
  refine ⟨r, (h.agree hz (fun k hk => ?_)).mono (fun k hk => ⟨hk.1, ?_, by have := hk.2.2; omega⟩) (fun _ hk => hk.2.2), hr⟩
  · rcases hk.2.1 with ⟨cur, t, fz, hb⟩ | rfl
    · rw [hc _ _ _ _ hb, hb]
    · exact hm
  · rcases hk.2.1 with ⟨cur, t, fz, hb⟩ | h
    · exact .inl ⟨cur, t, fz, hc _ _ _ _ hb⟩
    · exact .inr h
section
variable {w W W' : World} {F : Nat → Prop} {l p s m M n0 cR : Nat} {L : LG} {S : DS} {d : List Int} {xs : List Nat}
theorem AppI.step (h : AppI w W F l p s m M n0 L S d xs cR) (hc : CellsIn W W') (hm : W'.heap[m]? = W.heap[m]?) (hz : W.heap.size ≤ W'.heap.size) (hk : Keeps F w W') : AppI w W' F l p s m M n0 L S d xs cR :=
  ⟨h.ok, h.dk.carry hc hm hz, hc _ _ _ _ h.mrk, ⟨hc _ _ _ _ h.bx.1, hc _ _ _ _ h.bx.2⟩, hk, Nat.le_trans h.sz hz⟩
theorem AppX.step (h : AppX w W F p s m n0 L S d xs cR) (hc : CellsIn W W') (hm : W'.heap[m]? = W.heap[m]?) (hz : W.heap.size ≤ W'.heap.size) (hk : Keeps F w W') : AppX w W' F p s m n0 L S d xs cR :=
  ⟨h.no, h.dk.carry hc hm hz, hc _ _ _ _ h.er, hk, Nat.le_trans h.sz hz⟩
theorem fc_lt_m (h : DiskRM W (FC F n0 m W) p s S m cR) : m < W.heap.size := h.fm.2.2
theorem AppI.grown {row : Option Nat} (h : AppI w W F l p s m M n0 L S d xs cR) (hm : m < n0) (hw : w.heap.size ≤ n0) (hg : W.grownBy W' row) (hr : ∀ r, row = some r → n0 ≤ r ∧ ∃ o : Obj, W.heap[r]? = some o ∧ o.isCells = false) : AppI w W' F l p s m M n0 L S d xs cR :=
  h.step (cellsIn_grown hg (fun r e => (hr r e).2)) (hg.block m (fc_lt_m h.dk) (fun e => by have := (hr m e.symm).1; omega)) hg.size (h.kp.grown hg (fun r e => by have := (hr r e).1; omega))
theorem AppX.grown {row : Option Nat} (h : AppX w W F p s m n0 L S d xs cR) (hm : m < n0) (hw : w.heap.size ≤ n0) (hg : W.grownBy W' row) (hr : ∀ r, row = some r → n0 ≤ r ∧ ∃ o : Obj, W.heap[r]? = some o ∧ o.isCells = false) : AppX w W' F p s m n0 L S d xs cR :=
  h.step (cellsIn_grown hg (fun r e => (hr r e).2)) (hg.block m (fc_lt_m h.dk) (fun e => by have := (hr m e.symm).1; omega)) hg.size (h.kp.grown hg (fun r e => by have := (hr r e).1; omega))
end
theorem DiskRM.fckeep {W W' : World} {F : Nat → Prop} {p s m n0 b cR : Nat} {S : DS} (h : DiskRM W (FC F n0 m W) p s S m cR) (hk : Keeps (fun k => k = b) W W') (hb : ¬ FC F n0 m W b) : DiskRM W' (FC F n0 m W') p s S m cR :=
  (h.keep hk (fun k hk e => hb (e ▸ hk))).mono (fun k hk' => ⟨hk'.1, by
    rcases hk'.2.1 with ⟨cur, t, fz, hc⟩ | h
    · exact .inl ⟨cur, t, fz, (hk.block k hk'.2.2 (fun e => hb (e ▸ hk'))).trans hc⟩
    · exact .inr h, by have := hk'.2.2; have := hk.size; omega⟩) (fun _ hk => hk.2.2)
theorem app_fin {w W : World} {F : Nat → Prop} {p s m n0 M l D cR : Nat} {S : DS} {L : LG} {e : Int} (hF : ∀ j, F j → j < w.heap.size) (hd : DiskRM W (FC F n0 m W) p s S m cR) (hl : LogP W l p L) (hk : Keeps (fun k => F k ∨ k = l) w W) (he : W.heap[w.heap.size + 1]? = some (.cells #[.int .i64 e] 25 (0, 0))) (hD : W.heap[D]? = some (.deferred (some [])))
    (hDn : n0 ≤ D) (hlw : l < w.heap.size) (hM : w.heap.size + 2 ≤ M) (hM2 : M < n0) (hmw : m < w.heap.size) :
    (W.putObj D (.deferred none)).cell? ⟨w.heap.size + 1, 0, none⟩ = some (.int .i64 e) ∧ DiskR (W.putObj D (.deferred none)) (more F w (W.putObj D (.deferred none))) p s S cR ∧ LogP (W.putObj D (.deferred none)) l p L ∧ Keeps (fun k => F k ∨ k = l) w (W.putObj D (.deferred none)) := by
  have hsz : (W.putObj D (.deferred none)).heap.size = W.heap.size := by simp [World.putObj]
  have hkD : Keeps (fun k => k = D) W (W.putObj D (.deferred none)) := ⟨rfl, rfl, rfl, by omega, fun k _ hn => World.putObj_heap_other hn⟩
  have hkz := hk.size
  refine ⟨cell_of_block ((hkD.block _ (lt_there he) (by omega)).trans he) (j := 0) rfl, ?_, hl.keep hkD (by omega), hk.trans hkD (fun _ h => .inr (by omega))⟩
  refine (hd.r.keep hkD (fun k hk e => ?_)).mono (fun k hk => ?_) (fun k hk => ?_)
  · rcases hk.2.1 with ⟨cur, t, fz, hc⟩ | h
    · rw [e, hD] at hc; cases hc
    · omega
  · rcases hk.1 with h | h
    · exact .inl h
    · exact .inr ⟨by omega, by have := hk.2.2; omega⟩
  · rcases hk with h | h
    · have := hF k h; omega
    · exact h.2
end Go.Proofs.YtokcgifpljeoiaaGreat.B
end

section
namespace Go.Proofs.YtokcgifpljeoiaaGreat.B
open Go.RowKit Go.Shelf

attribute [local go_sem] Oper.semAt_some

section
variable {w : World} {F : Nat → Prop} {p s l cR : Nat} {S : DS} {L : LG}

set_option maxRecDepth 100000 in
set_option maxHeartbeats 8000000 in
theorem Append_go (h : DiskR w F p s S cR) (hl : LogP w l p L) (hk : L.Ok s) (hF : ¬ F l) (b o x k : Nat) (d : List Int) (hs : Src w (some ⟨b, o, none⟩) x d) (hFb : ¬ F b) (hd : Bytes d) (hxk : x ≤ k) (hr : L.refuses S x = 0) (hbig : S.puts.length + 100 ≤ 4000000000000) :
    Calls Tryz.prog 98 #[.pointer (some ⟨l, 0, none⟩), .slice (some ⟨b, o, none⟩) x k] w fun e w' => e = .returned (.int .i64 (L.append S s d).1) ∧ DiskR w' (more F w w') p s (L.append S s d).2.1 (cR + 17) ∧ LogP w' l p (L.append S s d).2.2 ∧ Keeps (fun k => F k ∨ k = l) w w' := by
  obtain ⟨k0, k1, k2, k3, k4⟩ := refuses_zero hr
  obtain ⟨W0, hW0⟩ : ∃ W0, (w.alloc (.cells #[.pointer (some ⟨l, 0, none⟩)] 98)).alloc (.cells #[.int .i64 0] 25) = W0 := ⟨_, rfl⟩
  have hb0 : Below w.heap.size w W0 := by rw [← hW0]; exact below_two _ _ _
  have hq0 : AppBox W0 w.heap.size l := by
    rw [← hW0]
    refine ⟨(Below.heap_alloc _ _ _ (by simp)).trans (heap_alloc_new _ _), ?_⟩
    have := heap_alloc_new (w.alloc (.cells #[.pointer (some ⟨l, 0, none⟩)] 98)) (.cells #[.int .i64 0] 25)
    rwa [World.size_alloc] at this
  have h1 := unready_any (h.later hb0) (hl.later hb0)
  rw [k0] at h1
  have hsz := hl.lt
  have HW := Hid.mk hW0
  have HQ := Hid.mk hq0
  have HB := Hid.mk hb0
  have HL := Hid.mk (hl.later hb0)
  have hhi := hk.hi
  have HO := Hid.mk hk
  have hd1 : ((x : Int) == 0) = false := by rw [beq_eq_false_iff_ne]; omega
  have hd2 : ¬ (8364 : Int) < (x : Int) := by omega
  obtain ⟨C, hC⟩ : ∃ C, C = (x + 491) / 492 := ⟨_, rfl⟩
  have hC1 : cntOf x = C := by rw [hC]; rfl
  rw [hC1] at k3 k4
  have hC2 : C ≤ 17 := by omega
  have hd3 : ¬ (1073741824 : Int) < (L.head : Int) + (C : Int) := by omega
  have HC := Hid.mk hC
  have HD := Hid.mk h
  have HLw := Hid.mk hl
  have HR := Hid.mk hr
  have HLt := Hid.mk h.lt
  clear hC hb0 hq0 hW0 hk hl h hr k0
  refine (callsIn_wide (n := 6)).1 ?_
  refine callsIn_of_wp_marks Tryz.func98 rfl trivial ?_ rfl
  simp only [Tryz.ntmps98, List.size_toArray, List.length_cons, List.length_nil, Nat.reduceAdd, Nat.reduceSub, Array.replicate_succ, Array.replicate_zero, List.push_toArray, List.append_toArray, List.nil_append, List.cons_append]
  refine (wpIn_wide (n := 6)).2 ?_
  go_wp2_with fail
  rw [HW.out]
  refine h1.mono ?_
  rintro e w1 ⟨rfl, hb1⟩
  have hq1 := AppBox.later HQ.out hb1
  have b0 : w1.cell? ⟨w.heap.size, 0, none⟩ = some (.pointer (some ⟨l, 0, none⟩)) := cell_of_block hq1.1 (j := 0) rfl
  have hl1 := HL.out.later hb1
  have hB1 := HB.out.trans (hb1.mono HB.out.size)
  have c7 := hl1.c7
  have h3 := room_any hl1 HO.out
  have h2 := fun wx => sectorsOf_any x wx (by omega)
  have HB1 := Hid.mk hB1
  have HQ1 := Hid.mk hq1
  have HL1 := Hid.mk hl1
  clear h1 hb1 hB1 hq1 hl1
  go_wp2_with fail
  refine (h2 _).mono ?_
  rintro e w2 ⟨rfl, hw2⟩
  have hw3 := hw2.symm
  subst hw3
  rw [← HC.out]
  clear h2 hw2
  go_wp2_with fail
  refine h3.mono ?_
  rintro e w2 ⟨rfl, hb2⟩
  have hq2 := AppBox.later HQ1.out hb2
  have hB2 := HB1.out.trans (hb2.mono HB1.out.size)
  have hl2 := HL1.out.later hb2
  have b2 : w2.cell? ⟨w.heap.size, 0, none⟩ = some (.pointer (some ⟨l, 0, none⟩)) := cell_of_block hq2.1 (j := 0) rfl
  have e5 := hl2.c5
  have e7 := hl2.c7
  clear h3 hb2
  go_wp2_with fail
  go_region_held3 (fun w' => w'.cell? ⟨w.heap.size, 0, none⟩ = some (.pointer (some ⟨l, 0, none⟩)) ∧ w'.cell? ⟨l, 5, none⟩ = some (.int .i64 (L.ep : Int)) ∧ w'.cell? ⟨l, 7, none⟩ = some (.int .i64 (L.head : Int))) (go_keep) (fail)
  have hsz2 : w.heap.size + 2 ≤ w2.heap.size := by have := lt_there hq2.2; omega
  clear c7 e5 e7 b2 b0
  obtain ⟨W3, hW3⟩ : ∃ W3, (w2.alloc (.cells #[.int .i64 (L.ep : Int), .int .i64 (L.head : Int), .int .i64 0, .int .i64 (C : Int)] 181)).drew = W3 := ⟨_, rfl⟩
  rw [hW3]
  have hz3 : W3.heap.size = w2.heap.size + 1 := by rw [← hW3]; show (w2.alloc _).heap.size = _; simp
  have hB3 : Below w.heap.size w W3 := by rw [← hW3]; exact below_drew (hB2.alloc hB2.size _)
  have hm3 : W3.heap[w2.heap.size]? = some (.cells #[.int .i64 (L.ep : Int), .int .i64 (L.head : Int), .int .i64 0, .int .i64 (C : Int)] 181 (0, 0)) := by rw [← hW3]; exact heap_alloc_new _ _
  have hq3 : AppBox W3 w.heap.size l := hq2.later (by rw [← hW3]; exact below_drew (below_box _ _))
  have HZ3 := Hid.mk hz3
  have HB3 := Hid.mk hB3
  have HM3 := Hid.mk hm3
  have HQ3 := Hid.mk hq3
  clear hW3 hB3 hm3 hq3 hz3 hq2 hB2 hl2
  go_wp2_with fail
  refine (chunk_any (some ⟨b, o, none⟩) x k W3).mono ?_
  rintro e w4 ⟨rfl, hw4⟩
  go_wp2_with fail
  refine (wpIn_wide (n := 6)).1 ?_
  have hb4 : Below W3.heap.size W3 w4 := by rw [hw4]; exact below_two _ _ _
  have hz4 : w4.heap.size = w2.heap.size + 3 := by rw [hw4]; have := HZ3.out; simp; omega
  have hs4 : w4.heap[w2.heap.size + 1]? = some (.cells #[.slice (some ⟨b, o, none⟩) x k] 22 (0, 0)) := by
    rw [hw4, ← HZ3.out]
    exact (Below.heap_alloc _ _ _ (by simp)).trans (heap_alloc_new _ _)
  have hn4 : w4.heap[w2.heap.size + 1 + 1]? = some (.cells #[.int .i64 492] 3 (0, 0)) := by
    rw [hw4, ← HZ3.out]
    have := heap_alloc_new (W3.alloc (.cells #[.slice (some ⟨b, o, none⟩) x k] 22)) (.cells #[.int .i64 492] 3)
    rwa [World.size_alloc] at this
  rw [HZ3.out]
  rw [← hw4]
  clear hw4
  have hB4 := HB3.out.trans (hb4.mono HB3.out.size)
  have hxd := hs.1
  have hcd : cntOf d.length = C := by rw [hxd]; exact hC1
  obtain ⟨m, hDm⟩ := HD.out.some_m
  have hmw := HD.out.lt m hDm.fm
  have hw4z := hB4.size
  have hI0 : AppI w w4 F l p s m w2.heap.size w4.heap.size L S d [] cR := by
    refine ⟨rfl, ?_, ?_, HQ3.out.later hb4, Keeps.of_below F hB4, Nat.le_refl _⟩
    · exact (hDm.later hB4).narrow (fun k hk hc => ⟨.inl hk, hc, by have := HD.out.lt k hk; omega⟩) (fun _ hk => hk.2.2)
    · rw [hcd]
      exact (hb4.block _ (lt_there HM3.out)).trans HM3.out
  refine wpIn_rangeFunc_ownH rfl (by omega) (gf := 166) (lb := #[.pointer (some ⟨w2.heap.size + 1, 0, none⟩), .pointer (some ⟨w2.heap.size + 1 + 1, 0, none⟩)]) rfl trivial (enters_of Tryz.func166 (by kernel_rfl) rfl)
    (chunk_stops (6 - 1) (by omega) (w2.heap.size + 1) (w2.heap.size + 1 + 1) b o x k C k1 k2 hxk HC.out w4 hs4 hn4) KpC.t (KpC.b (by omega) (by omega)) (Below.refl _ _) (fun _ => rfl)
    (fun pre W => AppI w W F l p s m w2.heap.size w4.heap.size L S d (pre.map Fin.val) cR)
    (fun c pre W => c = .ret ∧ AppX w W F p s m w4.heap.size L S d (pre.map Fin.val) cR)
    ?hI ?hIx hI0
    (fun y a' _ => a' = { tmps := #[Value.pointer (some ⟨l, 0, none⟩), .slice (some ⟨b, o, none⟩) x k, .pointer (some ⟨w.heap.size, 0, none⟩), undef, .pointer (some ⟨w.heap.size + 1, 0, none⟩), .int .i64 0, .int .i64 (C : Int), .pointer (some ⟨w2.heap.size, 0, none⟩), .slice (some ⟨b, o + 492 * y.1, none⟩) (chLen x y.1) (chLen x y.1), undef, .pointer (some ⟨l, 0, none⟩), .int .i64 0, .int .i64 0, .bool false, undef, .slice (some ⟨b, o, none⟩) x k, .int .i64 (x : Int), .int .i64 (C : Int), .bool false, .slice (some ⟨b, o, none⟩) x k, .int .i64 (x : Int), .bool false, .bool (decide ((8364 : Int) < (x : Int))), .slice (some ⟨b, o, none⟩) x k, .int .i64 (x : Int), .bool (decide ((8364 : Int) < (x : Int))), .bool (decide ((1073741824 : Int) < (L.head : Int) + (C : Int))), .pointer (some ⟨l, 0, none⟩), .pointer (some ⟨l, 0, none⟩), .pointer (some ⟨l, 7, none⟩), .int .i64 (L.head : Int), .int .i64 (C : Int), .int .i64 ((L.head : Int) + (C : Int)), .bool (decide ((1073741824 : Int) < (L.head : Int) + (C : Int))), .bool (decide ((L.n : Int) - ((L.head : Int) - (L.tail : Int)) < (C : Int))), .int .i64 (C : Int), .pointer (some ⟨l, 0, none⟩), .int .i64 ((L.n : Int) - ((L.head : Int) - (L.tail : Int))), .bool (decide ((L.n : Int) - ((L.head : Int) - (L.tail : Int)) < (C : Int))), .pointer (some ⟨l, 0, none⟩), .pointer (some ⟨l, 0, none⟩), .pointer (some ⟨l, 5, none⟩), .int .i64 (L.ep : Int), .pointer (some ⟨l, 0, none⟩), .pointer (some ⟨l, 0, none⟩), .pointer (some ⟨l, 7, none⟩), .int .i64 (L.head : Int), .int .i64 (C : Int), .agg #[.int .i64 (L.ep : Int), .int .i64 (L.head : Int), .int .i64 0, .int .i64 (C : Int)], .slice (some ⟨b, o, none⟩) x k, .func (.func 166) #[] #[.pointer (some ⟨w2.heap.size + 1, 0, none⟩), .pointer (some ⟨w2.heap.size + 1 + 1, 0, none⟩)], .slice (some ⟨b, o + 492 * y.1, none⟩) (chLen x y.1) (chLen x y.1), undef, undef, undef, undef, undef, undef, undef, undef, undef, undef, undef, undef, undef, undef, undef, undef, undef, undef, undef, undef, undef], defers := [] }) ?hAx ?assign ?body ?done ?stop
  case hI => exact fun _ _ _ _ h hg hr => h.grown (by omega) hw4z hg hr
  case hIx => exact fun _ _ _ _ _ h hg hr => ⟨h.1, h.2.grown (by omega) hw4z hg hr⟩
  case hAx => exact fun _ _ _ _ _ _ h _ _ => h
  case assign =>
    intro l' pre y W K hI hK
    simp only [encC]
    gi_wp2
    exact hK _ _ (KeepsFrom.refl _ _) (KpC.refl _ _ _) hI rfl
  case body =>
    rintro l' pre y a' W hl' ⟨rr, hrr⟩ hI rfl hlt
    have hlen : (pre.map Fin.val).length = pre.length := by simp
    have hmp : (pre ++ [y]).map Fin.val = pre.map Fin.val ++ [y.1] := by simp
    have hy := y.2
    have hlW := HLw.out.keep hI.kp hF
    have hsW := hs.avoid hI.kp (fun z hz _ => by cases hz; exact hFb)
    have hpt := appL_puts L S s d (pre.map Fin.val)
    have hmx : Tryz.prog.follows .mixedOrders = true := by kernel_rfl
    have hcl : chLen x y.1 = min 492 (x - 492 * y.1) := rfl
    have hyx : 492 * y.1 < x := by have := HC.out; omega
    have hsP : Src W (some ⟨b, o + 492 * y.1, none⟩) (chLen x y.1) (partOf d y.1) := by
      have := hsW.sub (492 * y.1) (chLen x y.1) (by omega)
      rwa [show (d.drop (492 * y.1)).take (chLen x y.1) = partOf d y.1 by unfold partOf; rw [List.take_eq_take_iff, List.length_drop, hxd]; omega] at this
    have hbP : Bytes (partOf d y.1) := partOf_bytes hd _
    have hblt : b < w.heap.size := hs.old _ rfl (by omega)
    have hFC : ∀ k, w.heap.size ≤ k → k < w4.heap.size → ¬ FC F w4.heap.size m W.drew k := fun k h1 h2 h => by
      rcases h.1 with h | h
      · have := HLt.out k h; omega
      · omega
    have hdW : DiskRM W.drew (FC F w4.heap.size m W.drew) p s (appL L S s d (pre.map Fin.val)).2 m (cR + (pre.map Fin.val).length) := hI.dk.carry (fun _ _ _ _ h => h) rfl (Nat.le_refl _)
    have hput := put_any hdW L.f L.n L.ep (L.head + (pre.map Fin.val).length) (pre.map Fin.val).length C (some ⟨b, o + 492 * y.1, none⟩) (chLen x y.1) (chLen x y.1) (partOf d y.1) (hsP.later (below_drew (Below.refl _ _))) (fun z hz _ h => by
      cases hz
      rcases h.1 with h | h
      · exact hFb h
      · have : w4.heap.size ≤ b := h
        omega) hbP (by omega) (fun h => by cases h) (by have := HO.out.n1; omega) HO.out.s (by omega)
    have hsn := appL_snoc (L := L) (S := S) (s := s) (d := d) y.1 hI.ok
    rw [hcd] at hsn
    generalize aput (appL L S s d (pre.map Fin.val)).2 s L.f L.n L.ep (L.head + (pre.map Fin.val).length) (pre.map Fin.val).length C (partOf d y.1) = Y at hput hsn
    rw [← hmp] at hsn
    have b0 : W.drew.cell? ⟨w.heap.size, 0, none⟩ = some (.pointer (some ⟨l, 0, none⟩)) := cell_of_block hI.bx.1 (j := 0) rfl
    have hmk := hI.mrk
    rw [hcd] at hmk
    generalize hj : (pre.map Fin.val).length = j at hput hmk
    have hjC : j < 17 := by omega
    have hcast : ((L.head + j : Nat) : Int) = (L.head : Int) + (j : Int) := by omega
    rw [hcast] at hput hmk
    generalize chLen x y.1 = cL at *
    have HJ := Hid.mk hj
    clear hcl hcast hj
    have HSt : Hid (∀ W' : World, W'.heap[w.heap.size]? = some (.cells #[.pointer (some ⟨l, 0, none⟩)] 98 (0, 0)) → W'.heap[w2.heap.size]? = some (.cells #[.int .i64 (L.ep : Int), .int .i64 ((L.head : Int) + (j : Int)), .int .i64 (j : Int), .int .i64 (C : Int)] 181 (0, 0)) → LogP W' l p L →
        (W'.cell? ⟨w.heap.size, 0, none⟩ = some (.pointer (some ⟨l, 0, none⟩)) ∧ W'.cell? ⟨w2.heap.size, 0, none⟩ = some (.int .i64 (L.ep : Int)) ∧ W'.cell? ⟨w2.heap.size, 1, none⟩ = some (.int .i64 ((L.head : Int) + (j : Int))) ∧ W'.cell? ⟨w2.heap.size, 2, none⟩ = some (.int .i64 (j : Int)) ∧ W'.cell? ⟨w2.heap.size, 3, none⟩ = some (.int .i64 (C : Int)) ∧
          W'.cell? ⟨l, 0, none⟩ = some (.pointer (some ⟨p, 0, none⟩)) ∧ W'.cell? ⟨l, 1, none⟩ = some (.int .i64 (L.f : Int)) ∧ W'.cell? ⟨l, 2, none⟩ = some (.int .i64 (L.n : Int)))) :=
      fun W' g1 g2 g3 => ⟨cell_of_block g1 (j := 0) rfl, cell_of_block g2 (j := 0) rfl, cell_of_block g2 (j := 1) rfl, cell_of_block g2 (j := 2) rfl, cell_of_block g2 (j := 3) rfl, g3.c0, g3.c1, g3.c2⟩
    have S0 := Hid.mk (HSt.out W.drew hI.bx.1 hmk (hlW.later (below_drew (Below.refl _ _))))
    have HIh := Hid.mk hI
    have HPut := Hid.mk hput
    have HMk := Hid.mk hmk
    have HSn := Hid.mk hsn
    have HFC := Hid.mk hFC
    clear hI hput hmk hsn hFC hsP hsW hlW hdW hpt b0
    gi_wp2_with fail
    refine wpIn_region_held (S := fun W' => W'.cell? ⟨w.heap.size, 0, none⟩ = some (.pointer (some ⟨l, 0, none⟩)) ∧ W'.cell? ⟨w2.heap.size, 0, none⟩ = some (.int .i64 (L.ep : Int)) ∧ W'.cell? ⟨w2.heap.size, 1, none⟩ = some (.int .i64 ((L.head : Int) + (j : Int))) ∧ W'.cell? ⟨w2.heap.size, 2, none⟩ = some (.int .i64 (j : Int)) ∧ W'.cell? ⟨w2.heap.size, 3, none⟩ = some (.int .i64 (C : Int)) ∧
          W'.cell? ⟨l, 0, none⟩ = some (.pointer (some ⟨p, 0, none⟩)) ∧ W'.cell? ⟨l, 1, none⟩ = some (.int .i64 (L.f : Int)) ∧ W'.cell? ⟨l, 2, none⟩ = some (.int .i64 (L.n : Int))) hmx (by kernel_rfl) ?_
    refine wpAnyH_take (i := 0) (v := .pointer (some ⟨l, 0, none⟩)) rfl (by kernel_rfl) (by kernel_rfl) (by kernel_rfl) (fun _ _ _ h => h) (Or.inl ⟨by rfl, ?_⟩) S0.out ?_
    · rintro W1 ⟨y1, y2, y3, y4, y5, y6, y7, y8⟩
      go_simp
    try simp only [Act.put, List.setIfInBounds_toArray]
    refine wpAnyH_take (i := 1) (v := .pointer (some ⟨l, 0, none⟩)) rfl (by kernel_rfl) (by kernel_rfl) (by kernel_rfl) (fun _ _ _ h => h) (Or.inl ⟨by rfl, ?_⟩) S0.out ?_
    · rintro W1 ⟨y1, y2, y3, y4, y5, y6, y7, y8⟩
      go_simp
    try simp only [Act.put]
    refine wpAnyH_take (i := 2) (v := .pointer (some ⟨l, 0, none⟩)) rfl (by kernel_rfl) (by kernel_rfl) (by kernel_rfl) (fun _ _ _ h => h) (Or.inl ⟨by rfl, ?_⟩) S0.out ?_
    · rintro W1 ⟨y1, y2, y3, y4, y5, y6, y7, y8⟩
      go_simp
    try simp only [Act.put]
    refine wpAnyH_take (i := 3) (v := areaV p L.f L.n) rfl (by kernel_rfl) (by kernel_rfl) (by kernel_rfl) (fun _ _ _ h => h) (Or.inl ⟨by rfl, ?_⟩) S0.out ?_
    · rintro W1 ⟨y1, y2, y3, y4, y5, y6, y7, y8⟩
      go_simp
    try simp only [Act.put]
    refine wpAnyH_take (i := 4) (v := markV (L.ep : Int) ((L.head : Int) + (j : Int)) (j : Int) (C : Int)) rfl (by kernel_rfl) (by kernel_rfl) (by kernel_rfl) (fun _ _ _ h => h) (Or.inl ⟨by rfl, ?_⟩) S0.out ?_
    · rintro W1 ⟨y1, y2, y3, y4, y5, y6, y7, y8⟩
      go_simp
    try simp only [Act.put]
    refine wpAnyH_take (i := 5) (v := .slice (some ⟨b, o + 492 * y.1, none⟩) cL cL) rfl (by kernel_rfl) (by kernel_rfl) (by kernel_rfl) (fun _ _ _ h => h) (Or.inl ⟨by rfl, ?_⟩) S0.out ?_
    · rintro W1 ⟨y1, y2, y3, y4, y5, y6, y7, y8⟩
      go_simp
    try simp only [Act.put]
    refine wpAnyH_take (i := 6) (v := pieceV (L.ep : Int) ((L.head : Int) + (j : Int)) (j : Int) (C : Int) (some ⟨b, o + 492 * y.1, none⟩) cL cL) rfl (by kernel_rfl) (by kernel_rfl) (by kernel_rfl) (fun _ _ _ h => h) (Or.inl ⟨by rfl, ?_⟩) S0.out ?_
    · rintro W1 ⟨y1, y2, y3, y4, y5, y6, y7, y8⟩
      go_simp
    try simp only [Act.put]
    refine wpAnyH_ready (rs := [7]) (by kernel_rfl) (by simp) (AllReadyH.cons rfl (fun K hK => ?_) AllReadyH.nil)
    go_simp
    refine HPut.out.mono ?_
    rintro e W2 ⟨rfl, hd2, hk2⟩
    have hz2 : W.heap.size ≤ W2.heap.size := hk2.size
    have hd3 := hd2.fc (w0 := w) (w := W.drew) HIh.out.sz rfl
    have hkw := (HIh.out.kp.trans (Keeps.of_below (fun _ => False) (below_drew (Below.refl W.heap.size W))) (fun _ h => h.elim)).trans hk2 (fun k hk => by
      rcases hk.1 with h | h
      · exact .inl h
      · exact .inr (by omega))
    have hkeep : ∀ k ob, w.heap.size ≤ k → k < w4.heap.size → W.heap[k]? = some ob → W2.heap[k]? = some ob := fun k ob h1 h2 h3 => (hk2.block k (lt_there h3) (HFC.out k h1 h2)).trans h3
    have hbx : AppBox W2 w.heap.size l := ⟨hkeep _ _ (by omega) (by omega) HIh.out.bx.1, hkeep _ _ (by omega) (by omega) HIh.out.bx.2⟩
    have hmk2 := hkeep w2.heap.size _ (by omega) (by omega) HMk.out
    have hkf : KeepsFrom w4.heap.size W W2 := ⟨hz2, fun k ob h1 h2 h3 => (hk2.block k (lt_there h2) (fun h => by
      rcases h.2.1 with ⟨cur, t, fz, hc⟩ | h
      · have hc' : W.heap[k]? = some (.cells cur t fz) := hc
        rw [h2] at hc'
        cases hc'
        cases h3
      · omega)).trans h2⟩
    have hkc : KpC (w2.heap.size + 1) (w2.heap.size + 1 + 1) W W2 := ⟨hk2.block _ (by have := HIh.out.sz; show _ < W.heap.size; omega) (HFC.out _ (by omega) (by omega)), hk2.block _ (by have := HIh.out.sz; show _ < W.heap.size; omega) (HFC.out _ (by omega) (by omega))⟩
    have hl2 := HLw.out.keep hkw hF
    have S2 := Hid.mk (HSt.out W2 hbx.1 hmk2 hl2)
    have HD3 := Hid.mk hd3
    have HKw := Hid.mk hkw
    have HBx := Hid.mk hbx
    have HMk2 := Hid.mk hmk2
    have HKf := Hid.mk hkf
    have HKc := Hid.mk hkc
    clear hd2 hk2 hd3 hkw hkeep hbx hmk2 hkf hkc hl2
    refine hK.out _ _ S2.out (fun _ => ?_)
    clear hK K
    try simp only [Act.put, List.setIfInBounds_toArray, List.set_cons_zero, List.set_cons_succ]
    refine wpAnyH_take (i := 8) (v := .int .i64 Y.1) rfl (by kernel_rfl) (by kernel_rfl) (by kernel_rfl) (fun _ _ _ h => h) (Or.inl ⟨by rfl, ?_⟩) S2.out ?_
    · rintro W1 ⟨y1, y2, y3, y4, y5, y6, y7, y8⟩
      go_simp
    try simp only [Act.put, List.setIfInBounds_toArray]
    refine wpAnyH_done (by kernel_rfl) ?_ _
    have er1 : W2.cell? ⟨w.heap.size + 1, 0, none⟩ = some (.int .i64 0) := cell_of_block HBx.out.2 (j := 0) rfl
    have ef1 := frozen_of_block HBx.out.2 0
    by_cases kY : Y.1 = 0
    · have dY : (Y.1 == 0) = true := by rw [beq_iff_eq]; exact kY
      obtain ⟨z1, z2, z3, z4, z5, _⟩ := S2.out
      have hnx := CallsIn.inRound l' (callsIn_wide (n := 3).2 (next_any L.ep (L.head + j) j C W2 (by omega) (by omega)))
      rw [show ((L.head + j : Nat) : Int) = (L.head : Int) + (j : Int) by omega] at hnx
      have HKY := Hid.mk kY
      clear kY
      gi_wp2_with fail
      refine ⟨trivial, ?_⟩
      refine hnx.mono ?_
      rintro e W5 ⟨rfl, hb5⟩
      have hm5 := (hb5.block _ (lt_there HMk2.out)).trans HMk2.out
      have m0 : W5.cell? ⟨w2.heap.size, 0, none⟩ = some (.int .i64 (L.ep : Int)) := cell_of_block hm5 (j := 0) rfl
      have m1 : W5.cell? ⟨w2.heap.size, 1, none⟩ = some (.int .i64 ((L.head : Int) + (j : Int))) := cell_of_block hm5 (j := 1) rfl
      have m2 : W5.cell? ⟨w2.heap.size, 2, none⟩ = some (.int .i64 (j : Int)) := cell_of_block hm5 (j := 2) rfl
      have m3 : W5.cell? ⟨w2.heap.size, 3, none⟩ = some (.int .i64 (C : Int)) := cell_of_block hm5 (j := 3) rfl
      have mf := fun i => frozen_of_block hm5 i
      have HM5 := Hid.mk hm5
      have HB5 := Hid.mk hb5
      clear hm5 hb5 hnx z1 z2 z3 z4 z5 er1 ef1
      gi_wp2
      obtain ⟨WX, hWX⟩ : ∃ WX, ((((W5.setCell ⟨w2.heap.size, 0, none⟩ (.int .i64 (L.ep : Int))).setCell ⟨w2.heap.size, 1, none⟩ (.int .i64 ((L.head : Int) + (j : Int) + 1))).setCell ⟨w2.heap.size, 2, none⟩ (.int .i64 ((j : Int) + 1))).setCell ⟨w2.heap.size, 3, none⟩ (.int .i64 (C : Int))) = WX := ⟨_, rfl⟩
      rw [hWX]
      have hks : Keeps (fun k => k = w2.heap.size) W5 WX := by
        rw [← hWX]
        exact (((keeps_set (F := fun k => k = w2.heap.size) _ rfl 0 _).trans (keeps_set (F := fun k => k = w2.heap.size) _ rfl 1 _) (fun _ h => .inl h)).trans (keeps_set (F := fun k => k = w2.heap.size) _ rfl 2 _) (fun _ h => .inl h)).trans (keeps_set (F := fun k => k = w2.heap.size) _ rfl 3 _) (fun _ h => .inl h)
      have hkx : KeepsFrom w4.heap.size W5 WX := by
        rw [← hWX]
        exact ((((KeepsOthers.setCell _ _ _).from _).trans ((KeepsOthers.setCell _ _ _).from _)).trans ((KeepsOthers.setCell _ _ _).from _)).trans ((KeepsOthers.setCell _ _ _).from _)
      have hmX : WX.heap[w2.heap.size]? = some (.cells #[.int .i64 (L.ep : Int), .int .i64 ((L.head : Int) + (j : Int) + 1), .int .i64 ((j : Int) + 1), .int .i64 (C : Int)] 181 (0, 0)) := by
        rw [← hWX]
        exact (heap_setCell_same _ _ 3 _ _ _ (heap_setCell_same _ _ 2 _ _ _ (heap_setCell_same _ _ 1 _ _ _ (heap_setCell_same _ _ 0 _ _ _ HM5.out)))).trans (by simp)
      have hb5 := HB5.out
      have hsz5 := HIh.out.sz
      have hc5 := cellsIn_below hb5
      have hd5 := HD3.out.carry hc5 (hb5.block _ (fc_lt_m HD3.out)) hb5.size
      have hbl : ∀ k ob, ¬ k = w2.heap.size → W2.heap[k]? = some ob → WX.heap[k]? = some ob := fun k ob h1 h2 => (hks.block k (by have := lt_there h2; have := hb5.size; omega) h1).trans ((hb5.block k (lt_there h2)).trans h2)
      have hz5 := hb5.size
      have hzX := hks.size
      have hIX : AppI w WX F l p s m w2.heap.size w4.heap.size L S d ((pre ++ [y]).map Fin.val) cR := by
        have e1 := HSn.out
        have hcn : cR + j + 1 ≤ cR + ((pre ++ [y]).map Fin.val).length := by rw [hmp, List.length_append, List.length_singleton, HJ.out]; omega
        refine ⟨by rw [e1]; exact HKY.out, by rw [e1]; exact (hd5.fckeep hks (fcw_not HLt.out (by omega) (by omega))).le hcn, ?_, ⟨hbl _ _ (by omega) HBx.out.1, hbl _ _ (by omega) HBx.out.2⟩, (HKw.out.trans (Keeps.of_below (fun _ => False) hb5) (fun _ h => h.elim)).trans hks (fun _ h => .inr (by omega)), by omega⟩
        rw [hmX, hmp, List.length_append, List.length_singleton, HJ.out, hcd]
        rw [show ((L.head + (j + 1) : Nat) : Int) = (L.head : Int) + (j : Int) + 1 by omega, show ((j + 1 : Nat) : Int) = (j : Int) + 1 by omega]
      exact ⟨(HKf.out.trans ⟨hz5, fun k ob _ h2 _ => (hb5.block k (lt_there h2)).trans h2⟩).trans hkx, HKc.out.t ⟨(hks.block _ (by omega) (by omega)).trans (hb5.block _ (by omega)), (hks.block _ (by omega) (by omega)).trans (hb5.block _ (by omega))⟩, hIX⟩
    · have dY : (Y.1 == 0) = false := by rw [beq_eq_false_iff_ne]; exact kY
      have HKY := Hid.mk kY
      clear kY
      gi_wp2
      have hks : Keeps (fun k => k = w.heap.size + 1) W2 (W2.setCell ⟨w.heap.size + 1, 0, none⟩ (.int .i64 Y.1)) := keeps_set (F := fun k => k = w.heap.size + 1) W2 rfl 0 _
      have hX : AppX w (W2.setCell ⟨w.heap.size + 1, 0, none⟩ (.int .i64 Y.1)) F p s m w4.heap.size L S d ((pre ++ [y]).map Fin.val) cR := by
        have e1 := HSn.out
        have hcn : cR + j + 1 ≤ cR + ((pre ++ [y]).map Fin.val).length := by rw [hmp, List.length_append, List.length_singleton, HJ.out]; omega
        refine ⟨by rw [e1]; exact HKY.out, by rw [e1]; exact (HD3.out.fckeep hks (fcw_not HLt.out (by omega) (by omega))).le hcn, by rw [e1]; exact (heap_setCell_same _ _ 0 _ _ _ HBx.out.2).trans (by simp), HKw.out.trans hks (fun _ h => .inr (by omega)), by have := HIh.out.sz; have := HKf.out.size; have := hks.size; omega⟩
      exact ⟨HKf.out.trans ((KeepsOthers.setCell _ _ _).from _), rfl, hX⟩
  case done =>
    intro D xs W hD hxs hI hDD
    have hmp : xs.map Fin.val = List.range C := hxs
    rw [hmp] at hI
    have hlW := HLw.out.keep hI.kp hF
    have c0 : W.cell? ⟨w.heap.size, 0, none⟩ = some (.pointer (some ⟨l, 0, none⟩)) := cell_of_block hI.bx.1 (j := 0) rfl
    have c1 : W.cell? ⟨w.heap.size + 1, 0, none⟩ = some (.int .i64 0) := cell_of_block hI.bx.2 (j := 0) rfl
    have g1 := frozen_of_block hI.bx.2 0
    have c7 := hlW.c7
    have g7 := hlW.fz 7
    have HIh := Hid.mk hI
    have HlW := Hid.mk hlW
    clear hI hlW hmp hxs
    have hnF : ¬ FC F w4.heap.size m W l := fun h => by
      rcases h.1 with h | h
      · exact hF h
      · omega
    have hk1 : Keeps (fun k => k = l) W (W.setCell ⟨l, 7, none⟩ (.int .i64 ((L.head : Int) + (C : Int)))) := keeps_set (F := fun k => k = l) W rfl 7 _
    have hk2 : Keeps (fun k => k = w.heap.size + 1) (W.setCell ⟨l, 7, none⟩ (.int .i64 ((L.head : Int) + (C : Int)))) ((W.setCell ⟨l, 7, none⟩ (.int .i64 ((L.head : Int) + (C : Int)))).setCell ⟨w.heap.size + 1, 0, none⟩ (.int .i64 0)) := keeps_set (F := fun k => k = w.heap.size + 1) _ rfl 0 _
    have hd1 := (HIh.out.dk.fckeep hk1 hnF).fckeep hk2 (fcw_not HLt.out (by omega) (by omega))
    have hl1 : LogP ((W.setCell ⟨l, 7, none⟩ (.int .i64 ((L.head : Int) + (C : Int)))).setCell ⟨w.heap.size + 1, 0, none⟩ (.int .i64 0)) l p { L with head := L.head + C } := LogP.keep (G := fun k => k = w.heap.size + 1) ((heap_setCell_same _ _ 7 _ _ _ HlW.out).trans (by simp)) hk2 (by omega)
    have he1 : ((W.setCell ⟨l, 7, none⟩ (.int .i64 ((L.head : Int) + (C : Int)))).setCell ⟨w.heap.size + 1, 0, none⟩ (.int .i64 0)).heap[w.heap.size + 1]? = some (.cells #[.int .i64 0] 25 (0, 0)) := (heap_setCell_same _ _ 0 _ _ _ ((hk1.block _ (lt_there HIh.out.bx.2) (by omega)).trans HIh.out.bx.2)).trans (by simp)
    have hkw1 : Keeps (fun k => F k ∨ k = l) w ((W.setCell ⟨l, 7, none⟩ (.int .i64 ((L.head : Int) + (C : Int)))).setCell ⟨w.heap.size + 1, 0, none⟩ (.int .i64 0)) := ((HIh.out.kp.mono (fun _ h => .inl h)).trans hk1 (fun _ h => .inl (.inr h))).trans hk2 (fun _ h => .inr (by omega))
    have hDl := lt_there hDD
    have hD1 := (hk2.block _ (by have := hk1.size; omega) (by omega)).trans ((hk1.block _ hDl (by omega)).trans hDD)
    have hz1 := Nat.le_trans hk1.size hk2.size
    obtain ⟨WZ, hWZ⟩ : ∃ WZ, ((W.setCell ⟨l, 7, none⟩ (.int .i64 ((L.head : Int) + (C : Int)))).setCell ⟨w.heap.size + 1, 0, none⟩ (.int .i64 0)) = WZ := ⟨_, rfl⟩
    rw [hWZ] at hd1 hl1 he1 hkw1 hD1 hz1
    have hcn : cR + (List.range C).length ≤ cR + 17 := by rw [List.length_range]; omega
    have HF := Hid.mk (app_fin HLt.out (hd1.le hcn) hl1 hkw1 he1 hD1 (by omega) hsz hsz2 (by omega) (by omega))
    have HOk := Hid.mk HIh.out.ok
    have HWZ := Hid.mk hWZ
    have HD1 := Hid.mk hD1
    clear hd1 hl1 he1 hkw1 hD1 hk1 hk2 hz1 hWZ
    go_wp2
    rw [HWZ.out]
    refine ⟨by simp, .inl ⟨_, _, rfl, run_takeDeferred HD1.out, ?_⟩⟩
    refine ⟨_, results_cell1 rfl _ _ (w.heap.size + 1) 0 rfl HF.out.1, ?_⟩
    have e1 := HOk.out
    rw [appL_range] at e1 HF
    unfold LG.append
    rw [hxd, HR.out, hC1, if_neg (by decide), if_neg (by rw [e1]; decide)]
    exact ⟨rfl, HF.out.2⟩
  case stop =>
    rintro D c pre W hD ⟨j, hj, hpre⟩ ⟨rfl, hX⟩ hDD
    have hmp : pre.map Fin.val = List.range (j + 1) := hpre
    rw [hmp] at hX
    have hlW := HLw.out.keep hX.kp hF
    have hnn := hX.no
    have HF := Hid.mk (app_fin HLt.out (hX.dk.le (by rw [List.length_range]; omega : cR + (List.range (j + 1)).length ≤ cR + 17)) hlW (hX.kp.mono (fun _ h => .inl h)) hX.er hDD (by omega) hsz hsz2 (by omega) (by omega))
    rw [appL_range] at HF hnn
    have hto : appTo L S s d C = appTo L S s d (j + 1) := stepsTo_err hnn C (by omega)
    have HTo := Hid.mk hto
    have HNn := Hid.mk hnn
    clear hX hlW hnn hto
    gi_wp2
    refine ⟨by simp, .inl ⟨_, _, rfl, run_takeDeferred hDD, ?_⟩⟩
    refine ⟨_, results_cell1 rfl _ _ (w.heap.size + 1) _ rfl HF.out.1, ?_⟩
    unfold LG.append
    rw [hxd, HR.out, hC1, if_neg (by decide), HTo.out, if_pos HNn.out]
    exact ⟨rfl, HF.out.2⟩
end
theorem Append_any {w : World} {F : Nat → Prop} {p s l cR : Nat} {S : DS} {L : LG} (h : DiskR w F p s S cR) (hl : LogP w l p L) (hk : L.Ok s) (hF : ¬ F l) (a : Option Addr) (x k : Nat) (d : List Int) (hs : Src w a x d) (hFs : ∀ y, a = some y → 0 < x → ¬ F y.block) (hd : Bytes d) (hxk : x ≤ k) (hx : x ≤ 140737488355328) (hbig : S.puts.length + 100 ≤ 4000000000000) :
    Calls Tryz.prog 98 #[.pointer (some ⟨l, 0, none⟩), .slice a x k] w fun e w' => e = .returned (.int .i64 (L.append S s d).1) ∧ DiskR w' (more F w w') p s (L.append S s d).2.1 (cR + 17) ∧ LogP w' l p (L.append S s d).2.2 ∧ Keeps (fun k => F k ∨ k = l) w w' := by
  by_cases hr : L.refuses S x = 0
  · have hx1 := (refuses_zero hr).2.1
    obtain ⟨b, o, rfl⟩ := src_spot hs hx1
    exact Append_go h hl hk hF b o x k d hs (hFs _ rfl hx1) hd hxk hr hbig
  · refine (Append_no h.old hl hk a x k hx hr).mono ?_
    rintro e w' ⟨rfl, hb⟩
    unfold LG.append
    rw [hs.1, if_pos hr]
    exact ⟨rfl, ((h.later hb).more).le (by omega), hl.later hb, Keeps.of_below _ hb⟩
end Go.Proofs.YtokcgifpljeoiaaGreat.B
end
