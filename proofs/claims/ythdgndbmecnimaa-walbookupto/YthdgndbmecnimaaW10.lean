import Derived.Test.YthdgndbmecnimaaW09
import Derived.Deep.RegionHeld3
section
namespace Go.Proofs.Ythdgndbmecnimaa
open Go.RowKit

theorem sync_puts (L : LG) (S : DS) (s : Nat) : (L.sync S s).2.puts.length ≤ S.puts.length + 1 := by
  unfold LG.sync
  split
  · simp
  · exact fl_puts S s
theorem sync_byt {S : DS} (h : S.Byt) (L : LG) (s : Nat) : (L.sync S s).2.Byt := by
  unfold LG.sync
  split
  · exact h
  · exact h.fl s

theorem sync_begun {L : LG} {S : DS} {s : Nat} (h : (L.sync S s).1 = 0) : L.begun = true := by
  unfold LG.sync at h
  split at h
  · rename_i h1; exact absurd h h1
  · rename_i h1
    unfold LG.unready at h1
    split at h1
    · omega
    · split at h1
      · assumption
      · omega

section
variable {w : World} {F : Nat → Prop} {p s l : Nat} {S : DS} {L : LG}

set_option maxRecDepth 20000 in
set_option maxHeartbeats 8000000 in
theorem Trim_any (h : DiskR w F p s S) (hl : LogP w l p L) (hk : L.Ok s) (hF : ¬ F l) (hby : S.Byt) (hbig : S.puts.length + 3 ≤ 4000000000000) :
    Calls Try.prog 48 #[.pointer (some ⟨l, 0, none⟩)] w fun e w' => e = .returned (.int .i64 (L.trim S s).1) ∧ DiskR w' (more F w w') p s (L.trim S s).2.1 ∧ LogP w' l p (L.trim S s).2.2 ∧ Keeps (fun k => F k ∨ k = l) w w' := by
  have h1 := Sync_any h hl hF (by omega)
  have HLt := Hid.mk h.lt
  have hlt := hl.lt
  have hs := hk.s
  have hn1 := hk.n1
  have hhb := fun (hb : (L.sync S s).1 = 0) => hk.hb (sync_begun hb)
  have hep := hk.ep
  have hp := sync_puts L S s
  have hby2 := sync_byt hby L s
  unfold LG.trim
  generalize L.sync S s = Z at *
  have H3 := Hid.mk (fun (hz : Z.1 = 0) w2 (hd2 : DiskR w2 F p s Z.2) => drenew hd2 L.f L.n L.ep L.head hep (hhb hz) (by omega) (by omega) (hby2.now _) (hby2.now _))
  clear h hl hk hby hby2
  by_cases k0 : Z.1 = 0
  · rw [if_neg (fun h => h k0)]
    have d0 : (Z.1 == 0) = true := by rw [beq_iff_eq]; exact k0
    have H4 := Hid.mk (H3.out k0)
    clear k0 H3 hhb
    by_cases k1 : L.tail = L.head
    · rw [if_pos k1]
      have d1 : ((L.tail : Int) == (L.head : Int)) = true := by rw [beq_iff_eq]; omega
      clear k1
      go_enter Try.func48, Try.ntmps48
      go_wp2_with fail
      refine h1.mono ?_
      rintro e w1 ⟨rfl, hd1, hl1, hk1⟩
      have c6 := hl1.c6
      have c7 := hl1.c7
      have HZ := Hid.mk (fun j => And.intro ((hd1.later (below_drewN (Below.refl _ _) j)).more (w := w)) (And.intro (hl1.later (below_drewN (Below.refl _ _) j)) ((hk1.mono (fun _ h => .inl h)).trans (Keeps.of_below (fun _ => False) (below_drewN (Below.refl w1.heap.size w1) j)) (fun _ h => h.elim) : Keeps (fun k => F k ∨ k = l) w (w1.drewN j))))
      clear h1 hd1 hl1 hk1
      go_wp2_with fail
      go_quiet (fail)
      go_wp2
      go_ret
      exact ⟨rfl, HZ.out _⟩
    · rw [if_neg k1]
      have d1 : ((L.tail : Int) == (L.head : Int)) = false := by rw [beq_eq_false_iff_ne]; omega
      clear k1
      generalize hY : anew Z.2 s L.f ((L.ep : Int) * 4294967296 + (L.head : Int)) = Y at *
      clear hY
      by_cases k : Y.1 = 0
      · rw [if_neg (fun h => h k)]
        have d : (Y.1 == 0) = true := by rw [beq_iff_eq]; exact k
        clear k
        go_enter Try.func48, Try.ntmps48
        go_wp2_with fail
        refine h1.mono ?_
        rintro e w1 ⟨rfl, hd1, hl1, hk1⟩
        have c6 := hl1.c6
        have c7 := hl1.c7
        have c0 := hl1.c0
        have c1 := hl1.c1
        have c2 := hl1.c2
        have c5 := hl1.c5
        have HD1 := Hid.mk hd1
        have HL1 := Hid.mk hl1
        have HK1 := Hid.mk hk1
        clear h1 hd1 hl1 hk1
        go_wp2_with fail
        go_quiet (fail)
        go_wp2_with fail
        go_region_held3 (fun w' => w'.cell? ⟨l, 0, none⟩ = some (.pointer (some ⟨p, 0, none⟩)) ∧ w'.cell? ⟨l, 1, none⟩ = some (.int .i64 (L.f : Int)) ∧ w'.cell? ⟨l, 2, none⟩ = some (.int .i64 (L.n : Int)) ∧ w'.cell? ⟨l, 5, none⟩ = some (.int .i64 (L.ep : Int)) ∧ w'.cell? ⟨l, 7, none⟩ = some (.int .i64 (L.head : Int)))
          (first | exact ⟨c0, c1, c2, c5, c7⟩ | exact ⟨hl4.c0, hl4.c1, hl4.c2, hl4.c5, hl4.c7⟩)
          ((go_at_call 50; refine (H4.out _ (HD1.out.later (below_drewN (Below.refl _ _) (nq + 1)))).mono ?_; rintro e w2 ⟨rfl, hd2, hk2⟩; have hk3 := HK1.out.trans (Keeps.of_below (fun _ => False) (below_drewN (Below.refl w1.heap.size w1) (nq + 1))) (fun _ h => h.elim); have hl3 := HL1.out.later (below_drewN (Below.refl w1.heap.size w1) (nq + 1)); have hl4 := hl3.keep hk2 hF))
        generalize w1.drewN (nq + 1) = w3 at *
        have hz3 := hk3.size
        have hz2 := hk2.size
        have f6 := hl4.fz 6
        have c6' := hl4.c6
        have c7' := hl4.c7
        have hne : ∀ k, more F w3 w2 k → ¬ k = l := fun k hk e => by
          subst e
          rcases hk with hk | hk
          · exact hF hk
          · omega
        have hsz : (w2.setCell ⟨l, 6, none⟩ (.int .i64 (L.head : Int))).heap.size = w2.heap.size := by simp [World.setCell]
        have HZ := Hid.mk (And.intro (((hd2.keep (keeps_set (F := fun k => k = l) w2 rfl 6 (.int .i64 (L.head : Int))) hne).mono (G := more F w (w2.setCell ⟨l, 6, none⟩ (.int .i64 (L.head : Int)))) (fun k hk => by
            rcases hk with hk | hk
            · exact .inl hk
            · exact .inr ⟨by omega, by rw [hsz]; exact hk.2⟩) (more_lt (F := F) (w := w) HLt.out (by rw [hsz]; omega)))) (And.intro hl4.trimmed (((hk3.mono (fun _ h => .inl h) : Keeps (fun k => F k ∨ k = l) w w3).trans hk2 (fun _ h => .inl (.inl h))).trans (keeps_set (F := fun k => k = l) w2 rfl 6 (.int .i64 (L.head : Int))) (fun _ h => .inl (.inr h)))))
        clear hd2 hk2 hl4 hk3 hl3 hsz hne
        go_wp2
        go_ret
        exact ⟨rfl, HZ.out⟩
      · rw [if_pos k]
        have d : (Y.1 == 0) = false := by rw [beq_eq_false_iff_ne]; exact k
        clear k
        go_enter Try.func48, Try.ntmps48
        go_wp2_with fail
        refine h1.mono ?_
        rintro e w1 ⟨rfl, hd1, hl1, hk1⟩
        have c6 := hl1.c6
        have c7 := hl1.c7
        have c0 := hl1.c0
        have c1 := hl1.c1
        have c2 := hl1.c2
        have c5 := hl1.c5
        have HD1 := Hid.mk hd1
        have HL1 := Hid.mk hl1
        have HK1 := Hid.mk hk1
        clear h1 hd1 hl1 hk1
        go_wp2_with fail
        go_quiet (fail)
        go_wp2_with fail
        go_region_held3 (fun w' => w'.cell? ⟨l, 0, none⟩ = some (.pointer (some ⟨p, 0, none⟩)) ∧ w'.cell? ⟨l, 1, none⟩ = some (.int .i64 (L.f : Int)) ∧ w'.cell? ⟨l, 2, none⟩ = some (.int .i64 (L.n : Int)) ∧ w'.cell? ⟨l, 5, none⟩ = some (.int .i64 (L.ep : Int)) ∧ w'.cell? ⟨l, 7, none⟩ = some (.int .i64 (L.head : Int)))
          (first | exact ⟨c0, c1, c2, c5, c7⟩ | exact ⟨hl4.c0, hl4.c1, hl4.c2, hl4.c5, hl4.c7⟩)
          ((go_at_call 50; refine (H4.out _ (HD1.out.later (below_drewN (Below.refl _ _) (nq + 1)))).mono ?_; rintro e w2 ⟨rfl, hd2, hk2⟩; have hk3 := HK1.out.trans (Keeps.of_below (fun _ => False) (below_drewN (Below.refl w1.heap.size w1) (nq + 1))) (fun _ h => h.elim); have hl3 := HL1.out.later (below_drewN (Below.refl w1.heap.size w1) (nq + 1)); have hl4 := hl3.keep hk2 hF))
        generalize w1.drewN (nq + 1) = w3 at *
        have hz3 := hk3.size
        have hz2 := hk2.size
        have HZ := Hid.mk (And.intro (hd2.from HLt.out hz3 hz2) (And.intro hl4 ((hk3.mono (fun _ h => .inl h) : Keeps (fun k => F k ∨ k = l) w w3).trans hk2 (fun _ h => .inl (.inl h)))))
        clear hd2 hk2 hl4 hk3 hl3
        go_wp2
        go_ret
        exact ⟨rfl, HZ.out⟩
  · rw [if_pos k0]
    have d0 : (Z.1 == 0) = false := by rw [beq_eq_false_iff_ne]; exact k0
    clear k0
    go_enter Try.func48, Try.ntmps48
    go_wp2_with fail
    refine h1.mono ?_
    rintro e w1 ⟨rfl, hd1, hl1, hk1⟩
    have HZ := Hid.mk (And.intro (hd1.more (w := w)) (And.intro hl1 (hk1.mono (fun _ h => .inl h) : Keeps (fun k => F k ∨ k = l) w w1)))
    clear h1 hd1 hl1 hk1
    go_wp2
    go_ret
    exact ⟨rfl, HZ.out⟩
end
end Go.Proofs.Ythdgndbmecnimaa
end

section
namespace Go.Proofs.Ythdgndbmecnimaa
open Go.RowKit

/-- A piece as a value. -/
abbrev pieceV (e q i c : Int) (a : Option Addr) (n k : Nat) : Value := .agg #[.int .i64 e, .int .i64 q, .int .i64 i, .int .i64 c, .slice a n k]
abbrev pieceC (e q i c : Int) (a : Option Addr) (n k : Nat) : Array Value := #[.int .i64 e, .int .i64 q, .int .i64 i, .int .i64 c, .slice a n k]
/-- What is sealed of a piece. -/
def pbody (E P i c : Nat) (part : List Int) : List Int := leb 4 E ++ (leb 4 P ++ (leb 2 i ++ (leb 2 c ++ part)))

theorem put_zs (A X : List Int) (m : Nat) (h : X.length ≤ m) : put (A ++ zs m) A.length X = (A ++ X) ++ zs (m - X.length) := by
  unfold put
  have e : zs m = zs X.length ++ zs (m - X.length) := by rw [← zs_add]; congr 1; omega
  have e2 : A.length + X.length = (A ++ zs X.length).length := by rw [List.length_append, zs_len]
  rw [List.take_left, e2, e, ← List.append_assoc A (zs X.length), List.drop_left, List.append_assoc]
theorem pbody_len (E P i c : Nat) (l : List Int) : (pbody E P i c l).length = 12 + l.length := by
  simp only [pbody, List.length_append, leb_len]; omega
theorem pbody_bytes {E P i c : Nat} {l : List Int} (h : Bytes l) : Bytes (pbody E P i c l) := (leb_bytes _ _).append ((leb_bytes _ _).append ((leb_bytes _ _).append ((leb_bytes _ _).append h)))
theorem pbody_eq (E P i c : Nat) (l : List Int) : pbody E P i c l = (((leb 4 E ++ leb 4 P) ++ leb 2 i) ++ leb 2 c) ++ l := by
  simp only [pbody, List.append_assoc]

set_option maxRecDepth 20000 in
set_option maxHeartbeats 4000000 in
theorem body_any (E P i c : Nat) (a : Option Addr) (n k : Nat) (l : List Int) (w : World) (hs : Src w a n l) (hn : n ≤ 492) (hca : a = none → k = 0) :
    Calls Try.prog 56 #[pieceV E P i c a n k] w fun e w' => ∃ v, e = .returned v ∧ Own w' w.heap.size v (pbody E P i c l) ∧ Below w.heap.size w w' := by
  obtain ⟨i0, hi, hz0, hz1, hz2⟩ := info_parts infoU8
  have H := Hid.mk hs
  have hl := hs.1
  have HB := Hid.mk (below_box w (.cells (pieceC E P i c a n k) 74))
  obtain ⟨m, hm⟩ : ∃ m : Nat, m = 12 + n := ⟨_, rfl⟩
  have b4 : (4 : Int) ≤ (m : Int) := by omega
  have b8 : (8 : Int) ≤ (m : Int) := by omega
  have b10 : (10 : Int) ≤ (m : Int) := by omega
  have b12 : (12 : Int) ≤ (m : Int) := by omega
  have n4 : ¬ m = 4 := by omega
  have n8 : ¬ m = 8 := by omega
  have n10 : ¬ m = 10 := by omega
  have HM := Hid.mk hm
  rw [pbody_eq]
  obtain ⟨A, hA⟩ : ∃ A, A = (((leb 4 E ++ leb 4 P) ++ leb 2 i) ++ leb 2 c) := ⟨_, rfl⟩
  rw [← hA]
  have HA := Hid.mk hA
  clear hs hA hm
  go_enter Try.func56, Try.ntmps56
  go_wp2_with (at_make; refine wpList_make_part _ rfl _ _ rfl _ 12 m rfl rfl ?c1 ?c2 ?c3 ?_)
  case c1 => have := HM.out; omega
  case c2 => omega
  case c3 => have := HM.out; omega
  intro w1 hblk hb1
  have hbox : w1.heap[w.heap.size]? = some (.cells (pieceC E P i c a n k) 74 (0, 0)) := (hb1.block _ (by simp)).trans (heap_alloc_new _ _)
  have HB1 := Hid.mk (HB.out.trans (hb1.mono (by simp)))
  have hgz : w.heap.size + 1 < w1.heap.size := hblk.lt
  clear hb1
  have HX1 := Hid.mk hbox
  have HK1 := Hid.mk (HM.out ▸ hblk : Blk w1 5 (w.heap.size + 1) (zs (12 + n)))
  clear hblk
  have c0 := cell_of_block HX1.out (j := 0) rfl
  have e1 : put (zs (12 + n)) 0 (leb 4 E) = leb 4 E ++ zs (8 + n) := by
    have := put_zs ([] : List Int) (leb 4 E) (12 + n) (by rw [leb_len]; omega)
    simp only [leb_len, List.nil_append, List.length_nil] at this
    rw [show 12 + n - 4 = 8 + n by omega] at this
    exact this
  have hl1 := fun (cp : Nat) (wx : World) (hx : Blk wx 5 (w.heap.size + 1) (zs (12 + n))) => wlay_any (w.heap.size + 1) 0 4 cp E 5 (zs (12 + n)) wx hx (by omega) (by simp only [zs_len]; omega)
  rw [e1] at hl1
  have HL1 := Hid.mk hl1
  clear e1 hl1
  go_wp2_with fail
  go_region_with ((go_at_call 75; refine (HL1.out _ w1.drew HK1.out).mono ?_; rintro e w2 ⟨rfl, hb, hk, hz⟩; have hx := box_after (w := w1.drew) (w1 := w2) HX1.out hk (by omega)))
  have HX2 := Hid.mk hx
  have HK2 := Hid.mk hb
  have HB2 := Hid.mk ((below_drew HB1.out).trans (hk.below (B := w.heap.size) (fun j hj => by omega) (below_drew HB1.out).size))
  clear c0 HL1 hx hb hk hz
  have c1 := cell_of_block HX2.out (j := 1) rfl
  have e2 : put (leb 4 E ++ zs (8 + n)) 4 (leb 4 P) = (leb 4 E ++ leb 4 P) ++ zs (4 + n) := by
    have := put_zs (leb 4 E) (leb 4 P) (8 + n) (by rw [leb_len]; omega)
    simp only [leb_len] at this
    rw [show 8 + n - 4 = 4 + n by omega] at this
    exact this
  have hl2 := fun (cp : Nat) (wx : World) (hx : Blk wx 5 (w.heap.size + 1) (leb 4 E ++ zs (8 + n))) => wlay_any (w.heap.size + 1) 4 4 cp P 5 (leb 4 E ++ zs (8 + n)) wx hx (by omega) (by simp only [List.length_append, leb_len, zs_len]; omega)
  rw [e2] at hl2
  have HL2 := Hid.mk hl2
  clear e2 hl2
  go_wp2_with fail
  go_region_with ((go_at_call 75; refine (HL2.out _ w2.drew HK2.out).mono ?_; rintro e w3 ⟨rfl, hb, hk, hz⟩; have hx := box_after (w := w2.drew) (w1 := w3) HX2.out hk (by omega)))
  have HX3 := Hid.mk hx
  have HK3 := Hid.mk hb
  have HB3 := Hid.mk ((below_drew HB2.out).trans (hk.below (B := w.heap.size) (fun j hj => by omega) (below_drew HB2.out).size))
  clear c1 HL2 hx hb hk hz
  have c2 := cell_of_block HX3.out (j := 2) rfl
  have e3 : put ((leb 4 E ++ leb 4 P) ++ zs (4 + n)) 8 (leb 2 i) = ((leb 4 E ++ leb 4 P) ++ leb 2 i) ++ zs (2 + n) := by
    have := put_zs (leb 4 E ++ leb 4 P) (leb 2 i) (4 + n) (by rw [leb_len]; omega)
    simp only [List.length_append, leb_len, Nat.reduceAdd] at this
    rw [show 4 + n - 2 = 2 + n by omega] at this
    exact this
  have hl3 := fun (cp : Nat) (wx : World) (hx : Blk wx 5 (w.heap.size + 1) ((leb 4 E ++ leb 4 P) ++ zs (4 + n))) => wlay_any (w.heap.size + 1) 8 2 cp i 5 ((leb 4 E ++ leb 4 P) ++ zs (4 + n)) wx hx (by omega) (by simp only [List.length_append, leb_len, zs_len]; omega)
  rw [e3] at hl3
  have HL3 := Hid.mk hl3
  clear e3 hl3
  go_wp2_with fail
  go_region_with ((go_at_call 75; refine (HL3.out _ w3.drew HK3.out).mono ?_; rintro e w4 ⟨rfl, hb, hk, hz⟩; have hx := box_after (w := w3.drew) (w1 := w4) HX3.out hk (by omega)))
  have HX4 := Hid.mk hx
  have HK4 := Hid.mk hb
  have HB4 := Hid.mk ((below_drew HB3.out).trans (hk.below (B := w.heap.size) (fun j hj => by omega) (below_drew HB3.out).size))
  clear c2 HL3 hx hb hk hz
  have c3 := cell_of_block HX4.out (j := 3) rfl
  have e4 : put (((leb 4 E ++ leb 4 P) ++ leb 2 i) ++ zs (2 + n)) 10 (leb 2 c) = (((leb 4 E ++ leb 4 P) ++ leb 2 i) ++ leb 2 c) ++ zs (0 + n) := by
    have := put_zs ((leb 4 E ++ leb 4 P) ++ leb 2 i) (leb 2 c) (2 + n) (by rw [leb_len]; omega)
    simp only [List.length_append, leb_len, Nat.reduceAdd] at this
    rw [show 2 + n - 2 = 0 + n by omega] at this
    exact this
  have hl4 := fun (cp : Nat) (wx : World) (hx : Blk wx 5 (w.heap.size + 1) (((leb 4 E ++ leb 4 P) ++ leb 2 i) ++ zs (2 + n))) => wlay_any (w.heap.size + 1) 10 2 cp c 5 (((leb 4 E ++ leb 4 P) ++ leb 2 i) ++ zs (2 + n)) wx hx (by omega) (by simp only [List.length_append, leb_len, zs_len]; omega)
  rw [e4] at hl4
  have HL4 := Hid.mk hl4
  clear e4 hl4
  go_wp2_with fail
  go_region_with ((go_at_call 75; refine (HL4.out _ w4.drew HK4.out).mono ?_; rintro e w5 ⟨rfl, hb, hk, hz⟩; have hx := box_after (w := w4.drew) (w1 := w5) HX4.out hk (by omega)))
  have HX5 := Hid.mk hx
  have HK5 := Hid.mk hb
  have HB5 := Hid.mk ((below_drew HB4.out).trans (hk.below (B := w.heap.size) (fun j hj => by omega) (below_drew HB4.out).size))
  clear c3 HL4 hx hb hk hz
  have c4 := cell_of_block HX5.out (j := 4) rfl
  have hown : Own w5 w.heap.size (.slice (some ⟨w.heap.size + 1, 0, none⟩) (((leb 4 E ++ leb 4 P) ++ leb 2 i) ++ leb 2 c).length m) (((leb 4 E ++ leb 4 P) ++ leb 2 i) ++ leb 2 c) := own_blk HK5.out (by omega) (by simp only [List.length_append, leb_len, zs_len]; have := HM.out; omega) (by unfold maxLen; have := HM.out; omega)
  have hll : (((leb 4 E ++ leb 4 P) ++ leb 2 i) ++ leb 2 c).length = 12 := by simp only [List.length_append, leb_len]
  rw [hll] at hown
  have hrow : w5.ownsRow w.heap.size 5 1 (.slice (some ⟨w.heap.size + 1, 0, none⟩) 12 m) 12 (bs (((leb 4 E ++ leb 4 P) ++ leb 2 i) ++ leb 2 c)) := by
    have := hown
    unfold Own at this
    rwa [hll] at this
  have Hrow := Hid.mk hrow
  have Hown := Hid.mk hown
  have hz := HB5.out.size
  rw [← HA.out] at hll Hrow Hown
  clear hown hrow HX1 HX2 HX3 HX4 HK1 HK2 HK3 HK4 HK5 HB1 HB2 HB3 HB4 HB
  cases a with
  | none =>
    have hn0 : n = 0 := H.out.2.1 rfl
    subst hn0
    have hl0 : l = [] := List.eq_nil_of_length_eq_zero hl
    subst hl0
    have hc0 := hca rfl
    subst hc0
    go_wp2_with (at_builtin; refine wpList_append_own_none rfl _ _ 27 rfl w.heap.size 5 i0 1 Try.underlying27 hi _ 12 (bs A) rfl Hrow.out rfl ?_)
    go_ret
    exact ⟨_, rfl, by first | exact Hown.out | (rw [List.append_nil]; exact Hown.out), HB5.out⟩
  | some x =>
    have hcells := Hid.mk (fun j u (hj : (bs l)[j]? = some u) => show w5.cell? (x.add j) = some u by
      obtain ⟨hj1, rfl⟩ := bs_getElem hj
      exact cell_later HB5.out (H.out.2.2 _ rfl j (by omega)))
    have hll2 : (bs l).length = n := by rw [bs, List.length_map, hl]
    go_wp2_with (at_builtin; refine wpList_append_own _ rfl _ _ 27 rfl w.heap.size 5 i0 (.int .u8 0) 1 1 Try.underlying27 hi hz0 hz1 hz2 rfl (by decide) _ 12 (bs A) rfl Hrow.out x n k (bs l) rfl ?n0 hcells.out ?n2 ?n3 ?n4 ?n5 ?_)
    case n0 => omega
    case n2 => exact bs_one _
    case n3 => unfold maxLen; omega
    case n4 => omega
    case n5 => exact hz
    intro v' w6 hown' hgrow' _
    rw [← bs_append] at hown'
    have HO := Hid.mk (own_of (m := A ++ l) hown' (by rw [List.length_append, hll]; omega) rfl)
    have HB6 := Hid.mk (HB5.out.grown hgrow' hz (fun q e => (Hrow.out.lt q e).1))
    clear hown' hgrow'
    go_wp2
    go_ret
    exact ⟨_, rfl, HO.out, HB6.out⟩
end Go.Proofs.Ythdgndbmecnimaa
end

section
namespace Go.Proofs.Ythdgndbmecnimaa
open Go.RowKit

/-- A disk, whatever it was asked to read, whose map is block m. -/
def DiskRM (w : World) (F : Nat → Prop) (p s : Nat) (S : DS) (m : Nat) : Prop := ∃ r, DiskM w F p s (S.rds r) m

section
variable {w w' : World} {F G : Nat → Prop} {p s m : Nat} {S : DS}
theorem DiskRM.r (h : DiskRM w F p s S m) : DiskR w F p s S := by obtain ⟨r, h⟩ := h; exact ⟨r, h.at⟩
theorem DiskR.some_m (h : DiskR w F p s S) : ∃ m, DiskRM w F p s S m := by
  obtain ⟨r, h⟩ := h
  obtain ⟨m, h⟩ := h.m
  exact ⟨m, r, h⟩
theorem DiskRM.keep (h : DiskRM w F p s S m) (k : Keeps G w w') (hd : ∀ k, F k → ¬ G k) : DiskRM w' F p s S m := by obtain ⟨r, h⟩ := h; exact ⟨r, h.keep k hd⟩
theorem DiskRM.later (h : DiskRM w F p s S m) (hb : Below w.heap.size w w') : DiskRM w' F p s S m := h.keep (Keeps.of_below (fun _ => False) hb) (fun _ _ h => h)
theorem DiskRM.mono (h : DiskRM w F p s S m) (hG : ∀ k, F k → G k) (hl : ∀ k, G k → k < w.heap.size) : DiskRM w G p s S m := by obtain ⟨r, h⟩ := h; exact ⟨r, h.mono hG hl⟩
theorem mread (h : DiskRM w F p s S m) (k : Nat) (hk : k < s) (hbig : S.puts.length + 1 ≤ 4000000000000) (hf : S.fuse ≠ 0) :
    Calls Try.prog 54 #[.pointer (some ⟨p, 0, none⟩), .int .i64 (k : Int)] w fun e w' => ∃ g c, e = .returned (.tuple #[.slice (some ⟨g, 0, none⟩) 512 c, .int .i64 0]) ∧ w.heap.size ≤ g ∧ RowAt w' 5 g c (bs (S.now k)) ∧ DiskRM w' F p s S m ∧ Keeps F w w' := by
  obtain ⟨r, h⟩ := h
  refine (read_okm h k hf hk (by show S.puts.length ≤ _; omega)).mono ?_
  rintro e w' ⟨g, c, h1, h2, h3, h4, h5⟩
  exact ⟨g, c, h1, h2, h3, ⟨_, h4⟩, h5⟩
theorem wr_in {S : DS} {s k : Nat} (hf : S.fuse ≠ 0) (hk : k < s) (l : List Int) : S.wr s (k : Int) 512 l = (0, (S.put k l).wrote.spend) := by
  unfold DS.wr
  rw [if_neg hf, if_neg (by omega), if_neg (by omega), Int.toNat_natCast]
theorem mwrite (h : DiskRM w F p s S m) (k : Nat) (hk : k < s) (hbig : S.puts.length + 1 ≤ 4000000000000) (hf : S.fuse ≠ 0) (x : Addr) (c : Nat) (l : List Int) (hs : Src w (some x) 512 l) :
    Calls Try.prog 57 #[.pointer (some ⟨p, 0, none⟩), .int .i64 (k : Int), .slice (some x) 512 c] w fun e w' => e = .returned (.int .i64 0) ∧ DiskRM w' (more F w w') p s (S.wr s (k : Int) 512 l).2 m ∧ Keeps F w w' := by
  obtain ⟨r, h⟩ := h
  refine (write_okm h k hk hf (by show S.puts.length + 1 ≤ _; omega) x c l hs).mono ?_
  rintro e w' ⟨h1, h2, h3⟩
  refine ⟨h1, ⟨r, ?_⟩, h3⟩
  rw [wr_in hf hk]
  exact h2
end

/-- What the laying of one piece does. -/
def aput (S : DS) (s f n E P i c : Nat) (part : List Int) : Int × DS :=
  if S.fuse = 0 then (3, S) else S.wr s ((f + 2 + P % n : Nat) : Int) 512 (sseal (S.now (f + 2 + P % n)) (pbody E P i c part)).1
theorem sseal_full {old body : List Int} (h1 : old.length = 512) (h2 : body.length ≤ 504) : (sseal old body).2 = 0 ∧ (sseal old body).1.length = 512 := by
  unfold sseal
  rw [if_neg (by omega), if_neg (by omega)]
  exact ⟨rfl, sform_len h2⟩

theorem Src.avoid {w w' : World} {a : Option Addr} {n : Nat} {l : List Int} {F : Nat → Prop} (h : Src w a n l) (hk : Keeps F w w') (ha : ∀ y, a = some y → 0 < n → ¬ F y.block) : Src w' a n l :=
  ⟨h.1, h.2.1, fun x hx i hi => by
    have h0 := h.2.2 x hx i hi
    have hb : (x.add i).block = x.block := by unfold Addr.add; split <;> rfl
    rw [World.cell?_of_block (w := w) (hk.block _ (World.block_lt_of_cell? _ _ h0) (fun hf => by rw [hb] at hf; exact ha x hx (by omega) hf))]
    exact h0⟩
theorem below_two (w : World) (o1 o2 : Obj) : Below w.heap.size w ((w.alloc o1).alloc o2) := ((Below.refl _ _).alloc (Nat.le_refl _) _).alloc (by simp) _

set_option maxRecDepth 20000 in
set_option maxHeartbeats 8000000 in
theorem put_any {w : World} {F : Nat → Prop} {p s m : Nat} {S : DS} (h : DiskRM w F p s S m) (f n E P i c : Nat) (a : Option Addr) (x k : Nat) (l : List Int) (hs : Src w a x l) (hFs : ∀ y, a = some y → 0 < x → ¬ F y.block) (hb : Bytes l) (hx : x ≤ 492) (hca : a = none → k = 0) (hn : 1 ≤ n) (hfn : f + 2 + n ≤ s) (hbig : S.puts.length + 2 ≤ 4000000000000) :
    Calls Try.prog 37 #[areaV p f n, pieceV E P i c a x k] w fun e w' => e = .returned (.int .i64 (aput S s f n E P i c l).1) ∧ DiskRM w' (more F w w') p s (aput S s f n E P i c l).2 m ∧ Keeps F w w' := by
  have hss := h.r.ok.hi
  have hok := h.r.ok
  have HLt := Hid.mk h.r.lt
  have hFa : ¬ F w.heap.size := fun h1 => by have := h.r.lt _ h1; omega
  have hFb : ¬ F (w.heap.size + 1) := fun h1 => by have := h.r.lt _ h1; omega
  have HN := Hid.mk (And.intro hFa hFb)
  have hmod : P % n < n := Nat.mod_lt _ hn
  have hB := below_two w (.cells #[.pointer (some ⟨p, 0, none⟩), .int .i64 f, .int .i64 n] 64) (.cells (pieceC E P i c a x k) 74)
  have hxA : ((w.alloc (.cells #[.pointer (some ⟨p, 0, none⟩), .int .i64 f, .int .i64 n] 64)).alloc (.cells (pieceC E P i c a x k) 74)).heap[w.heap.size]? = some (.cells #[.pointer (some ⟨p, 0, none⟩), .int .i64 f, .int .i64 n] 64 (0, 0)) := (Below.heap_alloc _ _ _ (by simp)).trans (heap_alloc_new _ _)
  have hxP : ((w.alloc (.cells #[.pointer (some ⟨p, 0, none⟩), .int .i64 f, .int .i64 n] 64)).alloc (.cells (pieceC E P i c a x k) 74)).heap[w.heap.size + 1]? = some (.cells (pieceC E P i c a x k) 74 (0, 0)) := by
    have := heap_alloc_new (w.alloc (.cells #[.pointer (some ⟨p, 0, none⟩), .int .i64 f, .int .i64 n] 64)) (.cells (pieceC E P i c a x k) 74)
    rwa [World.size_alloc] at this
  have hd0 := h.later hB
  have hs0 := hs.later hB
  have h1 := fun wx => aat_any p f n P wx (by omega) (by omega) (by omega) (by omega) (by omega)
  have HB := Hid.mk hB
  have HXA := Hid.mk hxA
  have HXP := Hid.mk hxP
  have HD := Hid.mk hd0
  have HS := Hid.mk hs0
  have HFs := Hid.mk hFs
  clear h hB hxA hxP hd0 hs0 hs hFa hFb hFs
  unfold aput
  by_cases q : S.fuse = 0
  · rw [if_pos q]
    go_enter Try.func37, Try.ntmps37
    go_wp2_with fail
    refine (h1 _).mono ?_
    rintro e w1 ⟨rfl, hb1⟩
    have hxA := (hb1.block _ (by simp; omega)).trans HXA.out
    have c0 := cell_of_block hxA (j := 0) rfl
    have h2 := dread_dead (HD.out.later hb1).r ((f : Int) + 2 + (P : Int) % (n : Int)) q
    have HZ := Hid.mk (And.intro (((HD.out.later hb1).mono (G := more F w w1) (fun _ h => .inl h) (more_lt HLt.out (HB.out.trans (hb1.mono HB.out.size)).size))) (Keeps.of_below F (HB.out.trans (hb1.mono HB.out.size))))
    clear h1 hb1 hxA
    go_wp2_with fail
    refine h2.mono ?_
    rintro e w2 ⟨rfl, rfl⟩
    clear h2
    go_wp2
    go_ret
    exact ⟨rfl, HZ.out⟩
  · rw [if_neg q]
    have hnl := now_len hok (f + 2 + P % n) (by omega)
    have hlx := HS.out.1
    have hso := sseal_full (old := S.now (f + 2 + P % n)) (body := pbody E P i c l) hnl (by rw [pbody_len]; omega)
    obtain ⟨Y, hY⟩ : ∃ Y, Y = sseal (S.now (f + 2 + P % n)) (pbody E P i c l) := ⟨_, rfl⟩
    rw [← hY] at hso ⊢
    have HY := Hid.mk hY
    clear hY
    have e1 : (f : Int) + 2 + (P : Int) % (n : Int) = ((f + 2 + P % n : Nat) : Int) := by omega
    rw [e1] at h1
    have HW1 := Hid.mk (wr_in q (show f + 2 + P % n < s by omega) Y.1)
    clear e1
    go_enter Try.func37, Try.ntmps37
    go_wp2_with fail
    refine (h1 _).mono ?_
    rintro e w1 ⟨rfl, hb1⟩
    have hxA := (hb1.block _ (by simp; omega)).trans HXA.out
    have hxP := (hb1.block _ (by simp)).trans HXP.out
    have c0 := cell_of_block hxA (j := 0) rfl
    have h2 := mread (HD.out.later hb1) (f + 2 + P % n) (by omega) (by omega) q
    have HB1 := Hid.mk (HB.out.trans (hb1.mono HB.out.size))
    have HS1 := Hid.mk (HS.out.later hb1)
    have HXA1 := Hid.mk hxA
    have HXP1 := Hid.mk hxP
    have HLt1 : Hid (∀ k, F k → k < w1.heap.size) := fun k hk => Nat.lt_of_lt_of_le (HLt.out k hk) HB1.out.size
    clear h1 hb1 hxA hxP
    go_wp2_with fail
    refine h2.mono ?_
    rintro e w2 ⟨g, cg, rfl, hg, hr, hd2, hk2⟩
    have hxA := box_after HXA1.out hk2 HN.out.1
    have hxP := box_after HXP1.out hk2 HN.out.2
    have q0 : w2.cell? ⟨w.heap.size + 1, 0, none⟩ = some (.int .i64 (E : Int)) := cell_of_block hxP (j := 0) rfl
    have q1 : w2.cell? ⟨w.heap.size + 1, 1, none⟩ = some (.int .i64 (P : Int)) := cell_of_block hxP (j := 1) rfl
    have q2 : w2.cell? ⟨w.heap.size + 1, 2, none⟩ = some (.int .i64 (i : Int)) := cell_of_block hxP (j := 2) rfl
    have q3 : w2.cell? ⟨w.heap.size + 1, 3, none⟩ = some (.int .i64 (c : Int)) := cell_of_block hxP (j := 3) rfl
    have q4 : w2.cell? ⟨w.heap.size + 1, 4, none⟩ = some (.slice a x k) := cell_of_block hxP (j := 4) rfl
    have hsrc2 : Src w2 a x l := HS1.out.avoid hk2 HFs.out
    have h3 := body_any E P i c a x k l w2 hsrc2 hx hca
    have hrs := hr.src
    rw [hnl] at hrs
    have HR := Hid.mk hrs
    have HD2 := Hid.mk hd2
    have HK2 := Hid.mk ((Keeps.of_below F HB1.out).trans hk2 (fun _ h => .inl h))
    have HXA2 := Hid.mk hxA
    clear h2 hr hrs hd2 hk2 hxA hxP hsrc2
    go_wp2_with fail
    refine h3.mono ?_
    rintro e w3 ⟨v, rfl, ho3, hb3⟩
    obtain ⟨a3, c3, rfl, hs3, _, _⟩ := ho3.src
    have h4 := seal_any (some ⟨g, 0, none⟩) 512 cg (S.now (f + 2 + P % n)) a3 _ c3 (pbody E P i c l) w3 (HR.out.later hb3) hs3 (pbody_bytes hb)
    rw [← HY.out, hso.1] at h4
    have HD3 := Hid.mk (HD2.out.later hb3)
    have HK3 := Hid.mk (HK2.out.trans (Keeps.of_below (fun _ => False) hb3) (fun _ h => h.elim))
    have HXA3 := Hid.mk ((hb3.block _ (lt_there HXA2.out)).trans HXA2.out)
    clear h3 ho3 hb3 hs3
    go_wp2_with fail
    refine h4.mono ?_
    rintro e w4 ⟨v4, rfl, ⟨a4, c4, rfl, hs4, _, _⟩, hb4⟩
    have hxA := (hb4.block _ (lt_there HXA3.out)).trans HXA3.out
    have c0 := cell_of_block hxA (j := 0) rfl
    rw [hso.2] at hs4 ⊢
    obtain ⟨b5, o5, rfl⟩ := src_spot hs4 (by omega)
    have h5 := mwrite (HD3.out.later hb4) (f + 2 + P % n) (by omega) (by omega) q ⟨b5, o5, none⟩ c4 Y.1 hs4
    have HK4 := Hid.mk (HK3.out.trans (Keeps.of_below (fun _ => False) hb4) (fun _ h => h.elim))
    clear h4 hb4 hs4 hxA
    go_wp2_with fail
    refine h5.mono ?_
    rintro e w5 ⟨rfl, hd5, hk5⟩
    have hz4 := HK4.out.size
    have hz5 := hk5.size
    have HZ := Hid.mk (And.intro ((hd5.mono (G := more F w w5) (fun k hk => by
        rcases hk with hk | hk
        · exact .inl hk
        · exact .inr ⟨by omega, hk.2⟩) (more_lt HLt.out (by omega)))) (HK4.out.trans hk5 (fun _ h => .inl h)))
    clear h5 hd5 hk5
    go_wp2
    go_ret
    rw [HW1.out] at HZ ⊢
    exact ⟨rfl, HZ.out⟩
end Go.Proofs.Ythdgndbmecnimaa
end

section
namespace Go.Proofs.Ythdgndbmecnimaa
open Go.RowKit

theorem src_at {w : World} {b o n : Nat} {l : List Int} (h : Src w (some ⟨b, o, none⟩) n l) (x y : Nat) (hxy : x + y ≤ n) : ∀ i, i < y → w.cell? ⟨b, o + x + i, none⟩ = some (.int .u8 (((l.drop x).take y).getD i 0)) := by
  intro i hi
  have := h.2.2 _ rfl (x + i) (by omega)
  rw [addr_add] at this
  rw [Nat.add_assoc, this]
  congr 2
  simp [List.getD, hi, List.getElem?_drop]
theorem src_piece {w : World} {b o n : Nat} {l : List Int} (h : Src w (some ⟨b, o, none⟩) n l) (x y : Nat) (hxy : x + y ≤ n) : Src w (some ⟨b, o + x, none⟩) y ((l.drop x).take y) :=
  ⟨by have := h.1; simp; omega, (fun e => by cases e), fun z hz i hi => by cases hz; rw [addr_add]; exact src_at h x y hxy i hi⟩

theorem keeps_set5 (w1 : World) (b : Nat) (v0 v1 v2 v3 v4 : Value) : Keeps (fun k => k = b) w1 (((((w1.setCell ⟨b, 0, none⟩ v0).setCell ⟨b, 1, none⟩ v1).setCell ⟨b, 2, none⟩ v2).setCell ⟨b, 3, none⟩ v3).setCell ⟨b, 4, none⟩ v4) :=
  ((((keeps_set (F := fun k => k = b) w1 rfl 0 v0).trans (keeps_set (F := fun k => k = b) _ rfl 1 v1) (fun _ h => .inl h)).trans (keeps_set (F := fun k => k = b) _ rfl 2 v2) (fun _ h => .inl h)).trans (keeps_set (F := fun k => k = b) _ rfl 3 v3) (fun _ h => .inl h)).trans (keeps_set (F := fun k => k = b) _ rfl 4 v4) (fun _ h => .inl h)
theorem heap_drewn (w : World) (b : Nat) : (World.drew w).heap[b]? = w.heap[b]? := rfl
theorem set5_drew {w : World} {b : Nat} {t : TypeId} {a0 a1 a2 a3 a4 : Value} (v0 v1 v2 v3 v4 : Value) (h : w.heap[b]? = some (.cells #[a0, a1, a2, a3, a4] t (0, 0))) :
    (World.drew (((((w.setCell ⟨b, 0, none⟩ v0).setCell ⟨b, 1, none⟩ v1).setCell ⟨b, 2, none⟩ v2).setCell ⟨b, 3, none⟩ v3).setCell ⟨b, 4, none⟩ v4)).heap[b]? = some (.cells #[v0, v1, v2, v3, v4] t (0, 0)) := (heap_drewn _ _).trans (set5 v0 v1 v2 v3 v4 h)
theorem infoPiece : (Try.prog.info? 74).map (·.size) = some 5 := by kernel_rfl
theorem below_set5 {B : Nat} {w w1 : World} (h : Below B w w1) {b : Nat} (hb : B ≤ b) (v0 v1 v2 v3 v4 : Value) : Below B w (((((w1.setCell ⟨b, 0, none⟩ v0).setCell ⟨b, 1, none⟩ v1).setCell ⟨b, 2, none⟩ v2).setCell ⟨b, 3, none⟩ v3).setCell ⟨b, 4, none⟩ v4) :=
  ((((h.setCell (p := ⟨b, 0, none⟩) hb _).setCell (p := ⟨b, 1, none⟩) hb _).setCell (p := ⟨b, 2, none⟩) hb _).setCell (p := ⟨b, 3, none⟩) hb _).setCell (p := ⟨b, 4, none⟩) hb _

set_option maxRecDepth 20000 in
set_option maxHeartbeats 4000000 in
theorem pieceOf_no (a : Option Addr) (n c : Nat) (l : List Int) (w : World) (hs : Src w a n l) (hb : Bytes l) (hq : (sopens l).2 ≠ 0 ∨ (sopens l).1.length < 12) :
    Calls Try.prog 77 #[.slice a n c] w fun e w' => e = .returned (pieceV 0 0 0 0 none 0 0) ∧ Below w.heap.size w w' := by
  have h1 := sopen_any a n c l (w.alloc (.cells (pieceC 0 0 0 0 none 0 0) 74)) (hs.later (below_box _ _)) hb
  have HB := Hid.mk (below_box w (.cells (pieceC 0 0 0 0 none 0 0) 74))
  generalize sopens l = Y at *
  clear hs hb
  by_cases q : Y.2 = 0
  · have q2 : (Y.1.length : Int) < 12 := by omega
    rw [q] at h1
    clear hq
    go_enter Try.func77, Try.ntmps77
    go_wp2_with fail
    refine h1.mono ?_
    rintro e w1 ⟨v, rfl, ⟨a1, c1, rfl, hs1, _, _⟩, hb1⟩
    have hx : w1.heap[w.heap.size]? = some (.cells (pieceC 0 0 0 0 none 0 0) 74 (0, 0)) := (hb1.block _ (by simp)).trans (heap_alloc_new _ _)
    have HB1 := Hid.mk (HB.out.trans (hb1.mono (by simp)))
    have f := fun j => frozen_of_block hx j
    have k0 := cell_of_block hx (j := 0) rfl
    have k1 := cell_of_block hx (j := 1) rfl
    have k2 := cell_of_block hx (j := 2) rfl
    have k3 := cell_of_block hx (j := 3) rfl
    have k4 := cell_of_block hx (j := 4) rfl
    have HX := Hid.mk hx
    clear hb1 hs1 h1 hx
    go_wp2
    exact bodyPost_ret (results_cell_row (P := Try.prog) rfl _ _ w.heap.size 74 _ (0, 0) _ rfl (set5 _ _ _ _ _ HX.out) Try.underlying74 rfl infoPiece) rfl ⟨rfl, below_set5 HB1.out (Nat.le_refl _) _ _ _ _ _⟩
  · have q2 : (((Y.2 : Nat) : Int) == 0) = false := by rw [beq_eq_false_iff_ne]; omega
    clear hq
    go_enter Try.func77, Try.ntmps77
    go_wp2_with fail
    refine h1.mono ?_
    rintro e w1 ⟨v, rfl, ⟨a1, c1, rfl, hs1, _, _⟩, hb1⟩
    have hx : w1.heap[w.heap.size]? = some (.cells (pieceC 0 0 0 0 none 0 0) 74 (0, 0)) := (hb1.block _ (by simp)).trans (heap_alloc_new _ _)
    have HB1 := Hid.mk (HB.out.trans (hb1.mono (by simp)))
    have f := fun j => frozen_of_block hx j
    have k0 := cell_of_block hx (j := 0) rfl
    have k1 := cell_of_block hx (j := 1) rfl
    have k2 := cell_of_block hx (j := 2) rfl
    have k3 := cell_of_block hx (j := 3) rfl
    have k4 := cell_of_block hx (j := 4) rfl
    have HX := Hid.mk hx
    clear hb1 hs1 h1 hx
    go_wp2
    exact bodyPost_ret (results_cell_row (P := Try.prog) rfl _ _ w.heap.size 74 _ (0, 0) _ rfl (set5 _ _ _ _ _ HX.out) Try.underlying74 rfl infoPiece) rfl ⟨rfl, below_set5 HB1.out (Nat.le_refl _) _ _ _ _ _⟩

set_option maxRecDepth 20000 in
set_option maxHeartbeats 4000000 in
theorem pieceOf_ok (a : Option Addr) (n c : Nat) (l : List Int) (w : World) (hs : Src w a n l) (hb : Bytes l) (hq : (sopens l).2 = 0) (hq2 : 12 ≤ (sopens l).1.length) :
    Calls Try.prog 77 #[.slice a n c] w fun e w' => ∃ a' k, e = .returned (pieceV ((pcBody (sopens l).1).e : Int) ((pcBody (sopens l).1).p : Int) ((pcBody (sopens l).1).i : Int) ((pcBody (sopens l).1).c : Int) a' (pcBody (sopens l).1).d.length k) ∧ Src w' a' (pcBody (sopens l).1).d.length (pcBody (sopens l).1).d ∧ (∀ y, a' = some y → w.heap.size < y.block) ∧ Below w.heap.size w w' := by
  have h1 := sopen_any a n c l (w.alloc (.cells (pieceC 0 0 0 0 none 0 0) 74)) (hs.later (below_box _ _)) hb
  have HB := Hid.mk (below_box w (.cells (pieceC 0 0 0 0 none 0 0) 74))
  have hyb := so_bytes hb
  rw [hq] at h1
  generalize (sopens l).1 = Y at *
  have hx12 : ¬ (Y.length : Int) < 12 := by omega
  clear hs hb hq
  go_enter Try.func77, Try.ntmps77
  go_wp2_with fail
  refine h1.mono ?_
  rintro e w1 ⟨v, rfl, ⟨a1, c1, rfl, hs1, hc1, hlo⟩, hb1⟩
  obtain ⟨b, o, rfl⟩ := src_spot hs1 (by omega)
  have hlo' := hlo _ rfl
  have hx : w1.heap[w.heap.size]? = some (.cells (pieceC 0 0 0 0 none 0 0) 74 (0, 0)) := (hb1.block _ (by simp)).trans (heap_alloc_new _ _)
  have HB1 := Hid.mk (HB.out.trans (hb1.mono (by simp)))
  have f := fun j => frozen_of_block hx j
  have k0 := cell_of_block hx (j := 0) rfl
  have k1 := cell_of_block hx (j := 1) rfl
  have k2 := cell_of_block hx (j := 2) rfl
  have k3 := cell_of_block hx (j := 3) rfl
  have k4 := cell_of_block hx (j := 4) rfl
  have t1 := fun wx (hw : ∀ a, World.cell? wx a = w1.cell? a) cp => wtaken_any b o 4 cp (Y.take 4) wx (hyb.take 4) (by simp; omega) (by omega) (fun i hi => (hw _).trans (by have := src_at hs1 0 4 (by omega) i hi; rwa [List.drop_zero, Nat.add_zero] at this))
  have t2 := fun wx (hw : ∀ a, World.cell? wx a = w1.cell? a) cp => wtaken_any b (o + 4) 4 cp ((Y.drop 4).take 4) wx ((hyb.drop 4).take 4) (by simp; omega) (by omega) (fun i hi => (hw _).trans (src_at hs1 4 4 (by omega) i hi))
  have t3 := fun wx (hw : ∀ a, World.cell? wx a = w1.cell? a) cp => wtaken_any b (o + 8) 2 cp ((Y.drop 8).take 2) wx ((hyb.drop 8).take 2) (by simp; omega) (by omega) (fun i hi => (hw _).trans (src_at hs1 8 2 (by omega) i hi))
  have t4 := fun wx (hw : ∀ a, World.cell? wx a = w1.cell? a) cp => wtaken_any b (o + 10) 2 cp ((Y.drop 10).take 2) wx ((hyb.drop 10).take 2) (by simp; omega) (by omega) (fun i hi => (hw _).trans (src_at hs1 10 2 (by omega) i hi))
  have b4 : (4 : Int) ≤ (c1 : Int) := by omega
  have b8 : (8 : Int) ≤ (c1 : Int) := by omega
  have b10 : (10 : Int) ≤ (c1 : Int) := by omega
  have b12 : (12 : Int) ≤ (c1 : Int) := by omega
  have d12 : (12 : Int) ≤ (Y.length : Int) := by omega
  have dl : (Y.length : Int) ≤ (c1 : Int) := by omega
  have n0 : ¬ c1 = 0 := by omega
  have n4 : ¬ c1 = 4 := by omega
  have n8 : ¬ c1 = 8 := by omega
  have n10 : ¬ c1 = 10 := by omega
  have T1 := Hid.mk t1
  have T2 := Hid.mk t2
  have T3 := Hid.mk t3
  have T4 := Hid.mk t4
  have HS1 := Hid.mk hs1
  have HX := Hid.mk hx
  clear hb1 hs1 h1 t1 t2 t3 t4 hx
  by_cases n12 : c1 = 12
  · have hl12 : Y.length = 12 := by omega
    have HLen : Hid ((pcBody Y).d = []) := List.eq_nil_of_length_eq_zero (by simp [pcBody, hl12])
    subst n12
    rw [hl12] at *
    clear b4 b8 b10 b12 d12 dl n0 n4 n8 n10
    go_wp2_with fail
    go_region_held3 (fun _ => True) (trivial)
      (first
        | (go_at_call 91; refine (T1.out w1.drew (fun _ => rfl) 12).mono ?_; clear T1; rintro e w2 ⟨rfl, hw⟩; subst hw)
        | (go_at_call 91; refine (T2.out w1.drew (fun _ => rfl) (8)).mono ?_; clear T2; rintro e w2 ⟨rfl, hw⟩; subst hw)
        | (go_at_call 91; refine (T3.out w1.drew (fun _ => rfl) (4)).mono ?_; clear T3; rintro e w2 ⟨rfl, hw⟩; subst hw)
        | (go_at_call 91; refine (T4.out w1.drew (fun _ => rfl) (2)).mono ?_; clear T4; rintro e w2 ⟨rfl, hw⟩; subst hw))
    go_wp2
    refine bodyPost_ret (results_cell_row (P := Try.prog) rfl _ _ w.heap.size 74 _ (0, 0) _ rfl (set5_drew _ _ _ _ _ HX.out) Try.underlying74 rfl infoPiece) rfl ⟨some ⟨b, o, none⟩, 0, ?_, ?_, ?_, below_drew (below_set5 HB1.out (Nat.le_refl _) _ _ _ _ _)⟩
    · rw [HLen.out]
      rfl
    · rw [HLen.out]
      exact ⟨rfl, fun _ => rfl, fun x hx i hi => by cases hi⟩
    · intro y hy
      cases hy
      simp at hlo'
      show w.heap.size < b
      omega
  · go_wp2_with fail
    go_region_held3 (fun _ => True) (trivial)
      (first
        | (go_at_call 91; refine (T1.out w1.drew (fun _ => rfl) c1).mono ?_; clear T1; rintro e w2 ⟨rfl, hw⟩; subst hw)
        | (go_at_call 91; refine (T2.out w1.drew (fun _ => rfl) (c1 - 4)).mono ?_; clear T2; rintro e w2 ⟨rfl, hw⟩; subst hw)
        | (go_at_call 91; refine (T3.out w1.drew (fun _ => rfl) (c1 - 8)).mono ?_; clear T3; rintro e w2 ⟨rfl, hw⟩; subst hw)
        | (go_at_call 91; refine (T4.out w1.drew (fun _ => rfl) (c1 - 10)).mono ?_; clear T4; rintro e w2 ⟨rfl, hw⟩; subst hw))
    go_wp2
    have hdl : (pcBody Y).d.length = Y.length - 12 := by simp [pcBody]
    refine bodyPost_ret (results_cell_row (P := Try.prog) rfl _ _ w.heap.size 74 _ (0, 0) _ rfl (set5_drew _ _ _ _ _ HX.out) Try.underlying74 rfl infoPiece) rfl ⟨some ⟨b, o + 12, none⟩, c1 - 12, ?_, ?_, ?_, below_drew (below_set5 HB1.out (Nat.le_refl _) _ _ _ _ _)⟩
    · rw [hdl]
      rfl
    · rw [hdl]
      have h1 := src_piece HS1.out 12 (Y.length - 12) (by omega)
      rw [List.take_of_length_le (by simp)] at h1
      have h2 := h1.avoid (keeps_set5 w1 w.heap.size (.int .i64 ((le (Y.take 4) : Nat) : Int)) (.int .i64 ((le ((Y.drop 4).take 4) : Nat) : Int)) (.int .i64 ((le ((Y.drop 8).take 2) : Nat) : Int)) (.int .i64 ((le ((Y.drop 10).take 2) : Nat) : Int)) (.slice (some ⟨b, o + 12, none⟩) (Y.length - 12) (c1 - 12))) (fun y hy _ e => by cases hy; simp at hlo' e; omega)
      exact h2.later (below_drew (Below.refl _ _))
    · intro y hy
      cases hy
      simp at hlo'
      show w.heap.size < b
      omega
end Go.Proofs.Ythdgndbmecnimaa
end

section
namespace Go.Proofs.Ythdgndbmecnimaa
open Go.RowKit

theorem pieceOf_any (a : Option Addr) (n c : Nat) (l : List Int) (w : World) (hs : Src w a n l) (hb : Bytes l) :
    Calls Try.prog 77 #[.slice a n c] w fun e w' => ∃ a' k, e = .returned (pieceV ((pcOf l).e : Int) ((pcOf l).p : Int) ((pcOf l).i : Int) ((pcOf l).c : Int) a' (pcOf l).d.length k) ∧ Src w' a' (pcOf l).d.length (pcOf l).d ∧ (∀ y, a' = some y → w.heap.size < y.block) ∧ Below w.heap.size w w' := by
  by_cases q : (sopens l).2 ≠ 0 ∨ (sopens l).1.length < 12
  · refine (pieceOf_no a n c l w hs hb q).mono ?_
    rintro e w' ⟨rfl, hb'⟩
    unfold pcOf
    rw [if_pos q]
    exact ⟨none, 0, rfl, ⟨rfl, fun _ => rfl, fun x hx => by cases hx⟩, fun y hy => (by cases hy), hb'⟩
  · refine (pieceOf_ok a n c l w hs hb (by omega) (by omega)).mono ?_
    rintro e w' h
    unfold pcOf
    rw [if_neg q]
    exact h

/-- A piece in its place of a ring. -/
def PieceAt (w : World) (B g i : Nat) (q : PC) : Prop :=
  ∃ a k, w.cell? ⟨g, i * 5, none⟩ = some (.int .i64 (q.e : Int)) ∧ w.cell? ⟨g, i * 5 + 1, none⟩ = some (.int .i64 (q.p : Int)) ∧ w.cell? ⟨g, i * 5 + 2, none⟩ = some (.int .i64 (q.i : Int)) ∧ w.cell? ⟨g, i * 5 + 3, none⟩ = some (.int .i64 (q.c : Int)) ∧
    w.cell? ⟨g, i * 5 + 4, none⟩ = some (.slice a q.d.length k) ∧ Src w a q.d.length q.d ∧ ∀ y, a = some y → B ≤ y.block
theorem PieceAt.keep {w w' : World} {B g i : Nat} {q : PC} {F : Nat → Prop} (h : PieceAt w B g i q) (hk : Keeps F w w') (hg : ¬ F g) (hF : ∀ k, F k → k < B) : PieceAt w' B g i q := by
  obtain ⟨a, k, h0, h1, h2, h3, h4, h5, h6⟩ := h
  have e : ∀ o v, w.cell? ⟨g, o, none⟩ = some v → w'.cell? ⟨g, o, none⟩ = some v := fun o v hv => by
    have hb := World.block_lt_of_cell? _ _ hv
    exact (World.cell?_of_block (w := w) (a := ⟨g, o, none⟩) (hk.block g hb hg)).trans hv
  exact ⟨a, k, e _ _ h0, e _ _ h1, e _ _ h2, e _ _ h3, e _ _ h4, h5.avoid hk (fun y hy _ hf => by have := h6 y hy; have := hF _ hf; omega), h6⟩
theorem PieceAt.later {w w' : World} {B g i : Nat} {q : PC} (h : PieceAt w B g i q) (hb : Below w.heap.size w w') : PieceAt w' B g i q := h.keep (Keeps.of_below (fun _ => False) hb) (fun h => h) (fun _ h => h.elim)

theorem infoPiece3 : (Try.prog.info? 74).map (fun i => (i.zero, i.size, i.bytes)) = some (some (pieceV 0 0 0 0 none 0 0), 5, 56) := by kernel_rfl

/-- The five cells of a piece that is stored. -/
theorem cell_set5 {w : World} {g j : Nat} {T : TypeId} {cur : Array Value} (hg : w.heap[g]? = some (.cells cur T (0, 0))) (hj : j + 5 ≤ cur.size) (v0 v1 v2 v3 v4 : Value) :
    ∃ cur', (((((w.setCell ⟨g, j, none⟩ v0).setCell ⟨g, j + 1, none⟩ v1).setCell ⟨g, j + 2, none⟩ v2).setCell ⟨g, j + 3, none⟩ v3).setCell ⟨g, j + 4, none⟩ v4).heap[g]? = some (.cells cur' T (0, 0)) ∧ cur'.size = cur.size ∧
      cur'[j]? = some v0 ∧ cur'[j + 1]? = some v1 ∧ cur'[j + 2]? = some v2 ∧ cur'[j + 3]? = some v3 ∧ cur'[j + 4]? = some v4 ∧ ∀ o, o < j ∨ j + 5 ≤ o → cur'[o]? = cur[o]? := by
  have h0 := heap_setCell_same w g j _ T v0 hg
  have h1 := heap_setCell_same _ g (j + 1) _ T v1 h0
  have h2 := heap_setCell_same _ g (j + 2) _ T v2 h1
  have h3 := heap_setCell_same _ g (j + 3) _ T v3 h2
  have h4 := heap_setCell_same _ g (j + 4) _ T v4 h3
  refine ⟨_, h4, by simp, ?_, ?_, ?_, ?_, ?_, ?_⟩
  · rw [Array.getElem?_setIfInBounds_ne (by omega), Array.getElem?_setIfInBounds_ne (by omega), Array.getElem?_setIfInBounds_ne (by omega), Array.getElem?_setIfInBounds_ne (by omega), Array.getElem?_setIfInBounds_self_of_lt (by omega)]
  · rw [Array.getElem?_setIfInBounds_ne (by omega), Array.getElem?_setIfInBounds_ne (by omega), Array.getElem?_setIfInBounds_ne (by omega), Array.getElem?_setIfInBounds_self_of_lt (by simp; omega)]
  · rw [Array.getElem?_setIfInBounds_ne (by omega), Array.getElem?_setIfInBounds_ne (by omega), Array.getElem?_setIfInBounds_self_of_lt (by simp; omega)]
  · rw [Array.getElem?_setIfInBounds_ne (by omega), Array.getElem?_setIfInBounds_self_of_lt (by simp; omega)]
  · rw [Array.getElem?_setIfInBounds_self_of_lt (by simp; omega)]
  · intro o ho
    rw [Array.getElem?_setIfInBounds_ne (by omega), Array.getElem?_setIfInBounds_ne (by omega), Array.getElem?_setIfInBounds_ne (by omega), Array.getElem?_setIfInBounds_ne (by omega), Array.getElem?_setIfInBounds_ne (by omega)]
theorem keeps_set5at (w1 : World) (b j : Nat) (v0 v1 v2 v3 v4 : Value) : Keeps (fun k => k = b) w1 (((((w1.setCell ⟨b, j, none⟩ v0).setCell ⟨b, j + 1, none⟩ v1).setCell ⟨b, j + 2, none⟩ v2).setCell ⟨b, j + 3, none⟩ v3).setCell ⟨b, j + 4, none⟩ v4) :=
  ((((keeps_set (F := fun k => k = b) w1 rfl j v0).trans (keeps_set (F := fun k => k = b) _ rfl (j + 1) v1) (fun _ h => .inl h)).trans (keeps_set (F := fun k => k = b) _ rfl (j + 2) v2) (fun _ h => .inl h)).trans (keeps_set (F := fun k => k = b) _ rfl (j + 3) v3) (fun _ h => .inl h)).trans (keeps_set (F := fun k => k = b) _ rfl (j + 4) v4) (fun _ h => .inl h)

/-- A ring of which the first k places are filled. -/
def RingTo (w : World) (B g n k : Nat) (R : Nat → PC) : Prop := (∃ cur, w.heap[g]? = some (.cells cur 74 (0, 0)) ∧ cur.size = n * 5) ∧ ∀ i, i < k → PieceAt w B g i (R i)
theorem RingTo.keep {w w' : World} {B g n k : Nat} {R : Nat → PC} {F : Nat → Prop} (h : RingTo w B g n k R) (hk : Keeps F w w') (hg : ¬ F g) (hF : ∀ k, F k → k < B) : RingTo w' B g n k R := by
  obtain ⟨⟨cur, hc, hs⟩, h2⟩ := h
  exact ⟨⟨cur, (hk.block g (lt_there hc) hg).trans hc, hs⟩, fun i hi => (h2 i hi).keep hk hg hF⟩
theorem RingTo.lt {w : World} {B g n k : Nat} {R : Nat → PC} (h : RingTo w B g n k R) : g < w.heap.size := by
  obtain ⟨⟨cur, hc, hs⟩, h2⟩ := h
  exact lt_there hc
theorem RingTo.spot {w : World} {B g n k : Nat} {R : Nat → PC} (h : RingTo w B g n k R) (hk : k < n) : ∀ j, j < 5 → ∃ v, w.cell? ⟨g, k * 5 + j, none⟩ = some v := by
  obtain ⟨⟨cur, hc, hs⟩, h2⟩ := h
  intro j hj
  have hlt : k * 5 + j < cur.size := by omega
  exact ⟨cur[k * 5 + j], cell_of_block hc (by simp [hlt])⟩
theorem RingTo.fz {w : World} {B g n k : Nat} {R : Nat → PC} (h : RingTo w B g n k R) (j : Nat) : w.frozen? ⟨g, j, none⟩ = false := by
  obtain ⟨⟨cur, hc, hs⟩, h2⟩ := h
  exact frozen_of_block hc j
theorem RingTo.snoc {w : World} {B g n k : Nat} {R : Nat → PC} (h : RingTo w B g n k R) (hk : k < n) (hgB : g < B) (a : Option Addr) (c : Nat) (hs : Src w a (R k).d.length (R k).d) (ha : ∀ y, a = some y → B ≤ y.block) :
    RingTo (((((w.setCell ⟨g, k * 5, none⟩ (.int .i64 ((R k).e : Int))).setCell ⟨g, k * 5 + 1, none⟩ (.int .i64 ((R k).p : Int))).setCell ⟨g, k * 5 + 2, none⟩ (.int .i64 ((R k).i : Int))).setCell ⟨g, k * 5 + 3, none⟩ (.int .i64 ((R k).c : Int))).setCell ⟨g, k * 5 + 4, none⟩ (.slice a (R k).d.length c)) B g n (k + 1) R := by
  obtain ⟨⟨cur, hc, hsz⟩, h2⟩ := h
  obtain ⟨cur', hc', hsz', g0, g1, g2, g3, g4, go⟩ := cell_set5 hc (j := k * 5) (by omega) (.int .i64 ((R k).e : Int)) (.int .i64 ((R k).p : Int)) (.int .i64 ((R k).i : Int)) (.int .i64 ((R k).c : Int)) (.slice a (R k).d.length c)
  have hkp := keeps_set5at w g (k * 5) (.int .i64 ((R k).e : Int)) (.int .i64 ((R k).p : Int)) (.int .i64 ((R k).i : Int)) (.int .i64 ((R k).c : Int)) (.slice a (R k).d.length c)
  refine ⟨⟨cur', hc', by omega⟩, fun i hi => ?_⟩
  by_cases e : i = k
  · subst e
    exact ⟨a, c, cell_of_block hc' g0, cell_of_block hc' g1, cell_of_block hc' g2, cell_of_block hc' g3, cell_of_block hc' g4, hs.avoid hkp (fun y hy _ e => by have := ha y hy; omega), ha⟩
  · obtain ⟨a', c', p0, p1, p2, p3, p4, p5, p6⟩ := h2 i (by omega)
    have q : ∀ o v, o < k * 5 ∨ k * 5 + 5 ≤ o → w.cell? ⟨g, o, none⟩ = some v → (((((w.setCell ⟨g, k * 5, none⟩ (.int .i64 ((R k).e : Int))).setCell ⟨g, k * 5 + 1, none⟩ (.int .i64 ((R k).p : Int))).setCell ⟨g, k * 5 + 2, none⟩ (.int .i64 ((R k).i : Int))).setCell ⟨g, k * 5 + 3, none⟩ (.int .i64 ((R k).c : Int))).setCell ⟨g, k * 5 + 4, none⟩ (.slice a (R k).d.length c)).cell? ⟨g, o, none⟩ = some v := fun o v ho hv => by
      refine cell_of_block hc' ((go o ho).trans ?_)
      simpa [World.cell?, hc] using hv
    exact ⟨a', c', q _ _ (by omega) p0, q _ _ (by omega) p1, q _ _ (by omega) p2, q _ _ (by omega) p3, q _ _ (by omega) p4, p5.avoid hkp (fun y hy _ e => by have := p6 y hy; omega), p6⟩
end Go.Proofs.Ythdgndbmecnimaa
end

section
namespace Go.Proofs.Ythdgndbmecnimaa
open Go.RowKit

/-- What ring hands out. -/
def RingOut (lo : Nat) (w : World) (n : Nat) (R : Nat → PC) (v : Value) : Prop := ∃ g B, v = .slice (some ⟨g, 0, none⟩) n n ∧ lo ≤ g ∧ g < B ∧ RingTo w B g n n R

set_option maxRecDepth 20000 in
set_option maxHeartbeats 8000000 in
theorem ring_any {w : World} {F : Nat → Prop} {p s : Nat} {S : DS} (h : DiskR w F p s S) (hby : S.Byt) (f n : Nat) (hfn : f + 2 + n ≤ s) (hn1 : 1 ≤ n) (hn : n ≤ 256) (hf : S.fuse ≠ 0) (hbig : S.puts.length + 1 ≤ 4000000000000) :
    Calls Try.prog 63 #[areaV p f n] w fun e w' => ∃ v, e = .returned (.tuple #[v, .int .i64 0]) ∧ RingOut w.heap.size w' n (fun i => pcOf (S.now (f + 2 + i))) v ∧ DiskR w' F p s S ∧ Keeps F w w' := by
  obtain ⟨i0, hi, hz0, hz1, hz2⟩ := info_parts infoPiece3
  have hs := h.ok.hi
  have HL := Hid.mk h.lt
  have HB := Hid.mk (below_box w (.cells #[.pointer (some ⟨p, 0, none⟩), .int .i64 f, .int .i64 n] 64))
  have HD0 := Hid.mk (h.boxed (.cells #[.pointer (some ⟨p, 0, none⟩), .int .i64 f, .int .i64 n] 64))
  have HBY := Hid.mk hby
  clear h hby
  go_enter Try.func63, Try.ntmps63
  go_wp2_with (at_make; refine wpList_make_full _ rfl _ _ 99 rfl (w.heap.size + 1) 74 i0 _ 5 Try.underlying99 hi hz0 hz1 _ _ _ _ n rfl rfl ?c1 ?c2 ?c3 ?c4 ?c5 ?_)
  case c1 => rfl
  case c2 => rfl
  case c3 => rw [hz2]; omega
  case c4 => unfold maxLen; omega
  case c5 => simp
  intro w1 hown hgrow
  have hb1 : Below (w.heap.size + 1) (w.alloc (.cells #[.pointer (some ⟨p, 0, none⟩), .int .i64 f, .int .i64 n] 64)) w1 := (Below.refl _ _).grown hgrow (by simp) (by intro k hk; cases hk)
  obtain ⟨_, ⟨hv, _⟩ | ⟨g', cap, cur, hv, hg0, hg, _, _, hcs, _⟩⟩ := hown
  · cases hv
  cases hv
  have hbox : w1.heap[w.heap.size]? = some (.cells #[.pointer (some ⟨p, 0, none⟩), .int .i64 f, .int .i64 n] 64 (0, 0)) := (hb1.block _ (by omega)).trans (heap_alloc_new _ _)
  have HB1 := Hid.mk (HB.out.trans (hb1.mono (by omega)))
  have hlt : w.heap.size + 1 < w1.heap.size := lt_there hg
  have HR0 : Hid (RingTo w1 w1.heap.size (w.heap.size + 1) n 0 (fun i => pcOf (S.now (f + 2 + i)))) := ⟨⟨cur, hg, hcs⟩, fun i hi => by omega⟩
  have HD1 := Hid.mk (HD0.out.later (by rw [World.size_alloc]; exact hb1))
  have HX := Hid.mk hbox
  have HF : Hid (¬ F w.heap.size ∧ ¬ F (w.heap.size + 1)) := ⟨fun h => by have := HL.out _ h; omega, fun h => by have := HL.out _ h; omega⟩
  obtain ⟨R, hR⟩ : ∃ R, R = (fun i => pcOf (S.now (f + 2 + i))) := ⟨_, rfl⟩
  rw [← hR] at HR0
  have HRR := Hid.mk hR
  clear hgrow hb1 hbox hg hg0 hcs hR
  go_wp2
  go_loopw [13] (fun i wr => ∃ k : Nat, k ≤ n ∧ i = .int .i64 k ∧ RingTo wr w1.heap.size (w.heap.size + 1) n k R ∧ DiskR wr F p s S ∧ Keeps (fun j => F j ∨ j = w.heap.size + 1) w1 wr) (fun i _ => n - (intOf i).toNat)
  case atStart => exact ⟨0, Nat.zero_le _, rfl, HR0.out, HD1.out, Keeps.refl _ _⟩
  case round =>
    obtain ⟨k, hk, rfl, hring, hd, hkp⟩ := hrel
    by_cases q : k < n
    · have q' : (k : Int) < (n : Int) := by omega
      have hbox := box_after HX.out hkp (fun h => by rcases h with h | h; exact HF.out.1 h; omega)
      have c0 := cell_of_block hbox (j := 0) rfl
      have c1 := cell_of_block hbox (j := 1) rfl
      have c2 := cell_of_block hbox (j := 2) rfl
      have h1 := fun wx => aat_any p f n k wx (by omega) (by omega) (by omega) (by omega) (by omega)
      rw [show (f : Int) + 2 + (k : Int) % (n : Int) = ((f + 2 + k : Nat) : Int) by rw [Int.emod_eq_of_lt (by omega) (by omega)]; omega] at h1
      have H1 := Hid.mk h1
      have HRg := Hid.mk hring
      have HDr := Hid.mk hd
      have HKr := Hid.mk hkp
      have HXr := Hid.mk hbox
      clear h1 hring hd hkp hbox
      go_wp2_with fail
      go_region_held3 (fun w' => w'.cell? ⟨w.heap.size, 0, none⟩ = some (.pointer (some ⟨p, 0, none⟩)) ∧ w'.cell? ⟨w.heap.size, 1, none⟩ = some (.int .i64 (f : Int)) ∧ w'.cell? ⟨w.heap.size, 2, none⟩ = some (.int .i64 (n : Int)))
        (first | exact ⟨c0, c1, c2⟩ | exact ⟨cell_of_block hx2 (j := 0) rfl, cell_of_block hx2 (j := 1) rfl, cell_of_block hx2 (j := 2) rfl⟩ | exact ⟨cell_of_block hx3 (j := 0) rfl, cell_of_block hx3 (j := 1) rfl, cell_of_block hx3 (j := 2) rfl⟩)
        (first
          | (go_at_call 53; refine (H1.out _).mono ?_; rintro e w2 ⟨rfl, hb2⟩; have hb3 := (below_drew (Below.refl wr.heap.size wr)).trans hb2; have hx2 := (hb3.block _ (lt_there HXr.out)).trans HXr.out; have hd2 := HDr.out.later hb3)
          | (go_at_call 54; refine (dread_ok hd2 (f + 2 + k) (by omega) hbig hf).mono ?_; rintro e w3 ⟨v, rfl, ho, hd3, hk3⟩; have hx3 := box_after hx2 hk3 HF.out.1))
      obtain ⟨av, cv, rfl, hsv, hlov⟩ := ho
      have hz3 := hb3.size
      have hk4 : Keeps (fun j => F j ∨ j = w.heap.size + 1) w1 w3 := (HKr.out.trans (Keeps.of_below (fun _ => False) hb3) (fun _ h => h.elim)).trans hk3 (fun _ h => .inl (.inl h))
      have hring3 := ((HRg.out.keep (Keeps.of_below (fun _ => False) hb3) (fun h => h) (fun _ h => h.elim)).keep hk3 HF.out.2 (fun j hj => by have := HL.out j hj; omega))
      have hp := pieceOf_any av _ cv (S.now (f + 2 + k)) w3 hsv (HBY.out.now _)
      rw [show pcOf (S.now (f + 2 + k)) = R k by rw [HRR.out]] at hp
      have HR3 := Hid.mk hring3
      have HD3 := Hid.mk hd3
      have HK4 := Hid.mk hk4
      clear hb2 hb3 hx2 hx3 hd2 hd3 hk3 hk4 hring3 hsv hlov c0 c1 c2
      go_wp2_with fail
      refine hp.mono ?_
      rintro e w4 ⟨a4, k4, rfl, hs4, hlo4, hb4⟩
      have hr4 := HR3.out.keep (Keeps.of_below (fun _ => False) hb4) (fun h => h) (fun _ h => h.elim)
      have hz4 := HK4.out.size
      have hth : w4.there (w.heap.size + 1) (k * 5) (pieceC ((R k).e : Int) ((R k).p : Int) ((R k).i : Int) ((R k).c : Int) a4 (R k).d.length k4).size := fun j hj => by
        obtain ⟨v, e⟩ := hr4.spot q j hj
        exact ⟨by rw [e]; rfl, hr4.fz _⟩
      have HTh := Hid.mk hth
      have hsn := hr4.snoc q (by omega) a4 k4 hs4 (fun y hy => by have := hlo4 y hy; omega)
      have hks := keeps_set5at w4 (w.heap.size + 1) (k * 5) (.int .i64 ((R k).e : Int)) (.int .i64 ((R k).p : Int)) (.int .i64 ((R k).i : Int)) (.int .i64 ((R k).c : Int)) (.slice a4 (R k).d.length k4)
      have hk5 := (HK4.out.trans (Keeps.of_below (fun _ => False) hb4) (fun _ h => h.elim)).trans hks (fun _ h => .inl (.inr h))
      have hd5 := (HD3.out.later hb4).keep hks (fun j hj e => HF.out.2 (e ▸ hj))
      have HS := Hid.mk (And.intro hsn (And.intro hd5 hk5))
      have hkn : (0 : Int) ≤ (k : Int) := by omega
      clear hr4 hsn hks hk5 hd5 hs4 hlo4 hb4 hp hth
      go_wp2_with (refine wpList_store_mid rfl 74 _ _ rfl (w.heap.size + 1) (k * 5) (pieceC ((R k).e : Int) ((R k).p : Int) ((R k).i : Int) ((R k).c : Int) a4 (R k).d.length k4) rfl rfl ?s1 ?s2 ?s3 ?_)
      case s1 => exact HTh.out
      case s2 => exact infoPiece
      case s3 => simp [Value.oneCell']
      go_roundw
      case rel => exact ⟨k + 1, by omega, by go_num, HS.out⟩
      case measure => simp [intOf]; omega
    · have q' : ¬ (k : Int) < (n : Int) := by omega
      obtain rfl : k = n := by omega
      have HZ := Hid.mk (And.intro hring (And.intro hd hkp))
      clear hring hd hkp
      go_wp2
      go_ret2
      refine ⟨_, rfl, ⟨w.heap.size + 1, w1.heap.size, rfl, by omega, by omega, HRR.out ▸ HZ.out.1⟩, HZ.out.2.1, ?_⟩
      exact (Keeps.of_below F HB1.out).trans HZ.out.2.2 (fun j hj => by
        rcases hj with hj | hj
        · exact .inl hj
        · exact .inr (by omega))

/-- A piece's cells in a row. -/
theorem PieceAt.range {w : World} {B g i : Nat} {q : PC} (h : PieceAt w B g i q) : ∃ a k, w.rangeAt g (i * 5) (pieceC (q.e : Int) (q.p : Int) (q.i : Int) (q.c : Int) a q.d.length k).toList ∧ Src w a q.d.length q.d ∧ ∀ y, a = some y → B ≤ y.block := by
  obtain ⟨a, k, h0, h1, h2, h3, h4, h5, h6⟩ := h
  refine ⟨a, k, fun j v hv => ?_, h5, h6⟩
  match j, hv with
  | 0, hv => cases hv; exact h0
  | 1, hv => cases hv; exact h1
  | 2, hv => cases hv; exact h2
  | 3, hv => cases hv; exact h3
  | 4, hv => cases hv; exact h4
  | j + 5, hv => simp at hv

set_option maxRecDepth 20000 in
set_option maxHeartbeats 4000000 in
theorem top_any {w : World} {B g n : Nat} {R : Nat → PC} (h : RingTo w B g n n R) (hn : n ≤ 256) :
    Calls Try.prog 64 #[.slice (some ⟨g, 0, none⟩) n n] w fun e w' => e = .returned (.int .i64 ((rtop R n : Nat) : Int)) ∧ Below w.heap.size w w' := by
  have H := Hid.mk h
  clear h
  go_enter Try.func64, Try.ntmps64
  go_wp2
  go_loopw [3, 8] (fun r i wr => ∃ k : Nat, k ≤ n ∧ i = .int .i64 k ∧ r = .int .i64 ((rtop R k : Nat) : Int) ∧ Below w.heap.size w wr) (fun _ i _ => n - (intOf i).toNat)
  case atStart => exact ⟨0, Nat.zero_le _, rfl, rfl, Below.refl _ _⟩
  case round =>
    obtain ⟨k, hk, rfl, rfl, hb⟩ := hrel
    by_cases q : k < n
    · have q' : (k : Int) < (n : Int) := by omega
      have q0 : (0 : Int) ≤ (k : Int) := by omega
      obtain ⟨a, c, hrg, _, _⟩ := ((H.out.2 k q).later hb).range
      have HRg := Hid.mk hrg
      clear hrg
      have hle := rtop_le R k
      have HB := Hid.mk (fun o => hb.trans ((below_box wr o).mono hb.size))
      clear hb
      by_cases m : (R k).e ≤ 1073741824
      · have m' : ((R k).e : Int) ≤ 1073741824 := by omega
        have hr : Hid (rtop R (k + 1) = max (rtop R k) (R k).e) := by rw [rtop, if_pos m]; exact rfl
        go_wp2_with (refine wpList_load_mid rfl 74 _ rfl g (k * 5) rfl (pieceC ((R k).e : Int) ((R k).p : Int) ((R k).i : Int) ((R k).c : Int) a (R k).d.length c).toList _ HRg.out Try.underlying74 rfl infoPiece ?_)
        go_roundw
        case rel => exact ⟨k + 1, by omega, by go_num, by rw [hr.out]; congr 1; omega, HB.out _⟩
        case measure => simp [intOf]; omega
      · have m' : ¬ ((R k).e : Int) ≤ 1073741824 := by omega
        have hr : Hid (rtop R (k + 1) = rtop R k) := by rw [rtop, if_neg m]; exact rfl
        go_wp2_with (refine wpList_load_mid rfl 74 _ rfl g (k * 5) rfl (pieceC ((R k).e : Int) ((R k).p : Int) ((R k).i : Int) ((R k).c : Int) a (R k).d.length c).toList _ HRg.out Try.underlying74 rfl infoPiece ?_)
        go_roundw
        case rel => exact ⟨k + 1, by omega, by go_num, by rw [hr.out], HB.out _⟩
        case measure => simp [intOf]; omega
    · have q' : ¬ (k : Int) < (n : Int) := by omega
      obtain rfl : k = n := by omega
      have HB := Hid.mk hb
      clear hb
      go_wp2
      go_ret
      exact ⟨rfl, HB.out⟩
end Go.Proofs.Ythdgndbmecnimaa
end
