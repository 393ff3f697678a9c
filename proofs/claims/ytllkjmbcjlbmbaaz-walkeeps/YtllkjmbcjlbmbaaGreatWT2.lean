import Derived.Test.YtllkjmbcjlbmbaaGreatWT1
namespace Go.Proofs.YtllkjmbcjlbmbaaGreat
open Go.RowKit Go.Maps

theorem owns_lt {W : World} {B : Nat} {e : TypeId} {v : Value} {n : Nat} {xs : List Value} {g : Nat} (h : W.ownsRow B e 1 v n xs) (hv : v.ownBlock = some g) : g < W.heap.size := by
  obtain ⟨cur, hc⟩ := owns_block h hv
  exact lt_there hc
theorem RecsAt.aside {w w' : World} {B : Nat} {v : Value} {rs : List (List Int)} {F : Nat → Prop} (h : RecsAt w B v rs (fun _ => False)) (hk : Keeps F w w') (hF : ∀ k, F k → k < B) : RecsAt w' B v rs (fun _ => False) := by
  obtain ⟨vs, h1, h2⟩ := h
  refine ⟨vs, owns_agree h1 (fun g hg => hk.block g (owns_lt h1 hg) (fun hf => by have := own_lo h1 hg; have := hF _ hf; omega)), fun i hi => ?_⟩
  obtain ⟨g, c, e, hr, hb, hx⟩ := h2 i hi
  exact ⟨g, c, e, hr.agree (hk.block g hr.lt (fun hf => by have := hF _ hf; omega)), hb, hx⟩

/-- A list of sectors, each a list of bytes, all of it at B or later. -/
def Lists (w : World) (B q s : Nat) (f : Nat → List Int) : Prop := B ≤ q ∧ ∀ k, k < s → ∃ a c, w.cell? ⟨q, k, none⟩ = some (.slice (some a) 512 c) ∧ Src w (some a) 512 (f k) ∧ B ≤ a.block
theorem Lists.keep {w w' : World} {B q s : Nat} {f : Nat → List Int} {F : Nat → Prop} (h : Lists w B q s f) (hk : Keeps F w w') (hF : ∀ k, F k → k < B) : Lists w' B q s f := by
  refine ⟨h.1, fun k hk' => ?_⟩
  obtain ⟨a, c, h1, h2, h3⟩ := h.2 k hk'
  have hb := World.block_lt_of_cell? _ _ h1
  refine ⟨a, c, (World.cell?_of_block (w := w) (a := ⟨q, k, none⟩) (hk.block q hb (fun hf => by have := hF _ hf; have := h.1; omega))).trans h1, h2.avoid hk (fun y e _ hf => by cases e; have := hF _ hf; omega), h3⟩
theorem Lists.later {w w' : World} {B q s : Nat} {f : Nat → List Int} (h : Lists w B q s f) (hb : Below w.heap.size w w') : Lists w' B q s f := h.keep (Keeps.of_below (fun _ => False) hb) (fun _ h => h.elim)
theorem Lists.low {w : World} {B B' q s : Nat} {f : Nat → List Int} (h : Lists w B q s f) (hB : B' ≤ B) : Lists w B' q s f :=
  ⟨Nat.le_trans hB h.1, fun k hk => by obtain ⟨a, c, h1, h2, h3⟩ := h.2 k hk; exact ⟨a, c, h1, h2, Nat.le_trans hB h3⟩⟩
theorem RecsAt.lists {W : World} {B : Nat} {v : Value} {rs : List (List Int)} {X : Nat → Prop} (h : RecsAt W B v rs X) (hl : ∀ i (hi : i < rs.length), (rs[i]).length = 512) (hne : 0 < rs.length) : ∃ u cu, v = .slice (some ⟨u, 0, none⟩) rs.length cu ∧ Lists W B u rs.length (fun k => rs.getD k []) := by
  obtain ⟨vs, h1, h2⟩ := h
  obtain ⟨u, cu, hv, hu, hr, _⟩ := RowAt.of_owns h1 (by rintro rfl; rcases h1.2 with ⟨_, h⟩ | ⟨_, _, _, h, _⟩; omega; cases h)
  refine ⟨u, cu, hv, hu, fun k hk => ?_⟩
  obtain ⟨g, c, e, hrow, hB, _⟩ := h2 k hk
  rw [hl k hk] at e
  refine ⟨⟨g, 0, none⟩, c, hr.cell e, ?_, hB⟩
  have hs := hrow.src
  rw [hl k hk] at hs
  have : rs.getD k [] = rs[k] := by rw [List.getD, List.getElem?_eq_getElem hk]; rfl
  show Src W _ 512 (rs.getD k [])
  rw [this]
  exact hs
/-- The parts of an image. -/
theorem cuts_lists {w : World} {g c q cq s B : Nat} {im : List Int} (hr : RowAt w 5 g c (bs im)) (hl : im.length = s * 512) (hq : RowAt w 35 q cq (cutsOf g c s)) (hg : B ≤ g) (hB : B ≤ q) : Lists w B q s (fun k => dsec im k) := by
  refine ⟨hB, fun k hk => ⟨⟨g, k * 512, none⟩, c - k * 512, ?_, src_sector hr (by rw [hl]; omega), hg⟩⟩
  exact hq.cell (by unfold cutsOf; rw [List.getElem?_map, List.getElem?_range hk]; rfl)

section
variable {w : World} {F : Nat → Prop} {p s m : Nat} {S : DS}
/-- What single leaves. -/
def SingleOut (w : World) (F : Nat → Prop) (p s : Nat) (S : DS) (m : Nat) (e : Ending) (w' : World) : Prop :=
  ∃ q cq u cu, e = .returned (.tuple #[.slice (some ⟨q, 0, none⟩) s cq, .slice (some ⟨u, 0, none⟩) s cu, .bool (((S.puts.length : Int)) == ((chg S s : Nat) : Int))]) ∧ Lists w' w.heap.size q s (fun k => dsec S.im k) ∧ Lists w' w.heap.size u s S.now ∧ DiskRM w' F p s S m ∧ Keeps F w w'

set_option maxRecDepth 20000 in
set_option maxHeartbeats 8000000 in
theorem single_any (h : DiskRM w F p s S m) (hf : S.fuse ≠ 0) (hbig : S.puts.length ≤ 600) (hs1 : 1 ≤ s) (hs2 : s ≤ 2048) :
    Calls Tryz.prog 14 #[.pointer (some ⟨p, 0, none⟩)] w (SingleOut w F p s S m) := by
  have hok := h.r.ok
  have hlen := hok.len
  have hlt := h.r.lt
  have h1 := dimage h.r
  have H := Hid.mk h
  have hnl := fun k hk => now_len hok k hk
  clear h
  go_enter Tryz.func14, Tryz.ntmps14
  go_wp2_with fail
  refine h1.mono ?_
  rintro e w1 ⟨g, c, rfl, hg, hr, hb1⟩
  have hc : s * 512 ≤ c := by have := hr.le; simp only [bs, List.length_map] at this; omega
  have h2 := parts_any g c s w1 hc hs1 hs2
  have HR := Hid.mk hr
  have HB1 := Hid.mk hb1
  have hz1 := hb1.size
  clear h1 hr hb1
  go_wp2_with fail
  refine h2.mono ?_
  rintro e w2 ⟨q, cq, rfl, hq, hrq, hb2⟩
  have hz2 := hb2.size
  have HL := Hid.mk (cuts_lists (B := w.heap.size) (HR.out.agree (hb2.block g HR.out.lt)) hlen hrq hg (by omega))
  have hb12 := HB1.out.trans (hb2.mono hz1)
  have hD2 := H.out.later hb12
  have HK2 := Hid.mk (Keeps.of_below F hb12)
  have HD2 := Hid.mk hD2
  have hFl : ∀ k, F k → k < w2.heap.size := fun k hk => by have := hlt k hk; omega
  clear h2 hrq hb2 hb12 hD2 H HR HB1
  go_wp2
  go_loopw [7, 8, 9] (fun v k i wr => ∃ j : Nat, j ≤ s ∧ k = .int .i64 ((chg S j : Nat) : Int) ∧ i = .int .i64 (j : Int) ∧ DiskRM wr F p s S m ∧ Keeps F w2 wr ∧ RecsAt wr w2.heap.size v ((List.range j).map S.now) (fun _ => False)) (fun _ _ i _ => s - (intOf i).toNat)
  case atStart => exact ⟨0, Nat.zero_le _, rfl, rfl, HD2.out, Keeps.refl _ _, RecsAt.nil _ _ _⟩
  case round =>
    clear HD2
    obtain ⟨j, hj, rfl, rfl, hd, hk, hrec⟩ := hrel
    have hzr := hk.size
    have hcl := chg_le S j
    by_cases hlt2 : j < s
    · have hlt' : (j : Int) < (s : Int) := by omega
      have hj0 : (0 : Int) ≤ (j : Int) := by omega
      have hrd := mread hd j hlt2 (by omega) hf
      have HRec := Hid.mk hrec
      have HK := Hid.mk hk
      clear hd hrec hk
      go_wp2_with fail
      refine hrd.mono ?_
      rintro e w3 ⟨g3, c3, rfl, hg3, hr3, hd3, hk3⟩
      have hz3 := hk3.size
      have hrec3 := HRec.out.aside hk3 hFl
      obtain ⟨v', w4, hrun, hr4, hb4, hlg⟩ := recs_add hrec3 hr3 (by omega) (by omega) (by simp; omega)
      rw [hnl j hlt2] at hrun
      have hD4 : DiskRM w4 F p s S m := by
        obtain ⟨r, gi, ci, D, gr, cr, hraw⟩ := hd3
        exact ⟨r, gi, ci, D, gr, cr, hraw.agree hb4.size (fun i hi => hb4.block i (hFl i hi))⟩
      have hk4 : Keeps F w2 w4 := by
        have k3 := HK.out.trans hk3 (fun i hi => .inl hi)
        exact ⟨hb4.os.trans k3.os, hb4.tape.trans k3.tape, hb4.output.trans k3.output, Nat.le_trans k3.size hb4.size, fun k hk hn => (hb4.block k hk).trans (k3.block k hk hn)⟩
      have hr34 : RowAt w4 5 g3 c3 (bs (S.now j)) := by
        obtain ⟨cur, hc, hrest⟩ := hr3
        exact ⟨cur, hlg _ _ hc, hrest⟩
      obtain ⟨ao, co, kq, hso, _⟩ := (HL.out.keep hk4 hlt).2 j hlt2
      have hsn := hr34.src
      rw [hnl j hlt2] at hsn
      have hsm := sm_any (some ⟨g3, 0, none⟩) (some ao) 512 512 c3 co (S.now j) (dsec S.im j) w4 (by omega) hsn hso
      have hrs : (List.range j).map S.now ++ [S.now j] = (List.range (j + 1)).map S.now := by rw [List.range_succ, List.map_append]; rfl
      rw [hrs] at hr4
      have HRun := Hid.mk hrun
      have H4 := Hid.mk (And.intro hD4 (And.intro hk4 hr4))
      clear hrd hr3 hd3 hk3 hrec3 hrun hr4 hb4 hlg hD4 hk4 hr34 hso hsn HRec HK hrs
      go_wp2_with (at_builtin; refine wpList_appendRun rfl _ _ 29 rfl u7 (.slice (some ⟨w3.heap.size, 0, none⟩) 1 1) _ rfl rfl HRun.out ?_)
      go_wp2_with fail
      refine hsm.mono ?_
      rintro e w5 ⟨rfl, hb5⟩
      have hD5 : DiskRM w5 F p s S m := by
        obtain ⟨r, gi, ci, D, gr, cr, hraw⟩ := H4.out.1
        exact ⟨r, gi, ci, D, gr, cr, hraw.agree hb5.size (fun i hi => hb5.block i (hraw.lt i hi))⟩
      have hk5 := H4.out.2.1.trans (Keeps.of_below (fun _ => False) hb5) (fun j h => h.elim)
      have hr5 := H4.out.2.2.aside (Keeps.of_below (fun _ => False) hb5) (fun k h => h.elim)
      have H5 := Hid.mk (And.intro hD5 (And.intro hk5 hr5))
      clear hsm hb5 hD5 hk5 hr5 H4 HRun kq
      by_cases hse : S.now j = dsec S.im j
      · have hch : Hid (chg S (j + 1) = chg S j) := by show chg S j + (if S.now j = dsec S.im j then 0 else 1) = _; rw [if_pos hse]; rfl
        rw [decide_eq_true hse]
        go_wp2
        go_roundw
        case rel => exact ⟨j + 1, by omega, by rw [hch.out], by go_num, H5.out⟩
        case measure => simp [intOf]; omega
      · have hch : Hid (chg S (j + 1) = chg S j + 1) := by show chg S j + (if S.now j = dsec S.im j then 0 else 1) = _; rw [if_neg hse]
        rw [decide_eq_false hse]
        go_wp2
        go_roundw
        case rel => exact ⟨j + 1, by omega, by rw [hch.out]; go_num, by go_num, H5.out⟩
        case measure => simp [intOf]; omega
    · obtain rfl : j = s := by omega
      have hco := dcounts hd.r (by omega)
      obtain ⟨u, cu, hv, hl⟩ := hrec.lists (fun i hi => by simp at hi; rw [List.getElem_map, List.getElem_range]; exact hnl i hi) (by simp; omega)
      rw [List.length_map, List.length_range] at hv hl
      have hl' : Lists wr w2.heap.size u j S.now := ⟨hl.1, fun k hk => by
        obtain ⟨a, c, x1, x2, x3⟩ := hl.2 k hk
        refine ⟨a, c, x1, ?_, x3⟩
        have : ((List.range j).map S.now).getD k [] = S.now k := by rw [List.getD, List.getElem?_map, List.getElem?_range hk]; rfl
        rw [← this]
        exact x2⟩
      have HZ := Hid.mk (And.intro hd (And.intro (HK2.out.trans hk (fun i hi => .inl hi)) (And.intro (HL.out.keep hk hlt) hl')))
      have hlt' : ¬ (j : Int) < (j : Int) := by omega
      subst hv
      clear hd hk hrec hl hl'
      go_wp2_with fail
      refine hco.mono ?_
      rintro e w3 ⟨r3, rfl, hb3⟩
      have hbx := below_box w3 (.cells (cnCells r3 S.writes S.flushes S.refused S.puts.length) 79)
      have hq3 := heap_alloc_new w3 (.cells (cnCells r3 S.writes S.flushes S.refused S.puts.length) 79)
      have c4 := cell_of_block hq3 (j := 4) rfl
      have hb4 : Below wr.heap.size wr (w3.alloc (.cells (cnCells r3 S.writes S.flushes S.refused S.puts.length) 79)) := hb3.trans (hbx.mono hb3.size)
      have HF := Hid.mk (fun (nq : Nat) => below_drewN hb4 nq)
      clear hco hb3 hbx hq3 hb4
      go_wp2
      go_quiet (fail)
      go_wp2
      refine bodyPost_ret (results_tmp3 rfl _ _ _) rfl ?_
      have hbf := HF.out nq
      have hd9 : DiskRM ((w3.alloc (.cells (cnCells r3 S.writes S.flushes S.refused S.puts.length) 79)).drewN nq) F p j S m := by
        obtain ⟨r, gi, ci, D, gr, cr, hraw⟩ := HZ.out.1
        exact ⟨r, gi, ci, D, gr, cr, hraw.agree hbf.size (fun i hi => hbf.block i (hraw.lt i hi))⟩
      exact ⟨q, cq, u, cu, rfl, HZ.out.2.2.1.later hbf, (HZ.out.2.2.2.later hbf).low (by omega), hd9, HZ.out.2.1.trans (Keeps.of_below (fun _ => False) hbf) (fun j h => h.elim)⟩
end
end Go.Proofs.YtllkjmbcjlbmbaaGreat
