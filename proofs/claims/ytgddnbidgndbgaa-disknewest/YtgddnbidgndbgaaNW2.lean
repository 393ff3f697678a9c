import Derived.Test.YtgddnbidgndbgaaW06
namespace Go.Proofs.Ytgddnbidgndbgaa
open Go.RowKit Go.Maps

theorem lt_there {w : World} {k : Nat} {o : Obj} (h : w.heap[k]? = some o) : k < w.heap.size := (Array.getElem?_eq_some_iff.1 h).1
theorem below_drew {w W : World} {B : Nat} (h : Below B w W) : Below B w W.drew := ⟨h.os, h.tape, h.output, h.size, h.block⟩
theorem row_part {w : World} {g c s k : Nat} {im : List Int} (h : RowAt w 5 g c (bs im)) (him : im.length = s * 512) (hk : k < s) : Src w (some ⟨g, k * 512, none⟩) 512 (sec im k) := by
  have hlen : (sec im k).length = 512 := by simp [sec]; omega
  refine ⟨hlen, fun e => (by cases e), fun x hx i hi => ?_⟩
  cases hx
  rw [addr_add]
  have e : (sec im k).getD i 0 = im.getD (k * 512 + i) 0 := by
    simp only [sec, List.getD, List.getElem?_take, List.getElem?_drop]
    rw [if_pos (by omega)]
  rw [e]
  have := h.byte (i := k * 512 + i) (by omega)
  rwa [addr_add, Nat.zero_add] at this
theorem nowAt_cut {w w' : World} {F : Nat → Prop} {g c q cq s : Nat} {im : List Int} (h : RowAt w 5 g c (bs im)) (him : im.length = s * 512) (hr : RowAt w' 22 q cq (cutsOf g c s)) (hb : Below w.heap.size w w') (hg : ¬ F g) (hq : ¬ F q) (hne : g ≠ q) : NowAt w' F q cq s (sec im) := by
  refine ⟨hq, cutsOf g c s, hr, cutsOf_len g c s, fun k hk => ⟨some ⟨g, k * 512, none⟩, c - k * 512, ?_, (row_part h him hk).later hb, fun y e => by cases e; exact ⟨hg, hne⟩⟩⟩
  simp [cutsOf, hk]
/-- What holds between the steps. -/
def NRun (w wr : World) (p s j : Nat) (v : Value) : Prop := ∃ F S q cq, v = .slice (some ⟨q, 0, none⟩) s cq ∧ Dk w wr F p s S ∧ NowAt wr F q cq s S.now ∧ S.puts.length ≤ j ∧ w.heap.size ≤ q
theorem wr_no {S : DS} {s : Nat} {x : Int} {n : Nat} {l : List Int} (h : x < 0 ∨ (s : Int) ≤ x ∨ n ≠ 512) : (S.wr s x n l).1 ≠ 0 ∧ (∀ k, (S.wr s x n l).2.now k = S.now k) ∧ (S.wr s x n l).2.puts = S.puts := by
  unfold DS.wr
  split
  · exact ⟨by simp, fun _ => rfl, rfl⟩
  · split
    · exact ⟨by simp, fun _ => rfl, rfl⟩
    · rw [if_pos (by omega)]
      exact ⟨by simp, fun _ => rfl, rfl⟩
theorem wr_dead0 {S : DS} (h : S.fuse = 0) (s : Nat) (x : Int) (n : Nat) (l : List Int) : S.wr s x n l = (3, S) := by simp [DS.wr, h]
theorem wr_yes {S : DS} (h : S.fuse ≠ 0) {s k : Nat} (hk : k < s) (l : List Int) : (S.wr s (k : Int) 512 l).1 = 0 ∧ (S.wr s (k : Int) 512 l).2.puts.length ≤ S.puts.length + 1 := by
  refine ⟨?_, wr_puts _ _ _ _ _⟩
  have hx : ¬ ((k : Int) < 0 ∨ (s : Int) ≤ (k : Int)) := by omega
  simp only [DS.wr, h, if_false, hx, ne_eq, not_true_eq_false]
theorem rd_no {S : DS} {s : Nat} {x : Int} (h : S.fuse = 0 ∨ x < 0 ∨ (s : Int) ≤ x) : (S.rd s x).1 ≠ 0 ∧ (∀ k, (S.rd s x).2.1.now k = S.now k) ∧ (S.rd s x).2.1.puts = S.puts := by
  unfold DS.rd
  split
  · exact ⟨by simp, fun _ => rfl, rfl⟩
  · rw [if_pos (by omega)]
    exact ⟨by simp, fun _ => rfl, rfl⟩
theorem wr_off {S : DS} (h : S.fuse = -1) (s : Nat) (x : Int) (n : Nat) (l : List Int) : (S.wr s x n l).2.fuse = -1 := by
  unfold DS.wr
  split
  · exact h
  · split
    · exact h
    · split
      · exact h
      · exact spend_off h
theorem rd_dead0 {S : DS} (h : S.fuse = 0) (s : Nat) (x : Int) : S.rd s x = (3, S, []) := by simp [DS.rd, h]
theorem rd_yes {S : DS} (h : S.fuse ≠ 0) {s k : Nat} (hk : k < s) : S.rd s (k : Int) = (0, S.read, S.now k) := by
  have hx : ¬ ((k : Int) < 0 ∨ (s : Int) ≤ (k : Int)) := by omega
  simp only [DS.rd, h, if_false, hx, Int.toNat_natCast]

set_option maxRecDepth 100000 in
set_option maxHeartbeats 8000000 in
theorem diskNewest_any (sec0 : Int) (a : Option Addr) (n c : Nat) (l : List Int) (sa : Option Addr) (sn sc : Nat) (w : World) (hs : Src w a n l) (hn : n ≤ 140737488355328) (hsc : Script w w.heap.size sa sn) (hsn : 64 * sn ≤ 140737488355328) :
    Calls Try.prog 3 #[.int .i64 sec0, .slice a n c, .slice sa sn sc] w fun e w' => e = .returned (.bool true) ∧ Below w.heap.size w w' := by
  have h1 := open_any sec0 a n c l w hs hn
  have HSc := Hid.mk hsc
  clear hs hsc
  go_enter Try.func3, Try.ntmps3
  go_wp2_with fail
  refine h1.mono ?_
  rintro e w1 ⟨d, rfl, hb1, rfl | ⟨F, p, s, S, rfl, hd, hp0, hf0, hF⟩⟩
  · have HB := Hid.mk hb1
    clear h1 hb1
    go_wp2
    go_ret
    exact ⟨rfl, HB.out⟩
  · have hlo := hd.ok.lo
    have hhi := hd.ok.hi
    have hlen := hd.ok.len
    have h2 := image_any p s F S w1 hd
    have HD := Hid.mk hd
    have HF := Hid.mk hF
    have HB1 := Hid.mk hb1
    have hz1 := hb1.size
    clear h1 hd hF hb1
    go_wp2_with fail
    refine h2.mono ?_
    rintro e w2 ⟨g, cg, rfl, hg, hr2, hb2⟩
    have hcg : s * 512 ≤ cg := by have := hr2.le; simp only [bs, List.length_map] at this; omega
    have h3 := cut_any g cg s w2 hcg hlo hhi
    have HR2 := Hid.mk hr2
    have HB2 := Hid.mk hb2
    have hz2 := hb2.size
    have hgl := hr2.lt
    clear h2 hr2 hb2
    go_wp2_with fail
    refine h3.mono ?_
    rintro e w3 ⟨q, cq, rfl, hq, hr3, hb3⟩
    have hdk : Dk w w3 F p s S := ⟨(HD.out.keep (Keeps.of_below (fun _ => False) HB2.out) (fun _ _ h => h)).keep (Keeps.of_below (fun _ => False) hb3) (fun _ _ h => h), HF.out, HB1.out.trans ((HB2.out.mono hz1).trans (hb3.mono (by omega)))⟩
    have hnw := nowAt_cut (F := F) HR2.out hlen hr3 hb3 (fun hf => by have := HD.out.lt _ hf; omega) (fun hf => by have := HD.out.lt _ hf; omega) (by omega)
    have hs3 := sectors_at hdk.d
    have HN : Hid (NRun w w3 p s 0 (.slice (some ⟨q, 0, none⟩) s cq)) := by
      refine ⟨F, S, q, cq, rfl, hdk, ?_, by omega, by omega⟩
      have e : ∀ k, S.now k = sec S.im k := fun k => now_none _ _ (by rw [List.eq_nil_of_length_eq_zero hp0]; rfl)
      exact hnw.same (Keeps.refl _ _) (fun k _ => e k)
    have d1 : ¬ (s : Int) < 1 := by omega
    clear h3 hr3 hb3 hdk hnw HD HR2 HB2 HB1 HF
    go_wp2_with fail
    refine hs3.mono ?_
    rintro e w4 ⟨rfl, hw4⟩
    have hw4' := hw4.symm
    clear hw4 hs3
    subst hw4'
    go_wp2
    go_loopw [10, 11] (fun v i wr => ∃ j : Nat, j ≤ sn ∧ i = .int .i64 (j : Int) ∧ NRun w wr p s j v) (fun _ i _ => sn - (intOf i).toNat)
    case atStart => exact ⟨0, Nat.zero_le _, rfl, HN.out⟩
    case round =>
      clear HN
      obtain ⟨j, hj, rfl, F, S, q, cq, rfl, hdk, hnw, hpu, hql⟩ := hrel
      by_cases hlt : j < sn
      · have hlt' : (j : Int) < (sn : Int) := by omega
        obtain ⟨y, rfl⟩ : ∃ y, sa = some y := by
          cases sa with
          | none => have := HSc.out.1 rfl; omega
          | some y => exact ⟨y, rfl⟩
        obtain ⟨b, o, rfl, hbB, kd, x, a', m, c', pa, pn, pc, l', pl, c0, c1, c2, c3, ho⟩ := (HSc.out.far hdk.bel).2 y rfl j hlt
        have hzr := hdk.bel.size
        have hb5 := below_box wr (.cells (opC kd x a' m c' pa pn pc) 33)
        have hn5 : (wr.alloc (.cells (opC kd x a' m c' pa pn pc) 33)).heap[wr.heap.size]? = some (.cells (opC kd x a' m c' pa pn pc) 33 (0, 0)) := heap_alloc_new _ _
        have hdk5 := hdk.later hb5
        have hnw5 := hnw.later hb5
        have ho5 := ho.far (hb5.mono hzr)
        have hbx : ¬ F wr.heap.size := fun hf => by have := hdk.d.lt _ hf; omega
        have hbig : S.puts.length + 1 ≤ 4000000000000 := by omega
        have hsz5 : wr.heap.size < (wr.alloc (.cells (opC kd x a' m c' pa pn pc) 33)).heap.size := lt_there hn5
        have kX := cell_of_block hn5 (j := 1) rfl
        have kD := cell_of_block hn5 (j := 2) rfl
        have kP := cell_of_block hn5 (j := 3) rfl
        have k0 := cell_of_block hn5 (j := 0) rfl
        have HDk := Hid.mk hdk5
        have HNw := Hid.mk hnw5
        have HO := Hid.mk ho5
        have HN5 := Hid.mk hn5
        have hqr := hnw.lt
        clear hb5 hn5 hdk5 hnw5 ho5 ho hdk hnw
        by_cases k2 : kd = 2
        · subst k2
          by_cases x1 : x < 0
          · have HBad := Hid.mk (wr_no (S := S) (s := s) (x := x) (n := m) (l := l') (.inl x1))
            have d2 : ¬ (0 : Int) ≤ x := by omega
            go_wp2_with fail
            generalize wr.alloc (.cells (opC 2 x a' m c' pa pn pc) 33) = w5 at *
            have hdr := below_drew (Below.refl w5.heap.size w5)
            have htw := twin_any a' m c' l' w5.drew HO.out.n (HO.out.s.later hdr)
            have HDr := Hid.mk hdr
            clear hdr
            go_region_held3 (fun w' => w'.cell? ⟨wr.heap.size, 1, none⟩ = some (.int .i64 x) ∧ w'.cell? ⟨wr.heap.size, 2, none⟩ = some (.slice a' m c'))
              (first | exact ⟨kX, kD⟩ | exact ⟨kX1, kD1⟩ | exact ⟨kX2, kD2⟩)
              (first
                | (go_at_call 11; refine htw.mono ?_; rintro e w6 ⟨g6, rfl, hg6, hr6, hb6⟩; have hn6 := (hb6.block wr.heap.size hsz5).trans ((HDr.out.block wr.heap.size hsz5).trans HN5.out); have kX1 := cell_of_block hn6 (j := 1) rfl; have kD1 := cell_of_block hn6 (j := 2) rfl; have hs6 := hr6.src; rw [HO.out.s.1] at hs6; have hdk6 := (HDk.out.later HDr.out).later hb6; have hnw6 := (HNw.out.later HDr.out).later hb6)
                | (go_at_call 10; refine (write_all hdk6.d x (some ⟨g6, 0, none⟩) m m l' hs6 hbig).mono ?_; rintro e w7 ⟨rfl, hd7, hk7⟩; have hsz6 : wr.heap.size < w6.heap.size := lt_there hn6; have hn7 := (hk7.block wr.heap.size hsz6 hbx).trans hn6; have kX2 := cell_of_block hn7 (j := 1) rfl; have kD2 := cell_of_block hn7 (j := 2) rfl))
            have HDk7 := Hid.mk (hdk6.step hd7 hk7)
            have HK7 := Hid.mk hk7
            have HNw6 := Hid.mk hnw6
            have HO7 := Hid.mk (HO.out.s.later HDr.out |>.later hb6 |>.aside hk7 (fun y e h => fun hf => by have := HDk.out.lo _ hf; have := HO.out.sB y e h; omega))
            clear htw hr6 hb6 hs6 hdk6 hnw6 hn6 hn7 hd7 hk7 kX kD kP k0 kX1 kD1 hg6 c0 c1 c2 c3
            obtain ⟨z1, z2, z3⟩ := HBad.out
            have HZ : Hid (NRun w w7 p s (j + 1) (.slice (some ⟨q, 0, none⟩) s cq)) := ⟨_, _, q, cq, rfl, HDk7.out, HNw6.out.more HK7.out (fun k _ => z2 k), by rw [z3]; omega, hql⟩
            have e1 : ((S.wr s x m l').1 == 0) = false := by rw [beq_eq_false_iff_ne]; exact z1
            generalize (S.wr s x m l').1 = E1 at *
            clear z1 z2 z3 HBad
            go_wp2
            go_roundw
            case rel => exact ⟨j + 1, by omega, by go_num, HZ.out⟩
            case measure => simp [intOf]; omega
          · by_cases x2 : (s : Int) ≤ x
            · have HBad := Hid.mk (wr_no (S := S) (s := s) (x := x) (n := m) (l := l') (.inr (.inl x2)))
              have d2 : (0 : Int) ≤ x := by omega
              have d3 : ¬ x < (s : Int) := by omega
              go_wp2_with fail
              generalize wr.alloc (.cells (opC 2 x a' m c' pa pn pc) 33) = w5 at *
              have hdr := below_drew (Below.refl w5.heap.size w5)
              have htw := twin_any a' m c' l' w5.drew HO.out.n (HO.out.s.later hdr)
              have HDr := Hid.mk hdr
              clear hdr
              go_region_held3 (fun w' => w'.cell? ⟨wr.heap.size, 1, none⟩ = some (.int .i64 x) ∧ w'.cell? ⟨wr.heap.size, 2, none⟩ = some (.slice a' m c'))
                (first | exact ⟨kX, kD⟩ | exact ⟨kX1, kD1⟩ | exact ⟨kX2, kD2⟩)
                (first
                  | (go_at_call 11; refine htw.mono ?_; rintro e w6 ⟨g6, rfl, hg6, hr6, hb6⟩; have hn6 := (hb6.block wr.heap.size hsz5).trans ((HDr.out.block wr.heap.size hsz5).trans HN5.out); have kX1 := cell_of_block hn6 (j := 1) rfl; have kD1 := cell_of_block hn6 (j := 2) rfl; have hs6 := hr6.src; rw [HO.out.s.1] at hs6; have hdk6 := (HDk.out.later HDr.out).later hb6; have hnw6 := (HNw.out.later HDr.out).later hb6)
                  | (go_at_call 10; refine (write_all hdk6.d x (some ⟨g6, 0, none⟩) m m l' hs6 hbig).mono ?_; rintro e w7 ⟨rfl, hd7, hk7⟩; have hsz6 : wr.heap.size < w6.heap.size := lt_there hn6; have hn7 := (hk7.block wr.heap.size hsz6 hbx).trans hn6; have kX2 := cell_of_block hn7 (j := 1) rfl; have kD2 := cell_of_block hn7 (j := 2) rfl))
              have HDk7 := Hid.mk (hdk6.step hd7 hk7)
              have HK7 := Hid.mk hk7
              have HNw6 := Hid.mk hnw6
              have HO7 := Hid.mk (HO.out.s.later HDr.out |>.later hb6 |>.aside hk7 (fun y e h => fun hf => by have := HDk.out.lo _ hf; have := HO.out.sB y e h; omega))
              clear htw hr6 hb6 hs6 hdk6 hnw6 hn6 hn7 hd7 hk7 kX kD kP k0 kX1 kD1 hg6 c0 c1 c2 c3
              obtain ⟨z1, z2, z3⟩ := HBad.out
              have HZ : Hid (NRun w w7 p s (j + 1) (.slice (some ⟨q, 0, none⟩) s cq)) := ⟨_, _, q, cq, rfl, HDk7.out, HNw6.out.more HK7.out (fun k _ => z2 k), by rw [z3]; omega, hql⟩
              have e1 : ((S.wr s x m l').1 == 0) = false := by rw [beq_eq_false_iff_ne]; exact z1
              generalize (S.wr s x m l').1 = E1 at *
              clear z1 z2 z3 HBad
              go_wp2
              go_roundw
              case rel => exact ⟨j + 1, by omega, by go_num, HZ.out⟩
              case measure => simp [intOf]; omega
            · by_cases x3 : m = 512
              · subst x3
                obtain ⟨X, rfl⟩ : ∃ X : Nat, x = (X : Int) := ⟨x.toNat, by omega⟩
                have d2 : (0 : Int) ≤ (X : Int) := by omega
                have d3 : (X : Int) < (s : Int) := by omega
                have hXs : X < s := by omega
                clear x1 x2
                by_cases hf : S.fuse = 0
                · have hw0 := wr_dead0 hf s (X : Int) 512 l'
                  go_wp2_with fail
                  generalize wr.alloc (.cells (opC 2 (X : Int) a' 512 c' pa pn pc) 33) = w5 at *
                  have hdr := below_drew (Below.refl w5.heap.size w5)
                  have htw := twin_any a' 512 c' l' w5.drew HO.out.n (HO.out.s.later hdr)
                  have HDr := Hid.mk hdr
                  clear hdr
                  go_region_held3 (fun w' => w'.cell? ⟨wr.heap.size, 1, none⟩ = some (.int .i64 (X : Int)) ∧ w'.cell? ⟨wr.heap.size, 2, none⟩ = some (.slice a' 512 c'))
                    (first | exact ⟨kX, kD⟩ | exact ⟨kX1, kD1⟩ | exact ⟨kX2, kD2⟩)
                    (first
                      | (go_at_call 11; refine htw.mono ?_; rintro e w6 ⟨g6, rfl, hg6, hr6, hb6⟩; have hn6 := (hb6.block wr.heap.size hsz5).trans ((HDr.out.block wr.heap.size hsz5).trans HN5.out); have kX1 := cell_of_block hn6 (j := 1) rfl; have kD1 := cell_of_block hn6 (j := 2) rfl; have hs6 := hr6.src; rw [HO.out.s.1] at hs6; have hdk6 := (HDk.out.later HDr.out).later hb6; have hnw6 := (HNw.out.later HDr.out).later hb6)
                      | (go_at_call 10; refine (write_all hdk6.d (X : Int) (some ⟨g6, 0, none⟩) 512 512 l' hs6 hbig).mono ?_; rintro e w7 ⟨rfl, hd7, hk7⟩; have hsz6 : wr.heap.size < w6.heap.size := lt_there hn6; have hn7 := (hk7.block wr.heap.size hsz6 hbx).trans hn6; have kX2 := cell_of_block hn7 (j := 1) rfl; have kD2 := cell_of_block hn7 (j := 2) rfl))
                  have HDk7 := Hid.mk (hdk6.step hd7 hk7)
                  have HK7 := Hid.mk hk7
                  have HNw6 := Hid.mk hnw6
                  have HO7 := Hid.mk (HO.out.s.later HDr.out |>.later hb6 |>.aside hk7 (fun y e h => fun hf => by have := HDk.out.lo _ hf; have := HO.out.sB y e h; omega))
                  clear htw hr6 hb6 hs6 hdk6 hnw6 hn6 hn7 hd7 hk7 kX kD kP k0 kX1 kD1 hg6 c0 c1 c2 c3
                  rw [hw0] at HDk7
                  have HZ : Hid (NRun w w7 p s (j + 1) (.slice (some ⟨q, 0, none⟩) s cq)) := ⟨_, _, q, cq, rfl, HDk7.out, HNw6.out.more HK7.out (fun k _ => rfl), by show S.puts.length ≤ _; omega, hql⟩
                  clear hw0
                  go_wp2
                  go_roundw
                  case rel => exact ⟨j + 1, by omega, by go_num, HZ.out⟩
                  case measure => simp [intOf]; omega
                · have HWn := Hid.mk (wr_now1 hf hXs l')
                  have HWy := Hid.mk (wr_yes hf hXs l')
                  go_wp2_with fail
                  generalize wr.alloc (.cells (opC 2 (X : Int) a' 512 c' pa pn pc) 33) = w5 at *
                  have hdr := below_drew (Below.refl w5.heap.size w5)
                  have htw := twin_any a' 512 c' l' w5.drew HO.out.n (HO.out.s.later hdr)
                  have HDr := Hid.mk hdr
                  clear hdr
                  go_region_held3 (fun w' => w'.cell? ⟨wr.heap.size, 1, none⟩ = some (.int .i64 (X : Int)) ∧ w'.cell? ⟨wr.heap.size, 2, none⟩ = some (.slice a' 512 c'))
                    (first | exact ⟨kX, kD⟩ | exact ⟨kX1, kD1⟩ | exact ⟨kX2, kD2⟩)
                    (first
                      | (go_at_call 11; refine htw.mono ?_; rintro e w6 ⟨g6, rfl, hg6, hr6, hb6⟩; have hn6 := (hb6.block wr.heap.size hsz5).trans ((HDr.out.block wr.heap.size hsz5).trans HN5.out); have kX1 := cell_of_block hn6 (j := 1) rfl; have kD1 := cell_of_block hn6 (j := 2) rfl; have hs6 := hr6.src; rw [HO.out.s.1] at hs6; have hdk6 := (HDk.out.later HDr.out).later hb6; have hnw6 := (HNw.out.later HDr.out).later hb6)
                      | (go_at_call 10; refine (write_all hdk6.d (X : Int) (some ⟨g6, 0, none⟩) 512 512 l' hs6 hbig).mono ?_; rintro e w7 ⟨rfl, hd7, hk7⟩; have hsz6 : wr.heap.size < w6.heap.size := lt_there hn6; have hn7 := (hk7.block wr.heap.size hsz6 hbx).trans hn6; have kX2 := cell_of_block hn7 (j := 1) rfl; have kD2 := cell_of_block hn7 (j := 2) rfl))
                  have HDk7 := Hid.mk (hdk6.step hd7 hk7)
                  have HK7 := Hid.mk hk7
                  have HNw6 := Hid.mk hnw6
                  have HO7 := Hid.mk (HO.out.s.later HDr.out |>.later hb6 |>.aside hk7 (fun y e h => fun hf => by have := HDk.out.lo _ hf; have := HO.out.sB y e h; omega))
                  clear htw hr6 hb6 hs6 hdk6 hnw6 hn6 hn7 hd7 hk7 kX kD kP k0 kX1 kD1 hg6 c0 c1 c2 c3
                  have hnw7 := HNw6.out.more (f' := S.now) HK7.out (fun k _ => rfl)
                  obtain ⟨a8, c8, cQ, _⟩ := hnw7.at hXs
                  have fQ : w7.frozen? ⟨q, X, none⟩ = false := by
                    obtain ⟨vs, h1, _⟩ := hnw7.r
                    exact h1.frozen X
                  have hset := hnw7.set hXs (a := a') (c := c') (l := l') (f' := (S.wr s (X : Int) 512 l').2.now) HO7.out (fun y e => by
                    have h1 := HO.out.sB y e (by omega)
                    have hzz := HDk.out.bel.size
                    refine ⟨fun hm => ?_, by omega⟩
                    rcases hm with hm | hm
                    · have := HDk.out.lo _ hm; omega
                    · have := HNw6.out.lt; omega) (fun k _ => HWn.out k)
                  have hks : Keeps (fun k => k = q) w7 (w7.setCell ⟨q, X, none⟩ (.slice a' 512 c')) := Keeps.setCell (F := fun k => k = q) w7 (p := ⟨q, X, none⟩) rfl _
                  have HZ : Hid (NRun w (w7.setCell ⟨q, X, none⟩ (.slice a' 512 c')) p s (j + 1) (.slice (some ⟨q, 0, none⟩) s cq)) := by
                    refine ⟨_, _, q, cq, rfl, ⟨HDk7.out.d.keep hks (fun k hk e => by rw [e] at hk; exact hnw7.nf hk), HDk7.out.lo, HDk7.out.bel.trans (hks.below (fun k e => by rw [e]; exact hql) HDk7.out.bel.size)⟩, hset, by have := HWy.out.2; omega, hql⟩
                  rw [HWy.out.1]
                  clear hnw7 hset hks HDk7 HNw6 HK7 HWn HWy
                  go_wp2
                  go_roundw
                  case rel => exact ⟨j + 1, by omega, by go_num, HZ.out⟩
                  case measure => simp [intOf]; omega
              · have HBad := Hid.mk (wr_no (S := S) (s := s) (x := x) (n := m) (l := l') (.inr (.inr x3)))
                have d2 : (0 : Int) ≤ x := by omega
                have d3 : x < (s : Int) := by omega
                have d4 : ((m : Int) == 512) = false := by rw [beq_eq_false_iff_ne]; omega
                have d4' : ¬ (m : Int) = 512 := by omega
                go_wp2_with fail
                generalize wr.alloc (.cells (opC 2 x a' m c' pa pn pc) 33) = w5 at *
                have hdr := below_drew (Below.refl w5.heap.size w5)
                have htw := twin_any a' m c' l' w5.drew HO.out.n (HO.out.s.later hdr)
                have HDr := Hid.mk hdr
                clear hdr
                go_region_held3 (fun w' => w'.cell? ⟨wr.heap.size, 1, none⟩ = some (.int .i64 x) ∧ w'.cell? ⟨wr.heap.size, 2, none⟩ = some (.slice a' m c'))
                  (first | exact ⟨kX, kD⟩ | exact ⟨kX1, kD1⟩ | exact ⟨kX2, kD2⟩)
                  (first
                    | (go_at_call 11; refine htw.mono ?_; rintro e w6 ⟨g6, rfl, hg6, hr6, hb6⟩; have hn6 := (hb6.block wr.heap.size hsz5).trans ((HDr.out.block wr.heap.size hsz5).trans HN5.out); have kX1 := cell_of_block hn6 (j := 1) rfl; have kD1 := cell_of_block hn6 (j := 2) rfl; have hs6 := hr6.src; rw [HO.out.s.1] at hs6; have hdk6 := (HDk.out.later HDr.out).later hb6; have hnw6 := (HNw.out.later HDr.out).later hb6)
                    | (go_at_call 10; refine (write_all hdk6.d x (some ⟨g6, 0, none⟩) m m l' hs6 hbig).mono ?_; rintro e w7 ⟨rfl, hd7, hk7⟩; have hsz6 : wr.heap.size < w6.heap.size := lt_there hn6; have hn7 := (hk7.block wr.heap.size hsz6 hbx).trans hn6; have kX2 := cell_of_block hn7 (j := 1) rfl; have kD2 := cell_of_block hn7 (j := 2) rfl))
                have HDk7 := Hid.mk (hdk6.step hd7 hk7)
                have HK7 := Hid.mk hk7
                have HNw6 := Hid.mk hnw6
                have HO7 := Hid.mk (HO.out.s.later HDr.out |>.later hb6 |>.aside hk7 (fun y e h => fun hf => by have := HDk.out.lo _ hf; have := HO.out.sB y e h; omega))
                clear htw hr6 hb6 hs6 hdk6 hnw6 hn6 hn7 hd7 hk7 kX kD kP k0 kX1 kD1 hg6 c0 c1 c2 c3
                obtain ⟨z1, z2, z3⟩ := HBad.out
                have HZ : Hid (NRun w w7 p s (j + 1) (.slice (some ⟨q, 0, none⟩) s cq)) := ⟨_, _, q, cq, rfl, HDk7.out, HNw6.out.more HK7.out (fun k _ => z2 k), by rw [z3]; omega, hql⟩
                have e1 : ((S.wr s x m l').1 == 0) = false := by rw [beq_eq_false_iff_ne]; exact z1
                generalize (S.wr s x m l').1 = E1 at *
                clear z1 z2 z3 HBad
                go_wp2
                go_roundw
                case rel => exact ⟨j + 1, by omega, by go_num, HZ.out⟩
                case measure => simp [intOf]; omega
        · by_cases k1 : kd = 1
          · subst k1
            by_cases x1 : x < 0
            · have HBad := Hid.mk (rd_no (S := S) (s := s) (x := x) (.inr (.inl x1)))
              have d2 : ¬ (0 : Int) ≤ x := by omega
              have hrd := read_all HDk.out.d x hbig
              go_wp2_with fail
              generalize wr.alloc (.cells (opC 1 x a' m c' pa pn pc) 33) = w5 at *
              refine hrd.mono ?_
              rintro e w6 ⟨v6, rfl, ho6, hd6, hk6⟩
              have hn6 := (hk6.block wr.heap.size hsz5 hbx).trans HN5.out
              have kX1 := cell_of_block hn6 (j := 1) rfl
              have HDk6 := Hid.mk (HDk.out.same hd6 hk6)
              have HK6 := Hid.mk hk6
              clear hrd hd6 hk6 hn6 kX kD kP k0 c0 c1 c2 c3
              obtain ⟨z1, z2, z3⟩ := HBad.out
              have HZ : Hid (NRun w w6 p s (j + 1) (.slice (some ⟨q, 0, none⟩) s cq)) := ⟨_, _, q, cq, rfl, HDk6.out, HNw.out.same HK6.out (fun k _ => z2 k), by rw [z3]; omega, hql⟩
              have e1 : ((S.rd s x).1 == 0) = false := by rw [beq_eq_false_iff_ne]; exact z1
              have e1' : ((S.rd s x).1 != 0) = true := by rw [bne_iff_ne]; exact z1
              generalize (S.rd s x).1 = E1 at *
              clear z1 z2 z3 HBad ho6
              go_wp2
              go_roundw
              case rel => exact ⟨j + 1, by omega, by go_num, HZ.out⟩
              case measure => simp [intOf]; omega
            · by_cases x2 : (s : Int) ≤ x
              · have HBad := Hid.mk (rd_no (S := S) (s := s) (x := x) (.inr (.inr x2)))
                have d2 : (0 : Int) ≤ x := by omega
                have d3 : ¬ x < (s : Int) := by omega
                have hrd := read_all HDk.out.d x hbig
                go_wp2_with fail
                generalize wr.alloc (.cells (opC 1 x a' m c' pa pn pc) 33) = w5 at *
                refine hrd.mono ?_
                rintro e w6 ⟨v6, rfl, ho6, hd6, hk6⟩
                have hn6 := (hk6.block wr.heap.size hsz5 hbx).trans HN5.out
                have kX1 := cell_of_block hn6 (j := 1) rfl
                have HDk6 := Hid.mk (HDk.out.same hd6 hk6)
                have HK6 := Hid.mk hk6
                clear hrd hd6 hk6 hn6 kX kD kP k0 c0 c1 c2 c3
                obtain ⟨z1, z2, z3⟩ := HBad.out
                have HZ : Hid (NRun w w6 p s (j + 1) (.slice (some ⟨q, 0, none⟩) s cq)) := ⟨_, _, q, cq, rfl, HDk6.out, HNw.out.same HK6.out (fun k _ => z2 k), by rw [z3]; omega, hql⟩
                have e1 : ((S.rd s x).1 == 0) = false := by rw [beq_eq_false_iff_ne]; exact z1
                have e1' : ((S.rd s x).1 != 0) = true := by rw [bne_iff_ne]; exact z1
                generalize (S.rd s x).1 = E1 at *
                clear z1 z2 z3 HBad ho6
                go_wp2
                go_roundw
                case rel => exact ⟨j + 1, by omega, by go_num, HZ.out⟩
                case measure => simp [intOf]; omega
              · obtain ⟨X, rfl⟩ : ∃ X : Nat, x = (X : Int) := ⟨x.toNat, by omega⟩
                have d2 : (0 : Int) ≤ (X : Int) := by omega
                have d3 : (X : Int) < (s : Int) := by omega
                have hXs : X < s := by omega
                clear x1 x2
                by_cases hf : S.fuse = 0
                · have hw0 := rd_dead0 hf s (X : Int)
                  have hrd := read_all HDk.out.d (X : Int) hbig
                  go_wp2_with fail
                  generalize wr.alloc (.cells (opC 1 (X : Int) a' m c' pa pn pc) 33) = w5 at *
                  refine hrd.mono ?_
                  rintro e w6 ⟨v6, rfl, ho6, hd6, hk6⟩
                  have hn6 := (hk6.block wr.heap.size hsz5 hbx).trans HN5.out
                  have kX1 := cell_of_block hn6 (j := 1) rfl
                  have HDk6 := Hid.mk (HDk.out.same hd6 hk6)
                  have HK6 := Hid.mk hk6
                  clear hrd hd6 hk6 hn6 kX kD kP k0 c0 c1 c2 c3
                  rw [hw0] at HDk6
                  rw [hw0]
                  have HZ : Hid (NRun w w6 p s (j + 1) (.slice (some ⟨q, 0, none⟩) s cq)) := ⟨_, _, q, cq, rfl, HDk6.out, HNw.out.same HK6.out (fun k _ => rfl), by show S.puts.length ≤ _; omega, hql⟩
                  clear hw0 ho6
                  go_wp2
                  go_roundw
                  case rel => exact ⟨j + 1, by omega, by go_num, HZ.out⟩
                  case measure => simp [intOf]; omega
                · have hw0 := rd_yes hf hXs
                  have hrd := read_all HDk.out.d (X : Int) hbig
                  go_wp2_with fail
                  generalize wr.alloc (.cells (opC 1 (X : Int) a' m c' pa pn pc) 33) = w5 at *
                  refine hrd.mono ?_
                  rintro e w6 ⟨v6, rfl, ho6, hd6, hk6⟩
                  have hn6 := (hk6.block wr.heap.size hsz5 hbx).trans HN5.out
                  have kX1 := cell_of_block hn6 (j := 1) rfl
                  have HDk6 := Hid.mk (HDk.out.same hd6 hk6)
                  have HK6 := Hid.mk hk6
                  clear hrd hd6 hk6 hn6 kX kD kP k0 c0 c1 c2 c3
                  rw [hw0] at HDk6 ho6
                  rw [hw0]
                  obtain ⟨a6, c6, rfl, hs6, _⟩ := ho6
                  have hl6 : (S.now X).length = 512 := now_len HDk.out.d.ok X hXs
                  have hs6 : Src w6 a6 (S.now X).length (S.now X) := hs6
                  rw [show ((0, S.read, S.now X) : Int × DS × List Int).2.2 = S.now X from rfl]
                  rw [hl6] at hs6
                  rw [hl6]
                  have hnw6 := HNw.out.same (f' := S.now) HK6.out (fun k _ => rfl)
                  obtain ⟨a8, c8, cQ, hs8⟩ := hnw6.at hXs
                  have h8 := same_any a6 a8 512 c6 c8 (S.now X) w6 (by omega) hs6 hs8
                  have HNw6 := Hid.mk hnw6
                  clear hw0 hs6 hs8 hnw6
                  go_wp2_with fail
                  refine h8.mono ?_
                  rintro e w7 ⟨rfl, hb7⟩
                  have HZ : Hid (NRun w w7 p s (j + 1) (.slice (some ⟨q, 0, none⟩) s cq)) := ⟨_, _, q, cq, rfl, HDk6.out.later hb7, (HNw6.out.later hb7).same (Keeps.refl _ _) (fun k _ => rfl), by show S.puts.length ≤ _; omega, hql⟩
                  clear h8 hb7 cQ
                  go_wp2
                  go_roundw
                  case rel => exact ⟨j + 1, by omega, by go_num, HZ.out⟩
                  case measure => simp [intOf]; omega
          · by_cases k6 : kd = 6
            · subst k6
              have htw := twinp_any pa pn pc pl _ HO.out.pn HO.out.p
              have hpn := HO.out.pn
              go_wp2_with fail
              generalize wr.alloc (.cells (opC 6 x a' m c' pa pn pc) 33) = w5 at *
              refine htw.mono ?_
              rintro e w6 ⟨g6, rfl, hg6, hps6, hb6⟩
              have hdk6 := HDk.out.later hb6
              have hcr := crash_ok sorts sortn hdk6.d (by omega) (some ⟨g6, 0, none⟩) pn pn pl hps6 (by omega) (fun y e hf => by cases e; have h9 : g6 < w5.heap.size := HDk.out.d.lt _ hf; omega)
              have HDk6 := Hid.mk hdk6
              have hz6 := hb6.size
              clear htw hps6 hb6 hdk6 kX kD kP k0 hg6 c0 c1 c2 c3
              go_wp2_with fail
              refine hcr.mono ?_
              rintro e w7 ⟨rfl, hd7, hk7⟩
              have hdk7 := HDk6.out.same hd7 hk7
              have hlo := hd7.ok.lo
              have hhi := hd7.ok.hi
              have hlen := hd7.ok.len
              have him := image_any p s F (S.crash s pl) w7 hd7
              have HDk7 := Hid.mk hdk7
              have hz7 := hk7.size
              clear hcr hd7 hk7 hdk7
              go_wp2_with fail
              refine him.mono ?_
              rintro e w8 ⟨g8, c8, rfl, hg8, hr8, hb8⟩
              have hcg : s * 512 ≤ c8 := by have := hr8.le; simp only [bs, List.length_map] at this; omega
              have hcu := cut_any g8 c8 s w8 hcg hlo hhi
              have HR8 := Hid.mk hr8
              have HDk8 := Hid.mk (HDk7.out.later hb8)
              have hgl := hr8.lt
              have hz8 := hb8.size
              clear him hr8 hb8
              go_wp2_with fail
              refine hcu.mono ?_
              rintro e w9 ⟨q9, cq9, rfl, hq9, hr9, hb9⟩
              have hdk9 := HDk8.out.later hb9
              have hnw9 := nowAt_cut (F := F) HR8.out hlen hr9 hb9 (fun hf => by have := HDk7.out.d.lt _ hf; omega) (fun hf => by have := HDk8.out.d.lt _ hf; omega) (by omega)
              have hse := sectors_at hdk9.d
              have HZ : Hid (NRun w w9 p s (j + 1) (.slice (some ⟨q9, 0, none⟩) s cq9)) := ⟨F, _, q9, cq9, rfl, hdk9, hnw9.same (Keeps.refl _ _) (fun k _ => crash_now0 pl), Nat.zero_le _, by have := HDk8.out.bel.size; omega⟩
              have d1 : ¬ (s : Int) < 1 := by omega
              clear hcu hr9 hb9 hdk9 hnw9 HR8
              go_wp2_with fail
              refine hse.mono ?_
              rintro e w10 ⟨rfl, hw10⟩
              have hw10' := hw10.symm
              clear hw10 hse
              subst hw10'
              go_wp2
              go_roundw
              case rel => exact ⟨j + 1, by omega, by go_num, HZ.out⟩
              case measure => simp [intOf]; omega
            · have hac := act_any HDk.out.d hbig kd x a' m c' pa pn pc l' pl HO.out
              have d2 : (kd == 2) = false := by rw [beq_eq_false_iff_ne]; exact k2
              have d1 : (kd == 1) = false := by rw [beq_eq_false_iff_ne]; exact k1
              have d6 : (kd == 6) = false := by rw [beq_eq_false_iff_ne]; exact k6
              have HA := Hid.mk (fun k hk => act_now (S := S) (s := s) (kind := kd) (x := x) (n := m) (l := l') (pl := pl) HDk.out.d.ok k1 k2 k6 (k := k) hk)
              have HP := Hid.mk (act_puts S s kd x m l' pl)
              go_wp2_with fail
              refine hac.mono ?_
              rintro e w6 ⟨rfl, hd6, hk6⟩
              have HZ : Hid (NRun w w6 p s (j + 1) (.slice (some ⟨q, 0, none⟩) s cq)) := ⟨_, _, q, cq, rfl, HDk.out.step hd6 hk6, HNw.out.more hk6 (fun k hk => HA.out k hk), by have := HP.out; omega, hql⟩
              clear hac hd6 hk6 kX kD kP k0 c0 c1 c2 c3
              go_wp2
              go_roundw
              case rel => exact ⟨j + 1, by omega, by go_num, HZ.out⟩
              case measure => simp [intOf]; omega
      · obtain rfl : j = sn := by omega
        have hge : ¬ (j : Int) < (j : Int) := by omega
        have hcr := crash_ok sorts sortn hdk.d (by omega) none 0 0 [] ⟨rfl, fun _ => rfl, (fun x hx => by cases hx), fun q hq => by cases hq⟩ (by omega) (fun y e => by cases e)
        have HDk := Hid.mk hdk
        clear hdk hnw
        go_wp2_with fail
        refine hcr.mono ?_
        rintro e w5 ⟨rfl, hd5, hk5⟩
        have hdk5 := HDk.out.same hd5 hk5
        have hfm : (S.crash s []).fuse = -1 := rfl
        have hp5 : (S.crash s []).puts.length = 0 := rfl
        have hlo := hd5.ok.lo
        generalize S.crash s [] = S5 at *
        have hf5 : S5.fuse ≠ 0 := by omega
        have hb6 := below_box w5 (.cells #[.int .u8 7] 5)
        have hs6 : Src (w5.alloc (.cells #[.int .u8 7] 5)) (some ⟨w5.heap.size, 0, none⟩) 1 [7] := by
          have hn : (w5.alloc (.cells #[.int .u8 7] 5)).heap[w5.heap.size]? = some (.cells #[.int .u8 7] 5 (0, 0)) := heap_alloc_new _ _
          refine ⟨rfl, fun e => (by cases e), fun x hx i hi => ?_⟩
          cases hx
          obtain rfl : i = 0 := by omega
          exact cell_of_block hn (j := 0) rfl
        have h7 := sector_any (some ⟨w5.heap.size, 0, none⟩) 1 1 [7] _ hs6
        have HDk6 := Hid.mk (hdk5.later hb6)
        clear hcr hd5 hk5 hdk5 hb6 hs6 HDk
        go_wp2_with fail
        refine h7.mono ?_
        rintro e w7 ⟨g7, rfl, hg7, hs7, hb7⟩
        have hdk7 := HDk6.out.later hb7
        have h8 := write_all hdk7.d ((0 : Nat) : Int) (some ⟨g7, 0, none⟩) 512 512 (secOf [7]) hs7 (by omega)
        have hy := wr_yes hf5 (show 0 < s by omega) (secOf [7])
        have hno := wr_now1 hf5 (show 0 < s by omega) (secOf [7]) 0
        rw [if_pos rfl] at hno
        have hfu := wr_off hfm s ((0 : Nat) : Int) 512 (secOf [7])
        rw [hy.1] at h8
        have hy2 := hy.2
        rw [show ((0 : Nat) : Int) = 0 from rfl] at h8 hno hfu hy2
        generalize (S5.wr s 0 512 (secOf [7])).2 = S8 at *
        have HDk7 := Hid.mk hdk7
        clear h7 hs7 hb7 hdk7 hy
        go_wp2_with fail
        refine h8.mono ?_
        rintro e w8 ⟨rfl, hd8, hk8⟩
        have hdk8 := HDk7.out.step hd8 hk8
        have h9 := read_all hdk8.d ((0 : Nat) : Int) (by omega)
        rw [rd_yes (show S8.fuse ≠ 0 by omega) (show 0 < s by omega), hno, show ((0 : Nat) : Int) = 0 from rfl] at h9
        have HDk8 := Hid.mk hdk8
        clear h8 hd8 hk8 hdk8
        go_wp2_with fail
        refine h9.mono ?_
        rintro e w9 ⟨v9, rfl, ho9, hd9, hk9⟩
        obtain ⟨a9, c9, rfl, hs9, _⟩ := ho9
        have hs9 : Src w9 a9 (secOf [7]).length (secOf [7]) := hs9
        rw [secOf_len] at hs9 ⊢
        have hb10 := below_box w9 (.cells #[.int .u8 7] 5)
        have hs10 : Src (w9.alloc (.cells #[.int .u8 7] 5)) (some ⟨w9.heap.size, 0, none⟩) 1 [7] := by
          have hn : (w9.alloc (.cells #[.int .u8 7] 5)).heap[w9.heap.size]? = some (.cells #[.int .u8 7] 5 (0, 0)) := heap_alloc_new _ _
          refine ⟨rfl, fun e => (by cases e), fun x hx i hi => ?_⟩
          cases hx
          obtain rfl : i = 0 := by omega
          exact cell_of_block hn (j := 0) rfl
        have h11 := sector_any (some ⟨w9.heap.size, 0, none⟩) 1 1 [7] _ hs10
        have HDk9 := Hid.mk (HDk8.out.same hd9 hk9)
        have HS9 := Hid.mk (hs9.later hb10)
        have HB10 := Hid.mk hb10
        clear h9 hd9 hk9 hb10 hs10 hs9
        go_wp2_with fail
        refine h11.mono ?_
        rintro e w11 ⟨g11, rfl, hg11, hs11, hb11⟩
        have h12 := same_any a9 (some ⟨g11, 0, none⟩) 512 c9 512 (secOf [7]) w11 (by omega) (HS9.out.later hb11) hs11
        have HB11 : Hid (Below w.heap.size w w11) := (HDk9.out.later HB10.out |>.later hb11).bel
        clear h11 hs11 hb11
        go_wp2_with fail
        refine h12.mono ?_
        rintro e w12 ⟨rfl, hb12⟩
        have HB12 : Hid (Below w.heap.size w w12) := HB11.out.trans (hb12.mono HB11.out.size)
        clear h12 hb12
        go_wp2
        go_ret
        exact ⟨rfl, HB12.out⟩
end Go.Proofs.Ytgddnbidgndbgaa
