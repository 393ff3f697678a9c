import Derived.Test.YtkgnkdnipcacgaaTE4
namespace Go.Proofs.Ytkgnkdnipcacgaa
open Go.RowKit Go.Maps

theorem lt_there {w : World} {k : Nat} {o : Obj} (h : w.heap[k]? = some o) : k < w.heap.size := (Array.getElem?_eq_some_iff.1 h).1
/-- What a sector may hold behind a cut. -/
def DS.cands (S : DS) (k : Nat) : List (List Int) := sec S.im k :: pendOf S.puts k
theorem cands_of {S S' : DS} (h1 : S'.im = S.im) (h2 : S'.puts = S.puts) (k : Nat) : S'.cands k = S.cands k := by unfold DS.cands; rw [h1, h2]
theorem cands_len (S : DS) (k : Nat) : (S.cands k).length = (pendOf S.puts k).length + 1 := rfl
theorem cands_at (S : DS) (k i : Nat) : (S.cands k).getD i [] = S.cand k i := by
  unfold DS.cands DS.cand
  cases i <;> simp
theorem cands_flat {S : DS} (h : S.puts = []) (k : Nat) : S.cands k = [sec S.im k] := by unfold DS.cands; rw [h]; rfl
theorem wr_no1 {S : DS} {s : Nat} {x : Int} {n : Nat} {l : List Int} (h : x < 0 ∨ (s : Int) ≤ x ∨ n ≠ 512) : (S.wr s x n l).1 ≠ 0 ∧ (∀ k, (S.wr s x n l).2.cands k = S.cands k) ∧ (S.wr s x n l).2.puts = S.puts := by
  unfold DS.wr
  by_cases hf : S.fuse = 0
  · rw [if_pos hf]; exact ⟨by simp, fun _ => rfl, rfl⟩
  · rw [if_neg hf]
    by_cases hx : x < 0 ∨ (s : Int) ≤ x
    · rw [if_pos hx]; exact ⟨by simp, fun _ => rfl, rfl⟩
    · rw [if_neg hx, if_pos (show n ≠ 512 from fun e => by omega)]; exact ⟨by simp, fun _ => rfl, rfl⟩
theorem wr_dead1 {S : DS} (h : S.fuse = 0) (s : Nat) (x : Int) (n : Nat) (l : List Int) : S.wr s x n l = (3, S) := by simp [DS.wr, h]
theorem wr_yes1 {S : DS} (h : S.fuse ≠ 0) {s k : Nat} (hk : k < s) (l : List Int) : (S.wr s (k : Int) 512 l).1 = 0 ∧ (S.wr s (k : Int) 512 l).2.puts = S.puts ++ [(k, l)] ∧ (S.wr s (k : Int) 512 l).2.im = S.im := by
  have hx : ¬ ((k : Int) < 0 ∨ (s : Int) ≤ (k : Int)) := by omega
  have e : S.wr s (k : Int) 512 l = (0, (S.put k l).wrote.spend) := by
    simp only [DS.wr, h, if_false, hx, ne_eq, not_true_eq_false, Int.toNat_natCast]
  rw [e]
  exact ⟨rfl, rfl, rfl⟩
theorem wr_cands {S : DS} (h : S.fuse ≠ 0) {s k : Nat} (hk : k < s) (l : List Int) (j : Nat) : (S.wr s (k : Int) 512 l).2.cands j = if j = k then S.cands k ++ [l] else S.cands j := by
  obtain ⟨_, h2, h3⟩ := wr_yes1 h hk l
  unfold DS.cands
  rw [h2, h3, pendOf_snoc]
  by_cases e : j = k
  · subst e; simp
  · simp [e]
theorem act_cands {S : DS} {s : Nat} {kind x : Int} {n : Nat} {l : List Int} {pl : List P3} (h2 : kind ≠ 2) (h3 : kind ≠ 3) (h6 : kind ≠ 6) (k : Nat) : (S.act s kind x n l pl).cands k = S.cands k := by
  unfold DS.act
  rw [if_neg h2, if_neg h3, if_neg h6]
  split
  · unfold DS.rd
    split
    · rfl
    · split <;> rfl
  · split
    · unfold DS.lay
      split <;> rfl
    · split <;> rfl
theorem now_cands (S : DS) (k : Nat) : (S.cands k).getD ((S.cands k).length - 1) [] = S.now k := by rw [cands_at, cands_len]; rfl
theorem fl_cands {S : DS} {s : Nat} (hok : S.Ok s) (hf : S.fuse ≠ 0) {k : Nat} (hk : k < s) : (S.fl s).2.cands k = [S.now k] := by
  have e : (S.fl s).2 = (S.flush s).spend := by simp [DS.fl, hf]
  have e2 : (S.fl s).2.cands k = (S.flush s).cands k := by rw [e]; rfl
  rw [e2, cands_flat rfl, flush_im hok hk]
theorem crash_cut {S : DS} {s : Nat} (hok : S.Ok s) (pl : List P3) {k : Nat} (hk : k < s) : ∃ A B c, A < (S.cands k).length ∧ B < (S.cands k).length ∧ c ≤ 512 ∧ sec (S.crash s pl).im k = ((S.cands k).getD A []).take c ++ ((S.cands k).getD B []).drop c := by
  have e : sec (S.crash s pl).im k = cutOf S pl k := sec_imOf s _ (cut_len hok pl) k hk
  rw [e]
  unfold cutOf
  split
  · refine ⟨0, 0, 0, by simp [DS.cands], by simp [DS.cands], by omega, ?_⟩
    simp [DS.cands]
  · unfold tornBy tornOf
    generalize (max (pickN pl (keysOf S k).length).1 0).toNat = A
    generalize (max (pickN pl (keysOf S k).length).2.1 0).toNat = B
    generalize (max (pickN pl (keysOf S k).length).2.2 0).toNat = C
    exact ⟨A % ((pendOf S.puts k).length + 1), B % ((pendOf S.puts k).length + 1), C % 513, by rw [cands_len]; exact Nat.mod_lt _ (by omega), by rw [cands_len]; exact Nat.mod_lt _ (by omega), by omega, by rw [cands_at, cands_at]⟩
theorem cands_lens {S : DS} {s : Nat} (hok : S.Ok s) {k : Nat} (hk : k < s) (i : Nat) (hi : i < (S.cands k).length) : ((S.cands k).getD i []).length = 512 := by
  rw [cands_at]
  rw [cands_len] at hi
  exact DS.cand_len hok hk (by omega)
/-- The last of all: what was written is what a cut leaves, where the pick says so. -/
theorem end_now {S S' : DS} {s : Nat} (hok : S'.Ok s) {l : List Int} (h1 : S.puts = []) (h2 : S'.puts = S.puts ++ [(0, l)]) : (S'.crash s [(1, 1, 0)]).now 0 = l := by
  have hs := hok.lo
  rw [now_none _ _ rfl]
  have e : sec (S'.crash s [(1, 1, 0)]).im 0 = cutOf S' [(1, 1, 0)] 0 := sec_imOf s _ (cut_len hok _) 0 (by omega)
  rw [e]
  have hp : pendOf S'.puts 0 = [l] := by rw [h2, h1]; rfl
  unfold cutOf
  rw [if_neg (by rw [hp]; simp)]
  have e1 : (max (1 : Int) 0).toNat = 1 := rfl
  simp [tornBy, tornOf, pickN, hp, DS.cand, Nat.mod_one, e1]
/-- How far the run is. -/
def MRun (w wr : World) (p s j : Nat) (v : Value) : Prop := ∃ F S q cq, v = .slice (some ⟨q, 0, none⟩) s cq ∧ Dk w wr F p s S ∧ MayAt w.heap.size wr F q cq s S.cands ∧ S.puts.length ≤ j ∧ w.heap.size ≤ q
theorem rd_yes2 {S : DS} (h : S.fuse ≠ 0) {s k : Nat} (hk : k < s) : S.rd s (k : Int) = (0, S.read, S.now k) := by
  have hx : ¬ ((k : Int) < 0 ∨ (s : Int) ≤ (k : Int)) := by omega
  simp only [DS.rd, h, if_false, hx, Int.toNat_natCast]
theorem psrc_one (w : World) : PSrc (w.alloc (.cells #[.int .i64 1, .int .i64 1, .int .i64 0] 50)) (some ⟨w.heap.size, 0, none⟩) 1 [(1, 1, 0)] := by
  have hn : (w.alloc (.cells #[.int .i64 1, .int .i64 1, .int .i64 0] 50)).heap[w.heap.size]? = some (.cells #[.int .i64 1, .int .i64 1, .int .i64 0] 50 (0, 0)) := heap_alloc_new _ _
  refine ⟨rfl, fun e => (by cases e), fun x hx i hi => ?_, fun q hq => ?_⟩
  · cases hx
    obtain rfl : i = 0 := by simp at hi; omega
    exact ⟨_, _, rfl, cell_of_block hn (j := 0) rfl, cell_of_block hn (j := 1) rfl, cell_of_block hn (j := 2) rfl⟩
  · simp at hq
    subst hq
    exact ⟨by decide, by decide, by decide⟩

set_option maxRecDepth 100000 in
set_option maxHeartbeats 8000000 in
theorem diskTears_any (sec0 : Int) (a : Option Addr) (n c : Nat) (l : List Int) (sa : Option Addr) (sn sc : Nat) (w : World) (hs : Src w a n l) (hn : n ≤ 140737488355328) (hsc : Script w w.heap.size sa sn) (hsn : 64 * sn ≤ 140737488355328) :
    Calls Try.prog 4 #[.int .i64 sec0, .slice a n c, .slice sa sn sc] w fun e w' => e = .returned (.bool true) ∧ Below w.heap.size w w' := by
  have h1 := open_any sec0 a n c l w hs hn
  have HSc := Hid.mk hsc
  clear hs hsc
  go_enter Try.func4, Try.ntmps4
  go_wp2_with fail
  refine h1.mono ?_
  rintro e w1 ⟨d, rfl, hb1, rfl | ⟨F, p, s, S, rfl, hd, hp0, hf0, hF⟩⟩
  · have HB := Hid.mk hb1
    clear h1 hb1
    go_wp2
    go_ret
    exact ⟨rfl, HB.out⟩
  · have hlo := hd.ok.lo
    have hhi := hd.ok.hi
    have hlen := hd.ok.len
    have h2 := image_any p s F S w1 hd
    have HD := Hid.mk hd
    have HF := Hid.mk hF
    have HB1 := Hid.mk hb1
    have hz1 := hb1.size
    clear h1 hd hF hb1
    go_wp2_with fail
    refine h2.mono ?_
    rintro e w2 ⟨g, cg, rfl, hg, hr2, hb2⟩
    have hcg : s * 512 ≤ cg := by have := hr2.le; simp only [bs, List.length_map] at this; omega
    have h3 := begin_any g cg s w2 hcg hlo hhi
    have HR2 := Hid.mk hr2
    have HB2 := Hid.mk hb2
    have hz2 := hb2.size
    have hgl := hr2.lt
    clear h2 hr2 hb2
    go_wp2_with fail
    refine h3.mono ?_
    rintro e w3 ⟨q, cq, rs, rfl, hq, hr3, hl3, hnd3, hrs3, hb3⟩
    have hdk : Dk w w3 F p s S := ⟨(HD.out.keep (Keeps.of_below (fun _ => False) HB2.out) (fun _ _ h => h)).keep (Keeps.of_below (fun _ => False) hb3) (fun _ _ h => h), HF.out, HB1.out.trans ((HB2.out.mono hz1).trans (hb3.mono (by omega)))⟩
    have hnw := mayAt_begin (B := w.heap.size) (F := F) HR2.out hlen hb3 (fun hf => by have := HD.out.lt _ hf; omega) (fun b hf => by have := HD.out.lt _ hf; omega) (by omega) hq hr3 hl3 hnd3 hrs3
    have HN : Hid (MRun w w3 p s 0 (.slice (some ⟨q, 0, none⟩) s cq)) := by
      refine ⟨F, S, q, cq, rfl, hdk, ?_, by omega, by omega⟩
      exact hnw.keep (fun _ _ _ => rfl) (fun _ _ h => h) (fun k _ => cands_flat (List.eq_nil_of_length_eq_zero hp0) k)
    clear h3 hr3 hb3 hdk hnw HD HR2 HB2 HB1 HF hrs3 hnd3 hl3
    go_wp2
    go_loopw [10, 11] (fun v i wr => ∃ j : Nat, j ≤ sn ∧ i = .int .i64 (j : Int) ∧ MRun w wr p s j v) (fun _ i _ => sn - (intOf i).toNat)
    case atStart => exact ⟨0, Nat.zero_le _, rfl, HN.out⟩
    case round =>
      clear HN
      obtain ⟨j, hj, rfl, F, S, q, cq, rfl, hdk, hnw, hpu, hql⟩ := hrel
      by_cases hlt : j < sn
      · have hlt' : (j : Int) < (sn : Int) := by omega
        obtain ⟨y, rfl⟩ : ∃ y, sa = some y := by
          cases sa with
          | none => have := HSc.out.1 rfl; omega
          | some y => exact ⟨y, rfl⟩
        obtain ⟨b, o, rfl, hbB, kd, x, a', m, c', pa, pn, pc, l', pl, c0, c1, c2, c3, ho⟩ := (HSc.out.far hdk.bel).2 y rfl j hlt
        have hzr := hdk.bel.size
        have hb5 := below_box wr (.cells (opC kd x a' m c' pa pn pc) 33)
        have hn5 : (wr.alloc (.cells (opC kd x a' m c' pa pn pc) 33)).heap[wr.heap.size]? = some (.cells (opC kd x a' m c' pa pn pc) 33 (0, 0)) := heap_alloc_new _ _
        have hdk5 := hdk.later hb5
        have hnw5 := hnw.later hb5
        have ho5 := ho.far (hb5.mono hzr)
        have hbx : ¬ F wr.heap.size := fun hf => by have := hdk.d.lt _ hf; omega
        have hbig : S.puts.length + 1 ≤ 4000000000000 := by omega
        have hsz5 : wr.heap.size < (wr.alloc (.cells (opC kd x a' m c' pa pn pc) 33)).heap.size := lt_there hn5
        have kX := cell_of_block hn5 (j := 1) rfl
        have kD := cell_of_block hn5 (j := 2) rfl
        have kP := cell_of_block hn5 (j := 3) rfl
        have k0 := cell_of_block hn5 (j := 0) rfl
        have HDk := Hid.mk hdk5
        have HNw := Hid.mk hnw5
        have HO := Hid.mk ho5
        have HN5 := Hid.mk hn5
        have hqr := hnw.lt
        clear hb5 hn5 hdk5 hnw5 ho5 ho hdk hnw
        by_cases k2 : kd = 2
        · subst k2
          by_cases x1 : x < 0
          · have HBad := Hid.mk (wr_no1 (S := S) (s := s) (x := x) (n := m) (l := l') (.inl x1))
            have d2 : ¬ (0 : Int) ≤ x := by omega
            go_wp2_with fail
            generalize wr.alloc (.cells (opC 2 x a' m c' pa pn pc) 33) = w5 at *
            have hdr := below_drew1 (Below.refl w5.heap.size w5)
            have htw := twin_any a' m c' l' w5.drew HO.out.n (HO.out.s.later hdr)
            have HDr := Hid.mk hdr
            clear hdr
            go_region_held3 (fun w' => w'.cell? ⟨wr.heap.size, 1, none⟩ = some (.int .i64 x) ∧ w'.cell? ⟨wr.heap.size, 2, none⟩ = some (.slice a' m c'))
              (first | exact ⟨kX, kD⟩ | exact ⟨kX1, kD1⟩ | exact ⟨kX2, kD2⟩)
              (first
                | (go_at_call 12; refine htw.mono ?_; rintro e w6 ⟨g6, rfl, hg6, hr6, hb6⟩; have hn6 := (hb6.block wr.heap.size hsz5).trans ((HDr.out.block wr.heap.size hsz5).trans HN5.out); have kX1 := cell_of_block hn6 (j := 1) rfl; have kD1 := cell_of_block hn6 (j := 2) rfl; have hs6 := hr6.src; rw [HO.out.s.1] at hs6; have hdk6 := (HDk.out.later HDr.out).later hb6; have hnw6 := (HNw.out.later HDr.out).later hb6)
                | (go_at_call 11; refine (write_all hdk6.d x (some ⟨g6, 0, none⟩) m m l' hs6 hbig).mono ?_; rintro e w7 ⟨rfl, hd7, hk7⟩; have hsz6 : wr.heap.size < w6.heap.size := lt_there hn6; have hn7 := (hk7.block wr.heap.size hsz6 hbx).trans hn6; have kX2 := cell_of_block hn7 (j := 1) rfl; have kD2 := cell_of_block hn7 (j := 2) rfl))
            have HDk7 := Hid.mk (hdk6.step hd7 hk7)
            have HK7 := Hid.mk hk7
            have HNw6 := Hid.mk hnw6
            have HO7 := Hid.mk (HO.out.s.later HDr.out |>.later hb6 |>.aside hk7 (fun y e h => fun hf => by have := HDk.out.lo _ hf; have := HO.out.sB y e h; omega))
            clear htw hr6 hb6 hs6 hdk6 hnw6 hn6 hn7 hd7 hk7 kX kD kP k0 kX1 kD1 hg6 c0 c1 c2 c3
            obtain ⟨z1, z2, z3⟩ := HBad.out
            have HZ : Hid (MRun w w7 p s (j + 1) (.slice (some ⟨q, 0, none⟩) s cq)) := ⟨_, _, q, cq, rfl, HDk7.out, HNw6.out.more HK7.out (fun k _ => z2 k), by rw [z3]; omega, hql⟩
            have e1 : ((S.wr s x m l').1 == 0) = false := by rw [beq_eq_false_iff_ne]; exact z1
            generalize (S.wr s x m l').1 = E1 at *
            clear z1 z2 z3 HBad
            go_wp2
            go_roundw
            case rel => exact ⟨j + 1, by omega, by go_num, HZ.out⟩
            case measure => simp [intOf]; omega
          · by_cases x2 : (s : Int) ≤ x
            · have HBad := Hid.mk (wr_no1 (S := S) (s := s) (x := x) (n := m) (l := l') (.inr (.inl x2)))
              have d2 : (0 : Int) ≤ x := by omega
              have d3 : ¬ x < (s : Int) := by omega
              go_wp2_with fail
              generalize wr.alloc (.cells (opC 2 x a' m c' pa pn pc) 33) = w5 at *
              have hdr := below_drew1 (Below.refl w5.heap.size w5)
              have htw := twin_any a' m c' l' w5.drew HO.out.n (HO.out.s.later hdr)
              have HDr := Hid.mk hdr
              clear hdr
              go_region_held3 (fun w' => w'.cell? ⟨wr.heap.size, 1, none⟩ = some (.int .i64 x) ∧ w'.cell? ⟨wr.heap.size, 2, none⟩ = some (.slice a' m c'))
                (first | exact ⟨kX, kD⟩ | exact ⟨kX1, kD1⟩ | exact ⟨kX2, kD2⟩)
                (first
                  | (go_at_call 12; refine htw.mono ?_; rintro e w6 ⟨g6, rfl, hg6, hr6, hb6⟩; have hn6 := (hb6.block wr.heap.size hsz5).trans ((HDr.out.block wr.heap.size hsz5).trans HN5.out); have kX1 := cell_of_block hn6 (j := 1) rfl; have kD1 := cell_of_block hn6 (j := 2) rfl; have hs6 := hr6.src; rw [HO.out.s.1] at hs6; have hdk6 := (HDk.out.later HDr.out).later hb6; have hnw6 := (HNw.out.later HDr.out).later hb6)
                  | (go_at_call 11; refine (write_all hdk6.d x (some ⟨g6, 0, none⟩) m m l' hs6 hbig).mono ?_; rintro e w7 ⟨rfl, hd7, hk7⟩; have hsz6 : wr.heap.size < w6.heap.size := lt_there hn6; have hn7 := (hk7.block wr.heap.size hsz6 hbx).trans hn6; have kX2 := cell_of_block hn7 (j := 1) rfl; have kD2 := cell_of_block hn7 (j := 2) rfl))
              have HDk7 := Hid.mk (hdk6.step hd7 hk7)
              have HK7 := Hid.mk hk7
              have HNw6 := Hid.mk hnw6
              have HO7 := Hid.mk (HO.out.s.later HDr.out |>.later hb6 |>.aside hk7 (fun y e h => fun hf => by have := HDk.out.lo _ hf; have := HO.out.sB y e h; omega))
              clear htw hr6 hb6 hs6 hdk6 hnw6 hn6 hn7 hd7 hk7 kX kD kP k0 kX1 kD1 hg6 c0 c1 c2 c3
              obtain ⟨z1, z2, z3⟩ := HBad.out
              have HZ : Hid (MRun w w7 p s (j + 1) (.slice (some ⟨q, 0, none⟩) s cq)) := ⟨_, _, q, cq, rfl, HDk7.out, HNw6.out.more HK7.out (fun k _ => z2 k), by rw [z3]; omega, hql⟩
              have e1 : ((S.wr s x m l').1 == 0) = false := by rw [beq_eq_false_iff_ne]; exact z1
              generalize (S.wr s x m l').1 = E1 at *
              clear z1 z2 z3 HBad
              go_wp2
              go_roundw
              case rel => exact ⟨j + 1, by omega, by go_num, HZ.out⟩
              case measure => simp [intOf]; omega
            · by_cases x3 : m = 512
              · subst x3
                obtain ⟨X, rfl⟩ : ∃ X : Nat, x = (X : Int) := ⟨x.toNat, by omega⟩
                have d2 : (0 : Int) ≤ (X : Int) := by omega
                have d3 : (X : Int) < (s : Int) := by omega
                have hXs : X < s := by omega
                clear x1 x2
                by_cases hf : S.fuse = 0
                · have hw0 := wr_dead1 hf s (X : Int) 512 l'
                  go_wp2_with fail
                  generalize wr.alloc (.cells (opC 2 (X : Int) a' 512 c' pa pn pc) 33) = w5 at *
                  have hdr := below_drew1 (Below.refl w5.heap.size w5)
                  have htw := twin_any a' 512 c' l' w5.drew HO.out.n (HO.out.s.later hdr)
                  have HDr := Hid.mk hdr
                  clear hdr
                  go_region_held3 (fun w' => w'.cell? ⟨wr.heap.size, 1, none⟩ = some (.int .i64 (X : Int)) ∧ w'.cell? ⟨wr.heap.size, 2, none⟩ = some (.slice a' 512 c'))
                    (first | exact ⟨kX, kD⟩ | exact ⟨kX1, kD1⟩ | exact ⟨kX2, kD2⟩)
                    (first
                      | (go_at_call 12; refine htw.mono ?_; rintro e w6 ⟨g6, rfl, hg6, hr6, hb6⟩; have hn6 := (hb6.block wr.heap.size hsz5).trans ((HDr.out.block wr.heap.size hsz5).trans HN5.out); have kX1 := cell_of_block hn6 (j := 1) rfl; have kD1 := cell_of_block hn6 (j := 2) rfl; have hs6 := hr6.src; rw [HO.out.s.1] at hs6; have hdk6 := (HDk.out.later HDr.out).later hb6; have hnw6 := (HNw.out.later HDr.out).later hb6)
                      | (go_at_call 11; refine (write_all hdk6.d (X : Int) (some ⟨g6, 0, none⟩) 512 512 l' hs6 hbig).mono ?_; rintro e w7 ⟨rfl, hd7, hk7⟩; have hsz6 : wr.heap.size < w6.heap.size := lt_there hn6; have hn7 := (hk7.block wr.heap.size hsz6 hbx).trans hn6; have kX2 := cell_of_block hn7 (j := 1) rfl; have kD2 := cell_of_block hn7 (j := 2) rfl))
                  have HDk7 := Hid.mk (hdk6.step hd7 hk7)
                  have HK7 := Hid.mk hk7
                  have HNw6 := Hid.mk hnw6
                  have HO7 := Hid.mk (HO.out.s.later HDr.out |>.later hb6 |>.aside hk7 (fun y e h => fun hf => by have := HDk.out.lo _ hf; have := HO.out.sB y e h; omega))
                  clear htw hr6 hb6 hs6 hdk6 hnw6 hn6 hn7 hd7 hk7 kX kD kP k0 kX1 kD1 hg6 c0 c1 c2 c3
                  rw [hw0] at HDk7
                  have HZ : Hid (MRun w w7 p s (j + 1) (.slice (some ⟨q, 0, none⟩) s cq)) := ⟨_, _, q, cq, rfl, HDk7.out, HNw6.out.more HK7.out (fun k _ => rfl), by show S.puts.length ≤ _; omega, hql⟩
                  clear hw0
                  go_wp2
                  go_roundw
                  case rel => exact ⟨j + 1, by omega, by go_num, HZ.out⟩
                  case measure => simp [intOf]; omega
                · have HWn := Hid.mk (wr_cands hf hXs l')
                  have HWy := Hid.mk (wr_yes1 hf hXs l')
                  go_wp2_with fail
                  generalize wr.alloc (.cells (opC 2 (X : Int) a' 512 c' pa pn pc) 33) = w5 at *
                  have hdr := below_drew1 (Below.refl w5.heap.size w5)
                  have htw := twin_any a' 512 c' l' w5.drew HO.out.n (HO.out.s.later hdr)
                  have HDr := Hid.mk hdr
                  clear hdr
                  go_region_held3 (fun w' => w'.cell? ⟨wr.heap.size, 1, none⟩ = some (.int .i64 (X : Int)) ∧ w'.cell? ⟨wr.heap.size, 2, none⟩ = some (.slice a' 512 c'))
                    (first | exact ⟨kX, kD⟩ | exact ⟨kX1, kD1⟩ | exact ⟨kX2, kD2⟩)
                    (first
                      | (go_at_call 12; refine htw.mono ?_; rintro e w6 ⟨g6, rfl, hg6, hr6, hb6⟩; have hn6 := (hb6.block wr.heap.size hsz5).trans ((HDr.out.block wr.heap.size hsz5).trans HN5.out); have kX1 := cell_of_block hn6 (j := 1) rfl; have kD1 := cell_of_block hn6 (j := 2) rfl; have hs6 := hr6.src; rw [HO.out.s.1] at hs6; have hdk6 := (HDk.out.later HDr.out).later hb6; have hnw6 := (HNw.out.later HDr.out).later hb6)
                      | (go_at_call 11; refine (write_all hdk6.d (X : Int) (some ⟨g6, 0, none⟩) 512 512 l' hs6 hbig).mono ?_; rintro e w7 ⟨rfl, hd7, hk7⟩; have hsz6 : wr.heap.size < w6.heap.size := lt_there hn6; have hn7 := (hk7.block wr.heap.size hsz6 hbx).trans hn6; have kX2 := cell_of_block hn7 (j := 1) rfl; have kD2 := cell_of_block hn7 (j := 2) rfl))
                  have HDk7 := Hid.mk (hdk6.step hd7 hk7)
                  have HK7 := Hid.mk hk7
                  have HNw6 := Hid.mk hnw6
                  have HO7 := Hid.mk (HO.out.s.later HDr.out |>.later hb6 |>.aside hk7 (fun y e h => fun hf => by have := HDk.out.lo _ hf; have := HO.out.sB y e h; omega))
                  clear htw hr6 hb6 hs6 hdk6 hnw6 hn6 hd7 hk7 kX kD kP k0 kX1 kD1 hg6 c0 c1 c2 c3
                  have hnw7 : MayAt w.heap.size w7.drew (more F w6 w7) q cq s S.cands := (HNw6.out.more (f' := S.cands) HK7.out (fun k _ => rfl)).keep (fun _ _ _ => rfl) (fun _ _ h => h) (fun _ _ => rfl)
                  obtain ⟨gk, ck, kQ, hN0, hnow⟩ := hnw7.at hXs
                  obtain ⟨us, hus, hul, _⟩ := hnow.r
                  have hqt : ∃ vs, RowAt w7.drew 28 q cq vs := by
                    obtain ⟨_, vs, _, _, h1, _⟩ := hnw7.r
                    exact ⟨vs, h1⟩
                  have hqg : q ≠ gk := by
                    obtain ⟨vs, h1⟩ := hqt
                    obtain ⟨cur, hc, _⟩ := hus
                    exact h1.ne hc (by decide)
                  have hqk : wr.heap.size ≠ gk := fun e => hus.ne (q := wr.heap.size) (w := w7.drew) hn7 (by decide) e.symm
                  have hq7 : q < w7.heap.size := hnw7.lt
                  have hx7 : wr.heap.size < w7.heap.size := lt_there hn7
                  have fQ : ∀ W : World, W.heap[q]? = w7.heap[q]? → W.frozen? ⟨q, X, none⟩ = false := fun W e => by
                    obtain ⟨vs, h1⟩ := hqt
                    exact (h1.agree (w' := W) e).frozen X
                  have Hown : Hid (∀ o : Obj, (w7.drew.alloc o).ownsRow 0 22 1 (.slice (some ⟨gk, 0, none⟩) (S.cands X).length ck) (S.cands X).length us) := fun o => by
                    have := (hus.agree (w' := w7.drew.alloc o) (heap_alloc_old _ _ hus.lt)).owns
                    rwa [hul] at this
                  have hNb : (S.cands X).length ≤ 4000000000000 := by rw [cands_len]; have := pendOf_len S.puts X; omega
                  obtain ⟨i0, hi0, hz0, hz1, hz2⟩ := info_parts infoRow
                  have HGrow : Hid (∀ (g2 c2 : Nat) (w1 : World), w1.ownsRow 0 22 1 (.slice (some ⟨g2, 0, none⟩) ((S.cands X).length + 1) c2) ((S.cands X).length + 1) (us ++ [.slice a' 512 c']) → (w7.drew.alloc (.cells #[.slice a' 512 c'] 22)).grownBy w1 (some gk) → (gk = g2 ∨ g2 = w7.heap.size + 1) → g2 < w1.heap.size → MRun w (w1.setCell ⟨q, X, none⟩ (.slice (some ⟨g2, 0, none⟩) ((S.cands X).length + 1) c2)) p s (j + 1) (.slice (some ⟨q, 0, none⟩) s cq)) := fun g2 c2 w1 r1 r2 r3 r4 => by
                    have hF7 : ∀ b, more F w6 w7 b → b < w7.drew.heap.size := fun b hb => HDk7.out.d.lt b hb
                    have hgl := hus.lt
                    have hm := hnw7.grow (f' := (S.wr s (X : Int) 512 l').2.cands) HDk7.out.bel.size hF7 hXs kQ hus hul (a := a') (cd := c') (l := l') (src_agree HO7.out (fun _ _ _ => rfl)) (fun y e => by
                      have h1 := HO.out.sB y e (by omega)
                      refine ⟨h1, fun hm => ?_⟩
                      have := HDk7.out.lo _ hm
                      omega) r1 r2 r3 r4 (fun k _ => HWn.out k)
                    have hb : Below w7.heap.size w7 (w7.drew.alloc (.cells #[.slice a' 512 c'] 22)) := (below_drew1 (Below.refl _ w7)).alloc (Nat.le_refl _) _
                    have hks : Keeps (fun k => k = q ∨ k = gk) w7 (w1.setCell ⟨q, X, none⟩ (.slice (some ⟨g2, 0, none⟩) ((S.cands X).length + 1) c2)) := by
                      have e1 : Keeps (fun k => k = q ∨ k = gk) w7 w1 := ⟨r2.os.trans hb.os, r2.tape.trans hb.tape, r2.output.trans hb.output, Nat.le_trans hb.size r2.size, fun k hk hn => (r2.block k (Nat.lt_of_lt_of_le hk hb.size) (fun e => hn (.inr (by cases e; rfl)))).trans (hb.block k hk)⟩
                      exact e1.trans (Keeps.setCell (F := fun k => k = q) w1 (p := ⟨q, X, none⟩) rfl _) (fun k e => .inl (.inl e))
                    have hgB : w.heap.size ≤ gk := by
                      obtain ⟨lab, vs, a1, a2, a3, a4, a5⟩ := hnw7.r
                      obtain ⟨v0, b1, g0, c0, us0, rfl, e2, e3, _⟩ := a5 X hXs
                      have hc := a3.cell b1
                      rw [hc] at kQ
                      cases kQ
                      apply Decidable.byContradiction
                      intro hn
                      have := a2 gk (by omega)
                      omega
                    refine ⟨_, _, q, cq, rfl, ⟨HDk7.out.d.keep hks (fun k hk e => ?_), HDk7.out.lo, HDk7.out.bel.trans (hks.below (fun k e => ?_) HDk7.out.bel.size)⟩, hm, by have := HWy.out.2.1; rw [this, List.length_append, List.length_singleton]; omega, hql⟩
                    · rcases e with e | e
                      · rw [e] at hk; exact hnw7.nf hk
                      · rw [e] at hk; exact hnow.nf hk
                    · rcases e with e | e <;> rw [e]
                      · exact hql
                      · exact hgB
                  rw [HWy.out.1]
                  have hgl := hus.lt
                  have HN7 := Hid.mk hn7
                  have hnX : ¬ (X : Int) < 0 := by omega
                  have hnX' : ¬ (s : Int) ≤ (X : Int) := by omega
                  clear hnw7 hnow hus HDk7 HNw6 HK7 HWn HWy hn7 hqt
                  generalize (S.cands X).length = NN at *
                  go_wp2_with fail
                  have kA : ∀ o : Obj, (w7.drew.alloc o).cell? ⟨wr.heap.size, 1, none⟩ = some (.int .i64 (X : Int)) ∧ (w7.drew.alloc o).cell? ⟨wr.heap.size, 2, none⟩ = some (.slice a' 512 c') ∧ (w7.drew.alloc o).cell? ⟨q, X, none⟩ = some (.slice (some ⟨gk, 0, none⟩) NN ck) := fun o =>
                    ⟨(World.cell?_of_block (w := w7.drew) (a := ⟨wr.heap.size, 1, none⟩) (heap_alloc_old _ _ hx7)).trans kX2, (World.cell?_of_block (w := w7.drew) (a := ⟨wr.heap.size, 2, none⟩) (heap_alloc_old _ _ hx7)).trans kD2, (World.cell?_of_block (w := w7.drew) (a := ⟨q, X, none⟩) (heap_alloc_old _ _ hq7)).trans kQ⟩
                  have kAQ := (kA (.cells #[.slice a' 512 c'] 22)).2.2
                  have kQ7 : w7.cell? ⟨q, X, none⟩ = some (.slice (some ⟨gk, 0, none⟩) NN ck) := kQ
                  have kX7 : w7.drew.cell? ⟨wr.heap.size, 1, none⟩ = some (.int .i64 (X : Int)) := kX2
                  have kD7 : w7.drew.cell? ⟨wr.heap.size, 2, none⟩ = some (.slice a' 512 c') := kD2
                  refine wp_region_held_drew (S := (fun w' => w'.cell? ⟨wr.heap.size, 1, none⟩ = some (.int .i64 (X : Int)) ∧ w'.cell? ⟨wr.heap.size, 2, none⟩ = some (.slice a' 512 c'))) (by kernel_rfl) ⟨kX7, kD7⟩ (fun hHeld => ?_)
                  refine wpAnyH_take (i := 0) (oi := { dst := some 72, op := Op.move (Operand.tmp 10), type := 44, pos := "outright.go:229", after := #[], guard := none }) (v := .slice (some ⟨q, 0, none⟩) s cq) rfl (by kernel_rfl) (by kernel_rfl) (by kernel_rfl) (fun _ _ _ h => h) (Or.inl ⟨by rfl, ?_⟩) (by assumption) ?_
                  · intro w hSw
                    (try dsimp only at hSw)
                    go_simp
                  try simp only [Act.put, List.setIfInBounds_toArray, List.set_cons_zero, List.set_cons_succ]
                  refine wpAnyH_take (i := 1) (oi := { dst := some 73, op := Op.fieldAddr 33 (Operand.tmp 12) 1, type := 0, pos := "outright.go:229", after := #[], guard := none }) (v := .pointer (some ⟨wr.heap.size, 1, none⟩)) rfl (by kernel_rfl) (by kernel_rfl) (by kernel_rfl) (fun _ _ _ h => h) (Or.inl ⟨by rfl, ?_⟩) (by assumption) ?_
                  · intro w hSw
                    (try dsimp only at hSw)
                    go_simp
                  try simp only [Act.put, List.setIfInBounds_toArray, List.set_cons_zero, List.set_cons_succ]
                  refine wpAnyH_take (i := 2) (oi := { dst := some 74, op := Op.load 3 (Operand.tmp 73), type := 3, pos := "outright.go:229", after := #[{ on := 1, ground := Ground.data }], guard := none }) (v := .int .i64 (X : Int)) rfl (by kernel_rfl) (by kernel_rfl) (by kernel_rfl) (fun _ _ _ h => h) (Or.inl ⟨by rfl, ?_⟩) (by assumption) ?_
                  · intro w hSw
                    (try dsimp only at hSw)
                    go_simp
                  try simp only [Act.put, List.setIfInBounds_toArray, List.set_cons_zero, List.set_cons_succ]
                  refine wpAnyH_take (i := 3) (oi := { dst := some 75, op := Op.move (Operand.tmp 10), type := 44, pos := "outright.go:229", after := #[], guard := none }) (v := .slice (some ⟨q, 0, none⟩) s cq) rfl (by kernel_rfl) (by kernel_rfl) (by kernel_rfl) (fun _ _ _ h => h) (Or.inl ⟨by rfl, ?_⟩) (by assumption) ?_
                  · intro w hSw
                    (try dsimp only at hSw)
                    go_simp
                  try simp only [Act.put, List.setIfInBounds_toArray, List.set_cons_zero, List.set_cons_succ]
                  refine wpAnyH_take (i := 4) (oi := { dst := some 76, op := Op.fieldAddr 33 (Operand.tmp 12) 1, type := 0, pos := "outright.go:229", after := #[], guard := none }) (v := .pointer (some ⟨wr.heap.size, 1, none⟩)) rfl (by kernel_rfl) (by kernel_rfl) (by kernel_rfl) (fun _ _ _ h => h) (Or.inl ⟨by rfl, ?_⟩) (by assumption) ?_
                  · intro w hSw
                    (try dsimp only at hSw)
                    go_simp
                  try simp only [Act.put, List.setIfInBounds_toArray, List.set_cons_zero, List.set_cons_succ]
                  refine wpAnyH_take (i := 5) (oi := { dst := some 77, op := Op.load 3 (Operand.tmp 76), type := 3, pos := "outright.go:229", after := #[{ on := 4, ground := Ground.data }], guard := none }) (v := .int .i64 (X : Int)) rfl (by kernel_rfl) (by kernel_rfl) (by kernel_rfl) (fun _ _ _ h => h) (Or.inl ⟨by rfl, ?_⟩) (by assumption) ?_
                  · intro w hSw
                    (try dsimp only at hSw)
                    go_simp
                  try simp only [Act.put, List.setIfInBounds_toArray, List.set_cons_zero, List.set_cons_succ]
                  refine wpAnyH_take (i := 6) (oi := { dst := some 78, op := Op.indexAddr 44 (Operand.tmp 75) (Operand.tmp 77), type := 0, pos := "outright.go:229", after := #[{ on := 3, ground := Ground.data }, { on := 5, ground := Ground.data }], guard := none }) (v := .pointer (some ⟨q, X, none⟩)) rfl (by kernel_rfl) (by kernel_rfl) (by kernel_rfl) (fun _ _ _ h => h) (Or.inl ⟨by rfl, ?_⟩) (by assumption) ?_
                  · intro w hSw
                    (try dsimp only at hSw)
                    go_simp
                  try simp only [Act.put, List.setIfInBounds_toArray, List.set_cons_zero, List.set_cons_succ]
                  refine wpAnyH_take (i := 8) (oi := { dst := some 80, op := Op.fieldAddr 33 (Operand.tmp 12) 2, type := 0, pos := "outright.go:229", after := #[], guard := none }) (v := .pointer (some ⟨wr.heap.size, 2, none⟩)) rfl (by kernel_rfl) (by kernel_rfl) (by kernel_rfl) (fun _ _ _ h => h) (Or.inl ⟨by rfl, ?_⟩) (by assumption) ?_
                  · intro w hSw
                    (try dsimp only at hSw)
                    go_simp
                  try simp only [Act.put, List.setIfInBounds_toArray, List.set_cons_zero, List.set_cons_succ]
                  refine wpAnyH_take (i := 9) (oi := { dst := some 81, op := Op.load 22 (Operand.tmp 80), type := 22, pos := "outright.go:229", after := #[{ on := 8, ground := Ground.data }], guard := none }) (v := .slice a' 512 c') rfl (by kernel_rfl) (by kernel_rfl) (by kernel_rfl) (fun _ _ _ h => h) (Or.inl ⟨by rfl, ?_⟩) (by assumption) ?_
                  · intro w hSw
                    (try dsimp only at hSw)
                    go_simp
                  try simp only [Act.put, List.setIfInBounds_toArray, List.set_cons_zero, List.set_cons_succ]
                  refine wpAnyH_ready (rs := [7, 10]) (by kernel_rfl) (by simp) ?_
                  refine AllReadyH.cons (o := { dst := some 79, op := Op.load 28 (Operand.tmp 78), type := 28, pos := "outright.go:229", after := #[{ on := 6, ground := Ground.data }], guard := none }) rfl (fun K hK => ?_) (AllReadyH.cons (o := { dst := some 82, op := Op.buildSlice 28 1 #[(0, Operand.tmp 81)], type := 28, pos := "outright.go:229", after := #[{ on := 9, ground := Ground.data }], guard := none }) rfl (fun K hK => ?_) AllReadyH.nil)
                  · go_simp
                    refine hK.out _ _ ?_ (fun hHeld => ?_)
                    · exact ⟨kX7, kD7⟩
                    clear hK K
                    try simp only [Act.put, List.setIfInBounds_toArray, List.set_cons_zero, List.set_cons_succ]
                    refine wpAnyH_ready (rs := [10]) (by kernel_rfl) (by simp) ?_
                    refine AllReadyH.cons (o := { dst := some 82, op := Op.buildSlice 28 1 #[(0, Operand.tmp 81)], type := 28, pos := "outright.go:229", after := #[{ on := 9, ground := Ground.data }], guard := none }) rfl (fun K hK => ?_) AllReadyH.nil
                    go_simp
                    refine hK.out _ _ ?_ (fun hHeld => ?_)
                    · exact ⟨(kA _).1, (kA _).2.1⟩
                    clear hK K
                    try simp only [Act.put, List.setIfInBounds_toArray, List.set_cons_zero, List.set_cons_succ]
                    refine wpAnyH_ready (rs := [11]) (by kernel_rfl) (by simp) ?_
                    refine AllReadyH.cons (o := { dst := some 83, op := Op.call { callee := Callee.builtin Builtin.append, args := #[Operand.tmp 79, Operand.tmp 82], argTypes := #[28, 28] }, type := 28, pos := "outright.go:229", after := #[{ on := 7, ground := Ground.data }, { on := 10, ground := Ground.data }], guard := none }) rfl (fun K hK => ?_) AllReadyH.nil
                    refine step_append_lies _ (by rfl) _ _ _ (by rfl) 0 22 i0 _ 1 24 Try.underlying28 hi0 hz0 hz1 hz2 rfl (by omega) (.slice (some ⟨gk, 0, none⟩) NN ck) NN us (by rfl) (Hown.out _) ⟨w7.heap.size, 0, none⟩ 1 1 [.slice a' 512 c'] (by rfl) (by rfl) (World.news_of_block (cs := #[.slice a' 512 c']) (t := 22) (fr := (0, 0)) (heap_alloc_new w7.drew _)) (by simp [Value.oneCell']) (by omega) (by unfold maxLen; omega) (by omega) (Nat.zero_le _) (w7.heap.size + 1) (by simp) ?_
                    intro g2 cap2 w8 hown8 hgrow8 hat8 hlt8
                    have hq8 : w8.heap[q]? = w7.heap[q]? := (hgrow8.block q (Nat.lt_of_lt_of_le hq7 (by simp)) (fun e => hqg (by cases e; rfl))).trans (heap_alloc_old _ _ hq7)
                    have hx8 : w8.heap[wr.heap.size]? = w7.heap[wr.heap.size]? := (hgrow8.block wr.heap.size (Nat.lt_of_lt_of_le hx7 (by simp)) (fun e => hqk (by cases e; rfl))).trans (heap_alloc_old _ _ hx7)
                    have k4 : w8.cell? ⟨wr.heap.size, 1, none⟩ = some (.int .i64 (X : Int)) ∧ w8.cell? ⟨wr.heap.size, 2, none⟩ = some (.slice a' 512 c') ∧ w8.cell? ⟨q, X, none⟩ = some (.slice (some ⟨gk, 0, none⟩) NN ck) := ⟨(World.cell?_of_block (w := w7) (a := ⟨wr.heap.size, 1, none⟩) hx8).trans kX2, (World.cell?_of_block (w := w7) (a := ⟨wr.heap.size, 2, none⟩) hx8).trans kD2, (World.cell?_of_block (w := w7) (a := ⟨q, X, none⟩) hq8).trans kQ⟩
                    have kQ8 := k4.2.2
                    have fQ8 := fQ w8 hq8
                    have k5 := fun v : Value => And.intro ((World.cell?_of_block (w := w8) (a := ⟨wr.heap.size, 1, none⟩) ((Keeps.setCell (F := fun k => k = q) w8 (p := ⟨q, X, none⟩) rfl v).block wr.heap.size (Nat.lt_of_lt_of_le (Nat.lt_of_lt_of_le hx7 (by simp)) hgrow8.size) (fun e => Nat.ne_of_gt hqr e))).trans k4.1) ((World.cell?_of_block (w := w8) (a := ⟨wr.heap.size, 2, none⟩) ((Keeps.setCell (F := fun k => k = q) w8 (p := ⟨q, X, none⟩) rfl v).block wr.heap.size (Nat.lt_of_lt_of_le (Nat.lt_of_lt_of_le hx7 (by simp)) hgrow8.size) (fun e => Nat.ne_of_gt hqr e))).trans k4.2.1)
                    refine hK.out _ _ ?_ (fun hHeld => ?_)
                    · exact ⟨k4.1, k4.2.1⟩
                    clear hK K
                    try simp only [Act.put, List.setIfInBounds_toArray, List.set_cons_zero, List.set_cons_succ]
                    refine wpAnyH_take (i := 12) (oi := { dst := some 84, op := Op.indexAddr 44 (Operand.tmp 72) (Operand.tmp 74), type := 0, pos := "outright.go:229", after := #[{ on := 0, ground := Ground.data }, { on := 2, ground := Ground.data }, { on := 0, ground := Ground.phase }, { on := 1, ground := Ground.phase }, { on := 2, ground := Ground.phase }, { on := 3, ground := Ground.phase }, { on := 4, ground := Ground.phase }, { on := 5, ground := Ground.phase }, { on := 6, ground := Ground.phase }, { on := 7, ground := Ground.phase }, { on := 8, ground := Ground.phase }, { on := 9, ground := Ground.phase }, { on := 10, ground := Ground.phase }, { on := 11, ground := Ground.phase }], guard := none }) (v := .pointer (some ⟨q, X, none⟩)) rfl (by kernel_rfl) (by kernel_rfl) (by kernel_rfl) (fun _ _ _ h => h) (Or.inl ⟨by rfl, ?_⟩) (by assumption) ?_
                    · intro w hSw
                      (try dsimp only at hSw)
                      go_simp
                    try simp only [Act.put, List.setIfInBounds_toArray, List.set_cons_zero, List.set_cons_succ]
                    refine wpAnyH_ready (rs := [13]) (by kernel_rfl) (by simp) ?_
                    refine AllReadyH.cons (o := { dst := none, op := Op.store 28 (Operand.tmp 84) (Operand.tmp 83), type := 0, pos := "outright.go:229", after := #[{ on := 12, ground := Ground.data }, { on := 11, ground := Ground.data }, { on := 11, ground := Ground.chain }, { on := 0, ground := Ground.phase }, { on := 1, ground := Ground.phase }, { on := 2, ground := Ground.phase }, { on := 3, ground := Ground.phase }, { on := 4, ground := Ground.phase }, { on := 5, ground := Ground.phase }, { on := 6, ground := Ground.phase }, { on := 7, ground := Ground.phase }, { on := 8, ground := Ground.phase }, { on := 9, ground := Ground.phase }, { on := 10, ground := Ground.phase }, { on := 11, ground := Ground.phase }], guard := none }) rfl (fun K hK => ?_) AllReadyH.nil
                    go_simp
                    refine hK.out _ _ ?_ (fun hHeld => ?_)
                    · exact k5 _
                    clear hK K
                    try simp only [Act.put, List.setIfInBounds_toArray, List.set_cons_zero, List.set_cons_succ]
                    refine wpAnyH_done (by kernel_rfl) ?_ _
                    have HZ := Hid.mk (HGrow.out g2 cap2 w8 hown8 hgrow8 (hat8.imp (fun e => by simpa [Value.ownBlock] using e) id) hlt8)
                    clear hown8 hgrow8 hat8 hlt8 hq8 hx8 k4 kQ8 fQ8 k5 kA kAQ kQ kQ7 kX7 kD7 kX2 kD2 fQ
                    go_wp2
                    go_roundw
                    case rel => exact ⟨j + 1, by omega, by go_num, HZ.out⟩
                    case measure => simp [intOf]; omega
                  · go_simp
                    refine hK.out _ _ ?_ (fun hHeld => ?_)
                    · exact ⟨(kA _).1, (kA _).2.1⟩
                    clear hK K
                    try simp only [Act.put, List.setIfInBounds_toArray, List.set_cons_zero, List.set_cons_succ]
                    refine wpAnyH_ready (rs := [7]) (by kernel_rfl) (by simp) ?_
                    refine AllReadyH.cons (o := { dst := some 79, op := Op.load 28 (Operand.tmp 78), type := 28, pos := "outright.go:229", after := #[{ on := 6, ground := Ground.data }], guard := none }) rfl (fun K hK => ?_) AllReadyH.nil
                    go_simp
                    refine hK.out _ _ ?_ (fun hHeld => ?_)
                    · exact ⟨(kA _).1, (kA _).2.1⟩
                    clear hK K
                    try simp only [Act.put, List.setIfInBounds_toArray, List.set_cons_zero, List.set_cons_succ]
                    refine wpAnyH_ready (rs := [11]) (by kernel_rfl) (by simp) ?_
                    refine AllReadyH.cons (o := { dst := some 83, op := Op.call { callee := Callee.builtin Builtin.append, args := #[Operand.tmp 79, Operand.tmp 82], argTypes := #[28, 28] }, type := 28, pos := "outright.go:229", after := #[{ on := 7, ground := Ground.data }, { on := 10, ground := Ground.data }], guard := none }) rfl (fun K hK => ?_) AllReadyH.nil
                    refine step_append_lies _ (by rfl) _ _ _ (by rfl) 0 22 i0 _ 1 24 Try.underlying28 hi0 hz0 hz1 hz2 rfl (by omega) (.slice (some ⟨gk, 0, none⟩) NN ck) NN us (by rfl) (Hown.out _) ⟨w7.heap.size, 0, none⟩ 1 1 [.slice a' 512 c'] (by rfl) (by rfl) (World.news_of_block (cs := #[.slice a' 512 c']) (t := 22) (fr := (0, 0)) (heap_alloc_new w7.drew _)) (by simp [Value.oneCell']) (by omega) (by unfold maxLen; omega) (by omega) (Nat.zero_le _) (w7.heap.size + 1) (by simp) ?_
                    intro g2 cap2 w8 hown8 hgrow8 hat8 hlt8
                    have hq8 : w8.heap[q]? = w7.heap[q]? := (hgrow8.block q (Nat.lt_of_lt_of_le hq7 (by simp)) (fun e => hqg (by cases e; rfl))).trans (heap_alloc_old _ _ hq7)
                    have hx8 : w8.heap[wr.heap.size]? = w7.heap[wr.heap.size]? := (hgrow8.block wr.heap.size (Nat.lt_of_lt_of_le hx7 (by simp)) (fun e => hqk (by cases e; rfl))).trans (heap_alloc_old _ _ hx7)
                    have k4 : w8.cell? ⟨wr.heap.size, 1, none⟩ = some (.int .i64 (X : Int)) ∧ w8.cell? ⟨wr.heap.size, 2, none⟩ = some (.slice a' 512 c') ∧ w8.cell? ⟨q, X, none⟩ = some (.slice (some ⟨gk, 0, none⟩) NN ck) := ⟨(World.cell?_of_block (w := w7) (a := ⟨wr.heap.size, 1, none⟩) hx8).trans kX2, (World.cell?_of_block (w := w7) (a := ⟨wr.heap.size, 2, none⟩) hx8).trans kD2, (World.cell?_of_block (w := w7) (a := ⟨q, X, none⟩) hq8).trans kQ⟩
                    have kQ8 := k4.2.2
                    have fQ8 := fQ w8 hq8
                    have k5 := fun v : Value => And.intro ((World.cell?_of_block (w := w8) (a := ⟨wr.heap.size, 1, none⟩) ((Keeps.setCell (F := fun k => k = q) w8 (p := ⟨q, X, none⟩) rfl v).block wr.heap.size (Nat.lt_of_lt_of_le (Nat.lt_of_lt_of_le hx7 (by simp)) hgrow8.size) (fun e => Nat.ne_of_gt hqr e))).trans k4.1) ((World.cell?_of_block (w := w8) (a := ⟨wr.heap.size, 2, none⟩) ((Keeps.setCell (F := fun k => k = q) w8 (p := ⟨q, X, none⟩) rfl v).block wr.heap.size (Nat.lt_of_lt_of_le (Nat.lt_of_lt_of_le hx7 (by simp)) hgrow8.size) (fun e => Nat.ne_of_gt hqr e))).trans k4.2.1)
                    refine hK.out _ _ ?_ (fun hHeld => ?_)
                    · exact ⟨k4.1, k4.2.1⟩
                    clear hK K
                    try simp only [Act.put, List.setIfInBounds_toArray, List.set_cons_zero, List.set_cons_succ]
                    refine wpAnyH_take (i := 12) (oi := { dst := some 84, op := Op.indexAddr 44 (Operand.tmp 72) (Operand.tmp 74), type := 0, pos := "outright.go:229", after := #[{ on := 0, ground := Ground.data }, { on := 2, ground := Ground.data }, { on := 0, ground := Ground.phase }, { on := 1, ground := Ground.phase }, { on := 2, ground := Ground.phase }, { on := 3, ground := Ground.phase }, { on := 4, ground := Ground.phase }, { on := 5, ground := Ground.phase }, { on := 6, ground := Ground.phase }, { on := 7, ground := Ground.phase }, { on := 8, ground := Ground.phase }, { on := 9, ground := Ground.phase }, { on := 10, ground := Ground.phase }, { on := 11, ground := Ground.phase }], guard := none }) (v := .pointer (some ⟨q, X, none⟩)) rfl (by kernel_rfl) (by kernel_rfl) (by kernel_rfl) (fun _ _ _ h => h) (Or.inl ⟨by rfl, ?_⟩) (by assumption) ?_
                    · intro w hSw
                      (try dsimp only at hSw)
                      go_simp
                    try simp only [Act.put, List.setIfInBounds_toArray, List.set_cons_zero, List.set_cons_succ]
                    refine wpAnyH_ready (rs := [13]) (by kernel_rfl) (by simp) ?_
                    refine AllReadyH.cons (o := { dst := none, op := Op.store 28 (Operand.tmp 84) (Operand.tmp 83), type := 0, pos := "outright.go:229", after := #[{ on := 12, ground := Ground.data }, { on := 11, ground := Ground.data }, { on := 11, ground := Ground.chain }, { on := 0, ground := Ground.phase }, { on := 1, ground := Ground.phase }, { on := 2, ground := Ground.phase }, { on := 3, ground := Ground.phase }, { on := 4, ground := Ground.phase }, { on := 5, ground := Ground.phase }, { on := 6, ground := Ground.phase }, { on := 7, ground := Ground.phase }, { on := 8, ground := Ground.phase }, { on := 9, ground := Ground.phase }, { on := 10, ground := Ground.phase }, { on := 11, ground := Ground.phase }], guard := none }) rfl (fun K hK => ?_) AllReadyH.nil
                    go_simp
                    refine hK.out _ _ ?_ (fun hHeld => ?_)
                    · exact k5 _
                    clear hK K
                    try simp only [Act.put, List.setIfInBounds_toArray, List.set_cons_zero, List.set_cons_succ]
                    refine wpAnyH_done (by kernel_rfl) ?_ _
                    have HZ := Hid.mk (HGrow.out g2 cap2 w8 hown8 hgrow8 (hat8.imp (fun e => by simpa [Value.ownBlock] using e) id) hlt8)
                    clear hown8 hgrow8 hat8 hlt8 hq8 hx8 k4 kQ8 fQ8 k5 kA kAQ kQ kQ7 kX7 kD7 kX2 kD2 fQ
                    go_wp2
                    go_roundw
                    case rel => exact ⟨j + 1, by omega, by go_num, HZ.out⟩
                    case measure => simp [intOf]; omega
              · have HBad := Hid.mk (wr_no1 (S := S) (s := s) (x := x) (n := m) (l := l') (.inr (.inr x3)))
                have d2 : (0 : Int) ≤ x := by omega
                have d3 : x < (s : Int) := by omega
                have d4 : ((m : Int) == 512) = false := by rw [beq_eq_false_iff_ne]; omega
                have d4' : ¬ (m : Int) = 512 := by omega
                go_wp2_with fail
                generalize wr.alloc (.cells (opC 2 x a' m c' pa pn pc) 33) = w5 at *
                have hdr := below_drew1 (Below.refl w5.heap.size w5)
                have htw := twin_any a' m c' l' w5.drew HO.out.n (HO.out.s.later hdr)
                have HDr := Hid.mk hdr
                clear hdr
                go_region_held3 (fun w' => w'.cell? ⟨wr.heap.size, 1, none⟩ = some (.int .i64 x) ∧ w'.cell? ⟨wr.heap.size, 2, none⟩ = some (.slice a' m c'))
                  (first | exact ⟨kX, kD⟩ | exact ⟨kX1, kD1⟩ | exact ⟨kX2, kD2⟩)
                  (first
                    | (go_at_call 12; refine htw.mono ?_; rintro e w6 ⟨g6, rfl, hg6, hr6, hb6⟩; have hn6 := (hb6.block wr.heap.size hsz5).trans ((HDr.out.block wr.heap.size hsz5).trans HN5.out); have kX1 := cell_of_block hn6 (j := 1) rfl; have kD1 := cell_of_block hn6 (j := 2) rfl; have hs6 := hr6.src; rw [HO.out.s.1] at hs6; have hdk6 := (HDk.out.later HDr.out).later hb6; have hnw6 := (HNw.out.later HDr.out).later hb6)
                    | (go_at_call 11; refine (write_all hdk6.d x (some ⟨g6, 0, none⟩) m m l' hs6 hbig).mono ?_; rintro e w7 ⟨rfl, hd7, hk7⟩; have hsz6 : wr.heap.size < w6.heap.size := lt_there hn6; have hn7 := (hk7.block wr.heap.size hsz6 hbx).trans hn6; have kX2 := cell_of_block hn7 (j := 1) rfl; have kD2 := cell_of_block hn7 (j := 2) rfl))
                have HDk7 := Hid.mk (hdk6.step hd7 hk7)
                have HK7 := Hid.mk hk7
                have HNw6 := Hid.mk hnw6
                have HO7 := Hid.mk (HO.out.s.later HDr.out |>.later hb6 |>.aside hk7 (fun y e h => fun hf => by have := HDk.out.lo _ hf; have := HO.out.sB y e h; omega))
                clear htw hr6 hb6 hs6 hdk6 hnw6 hn6 hn7 hd7 hk7 kX kD kP k0 kX1 kD1 hg6 c0 c1 c2 c3
                obtain ⟨z1, z2, z3⟩ := HBad.out
                have HZ : Hid (MRun w w7 p s (j + 1) (.slice (some ⟨q, 0, none⟩) s cq)) := ⟨_, _, q, cq, rfl, HDk7.out, HNw6.out.more HK7.out (fun k _ => z2 k), by rw [z3]; omega, hql⟩
                have e1 : ((S.wr s x m l').1 == 0) = false := by rw [beq_eq_false_iff_ne]; exact z1
                generalize (S.wr s x m l').1 = E1 at *
                clear z1 z2 z3 HBad
                go_wp2
                go_roundw
                case rel => exact ⟨j + 1, by omega, by go_num, HZ.out⟩
                case measure => simp [intOf]; omega
        · by_cases k3 : kd = 3
          · subst k3
            by_cases hf : S.fuse = 0
            · have hfl := flush_all HDk.out.d hbig
              have e0 : S.fl s = (3, S) := by simp [DS.fl, hf]
              rw [e0] at hfl
              go_wp2_with fail
              generalize wr.alloc (.cells (opC 3 x a' m c' pa pn pc) 33) = w5 at *
              refine hfl.mono ?_
              rintro e w6 ⟨rfl, hd6, hk6⟩
              have HZ : Hid (MRun w w6 p s (j + 1) (.slice (some ⟨q, 0, none⟩) s cq)) := ⟨F, S, q, cq, rfl, HDk.out.same hd6 hk6, HNw.out.keep (fun b h1 h2 => hk6.block b h1 h2) (fun _ _ h => h) (fun _ _ => rfl), by omega, hql⟩
              clear hfl hd6 hk6 kX kD kP k0 c0 c1 c2 c3 e0
              go_wp2
              go_roundw
              case rel => exact ⟨j + 1, by omega, by go_num, HZ.out⟩
              case measure => simp [intOf]; omega
            · have hfl := flush_all HDk.out.d hbig
              have e0 : (S.fl s).1 = 0 := by simp [DS.fl, hf]
              have e1 : (S.fl s).2 = (S.flush s).spend := by simp [DS.fl, hf]
              have HE1 : Hid ((S.fl s).2.im = imOf s S.now ∧ (S.fl s).2.puts = []) := by rw [e1]; exact ⟨rfl, rfl⟩
              have HCn := Hid.mk (fun k (hk : k < s) => fl_cands HDk.out.d.ok hf hk)
              have HNl := Hid.mk (now_len HDk.out.d.ok)
              rw [e0] at hfl
              have hhi := HDk.out.d.ok.hi
              have hlo := HDk.out.d.ok.lo
              clear e0 e1
              go_wp2_with fail
              generalize wr.alloc (.cells (opC 3 x a' m c' pa pn pc) 33) = w5 at *
              refine hfl.mono ?_
              rintro e w6 ⟨rfl, hd6, hk6⟩
              have HDk6 := Hid.mk (HDk.out.same hd6 hk6)
              have HNw6 : Hid (MayAt w.heap.size w6 F q cq s S.cands) := HNw.out.keep (fun b h1 h2 => hk6.block b h1 h2) (fun _ _ h => h) (fun _ _ => rfl)
              clear hfl hd6 hk6 kX kD kP k0 c0 c1 c2 c3
              generalize (S.fl s).2 = S7 at *
              have HPl : Hid (∀ k, (S.cands k).length ≤ 4000000000000) := fun k => by rw [cands_len]; have := pendOf_len S.puts k; omega
              go_wp2
              go_loopw [15] (fun i wr => ∃ t : Nat, t ≤ s ∧ i = .int .i64 (t : Int) ∧ Dk w wr F p s S7 ∧ MayAt w.heap.size wr F q cq s (fun k => if k < t then [S.now k] else S.cands k)) (fun i _ => s - (intOf i).toNat)
              case atStart => exact ⟨0, Nat.zero_le _, rfl, HDk6.out, HNw6.out.keep (fun _ _ _ => rfl) (fun _ _ h => h) (fun k _ => if_neg (by omega))⟩
              case round =>
                obtain ⟨t, ht, rfl, hdt, hmt⟩ := hrel
                by_cases hts : t < s
                · have hts' : (t : Int) < (s : Int) := by omega
                  obtain ⟨g0, cg0, kq, hn0, hnow⟩ := hmt.at hts
                  simp only [Nat.lt_irrefl, if_false] at kq hn0 hnow
                  obtain ⟨M, hM⟩ : ∃ M, (S.cands t).length = M + 1 := ⟨(S.cands t).length - 1, by omega⟩
                  have hMb : M + 1 ≤ 4000000000000 := by have := HPl.out t; omega
                  obtain ⟨ad, cd, kd', hsr⟩ := hnow.at (k := M) (by omega)
                  have HZ : Hid (Dk w ((wr.drew.alloc (.cells #[.slice ad 512 cd] 22)).setCell ⟨q, t, none⟩ (.slice (some ⟨wr.heap.size, 0, none⟩) 1 1)) F p s S7 ∧ MayAt w.heap.size ((wr.drew.alloc (.cells #[.slice ad 512 cd] 22)).setCell ⟨q, t, none⟩ (.slice (some ⟨wr.heap.size, 0, none⟩) 1 1)) F q cq s (fun k => if k < t + 1 then [S.now k] else S.cands k)) := by
                    have hb : Below wr.heap.size wr (wr.drew.alloc (.cells #[.slice ad 512 cd] 22)) := (below_drew1 (Below.refl _ wr)).alloc (Nat.le_refl _) _
                    have hks := Keeps.setCell (F := fun k => k = q) (wr.drew.alloc (.cells #[.slice ad 512 cd] 22)) (p := ⟨q, t, none⟩) rfl (.slice (some ⟨wr.heap.size, 0, none⟩) 1 1)
                    have hd' := hdt.later hb
                    refine ⟨⟨hd'.d.keep hks (fun k hk e => by rw [e] at hk; exact hmt.nf hk), hdt.lo, hd'.bel.trans (hks.below (fun k e => by rw [e]; exact hql) hd'.bel.size)⟩, ?_⟩
                    have hm' : MayAt w.heap.size wr.drew F q cq s (fun k => if k < t then [S.now k] else S.cands k) := hmt.keep (fun _ _ _ => rfl) (fun _ _ h => h) (fun _ _ => rfl)
                    refine hm'.reset (i := M) hdt.bel.size (fun b hb => hdt.d.lt b hb) hts (by show M < (if t < t then [S.now t] else S.cands t).length; rw [if_neg (by omega)]; omega) (g := g0) (c := cg0) (by show wr.drew.cell? _ = some (.slice _ (if t < t then [S.now t] else S.cands t).length _); rw [if_neg (by omega)]; exact kq) kd' (fun k _ => ?_)
                    show (if k < t + 1 then [S.now k] else S.cands k) = if k = t then [(if t < t then [S.now t] else S.cands t).getD M []] else if k < t then [S.now k] else S.cands k
                    by_cases hk : k = t
                    · subst hk
                      rw [if_pos (by omega), if_pos rfl, if_neg (by omega), ← now_cands S k, hM]
                      rfl
                    · rw [if_neg hk]
                      by_cases hk2 : k < t
                      · rw [if_pos (by omega), if_pos hk2]
                      · rw [if_neg (by omega), if_neg hk2]
                  have fQ : wr.frozen? ⟨q, t, none⟩ = false := by
                    obtain ⟨_, vs, _, _, h1, _⟩ := hmt.r
                    exact h1.frozen t
                  rw [hM] at kq
                  have hqr' := hmt.lt
                  have hg0r := hnow.lt
                  have hqg : g0 ≠ q := by
                    obtain ⟨_, vs, _, _, h1, _⟩ := hmt.r
                    obtain ⟨us, hus, _⟩ := hnow.r
                    obtain ⟨cur, hc, _⟩ := h1
                    exact hus.ne hc (by decide)
                  have x1 : IntKind.i64.wrap (((M + 1 : Nat) : Int) - 1) = (M : Int) := by rw [IntKind.wrap_i64]; all_goals omega
                  have x2 : wrap64 (((M + 1 : Nat) : Int) - 1) = (M : Int) := by unfold wrap64; omega
                  have x3 : wrap64 ((M : Int) + 1 - 1) = (M : Int) := by unfold wrap64; omega
                  have x4 : (M : Int) < (M : Int) + 1 := by omega
                  have x5 : (0 : Int) ≤ (M : Int) := by omega
                  have x6 : IntKind.i64.wrap (M : Int) = (M : Int) := by rw [IntKind.wrap_i64]; all_goals omega
                  have x7 : IntKind.i64.wrap ((M : Int) + 1 - 1) = (M : Int) := by rw [IntKind.wrap_i64]; all_goals omega
                  have x8 : (M : Int) < ((M + 1 : Nat) : Int) := by omega
                  have x9 : wrap64 (M : Int) = (M : Int) := by unfold wrap64; omega
                  have kA : (wr.drew.alloc (.cells #[.slice ad 512 cd] 22)).cell? ⟨g0, M, none⟩ = some (.slice ad 512 cd) := (World.cell?_of_block (w := wr.drew) (a := ⟨g0, M, none⟩) (heap_alloc_old _ _ hg0r)).trans kd'
                  have kAQ : (wr.drew.alloc (.cells #[.slice ad 512 cd] 22)).cell? ⟨q, t, none⟩ = some (.slice (some ⟨g0, 0, none⟩) (M + 1) cg0) := (World.cell?_of_block (w := wr.drew) (a := ⟨q, t, none⟩) (heap_alloc_old _ _ hqr')).trans kq
                  have fAQ : (wr.drew.alloc (.cells #[.slice ad 512 cd] 22)).frozen? ⟨q, t, none⟩ = false := (World.frozen?_of_block (w := wr.drew) (a := ⟨q, t, none⟩) (heap_alloc_old _ _ hqr')).trans fQ
                  have k5 : ∀ v : Value, ((wr.drew.alloc (.cells #[.slice ad 512 cd] 22)).setCell ⟨q, t, none⟩ v).cell? ⟨g0, M, none⟩ = some (.slice ad 512 cd) := fun v => (World.cell?_of_block (w := wr.drew.alloc (.cells #[.slice ad 512 cd] 22)) (a := ⟨g0, M, none⟩) ((Keeps.setCell (F := fun k => k = q) _ (p := ⟨q, t, none⟩) rfl v).block g0 (Nat.lt_of_lt_of_le hg0r (by simp)) hqg)).trans kA
                  have hweq : ((wr.setCell ⟨q, t, none⟩ (.slice (some ⟨wr.heap.size, 0, none⟩) 1 1)).alloc (.cells #[.slice ad 512 cd] 22)).drew = (wr.drew.alloc (.cells #[.slice ad 512 cd] 22)).setCell ⟨q, t, none⟩ (.slice (some ⟨wr.heap.size, 0, none⟩) 1 1) := by
                    first | (go_simp; done) | (simp [hqr']; done) | (simp [World.alloc, World.setCell, World.drew, hqr', Array.getElem?_push]; done)
                  have HWeq := Hid.mk hweq
                  have k6 := k5 (.slice (some ⟨wr.heap.size, 0, none⟩) 1 1)
                  rw [← hweq] at k6 HZ
                  clear hdt hmt hnow hsr hM hn0 hg0r hweq k5
                  go_wp2_with fail
                  refine wp_region_held_drew (S := (fun w' => w'.cell? ⟨g0, M, none⟩ = some (.slice ad 512 cd))) (by kernel_rfl) kd' (fun hHeld => ?_)
                  refine wpAnyH_take (i := 0) (oi := { dst := some 97, op := Op.move (Operand.tmp 10), type := 44, pos := "outright.go:235", after := #[], guard := none }) (v := .slice (some ⟨q, 0, none⟩) s cq) rfl (by kernel_rfl) (by kernel_rfl) (by kernel_rfl) (fun _ _ _ h => h) (Or.inl ⟨by rfl, ?_⟩) (by assumption) ?_
                  · intro w hSw
                    (try dsimp only at hSw)
                    go_simp
                  try simp only [Act.put, List.setIfInBounds_toArray, List.set_cons_zero, List.set_cons_succ]
                  refine wpAnyH_take (i := 1) (oi := { dst := some 98, op := Op.move (Operand.tmp 15), type := 3, pos := "outright.go:235", after := #[], guard := none }) (v := .int .i64 (t : Int)) rfl (by kernel_rfl) (by kernel_rfl) (by kernel_rfl) (fun _ _ _ h => h) (Or.inl ⟨by rfl, ?_⟩) (by assumption) ?_
                  · intro w hSw
                    (try dsimp only at hSw)
                    go_simp
                  try simp only [Act.put, List.setIfInBounds_toArray, List.set_cons_zero, List.set_cons_succ]
                  refine wpAnyH_take (i := 2) (oi := { dst := some 99, op := Op.move (Operand.tmp 10), type := 44, pos := "outright.go:235", after := #[], guard := none }) (v := .slice (some ⟨q, 0, none⟩) s cq) rfl (by kernel_rfl) (by kernel_rfl) (by kernel_rfl) (fun _ _ _ h => h) (Or.inl ⟨by rfl, ?_⟩) (by assumption) ?_
                  · intro w hSw
                    (try dsimp only at hSw)
                    go_simp
                  try simp only [Act.put, List.setIfInBounds_toArray, List.set_cons_zero, List.set_cons_succ]
                  refine wpAnyH_take (i := 3) (oi := { dst := some 100, op := Op.move (Operand.tmp 15), type := 3, pos := "outright.go:235", after := #[], guard := none }) (v := .int .i64 (t : Int)) rfl (by kernel_rfl) (by kernel_rfl) (by kernel_rfl) (fun _ _ _ h => h) (Or.inl ⟨by rfl, ?_⟩) (by assumption) ?_
                  · intro w hSw
                    (try dsimp only at hSw)
                    go_simp
                  try simp only [Act.put, List.setIfInBounds_toArray, List.set_cons_zero, List.set_cons_succ]
                  refine wpAnyH_take (i := 4) (oi := { dst := some 101, op := Op.indexAddr 44 (Operand.tmp 99) (Operand.tmp 100), type := 0, pos := "outright.go:235", after := #[{ on := 2, ground := Ground.data }, { on := 3, ground := Ground.data }], guard := none }) (v := .pointer (some ⟨q, t, none⟩)) rfl (by kernel_rfl) (by kernel_rfl) (by kernel_rfl) (fun _ _ _ h => h) (Or.inl ⟨by rfl, ?_⟩) (by assumption) ?_
                  · intro w hSw
                    (try dsimp only at hSw)
                    go_simp
                  try simp only [Act.put, List.setIfInBounds_toArray, List.set_cons_zero, List.set_cons_succ]
                  refine wpAnyH_take (i := 6) (oi := { dst := some 103, op := Op.move (Operand.tmp 10), type := 44, pos := "outright.go:235", after := #[], guard := none }) (v := .slice (some ⟨q, 0, none⟩) s cq) rfl (by kernel_rfl) (by kernel_rfl) (by kernel_rfl) (fun _ _ _ h => h) (Or.inl ⟨by rfl, ?_⟩) (by assumption) ?_
                  · intro w hSw
                    (try dsimp only at hSw)
                    go_simp
                  try simp only [Act.put, List.setIfInBounds_toArray, List.set_cons_zero, List.set_cons_succ]
                  refine wpAnyH_take (i := 7) (oi := { dst := some 104, op := Op.move (Operand.tmp 15), type := 3, pos := "outright.go:235", after := #[], guard := none }) (v := .int .i64 (t : Int)) rfl (by kernel_rfl) (by kernel_rfl) (by kernel_rfl) (fun _ _ _ h => h) (Or.inl ⟨by rfl, ?_⟩) (by assumption) ?_
                  · intro w hSw
                    (try dsimp only at hSw)
                    go_simp
                  try simp only [Act.put, List.setIfInBounds_toArray, List.set_cons_zero, List.set_cons_succ]
                  refine wpAnyH_take (i := 8) (oi := { dst := some 105, op := Op.indexAddr 44 (Operand.tmp 103) (Operand.tmp 104), type := 0, pos := "outright.go:235", after := #[{ on := 6, ground := Ground.data }, { on := 7, ground := Ground.data }], guard := none }) (v := .pointer (some ⟨q, t, none⟩)) rfl (by kernel_rfl) (by kernel_rfl) (by kernel_rfl) (fun _ _ _ h => h) (Or.inl ⟨by rfl, ?_⟩) (by assumption) ?_
                  · intro w hSw
                    (try dsimp only at hSw)
                    go_simp
                  try simp only [Act.put, List.setIfInBounds_toArray, List.set_cons_zero, List.set_cons_succ]
                  refine wpAnyH_ready (rs := [5, 9]) (by kernel_rfl) (by simp) ?_
                  refine AllReadyH.cons (o := { dst := some 102, op := Op.load 28 (Operand.tmp 101), type := 28, pos := "outright.go:235", after := #[{ on := 4, ground := Ground.data }], guard := none }) rfl (fun K hK => ?_) (AllReadyH.cons (o := { dst := some 106, op := Op.load 28 (Operand.tmp 105), type := 28, pos := "outright.go:235", after := #[{ on := 8, ground := Ground.data }], guard := none }) rfl (fun K hK => ?_) AllReadyH.nil)
                  · go_simp
                    refine hK.out _ _ ?_ (fun hHeld => ?_)
                    · exact kd'
                    clear hK K
                    try simp only [Act.put, List.setIfInBounds_toArray, List.set_cons_zero, List.set_cons_succ]
                    refine wpAnyH_ready (rs := [9]) (by kernel_rfl) (by simp) ?_
                    refine AllReadyH.cons (o := { dst := some 106, op := Op.load 28 (Operand.tmp 105), type := 28, pos := "outright.go:235", after := #[{ on := 8, ground := Ground.data }], guard := none }) rfl (fun K hK => ?_) AllReadyH.nil
                    go_simp
                    refine hK.out _ _ ?_ (fun hHeld => ?_)
                    · exact kd'
                    clear hK K
                    try simp only [Act.put, List.setIfInBounds_toArray, List.set_cons_zero, List.set_cons_succ]
                    refine wpAnyH_take (i := 10) (oi := { dst := some 107, op := Op.call { callee := Callee.builtin Builtin.len, args := #[Operand.tmp 106], argTypes := #[28] }, type := 3, pos := "outright.go:235", after := #[{ on := 9, ground := Ground.data }], guard := none }) (v := .int .i64 ((M + 1 : Nat) : Int)) rfl (by kernel_rfl) (by kernel_rfl) (by kernel_rfl) (fun _ _ _ h => h) (Or.inl ⟨by rfl, ?_⟩) (by assumption) ?_
                    · intro w hSw
                      (try dsimp only at hSw)
                      go_simp
                    try simp only [Act.put, List.setIfInBounds_toArray, List.set_cons_zero, List.set_cons_succ]
                    refine wpAnyH_take (i := 11) (oi := { dst := some 108, op := Op.binOp BinOp.sub 3 (Operand.tmp 107) (Operand.const (Value.int IntKind.i64 1)) 3, type := 3, pos := "outright.go:235", after := #[{ on := 10, ground := Ground.data }], guard := none }) (v := .int .i64 (M : Int)) rfl (by kernel_rfl) (by kernel_rfl) (by kernel_rfl) (fun _ _ _ h => h) (Or.inl ⟨by rfl, ?_⟩) (by assumption) ?_
                    · intro w hSw
                      (try dsimp only at hSw)
                      go_simp
                    try simp only [Act.put, List.setIfInBounds_toArray, List.set_cons_zero, List.set_cons_succ]
                    refine wpAnyH_take (i := 12) (oi := { dst := some 109, op := Op.indexAddr 28 (Operand.tmp 102) (Operand.tmp 108), type := 0, pos := "outright.go:235", after := #[{ on := 5, ground := Ground.data }, { on := 11, ground := Ground.data }], guard := none }) (v := .pointer (some ⟨g0, M, none⟩)) rfl (by kernel_rfl) (by kernel_rfl) (by kernel_rfl) (fun _ _ _ h => h) (Or.inl ⟨by rfl, ?_⟩) (by assumption) ?_
                    · intro w hSw
                      (try dsimp only at hSw)
                      go_simp
                    try simp only [Act.put, List.setIfInBounds_toArray, List.set_cons_zero, List.set_cons_succ]
                    refine wpAnyH_take (i := 13) (oi := { dst := some 110, op := Op.load 22 (Operand.tmp 109), type := 22, pos := "outright.go:235", after := #[{ on := 12, ground := Ground.data }], guard := none }) (v := .slice ad 512 cd) rfl (by kernel_rfl) (by kernel_rfl) (by kernel_rfl) (fun _ _ _ h => h) (Or.inl ⟨by rfl, ?_⟩) (by assumption) ?_
                    · intro w hSw
                      (try dsimp only at hSw)
                      go_simp
                    try simp only [Act.put, List.setIfInBounds_toArray, List.set_cons_zero, List.set_cons_succ]
                    refine wpAnyH_ready (rs := [14]) (by kernel_rfl) (by simp) ?_
                    refine AllReadyH.cons (o := { dst := some 111, op := Op.buildSlice 28 1 #[(0, Operand.tmp 110)], type := 28, pos := "outright.go:235", after := #[{ on := 13, ground := Ground.data }], guard := none }) rfl (fun K hK => ?_) AllReadyH.nil
                    go_simp
                    refine hK.out _ _ ?_ (fun hHeld => ?_)
                    · exact kA
                    clear hK K
                    try simp only [Act.put, List.setIfInBounds_toArray, List.set_cons_zero, List.set_cons_succ]
                    refine wpAnyH_take (i := 15) (oi := { dst := some 112, op := Op.indexAddr 44 (Operand.tmp 97) (Operand.tmp 98), type := 0, pos := "outright.go:235", after := #[{ on := 0, ground := Ground.data }, { on := 1, ground := Ground.data }, { on := 0, ground := Ground.phase }, { on := 1, ground := Ground.phase }, { on := 2, ground := Ground.phase }, { on := 3, ground := Ground.phase }, { on := 4, ground := Ground.phase }, { on := 5, ground := Ground.phase }, { on := 6, ground := Ground.phase }, { on := 7, ground := Ground.phase }, { on := 8, ground := Ground.phase }, { on := 9, ground := Ground.phase }, { on := 10, ground := Ground.phase }, { on := 11, ground := Ground.phase }, { on := 12, ground := Ground.phase }, { on := 13, ground := Ground.phase }, { on := 14, ground := Ground.phase }], guard := none }) (v := .pointer (some ⟨q, t, none⟩)) rfl (by kernel_rfl) (by kernel_rfl) (by kernel_rfl) (fun _ _ _ h => h) (Or.inl ⟨by rfl, ?_⟩) (by assumption) ?_
                    · intro w hSw
                      (try dsimp only at hSw)
                      go_simp
                    try simp only [Act.put, List.setIfInBounds_toArray, List.set_cons_zero, List.set_cons_succ]
                    refine wpAnyH_ready (rs := [16]) (by kernel_rfl) (by simp) ?_
                    refine AllReadyH.cons (o := { dst := none, op := Op.store 28 (Operand.tmp 112) (Operand.tmp 111), type := 0, pos := "outright.go:235", after := #[{ on := 15, ground := Ground.data }, { on := 14, ground := Ground.data }, { on := 0, ground := Ground.phase }, { on := 1, ground := Ground.phase }, { on := 2, ground := Ground.phase }, { on := 3, ground := Ground.phase }, { on := 4, ground := Ground.phase }, { on := 5, ground := Ground.phase }, { on := 6, ground := Ground.phase }, { on := 7, ground := Ground.phase }, { on := 8, ground := Ground.phase }, { on := 9, ground := Ground.phase }, { on := 10, ground := Ground.phase }, { on := 11, ground := Ground.phase }, { on := 12, ground := Ground.phase }, { on := 13, ground := Ground.phase }, { on := 14, ground := Ground.phase }], guard := none }) rfl (fun K hK => ?_) AllReadyH.nil
                    go_simp
                    refine hK.out _ _ ?_ (fun hHeld => ?_)
                    · exact k6
                    clear hK K
                    try simp only [Act.put, List.setIfInBounds_toArray, List.set_cons_zero, List.set_cons_succ]
                    refine wpAnyH_done (by kernel_rfl) ?_ _
                    clear kA kAQ fAQ k6 kq kd' fQ
                    go_wp2
                    go_roundw
                    case rel => exact ⟨t + 1, by omega, by go_num, HZ.out⟩
                    case measure => simp [intOf]; omega
                  · go_simp
                    refine hK.out _ _ ?_ (fun hHeld => ?_)
                    · exact kd'
                    clear hK K
                    try simp only [Act.put, List.setIfInBounds_toArray, List.set_cons_zero, List.set_cons_succ]
                    refine wpAnyH_take (i := 10) (oi := { dst := some 107, op := Op.call { callee := Callee.builtin Builtin.len, args := #[Operand.tmp 106], argTypes := #[28] }, type := 3, pos := "outright.go:235", after := #[{ on := 9, ground := Ground.data }], guard := none }) (v := .int .i64 ((M + 1 : Nat) : Int)) rfl (by kernel_rfl) (by kernel_rfl) (by kernel_rfl) (fun _ _ _ h => h) (Or.inl ⟨by rfl, ?_⟩) (by assumption) ?_
                    · intro w hSw
                      (try dsimp only at hSw)
                      go_simp
                    try simp only [Act.put, List.setIfInBounds_toArray, List.set_cons_zero, List.set_cons_succ]
                    refine wpAnyH_take (i := 11) (oi := { dst := some 108, op := Op.binOp BinOp.sub 3 (Operand.tmp 107) (Operand.const (Value.int IntKind.i64 1)) 3, type := 3, pos := "outright.go:235", after := #[{ on := 10, ground := Ground.data }], guard := none }) (v := .int .i64 (M : Int)) rfl (by kernel_rfl) (by kernel_rfl) (by kernel_rfl) (fun _ _ _ h => h) (Or.inl ⟨by rfl, ?_⟩) (by assumption) ?_
                    · intro w hSw
                      (try dsimp only at hSw)
                      go_simp
                    try simp only [Act.put, List.setIfInBounds_toArray, List.set_cons_zero, List.set_cons_succ]
                    refine wpAnyH_ready (rs := [5]) (by kernel_rfl) (by simp) ?_
                    refine AllReadyH.cons (o := { dst := some 102, op := Op.load 28 (Operand.tmp 101), type := 28, pos := "outright.go:235", after := #[{ on := 4, ground := Ground.data }], guard := none }) rfl (fun K hK => ?_) AllReadyH.nil
                    go_simp
                    refine hK.out _ _ ?_ (fun hHeld => ?_)
                    · exact kd'
                    clear hK K
                    try simp only [Act.put, List.setIfInBounds_toArray, List.set_cons_zero, List.set_cons_succ]
                    refine wpAnyH_take (i := 12) (oi := { dst := some 109, op := Op.indexAddr 28 (Operand.tmp 102) (Operand.tmp 108), type := 0, pos := "outright.go:235", after := #[{ on := 5, ground := Ground.data }, { on := 11, ground := Ground.data }], guard := none }) (v := .pointer (some ⟨g0, M, none⟩)) rfl (by kernel_rfl) (by kernel_rfl) (by kernel_rfl) (fun _ _ _ h => h) (Or.inl ⟨by rfl, ?_⟩) (by assumption) ?_
                    · intro w hSw
                      (try dsimp only at hSw)
                      go_simp
                    try simp only [Act.put, List.setIfInBounds_toArray, List.set_cons_zero, List.set_cons_succ]
                    refine wpAnyH_take (i := 13) (oi := { dst := some 110, op := Op.load 22 (Operand.tmp 109), type := 22, pos := "outright.go:235", after := #[{ on := 12, ground := Ground.data }], guard := none }) (v := .slice ad 512 cd) rfl (by kernel_rfl) (by kernel_rfl) (by kernel_rfl) (fun _ _ _ h => h) (Or.inl ⟨by rfl, ?_⟩) (by assumption) ?_
                    · intro w hSw
                      (try dsimp only at hSw)
                      go_simp
                    try simp only [Act.put, List.setIfInBounds_toArray, List.set_cons_zero, List.set_cons_succ]
                    refine wpAnyH_ready (rs := [14]) (by kernel_rfl) (by simp) ?_
                    refine AllReadyH.cons (o := { dst := some 111, op := Op.buildSlice 28 1 #[(0, Operand.tmp 110)], type := 28, pos := "outright.go:235", after := #[{ on := 13, ground := Ground.data }], guard := none }) rfl (fun K hK => ?_) AllReadyH.nil
                    go_simp
                    refine hK.out _ _ ?_ (fun hHeld => ?_)
                    · exact kA
                    clear hK K
                    try simp only [Act.put, List.setIfInBounds_toArray, List.set_cons_zero, List.set_cons_succ]
                    refine wpAnyH_take (i := 15) (oi := { dst := some 112, op := Op.indexAddr 44 (Operand.tmp 97) (Operand.tmp 98), type := 0, pos := "outright.go:235", after := #[{ on := 0, ground := Ground.data }, { on := 1, ground := Ground.data }, { on := 0, ground := Ground.phase }, { on := 1, ground := Ground.phase }, { on := 2, ground := Ground.phase }, { on := 3, ground := Ground.phase }, { on := 4, ground := Ground.phase }, { on := 5, ground := Ground.phase }, { on := 6, ground := Ground.phase }, { on := 7, ground := Ground.phase }, { on := 8, ground := Ground.phase }, { on := 9, ground := Ground.phase }, { on := 10, ground := Ground.phase }, { on := 11, ground := Ground.phase }, { on := 12, ground := Ground.phase }, { on := 13, ground := Ground.phase }, { on := 14, ground := Ground.phase }], guard := none }) (v := .pointer (some ⟨q, t, none⟩)) rfl (by kernel_rfl) (by kernel_rfl) (by kernel_rfl) (fun _ _ _ h => h) (Or.inl ⟨by rfl, ?_⟩) (by assumption) ?_
                    · intro w hSw
                      (try dsimp only at hSw)
                      go_simp
                    try simp only [Act.put, List.setIfInBounds_toArray, List.set_cons_zero, List.set_cons_succ]
                    refine wpAnyH_ready (rs := [16]) (by kernel_rfl) (by simp) ?_
                    refine AllReadyH.cons (o := { dst := none, op := Op.store 28 (Operand.tmp 112) (Operand.tmp 111), type := 0, pos := "outright.go:235", after := #[{ on := 15, ground := Ground.data }, { on := 14, ground := Ground.data }, { on := 0, ground := Ground.phase }, { on := 1, ground := Ground.phase }, { on := 2, ground := Ground.phase }, { on := 3, ground := Ground.phase }, { on := 4, ground := Ground.phase }, { on := 5, ground := Ground.phase }, { on := 6, ground := Ground.phase }, { on := 7, ground := Ground.phase }, { on := 8, ground := Ground.phase }, { on := 9, ground := Ground.phase }, { on := 10, ground := Ground.phase }, { on := 11, ground := Ground.phase }, { on := 12, ground := Ground.phase }, { on := 13, ground := Ground.phase }, { on := 14, ground := Ground.phase }], guard := none }) rfl (fun K hK => ?_) AllReadyH.nil
                    go_simp
                    refine hK.out _ _ ?_ (fun hHeld => ?_)
                    · exact k6
                    clear hK K
                    try simp only [Act.put, List.setIfInBounds_toArray, List.set_cons_zero, List.set_cons_succ]
                    refine wpAnyH_done (by kernel_rfl) ?_ _
                    clear kA kAQ fAQ k6 kq kd' fQ
                    go_wp2
                    go_roundw
                    case rel => exact ⟨t + 1, by omega, by go_num, HZ.out⟩
                    case measure => simp [intOf]; omega
                · obtain rfl : t = s := by omega
                  have hmt' : MayAt w.heap.size wr F q cq t (fun k => [S.now k]) := hmt.keep (fun _ _ _ => rfl) (fun _ _ h => h) (fun k hk => (if_pos hk).symm)
                  have him := image_any p t F S7 wr hdt.d
                  have HDt := Hid.mk hdt
                  have HMt := Hid.mk hmt'
                  have hlen7 := hdt.d.ok.len
                  clear hdt hmt hmt'
                  go_wp2_with fail
                  refine him.mono ?_
                  rintro e w8 ⟨g8, c8, rfl, hg8, hr8, hb8⟩
                  have hjo := joined_any (HMt.out.later hb8) hhi HNl.out
                  have hs8 := hr8.src
                  rw [hlen7, HE1.out.1] at hs8
                  have HS8 := Hid.mk hs8
                  have HB8 := Hid.mk hb8
                  clear him hr8 hb8 hs8
                  go_wp2_with fail
                  refine hjo.mono ?_
                  rintro e w9 ⟨a9, c9, rfl, hs9, hb9⟩
                  have hsa := same_any (some ⟨g8, 0, none⟩) a9 (t * 512) c8 c9 (imOf t S.now) w9 (by omega) (HS8.out.later hb9) hs9
                  have HDk9 := Hid.mk ((HDt.out.later HB8.out).later hb9)
                  have HMt9 := Hid.mk ((HMt.out.later HB8.out).later hb9)
                  clear hjo hs9 hb9
                  go_wp2_with fail
                  refine hsa.mono ?_
                  rintro e w10 ⟨rfl, hb10⟩
                  have HZ : Hid (MRun w w10 p t (j + 1) (.slice (some ⟨q, 0, none⟩) t cq)) := ⟨F, S7, q, cq, rfl, HDk9.out.later hb10, (HMt9.out.later hb10).keep (fun _ _ _ => rfl) (fun _ _ h => h) (fun k hk => HCn.out k hk), by rw [HE1.out.2]; exact Nat.zero_le _, hql⟩
                  clear hsa hb10
                  go_wp2
                  go_roundw
                  case rel => exact ⟨j + 1, by omega, by go_num, HZ.out⟩
                  case measure => simp [intOf]; omega
          · by_cases k6 : kd = 6
            · subst k6
              have htw := twinp_any pa pn pc pl _ HO.out.pn HO.out.p
              have hpn := HO.out.pn
              go_wp2_with fail
              generalize wr.alloc (.cells (opC 6 x a' m c' pa pn pc) 33) = w5 at *
              refine htw.mono ?_
              rintro e w6 ⟨g6, rfl, hg6, hps6, hb6⟩
              have hdk6 := HDk.out.later hb6
              have hcr := crash_ok sorts sortn hdk6.d (by omega) (some ⟨g6, 0, none⟩) pn pn pl hps6 (by omega) (fun y e hf => by cases e; have h9 : g6 < w5.heap.size := HDk.out.d.lt _ hf; omega)
              have HDk6 := Hid.mk hdk6
              have HNw6 := Hid.mk (HNw.out.later hb6)
              have hz6 := hb6.size
              clear htw hps6 hb6 hdk6 kX kD kP k0 hg6 c0 c1 c2 c3
              go_wp2_with fail
              refine hcr.mono ?_
              rintro e w7 ⟨rfl, hd7, hk7⟩
              have hdk7 := HDk6.out.same hd7 hk7
              have hlo := hd7.ok.lo
              have hhi := hd7.ok.hi
              have hlen := hd7.ok.len
              have hnw7 : MayAt w.heap.size w7 F q cq s S.cands := HNw6.out.keep (fun b h1 h2 => hk7.block b h1 h2) (fun _ _ h => h) (fun _ _ => rfl)
              have hto := torn_any hd7 hnw7 (fun k _ => by rw [cands_len]; have := pendOf_len S.puts k; omega) (fun k hk i hi => cands_lens HDk6.out.d.ok hk i hi) (fun k hk => crash_cut HDk6.out.d.ok pl hk)
              have HDk7 := Hid.mk hdk7
              have hz7 := hk7.size
              clear hcr hd7 hk7 hdk7 hnw7
              go_wp2_with fail
              refine hto.mono ?_
              rintro e w75 ⟨rfl, hb75⟩
              have hdk75 := HDk7.out.later hb75
              have him := image_any p s F (S.crash s pl) w75 hdk75.d
              have HDk75 := Hid.mk hdk75
              have hz75 := hb75.size
              clear hto hb75 hdk75
              go_wp2_with fail
              refine him.mono ?_
              rintro e w8 ⟨g8, c8, rfl, hg8, hr8, hb8⟩
              have hcg : s * 512 ≤ c8 := by have := hr8.le; simp only [bs, List.length_map] at this; omega
              have hcu := begin_any g8 c8 s w8 hcg hlo hhi
              have HR8 := Hid.mk hr8
              have HDk8 := Hid.mk (HDk75.out.later hb8)
              have hgl := hr8.lt
              have hz8 := hb8.size
              clear him hr8 hb8
              go_wp2_with fail
              refine hcu.mono ?_
              rintro e w9 ⟨q9, cq9, rs9, rfl, hq9, hr9, hl9, hnd9, hrs9, hb9⟩
              have hdk9 := HDk8.out.later hb9
              have hnw9 := mayAt_begin (B := w.heap.size) (F := F) HR8.out hlen hb9 (fun hf => by have := HDk75.out.d.lt _ hf; omega) (fun b hf => by have := HDk8.out.d.lt _ hf; omega) (by have := HDk75.out.bel.size; omega) hq9 hr9 hl9 hnd9 hrs9
              have HZ : Hid (MRun w w9 p s (j + 1) (.slice (some ⟨q9, 0, none⟩) s cq9)) := ⟨F, _, q9, cq9, rfl, hdk9, hnw9.keep (fun _ _ _ => rfl) (fun _ _ h => h) (fun k _ => cands_flat rfl k), Nat.zero_le _, by have := HDk8.out.bel.size; omega⟩
              clear hcu hr9 hb9 hdk9 hnw9 HR8 hl9 hnd9 hrs9
              go_wp2
              go_roundw
              case rel => exact ⟨j + 1, by omega, by go_num, HZ.out⟩
              case measure => simp [intOf]; omega
            · have hac := act_any HDk.out.d hbig kd x a' m c' pa pn pc l' pl HO.out
              have d2 : (kd == 2) = false := by rw [beq_eq_false_iff_ne]; exact k2
              have d3 : (kd == 3) = false := by rw [beq_eq_false_iff_ne]; exact k3
              have d6 : (kd == 6) = false := by rw [beq_eq_false_iff_ne]; exact k6
              have HA := Hid.mk (fun k => act_cands (S := S) (s := s) (kind := kd) (x := x) (n := m) (l := l') (pl := pl) k2 k3 k6 k)
              have HP := Hid.mk (act_puts S s kd x m l' pl)
              go_wp2_with fail
              refine hac.mono ?_
              rintro e w6 ⟨rfl, hd6, hk6⟩
              have HZ : Hid (MRun w w6 p s (j + 1) (.slice (some ⟨q, 0, none⟩) s cq)) := ⟨_, _, q, cq, rfl, HDk.out.step hd6 hk6, HNw.out.more hk6 (fun k _ => HA.out k), by have := HP.out; omega, hql⟩
              clear hac hd6 hk6 kX kD kP k0 c0 c1 c2 c3
              go_wp2
              go_roundw
              case rel => exact ⟨j + 1, by omega, by go_num, HZ.out⟩
              case measure => simp [intOf]; omega
      · obtain rfl : j = sn := by omega
        have hge : ¬ (j : Int) < (j : Int) := by omega
        have hps0 : PSrc (wr.alloc (.cells #[.int .i64 1, .int .i64 1, .int .i64 0] 50)) (some ⟨wr.heap.size, 0, none⟩) 1 [(1, 1, 0)] := psrc_one wr
        have hb0 := below_box wr (.cells #[.int .i64 1, .int .i64 1, .int .i64 0] 50)
        have hdk0 := hdk.later hb0
        have hcr := crash_ok sorts sortn hdk0.d (by omega) (some ⟨wr.heap.size, 0, none⟩) 1 1 [(1, 1, 0)] hps0 (by omega) (fun y e hf => by cases e; have h9 : wr.heap.size < wr.heap.size := hdk.d.lt _ hf; omega)
        have HDk := Hid.mk hdk0
        clear hdk hnw hdk0 hb0 hps0
        go_wp2_with fail
        refine hcr.mono ?_
        rintro e w5 ⟨rfl, hd5, hk5⟩
        have hdk5 := HDk.out.same hd5 hk5
        have hfm : (S.crash s [(1, 1, 0)]).fuse = -1 := rfl
        have hp5 : (S.crash s [(1, 1, 0)]).puts.length = 0 := rfl
        have hlo := hd5.ok.lo
        generalize S.crash s [(1, 1, 0)] = S5 at *
        have hf5 : S5.fuse ≠ 0 := by omega
        have hb6 := below_box w5 (.cells #[.int .u8 9] 5)
        have hs6 : Src (w5.alloc (.cells #[.int .u8 9] 5)) (some ⟨w5.heap.size, 0, none⟩) 1 [9] := by
          have hn : (w5.alloc (.cells #[.int .u8 9] 5)).heap[w5.heap.size]? = some (.cells #[.int .u8 9] 5 (0, 0)) := heap_alloc_new _ _
          refine ⟨rfl, fun e => (by cases e), fun x hx i hi => ?_⟩
          cases hx
          obtain rfl : i = 0 := by omega
          exact cell_of_block hn (j := 0) rfl
        have h7 := sector_any (some ⟨w5.heap.size, 0, none⟩) 1 1 [9] _ hs6
        have HDk6 := Hid.mk (hdk5.later hb6)
        clear hcr hd5 hk5 hdk5 hb6 hs6 HDk
        go_wp2_with fail
        refine h7.mono ?_
        rintro e w7 ⟨g7, rfl, hg7, hs7, hb7⟩
        have hdk7 := HDk6.out.later hb7
        have h8 := write_all hdk7.d ((0 : Nat) : Int) (some ⟨g7, 0, none⟩) 512 512 (secOf [9]) hs7 (by omega)
        have hy := wr_yes1 hf5 (show 0 < s by omega) (secOf [9])
        rw [hy.1] at h8
        have hy2 := hy.2.1
        rw [show ((0 : Nat) : Int) = 0 from rfl] at h8 hy2
        generalize (S5.wr s 0 512 (secOf [9])).2 = S8 at *
        have HDk7 := Hid.mk hdk7
        clear h7 hs7 hb7 hdk7 hy
        go_wp2_with fail
        refine h8.mono ?_
        rintro e w8 ⟨rfl, hd8, hk8⟩
        have hdk8 := HDk7.out.step hd8 hk8
        have hps8 : PSrc (w8.alloc (.cells #[.int .i64 1, .int .i64 1, .int .i64 0] 50)) (some ⟨w8.heap.size, 0, none⟩) 1 [(1, 1, 0)] := psrc_one w8
        have hb8 := below_box w8 (.cells #[.int .i64 1, .int .i64 1, .int .i64 0] 50)
        have hdk8b := hdk8.later hb8
        have hpl8 : S8.puts.length + 1 ≤ 5000000000000 := by rw [hy2, List.length_append, List.length_singleton]; omega
        have hcr8 := crash_ok sorts sortn hdk8b.d hpl8 (some ⟨w8.heap.size, 0, none⟩) 1 1 [(1, 1, 0)] hps8 (by omega) (fun y e hf => by cases e; have h9 : w8.heap.size < w8.heap.size := hdk8.d.lt _ hf; omega)
        have hno : (S8.crash s [(1, 1, 0)]).now 0 = secOf [9] := end_now hdk8.d.ok (List.eq_nil_of_length_eq_zero hp5) hy2
        have HDk8 := Hid.mk hdk8b
        clear h8 hd8 hk8 hdk8 hdk8b hb8 hps8
        go_wp2_with fail
        refine hcr8.mono ?_
        rintro e w85 ⟨rfl, hd85, hk85⟩
        have hdk85 := HDk8.out.same hd85 hk85
        have h9 := read_all hdk85.d ((0 : Nat) : Int) (by show (0 : Nat) + 1 ≤ _; omega)
        rw [rd_yes2 (show (S8.crash s [(1, 1, 0)]).fuse ≠ 0 by show (-1 : Int) ≠ 0; omega) (show 0 < s by omega), hno, show ((0 : Nat) : Int) = 0 from rfl] at h9
        have HDk85 := Hid.mk hdk85
        clear hcr8 hd85 hk85 hdk85
        go_wp2_with fail
        refine h9.mono ?_
        rintro e w9 ⟨v9, rfl, ho9, hd9, hk9⟩
        obtain ⟨a9, c9, rfl, hs9, _⟩ := ho9
        have hs9 : Src w9 a9 (secOf [9]).length (secOf [9]) := hs9
        rw [secOf_len] at hs9 ⊢
        have hb10 := below_box w9 (.cells #[.int .u8 9] 5)
        have hs10 : Src (w9.alloc (.cells #[.int .u8 9] 5)) (some ⟨w9.heap.size, 0, none⟩) 1 [9] := by
          have hn : (w9.alloc (.cells #[.int .u8 9] 5)).heap[w9.heap.size]? = some (.cells #[.int .u8 9] 5 (0, 0)) := heap_alloc_new _ _
          refine ⟨rfl, fun e => (by cases e), fun x hx i hi => ?_⟩
          cases hx
          obtain rfl : i = 0 := by omega
          exact cell_of_block hn (j := 0) rfl
        have h11 := sector_any (some ⟨w9.heap.size, 0, none⟩) 1 1 [9] _ hs10
        have HDk9 := Hid.mk (HDk85.out.same hd9 hk9)
        have HS9 := Hid.mk (hs9.later hb10)
        have HB10 := Hid.mk hb10
        clear h9 hd9 hk9 hb10 hs10 hs9
        go_wp2_with fail
        refine h11.mono ?_
        rintro e w11 ⟨g11, rfl, hg11, hs11, hb11⟩
        have h12 := same_any a9 (some ⟨g11, 0, none⟩) 512 c9 512 (secOf [9]) w11 (by omega) (HS9.out.later hb11) hs11
        have HB11 : Hid (Below w.heap.size w w11) := (HDk9.out.later HB10.out |>.later hb11).bel
        clear h11 hs11 hb11
        go_wp2_with fail
        refine h12.mono ?_
        rintro e w12 ⟨rfl, hb12⟩
        have HB12 : Hid (Below w.heap.size w w12) := HB11.out.trans (hb12.mono HB11.out.size)
        clear h12 hb12
        go_wp2
        go_ret
        exact ⟨rfl, HB12.out⟩
end Go.Proofs.Ytkgnkdnipcacgaa
