import Derived.Test.YtcofkdaakkfcfaaOpenF
namespace Go.Proofs.Ytcofkdaakkfcfaa
open Go.RowKit Go.Maps

theorem cut_nil {S : DS} {k : Nat} : cutOf S [] k = sec S.im k := by
  unfold cutOf
  split
  · rfl
  · simp [tornBy, pickN, tornOf, DS.cand]
theorem crash_nil_im {S : DS} {s : Nat} (h : S.Ok s) : (S.crash s []).im = S.im := by
  show imOf s (cutOf S []) = S.im
  refine im_ext s (imOf_len s _ (cut_len h [])) h.len (fun k hk => ?_)
  rw [sec_imOf s _ (cut_len h []) k hk, cut_nil]
theorem PSrc.nil (w : World) : PSrc w none 0 [] := ⟨rfl, fun _ => rfl, (fun x hx => by cases hx), fun q hq => by cases hq⟩
theorem now_flat {S : DS} (h : S.puts = []) (k : Nat) : S.now k = sec S.im k := by simp [DS.now, DS.cand, h, pendOf]

/-- A disk on which nothing is pending, not fused, that holds im. -/
def Calm (w : World) (F : Nat → Prop) (p s : Nat) (im : List Int) : Prop := ∃ S, DiskAt w F p s S ∧ S.im = im ∧ S.puts = [] ∧ S.fuse = -1

theorem Calm.keep {w w' : World} {F G : Nat → Prop} {p s : Nat} {im : List Int} (h : Calm w F p s im) (hk : Keeps G w w') (hd : ∀ k, F k → ¬ G k) : Calm w' F p s im := by
  obtain ⟨S, h1, h2⟩ := h
  exact ⟨S, h1.keep hk hd, h2⟩
theorem Calm.read {w : World} {F : Nat → Prop} {p s : Nat} {im : List Int} (h : Calm w F p s im) (k : Nat) (hk : k < s) :
    Calls Try.prog 18 #[.pointer (some ⟨p, 0, none⟩), .int .i64 (k : Int)] w fun e w' => ∃ g c, e = .returned (.tuple #[.slice (some ⟨g, 0, none⟩) 512 c, .int .i64 0]) ∧ w.heap.size ≤ g ∧ Src w' (some ⟨g, 0, none⟩) 512 (sec im k) ∧ Calm w' F p s im ∧ Keeps F w w' := by
  obtain ⟨S, h1, h2, h3, h4⟩ := h
  refine (read_ok h1 k (by rw [h4]; decide) hk (by rw [h3]; simp)).mono ?_
  rintro e w' ⟨g, c, rfl, hg, hr, hd, hke⟩
  have hsr := hr.src
  rw [now_len h1.ok k hk, now_flat h3, h2] at hsr
  exact ⟨g, c, rfl, hg, hsr, ⟨S.read, hd, h2, h3, h4⟩, hke⟩

theorem Calm.image {w : World} {F : Nat → Prop} {p s : Nat} {im : List Int} (h : Calm w F p s im) :
    Calls Try.prog 14 #[.pointer (some ⟨p, 0, none⟩)] w fun e w' => ∃ g c, e = .returned (.slice (some ⟨g, 0, none⟩) (s * 512) c) ∧ RowAt w' 5 g c (bs im) ∧ Below w.heap.size w w' ∧ w.heap.size ≤ g := by
  obtain ⟨S, h1, h2, _⟩ := h
  refine (image_any _ _ _ _ _ h1).mono ?_
  rintro e w' ⟨g, c, rfl, hg, hr, hb⟩
  rw [h2] at hr
  exact ⟨g, c, rfl, hr, hb, hg⟩

/-- The two disks, and the image that was told. -/
structure Re (w0 w : World) (F F' : Nat → Prop) (p p' s g c : Nat) (im : List Int) : Prop where
  one : Calm w F p s im
  two : Calm w F' p' s im
  src : Src w (some ⟨g, 0, none⟩) (s * 512) im
  bel : Below w0.heap.size w0 w

structure Sets (w0 : World) (F F' : Nat → Prop) (g : Nat) : Prop where
  dis : ∀ k, F k → ¬ F' k
  lo : ∀ k, F k → w0.heap.size ≤ k
  lo' : ∀ k, F' k → w0.heap.size ≤ k
  ng : ¬ F g
  ng' : ¬ F' g

theorem Src.keepsG {w w' : World} {g n : Nat} {l : List Int} {F : Nat → Prop} (h : Src w (some ⟨g, 0, none⟩) n l) (hk : Keeps F w w') (hg : ¬ F g) : Src w' (some ⟨g, 0, none⟩) n l :=
  ⟨h.1, h.2.1, fun x hx i hi => by
    have h1 := h.2.2 x hx i hi
    have hb := World.block_lt_of_cell? _ _ h1
    refine (World.cell?_of_block (w := w) (hk.block _ hb (fun hf => ?_))).trans h1
    cases hx
    rw [addr_add] at hf
    exact hg hf⟩

theorem Re.readTwo {w0 w : World} {F F' : Nat → Prop} {p p' s g c : Nat} {im : List Int} (h : Re w0 w F F' p p' s g c im) (hs : Sets w0 F F' g) (k : Nat) (hk : k < s) :
    Calls Try.prog 18 #[.pointer (some ⟨p', 0, none⟩), .int .i64 (k : Int)] w fun e w' => ∃ g1 c1, e = .returned (.tuple #[.slice (some ⟨g1, 0, none⟩) 512 c1, .int .i64 0]) ∧ w.heap.size ≤ g1 ∧ Src w' (some ⟨g1, 0, none⟩) 512 (sec im k) ∧ Re w0 w' F F' p p' s g c im ∧ ∀ j, F j → j < w.heap.size := by
  obtain ⟨S, hS, _⟩ := h.one
  refine (h.two.read k hk).mono ?_
  rintro e w' ⟨g1, c1, rfl, hg, hsr, hc, hke⟩
  exact ⟨g1, c1, rfl, hg, hsr, ⟨h.one.keep hke (fun j hf hf' => hs.dis j hf hf'), hc, h.src.keepsG hke hs.ng', h.bel.trans (hke.below hs.lo' h.bel.size)⟩, hS.lt⟩
theorem Re.readOne {w0 w : World} {F F' : Nat → Prop} {p p' s g c : Nat} {im : List Int} (h : Re w0 w F F' p p' s g c im) (hs : Sets w0 F F' g) (k : Nat) (hk : k < s) :
    Calls Try.prog 18 #[.pointer (some ⟨p, 0, none⟩), .int .i64 (k : Int)] w fun e w' => ∃ g1 c1, e = .returned (.tuple #[.slice (some ⟨g1, 0, none⟩) 512 c1, .int .i64 0]) ∧ w.heap.size ≤ g1 ∧ Src w' (some ⟨g1, 0, none⟩) 512 (sec im k) ∧ Re w0 w' F F' p p' s g c im ∧ Keeps F w w' := by
  refine (h.one.read k hk).mono ?_
  rintro e w' ⟨g1, c1, rfl, hg, hsr, hc, hke⟩
  exact ⟨g1, c1, rfl, hg, hsr, ⟨hc, h.two.keep hke (fun j hf' hf => hs.dis j hf hf'), h.src.keepsG hke hs.ng, h.bel.trans (hke.below hs.lo h.bel.size)⟩, hke⟩
theorem Re.later {w0 w w' : World} {F F' : Nat → Prop} {p p' s g c : Nat} {im : List Int} (h : Re w0 w F F' p p' s g c im) (hb : Below w.heap.size w w') : Re w0 w' F F' p p' s g c im :=
  ⟨h.one.keep (Keeps.of_below (fun _ => False) hb) (fun _ _ h => h), h.two.keep (Keeps.of_below (fun _ => False) hb) (fun _ _ h => h), h.src.later hb, h.bel.trans (hb.mono h.bel.size)⟩

set_option maxHeartbeats 4000000 in
theorem diskReload_any (sec0 : Int) (a : Option Addr) (n c : Nat) (l : List Int) (sa : Option Addr) (sn sc : Nat) (w : World) (hs : Src w a n l) (hn : n ≤ 140737488355328) (hsc : Script w w.heap.size sa sn) (hsn : 64 * sn ≤ 140737488355328) :
    Calls Try.prog 6 #[.int .i64 sec0, .slice a n c, .slice sa sn sc] w fun e w' => e = .returned (.bool true) ∧ Below w.heap.size w w' := by
  have hbg := open_any sec0 a n c l w hs hn
  have HS := Hid.mk hsc
  clear hs hsc
  go_enter Try.func6, Try.ntmps6
  go_wp2_with fail
  refine hbg.mono ?_
  rintro e w1 ⟨d, rfl, hb1, hd⟩
  clear hbg
  rcases hd with rfl | ⟨F, p, s, S, rfl, ht, hz, _, hlo⟩
  · go_wp2
    go_ret
    exact ⟨rfl, hb1⟩
  · have H0 := Hid.mk (And.intro ht (And.intro hz (And.intro hb1 hlo)))
    clear ht hz hb1 hlo
    go_wp2
    go_loopw [9] (fun i wr => ∃ j : Nat, j ≤ sn ∧ i = .int .i64 (j : Int) ∧ ∃ F S, DiskAt wr F p s S ∧ S.puts.length ≤ j ∧ Below w.heap.size w wr ∧ ∀ k, F k → w.heap.size ≤ k) (fun i _ => sn - (intOf i).toNat)
    case atStart => exact ⟨0, Nat.zero_le _, rfl, F, S, H0.out.1, by rw [H0.out.2.1]; exact Nat.le_refl _, H0.out.2.2.1, H0.out.2.2.2⟩
    case round =>
      clear H0
      obtain ⟨j, hj, rfl, F, S, hd, hp, hb, hlo⟩ := hrel
      by_cases hlt : j < sn
      · have hlt' : (j : Int) < (sn : Int) := by omega
        obtain ⟨y, rfl⟩ : ∃ y, sa = some y := by
          cases sa with
          | none => have := HS.out.1 rfl; omega
          | some y => exact ⟨y, rfl⟩
        obtain ⟨b, o, rfl, hbB, kind, x, a', m, c', pa, pn, pc, l', pl, c0, c1, c2, c3, ho⟩ := (HS.out.far hb).2 y rfl j hlt
        have hst := act_any hd (by omega) kind x a' m c' pa pn pc l' pl ho
        have hpu := act_puts S s kind x m l' pl
        clear hd ho HS
        go_wp2_with fail
        refine hst.mono ?_
        rintro e w3 ⟨rfl, hd3, hk3⟩
        have hsz := hb.size
        have Hz := Hid.mk (And.intro hd3 (And.intro (show (S.act s kind x m l' pl).puts.length ≤ j + 1 by omega) (And.intro (hb.trans (hk3.below hlo hsz)) (show ∀ k, more F wr w3 k → w.heap.size ≤ k from fun k hk => by rcases hk with h | h; exact hlo k h; omega))))
        clear hst hd3 hk3 hb c0 c1 c2 c3 hlo
        go_wp2
        go_roundw
        case rel => exact ⟨j + 1, by omega, by go_num, _, _, Hz.out⟩
        case measure => simp [intOf]; omega
      · have hlt' : ¬ (j : Int) < (sn : Int) := by omega
        have him := image_any _ _ _ _ _ hd
        have hok := hd.ok
        have hlen := hok.len
        have hs1 := hok.lo
        have hs2 := hok.hi
        have Hd := Hid.mk hd
        have Hok := Hid.mk hok
        clear HS hd hok
        go_wp2_with fail
        refine him.mono ?_
        rintro e w2 ⟨g1, cg1, rfl, hg1, hr1, hb2⟩
        have hd2 := Hd.out.keep (Keeps.of_below (fun _ => False) hb2) (fun _ _ h => h)
        have hcr := crash_ok sorts sortn hd2 (by omega) none 0 0 [] (PSrc.nil _) (by omega) (fun x hx => by cases hx)
        have hbw2 : Below w.heap.size w w2 := hb.trans (hb2.mono hb.size)
        have hs_1 := hr1.src
        rw [hlen] at hs_1
        have hng : ¬ F g1 := fun hf => by have := Hd.out.lt g1 hf; omega
        clear him hd2 hb2 hb hr1
        go_wp2_with fail
        refine hcr.mono ?_
        rintro e w3 ⟨rfl, hd3, hk3⟩
        have hca : Calm w3 F p s S.im := ⟨_, hd3, crash_nil_im Hok.out, rfl, rfl⟩
        have hs3 := hs_1.keepsG hk3 hng
        have hbw3 : Below w.heap.size w w3 := hbw2.trans (hk3.below hlo hbw2.size)
        have htw := twin_any (some ⟨g1, 0, none⟩) (s * 512) cg1 S.im w3 (by omega) hs3
        have hF3 := hd3.lt
        clear hcr hd3 hk3 hs_1 hbw2
        go_wp2_with fail
        refine htw.mono ?_
        rintro e w4 ⟨g4, rfl, hg4, hr4, hb4⟩
        have hld := load_ok ⟨g4, 0, none⟩ (s * 512) (s * 512) s S.im w4 rfl hs1 hs2 hlen (fun i hi => hr4.byte (by omega))
        clear htw hr4
        go_wp2_with fail
        refine hld.mono ?_
        rintro e w5 ⟨p', rfl, hd5, hb5⟩
        have hb35 : Below w3.heap.size w3 w5 := hb4.trans (hb5.mono hb4.size)
        have hz4 := hb4.size
        have hz3 := hbw3.size
        have hse : Sets w F (fun k => w4.heap.size ≤ k ∧ k < w5.heap.size) g1 := ⟨fun k hf hf' => by have := hF3 k hf; omega, hlo, fun k hk => by omega, hng, fun hk => by
          have h0 := World.block_lt_of_cell? _ _ (hs3.2.2 _ rfl 0 (by omega))
          rw [addr_add] at h0
          have h1 : g1 < w3.heap.size := h0
          omega⟩
        have hre : Re w w5 F (fun k => w4.heap.size ≤ k ∧ k < w5.heap.size) p p' s g1 cg1 S.im := ⟨hca.keep (Keeps.of_below (fun _ => False) hb35) (fun _ _ h => h), ⟨_, hd5, rfl, rfl, rfl⟩, hs3.later hb35, hbw3.trans (hb35.mono hz3)⟩
        obtain ⟨F', hse, hre⟩ : ∃ F', Sets w F F' g1 ∧ Re w w5 F F' p p' s g1 cg1 S.im := ⟨_, hse, hre⟩
        have hli : Calls Try.prog 12 #[.pointer (some ⟨p', 0, none⟩)] w5 fun e w' => e = .returned (.int .i64 1) ∧ w' = w5 := life_at hd5
        have hsc' := sectors_at hd5
        have hsc := (fun (h : Calm w5 F p s S.im) => h.elim (fun _ h => sectors_at h.1)) hre.one
        have Hre := Hid.mk hre
        have Hse := Hid.mk hse
        clear hld hd5 hb5 hb4 hb35 hca hs3 hbw3 hse hre Hd Hok hF3 hlo hng
        generalize S.im = im at *
        have hee : (((s : Int)) != (s : Int)) = false := by simp
        go_wp2_with fail
        refine hsc'.mono ?_
        rintro e w6 ⟨rfl, hw⟩
        have hw' := hw.symm
        subst hw'
        go_wp2_with fail
        refine hsc.mono ?_
        rintro e w6 ⟨rfl, hw⟩
        have hw' := hw.symm
        subst hw'
        go_wp2_with fail
        refine hli.mono ?_
        rintro e w6 ⟨rfl, hw⟩
        have hw' := hw.symm
        subst hw'
        clear hsc hsc' hli
        go_wp2
        go_loopw [13, 14, 15, 16, 17] (fun i _ _ _ _ wr => ∃ k : Nat, k ≤ s ∧ i = .int .i64 (k : Int) ∧ Re w wr F F' p p' s g1 cg1 im) (fun i _ _ _ _ _ => s - (intOf i).toNat)
        case atStart => exact ⟨0, Nat.zero_le _, rfl, Hre.out⟩
        case round =>
          clear Hre
          obtain ⟨k, hk, rfl, hre⟩ := hrel
          have hsc' := (fun (h : Calm wr F' p' s im) => h.elim (fun _ h => sectors_at h.1)) hre.two
          by_cases hlt : k < s
          · have hlt' : (k : Int) < (s : Int) := by omega
            have hrd := hre.readTwo Hse.out k hlt
            clear hre
            go_wp2_with fail
            refine hsc'.mono ?_
            rintro e w6 ⟨rfl, hw⟩
            have hw' := hw.symm
            subst hw'
            clear hsc'
            go_wp2_with fail
            refine hrd.mono ?_
            rintro e w7 ⟨g7, c7, rfl, hg7, hs7, hre7, hF7⟩
            have hrd1 := hre7.readOne Hse.out k hlt
            clear hrd hre7
            go_wp2_with fail
            refine hrd1.mono ?_
            rintro e w8 ⟨g8, c8, rfl, hg8, hs8, hre8, hke8⟩
            have hs7' := hs7.keepsG hke8 (fun hf => by have := hF7 g7 hf; omega)
            have hsa := same_any (some ⟨g7, 0, none⟩) (some ⟨g8, 0, none⟩) 512 c7 c8 (sec im k) w8 (by omega) hs7' hs8
            have Hre8 := Hid.mk hre8
            clear hrd1 hre8 hs7 hs7' hs8 hke8
            go_wp2_with fail
            refine hsa.mono ?_
            rintro e w9 ⟨rfl, hb9⟩
            have Hz := Hid.mk (Hre8.out.later hb9)
            clear hsa Hre8 hb9
            go_wp2
            go_roundw
            case rel => exact ⟨k + 1, by omega, by go_num, Hz.out⟩
            case measure => simp [intOf]; omega
          · have hlt' : ¬ (k : Int) < (s : Int) := by omega
            have him := hre.one.image
            have Hre := Hid.mk hre
            clear hre
            go_wp2_with fail
            refine hsc'.mono ?_
            rintro e w6 ⟨rfl, hw⟩
            have hw' := hw.symm
            subst hw'
            clear hsc'
            go_wp2_with fail
            refine him.mono ?_
            rintro e w7 ⟨g7, c7, rfl, hr7, hb7, _⟩
            have hre7 := Hre.out.later hb7
            have hs7 := hr7.src
            rw [hlen] at hs7
            have hsa := same_any (some ⟨g1, 0, none⟩) (some ⟨g7, 0, none⟩) (s * 512) cg1 c7 im w7 (by omega) hre7.src hs7
            have hbw7 := hre7.bel
            clear him hr7 hb7 Hre hre7 hs7
            go_wp2_with fail
            refine hsa.mono ?_
            rintro e w8 ⟨rfl, hb8⟩
            have hbw8 : Below w.heap.size w w8 := hbw7.trans (hb8.mono hbw7.size)
            clear hsa hb8 hbw7
            go_wp2
            go_ret
            exact ⟨rfl, hbw8⟩
end Go.Proofs.Ytcofkdaakkfcfaa
