import Derived.Test.YtcofkdaakkfcfaaReload
import Derived.Test.YtcofkdaakkfcfaaOpen
namespace Go.Proofs.Ytcofkdaakkfcfaa
open Go.RowKit Go.Maps

def secOf (l : List Int) : List Int := splice (List.replicate 512 0) 0 (l.take 512)
theorem secOf_len (l : List Int) : (secOf l).length = 512 := by
  simp only [secOf, splice, List.length_append, List.length_take, List.length_drop, List.length_replicate]
  omega

set_option maxHeartbeats 2000000 in
theorem sector_any (a : Option Addr) (n c : Nat) (l : List Int) (w : World) (hs : Src w a n l) :
    Calls Try.prog 25 #[.slice a n c] w fun e w' => ∃ g, e = .returned (.slice (some ⟨g, 0, none⟩) 512 512) ∧ w.heap.size ≤ g ∧ Src w' (some ⟨g, 0, none⟩) 512 (secOf l) ∧ Below w.heap.size w w' := by
  obtain ⟨i0, hi, hz0, hz1, hz2⟩ := info_parts infoU8
  have H := Hid.mk hs
  clear hs
  go_enter Try.func25, Try.ntmps25
  go_wp2_with (at_make; refine wpList_make_full _ rfl _ _ 31 rfl w.heap.size 5 i0 (.int .u8 0) 1 Try.underlying31 hi hz0 hz1 _ _ _ _ 512 rfl rfl (by omega) (by omega) (by rw [hz2]; omega) (by unfold maxLen; omega) (Nat.le_refl _) ?_)
  intro w1 hown hgrow
  have hr := made_row (n := 512) hown
  have hb : Below w.heap.size w w1 := (Below.refl _ w).grown hgrow (Nat.le_refl _) (by intro k hk; cases hk)
  have hf := hr.full (by simp only [bs, List.length_map, List.length_replicate])
  have hs1 := H.out.later hb
  clear hown hgrow
  obtain ⟨w2, hrun, hh, hk, _⟩ := copy_run w1 3 (some ⟨w.heap.size, 0, none⟩) w.heap.size 0 512 512 a n c (bs (List.replicate 512 0)) l hf hs1 (fun _ => rfl) (by simp only [bs, List.length_map, List.length_replicate]; omega)
  have hb2 : Below w.heap.size w w2 := hb.trans (hk.below (fun k h => by omega) hb.size)
  have hr2 : Src w2 (some ⟨w.heap.size, 0, none⟩) 512 (secOf l) := by
    have e : splice (bs (List.replicate 512 0)) 0 (bs (l.take 512)) = bs (secOf l) := by
      simp only [splice, bs, secOf, List.map_append, List.map_take, List.map_drop, List.length_take, List.length_map]
    rw [e] at hh
    have := (RowAt.of_full hh (by simp [bs, maxLen, secOf_len])).src
    rwa [secOf_len] at this
  clear hh hf hr hs1 hb hk
  go_wp2
  go_ret
  exact ⟨w.heap.size, rfl, Nat.le_refl _, hr2, hb2⟩

theorem now_put (S : DS) (k : Nat) (l : List Int) : (S.put k l).now k = l := by
  have e : pendOf (S.put k l).puts k = pendOf S.puts k ++ [l] := by simp [DS.put, pendOf]
  simp [DS.now, DS.cand, e]

/-- A disk and what has been told since w0. -/
structure Dk (w0 w : World) (F : Nat → Prop) (p s : Nat) (S : DS) : Prop where
  d : DiskAt w F p s S
  lo : ∀ k, F k → w0.heap.size ≤ k
  bel : Below w0.heap.size w0 w

theorem Dk.step {w0 w w' : World} {F : Nat → Prop} {p s : Nat} {S S' : DS} (h : Dk w0 w F p s S) (hd : DiskAt w' (more F w w') p s S') (hk : Keeps F w w') : Dk w0 w' (more F w w') p s S' :=
  ⟨hd, fun k hk' => by rcases hk' with h1 | h1; exact h.lo k h1; have := h.bel.size; omega, h.bel.trans (hk.below h.lo h.bel.size)⟩
theorem Dk.same {w0 w w' : World} {F : Nat → Prop} {p s : Nat} {S S' : DS} (h : Dk w0 w F p s S) (hd : DiskAt w' F p s S') (hk : Keeps F w w') : Dk w0 w' F p s S' :=
  ⟨hd, h.lo, h.bel.trans (hk.below h.lo h.bel.size)⟩
theorem Dk.later {w0 w w' : World} {F : Nat → Prop} {p s : Nat} {S : DS} (h : Dk w0 w F p s S) (hb : Below w.heap.size w w') : Dk w0 w' F p s S :=
  ⟨h.d.keep (Keeps.of_below (fun _ => False) hb) (fun _ _ h => h), h.lo, h.bel.trans (hb.mono h.bel.size)⟩

/-- A list of bytes of the caller's own. -/
structure Own (w : World) (F : Nat → Prop) (g n : Nat) (l : List Int) : Prop where
  src : Src w (some ⟨g, 0, none⟩) n l
  lt : g < w.heap.size
  nf : ¬ F g
theorem Own.keeps {w w' : World} {F : Nat → Prop} {g n : Nat} {l : List Int} (h : Own w F g n l) (hk : Keeps F w w') : Own w' F g n l := ⟨h.src.keepsG hk h.nf, Nat.lt_of_lt_of_le h.lt hk.size, h.nf⟩
theorem Own.more {w w' : World} {F : Nat → Prop} {g n : Nat} {l : List Int} (h : Own w F g n l) (hk : Keeps F w w') : Own w' (more F w w') g n l := ⟨h.src.keepsG hk h.nf, Nat.lt_of_lt_of_le h.lt hk.size, fun hm => by rcases hm with h1 | h1; exact h.nf h1; have := h.lt; omega⟩
theorem Own.later {w w' : World} {F : Nat → Prop} {g n : Nat} {l : List Int} (h : Own w F g n l) (hb : Below w.heap.size w w') : Own w' F g n l := ⟨h.src.later hb, Nat.lt_of_lt_of_le h.lt hb.size, h.nf⟩
theorem Own.new {w0 w w' : World} {F : Nat → Prop} {p s : Nat} {S : DS} {g n : Nat} {l : List Int} (h : Dk w0 w F p s S) (hs : Src w' (some ⟨g, 0, none⟩) n l) (hn : 0 < n) (hg : w.heap.size ≤ g) : Own w' F g n l :=
  ⟨hs, by have := World.block_lt_of_cell? _ _ (hs.2.2 _ rfl 0 hn); rw [addr_add] at this; exact this, fun hf => by have := h.d.lt g hf; omega⟩

theorem flush_im {S : DS} {s : Nat} (h : S.Ok s) {k : Nat} (hk : k < s) : sec (S.flush s).im k = S.now k := sec_imOf s _ (now_len h) k hk
theorem crash_flat {S : DS} {s : Nat} (h : S.Ok s) (hp : S.puts = []) (pl : List P3) : (S.crash s pl).im = S.im := by
  show imOf s (cutOf S pl) = S.im
  refine im_ext s (imOf_len s _ (cut_len h pl)) h.len (fun k hk => ?_)
  rw [sec_imOf s _ (cut_len h pl) k hk]
  simp [cutOf, hp, pendOf]

/-- Behind the script: the disk has power, and no fuse. -/
theorem lay_off (S : DS) (hf : S.fuse ≠ 0) : (S.lay (-1)).fuse = -1 := by simp [DS.lay, hf]
theorem spend_off {S : DS} (h : S.fuse = -1) : S.spend.fuse = -1 := by simp [DS.spend, h]

set_option maxHeartbeats 2000000 in
theorem diskLasts_any (sec0 : Int) (a : Option Addr) (n c : Nat) (l : List Int) (sa : Option Addr) (sn sc : Nat) (at0 : Int) (hat : at0 ≤ 9223372036854775807) (da : Option Addr) (dn dc : Nat) (dl : List Int) (pa : Option Addr) (pn pc : Nat) (pl : List P3) (w : World) (hs : Src w a n l) (hn : n ≤ 140737488355328) (hsc : Script w w.heap.size sa sn) (hsn : 64 * sn ≤ 140737488355328) (hds : Src w da dn dl) (hps : PSrc w pa pn pl) (hpn : 24 * pn ≤ 140737488355328) :
    Calls Try.prog 7 #[.int .i64 sec0, .slice a n c, .slice sa sn sc, .int .i64 at0, .slice da dn dc, .slice pa pn pc] w fun e w' => e = .returned (.bool true) ∧ Below w.heap.size w w' := by
  have hbg := open_any sec0 a n c l w hs hn
  have HS := Hid.mk hsc
  have HD := Hid.mk hds
  have HP := Hid.mk hps
  clear hs hsc hds hps
  go_enter Try.func7, Try.ntmps7
  go_wp2_with fail
  refine hbg.mono ?_
  rintro e w1 ⟨d, rfl, hb1, hd⟩
  clear hbg
  rcases hd with rfl | ⟨F, p, s, S, rfl, ht, hz, _, hlo⟩
  · go_wp2
    go_ret
    exact ⟨rfl, hb1⟩
  · have H0 := Hid.mk (And.intro (show Dk w w1 F p s S from ⟨ht, hlo, hb1⟩) hz)
    clear ht hz hb1 hlo
    go_wp2
    go_loopw [15] (fun i wr => ∃ j : Nat, j ≤ sn ∧ i = .int .i64 (j : Int) ∧ ∃ F S, Dk w wr F p s S ∧ S.puts.length ≤ j) (fun i _ => sn - (intOf i).toNat)
    case atStart => exact ⟨0, Nat.zero_le _, rfl, F, S, H0.out.1, by rw [H0.out.2]; exact Nat.le_refl _⟩
    case round =>
      clear H0
      obtain ⟨j, hj, rfl, F, S, hd, hp⟩ := hrel
      by_cases hlt : j < sn
      · have hlt' : (j : Int) < (sn : Int) := by omega
        obtain ⟨y, rfl⟩ : ∃ y, sa = some y := by
          cases sa with
          | none => have := HS.out.1 rfl; omega
          | some y => exact ⟨y, rfl⟩
        obtain ⟨b, o, rfl, hbB, kind, x, a', m, c', pa', pn', pc', l', pl', c0, c1, c2, c3, ho⟩ := (HS.out.far hd.bel).2 y rfl j hlt
        have hst := act_any hd.d (by omega) kind x a' m c' pa' pn' pc' l' pl' ho
        have hpu := act_puts S s kind x m l' pl'
        have Hd := Hid.mk hd
        clear hd ho HS HD HP
        go_wp2_with fail
        refine hst.mono ?_
        rintro e w3 ⟨rfl, hd3, hk3⟩
        have Hz := Hid.mk (And.intro (Hd.out.step hd3 hk3) (show (S.act s kind x m l' pl').puts.length ≤ j + 1 by omega))
        clear hst hd3 hk3 c0 c1 c2 c3 Hd
        go_wp2
        go_roundw
        case rel => exact ⟨j + 1, by omega, by go_num, _, _, Hz.out⟩
        case measure => simp [intOf]; omega
      · have hlt' : ¬ (j : Int) < (sn : Int) := by omega
        clear HS
        have hbu := burnt_at hd.d
        have Hd := Hid.mk hd
        clear hd
        by_cases hf : S.fuse = 0
        case' pos =>
          have hfb : (S.fuse == 0) = true := by simp [hf]
          rw [hfb] at hbu
          have hcr := crash_ok sorts sortn Hd.out.d (by omega) none 0 0 [] (PSrc.nil _) (by omega) (fun x hx => by cases hx)
          clear hfb hf
          go_wp2_with fail
          refine hbu.mono ?_
          rintro e w2 ⟨rfl, hw⟩
          have hw' := hw.symm
          subst hw'
          go_wp2_with fail
          refine hcr.mono ?_
          rintro e w3 ⟨rfl, hd3, hk3⟩
          have H3 := Hid.mk (Hd.out.same hd3 hk3)
          clear hbu hcr hd3 hk3 Hd
          obtain ⟨S3, hS3, hf3, hp3⟩ : ∃ S3, S3 = S.crash s [] ∧ S3.fuse ≠ 0 ∧ S3.puts.length ≤ sn := ⟨_, rfl, by simp [DS.crash], by simp [DS.crash]⟩
          rw [← hS3] at H3
          clear hS3
        case' neg =>
          have hfb : (S.fuse == 0) = false := by simp [hf]
          rw [hfb] at hbu
          clear hfb
          go_wp2_with fail
          refine hbu.mono ?_
          rintro e w3 ⟨rfl, hw⟩
          have hw' := hw.symm
          subst hw'
          have H3 := Hd
          clear hbu Hd
          obtain ⟨S3, hS3, hf3, hp3⟩ : ∃ S3, S3 = S ∧ S3.fuse ≠ 0 ∧ S3.puts.length ≤ sn := ⟨_, rfl, hf, by omega⟩
          rw [← hS3] at H3
          clear hS3 hf
        all_goals
          have hfu := fuse_at H3.out.d (-1) (by omega)
          go_wp2_with fail
          refine hfu.mono ?_
          rintro e w4 ⟨rfl, hd4, hk4⟩
          have H4 := Hid.mk (H3.out.same hd4 hk4)
          obtain ⟨S4, hS4, hf4, hp4⟩ : ∃ S4, S4 = S3.lay (-1) ∧ S4.fuse = -1 ∧ S4.puts.length ≤ sn := ⟨_, rfl, lay_off S3 hf3, by unfold DS.lay; split <;> exact hp3⟩
          rw [← hS4] at H4
          clear hfu hd4 hk4 H3 hf3 hp3 hS4
          have hse := sectors_at H4.out.d
          have hbu := burnt_at H4.out.d
          rw [show (S4.fuse == 0) = false by rw [hf4]; rfl] at hbu
          have hs1 := H4.out.d.ok.lo
          have hs2 := H4.out.d.ok.hi
          have hs1' : ¬ (s : Int) < 1 := by omega
          go_wp2_with fail
          refine hse.mono ?_
          rintro e w5 ⟨rfl, hw⟩
          have hw' := hw.symm
          subst hw'
          go_wp2_with fail
          refine hbu.mono ?_
          rintro e w5 ⟨rfl, hw⟩
          have hw' := hw.symm
          subst hw'
          clear hse hbu
          have hsec := sector_any da dn dc dl w4 (HD.out.far H4.out.bel (Src.old HD.out))
          have hs0 : (0 : Int) < (s : Int) := by omega
          by_cases hneg : at0 < 0
          case' pos =>
            obtain ⟨k, Hk0, hk⟩ : ∃ k : Nat, Hid ((0 : Int) = (k : Int)) ∧ k < s := ⟨0, rfl, by omega⟩
            go_wp2_with fail
          case' neg =>
            obtain ⟨t, rfl⟩ : ∃ t : Nat, at0 = (t : Int) := ⟨at0.toNat, by omega⟩
            have hk : t % s < s := Nat.mod_lt _ (by omega)
            go_wp2_with fail
            rw [show ((t : Int) % (s : Int)) = ((t % s : Nat) : Int) by push_cast; rfl]
            generalize t % s = k at *
          all_goals
            refine hsec.mono ?_
            rintro e w5 ⟨g5, rfl, hg5, hs5, hb5⟩
            have O5 := Own.new H4.out hs5 (by omega) hg5
            have H5 := H4.out.later hb5
            have hq5 := secOf_len dl
            clear hsec hs5 hb5 HD
            generalize secOf dl = q5 at *
            have htw := twin_any (some ⟨g5, 0, none⟩) 512 512 q5 w5 (by omega) O5.src
            have HO5 := Hid.mk O5
            have HH5 := Hid.mk H5
            clear O5 H5 H4
            go_wp2_with fail
            refine htw.mono ?_
            rintro e w6 ⟨g6, rfl, hg6, hr6, hb6⟩
            have O6 := Hid.mk (HO5.out.later hb6)
            have H6 := Hid.mk (HH5.out.later hb6)
            have hwr := fun (v : Int) (hv : v = (k : Int)) => hv ▸ write_ok H6.out.d k hk (by rw [hf4]; decide) (by omega) ⟨g6, 0, none⟩ 512 q5 (hq5 ▸ hr6.src)
            clear htw hr6 hb6 HO5 HH5
            go_wp2_with fail
            refine (hwr _ (by first | exact Hk0.out | rfl)).mono ?_
            rintro e w7 ⟨rfl, hd7, hk7⟩
            have H7 := Hid.mk (H6.out.step hd7 hk7)
            have O7 := Hid.mk (O6.out.more hk7)
            obtain ⟨S7, hS7, hf7, hn7, hp7⟩ : ∃ S7, S7 = (S4.put k q5).wrote.spend ∧ S7.fuse = -1 ∧ S7.now k = q5 ∧ S7.puts.length ≤ sn + 1 := ⟨_, rfl, spend_off hf4, now_put S4 k q5, by simp [DS.put, DS.wrote, DS.spend]; omega⟩
            rw [← hS7] at H7
            generalize more F w6 w7 = F7 at *
            clear hwr hd7 hk7 H6 O6 hS7
            have hfl := flush_ok H7.out.d (by rw [hf7]; decide) (by omega)
            go_wp2_with fail
            refine hfl.mono ?_
            rintro e w8 ⟨rfl, hd8, hk8⟩
            have H8 := Hid.mk (H7.out.same hd8 hk8)
            have O8 := Hid.mk (O7.out.keeps hk8)
            have hok7 := H7.out.d.ok
            obtain ⟨S8, hS8, hf8, hn8, hp8⟩ : ∃ S8, S8 = (S7.flush s).spend ∧ S8.fuse = -1 ∧ sec S8.im k = q5 ∧ S8.puts = [] := ⟨_, rfl, spend_off hf7, (flush_im hok7 hk).trans hn7, rfl⟩
            rw [← hS8] at H8
            clear hfl hd8 hk8 H7 O7 hS8 hok7
            have him := image_any _ _ _ _ _ H8.out.d
            have hlen := H8.out.d.ok.len
            have hok8 := Hid.mk H8.out.d.ok
            go_wp2_with fail
            refine him.mono ?_
            rintro e w9 ⟨g9, c9, rfl, hg9, hr9, hb9⟩
            have hs9 := hr9.src
            rw [hlen] at hs9
            have A9 := Own.new H8.out hs9 (by omega) hg9
            have H9 := H8.out.later hb9
            have O9 := O8.out.later hb9
            have htp := twinp_any pa pn pc pl w9 hpn (HP.out.far H9.bel (PSrc.old HP.out))
            have HA9 := Hid.mk A9
            have HH9 := Hid.mk H9
            have HO9 := Hid.mk O9
            clear him hs9 hr9 hb9 H8 O8 A9 H9 O9 HP
            go_wp2_with fail
            refine htp.mono ?_
            rintro e w10 ⟨g10, rfl, hg10, hp10, hb10⟩
            have H10 := HH9.out.later hb10
            have hcr := crash_ok sorts sortn H10.d (by rw [hp8]; simp) (some ⟨g10, 0, none⟩) pn pn pl hp10 (by omega) (fun x hx hf => by cases hx; have h9 : g10 < w9.heap.size := HH9.out.d.lt _ hf; omega)
            have A10 := Hid.mk (HA9.out.later hb10)
            have O10 := Hid.mk (HO9.out.later hb10)
            have HH10 := Hid.mk H10
            clear htp hp10 hb10 H10 HA9 HO9 HH9
            go_wp2_with fail
            refine hcr.mono ?_
            rintro e w11 ⟨rfl, hd11, hk11⟩
            have hca : Calm w11 F7 p s S8.im := ⟨_, hd11, crash_flat hok8.out hp8 pl, rfl, rfl⟩
            have A11 := Hid.mk (A10.out.keeps hk11)
            have O11 := Hid.mk (O10.out.keeps hk11)
            have hbw11 := (HH10.out.same hd11 hk11)
            have hlo := hbw11.lo
            have hb11 := hbw11.bel
            have him := hca.image
            have Hca := Hid.mk hca
            clear hcr hd11 hk11 hca A10 O10 HH10 hbw11
            generalize S8.im = im at *
            go_wp2_with fail
            refine him.mono ?_
            rintro e w12 ⟨g12, c12, rfl, hr12, hb12, hg12⟩
            have hs12 := hr12.src
            rw [hlen] at hs12
            have hca12 := Hca.out.keep (Keeps.of_below (fun _ => False) hb12) (fun _ _ h => h)
            have A12 := Hid.mk (A11.out.later hb12)
            have O12 := Hid.mk (O11.out.later hb12)
            have hb012 : Below w.heap.size w w12 := hb11.trans (hb12.mono hb11.size)
            have hrd := fun (v : Int) (hv : v = (k : Int)) => hv ▸ hca12.read k hk
            have hlt12 : ∀ q, F7 q → q < w11.heap.size := fun q hq => by obtain ⟨S9, h9, _⟩ := Hca.out; exact h9.lt q hq
            have hs12' := Hid.mk hs12
            clear him hr12 hb12 hca12 A11 O11 hb11 Hca hs12
            go_wp2_with fail
            refine (hrd _ (by first | exact Hk0.out | rfl)).mono ?_
            rintro e w13 ⟨g13, c13, rfl, hg13, hs13, _, hk13⟩
            rw [hn8] at hs13
            have A13 := A12.out.keeps hk13
            have O13 := O12.out.keeps hk13
            have hs12'' := hs12'.out.keepsG hk13 (fun hf => by have := hlt12 g12 hf; omega)
            have hb013 : Below w.heap.size w w13 := hb012.trans (hk13.below hlo hb012.size)
            have hsa := same_any (some ⟨g13, 0, none⟩) (some ⟨g5, 0, none⟩) 512 c13 512 q5 w13 (by omega) hs13 O13.src
            have HA13 := Hid.mk (And.intro A13.src hs12'')
            clear hrd hs13 hk13 A12 O12 A13 O13 hs12' hs12'' hb012 hlt12
            go_wp2_with fail
            refine hsa.mono ?_
            rintro e w14 ⟨rfl, hb14⟩
            have hsb := same_any (some ⟨g9, 0, none⟩) (some ⟨g12, 0, none⟩) (s * 512) c9 c12 im w14 (by omega) (HA13.out.1.later hb14) (HA13.out.2.later hb14)
            have hb014 : Below w.heap.size w w14 := hb013.trans (hb14.mono hb013.size)
            clear hsa HA13 hb14 hb013
            go_wp2_with fail
            refine hsb.mono ?_
            rintro e w15 ⟨rfl, hb15⟩
            have hb015 : Below w.heap.size w w15 := hb014.trans (hb15.mono hb014.size)
            have x1 : IntKind.i64.wrap ((s : Int) * 512) = ((s * 512 : Nat) : Int) := by rw [IntKind.wrap_i64]; all_goals omega
            have x2 : wrap64 ((s : Int) * 512) = ((s * 512 : Nat) : Int) := by unfold wrap64; omega
            clear hsb hb15 hb014
            go_wp2
            go_ret
            exact ⟨by first | rfl | simp, hb015⟩
end Go.Proofs.Ytcofkdaakkfcfaa
