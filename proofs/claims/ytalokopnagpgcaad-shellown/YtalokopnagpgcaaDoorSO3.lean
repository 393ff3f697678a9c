import Derived.Test.YtalokopnagpgcaaDoorSO2
import Derived.Deep.CutBlock
import Derived.Deep.DeepCutAuto
import Derived.Deep.RegionHeld
namespace Go.Proofs.YtalokopnagpgcaaDoor
open Go.RowKit Go.Maps

theorem isK_0 : ¬ isK 0 := fun h => by
  rcases h with h | h
  · omega
  · omega
theorem y21 (i : Nat) : (21 : Nat) ≠ yK i := fun e => by have := yK_ge i; omega
theorem y24 (i : Nat) : (24 : Nat) ≠ yK i := fun e => by have := yK_ge i; omega
theorem belowK {w w' : World} {L : Nat → Nat} (h : Gro (fun _ => 0) L w w' isK) : Below w.heap.size w w' := h.belowB (Nat.le_refl _) (fun _k hk => absurd rfl hk) isK_0
theorem told_later {B : Nat} {w w' : World} {v : Value} {l : List (List UInt8)} (h : Told B w v l) (hb : Below w.heap.size w w') : Told B w' v l :=
  rowAgree h (fun g hg => hb.block g (rowLt h hg))
theorem LO.cell_gro {w w' : World} {lab lab' : Nat → Nat} {yr : Nat} {yb : Nat → Nat} {X : Nat → Prop} {gL M cL i : Nat} {u : Value} {ds : List (List (List UInt8))} (h : LO w lab yr yb (.slice (some ⟨gL, 0, none⟩) M cL) ds) (G : Gro lab lab' w w' X) (hX : ¬ X yr) (hds : 0 < ds.length) (hc : w.cell? ⟨gL, i, none⟩ = some u) : w'.cell? ⟨gL, i, none⟩ = some u := by
  obtain ⟨vs, hl, ho, _⟩ := h
  obtain ⟨g3, c3, f6, hrow, hlab, _⟩ := ho.row hds
  have f7 : gL = g3 := by injection f6 with q1 q2 q3; injection q1 with q4; injection q4 with q5
  subst f7
  rw [World.cell?_of_block (w := w) (a := ⟨gL, i, none⟩) (G.block hrow.lt hlab hX)]
  exact hc
theorem frst_b : frst [34, 98, 34] = some ([98], []) := by
  have h1 : frst [34, 98, 34] = (mnt [98]).map (fun m => (m, [])) := rfl
  rw [h1, mnt_one (l := [98]) (r := []) (d := 98) rfl, mnt_nil]
  rfl
theorem head_ans : ansW [97, 32, 34, 98, 34] = ([[97], [98]], 0) := by
  unfold ansW
  rw [if_neg (by decide), wds_step (l := [97, 32, 34, 98, 34]) (c := 97) (t := [32, 34, 98, 34]) (m := [97]) (r := [32, 34, 98, 34]) rfl (by decide) rfl, wds_step (l := [32, 34, 98, 34]) (c := 34) (t := [98, 34]) (m := [98]) (r := []) rfl (by decide) frst_b, wds_end rfl]
  rfl
theorem kpt_cat (i : Nat) : (⟨#[107, 101, 112, 116, 32]⟩ : ByteArray) ++ ⟨(mkd i).toArray⟩ = ⟨(kpt i).toArray⟩ := by
  apply ByteArray.ext
  apply Array.ext'
  simp [kpt]
theorem mor_cat (i : Nat) : (⟨#[109, 111, 114, 101, 32]⟩ : ByteArray) ++ ⟨(mkd i).toArray⟩ = ⟨(mor i).toArray⟩ := by
  apply ByteArray.ext
  apply Array.ext'
  simp [mor]
theorem mkd_size {i : Nat} (h : i < 10000) : (⟨(mkd i).toArray⟩ : ByteArray).size ≤ 20 := by
  rw [← len_size]
  exact mkd_len h
set_option maxRecDepth 20000 in
set_option maxHeartbeats 16000000 in
theorem shellOwn_any (a : Option Addr) (n c : Nat) (w : World) (hs : Texts w w.heap.size a n) (hE : EV w) (_hn : n ≤ 9000000000000000000) :
    Calls Tryd.prog 6 #[.slice a n c] w fun e w' => e = .returned (.bool true) ∧ Below w.heap.size w w' := by
  have h1 := words_any ⟨#[97, 32, 34, 98, 34]⟩ w hE
  rw [show (⟨#[97, 32, 34, 98, 34]⟩ : ByteArray).data.toList = [97, 32, 34, 98, 34] from rfl, head_ans] at h1
  have HS := Hid.mk (And.intro hs hE)
  clear hs hE
  go_enter Tryd.func6, Tryd.ntmps6
  go_wp2_with fail
  refine h1.mono ?_
  rintro e w0 ⟨v0, rfl, ht0, hb0⟩
  obtain ⟨a0, c0, rfl, hnil, hcell⟩ := told_slice ht0
  obtain ⟨g0, rfl, q0, q1⟩ : ∃ g, a0 = some ⟨g, 0, none⟩ ∧ w0.cell? ⟨g, 0, none⟩ = some (.string ⟨#[97]⟩) ∧ w0.cell? ⟨g, 1, none⟩ = some (.string ⟨#[98]⟩) := by
    cases a0 with
    | none => exact absurd (hnil rfl) (by decide)
    | some g => exact ⟨g.block, congrArg some (hcell g rfl).2.1, (hcell g rfl).2.2 0 [97] rfl, (hcell g rfl).2.2 1 [98] rfl⟩
  rw [show [[(97 : UInt8)], [98]].length = 2 from rfl] at *
  obtain ⟨L1, G1, o1⟩ := ht0.own hb0 (lab := fun _ => 0) (fun _ _ => rfl) (yK 0)
  rw [show [[(97 : UInt8)], [98]].length = 2 from rfl] at o1
  obtain ⟨L2, G2, k2⟩ := LO.one (yr := 21) (yb := yK) G1.lz (y21 0) (d := [[97], [98]]) o1
  have g2 : Gro (fun _ => 0) L2 w (w0.alloc (.cells #[.slice (some ⟨g0, 0, none⟩) 2 c0] 25)) isK := G1.join G2 (fun y e => by subst e; exact isK_yK _) (fun y e => by subst e; exact isK_of (by omega) (by omega))
  have H0 := Hid.mk (And.intro k2 g2)
  clear h1 ht0 hb0 hnil hcell G1 o1 G2 k2 g2
  go_upto_block 0 with fail
  go_cut [5] (fun kv wx => ∃ (ds : List (List (List UInt8))) (L : Nat → Nat), ds.length ≤ 8193 ∧ (∀ d ∈ ds, d.length ≤ 100000000) ∧ LO wx L 21 yK kv ds ∧ Gro (fun _ => 0) L w wx isK)
  case first =>
    clear q0 q1
    go_wp2_with fail
    go_loopw [5, 7] (fun kv iv wr => ∃ (q : Nat) (ds : List (List (List UInt8))) (L : Nat → Nat), q ≤ n ∧ q ≤ 4096 ∧ iv = .int .i64 (q : Int) ∧ ds.length = 1 + 2 * q ∧ (∀ d ∈ ds, d.length ≤ 100000000) ∧ LO wr L 21 yK kv ds ∧ Gro (fun _ => 0) L w wr isK) (fun _ iv _ => n - (intOf iv).toNat)
    case atStart => exact ⟨0, _, L2, Nat.zero_le _, Nat.zero_le _, rfl, rfl, (fun d hd => by simp at hd; subst hd; simp), H0.out.1, H0.out.2⟩
    case round =>
      clear H0
      obtain ⟨q, ds, L, hq, hq2, rfl, hdl, hd3, hK, hG⟩ := hrel
      obtain ⟨N, hN⟩ : ∃ N, N = ds.length := ⟨_, rfl⟩
      obtain ⟨ka, kc, hkv⟩ := hK.form
      rw [← hN] at hkv
      subst hkv
      by_cases hlt : q < n
      · have hlt' : (q : Int) < (n : Int) := by omega
        by_cases hlt4 : q < 4096
        · have hlt4' : (q : Int) < 4096 := by omega
          have hq0 : (0 : Int) ≤ (q : Int) := by omega
          cases a with
          | none => have := HS.out.1.1 rfl; omega
          | some x =>
          obtain ⟨b, o, rfl, hbb, s, hcell, hsz⟩ := (HS.out.1.far (belowK hG)).2 x rfl q hlt
          have hW := words_any s
          have hR := rwords_any s
          rw [ans_same] at hR
          have hlen := ansW_len s.data.toList
          generalize ansW s.data.toList = A at *
          obtain ⟨A1, A2⟩ := A
          simp only at hW hR hlen
          have hEr := HS.out.2.later (belowK hG)
          have hW1 := hW wr hEr
          have HH := Hid.mk (And.intro hdl (And.intro hd3 (And.intro hK (And.intro hG (And.intro hN hlen)))))
          clear hdl hd3 hK hG hN hsz
          go_wp2_with fail
          refine hW1.mono ?_
          rintro e w1 ⟨v1, rfl, ht1, hb1⟩
          have hc1 := cell_later hb1 hcell
          have hW2 := hW w1 (hEr.later hb1)
          obtain ⟨a1, c1, rfl, _, _⟩ := told_slice ht1
          have H1 := Hid.mk (And.intro ht1 hb1)
          clear hcell hW1 ht1 hb1
          go_wp2_with fail
          refine hW2.mono ?_
          rintro e w2 ⟨v2, rfl, ht2, hb2⟩
          have hc2 := cell_later hb2 hc1
          have hR2 := hR w2
          obtain ⟨a2, c2, rfl, _, _⟩ := told_slice ht2
          have H2 := Hid.mk (And.intro ht2 hb2)
          clear hc1 hW2 ht2 hb2 hW hR
          go_wp2_with fail
          refine hR2.mono ?_
          rintro e w3 ⟨v3, rfl, ht3, hb3⟩
          obtain ⟨a3, c3, rfl, _, _⟩ := told_slice ht3
          have t1 := told_later (told_later H1.out.1 H2.out.2) hb3
          have t2 := told_later H2.out.1 hb3
          have hs1 := same_eq t1 ht3 HH.out.2.2.2.2.2
          have hs2 : ∀ w', Below w3.heap.size w3 w' → _ := fun w' hb' => same_eq (told_later t2 hb') (told_later ht3 hb') HH.out.2.2.2.2.2
          have H3 := Hid.mk hb3
          have hne : ((A2 : Int) != (A2 : Int)) = false := by simp
          clear hc2 hR2 hb3 t1 t2 ht3 hEr
          go_wp2_with fail
          refine hs1.mono ?_
          rintro e w4 ⟨rfl, hb4⟩
          have hs3 := hs2 w4 hb4
          have H4 := Hid.mk hb4
          clear hs1 hs2 hb4
          go_wp2_with fail
          refine hs3.mono ?_
          rintro e w5 ⟨rfl, hb5⟩
          clear hs3
          obtain ⟨hdl, hd3, hK, hG, hN, hlen⟩ := HH.out
          obtain ⟨ht1, hb1⟩ := H1.out
          obtain ⟨ht2, hb2⟩ := H2.out
          have hb3 := H3.out
          have hb4 := H4.out
          obtain ⟨L1, G1, o1⟩ := ht1.own hb1 hG.lz (yK N)
          obtain ⟨L2, G2, o2⟩ := ht2.own hb2 G1.lz (yK (N + 1))
          have hb25 : Below w2.heap.size w2 w5 := hb3.trans ((hb4.mono hb3.size).trans (hb5.mono (Nat.le_trans hb3.size hb4.size)))
          have G5 := Gro.below G2.lz hb25 (fun _ => False)
          have o15 := (o1.gro G2 (fun e => yK_ne (by omega) e)).gro G5 (fun h => h)
          have o25 := o2.gro G5 (fun h => h)
          have K5 := ((hK.gro G1 (y21 _) (fun i hi e => yK_ne (by omega) e)).gro G2 (y21 _) (fun i hi e => yK_ne (by omega) e)).gro G5 (fun h => h) (fun _ _ h => h)
          have Q5 := ((hG.join G1 (Z := isK) (fun _ h => h) (fun y e => by subst e; exact isK_yK _)).join G2 (Z := isK) (fun _ h => h) (fun y e => by subst e; exact isK_yK _)).join G5 (Z := isK) (fun _ h => h) (fun _ h => h.elim)
          obtain ⟨g6, c6, w6, r6, L6, G6, K6⟩ := K5.push G5.lz y21 (by omega) (u := .slice a1 A1.length c1) (d := A1) (by rw [← hN]; exact o15)
          rw [← hN] at r6 K6
          have o26 := o25.gro G6 (fun e => (y21 _) e.symm)
          obtain ⟨g7, c7, w7, r7, L7, G7, K7⟩ := K6.push G6.lz y21 (by simp; omega) (u := .slice a2 A1.length c2) (d := A1) (by rw [List.length_append, List.length_singleton, ← hN]; exact o26)
          rw [List.length_append, List.length_singleton, ← hN] at r7 K7
          have Q7 := (Q5.join G6 (Z := isK) (fun _ h => h) (fun y e => by subst e; exact isK_of (by omega) (by omega))).join G7 (Z := isK) (fun _ h => h) (fun y e => by subst e; exact isK_of (by omega) (by omega))
          have HR : Hid ((ds ++ [A1] ++ [A1]).length = 1 + 2 * (q + 1) ∧ (∀ d ∈ ds ++ [A1] ++ [A1], d.length ≤ 100000000) ∧ LO w7 L7 21 yK (.slice (some ⟨g7, 0, none⟩) (N + 1 + 1) c7) (ds ++ [A1] ++ [A1]) ∧ Gro (fun _ => 0) L7 w w7 isK) := ⟨by simp; omega, (fun d hd => by
            simp only [List.mem_append, List.mem_singleton] at hd
            rcases hd with (hd | rfl) | rfl
            · exact hd3 d hd
            · exact hlen
            · exact hlen), K7, Q7⟩
          have HR6 := Hid.mk r6
          have HR7 := Hid.mk r7
          clear HH H1 H2 H3 H4 hdl hd3 hK hG hN hlen ht1 hb1 ht2 hb2 hb3 hb4 hb5 hb25 G1 G2 G5 o1 o2 o15 o25 K5 Q5 r6 G6 K6 o26 r7 G7 K7 Q7
          go_wp2_with (at_builtin; first | refine Lib.wpList_append_run _ rfl _ _ _ _ rfl _ _ rfl rfl _ _ HR6.out ?_ | refine Lib.wpList_append_run _ rfl _ _ _ _ rfl _ _ rfl rfl _ _ HR7.out ?_)
          go_roundw
          case rel => exact ⟨q + 1, _, L7, by omega, by omega, by go_num, HR.out⟩
          case measure => simp [intOf]; omega
        · have hlt4' : ¬ (q : Int) < 4096 := by omega
          have HE : Hid (ds.length ≤ 8193 ∧ (∀ d ∈ ds, d.length ≤ 100000000) ∧ LO wr L 21 yK (.slice ka N kc) ds ∧ Gro (fun _ => 0) L w wr isK) := ⟨by omega, hd3, hK, hG⟩
          clear hdl hd3 hK hG hN
          go_wp2
          go_meet
          case rel => exact ⟨ds, L, HE.out⟩
      · have hlt' : ¬ (q : Int) < (n : Int) := by omega
        have HE : Hid (ds.length ≤ 8193 ∧ (∀ d ∈ ds, d.length ≤ 100000000) ∧ LO wr L 21 yK (.slice ka N kc) ds ∧ Gro (fun _ => 0) L w wr isK) := ⟨by omega, hd3, hK, hG⟩
        clear hdl hd3 hK hG hN
        go_wp2
        go_meet
        case rel => exact ⟨ds, L, HE.out⟩
  case rest =>
  obtain ⟨ds, L, hdl, hd3, hK, hG⟩ := hcut
  obtain ⟨N, hN⟩ : ∃ N, N = ds.length := ⟨_, rfl⟩
  rw [← hN] at hdl
  obtain ⟨la, lc, hkv⟩ := hK.form
  rw [← hN] at hkv
  subst hkv
  obtain ⟨Z, hZ⟩ : ∃ Z : Nat → Nat, ∀ i (h : i < ds.length), (ds[i]).length = Z i := ⟨fun i => (ds.getD i []).length, fun i h => by simp [List.getD, List.getElem?_eq_getElem h]⟩
  have H1 := Hid.mk (And.intro hK hG)
  have HD : Hid (ds.length = N ∧ (∀ i (h : i < ds.length), (ds[i]).length = Z i) ∧ ∀ i, i < N → Z i ≤ 100000000) := ⟨hN.symm, hZ, fun i hi => by rw [← hZ i (by omega)]; exact hd3 _ (List.getElem_mem _)⟩
  clear hd3 hK hG hN hZ H0 HS q0 q1
  go_upto_block 2 with fail
  go_cut [14] (fun _ wx => ∃ L : Nat → Nat, LO wx L 21 yK (.slice la N lc) (mv (kw Z) N) ∧ Gro (fun _ => 0) L w wx isK)
  case first =>
    go_wp2_with fail
    go_loopw [14] (fun iv wr => ∃ (k : Nat) (L : Nat → Nat), k ≤ N ∧ iv = .int .i64 (k : Int) ∧ LO wr L 21 yK (.slice la N lc) (mv (kw Z) k ++ ds.drop k) ∧ Gro (fun _ => 0) L w wr isK) (fun iv _ => N - (intOf iv).toNat)
    case atStart => exact ⟨0, L, Nat.zero_le _, rfl, by simpa [mv] using H1.out.1, H1.out.2⟩
    case round =>
      clear H1
      obtain ⟨k, L0, hk, rfl, hK, hG⟩ := hrel
      by_cases hlt : k < N
      · have hkd : k < ds.length := by have := HD.out.1; omega
        rw [List.drop_eq_getElem_cons hkd] at hK
        obtain ⟨d, hd⟩ : ∃ d, d = ds[k] := ⟨_, rfl⟩
        obtain ⟨z, hz⟩ : ∃ z, z = Z k := ⟨_, rfl⟩
        have hdz : d.length = z := by rw [hd, hz]; exact HD.out.2.1 k hkd
        rw [← hd] at hK
        have hlt' : (k : Int) < (N : Int) := by omega
        have hk0 : (0 : Int) ≤ (k : Int) := by omega
        have hm := marked_any k (by omega) wr
        have hMs := mkd_size (i := k) (by omega)
        have hcat := kpt_cat k
        generalize (⟨(mkd k).toArray⟩ : ByteArray) = M at *
        have k1 : (9223372036854775807 < 5 + M.size) = False := eq_false (by omega)
        have HC := Hid.mk hcat
        have H2 := Hid.mk (And.intro hK hG)
        have HZ := Hid.mk (And.intro hdz hz)
        have hzb : z ≤ 100000000 := by rw [hz]; exact HD.out.2.2 k hlt
        clear hK hG hd hkd hcat hMs hdz hz
        go_wp2_with fail
        refine hm.mono ?_
        rintro e w5 ⟨rfl, hb5⟩
        have GB := Gro.below H2.out.2.lz hb5 (fun _ => False)
        have H3 : Hid (LO w5 L0 21 yK (.slice la N lc) (mv (kw Z) k ++ d :: ds.drop (k + 1)) ∧ Gro (fun _ => 0) L0 w w5 isK) := ⟨H2.out.1.gro GB (fun h => h) (fun _ _ h => h), H2.out.2.join GB (Z := isK) (fun _ h => h) (fun _ h => h.elim)⟩
        clear hm hb5 GB H2
        go_wp2_with fail
        rw [HC.out]
        clear k1 HC
        rename World => wo
        go_loopw [16] (fun jv wr => ∃ (t : Nat) (L : Nat → Nat), t ≤ z ∧ jv = .int .i64 (t : Int) ∧ LO wr L 21 yK (.slice la N lc) (mv (kw Z) k ++ (List.replicate t (kpt k) ++ d.drop t) :: ds.drop (k + 1)) ∧ Gro (fun _ => 0) L w wr isK) (fun jv _ => z - (intOf jv).toNat)
        case atStart => exact ⟨0, L0, Nat.zero_le _, rfl, by simpa using H3.out.1, H3.out.2⟩
        case round =>
          clear H3
          obtain ⟨t, L, ht, rfl, hK, hG⟩ := hrel
          have hld : (List.replicate t (kpt k) ++ d.drop t).length = z := by
            have := HZ.out.1
            rw [List.length_append, List.length_replicate, List.length_drop]
            omega
          obtain ⟨gL, cL, u, e1, e2, e3⟩ := hK.mid
          rw [hld] at e3
          rw [mv_len] at e2
          have eL : la = some ⟨gL, 0, none⟩ := by injection e1
          subst eL
          by_cases hlt2 : t < z
          · obtain ⟨g, cg, hu, hr, _, hcg⟩ := e3.row (by omega)
            subst hu
            have hcgm : cg ≤ 9223372036854775807 := OR.cap e3
            have hp := hK.putW hG.lz (y21 _) (fun i hi e => yK_ne hi e) (j := t) (by rw [hld]; exact hlt2) (kpt k) (gL := gL) (g := g) (c := cg) rfl (by rw [mv_len, hld]; exact e2)
            rw [rep_fill (by have := HZ.out.1; omega)] at hp
            obtain ⟨⟨y0, p1⟩, p2, p3, p4, p5⟩ := hp
            have HRR : Hid (LO (wr.setCell ⟨g, t, none⟩ (.string ⟨(kpt k).toArray⟩)) L 21 yK (.slice (some ⟨gL, 0, none⟩) N lc) (mv (kw Z) k ++ (List.replicate (t + 1) (kpt k) ++ d.drop (t + 1)) :: ds.drop (k + 1)) ∧ Gro (fun _ => 0) L w (wr.setCell ⟨g, t, none⟩ (.string ⟨(kpt k).toArray⟩)) isK) := ⟨p5, hG.join p4 (Z := isK) (fun _ h => h) (fun y e => by subst e; exact isK_yK _)⟩
            have hlt2' : (t : Int) < (z : Int) := by omega
            have ht0 : (0 : Int) ≤ (t : Int) := by omega
            clear hK hG hld e1 e3 hr ht p3 p4 p5
            go_wp2
            go_roundw
            case rel => exact ⟨t + 1, L, by omega, by go_num, HRR.out⟩
            case measure => simp [intOf]; omega
          · obtain rfl : t = z := by omega
            obtain ⟨ia, ic, hui⟩ := e3.form
            subst hui
            have hlt2' : ¬ (t : Int) < (t : Int) := by omega
            have hfin : LO wr L 21 yK (.slice (some ⟨gL, 0, none⟩) N lc) (mv (kw Z) (k + 1) ++ ds.drop (k + 1)) := by
              rw [List.drop_of_length_le (by have := HZ.out.1; omega), List.append_nil] at hK
              rw [mv_succ, List.append_assoc]
              have hkw : kw Z k = List.replicate t (kpt k) := by unfold kw; rw [HZ.out.2]
              rw [hkw]
              exact hK
            have HR := Hid.mk (And.intro hfin hG)
            clear hK hG hld hfin hlt2 ht e1 e3
            go_wp2
            go_roundw
            case rel => exact ⟨k + 1, L, by omega, by go_num, HR.out⟩
            case measure => simp [intOf]; omega
      · obtain rfl : k = N := by omega
        have hlt' : ¬ (k : Int) < (k : Int) := by omega
        rw [List.drop_of_length_le (by have := HD.out.1; omega), List.append_nil] at hK
        have HE := Hid.mk (And.intro hK hG)
        clear hK hG
        go_wp2
        go_meet
        case rel => exact ⟨L0, HE.out⟩
  case rest =>
  obtain ⟨L, hK, hG⟩ := hcut
  have H2 := Hid.mk (And.intro hK hG)
  have HZb : Hid (∀ i, i < N → Z i ≤ 100000000) := HD.out.2.2
  clear hK hG H1 HD
  go_upto_block 6 with fail
  go_cut [6] (fun xv wx => ∃ L : Nat → Nat, LO wx L 24 yK xv (mv (fun i => lw Z i 71) N) ∧ LO wx L 21 yK (.slice la N lc) (mv (kw Z) N) ∧ Gro (fun _ => 0) L w wx isK)
  case first =>
    go_wp2_with fail
    go_loopw [6, 17] (fun u iv wr => ∃ (q : Nat) (L : Nat → Nat), q ≤ N ∧ iv = .int .i64 (q : Int) ∧ LO wr L 24 yK u (mv (fun i => lw Z i 71) q) ∧ LO wr L 21 yK (.slice la N lc) (mv (kw Z) N) ∧ Gro (fun _ => 0) L w wr isK) (fun _ iv _ => N - (intOf iv).toNat)
    case atStart => exact ⟨0, L, Nat.zero_le _, rfl, by simpa [mv] using LO.nil _ L 24 yK, H2.out⟩
    case round =>
      clear H2
      obtain ⟨q, L, hq, rfl, hX, hK, hG⟩ := hrel
      obtain ⟨xa, xc, hxv⟩ := hX.form
      rw [mv_len] at hxv
      subst hxv
      by_cases hlt : q < N
      · obtain ⟨Bb, hBb⟩ := mv_split (f := kw Z) hlt
        rw [hBb] at hK
        obtain ⟨gL, cL, ui, e1, e2, e3⟩ := hK.mid
        obtain ⟨z, hz⟩ : ∃ z, z = Z q := ⟨_, rfl⟩
        have hzb : z ≤ 100000000 := by rw [hz]; exact HZb.out q hlt
        rw [kw_len, ← hz] at e3
        obtain ⟨ia, ic, hui⟩ := e3.form
        subst hui
        rw [mv_len] at e2 e3
        have eL : la = some ⟨gL, 0, none⟩ := by injection e1
        subst eL
        have hlt' : (q : Int) < (N : Int) := by omega
        have hq0 : (0 : Int) ≤ (q : Int) := by omega
        have hma := marked_any q (by omega)
        have hMs := mkd_size (i := q) (by omega)
        have hcat := mor_cat q
        generalize (⟨(mkd q).toArray⟩ : ByteArray) = M at *
        obtain ⟨MM, hMM⟩ : ∃ MM : ByteArray, MM = ⟨(mor q).toArray⟩ := ⟨_, rfl⟩
        rw [← hMM] at hcat
        have k1 : (9223372036854775807 < 5 + M.size) = False := eq_false (by omega)
        have HC := Hid.mk (And.intro hcat hMM)
        have HBb := Hid.mk hBb
        have Hz := Hid.mk hz
        have hc0 : wr.drew.cell? ⟨gL, q, none⟩ = some (.slice ia z ic) := e2
        have HDr : Hid (Below wr.heap.size wr wr.drew) := (Keeps.drew (fun _ => False) wr).below (fun _ h => h.elim) (Nat.le_refl _)
        have H3 := Hid.mk (And.intro e3 (And.intro hX (And.intro hK hG)))
        clear hX hK hG e1 e3 hBb hq hcat hMM hMs hz
        go_wp2_with fail
        refine wp_region_held_drew (S := (fun w' => w'.cell? ⟨gL, q, none⟩ = some (.slice ia z ic))) (by kernel_rfl) (hc0) (fun hHeld => ?_)
        refine wpAnyH_take (i := 0) (oi := { dst := some 141, op := Op.move (Operand.tmp 5), type := 35, pos := "law.go:105", after := #[], guard := none }) (v := .slice (some ⟨gL, 0, none⟩) N lc) rfl (by kernel_rfl) (by kernel_rfl) (by kernel_rfl) (fun _ _ _ h => h) (Or.inl ⟨by rfl, ?_⟩) (by assumption) ?_
        · intro w hSw
          (try dsimp only at hSw)
          go_simp
        try simp only [Act.put, List.setIfInBounds_toArray, List.set_cons_zero, List.set_cons_succ]
        refine wpAnyH_take (i := 1) (oi := { dst := some 142, op := Op.move (Operand.tmp 17), type := 3, pos := "law.go:105", after := #[], guard := none }) (v := .int .i64 (q : Int)) rfl (by kernel_rfl) (by kernel_rfl) (by kernel_rfl) (fun _ _ _ h => h) (Or.inl ⟨by rfl, ?_⟩) (by assumption) ?_
        · intro w hSw
          (try dsimp only at hSw)
          go_simp
        try simp only [Act.put, List.setIfInBounds_toArray, List.set_cons_zero, List.set_cons_succ]
        refine wpAnyH_take (i := 2) (oi := { dst := some 143, op := Op.indexAddr 35 (Operand.tmp 141) (Operand.tmp 142), type := 0, pos := "law.go:105", after := #[{ on := 0, ground := Ground.data }, { on := 1, ground := Ground.data }], guard := none }) (v := .pointer (some ⟨gL, q, none⟩)) rfl (by kernel_rfl) (by kernel_rfl) (by kernel_rfl) (fun _ _ _ h => h) (Or.inl ⟨by rfl, ?_⟩) (by assumption) ?_
        · intro w hSw
          (try dsimp only at hSw)
          go_simp
        try simp only [Act.put, List.setIfInBounds_toArray, List.set_cons_zero, List.set_cons_succ]
        refine wpAnyH_take (i := 3) (oi := { dst := some 144, op := Op.load 25 (Operand.tmp 143), type := 25, pos := "law.go:105", after := #[{ on := 2, ground := Ground.data }], guard := none }) (v := .slice ia z ic) rfl (by kernel_rfl) (by kernel_rfl) (by kernel_rfl) (fun _ _ _ h => h) (Or.inl ⟨by rfl, ?_⟩) (by assumption) ?_
        · intro w hSw
          (try dsimp only at hSw)
          go_simp
        try simp only [Act.put, List.setIfInBounds_toArray, List.set_cons_zero, List.set_cons_succ]
        refine wpAnyH_take (i := 4) (oi := { dst := some 145, op := Op.move (Operand.tmp 17), type := 3, pos := "law.go:105", after := #[], guard := none }) (v := .int .i64 (q : Int)) rfl (by kernel_rfl) (by kernel_rfl) (by kernel_rfl) (fun _ _ _ h => h) (Or.inl ⟨by rfl, ?_⟩) (by assumption) ?_
        · intro w hSw
          (try dsimp only at hSw)
          go_simp
        try simp only [Act.put, List.setIfInBounds_toArray, List.set_cons_zero, List.set_cons_succ]
        refine wpAnyH_ready (rs := [5]) (by kernel_rfl) (by simp) ?_
        refine AllReadyH.cons (o := { dst := some 146, op := Op.call { callee := Callee.value (Operand.func 12), args := #[Operand.tmp 145], argTypes := #[3] }, type := 9, pos := "law.go:105", after := #[{ on := 4, ground := Ground.data }], guard := none }) rfl (fun K hK => ?_) AllReadyH.nil
        go_simp
        refine (hma wr.drew).mono ?_
        rintro e w5 ⟨rfl, hb5⟩
        have hc5 := cell_later hb5 hc0
        obtain ⟨e3, hX, hK, hG⟩ := H3.out
        have GB := Gro.below hG.lz (HDr.out.trans (hb5.mono HDr.out.size)) (fun _ => False)
        have GE := Gro.boxed GB.lz (.cells #[.string MM] 9) (fun _ => False)
        have GG := GB.join GE (Z := fun _ => False) (fun _ h => h) (fun _ h => h)
        have hnews : ∀ j u, (strs [mor q])[j]? = some u → (w5.alloc (.cells #[.string MM] 9)).cell? ((⟨w5.heap.size, 0, none⟩ : Addr).add j) = some u := by
          rw [HC.out.2]
          exact World.news_of_block (cs := #[.string ⟨(mor q).toArray⟩]) (t := 9) (fr := (0, 0)) (heap_alloc_new w5 _)
        have KG := hK.gro GG (fun h => h) (fun _ _ h => h)
        obtain ⟨g7, c7, w7, r7, L7, G7, o7, K7⟩ := KG.app GG.lz (y21 _) (fun i hi e => yK_ne hi e) (n' := z) (by rw [mv_len]; exact e3.gro GG (fun h => h)) (by rw [kw_len, ← Hz.out]; exact Nat.le_refl _) ⟨w5.heap.size, 0, none⟩ 1 1 [mor q] rfl hnews (by omega) (by omega)
        rw [mv_len] at G7 o7
        have hc6 := cell_later (below_box w5 (.cells #[.string MM] 9)) hc5
        have hc7 := KG.cell_gro G7 (fun e => y21 _ e) (by simp only [List.length_append, List.length_cons]; omega) hc6
        have G57 := GG.join G7 (Z := fun y => y = yK q) (fun _ h => h.elim) (fun _ h => h)
        have X7 := hX.gro G57 (fun e => y24 _ e) (fun i hi e => by
          rw [mv_len] at hi
          exact yK_ne (by omega) e)
        have Q7 := hG.join G57 (Z := isK) (fun _ h => h) (fun y e => by subst e; exact isK_yK _)
        have HR : Hid (OR w7 L7 (yK q) 9 (.slice (some ⟨g7, 0, none⟩) (z + 1) c7) (z + (1 + 0)) (strs (lw Z q (1 + 0))) ∧ LO w7 L7 24 yK (.slice xa q xc) (mv (fun i => lw Z i 71) q) ∧ LO w7 L7 21 yK (.slice (some ⟨gL, 0, none⟩) N lc) (mv (kw Z) q ++ kw Z q :: Bb) ∧ Gro (fun _ => 0) L7 w w7 isK) := ⟨o7, X7, K7, Q7⟩
        have HR7 := Hid.mk r7
        clear e3 hX hK hG GB GE GG hnews KG r7 G7 o7 K7 G57 X7 Q7
        refine hK.out _ _ ?_ (fun hHeld => ?_)
        · exact hc5
        clear hK K
        try simp only [Act.put, List.setIfInBounds_toArray, List.set_cons_zero, List.set_cons_succ]
        refine wpAnyH_take (i := 6) (oi := { dst := some 147, op := Op.binOp BinOp.add 9 (Operand.const (Value.string { data := #[109, 111, 114, 101, 32] })) (Operand.tmp 146) 9, type := 9, pos := "law.go:105", after := #[{ on := 5, ground := Ground.data }], guard := none }) (v := .string (⟨#[109, 111, 114, 101, 32]⟩ ++ M)) rfl (by kernel_rfl) (by kernel_rfl) (by kernel_rfl) (fun _ _ _ h => h) (Or.inl ⟨by rfl, ?_⟩) (by assumption) ?_
        · intro w hSw
          (try dsimp only at hSw)
          go_simp
        try simp only [Act.put, List.setIfInBounds_toArray, List.set_cons_zero, List.set_cons_succ]
        rw [HC.out.1]
        refine wpAnyH_ready (rs := [7]) (by kernel_rfl) (by simp) ?_
        refine AllReadyH.cons (o := { dst := some 148, op := Op.buildSlice 25 1 #[(0, Operand.tmp 147)], type := 25, pos := "law.go:105", after := #[{ on := 6, ground := Ground.data }], guard := none }) rfl (fun K hK => ?_) AllReadyH.nil
        go_simp
        refine hK.out _ _ ?_ (fun hHeld => ?_)
        · exact hc6
        clear hK K
        try simp only [Act.put, List.setIfInBounds_toArray, List.set_cons_zero, List.set_cons_succ]
        refine wpAnyH_ready (rs := [8]) (by kernel_rfl) (by simp) ?_
        refine AllReadyH.cons (o := { dst := some 149, op := Op.call { callee := Callee.builtin Builtin.append, args := #[Operand.tmp 144, Operand.tmp 148], argTypes := #[25, 25] }, type := 25, pos := "law.go:105", after := #[{ on := 3, ground := Ground.data }, { on := 7, ground := Ground.data }, { on := 5, ground := Ground.chain }], guard := none }) rfl (fun K hK => ?_) AllReadyH.nil
        refine sw_append_run _ _ _ rfl _ _ _ rfl rfl HR7.out ?_
        refine hK.out _ _ ?_ (fun hHeld => ?_)
        · exact hc7
        clear hK K
        try simp only [Act.put, List.setIfInBounds_toArray, List.set_cons_zero, List.set_cons_succ]
        refine wpAnyH_ready (rs := [9]) (by kernel_rfl) (by simp) ?_
        refine AllReadyH.cons (o := { dst := some 18, op := Op.assign (Operand.tmp 149), type := 25, pos := "law.go:105", after := #[{ on := 8, ground := Ground.data }, { on := 8, ground := Ground.chain }, { on := 0, ground := Ground.phase }, { on := 1, ground := Ground.phase }, { on := 2, ground := Ground.phase }, { on := 3, ground := Ground.phase }, { on := 4, ground := Ground.phase }, { on := 5, ground := Ground.phase }, { on := 6, ground := Ground.phase }, { on := 7, ground := Ground.phase }, { on := 8, ground := Ground.phase }], guard := none }) rfl (fun K hK => ?_) AllReadyH.nil
        go_simp
        refine hK.out _ _ ?_ (fun hHeld => ?_)
        · exact hc7
        clear hK K
        try simp only [Act.put, List.setIfInBounds_toArray, List.set_cons_zero, List.set_cons_succ]
        refine wpAnyH_done (by kernel_rfl) ?_ _
        clear hHeld hb5 hc0 hc5 hc6 hc7 HDr H3 HR7 e2
        go_wp2
        rename World => wo
        go_loopw [18, 19] (fun gv kv wr => ∃ (t : Nat) (L : Nat → Nat), t ≤ 70 ∧ kv = .int .i64 (t : Int) ∧ OR wr L (yK q) 9 gv (z + (1 + t)) (strs (lw Z q (1 + t))) ∧ LO wr L 24 yK (.slice xa q xc) (mv (fun i => lw Z i 71) q) ∧ LO wr L 21 yK (.slice (some ⟨gL, 0, none⟩) N lc) (mv (kw Z) q ++ kw Z q :: Bb) ∧ Gro (fun _ => 0) L w wr isK) (fun _ kv _ => 70 - (intOf kv).toNat)
        case atStart => exact ⟨0, L7, by omega, rfl, HR.out⟩
        case round =>
          clear HR
          obtain ⟨t, L, ht, rfl, ho, hX, hK, hG⟩ := hrel
          obtain ⟨kk, hkk⟩ : ∃ kk, kk = z + (1 + t) := ⟨_, rfl⟩
          rw [← hkk] at ho
          obtain ⟨ga, gc, hgv⟩ := ho.form
          subst hgv
          by_cases hlt2 : t < 70
          · have hlt2' : (t : Int) < 70 := by omega
            have kw1 := hma wr
            have H4 := Hid.mk (And.intro ho (And.intro hX (And.intro hK hG)))
            have HKK := Hid.mk hkk
            clear ho hX hK hG hkk
            go_wp2_with fail
            refine kw1.mono ?_
            rintro e w5 ⟨rfl, hb5⟩
            obtain ⟨ho, hX, hK, hG⟩ := H4.out
            have GB := Gro.below hG.lz hb5 (fun _ => False)
            have GE := Gro.boxed GB.lz (.cells #[.string MM] 9) (fun _ => False)
            have GG := GB.join GE (Z := fun _ => False) (fun _ h => h) (fun _ h => h)
            have hnews : ∀ j u, (strs [mor q])[j]? = some u → (w5.alloc (.cells #[.string MM] 9)).cell? ((⟨w5.heap.size, 0, none⟩ : Addr).add j) = some u := by
              rw [HC.out.2]
              exact World.news_of_block (cs := #[.string ⟨(mor q).toArray⟩]) (t := 9) (fr := (0, 0)) (heap_alloc_new w5 _)
            obtain ⟨g7, c7, w7, r7, L7, G7, o7, K7⟩ := (hK.gro GG (fun h => h) (fun _ _ h => h)).app GG.lz (y21 _) (fun i hi e => yK_ne hi e) (n' := kk) (by rw [mv_len]; exact ho.gro GG (fun h => h)) (by rw [kw_len]; have := HKK.out; have := Hz.out; omega) ⟨w5.heap.size, 0, none⟩ 1 1 [mor q] rfl hnews (by omega) (by have := HKK.out; omega)
            rw [mv_len] at G7 o7
            rw [← lw_succ] at o7
            have G57 := GG.join G7 (Z := fun y => y = yK q) (fun _ h => h.elim) (fun _ h => h)
            have X7 := hX.gro G57 (fun e => y24 _ e) (fun i hi e => by
              rw [mv_len] at hi
              exact yK_ne (by omega) e)
            have Q7 := hG.join G57 (Z := isK) (fun _ h => h) (fun y e => by subst e; exact isK_yK _)
            have HR := Hid.mk (And.intro o7 (And.intro X7 (And.intro K7 Q7)))
            have HR7 := Hid.mk r7
            clear kw1 hb5 ho hX hK hG GB GE GG r7 G7 o7 K7 G57 X7 Q7 H4 hnews
            go_wp2_with (at_builtin; rw [HC.out.1]; refine Lib.wpList_append_run _ rfl _ _ _ _ rfl _ _ rfl rfl _ _ HR7.out ?_)
            go_roundw
            case rel => exact ⟨t + 1, L7, by omega, by go_num, by rw [show z + (1 + (t + 1)) = kk + 1 by have := HKK.out; omega, show 1 + (t + 1) = 1 + t + 1 by omega]; exact HR.out⟩
            case measure => simp [intOf]; omega
          · obtain rfl : t = 70 := by omega
            have hlt2' : ¬ (70 : Int) < 70 := by omega
            obtain ⟨g8, c8, w8, r8, L8, G8, X8⟩ := hX.push hG.lz y24 (by rw [mv_len]; omega) (u := .slice ga kk gc) (d := lw Z q 71) (by rw [mv_len, lw_len, ← Hz.out, show z + 71 = kk by omega]; exact ho)
            rw [mv_len] at r8 X8
            rw [← mv_succ (fun i => lw Z i 71)] at X8
            have K9 : LO w8 L8 21 yK (.slice (some ⟨gL, 0, none⟩) N lc) (mv (kw Z) N) := by
              rw [HBb.out]
              exact hK.gro G8 (fun e => by omega) (fun i _ e => y24 _ e.symm)
            have Q9 := hG.join G8 (Z := isK) (fun _ h => h) (fun y e => by subst e; exact isK_of (by omega) (by omega))
            have HR := Hid.mk (And.intro X8 (And.intro K9 Q9))
            have HR8 := Hid.mk r8
            clear ho hX hK hG r8 G8 X8 K9 Q9 hkk ht HBb hma
            go_wp2_with (at_builtin; refine Lib.wpList_append_run _ rfl _ _ _ _ rfl _ _ rfl rfl _ _ HR8.out ?_)
            go_roundw
            case rel => exact ⟨q + 1, L8, by omega, by go_num, HR.out⟩
            case measure => simp [intOf]; omega
      · obtain rfl : q = N := by omega
        have hlt' : ¬ (q : Int) < (q : Int) := by omega
        have HE := Hid.mk (And.intro hX (And.intro hK hG))
        clear hX hK hG
        go_wp2
        go_meet
        case rel => exact ⟨L, HE.out⟩
  case rest =>
  obtain ⟨L, hX0, hK0, hG0⟩ := hcut
  obtain ⟨xa, xc, hxv⟩ := hX0.form
  rw [mv_len] at hxv
  subst hxv
  obtain ⟨W6, hW6⟩ : ∃ W6, W6 = wc := ⟨_, rfl⟩
  rw [← hW6] at hX0 hK0 hG0 ⊢
  have H5 := Hid.mk (And.intro hX0 (And.intro hK0 hG0))
  clear hX0 hK0 hG0 H2 hW6
  go_wp2_with fail
  go_loopw [20] (fun iv wr => ∃ t : Nat, t ≤ N ∧ iv = .int .i64 (t : Int) ∧ Below W6.heap.size W6 wr) (fun iv _ => N - (intOf iv).toNat)
  case atStart => exact ⟨0, Nat.zero_le _, rfl, Below.refl _ _⟩
  case round =>
    obtain ⟨t, ht, rfl, hb⟩ := hrel
    by_cases hlt : t < N
    · have hlt' : (t : Int) < (N : Int) := by omega
      have ht0 : (0 : Int) ≤ (t : Int) := by omega
      obtain ⟨hX0, hK0, hG0⟩ := H5.out
      obtain ⟨z, hz⟩ : ∃ z, z = Z t := ⟨_, rfl⟩
      have hzb : z ≤ 100000000 := by rw [hz]; exact HZb.out t hlt
      obtain ⟨gG, cG, ug, eG, fG, oG⟩ := hX0.at (i := t) (by rw [mv_len]; exact hlt)
      obtain ⟨y, hy⟩ : ∃ y, y = z + 71 := ⟨_, rfl⟩
      rw [mv_get, lw_len, ← hz, ← hy] at oG
      obtain ⟨gb, cb, eb, hrb, _, hcb⟩ := oG.row (by omega)
      subst eb
      have hcbm := oG.cap
      have ed : xa = some ⟨gG, 0, none⟩ := by injection eG
      subst ed
      obtain ⟨gL, cL, ui, eL, fL, oL⟩ := hK0.at (i := t) (by rw [mv_len]; exact hlt)
      rw [mv_get, kw_len, ← hz] at oL
      obtain ⟨ka, kc, hui⟩ := oL.form
      subst hui
      have hkcm := oL.cap
      have ea : la = some ⟨gL, 0, none⟩ := by injection eL
      subst ea
      have HCk : Hid (∀ w', Below W6.heap.size W6 w' → w'.cell? ⟨gG, t, none⟩ = some (.slice (some ⟨gb, 0, none⟩) y cb) ∧ w'.cell? ⟨gL, t, none⟩ = some (.slice ka z kc)) := fun w' hw => ⟨cell_later hw fG, cell_later hw fL⟩
      have HTx : Hid ((∀ j, j < z → (∃ gk, ka = some ⟨gk, 0, none⟩ ∧ W6.cell? ⟨gk, j, none⟩ = some (.string ⟨(kpt t).toArray⟩)) ∧ W6.cell? ⟨gb, j, none⟩ = some (.string ⟨(kpt t).toArray⟩)) ∧ ∀ j, z ≤ j → j < y → W6.cell? ⟨gb, j, none⟩ = some (.string ⟨(mor t).toArray⟩)) := by
        refine ⟨fun j hj => ⟨?_, ?_⟩, fun j h1 h2 => ?_⟩
        · obtain ⟨gk, ck, ek, _, tk⟩ := oL.text (k := j) (x := kpt t) (kw_low (by rw [← hz]; exact hj))
          injection ek with e1
          exact ⟨gk, e1, tk⟩
        · obtain ⟨gb2, cb2, eb2, _, tb⟩ := oG.text (k := j) (x := kpt t) (lw_low (by rw [← hz]; exact hj))
          injection eb2 with e1
          injection e1 with e1
          injection e1 with e1
          rw [e1]
          exact tb
        · obtain ⟨gb2, cb2, eb2, _, tb⟩ := oG.text (k := j) (x := mor t) (lw_high (by rw [← hz]; exact h1) (by rw [← hz, ← hy]; exact h2))
          injection eb2 with e1
          injection e1 with e1
          injection e1 with e1
          rw [e1]
          exact tb
      have hma := marked_any t (by omega)
      have hMs := mkd_size (i := t) (by omega)
      have hcat := kpt_cat t
      have hcat2 := mor_cat t
      generalize (⟨(mkd t).toArray⟩ : ByteArray) = M at *
      generalize (⟨(kpt t).toArray⟩ : ByteArray) = KK at *
      generalize (⟨(mor t).toArray⟩ : ByteArray) = MM at *
      have k1 : (9223372036854775807 < 5 + M.size) = False := eq_false (by omega)
      have HC := Hid.mk (And.intro hcat hcat2)
      obtain ⟨c1, c2⟩ := HCk.out wr hb
      have HB0 := Hid.mk hb
      have HY := Hid.mk hy
      clear hb hX0 hK0 hG0 eG fG oG eL fL oL hrb hz hcat hcat2 hMs hy
      go_wp2
      clear c1 c2
      rename World => wo
      go_loopw [22] (fun kv wr => ∃ k : Nat, k ≤ y ∧ kv = .int .i64 (k : Int) ∧ Below W6.heap.size W6 wr) (fun kv _ => y - (intOf kv).toNat)
      case atStart => exact ⟨0, Nat.zero_le _, rfl, HB0.out⟩
      case round =>
        clear HB0
        obtain ⟨k, hk, rfl, hb⟩ := hrel
        have HB := Hid.mk hb
        obtain ⟨c1, c2⟩ := HCk.out wr hb
        by_cases hlt2 : k < y
        · have hlt2' : (k : Int) < (y : Int) := by omega
          have hk0 : (0 : Int) ≤ (k : Int) := by omega
          have HDr : Hid (Below wr.heap.size wr wr.drew) := (Keeps.drew (fun _ => False) wr).below (fun _ h => h.elim) (Nat.le_refl _)
          by_cases hkz : k < z
          · have hkz' : (k : Int) < (z : Int) := by omega
            obtain ⟨⟨gk, ek, tk⟩, tb⟩ := HTx.out.1 k hkz
            subst ek
            have HCC : Hid (∀ w', Below wr.heap.size wr w' → w'.cell? ⟨gG, t, none⟩ = some (.slice (some ⟨gb, 0, none⟩) y cb) ∧ w'.cell? ⟨gb, k, none⟩ = some (.string KK) ∧ w'.cell? ⟨gL, t, none⟩ = some (.slice (some ⟨gk, 0, none⟩) z kc) ∧ w'.cell? ⟨gk, k, none⟩ = some (.string KK)) := fun w' hw => by
              have hh := HB.out.trans (hw.mono HB.out.size)
              exact ⟨(HCk.out w' hh).1, cell_later hh tb, (HCk.out w' hh).2, cell_later hh tk⟩
            have hge : ¬ (z : Int) ≤ (k : Int) := by omega
            clear hb tk tb hkz
            go_wp2_with fail
            refine wp_region_held_drew (S := (fun w' => w'.cell? ⟨gG, t, none⟩ = some (.slice (some ⟨gb, 0, none⟩) y cb) ∧ w'.cell? ⟨gb, k, none⟩ = some (.string KK) ∧ w'.cell? ⟨gL, t, none⟩ = some (.slice (some ⟨gk, 0, none⟩) z kc) ∧ w'.cell? ⟨gk, k, none⟩ = some (.string KK))) (by kernel_rfl) (HCC.out _ HDr.out) (fun hHeld => ?_)
            refine wpAnyH_take (i := 0) (oi := { dst := some 184, op := Op.move (Operand.tmp 22), type := 3, pos := "law.go:114", after := #[], guard := none }) (v := .int .i64 (k : Int)) rfl (by kernel_rfl) (by kernel_rfl) (by kernel_rfl) (fun _ _ _ h => h) (Or.inl ⟨by rfl, ?_⟩) (by assumption) ?_
            · intro w hSw
              (try dsimp only at hSw)
              go_simp
            try simp only [Act.put, List.setIfInBounds_toArray, List.set_cons_zero, List.set_cons_succ]
            refine wpAnyH_take (i := 1) (oi := { dst := some 185, op := Op.move (Operand.tmp 21), type := 3, pos := "law.go:114", after := #[], guard := none }) (v := .int .i64 (z : Int)) rfl (by kernel_rfl) (by kernel_rfl) (by kernel_rfl) (fun _ _ _ h => h) (Or.inl ⟨by rfl, ?_⟩) (by assumption) ?_
            · intro w hSw
              (try dsimp only at hSw)
              go_simp
            try simp only [Act.put, List.setIfInBounds_toArray, List.set_cons_zero, List.set_cons_succ]
            refine wpAnyH_take (i := 2) (oi := { dst := some 186, op := Op.binOp BinOp.lss 3 (Operand.tmp 184) (Operand.tmp 185) 3, type := 4, pos := "law.go:114", after := #[{ on := 0, ground := Ground.data }, { on := 1, ground := Ground.data }], guard := none }) (v := .bool true) rfl (by kernel_rfl) (by kernel_rfl) (by kernel_rfl) (fun _ _ _ h => h) (Or.inl ⟨by rfl, ?_⟩) (by assumption) ?_
            · intro w hSw
              (try dsimp only at hSw)
              go_simp
            try simp only [Act.put, List.setIfInBounds_toArray, List.set_cons_zero, List.set_cons_succ]
            refine wpAnyH_take (i := 3) (oi := { dst := some 187, op := Op.move (Operand.tmp 186), type := 4, pos := "law.go:114", after := #[{ on := 2, ground := Ground.data }], guard := none }) (v := .bool true) rfl (by kernel_rfl) (by kernel_rfl) (by kernel_rfl) (fun _ _ _ h => h) (Or.inl ⟨by rfl, ?_⟩) (by assumption) ?_
            · intro w hSw
              (try dsimp only at hSw)
              go_simp
            try simp only [Act.put, List.setIfInBounds_toArray, List.set_cons_zero, List.set_cons_succ]
            refine wpAnyH_take (i := 4) (oi := { dst := some 188, op := Op.move (Operand.tmp 5), type := 35, pos := "law.go:114", after := #[{ on := 3, ground := Ground.guard }], guard := some (3, true) }) (v := .slice (some ⟨gL, 0, none⟩) N lc) rfl (by kernel_rfl) (by kernel_rfl) (by kernel_rfl) (fun _ _ _ h => h) (Or.inl ⟨by rfl, ?_⟩) (by assumption) ?_
            · intro w hSw
              (try dsimp only at hSw)
              go_simp
            try simp only [Act.put, List.setIfInBounds_toArray, List.set_cons_zero, List.set_cons_succ]
            refine wpAnyH_take (i := 5) (oi := { dst := some 189, op := Op.move (Operand.tmp 20), type := 3, pos := "law.go:114", after := #[{ on := 3, ground := Ground.guard }], guard := some (3, true) }) (v := .int .i64 (t : Int)) rfl (by kernel_rfl) (by kernel_rfl) (by kernel_rfl) (fun _ _ _ h => h) (Or.inl ⟨by rfl, ?_⟩) (by assumption) ?_
            · intro w hSw
              (try dsimp only at hSw)
              go_simp
            try simp only [Act.put, List.setIfInBounds_toArray, List.set_cons_zero, List.set_cons_succ]
            refine wpAnyH_take (i := 6) (oi := { dst := some 190, op := Op.indexAddr 35 (Operand.tmp 188) (Operand.tmp 189), type := 0, pos := "law.go:114", after := #[{ on := 4, ground := Ground.data }, { on := 5, ground := Ground.data }, { on := 3, ground := Ground.guard }], guard := some (3, true) }) (v := .pointer (some ⟨gL, t, none⟩)) rfl (by kernel_rfl) (by kernel_rfl) (by kernel_rfl) (fun _ _ _ h => h) (Or.inl ⟨by rfl, ?_⟩) (by assumption) ?_
            · intro w hSw
              (try dsimp only at hSw)
              go_simp
            try simp only [Act.put, List.setIfInBounds_toArray, List.set_cons_zero, List.set_cons_succ]
            refine wpAnyH_take (i := 7) (oi := { dst := some 191, op := Op.load 25 (Operand.tmp 190), type := 25, pos := "law.go:114", after := #[{ on := 6, ground := Ground.data }, { on := 3, ground := Ground.guard }], guard := some (3, true) }) (v := .slice (some ⟨gk, 0, none⟩) z kc) rfl (by kernel_rfl) (by kernel_rfl) (by kernel_rfl) (fun _ _ _ h => h) (Or.inl ⟨by rfl, ?_⟩) (by assumption) ?_
            · intro w hSw
              (try dsimp only at hSw)
              go_simp
            try simp only [Act.put, List.setIfInBounds_toArray, List.set_cons_zero, List.set_cons_succ]
            refine wpAnyH_take (i := 8) (oi := { dst := some 192, op := Op.move (Operand.tmp 22), type := 3, pos := "law.go:114", after := #[{ on := 3, ground := Ground.guard }], guard := some (3, true) }) (v := .int .i64 (k : Int)) rfl (by kernel_rfl) (by kernel_rfl) (by kernel_rfl) (fun _ _ _ h => h) (Or.inl ⟨by rfl, ?_⟩) (by assumption) ?_
            · intro w hSw
              (try dsimp only at hSw)
              go_simp
            try simp only [Act.put, List.setIfInBounds_toArray, List.set_cons_zero, List.set_cons_succ]
            refine wpAnyH_take (i := 9) (oi := { dst := some 193, op := Op.indexAddr 25 (Operand.tmp 191) (Operand.tmp 192), type := 0, pos := "law.go:114", after := #[{ on := 7, ground := Ground.data }, { on := 8, ground := Ground.data }, { on := 3, ground := Ground.guard }], guard := some (3, true) }) (v := .pointer (some ⟨gk, k, none⟩)) rfl (by kernel_rfl) (by kernel_rfl) (by kernel_rfl) (fun _ _ _ h => h) (Or.inl ⟨by rfl, ?_⟩) (by assumption) ?_
            · intro w hSw
              (try dsimp only at hSw)
              go_simp
            try simp only [Act.put, List.setIfInBounds_toArray, List.set_cons_zero, List.set_cons_succ]
            refine wpAnyH_take (i := 10) (oi := { dst := some 194, op := Op.load 9 (Operand.tmp 193), type := 9, pos := "law.go:114", after := #[{ on := 9, ground := Ground.data }, { on := 3, ground := Ground.guard }], guard := some (3, true) }) (v := .string KK) rfl (by kernel_rfl) (by kernel_rfl) (by kernel_rfl) (fun _ _ _ h => h) (Or.inl ⟨by rfl, ?_⟩) (by assumption) ?_
            · intro w hSw
              (try dsimp only at hSw)
              go_simp
            try simp only [Act.put, List.setIfInBounds_toArray, List.set_cons_zero, List.set_cons_succ]
            refine wpAnyH_take (i := 11) (oi := { dst := some 195, op := Op.move (Operand.tmp 20), type := 3, pos := "law.go:114", after := #[{ on := 3, ground := Ground.guard }], guard := some (3, true) }) (v := .int .i64 (t : Int)) rfl (by kernel_rfl) (by kernel_rfl) (by kernel_rfl) (fun _ _ _ h => h) (Or.inl ⟨by rfl, ?_⟩) (by assumption) ?_
            · intro w hSw
              (try dsimp only at hSw)
              go_simp
            try simp only [Act.put, List.setIfInBounds_toArray, List.set_cons_zero, List.set_cons_succ]
            refine wpAnyH_ready (rs := [12]) (by kernel_rfl) (by simp) ?_
            refine AllReadyH.cons (o := { dst := some 196, op := Op.call { callee := Callee.value (Operand.func 12), args := #[Operand.tmp 195], argTypes := #[3] }, type := 9, pos := "law.go:114", after := #[{ on := 11, ground := Ground.data }, { on := 3, ground := Ground.chain }, { on := 3, ground := Ground.guard }], guard := some (3, true) }) rfl (fun K hK => ?_) AllReadyH.nil
            go_simp
            refine (hma wr.drew).mono ?_
            rintro e w5 ⟨rfl, hb5⟩
            have hB5 : Below wr.heap.size wr w5 := HDr.out.trans (hb5.mono HDr.out.size)
            refine hK.out _ _ ?_ (fun hHeld => ?_)
            · exact HCC.out _ hB5
            clear hK K
            try simp only [Act.put, List.setIfInBounds_toArray, List.set_cons_zero, List.set_cons_succ]
            refine wpAnyH_take (i := 13) (oi := { dst := some 197, op := Op.binOp BinOp.add 9 (Operand.const (Value.string { data := #[107, 101, 112, 116, 32] })) (Operand.tmp 196) 9, type := 9, pos := "law.go:114", after := #[{ on := 12, ground := Ground.data }, { on := 3, ground := Ground.guard }], guard := some (3, true) }) (v := .string (⟨#[107, 101, 112, 116, 32]⟩ ++ M)) rfl (by kernel_rfl) (by kernel_rfl) (by kernel_rfl) (fun _ _ _ h => h) (Or.inl ⟨by rfl, ?_⟩) (by assumption) ?_
            · intro w hSw
              (try dsimp only at hSw)
              go_simp
            try simp only [Act.put, List.setIfInBounds_toArray, List.set_cons_zero, List.set_cons_succ]
            rw [HC.out.1]
            refine wpAnyH_take (i := 14) (oi := { dst := some 198, op := Op.binOp BinOp.neq 9 (Operand.tmp 194) (Operand.tmp 197) 9, type := 4, pos := "law.go:114", after := #[{ on := 10, ground := Ground.data }, { on := 13, ground := Ground.data }, { on := 3, ground := Ground.guard }], guard := some (3, true) }) (v := .bool false) rfl (by kernel_rfl) (by kernel_rfl) (by kernel_rfl) (fun _ _ _ h => h) (Or.inl ⟨by rfl, ?_⟩) (by assumption) ?_
            · intro w hSw
              (try dsimp only at hSw)
              go_simp
            try simp only [Act.put, List.setIfInBounds_toArray, List.set_cons_zero, List.set_cons_succ]
            refine wpAnyH_take (i := 15) (oi := { dst := some 199, op := Op.move (Operand.tmp 198), type := 4, pos := "law.go:114", after := #[{ on := 14, ground := Ground.data }, { on := 12, ground := Ground.chain }, { on := 3, ground := Ground.guard }], guard := some (3, true) }) (v := .bool false) rfl (by kernel_rfl) (by kernel_rfl) (by kernel_rfl) (fun _ _ _ h => h) (Or.inl ⟨by rfl, ?_⟩) (by assumption) ?_
            · intro w hSw
              (try dsimp only at hSw)
              go_simp
            try simp only [Act.put, List.setIfInBounds_toArray, List.set_cons_zero, List.set_cons_succ]
            refine wpAnyH_take (i := 16) (oi := { dst := some 200, op := Op.move (Operand.tmp 6), type := 35, pos := "law.go:114", after := #[{ on := 15, ground := Ground.guard }], guard := some (15, false) }) (v := .slice (some ⟨gG, 0, none⟩) N xc) rfl (by kernel_rfl) (by kernel_rfl) (by kernel_rfl) (fun _ _ _ h => h) (Or.inl ⟨by rfl, ?_⟩) (by assumption) ?_
            · intro w hSw
              (try dsimp only at hSw)
              go_simp
            try simp only [Act.put, List.setIfInBounds_toArray, List.set_cons_zero, List.set_cons_succ]
            refine wpAnyH_take (i := 17) (oi := { dst := some 201, op := Op.move (Operand.tmp 20), type := 3, pos := "law.go:114", after := #[{ on := 15, ground := Ground.guard }], guard := some (15, false) }) (v := .int .i64 (t : Int)) rfl (by kernel_rfl) (by kernel_rfl) (by kernel_rfl) (fun _ _ _ h => h) (Or.inl ⟨by rfl, ?_⟩) (by assumption) ?_
            · intro w hSw
              (try dsimp only at hSw)
              go_simp
            try simp only [Act.put, List.setIfInBounds_toArray, List.set_cons_zero, List.set_cons_succ]
            refine wpAnyH_take (i := 18) (oi := { dst := some 202, op := Op.indexAddr 35 (Operand.tmp 200) (Operand.tmp 201), type := 0, pos := "law.go:114", after := #[{ on := 16, ground := Ground.data }, { on := 17, ground := Ground.data }, { on := 15, ground := Ground.guard }], guard := some (15, false) }) (v := .pointer (some ⟨gG, t, none⟩)) rfl (by kernel_rfl) (by kernel_rfl) (by kernel_rfl) (fun _ _ _ h => h) (Or.inl ⟨by rfl, ?_⟩) (by assumption) ?_
            · intro w hSw
              (try dsimp only at hSw)
              go_simp
            try simp only [Act.put, List.setIfInBounds_toArray, List.set_cons_zero, List.set_cons_succ]
            refine wpAnyH_take (i := 19) (oi := { dst := some 203, op := Op.load 25 (Operand.tmp 202), type := 25, pos := "law.go:114", after := #[{ on := 18, ground := Ground.data }, { on := 15, ground := Ground.guard }], guard := some (15, false) }) (v := .slice (some ⟨gb, 0, none⟩) y cb) rfl (by kernel_rfl) (by kernel_rfl) (by kernel_rfl) (fun _ _ _ h => h) (Or.inl ⟨by rfl, ?_⟩) (by assumption) ?_
            · intro w hSw
              (try dsimp only at hSw)
              go_simp
            try simp only [Act.put, List.setIfInBounds_toArray, List.set_cons_zero, List.set_cons_succ]
            refine wpAnyH_take (i := 20) (oi := { dst := some 204, op := Op.move (Operand.tmp 22), type := 3, pos := "law.go:114", after := #[{ on := 15, ground := Ground.guard }], guard := some (15, false) }) (v := .int .i64 (k : Int)) rfl (by kernel_rfl) (by kernel_rfl) (by kernel_rfl) (fun _ _ _ h => h) (Or.inl ⟨by rfl, ?_⟩) (by assumption) ?_
            · intro w hSw
              (try dsimp only at hSw)
              go_simp
            try simp only [Act.put, List.setIfInBounds_toArray, List.set_cons_zero, List.set_cons_succ]
            refine wpAnyH_take (i := 21) (oi := { dst := some 205, op := Op.indexAddr 25 (Operand.tmp 203) (Operand.tmp 204), type := 0, pos := "law.go:114", after := #[{ on := 19, ground := Ground.data }, { on := 20, ground := Ground.data }, { on := 15, ground := Ground.guard }], guard := some (15, false) }) (v := .pointer (some ⟨gb, k, none⟩)) rfl (by kernel_rfl) (by kernel_rfl) (by kernel_rfl) (fun _ _ _ h => h) (Or.inl ⟨by rfl, ?_⟩) (by assumption) ?_
            · intro w hSw
              (try dsimp only at hSw)
              go_simp
            try simp only [Act.put, List.setIfInBounds_toArray, List.set_cons_zero, List.set_cons_succ]
            refine wpAnyH_take (i := 22) (oi := { dst := some 206, op := Op.load 9 (Operand.tmp 205), type := 9, pos := "law.go:114", after := #[{ on := 21, ground := Ground.data }, { on := 15, ground := Ground.guard }], guard := some (15, false) }) (v := .string KK) rfl (by kernel_rfl) (by kernel_rfl) (by kernel_rfl) (fun _ _ _ h => h) (Or.inl ⟨by rfl, ?_⟩) (by assumption) ?_
            · intro w hSw
              (try dsimp only at hSw)
              go_simp
            try simp only [Act.put, List.setIfInBounds_toArray, List.set_cons_zero, List.set_cons_succ]
            refine wpAnyH_take (i := 23) (oi := { dst := some 207, op := Op.move (Operand.tmp 5), type := 35, pos := "law.go:114", after := #[{ on := 15, ground := Ground.guard }], guard := some (15, false) }) (v := .slice (some ⟨gL, 0, none⟩) N lc) rfl (by kernel_rfl) (by kernel_rfl) (by kernel_rfl) (fun _ _ _ h => h) (Or.inl ⟨by rfl, ?_⟩) (by assumption) ?_
            · intro w hSw
              (try dsimp only at hSw)
              go_simp
            try simp only [Act.put, List.setIfInBounds_toArray, List.set_cons_zero, List.set_cons_succ]
            refine wpAnyH_take (i := 24) (oi := { dst := some 208, op := Op.move (Operand.tmp 20), type := 3, pos := "law.go:114", after := #[{ on := 15, ground := Ground.guard }], guard := some (15, false) }) (v := .int .i64 (t : Int)) rfl (by kernel_rfl) (by kernel_rfl) (by kernel_rfl) (fun _ _ _ h => h) (Or.inl ⟨by rfl, ?_⟩) (by assumption) ?_
            · intro w hSw
              (try dsimp only at hSw)
              go_simp
            try simp only [Act.put, List.setIfInBounds_toArray, List.set_cons_zero, List.set_cons_succ]
            refine wpAnyH_take (i := 25) (oi := { dst := some 209, op := Op.indexAddr 35 (Operand.tmp 207) (Operand.tmp 208), type := 0, pos := "law.go:114", after := #[{ on := 23, ground := Ground.data }, { on := 24, ground := Ground.data }, { on := 15, ground := Ground.guard }], guard := some (15, false) }) (v := .pointer (some ⟨gL, t, none⟩)) rfl (by kernel_rfl) (by kernel_rfl) (by kernel_rfl) (fun _ _ _ h => h) (Or.inl ⟨by rfl, ?_⟩) (by assumption) ?_
            · intro w hSw
              (try dsimp only at hSw)
              go_simp
            try simp only [Act.put, List.setIfInBounds_toArray, List.set_cons_zero, List.set_cons_succ]
            refine wpAnyH_take (i := 26) (oi := { dst := some 210, op := Op.load 25 (Operand.tmp 209), type := 25, pos := "law.go:114", after := #[{ on := 25, ground := Ground.data }, { on := 15, ground := Ground.guard }], guard := some (15, false) }) (v := .slice (some ⟨gk, 0, none⟩) z kc) rfl (by kernel_rfl) (by kernel_rfl) (by kernel_rfl) (fun _ _ _ h => h) (Or.inl ⟨by rfl, ?_⟩) (by assumption) ?_
            · intro w hSw
              (try dsimp only at hSw)
              go_simp
            try simp only [Act.put, List.setIfInBounds_toArray, List.set_cons_zero, List.set_cons_succ]
            refine wpAnyH_take (i := 27) (oi := { dst := some 211, op := Op.move (Operand.tmp 22), type := 3, pos := "law.go:114", after := #[{ on := 15, ground := Ground.guard }], guard := some (15, false) }) (v := .int .i64 (k : Int)) rfl (by kernel_rfl) (by kernel_rfl) (by kernel_rfl) (fun _ _ _ h => h) (Or.inl ⟨by rfl, ?_⟩) (by assumption) ?_
            · intro w hSw
              (try dsimp only at hSw)
              go_simp
            try simp only [Act.put, List.setIfInBounds_toArray, List.set_cons_zero, List.set_cons_succ]
            refine wpAnyH_take (i := 28) (oi := { dst := some 212, op := Op.indexAddr 25 (Operand.tmp 210) (Operand.tmp 211), type := 0, pos := "law.go:114", after := #[{ on := 26, ground := Ground.data }, { on := 27, ground := Ground.data }, { on := 15, ground := Ground.guard }], guard := some (15, false) }) (v := .pointer (some ⟨gk, k, none⟩)) rfl (by kernel_rfl) (by kernel_rfl) (by kernel_rfl) (fun _ _ _ h => h) (Or.inl ⟨by rfl, ?_⟩) (by assumption) ?_
            · intro w hSw
              (try dsimp only at hSw)
              go_simp
            try simp only [Act.put, List.setIfInBounds_toArray, List.set_cons_zero, List.set_cons_succ]
            refine wpAnyH_take (i := 29) (oi := { dst := some 213, op := Op.load 9 (Operand.tmp 212), type := 9, pos := "law.go:114", after := #[{ on := 28, ground := Ground.data }, { on := 15, ground := Ground.guard }], guard := some (15, false) }) (v := .string KK) rfl (by kernel_rfl) (by kernel_rfl) (by kernel_rfl) (fun _ _ _ h => h) (Or.inl ⟨by rfl, ?_⟩) (by assumption) ?_
            · intro w hSw
              (try dsimp only at hSw)
              go_simp
            try simp only [Act.put, List.setIfInBounds_toArray, List.set_cons_zero, List.set_cons_succ]
            refine wpAnyH_take (i := 30) (oi := { dst := some 214, op := Op.binOp BinOp.neq 9 (Operand.tmp 206) (Operand.tmp 213) 9, type := 4, pos := "law.go:114", after := #[{ on := 22, ground := Ground.data }, { on := 29, ground := Ground.data }, { on := 15, ground := Ground.guard }], guard := some (15, false) }) (v := .bool false) rfl (by kernel_rfl) (by kernel_rfl) (by kernel_rfl) (fun _ _ _ h => h) (Or.inl ⟨by rfl, ?_⟩) (by assumption) ?_
            · intro w hSw
              (try dsimp only at hSw)
              go_simp
            try simp only [Act.put, List.setIfInBounds_toArray, List.set_cons_zero, List.set_cons_succ]
            refine wpAnyH_take (i := 31) (oi := { dst := some 215, op := Op.pick (Operand.tmp 199) (Operand.const (Value.bool true)) (Operand.tmp 214), type := 4, pos := "law.go:114", after := #[{ on := 15, ground := Ground.data }, { on := 30, ground := Ground.data }, { on := 3, ground := Ground.guard }], guard := some (3, true) }) (v := .bool false) rfl (by kernel_rfl) (by kernel_rfl) (by kernel_rfl) (fun _ _ _ h => h) (Or.inl ⟨by rfl, ?_⟩) (by assumption) ?_
            · intro w hSw
              (try dsimp only at hSw)
              go_simp
            try simp only [Act.put, List.setIfInBounds_toArray, List.set_cons_zero, List.set_cons_succ]
            refine wpAnyH_take (i := 32) (oi := { dst := some 216, op := Op.pick (Operand.tmp 187) (Operand.tmp 215) (Operand.const (Value.bool false)), type := 4, pos := "law.go:114", after := #[{ on := 3, ground := Ground.data }, { on := 31, ground := Ground.data }], guard := none }) (v := .bool false) rfl (by kernel_rfl) (by kernel_rfl) (by kernel_rfl) (fun _ _ _ h => h) (Or.inl ⟨by rfl, ?_⟩) (by assumption) ?_
            · intro w hSw
              (try dsimp only at hSw)
              go_simp
            try simp only [Act.put, List.setIfInBounds_toArray, List.set_cons_zero, List.set_cons_succ]
            refine wpAnyH_done (by kernel_rfl) ?_ _
            clear hHeld c1 c2
            go_wp2_with fail
            refine wp_region_held_drew (S := (fun _ => True)) (by kernel_rfl) (trivial) (fun hHeld => ?_)
            refine wpAnyH_take (i := 0) (oi := { dst := some 217, op := Op.move (Operand.tmp 22), type := 3, pos := "law.go:117", after := #[], guard := none }) (v := .int .i64 (k : Int)) rfl (by kernel_rfl) (by kernel_rfl) (by kernel_rfl) (fun _ _ _ h => h) (Or.inl ⟨by rfl, ?_⟩) (by assumption) ?_
            · intro w hSw
              (try dsimp only at hSw)
              go_simp
            try simp only [Act.put, List.setIfInBounds_toArray, List.set_cons_zero, List.set_cons_succ]
            refine wpAnyH_take (i := 1) (oi := { dst := some 218, op := Op.move (Operand.tmp 21), type := 3, pos := "law.go:117", after := #[], guard := none }) (v := .int .i64 (z : Int)) rfl (by kernel_rfl) (by kernel_rfl) (by kernel_rfl) (fun _ _ _ h => h) (Or.inl ⟨by rfl, ?_⟩) (by assumption) ?_
            · intro w hSw
              (try dsimp only at hSw)
              go_simp
            try simp only [Act.put, List.setIfInBounds_toArray, List.set_cons_zero, List.set_cons_succ]
            refine wpAnyH_take (i := 2) (oi := { dst := some 219, op := Op.binOp BinOp.geq 3 (Operand.tmp 217) (Operand.tmp 218) 3, type := 4, pos := "law.go:117", after := #[{ on := 0, ground := Ground.data }, { on := 1, ground := Ground.data }], guard := none }) (v := .bool false) rfl (by kernel_rfl) (by kernel_rfl) (by kernel_rfl) (fun _ _ _ h => h) (Or.inl ⟨by rfl, ?_⟩) (by assumption) ?_
            · intro w hSw
              (try dsimp only at hSw)
              go_simp
              omega
            try simp only [Act.put, List.setIfInBounds_toArray, List.set_cons_zero, List.set_cons_succ]
            refine wpAnyH_take (i := 3) (oi := { dst := some 220, op := Op.move (Operand.tmp 219), type := 4, pos := "law.go:117", after := #[{ on := 2, ground := Ground.data }], guard := none }) (v := .bool false) rfl (by kernel_rfl) (by kernel_rfl) (by kernel_rfl) (fun _ _ _ h => h) (Or.inl ⟨by rfl, ?_⟩) (by assumption) ?_
            · intro w hSw
              (try dsimp only at hSw)
              go_simp
            try simp only [Act.put, List.setIfInBounds_toArray, List.set_cons_zero, List.set_cons_succ]
            refine wpAnyH_take (i := 4) (oi := { dst := some 221, op := Op.move (Operand.tmp 6), type := 35, pos := "law.go:117", after := #[{ on := 3, ground := Ground.guard }], guard := some (3, true) }) (v := undef) rfl (by kernel_rfl) (by kernel_rfl) (by kernel_rfl) (fun _ _ _ h => h) (Or.inr ⟨by rfl, rfl⟩) (by assumption) ?_
            try simp only [Act.put, List.setIfInBounds_toArray, List.set_cons_zero, List.set_cons_succ]
            refine wpAnyH_take (i := 5) (oi := { dst := some 222, op := Op.move (Operand.tmp 20), type := 3, pos := "law.go:117", after := #[{ on := 3, ground := Ground.guard }], guard := some (3, true) }) (v := undef) rfl (by kernel_rfl) (by kernel_rfl) (by kernel_rfl) (fun _ _ _ h => h) (Or.inr ⟨by rfl, rfl⟩) (by assumption) ?_
            try simp only [Act.put, List.setIfInBounds_toArray, List.set_cons_zero, List.set_cons_succ]
            refine wpAnyH_take (i := 6) (oi := { dst := some 223, op := Op.indexAddr 35 (Operand.tmp 221) (Operand.tmp 222), type := 0, pos := "law.go:117", after := #[{ on := 4, ground := Ground.data }, { on := 5, ground := Ground.data }, { on := 3, ground := Ground.guard }], guard := some (3, true) }) (v := undef) rfl (by kernel_rfl) (by kernel_rfl) (by kernel_rfl) (fun _ _ _ h => h) (Or.inr ⟨by rfl, rfl⟩) (by assumption) ?_
            try simp only [Act.put, List.setIfInBounds_toArray, List.set_cons_zero, List.set_cons_succ]
            refine wpAnyH_take (i := 7) (oi := { dst := some 224, op := Op.load 25 (Operand.tmp 223), type := 25, pos := "law.go:117", after := #[{ on := 6, ground := Ground.data }, { on := 3, ground := Ground.guard }], guard := some (3, true) }) (v := undef) rfl (by kernel_rfl) (by kernel_rfl) (by kernel_rfl) (fun _ _ _ h => h) (Or.inr ⟨by rfl, rfl⟩) (by assumption) ?_
            try simp only [Act.put, List.setIfInBounds_toArray, List.set_cons_zero, List.set_cons_succ]
            refine wpAnyH_take (i := 8) (oi := { dst := some 225, op := Op.move (Operand.tmp 22), type := 3, pos := "law.go:117", after := #[{ on := 3, ground := Ground.guard }], guard := some (3, true) }) (v := undef) rfl (by kernel_rfl) (by kernel_rfl) (by kernel_rfl) (fun _ _ _ h => h) (Or.inr ⟨by rfl, rfl⟩) (by assumption) ?_
            try simp only [Act.put, List.setIfInBounds_toArray, List.set_cons_zero, List.set_cons_succ]
            refine wpAnyH_take (i := 9) (oi := { dst := some 226, op := Op.indexAddr 25 (Operand.tmp 224) (Operand.tmp 225), type := 0, pos := "law.go:117", after := #[{ on := 7, ground := Ground.data }, { on := 8, ground := Ground.data }, { on := 3, ground := Ground.guard }], guard := some (3, true) }) (v := undef) rfl (by kernel_rfl) (by kernel_rfl) (by kernel_rfl) (fun _ _ _ h => h) (Or.inr ⟨by rfl, rfl⟩) (by assumption) ?_
            try simp only [Act.put, List.setIfInBounds_toArray, List.set_cons_zero, List.set_cons_succ]
            refine wpAnyH_take (i := 10) (oi := { dst := some 227, op := Op.load 9 (Operand.tmp 226), type := 9, pos := "law.go:117", after := #[{ on := 9, ground := Ground.data }, { on := 3, ground := Ground.guard }], guard := some (3, true) }) (v := undef) rfl (by kernel_rfl) (by kernel_rfl) (by kernel_rfl) (fun _ _ _ h => h) (Or.inr ⟨by rfl, rfl⟩) (by assumption) ?_
            try simp only [Act.put, List.setIfInBounds_toArray, List.set_cons_zero, List.set_cons_succ]
            refine wpAnyH_take (i := 11) (oi := { dst := some 228, op := Op.move (Operand.tmp 20), type := 3, pos := "law.go:117", after := #[{ on := 3, ground := Ground.guard }], guard := some (3, true) }) (v := undef) rfl (by kernel_rfl) (by kernel_rfl) (by kernel_rfl) (fun _ _ _ h => h) (Or.inr ⟨by rfl, rfl⟩) (by assumption) ?_
            try simp only [Act.put, List.setIfInBounds_toArray, List.set_cons_zero, List.set_cons_succ]
            refine wpAnyH_take (i := 12) (oi := { dst := some 229, op := Op.call { callee := Callee.value (Operand.func 12), args := #[Operand.tmp 228], argTypes := #[3] }, type := 9, pos := "law.go:117", after := #[{ on := 11, ground := Ground.data }, { on := 3, ground := Ground.chain }, { on := 3, ground := Ground.guard }], guard := some (3, true) }) (v := undef) rfl (by kernel_rfl) (by kernel_rfl) (by kernel_rfl) (fun _ _ _ h => h) (Or.inr ⟨by rfl, rfl⟩) (by assumption) ?_
            try simp only [Act.put, List.setIfInBounds_toArray, List.set_cons_zero, List.set_cons_succ]
            refine wpAnyH_take (i := 13) (oi := { dst := some 230, op := Op.binOp BinOp.add 9 (Operand.const (Value.string { data := #[109, 111, 114, 101, 32] })) (Operand.tmp 229) 9, type := 9, pos := "law.go:117", after := #[{ on := 12, ground := Ground.data }, { on := 3, ground := Ground.guard }], guard := some (3, true) }) (v := undef) rfl (by kernel_rfl) (by kernel_rfl) (by kernel_rfl) (fun _ _ _ h => h) (Or.inr ⟨by rfl, rfl⟩) (by assumption) ?_
            try simp only [Act.put, List.setIfInBounds_toArray, List.set_cons_zero, List.set_cons_succ]
            refine wpAnyH_take (i := 14) (oi := { dst := some 231, op := Op.binOp BinOp.neq 9 (Operand.tmp 227) (Operand.tmp 230) 9, type := 4, pos := "law.go:117", after := #[{ on := 10, ground := Ground.data }, { on := 13, ground := Ground.data }, { on := 3, ground := Ground.guard }], guard := some (3, true) }) (v := undef) rfl (by kernel_rfl) (by kernel_rfl) (by kernel_rfl) (fun _ _ _ h => h) (Or.inr ⟨by rfl, rfl⟩) (by assumption) ?_
            try simp only [Act.put, List.setIfInBounds_toArray, List.set_cons_zero, List.set_cons_succ]
            refine wpAnyH_take (i := 15) (oi := { dst := some 232, op := Op.pick (Operand.tmp 220) (Operand.tmp 231) (Operand.const (Value.bool false)), type := 4, pos := "law.go:117", after := #[{ on := 3, ground := Ground.data }, { on := 14, ground := Ground.data }], guard := none }) (v := .bool false) rfl (by kernel_rfl) (by kernel_rfl) (by kernel_rfl) (fun _ _ _ h => h) (Or.inl ⟨by rfl, ?_⟩) (by assumption) ?_
            · intro w hSw
              (try dsimp only at hSw)
              go_simp
            try simp only [Act.put, List.setIfInBounds_toArray, List.set_cons_zero, List.set_cons_succ]
            refine wpAnyH_done (by kernel_rfl) ?_ _
            have HB9 := Hid.mk (HB.out.trans ((below_drew hB5).mono HB.out.size))
            clear hHeld hb5 hB5 HB HCC HDr
            go_wp2
            go_roundw
            case rel => exact ⟨k + 1, by omega, by go_num, HB9.out⟩
            case measure => simp [intOf]; omega
          · have hkz' : ¬ (k : Int) < (z : Int) := by omega
            have hge : (z : Int) ≤ (k : Int) := by omega
            have tb := HTx.out.2 k (by omega) hlt2
            have HCC : Hid (∀ w', Below wr.heap.size wr w' → w'.cell? ⟨gG, t, none⟩ = some (.slice (some ⟨gb, 0, none⟩) y cb) ∧ w'.cell? ⟨gb, k, none⟩ = some (.string MM)) := fun w' hw => by
              have hh := HB.out.trans (hw.mono HB.out.size)
              exact ⟨(HCk.out w' hh).1, cell_later hh tb⟩
            clear hb tb hkz
            go_wp2_with fail
            refine wp_region_held_drew (S := (fun _ => True)) (by kernel_rfl) (trivial) (fun hHeld => ?_)
            refine wpAnyH_take (i := 0) (oi := { dst := some 184, op := Op.move (Operand.tmp 22), type := 3, pos := "law.go:114", after := #[], guard := none }) (v := .int .i64 (k : Int)) rfl (by kernel_rfl) (by kernel_rfl) (by kernel_rfl) (fun _ _ _ h => h) (Or.inl ⟨by rfl, ?_⟩) (by assumption) ?_
            · intro w hSw
              (try dsimp only at hSw)
              go_simp
            try simp only [Act.put, List.setIfInBounds_toArray, List.set_cons_zero, List.set_cons_succ]
            refine wpAnyH_take (i := 1) (oi := { dst := some 185, op := Op.move (Operand.tmp 21), type := 3, pos := "law.go:114", after := #[], guard := none }) (v := .int .i64 (z : Int)) rfl (by kernel_rfl) (by kernel_rfl) (by kernel_rfl) (fun _ _ _ h => h) (Or.inl ⟨by rfl, ?_⟩) (by assumption) ?_
            · intro w hSw
              (try dsimp only at hSw)
              go_simp
            try simp only [Act.put, List.setIfInBounds_toArray, List.set_cons_zero, List.set_cons_succ]
            refine wpAnyH_take (i := 2) (oi := { dst := some 186, op := Op.binOp BinOp.lss 3 (Operand.tmp 184) (Operand.tmp 185) 3, type := 4, pos := "law.go:114", after := #[{ on := 0, ground := Ground.data }, { on := 1, ground := Ground.data }], guard := none }) (v := .bool false) rfl (by kernel_rfl) (by kernel_rfl) (by kernel_rfl) (fun _ _ _ h => h) (Or.inl ⟨by rfl, ?_⟩) (by assumption) ?_
            · intro w hSw
              (try dsimp only at hSw)
              go_simp
              omega
            try simp only [Act.put, List.setIfInBounds_toArray, List.set_cons_zero, List.set_cons_succ]
            refine wpAnyH_take (i := 3) (oi := { dst := some 187, op := Op.move (Operand.tmp 186), type := 4, pos := "law.go:114", after := #[{ on := 2, ground := Ground.data }], guard := none }) (v := .bool false) rfl (by kernel_rfl) (by kernel_rfl) (by kernel_rfl) (fun _ _ _ h => h) (Or.inl ⟨by rfl, ?_⟩) (by assumption) ?_
            · intro w hSw
              (try dsimp only at hSw)
              go_simp
            try simp only [Act.put, List.setIfInBounds_toArray, List.set_cons_zero, List.set_cons_succ]
            refine wpAnyH_take (i := 4) (oi := { dst := some 188, op := Op.move (Operand.tmp 5), type := 35, pos := "law.go:114", after := #[{ on := 3, ground := Ground.guard }], guard := some (3, true) }) (v := undef) rfl (by kernel_rfl) (by kernel_rfl) (by kernel_rfl) (fun _ _ _ h => h) (Or.inr ⟨by rfl, rfl⟩) (by assumption) ?_
            try simp only [Act.put, List.setIfInBounds_toArray, List.set_cons_zero, List.set_cons_succ]
            refine wpAnyH_take (i := 5) (oi := { dst := some 189, op := Op.move (Operand.tmp 20), type := 3, pos := "law.go:114", after := #[{ on := 3, ground := Ground.guard }], guard := some (3, true) }) (v := undef) rfl (by kernel_rfl) (by kernel_rfl) (by kernel_rfl) (fun _ _ _ h => h) (Or.inr ⟨by rfl, rfl⟩) (by assumption) ?_
            try simp only [Act.put, List.setIfInBounds_toArray, List.set_cons_zero, List.set_cons_succ]
            refine wpAnyH_take (i := 6) (oi := { dst := some 190, op := Op.indexAddr 35 (Operand.tmp 188) (Operand.tmp 189), type := 0, pos := "law.go:114", after := #[{ on := 4, ground := Ground.data }, { on := 5, ground := Ground.data }, { on := 3, ground := Ground.guard }], guard := some (3, true) }) (v := undef) rfl (by kernel_rfl) (by kernel_rfl) (by kernel_rfl) (fun _ _ _ h => h) (Or.inr ⟨by rfl, rfl⟩) (by assumption) ?_
            try simp only [Act.put, List.setIfInBounds_toArray, List.set_cons_zero, List.set_cons_succ]
            refine wpAnyH_take (i := 7) (oi := { dst := some 191, op := Op.load 25 (Operand.tmp 190), type := 25, pos := "law.go:114", after := #[{ on := 6, ground := Ground.data }, { on := 3, ground := Ground.guard }], guard := some (3, true) }) (v := undef) rfl (by kernel_rfl) (by kernel_rfl) (by kernel_rfl) (fun _ _ _ h => h) (Or.inr ⟨by rfl, rfl⟩) (by assumption) ?_
            try simp only [Act.put, List.setIfInBounds_toArray, List.set_cons_zero, List.set_cons_succ]
            refine wpAnyH_take (i := 8) (oi := { dst := some 192, op := Op.move (Operand.tmp 22), type := 3, pos := "law.go:114", after := #[{ on := 3, ground := Ground.guard }], guard := some (3, true) }) (v := undef) rfl (by kernel_rfl) (by kernel_rfl) (by kernel_rfl) (fun _ _ _ h => h) (Or.inr ⟨by rfl, rfl⟩) (by assumption) ?_
            try simp only [Act.put, List.setIfInBounds_toArray, List.set_cons_zero, List.set_cons_succ]
            refine wpAnyH_take (i := 9) (oi := { dst := some 193, op := Op.indexAddr 25 (Operand.tmp 191) (Operand.tmp 192), type := 0, pos := "law.go:114", after := #[{ on := 7, ground := Ground.data }, { on := 8, ground := Ground.data }, { on := 3, ground := Ground.guard }], guard := some (3, true) }) (v := undef) rfl (by kernel_rfl) (by kernel_rfl) (by kernel_rfl) (fun _ _ _ h => h) (Or.inr ⟨by rfl, rfl⟩) (by assumption) ?_
            try simp only [Act.put, List.setIfInBounds_toArray, List.set_cons_zero, List.set_cons_succ]
            refine wpAnyH_take (i := 10) (oi := { dst := some 194, op := Op.load 9 (Operand.tmp 193), type := 9, pos := "law.go:114", after := #[{ on := 9, ground := Ground.data }, { on := 3, ground := Ground.guard }], guard := some (3, true) }) (v := undef) rfl (by kernel_rfl) (by kernel_rfl) (by kernel_rfl) (fun _ _ _ h => h) (Or.inr ⟨by rfl, rfl⟩) (by assumption) ?_
            try simp only [Act.put, List.setIfInBounds_toArray, List.set_cons_zero, List.set_cons_succ]
            refine wpAnyH_take (i := 11) (oi := { dst := some 195, op := Op.move (Operand.tmp 20), type := 3, pos := "law.go:114", after := #[{ on := 3, ground := Ground.guard }], guard := some (3, true) }) (v := undef) rfl (by kernel_rfl) (by kernel_rfl) (by kernel_rfl) (fun _ _ _ h => h) (Or.inr ⟨by rfl, rfl⟩) (by assumption) ?_
            try simp only [Act.put, List.setIfInBounds_toArray, List.set_cons_zero, List.set_cons_succ]
            refine wpAnyH_take (i := 12) (oi := { dst := some 196, op := Op.call { callee := Callee.value (Operand.func 12), args := #[Operand.tmp 195], argTypes := #[3] }, type := 9, pos := "law.go:114", after := #[{ on := 11, ground := Ground.data }, { on := 3, ground := Ground.chain }, { on := 3, ground := Ground.guard }], guard := some (3, true) }) (v := undef) rfl (by kernel_rfl) (by kernel_rfl) (by kernel_rfl) (fun _ _ _ h => h) (Or.inr ⟨by rfl, rfl⟩) (by assumption) ?_
            try simp only [Act.put, List.setIfInBounds_toArray, List.set_cons_zero, List.set_cons_succ]
            refine wpAnyH_take (i := 13) (oi := { dst := some 197, op := Op.binOp BinOp.add 9 (Operand.const (Value.string { data := #[107, 101, 112, 116, 32] })) (Operand.tmp 196) 9, type := 9, pos := "law.go:114", after := #[{ on := 12, ground := Ground.data }, { on := 3, ground := Ground.guard }], guard := some (3, true) }) (v := undef) rfl (by kernel_rfl) (by kernel_rfl) (by kernel_rfl) (fun _ _ _ h => h) (Or.inr ⟨by rfl, rfl⟩) (by assumption) ?_
            try simp only [Act.put, List.setIfInBounds_toArray, List.set_cons_zero, List.set_cons_succ]
            refine wpAnyH_take (i := 14) (oi := { dst := some 198, op := Op.binOp BinOp.neq 9 (Operand.tmp 194) (Operand.tmp 197) 9, type := 4, pos := "law.go:114", after := #[{ on := 10, ground := Ground.data }, { on := 13, ground := Ground.data }, { on := 3, ground := Ground.guard }], guard := some (3, true) }) (v := undef) rfl (by kernel_rfl) (by kernel_rfl) (by kernel_rfl) (fun _ _ _ h => h) (Or.inr ⟨by rfl, rfl⟩) (by assumption) ?_
            try simp only [Act.put, List.setIfInBounds_toArray, List.set_cons_zero, List.set_cons_succ]
            refine wpAnyH_take (i := 15) (oi := { dst := some 199, op := Op.move (Operand.tmp 198), type := 4, pos := "law.go:114", after := #[{ on := 14, ground := Ground.data }, { on := 12, ground := Ground.chain }, { on := 3, ground := Ground.guard }], guard := some (3, true) }) (v := undef) rfl (by kernel_rfl) (by kernel_rfl) (by kernel_rfl) (fun _ _ _ h => h) (Or.inr ⟨by rfl, rfl⟩) (by assumption) ?_
            try simp only [Act.put, List.setIfInBounds_toArray, List.set_cons_zero, List.set_cons_succ]
            refine wpAnyH_take (i := 16) (oi := { dst := some 200, op := Op.move (Operand.tmp 6), type := 35, pos := "law.go:114", after := #[{ on := 15, ground := Ground.guard }], guard := some (15, false) }) (v := undef) rfl (by kernel_rfl) (by kernel_rfl) (by kernel_rfl) (fun _ _ _ h => h) (Or.inr ⟨by rfl, rfl⟩) (by assumption) ?_
            try simp only [Act.put, List.setIfInBounds_toArray, List.set_cons_zero, List.set_cons_succ]
            refine wpAnyH_take (i := 17) (oi := { dst := some 201, op := Op.move (Operand.tmp 20), type := 3, pos := "law.go:114", after := #[{ on := 15, ground := Ground.guard }], guard := some (15, false) }) (v := undef) rfl (by kernel_rfl) (by kernel_rfl) (by kernel_rfl) (fun _ _ _ h => h) (Or.inr ⟨by rfl, rfl⟩) (by assumption) ?_
            try simp only [Act.put, List.setIfInBounds_toArray, List.set_cons_zero, List.set_cons_succ]
            refine wpAnyH_take (i := 18) (oi := { dst := some 202, op := Op.indexAddr 35 (Operand.tmp 200) (Operand.tmp 201), type := 0, pos := "law.go:114", after := #[{ on := 16, ground := Ground.data }, { on := 17, ground := Ground.data }, { on := 15, ground := Ground.guard }], guard := some (15, false) }) (v := undef) rfl (by kernel_rfl) (by kernel_rfl) (by kernel_rfl) (fun _ _ _ h => h) (Or.inr ⟨by rfl, rfl⟩) (by assumption) ?_
            try simp only [Act.put, List.setIfInBounds_toArray, List.set_cons_zero, List.set_cons_succ]
            refine wpAnyH_take (i := 19) (oi := { dst := some 203, op := Op.load 25 (Operand.tmp 202), type := 25, pos := "law.go:114", after := #[{ on := 18, ground := Ground.data }, { on := 15, ground := Ground.guard }], guard := some (15, false) }) (v := undef) rfl (by kernel_rfl) (by kernel_rfl) (by kernel_rfl) (fun _ _ _ h => h) (Or.inr ⟨by rfl, rfl⟩) (by assumption) ?_
            try simp only [Act.put, List.setIfInBounds_toArray, List.set_cons_zero, List.set_cons_succ]
            refine wpAnyH_take (i := 20) (oi := { dst := some 204, op := Op.move (Operand.tmp 22), type := 3, pos := "law.go:114", after := #[{ on := 15, ground := Ground.guard }], guard := some (15, false) }) (v := undef) rfl (by kernel_rfl) (by kernel_rfl) (by kernel_rfl) (fun _ _ _ h => h) (Or.inr ⟨by rfl, rfl⟩) (by assumption) ?_
            try simp only [Act.put, List.setIfInBounds_toArray, List.set_cons_zero, List.set_cons_succ]
            refine wpAnyH_take (i := 21) (oi := { dst := some 205, op := Op.indexAddr 25 (Operand.tmp 203) (Operand.tmp 204), type := 0, pos := "law.go:114", after := #[{ on := 19, ground := Ground.data }, { on := 20, ground := Ground.data }, { on := 15, ground := Ground.guard }], guard := some (15, false) }) (v := undef) rfl (by kernel_rfl) (by kernel_rfl) (by kernel_rfl) (fun _ _ _ h => h) (Or.inr ⟨by rfl, rfl⟩) (by assumption) ?_
            try simp only [Act.put, List.setIfInBounds_toArray, List.set_cons_zero, List.set_cons_succ]
            refine wpAnyH_take (i := 22) (oi := { dst := some 206, op := Op.load 9 (Operand.tmp 205), type := 9, pos := "law.go:114", after := #[{ on := 21, ground := Ground.data }, { on := 15, ground := Ground.guard }], guard := some (15, false) }) (v := undef) rfl (by kernel_rfl) (by kernel_rfl) (by kernel_rfl) (fun _ _ _ h => h) (Or.inr ⟨by rfl, rfl⟩) (by assumption) ?_
            try simp only [Act.put, List.setIfInBounds_toArray, List.set_cons_zero, List.set_cons_succ]
            refine wpAnyH_take (i := 23) (oi := { dst := some 207, op := Op.move (Operand.tmp 5), type := 35, pos := "law.go:114", after := #[{ on := 15, ground := Ground.guard }], guard := some (15, false) }) (v := undef) rfl (by kernel_rfl) (by kernel_rfl) (by kernel_rfl) (fun _ _ _ h => h) (Or.inr ⟨by rfl, rfl⟩) (by assumption) ?_
            try simp only [Act.put, List.setIfInBounds_toArray, List.set_cons_zero, List.set_cons_succ]
            refine wpAnyH_take (i := 24) (oi := { dst := some 208, op := Op.move (Operand.tmp 20), type := 3, pos := "law.go:114", after := #[{ on := 15, ground := Ground.guard }], guard := some (15, false) }) (v := undef) rfl (by kernel_rfl) (by kernel_rfl) (by kernel_rfl) (fun _ _ _ h => h) (Or.inr ⟨by rfl, rfl⟩) (by assumption) ?_
            try simp only [Act.put, List.setIfInBounds_toArray, List.set_cons_zero, List.set_cons_succ]
            refine wpAnyH_take (i := 25) (oi := { dst := some 209, op := Op.indexAddr 35 (Operand.tmp 207) (Operand.tmp 208), type := 0, pos := "law.go:114", after := #[{ on := 23, ground := Ground.data }, { on := 24, ground := Ground.data }, { on := 15, ground := Ground.guard }], guard := some (15, false) }) (v := undef) rfl (by kernel_rfl) (by kernel_rfl) (by kernel_rfl) (fun _ _ _ h => h) (Or.inr ⟨by rfl, rfl⟩) (by assumption) ?_
            try simp only [Act.put, List.setIfInBounds_toArray, List.set_cons_zero, List.set_cons_succ]
            refine wpAnyH_take (i := 26) (oi := { dst := some 210, op := Op.load 25 (Operand.tmp 209), type := 25, pos := "law.go:114", after := #[{ on := 25, ground := Ground.data }, { on := 15, ground := Ground.guard }], guard := some (15, false) }) (v := undef) rfl (by kernel_rfl) (by kernel_rfl) (by kernel_rfl) (fun _ _ _ h => h) (Or.inr ⟨by rfl, rfl⟩) (by assumption) ?_
            try simp only [Act.put, List.setIfInBounds_toArray, List.set_cons_zero, List.set_cons_succ]
            refine wpAnyH_take (i := 27) (oi := { dst := some 211, op := Op.move (Operand.tmp 22), type := 3, pos := "law.go:114", after := #[{ on := 15, ground := Ground.guard }], guard := some (15, false) }) (v := undef) rfl (by kernel_rfl) (by kernel_rfl) (by kernel_rfl) (fun _ _ _ h => h) (Or.inr ⟨by rfl, rfl⟩) (by assumption) ?_
            try simp only [Act.put, List.setIfInBounds_toArray, List.set_cons_zero, List.set_cons_succ]
            refine wpAnyH_take (i := 28) (oi := { dst := some 212, op := Op.indexAddr 25 (Operand.tmp 210) (Operand.tmp 211), type := 0, pos := "law.go:114", after := #[{ on := 26, ground := Ground.data }, { on := 27, ground := Ground.data }, { on := 15, ground := Ground.guard }], guard := some (15, false) }) (v := undef) rfl (by kernel_rfl) (by kernel_rfl) (by kernel_rfl) (fun _ _ _ h => h) (Or.inr ⟨by rfl, rfl⟩) (by assumption) ?_
            try simp only [Act.put, List.setIfInBounds_toArray, List.set_cons_zero, List.set_cons_succ]
            refine wpAnyH_take (i := 29) (oi := { dst := some 213, op := Op.load 9 (Operand.tmp 212), type := 9, pos := "law.go:114", after := #[{ on := 28, ground := Ground.data }, { on := 15, ground := Ground.guard }], guard := some (15, false) }) (v := undef) rfl (by kernel_rfl) (by kernel_rfl) (by kernel_rfl) (fun _ _ _ h => h) (Or.inr ⟨by rfl, rfl⟩) (by assumption) ?_
            try simp only [Act.put, List.setIfInBounds_toArray, List.set_cons_zero, List.set_cons_succ]
            refine wpAnyH_take (i := 30) (oi := { dst := some 214, op := Op.binOp BinOp.neq 9 (Operand.tmp 206) (Operand.tmp 213) 9, type := 4, pos := "law.go:114", after := #[{ on := 22, ground := Ground.data }, { on := 29, ground := Ground.data }, { on := 15, ground := Ground.guard }], guard := some (15, false) }) (v := undef) rfl (by kernel_rfl) (by kernel_rfl) (by kernel_rfl) (fun _ _ _ h => h) (Or.inr ⟨by rfl, rfl⟩) (by assumption) ?_
            try simp only [Act.put, List.setIfInBounds_toArray, List.set_cons_zero, List.set_cons_succ]
            refine wpAnyH_take (i := 31) (oi := { dst := some 215, op := Op.pick (Operand.tmp 199) (Operand.const (Value.bool true)) (Operand.tmp 214), type := 4, pos := "law.go:114", after := #[{ on := 15, ground := Ground.data }, { on := 30, ground := Ground.data }, { on := 3, ground := Ground.guard }], guard := some (3, true) }) (v := undef) rfl (by kernel_rfl) (by kernel_rfl) (by kernel_rfl) (fun _ _ _ h => h) (Or.inr ⟨by rfl, rfl⟩) (by assumption) ?_
            try simp only [Act.put, List.setIfInBounds_toArray, List.set_cons_zero, List.set_cons_succ]
            refine wpAnyH_take (i := 32) (oi := { dst := some 216, op := Op.pick (Operand.tmp 187) (Operand.tmp 215) (Operand.const (Value.bool false)), type := 4, pos := "law.go:114", after := #[{ on := 3, ground := Ground.data }, { on := 31, ground := Ground.data }], guard := none }) (v := .bool false) rfl (by kernel_rfl) (by kernel_rfl) (by kernel_rfl) (fun _ _ _ h => h) (Or.inl ⟨by rfl, ?_⟩) (by assumption) ?_
            · intro w hSw
              (try dsimp only at hSw)
              go_simp
            try simp only [Act.put, List.setIfInBounds_toArray, List.set_cons_zero, List.set_cons_succ]
            refine wpAnyH_done (by kernel_rfl) ?_ _
            clear hHeld c1 c2
            go_wp2_with fail
            refine wp_region_held_drew (S := (fun w' => w'.cell? ⟨gG, t, none⟩ = some (.slice (some ⟨gb, 0, none⟩) y cb) ∧ w'.cell? ⟨gb, k, none⟩ = some (.string MM))) (by kernel_rfl) (HCC.out _ (below_drew HDr.out)) (fun hHeld => ?_)
            refine wpAnyH_take (i := 0) (oi := { dst := some 217, op := Op.move (Operand.tmp 22), type := 3, pos := "law.go:117", after := #[], guard := none }) (v := .int .i64 (k : Int)) rfl (by kernel_rfl) (by kernel_rfl) (by kernel_rfl) (fun _ _ _ h => h) (Or.inl ⟨by rfl, ?_⟩) (by assumption) ?_
            · intro w hSw
              (try dsimp only at hSw)
              go_simp
            try simp only [Act.put, List.setIfInBounds_toArray, List.set_cons_zero, List.set_cons_succ]
            refine wpAnyH_take (i := 1) (oi := { dst := some 218, op := Op.move (Operand.tmp 21), type := 3, pos := "law.go:117", after := #[], guard := none }) (v := .int .i64 (z : Int)) rfl (by kernel_rfl) (by kernel_rfl) (by kernel_rfl) (fun _ _ _ h => h) (Or.inl ⟨by rfl, ?_⟩) (by assumption) ?_
            · intro w hSw
              (try dsimp only at hSw)
              go_simp
            try simp only [Act.put, List.setIfInBounds_toArray, List.set_cons_zero, List.set_cons_succ]
            refine wpAnyH_take (i := 2) (oi := { dst := some 219, op := Op.binOp BinOp.geq 3 (Operand.tmp 217) (Operand.tmp 218) 3, type := 4, pos := "law.go:117", after := #[{ on := 0, ground := Ground.data }, { on := 1, ground := Ground.data }], guard := none }) (v := .bool true) rfl (by kernel_rfl) (by kernel_rfl) (by kernel_rfl) (fun _ _ _ h => h) (Or.inl ⟨by rfl, ?_⟩) (by assumption) ?_
            · intro w hSw
              (try dsimp only at hSw)
              go_simp
            try simp only [Act.put, List.setIfInBounds_toArray, List.set_cons_zero, List.set_cons_succ]
            refine wpAnyH_take (i := 3) (oi := { dst := some 220, op := Op.move (Operand.tmp 219), type := 4, pos := "law.go:117", after := #[{ on := 2, ground := Ground.data }], guard := none }) (v := .bool true) rfl (by kernel_rfl) (by kernel_rfl) (by kernel_rfl) (fun _ _ _ h => h) (Or.inl ⟨by rfl, ?_⟩) (by assumption) ?_
            · intro w hSw
              (try dsimp only at hSw)
              go_simp
            try simp only [Act.put, List.setIfInBounds_toArray, List.set_cons_zero, List.set_cons_succ]
            refine wpAnyH_take (i := 4) (oi := { dst := some 221, op := Op.move (Operand.tmp 6), type := 35, pos := "law.go:117", after := #[{ on := 3, ground := Ground.guard }], guard := some (3, true) }) (v := .slice (some ⟨gG, 0, none⟩) N xc) rfl (by kernel_rfl) (by kernel_rfl) (by kernel_rfl) (fun _ _ _ h => h) (Or.inl ⟨by rfl, ?_⟩) (by assumption) ?_
            · intro w hSw
              (try dsimp only at hSw)
              go_simp
            try simp only [Act.put, List.setIfInBounds_toArray, List.set_cons_zero, List.set_cons_succ]
            refine wpAnyH_take (i := 5) (oi := { dst := some 222, op := Op.move (Operand.tmp 20), type := 3, pos := "law.go:117", after := #[{ on := 3, ground := Ground.guard }], guard := some (3, true) }) (v := .int .i64 (t : Int)) rfl (by kernel_rfl) (by kernel_rfl) (by kernel_rfl) (fun _ _ _ h => h) (Or.inl ⟨by rfl, ?_⟩) (by assumption) ?_
            · intro w hSw
              (try dsimp only at hSw)
              go_simp
            try simp only [Act.put, List.setIfInBounds_toArray, List.set_cons_zero, List.set_cons_succ]
            refine wpAnyH_take (i := 6) (oi := { dst := some 223, op := Op.indexAddr 35 (Operand.tmp 221) (Operand.tmp 222), type := 0, pos := "law.go:117", after := #[{ on := 4, ground := Ground.data }, { on := 5, ground := Ground.data }, { on := 3, ground := Ground.guard }], guard := some (3, true) }) (v := .pointer (some ⟨gG, t, none⟩)) rfl (by kernel_rfl) (by kernel_rfl) (by kernel_rfl) (fun _ _ _ h => h) (Or.inl ⟨by rfl, ?_⟩) (by assumption) ?_
            · intro w hSw
              (try dsimp only at hSw)
              go_simp
            try simp only [Act.put, List.setIfInBounds_toArray, List.set_cons_zero, List.set_cons_succ]
            refine wpAnyH_take (i := 7) (oi := { dst := some 224, op := Op.load 25 (Operand.tmp 223), type := 25, pos := "law.go:117", after := #[{ on := 6, ground := Ground.data }, { on := 3, ground := Ground.guard }], guard := some (3, true) }) (v := .slice (some ⟨gb, 0, none⟩) y cb) rfl (by kernel_rfl) (by kernel_rfl) (by kernel_rfl) (fun _ _ _ h => h) (Or.inl ⟨by rfl, ?_⟩) (by assumption) ?_
            · intro w hSw
              (try dsimp only at hSw)
              go_simp
            try simp only [Act.put, List.setIfInBounds_toArray, List.set_cons_zero, List.set_cons_succ]
            refine wpAnyH_take (i := 8) (oi := { dst := some 225, op := Op.move (Operand.tmp 22), type := 3, pos := "law.go:117", after := #[{ on := 3, ground := Ground.guard }], guard := some (3, true) }) (v := .int .i64 (k : Int)) rfl (by kernel_rfl) (by kernel_rfl) (by kernel_rfl) (fun _ _ _ h => h) (Or.inl ⟨by rfl, ?_⟩) (by assumption) ?_
            · intro w hSw
              (try dsimp only at hSw)
              go_simp
            try simp only [Act.put, List.setIfInBounds_toArray, List.set_cons_zero, List.set_cons_succ]
            refine wpAnyH_take (i := 9) (oi := { dst := some 226, op := Op.indexAddr 25 (Operand.tmp 224) (Operand.tmp 225), type := 0, pos := "law.go:117", after := #[{ on := 7, ground := Ground.data }, { on := 8, ground := Ground.data }, { on := 3, ground := Ground.guard }], guard := some (3, true) }) (v := .pointer (some ⟨gb, k, none⟩)) rfl (by kernel_rfl) (by kernel_rfl) (by kernel_rfl) (fun _ _ _ h => h) (Or.inl ⟨by rfl, ?_⟩) (by assumption) ?_
            · intro w hSw
              (try dsimp only at hSw)
              go_simp
            try simp only [Act.put, List.setIfInBounds_toArray, List.set_cons_zero, List.set_cons_succ]
            refine wpAnyH_take (i := 10) (oi := { dst := some 227, op := Op.load 9 (Operand.tmp 226), type := 9, pos := "law.go:117", after := #[{ on := 9, ground := Ground.data }, { on := 3, ground := Ground.guard }], guard := some (3, true) }) (v := .string MM) rfl (by kernel_rfl) (by kernel_rfl) (by kernel_rfl) (fun _ _ _ h => h) (Or.inl ⟨by rfl, ?_⟩) (by assumption) ?_
            · intro w hSw
              (try dsimp only at hSw)
              go_simp
            try simp only [Act.put, List.setIfInBounds_toArray, List.set_cons_zero, List.set_cons_succ]
            refine wpAnyH_take (i := 11) (oi := { dst := some 228, op := Op.move (Operand.tmp 20), type := 3, pos := "law.go:117", after := #[{ on := 3, ground := Ground.guard }], guard := some (3, true) }) (v := .int .i64 (t : Int)) rfl (by kernel_rfl) (by kernel_rfl) (by kernel_rfl) (fun _ _ _ h => h) (Or.inl ⟨by rfl, ?_⟩) (by assumption) ?_
            · intro w hSw
              (try dsimp only at hSw)
              go_simp
            try simp only [Act.put, List.setIfInBounds_toArray, List.set_cons_zero, List.set_cons_succ]
            refine wpAnyH_ready (rs := [12]) (by kernel_rfl) (by simp) ?_
            refine AllReadyH.cons (o := { dst := some 229, op := Op.call { callee := Callee.value (Operand.func 12), args := #[Operand.tmp 228], argTypes := #[3] }, type := 9, pos := "law.go:117", after := #[{ on := 11, ground := Ground.data }, { on := 3, ground := Ground.chain }, { on := 3, ground := Ground.guard }], guard := some (3, true) }) rfl (fun K hK => ?_) AllReadyH.nil
            go_simp
            refine (hma wr.drew.drew).mono ?_
            rintro e w5 ⟨rfl, hb5⟩
            have hB5 : Below wr.heap.size wr w5 := (below_drew HDr.out).trans (hb5.mono (below_drew HDr.out).size)
            refine hK.out _ _ ?_ (fun hHeld => ?_)
            · exact HCC.out _ hB5
            clear hK K
            try simp only [Act.put, List.setIfInBounds_toArray, List.set_cons_zero, List.set_cons_succ]
            refine wpAnyH_take (i := 13) (oi := { dst := some 230, op := Op.binOp BinOp.add 9 (Operand.const (Value.string { data := #[109, 111, 114, 101, 32] })) (Operand.tmp 229) 9, type := 9, pos := "law.go:117", after := #[{ on := 12, ground := Ground.data }, { on := 3, ground := Ground.guard }], guard := some (3, true) }) (v := .string (⟨#[109, 111, 114, 101, 32]⟩ ++ M)) rfl (by kernel_rfl) (by kernel_rfl) (by kernel_rfl) (fun _ _ _ h => h) (Or.inl ⟨by rfl, ?_⟩) (by assumption) ?_
            · intro w hSw
              (try dsimp only at hSw)
              go_simp
            try simp only [Act.put, List.setIfInBounds_toArray, List.set_cons_zero, List.set_cons_succ]
            rw [HC.out.2]
            refine wpAnyH_take (i := 14) (oi := { dst := some 231, op := Op.binOp BinOp.neq 9 (Operand.tmp 227) (Operand.tmp 230) 9, type := 4, pos := "law.go:117", after := #[{ on := 10, ground := Ground.data }, { on := 13, ground := Ground.data }, { on := 3, ground := Ground.guard }], guard := some (3, true) }) (v := .bool false) rfl (by kernel_rfl) (by kernel_rfl) (by kernel_rfl) (fun _ _ _ h => h) (Or.inl ⟨by rfl, ?_⟩) (by assumption) ?_
            · intro w hSw
              (try dsimp only at hSw)
              go_simp
            try simp only [Act.put, List.setIfInBounds_toArray, List.set_cons_zero, List.set_cons_succ]
            refine wpAnyH_take (i := 15) (oi := { dst := some 232, op := Op.pick (Operand.tmp 220) (Operand.tmp 231) (Operand.const (Value.bool false)), type := 4, pos := "law.go:117", after := #[{ on := 3, ground := Ground.data }, { on := 14, ground := Ground.data }], guard := none }) (v := .bool false) rfl (by kernel_rfl) (by kernel_rfl) (by kernel_rfl) (fun _ _ _ h => h) (Or.inl ⟨by rfl, ?_⟩) (by assumption) ?_
            · intro w hSw
              (try dsimp only at hSw)
              go_simp
            try simp only [Act.put, List.setIfInBounds_toArray, List.set_cons_zero, List.set_cons_succ]
            refine wpAnyH_done (by kernel_rfl) ?_ _
            have HB9 := Hid.mk (HB.out.trans ((hB5).mono HB.out.size))
            clear hHeld hb5 hB5 HB HCC HDr
            go_wp2
            go_roundw
            case rel => exact ⟨k + 1, by omega, by go_num, HB9.out⟩
            case measure => simp [intOf]; omega
        · obtain rfl : k = y := by omega
          have hlt2' : ¬ (k : Int) < (k : Int) := by omega
          clear hb
          go_wp2
          go_roundw
          case rel => exact ⟨t + 1, by omega, by go_num, HB.out⟩
          case measure => simp [intOf]; omega
    · obtain rfl : t = N := by omega
      have hlt' : ¬ (t : Int) < (t : Int) := by omega
      have HB := Hid.mk hb
      clear hb
      go_wp2
      go_ret
      exact ⟨rfl, (belowK H5.out.2.2).trans (HB.out.mono (belowK H5.out.2.2).size)⟩
end Go.Proofs.YtalokopnagpgcaaDoor
