import Derived.Test.YtokcgifpljeoiaaGreatV03
import Derived.Test.YtokcgifpljeoiaaGreatV10
import Derived.Test.YtokcgifpljeoiaaGreatV12
import Derived.Deep.RegionWith
import Derived.Deep.RegionLaw
import Derived.Laws.BytesArg
section
namespace Go.Proofs.YtokcgifpljeoiaaGreat
open Go.RowKit Go.Maps

/-- The superblock of a disk of s sectors. -/
abbrev supOf (s l n : Nat) : List Int := sealed (supBody s l n)
/-- Format's writes, step by step: each is done only if those before it went well. -/
def fmt1 (S : DS) (s : Nat) : Int × DS := swipe S.take s 0 1
def fmt2 (S : DS) (s : Nat) : Int × DS := swipe (fmt1 S s).2 s 1 (s - 1)
def fmt3 (S : DS) (s l : Nat) : Int × DS := lformat (fmt2 S s).2 s 1 (l : Int)
def fmt4 (S : DS) (s l n : Nat) : Int × DS := (fmt3 S s l).2.wr s 0 512 (supOf s l n)
def sformed (S : DS) (s l n : Nat) : Int × DS :=
  if (fmt1 S s).1 ≠ 0 then fmt1 S s else if (fmt2 S s).1 ≠ 0 then fmt2 S s else if (fmt3 S s l).1 ≠ 0 then fmt3 S s l else if (fmt4 S s l n).1 ≠ 0 then fmt4 S s l n else (fmt4 S s l n).2.fl s
def geoDec (a b c : Int) : Decidable (Geo a b c) := by unfold Geo; exact inferInstance
/-- What Format answers, and the disk it leaves. -/
def sformat (S : DS) (s : Nat) (a b c : Int) : Int × DS :=
  if S.fuse = 0 then (3, S) else haveI := geoDec a b c; if Geo a b c ∧ a = (s : Int) then sformed S s b.toNat c.toNat else (22, S)

section
variable {w : World} {F : Nat → Prop} {p s cR : Nat} {S : DS}
theorem geo_nat {a b c : Int} (h : Geo a b c) : ∃ x y z : Nat, a = (x : Int) ∧ b = (y : Int) ∧ c = (z : Int) := by
  obtain ⟨⟨l1, l2⟩, ⟨n1, n2⟩, h3, s1, s2⟩ := h
  exact ⟨a.toNat, b.toNat, c.toNat, by omega, by omega, by omega⟩
theorem swipe_byt {S : DS} (h : S.Byt) (s a n : Nat) : (swipe S s a n).2.Byt := by
  have h1 := sbring_byt h s a (ms := zrow n) (fun x hx => by
    unfold zrow at hx
    obtain ⟨i, _, rfl⟩ := List.mem_map.1 hx
    intro v hv
    rw [zs, List.mem_replicate] at hv
    omega)
  unfold swipe
  split
  · exact h1
  · exact h1.fl s

theorem step_fr {w0 w1 w2 : World} {c : Nat} {S' : DS} (hl : ∀ k, F k → k < w0.heap.size) (hk0 : Keeps F w0 w1) (hd : B.DiskR w2 (more (more F w0 w1) w1 w2) p s S' c) (hk : Keeps (more F w0 w1) w1 w2) : B.DiskR w2 (more F w0 w2) p s S' c ∧ Keeps F w0 w2 :=
  ⟨hd.mono (more_more hk0.size hk.size) (more_lt hl (Nat.le_trans hk0.size hk.size)), hk0.trans hk (fun _k h => h.elim .inl (fun h => .inr h.1))⟩
theorem step_fl {w0 w1 w2 : World} {c : Nat} {S' : DS} (hl : ∀ k, F k → k < w0.heap.size) (hk0 : Keeps F w0 w1) (hd : B.DiskR w2 (more F w0 w1) p s S' c) (hk : Keeps (more F w0 w1) w1 w2) : B.DiskR w2 (more F w0 w2) p s S' c ∧ Keeps F w0 w2 := by
  have h1 := hk.size
  exact ⟨hd.mono (fun k h => h.elim .inl (fun h => .inr ⟨h.1, by omega⟩)) (more_lt hl (Nat.le_trans hk0.size hk.size)), hk0.trans hk (fun k h => h.elim .inl (fun h => .inr h.1))⟩
theorem exit_fr {w0 w1 : World} {c c' : Nat} {S' : DS} (hl : ∀ k, F k → k < w.heap.size) (hk0 : Keeps F w w0) (h : B.DiskR w1 (more F w0 w1) p s S' c ∧ Keeps F w0 w1) (hc : c ≤ c') : B.DiskR w1 (more F w w1) p s S' c' ∧ Keeps F w w1 := by
  have h1 := hk0.size
  have h2 := h.2.size
  exact ⟨(h.1.mono (fun k h => h.elim .inl (fun h => .inr ⟨by omega, h.2⟩)) (more_lt hl (by omega))).le hc, hk0.trans h.2 (fun k h => .inl h)⟩
theorem lformat_puts (S : DS) (s : Nat) (f n : Int) (hn : n ≤ 256) : (lformat S s f n).2.puts.length ≤ S.puts.length + 400 := by
  have h1 := awipe_puts S.take s f.toNat n.toNat
  have h2 : S.take.puts.length = S.puts.length := rfl
  have h3 := anew_putsS (awipe S.take s f.toNat n.toNat).2 s f.toNat 4294967296
  unfold lformat
  split
  · show S.puts.length ≤ _; omega
  · split
    · omega
    · omega
set_option maxRecDepth 20000 in
set_option maxHeartbeats 8000000 in
theorem sformat_any (h : B.DiskR w F p s S cR) (hby : S.Byt) (a b c : Int) (hbig : S.puts.length + 6000 ≤ 4000000000000) :
    Calls Tryz.prog 38 #[.pointer (some ⟨p, 0, none⟩), .agg #[.int .i64 a, .int .i64 b, .int .i64 c]] w fun e w' => e = .returned (.int .i64 (sformat S s a b c).1) ∧ B.DiskR w' (more F w w') p s (sformat S s a b c).2 (cR + 2) ∧ Keeps F w w' := by
  obtain ⟨wB, hwB⟩ : ∃ wB, wB = w.alloc (.cells #[.int .i64 a, .int .i64 b, .int .i64 c] 67) := ⟨_, rfl⟩
  have hbB : Below w.heap.size w wB := by rw [hwB]; exact below_box _ _
  have hzB : wB.heap.size = w.heap.size + 1 := by rw [hwB, World.size_alloc]
  have hbox : wB.heap[w.heap.size]? = some (.cells #[.int .i64 a, .int .i64 b, .int .i64 c] 67 (0, 0)) := by rw [hwB]; exact heap_alloc_new _ _
  have hd1 := h.later hbB
  have h1 := B.dburnt hd1
  have HLt := h.lt
  obtain ⟨R, hR⟩ : ∃ R, R = sformat S s a b c := ⟨_, rfl⟩
  rw [← hR]
  unfold sformat at hR
  subst hwB
  go_enter Tryz.func38, Tryz.ntmps38
  go_wp2_with fail
  refine h1.mono ?_
  rintro e w1 ⟨rfl, hw1⟩
  subst hw1
  by_cases k1 : S.fuse = 0
  · rw [if_pos k1] at hR
    have d1 : (S.fuse == 0) = true := by rw [beq_iff_eq]; exact k1
    rw [d1] at h1
    go_wp2
    go_ret
    rw [hR]
    exact ⟨rfl, (hd1.more (w := w)).le (by omega), Keeps.of_below F hbB⟩
  · rw [if_neg k1] at hR
    have d1 : (S.fuse == 0) = false := by rw [beq_eq_false_iff_ne]; exact k1
    rw [d1] at h1
    by_cases kg : Geo a b c
    · obtain ⟨x, y, z, rfl, rfl, rfl⟩ := geo_nat kg
      have H2 := (fun w => encsuper_ok x y z w kg)
      have hsl : (supOf x y z).length = 512 := by rw [supOf, sealed_len, supBody_len]
      have c0 := cell_of_block hbox (j := 0) rfl
      have c1 := cell_of_block hbox (j := 1) rfl
      have c2 := cell_of_block hbox (j := 2) rfl
      have hgx := kg.2.2.2.2
      have hss := hd1.ok.hi
      by_cases ks : x = s
      · have ks' := ks.symm
        subst ks'
        rw [if_pos ⟨kg, rfl⟩] at hR
        simp only [Int.toNat_natCast] at hR
        have h2 := H2 (w.alloc (.cells #[.int .i64 (s : Int), .int .i64 (y : Int), .int .i64 (z : Int)] 67))
        go_wp2_with fail
        refine h2.mono ?_
        rintro e w2 ⟨v, rfl, g, cg, rfl, hg, hrow, hb2⟩
        have hz2 := hb2.size
        have c02 := cell_of_block ((hb2.block _ (by omega)).trans hbox) (j := 0) rfl
        have HX2 := ((hb2.block _ (by omega)).trans hbox)
        have HD2 := (hd1.later hb2)
        have HSec := (fun (wx : World) (hb : Below w2.heap.size w2 wx) => B.dsectors (HD2.later hb))
        have HN : (B.DiskR w2.drew (more F w w2.drew) p s S (cR + 2) ∧ Keeps F w w2.drew) := ⟨((hd1.later (below_drew hb2)).more (w := w)).le (by omega), (Keeps.of_below F hbB).trans (Keeps.of_below (fun _ => False) (below_drew hb2)) (fun _ h => h.elim)⟩
        go_wp2
        go_region_held3 (fun w' => w'.cell? ⟨w.heap.size, 0, none⟩ = some (.int .i64 (s : Int))) (exact c02)
          (first
            | (go_at_call 20; refine (HSec _ (below_drew (Below.refl _ _))).mono ?_; rintro e wy ⟨rfl, hwy⟩; have hwy' := hwy.symm; subst hwy'; clear hwy))
        have hWz := (below_drew (Below.refl w2.heap.size w2)).size
        have HDW := HD2.later (below_drew (Below.refl _ _))
        have HXW := (((below_drew (Below.refl w2.heap.size w2)).block _ (by omega)).trans HX2)
        have hsr0 := hrow.src
        rw [hsl] at hsr0
        have hgl : g < w2.heap.size := hsr0.old _ rfl (by omega)
        have HSW := (hsr0.later (below_drew (Below.refl w2.heap.size w2)))
        generalize w2.drew = W at *
        have h3 := B.dtake HDW
        have hyy := kg.1.2
        have hs1 : (17 : Int) ≤ (s : Int) := by obtain ⟨⟨l1, l2⟩, ⟨n1, n2⟩, h3, s1, s2⟩ := kg; omega
        have hp1 : (fmt1 S s).2.puts.length ≤ S.puts.length + 1 := swipe_puts S.take s 0 1
        have hp2 : (fmt2 S s).2.puts.length ≤ (fmt1 S s).2.puts.length + (s - 1) := swipe_puts (fmt1 S s).2 s 1 (s - 1)
        have hp3 : (fmt3 S s y).2.puts.length ≤ (fmt2 S s).2.puts.length + 400 := lformat_puts _ _ _ _ hyy
        have hp4 : (fmt4 S s y z).2.puts.length ≤ (fmt3 S s y).2.puts.length + 1 := wr_puts _ _ _ _ _
        have HB2 : ((fmt2 S s).2.Byt) := swipe_byt (swipe_byt hby.take s 0 1) s 1 (s - 1)
        have HT1 := (fun (w3 : World) (hd : B.DiskR w3 F p s S.take cR) => show Calls Tryz.prog 76 #[.pointer (some ⟨p, 0, none⟩), .int .i64 0, .int .i64 1] w3 fun e w' => e = .returned (.int .i64 (fmt1 S s).1) ∧ B.DiskR w' (more F w3 w') p s (fmt1 S s).2 cR ∧ Keeps F w3 w' from swipe_any hd 0 1 (by omega) (by omega) (by show S.puts.length + _ + 1 ≤ _; omega))
        have HT2 := (fun (w3 : World) (F3 : Nat → Prop) (hd : B.DiskR w3 F3 p s (fmt1 S s).2 cR) => show Calls Tryz.prog 76 #[.pointer (some ⟨p, 0, none⟩), .int .i64 1, .int .i64 (s : Int)] w3 fun e w' => e = .returned (.int .i64 (fmt2 S s).1) ∧ B.DiskR w' (more F3 w3 w') p s (fmt2 S s).2 cR ∧ Keeps F3 w3 w' from swipe_any hd 1 s (by omega) (by omega) (by omega))
        have HT3 := (fun (w3 : World) (F3 : Nat → Prop) (hd : B.DiskR w3 F3 p s (fmt2 S s).2 cR) => show Calls Tryz.prog 77 #[.pointer (some ⟨p, 0, none⟩), .int .i64 1, .int .i64 (y : Int)] w3 fun e w' => e = .returned (.int .i64 (fmt3 S s y).1) ∧ B.DiskR w' (more F3 w3 w') p s (fmt3 S s y).2 (cR + 2) ∧ Keeps F3 w3 w' from B.Format_any hd HB2 1 (y : Int) (by omega))
        have HT4 := (fun (w3 : World) (F3 : Nat → Prop) (hd : B.DiskR w3 F3 p s (fmt3 S s y).2 (cR + 2)) (hs : Src w3 (some ⟨g, 0, none⟩) 512 (supOf s y z)) => show Calls Tryz.prog 78 #[.pointer (some ⟨p, 0, none⟩), .int .i64 0, .slice (some ⟨g, 0, none⟩) 512 cg] w3 fun e w' => e = .returned (.int .i64 (fmt4 S s y z).1) ∧ B.DiskR w' (more F3 w3 w') p s (fmt4 S s y z).2 (cR + 2) ∧ Keeps F3 w3 w' from B.dwrite hd 0 (some ⟨g, 0, none⟩) 512 cg (supOf s y z) hs (by omega))
        have HT5 := (fun (w3 : World) (F3 : Nat → Prop) (hd : B.DiskR w3 F3 p s (fmt4 S s y z).2 (cR + 2)) => B.dflush hd (by omega))
        unfold sformed at hR
        generalize fmt1 S s = Y1 at *
        generalize fmt2 S s = Y2 at *
        generalize fmt3 S s y = Y3 at *
        generalize fmt4 S s y z = Y4 at *
        go_wp2_with fail
        refine h3.mono ?_
        rintro e w3 ⟨rfl, hd3, hk3⟩
        have hz3 := hk3.size
        have h4 := HT1 w3 hd3
        have hF : ∀ j, w.heap.size ≤ j → ¬ F j := fun j hj hf => by have := HLt _ hf; omega
        have HLt3 : (∀ k, F k → k < w3.heap.size) := fun k hf => by have := HLt k hf; omega
        have HK3 := HN.2.trans hk3 (fun _ h => .inl h)
        have HX3 := ((hk3.block _ (by omega) (hF _ (by omega))).trans HXW)
        have HS3 := (HSW.avoid hk3 (fun y hy _ e => by
          cases hy
          exact hF g (by omega) e))
        go_wp2_with fail
        refine h4.mono ?_
        rintro e w4 ⟨rfl, hd, hk⟩
        have HE1 := (And.intro hd hk)
        by_cases kY1 : Y1.1 ≠ 0
        · rw [if_pos kY1] at hR
          have dY : (Y1.1 != 0) = true := by rw [bne_iff_ne]; exact kY1
          have HN := (exit_fr (c' := cR + 2) HLt HK3 HE1 (by omega))
          go_wp2
          go_ret
          rw [hR]
          exact ⟨rfl, HN⟩
        · rw [if_neg kY1] at hR
          have dY1 : (Y1.1 != 0) = false := by rw [Decidable.byContradiction kY1]; rfl
          have cS := cell_of_block ((HE1.2.block _ (by omega) (hF _ (by omega))).trans HX3) (j := 0) rfl
          have h5 := HT2 _ _ HE1.1
          go_wp2_with fail
          refine h5.mono ?_
          rintro e w5 ⟨rfl, hd, hk⟩
          have HE2 := (step_fr HLt3 HE1.2 hd hk)
          by_cases kY2 : Y2.1 ≠ 0
          · rw [if_pos kY2] at hR
            have dY : (Y2.1 != 0) = true := by rw [bne_iff_ne]; exact kY2
            have HN := (exit_fr (c' := cR + 2) HLt HK3 HE2 (by omega))
            go_wp2
            go_ret
            rw [hR]
            exact ⟨rfl, HN⟩
          · rw [if_neg kY2] at hR
            have dY2 : (Y2.1 != 0) = false := by rw [Decidable.byContradiction kY2]; rfl
            have cL := cell_of_block ((HE2.2.block _ (by omega) (hF _ (by omega))).trans HX3) (j := 1) rfl
            have h6 := HT3 _ _ HE2.1
            go_wp2_with fail
            refine h6.mono ?_
            rintro e w6 ⟨rfl, hd, hk⟩
            have HE3 := (step_fr HLt3 HE2.2 hd hk)
            by_cases kY3 : Y3.1 ≠ 0
            · rw [if_pos kY3] at hR
              have dY : (Y3.1 != 0) = true := by rw [bne_iff_ne]; exact kY3
              have HN := (exit_fr (c' := cR + 2) HLt HK3 HE3 (by omega))
              go_wp2
              go_ret
              rw [hR]
              exact ⟨rfl, HN⟩
            · rw [if_neg kY3] at hR
              have dY3 : (Y3.1 != 0) = false := by rw [Decidable.byContradiction kY3]; rfl
              have h7 := HT4 _ _ HE3.1 (HS3.avoid HE3.2 (fun y hy _ e => by
                cases hy
                exact hF g (by omega) e))
              go_wp2_with fail
              refine h7.mono ?_
              rintro e w7 ⟨rfl, hd, hk⟩
              have HE4 := (step_fr HLt3 HE3.2 hd hk)
              by_cases kY4 : Y4.1 ≠ 0
              · rw [if_pos kY4] at hR
                have dY : (Y4.1 != 0) = true := by rw [bne_iff_ne]; exact kY4
                have HN := (exit_fr (c' := cR + 2) HLt HK3 HE4 (by omega))
                go_wp2
                go_ret
                rw [hR]
                exact ⟨rfl, HN⟩
              · rw [if_neg kY4] at hR
                have dY4 : (Y4.1 != 0) = false := by rw [Decidable.byContradiction kY4]; rfl
                have h8 := HT5 _ _ HE4.1
                go_wp2_with fail
                refine h8.mono ?_
                rintro e w8 ⟨rfl, hd, hk⟩
                have HN := (exit_fr (c' := cR + 2) HLt HK3 (step_fl HLt3 HE4.2 hd hk) (by omega))
                go_wp2
                go_ret
                rw [hR]
                exact ⟨rfl, HN⟩
      · rw [if_neg (fun h => ks (by have := h.2; omega))] at hR
        have hne : ((x : Int) != (s : Int)) = true := by rw [bne_iff_ne]; omega
        have h2 := H2 (w.alloc (.cells #[.int .i64 (x : Int), .int .i64 (y : Int), .int .i64 (z : Int)] 67))
        go_wp2_with fail
        refine h2.mono ?_
        rintro e w2 ⟨v, rfl, g, cg, rfl, hg, hrow, hb2⟩
        have hz2 := hb2.size
        have c02 := cell_of_block ((hb2.block _ (by omega)).trans hbox) (j := 0) rfl
        have HX2 := ((hb2.block _ (by omega)).trans hbox)
        have HD2 := (hd1.later hb2)
        have HSec := (fun (wx : World) (hb : Below w2.heap.size w2 wx) => B.dsectors (HD2.later hb))
        have HN : (B.DiskR w2.drew (more F w w2.drew) p s S (cR + 2) ∧ Keeps F w w2.drew) := ⟨((hd1.later (below_drew hb2)).more (w := w)).le (by omega), (Keeps.of_below F hbB).trans (Keeps.of_below (fun _ => False) (below_drew hb2)) (fun _ h => h.elim)⟩
        go_wp2
        go_region_held3 (fun w' => w'.cell? ⟨w.heap.size, 0, none⟩ = some (.int .i64 (x : Int))) (exact c02)
          (first
            | (go_at_call 20; refine (HSec _ (below_drew (Below.refl _ _))).mono ?_; rintro e wy ⟨rfl, hwy⟩; have hwy' := hwy.symm; subst hwy'; clear hwy))
        go_wp2
        go_ret
        rw [hR]
        exact ⟨rfl, HN⟩
    · have h2 := fun w => encsuper_bad a b c w kg
      rw [if_neg (fun h => kg h.1)] at hR
      have H2 := h2
      have c0 := cell_of_block hbox (j := 0) rfl
      have c1 := cell_of_block hbox (j := 1) rfl
      have c2 := cell_of_block hbox (j := 2) rfl
      have h2 := H2 (w.alloc (.cells #[.int .i64 a, .int .i64 b, .int .i64 c] 67))
      go_wp2_with fail
      refine h2.mono ?_
      rintro e w2 ⟨rfl, hb2⟩
      have HN : (B.DiskR w2.drew (more F w w2.drew) p s S (cR + 2) ∧ Keeps F w w2.drew) := ⟨((hd1.later (below_drew hb2)).more (w := w)).le (by omega), (Keeps.of_below F hbB).trans (Keeps.of_below (fun _ => False) (below_drew hb2)) (fun _ h => h.elim)⟩
      go_wp2
      refine wp_region_held_drew (S := (fun _ => True)) (by kernel_rfl) (trivial) (fun hHeld => ?_)
      refine wpAnyH_take (i := 0) (oi := { dst := some 18, op := Op.move (Operand.tmp 6), type := 25, pos := "store.go:35", after := #[], guard := none }) (v := .int .i64 22) rfl (by kernel_rfl) (by kernel_rfl) (by kernel_rfl) (fun _ _ _ h => h) (Or.inl ⟨by rfl, ?_⟩) (by assumption) ?_
      · intro w hSw
        (try dsimp only at hSw)
        go_simp
      try simp only [Act.put, List.setIfInBounds_toArray, List.set_cons_zero, List.set_cons_succ]
      refine wpAnyH_take (i := 1) (oi := { dst := some 19, op := Op.binOp BinOp.neq 25 (Operand.tmp 18) (Operand.const (Value.int IntKind.i64 0)) 25, type := 4, pos := "store.go:35", after := #[{ on := 0, ground := Ground.data }], guard := none }) (v := .bool true) rfl (by kernel_rfl) (by kernel_rfl) (by kernel_rfl) (fun _ _ _ h => h) (Or.inl ⟨by rfl, ?_⟩) (by assumption) ?_
      · intro w hSw
        (try dsimp only at hSw)
        go_simp
      try simp only [Act.put, List.setIfInBounds_toArray, List.set_cons_zero, List.set_cons_succ]
      refine wpAnyH_take (i := 2) (oi := { dst := some 20, op := Op.move (Operand.tmp 19), type := 4, pos := "store.go:35", after := #[{ on := 1, ground := Ground.data }], guard := none }) (v := .bool true) rfl (by kernel_rfl) (by kernel_rfl) (by kernel_rfl) (fun _ _ _ h => h) (Or.inl ⟨by rfl, ?_⟩) (by assumption) ?_
      · intro w hSw
        (try dsimp only at hSw)
        go_simp
      try simp only [Act.put, List.setIfInBounds_toArray, List.set_cons_zero, List.set_cons_succ]
      refine wpAnyH_take (i := 3) (oi := { dst := some 21, op := Op.fieldAddr 67 (Operand.tmp 3) 0, type := 0, pos := "store.go:35", after := #[{ on := 2, ground := Ground.guard }], guard := some (2, false) }) (v := undef) rfl (by kernel_rfl) (by kernel_rfl) (by kernel_rfl) (fun _ _ _ h => h) (Or.inr ⟨by rfl, rfl⟩) (by assumption) ?_
      try simp only [Act.put, List.setIfInBounds_toArray, List.set_cons_zero, List.set_cons_succ]
      refine wpAnyH_take (i := 4) (oi := { dst := some 22, op := Op.load 3 (Operand.tmp 21), type := 3, pos := "store.go:35", after := #[{ on := 3, ground := Ground.data }, { on := 2, ground := Ground.guard }], guard := some (2, false) }) (v := undef) rfl (by kernel_rfl) (by kernel_rfl) (by kernel_rfl) (fun _ _ _ h => h) (Or.inr ⟨by rfl, rfl⟩) (by assumption) ?_
      try simp only [Act.put, List.setIfInBounds_toArray, List.set_cons_zero, List.set_cons_succ]
      refine wpAnyH_take (i := 5) (oi := { dst := some 23, op := Op.move (Operand.tmp 0), type := 24, pos := "store.go:35", after := #[{ on := 2, ground := Ground.guard }], guard := some (2, false) }) (v := undef) rfl (by kernel_rfl) (by kernel_rfl) (by kernel_rfl) (fun _ _ _ h => h) (Or.inr ⟨by rfl, rfl⟩) (by assumption) ?_
      try simp only [Act.put, List.setIfInBounds_toArray, List.set_cons_zero, List.set_cons_succ]
      refine wpAnyH_take (i := 6) (oi := { dst := some 24, op := Op.call { callee := Callee.value (Operand.func 20), args := #[Operand.tmp 23], argTypes := #[24] }, type := 3, pos := "store.go:35", after := #[{ on := 5, ground := Ground.data }, { on := 2, ground := Ground.chain }, { on := 2, ground := Ground.guard }], guard := some (2, false) }) (v := undef) rfl (by kernel_rfl) (by kernel_rfl) (by kernel_rfl) (fun _ _ _ h => h) (Or.inr ⟨by rfl, rfl⟩) (by assumption) ?_
      try simp only [Act.put, List.setIfInBounds_toArray, List.set_cons_zero, List.set_cons_succ]
      refine wpAnyH_take (i := 7) (oi := { dst := some 25, op := Op.binOp BinOp.neq 3 (Operand.tmp 22) (Operand.tmp 24) 3, type := 4, pos := "store.go:35", after := #[{ on := 4, ground := Ground.data }, { on := 6, ground := Ground.data }, { on := 2, ground := Ground.guard }], guard := some (2, false) }) (v := undef) rfl (by kernel_rfl) (by kernel_rfl) (by kernel_rfl) (fun _ _ _ h => h) (Or.inr ⟨by rfl, rfl⟩) (by assumption) ?_
      try simp only [Act.put, List.setIfInBounds_toArray, List.set_cons_zero, List.set_cons_succ]
      refine wpAnyH_take (i := 8) (oi := { dst := some 26, op := Op.pick (Operand.tmp 20) (Operand.const (Value.bool true)) (Operand.tmp 25), type := 4, pos := "store.go:35", after := #[{ on := 2, ground := Ground.data }, { on := 7, ground := Ground.data }], guard := none }) (v := .bool true) rfl (by kernel_rfl) (by kernel_rfl) (by kernel_rfl) (fun _ _ _ h => h) (Or.inl ⟨by rfl, ?_⟩) (by assumption) ?_
      · intro w hSw
        (try dsimp only at hSw)
        go_simp
      try simp only [Act.put, List.setIfInBounds_toArray, List.set_cons_zero, List.set_cons_succ]
      refine wpAnyH_done (by kernel_rfl) ?_ _
      go_wp2
      go_ret
      rw [hR]
      exact ⟨rfl, HN⟩
end
end Go.Proofs.YtokcgifpljeoiaaGreat
end

section
namespace Go.Proofs.YtokcgifpljeoiaaGreat
open Go.RowKit Go.Maps

/-- A layout as a value. -/
abbrev lyV (y : LY) : Value := .agg #[.int .i64 (y.log : Int), .int .i64 (y.home : Int), .int .i64 (y.blocks : Int), .int .i64 (y.nodes : Int), .int .i64 (y.data : Int)]
theorem infoLy : (Tryz.prog.info? 37).map (·.size) = some 5 := by kernel_rfl
theorem ly_range (w : World) (y : LY) : (w.alloc (.cells #[.int .i64 (y.log : Int), .int .i64 (y.home : Int), .int .i64 (y.blocks : Int), .int .i64 (y.nodes : Int), .int .i64 (y.data : Int)] 37)).rangeAt w.heap.size 0 [.int .i64 (y.log : Int), .int .i64 (y.home : Int), .int .i64 (y.blocks : Int), .int .i64 (y.nodes : Int), .int .i64 (y.data : Int)] := by
  have hx := heap_alloc_new w (.cells #[.int .i64 (y.log : Int), .int .i64 (y.home : Int), .int .i64 (y.blocks : Int), .int .i64 (y.nodes : Int), .int .i64 (y.data : Int)] 37)
  intro j v hv
  match j, hv with
  | 0, hv => cases hv; exact cell_of_block hx (j := 0) rfl
  | 1, hv => cases hv; exact cell_of_block hx (j := 1) rfl
  | 2, hv => cases hv; exact cell_of_block hx (j := 2) rfl
  | 3, hv => cases hv; exact cell_of_block hx (j := 3) rfl
  | 4, hv => cases hv; exact cell_of_block hx (j := 4) rfl
  | j + 5, hv => simp at hv
section
variable {w : World} {F : Nat → Prop} {p q l m t n : Nat} {y : LY} {busy : Bool} {G : SG} {T : TG}

set_option maxRecDepth 20000 in
theorem layout_any (h : StP w q p l m y busy) :
    Calls Tryz.prog 13 #[.pointer (some ⟨q, 0, none⟩)] w fun e w' => e = .returned (lyV y) ∧ Below w.heap.size w w' := by
  have h := h.later (below_box w (.cells #[.int .i64 0, .int .i64 0, .int .i64 0, .int .i64 0, .int .i64 0] 37))
  have c2 := cell_of_block h (j := 2) rfl
  have c3 := cell_of_block h (j := 3) rfl
  have c4 := cell_of_block h (j := 4) rfl
  have c5 := cell_of_block h (j := 5) rfl
  have c6 := cell_of_block h (j := 6) rfl
  go_enter Tryz.func13, Tryz.ntmps13
  go_wp2
  refine bodyPost_ret (results_cell_mid (P := Tryz.prog) rfl _ _ w.heap.size _ _ rfl (ly_range w y) Tryz.underlying37 rfl infoLy) rfl ⟨rfl, below_box _ _⟩
end
end Go.Proofs.YtokcgifpljeoiaaGreat
end

section
namespace Go.Proofs.YtokcgifpljeoiaaGreat
open Go.RowKit

theorem must_t (w : World) : Calls Tryz.prog 138 #[.bool true] w fun e w' => e = .returned (.tuple #[]) ∧ w' = w := by
  go_enter Tryz.func138, Tryz.ntmps138
  go_wp2
  go_end0
  exact ⟨rfl, rfl⟩
/-- How a reader gives up. -/
abbrev gaveUp : List PanicEntry := [{ v := .iface 25 (.int .i64 6), recovered := false }]
theorem must_f (w : World) : Calls Tryz.prog 138 #[.bool false] w fun e w' => e = .panicked gaveUp ∧ w' = w := by
  go_enter Tryz.func138, Tryz.ntmps138
  go_wp2
  exact ⟨rfl, rfl, rfl⟩

/-- A reader at p, over the bytes at b, o; its place k. -/
def RdAt (w : World) (p b o n c k : Nat) : Prop := w.heap[p]? = some (.cells #[.slice (some ⟨b, o, none⟩) n c, .int .i64 (k : Int)] 192 (0, 0))

set_option maxHeartbeats 2000000 in
theorem take_ok (p b o n c k m : Nat) (w : World) (h : RdAt w p b o n c k) (hk : k + m ≤ n) (hn : n ≤ c) (hkc : k < c) (hc : n ≤ 1000000) (hcc : c ≤ 9223372036854775807) :
    Calls Tryz.prog 171 #[.pointer (some ⟨p, 0, none⟩), .int .i64 (m : Int)] w fun e w' => e = .returned (.slice (some ⟨b, o + k, none⟩) m (c - k)) ∧ RdAt w' p b o n c (k + m) ∧ Keeps (fun j => j = p) w w' := by
  have c0 := cell_of_block h (j := 0) rfl
  have c1 := cell_of_block h (j := 1) rfl
  have f1 := frozen_of_block h 1
  have hle' : (m : Int) ≤ (n : Int) - (k : Int) := by omega
  have hw1 : IntKind.i64.wrap ((n : Int) - (k : Int)) = (n : Int) - (k : Int) := by rw [IntKind.wrap_i64]; omega
  have HR : (RdAt (w.setCell ⟨p, 1, none⟩ (.int .i64 ((k : Int) + (m : Int)))) p b o n c (k + m)) := by
    show RdAt _ _ _ _ _ _ _
    unfold RdAt
    rw [(heap_setCell_same _ _ 1 _ _ (.int .i64 ((k : Int) + (m : Int))) h)]
    simp
  have HK := (Keeps.setCell (F := fun j => j = p) (p := ⟨p, 1, none⟩) w rfl (.int .i64 ((k : Int) + (m : Int))))
  go_enter Tryz.func171, Tryz.ntmps171
  go_wp2_with fail
  go_quiet (first | (go_at_call 138; exact Calls.quiet_of_same (must_t _)))
  go_wp2
  have b1 : (0 : Int) ≤ (k : Int) := by omega
  have b2 : (k : Int) ≤ (k : Int) + (m : Int) := by omega
  have b3 : (k : Int) + (m : Int) ≤ (c : Int) := by omega
  have b4 : ¬ c = k := by omega
  go_quiet (fail)
  go_wp2
  go_ret
  exact ⟨congrArg (fun z => Ending.returned (Value.slice (some ⟨b, o + k, none⟩) z (c - k))) (Nat.add_sub_cancel_left k m), HR, ⟨HK.os, HK.tape, HK.output, HK.size, HK.block⟩⟩

theorem or_wrap (i A X : Nat) (hA : A < 2 ^ i) (h : A + 2 ^ i * X < 18446744073709551616) :
    bits .or .i64 (wrap64 (A : Int)) (wrap64 ((2 ^ i * X : Nat) : Int)) = wrap64 ((A + 2 ^ i * X : Nat) : Int) := by
  have q : ∀ z : Nat, z < 18446744073709551616 → (BitVec.ofInt 64 (wrap64 (z : Int))).toNat = z := by
    intro z hz
    rw [BitVec.toNat_ofInt]
    unfold wrap64
    omega
  have h1 : A < 18446744073709551616 := by omega
  have h2 : 2 ^ i * X < 18446744073709551616 := by omega
  show IntKind.i64.wrap ((BitVec.ofInt 64 (wrap64 (A : Int)) ||| BitVec.ofInt 64 (wrap64 ((2 ^ i * X : Nat) : Int))).toNat : Int) = _
  rw [BitVec.toNat_or, q A h1, q _ h2, Nat.or_comm, ← Nat.two_pow_add_eq_or_of_lt hA X, Nat.add_comm, IntKind.wrap_i64]
  unfold wrap64
  rfl

theorem cle_take_succ {l : List Int} {k : Nat} (hk : k < l.length) (_hb : Bytes l) : le (l.take (k + 1)) = le (l.take k) + 2 ^ (8 * k) * (l.getD k 0).toNat := by
  rw [List.take_succ_eq_append_getElem hk, le_append]
  have : (l.take k).length = k := by simp; omega
  rw [this]
  simp [le, List.getD, hk]

/-- The bytes from k on. -/
def part (l : List Int) (k m : Nat) : List Int := (l.drop k).take m
theorem part_len {l : List Int} {k m : Nat} (h : k + m ≤ l.length) : (part l k m).length = m := by simp [part]; omega
theorem part_bytes {l : List Int} (h : Bytes l) (k m : Nat) : Bytes (part l k m) := fun x hx => h x (List.mem_of_mem_drop (List.mem_of_mem_take hx))
theorem part_at {l : List Int} {k m i : Nat} (hi : i < m) : (part l k m).getD i 0 = l.getD (k + i) 0 := by simp [part, List.getD, hi]

/-- A reader over bytes that stay as they are. -/
structure Rd (w : World) (p b o c k : Nat) (l : List Int) : Prop where
  rd : RdAt w p b o l.length c k
  ne : b ≠ p
  src : ∀ i, i < l.length → w.cell? ⟨b, o + i, none⟩ = some (.int .u8 (l.getD i 0))
  bytes : Bytes l
  small : l.length ≤ 1000000
  cap : l.length ≤ c
  huge : c ≤ 9223372036854775807
  old : 0 < l.length → b < w.heap.size

theorem Rd.keep {w w' : World} {p b o c k k' : Nat} {l : List Int} (h : Rd w p b o c k l) (hr : RdAt w' p b o l.length c k') (hk : Keeps (fun j => j = p) w w') : Rd w' p b o c k' l :=
  ⟨hr, h.ne, fun i hi => by
    exact (World.cell?_of_block (w := w) (a := ⟨b, o + i, none⟩) (hk.block b (h.old (by omega)) h.ne)).trans (h.src i hi), h.bytes, h.small, h.cap, h.huge, fun h0 => Nat.lt_of_lt_of_le (h.old h0) hk.size⟩
theorem Rd.far {w w' : World} {p b o c k : Nat} {l : List Int} (h : Rd w p b o c k l) (hb : Below w.heap.size w w') : Rd w' p b o c k l := by
  exact ⟨(hb.block p ((Array.getElem?_eq_some_iff.1 h.rd).1)).trans h.rd, h.ne, fun i hi => cell_later hb (h.src i hi), h.bytes, h.small, h.cap, h.huge, fun h0 => Nat.lt_of_lt_of_le (h.old h0) hb.size⟩

set_option maxHeartbeats 2000000 in
theorem crnumber_any (p b o c k m : Nat) (l : List Int) (w : World) (h : Rd w p b o c k l) (hk : k + m ≤ l.length) (hkc : k < c) (hm : m ≤ 8) :
    Calls Tryz.prog 140 #[.pointer (some ⟨p, 0, none⟩), .int .i64 (m : Int)] w fun e w' => e = .returned (.int .i64 (wrap64 ((le (part l k m) : Nat) : Int))) ∧ Rd w' p b o c (k + m) l ∧ Keeps (fun j => j = p) w w' := by
  have ht := take_ok p b o l.length c k m w h.rd hk h.cap hkc h.small h.huge
  have H := Hid.mk h
  clear h
  go_enter Tryz.func140, Tryz.ntmps140
  go_wp2_with fail
  refine ht.mono ?_
  rintro e w1 ⟨rfl, hr1, hk1⟩
  have h1 := H.out.keep hr1 hk1
  have H1 := Hid.mk (And.intro h1 hk1)
  have hpl := part_len hk
  clear ht hr1 hk1 h1
  go_wp2
  go_loopw [5, 12] (fun r i wr => ∃ j : Nat, j ≤ m ∧ i = .int .i64 j ∧ wr = w1 ∧ r = .int .i64 (wrap64 ((le ((part l k m).take j) : Nat) : Int))) (fun _ i _ => m - (intOf i).toNat)
  case atStart => exact ⟨0, Nat.zero_le _, rfl, rfl, by simp [le, wrap64]⟩
  case round =>
    obtain ⟨j, hj, rfl, rfl, rfl⟩ := hrel
    by_cases hlt : j < m
    · have hlt' : (j : Int) < (m : Int) := by omega
      have hc := H1.out.1.src (k + j) (by omega)
      rw [← part_at (l := l) (k := k) hlt, ← Nat.add_assoc] at hc
      obtain ⟨x, hx, hx1⟩ : ∃ x : Nat, (part l k m).getD j 0 = (x : Int) ∧ x < 256 := by
        have := part_bytes H1.out.1.bytes k m (part l k m)[j] (List.getElem_mem (by omega))
        refine ⟨((part l k m).getD j 0).toNat, ?_, ?_⟩ <;> simp [List.getD, hpl, hlt] <;> omega
      have hsucc := cle_take_succ (l := part l k m) (k := j) (by omega) (part_bytes H1.out.1.bytes k m)
      have hA : le ((part l k m).take j) < 2 ^ (8 * j) := by
        have := le_lt (l := (part l k m).take j) (fun y hy => part_bytes H1.out.1.bytes k m y (List.mem_of_mem_take hy))
        have e : ((part l k m).take j).length = j := by simp; omega
        rwa [e] at this
      have hB : le ((part l k m).take (j + 1)) < 18446744073709551616 := by
        have := le_lt (l := (part l k m).take (j + 1)) (fun y hy => part_bytes H1.out.1.bytes k m y (List.mem_of_mem_take hy))
        have e : ((part l k m).take (j + 1)).length = j + 1 := by simp; omega
        rw [e] at this
        exact Nat.lt_of_lt_of_le this (by have := Nat.pow_le_pow_right (show 0 < 2 by omega) (show 8 * (j + 1) ≤ 64 by omega); simpa using this)
      rw [hx] at hc hsucc
      simp only [Int.toNat_natCast] at hsucc
      rw [hsucc] at hB
      have hor := or_wrap (8 * j) _ x hA hB
      rw [← hsucc] at hor
      have hsh2 : ((x : Int) * 2 ^ (8 * j)) = ((2 ^ (8 * j) * x : Nat) : Int) := by rw [Int.natCast_mul, Int.natCast_pow, Int.mul_comm]; rfl
      have hcast : ((2 ^ (8 * j) * x : Nat) : Int) = 2 ^ (8 * j) * (x : Int) := by rw [Int.natCast_mul, Int.natCast_pow]; rfl
      rw [hcast] at hor
      have Hor := Hid.mk hor
      clear hA hB hsucc hor hcast
      go_wp2
      go_roundw
      case rel => exact ⟨j + 1, by omega, by go_num, trivial, by rw [Hor.out]⟩
      case measure => simp [intOf]; omega
    · have hlt' : ¬ (j : Int) < (m : Int) := by omega
      have ej : (part l k m).take j = part l k m := List.take_of_length_le (by omega)
      rw [ej] at *
      go_wp2
      go_ret
      exact ⟨rfl, H1.out⟩

/-- All zeros. -/
def Zeros (l : List Int) : Prop := ∀ x ∈ l, x = 0

/-- What empty answers. -/
def EmptyOut (l : List Int) (e : Ending) : Prop := ∃ x, e = .returned (.bool x) ∧ (x = true ↔ Zeros l)

set_option maxHeartbeats 2000000 in
theorem empty_low (b o n c : Nat) (l : List Int) (w : World) (hl : l.length = n) (hn : n ≤ 1000000) (hs : ∀ i, i < n → w.cell? ⟨b, o + i, none⟩ = some (.int .u8 (l.getD i 0))) :
    Calls Tryz.prog 172 #[.slice (some ⟨b, o, none⟩) n c] w fun e w' => EmptyOut l e ∧ w' = w := by
  have Hs := Hid.mk hs
  clear hs
  go_enter Tryz.func172, Tryz.ntmps172
  go_wp2
  go_loopw [7] (fun i wr => ∃ k : Nat, k ≤ n ∧ i = .int .i64 k ∧ wr = w ∧ ∀ j, j < k → l.getD j 0 = 0) (fun i _ => n - (intOf i).toNat)
  case atStart => exact ⟨0, Nat.zero_le _, rfl, rfl, fun j hj => by omega⟩
  case round =>
    obtain ⟨k, hk, rfl, rfl, hz⟩ := hrel
    have Hz := Hid.mk hz
    clear hz
    by_cases hlt : k < n
    · have hlt' : (k : Int) < (n : Int) := by omega
      have hc := Hs.out k hlt
      by_cases hx : l.getD k 0 = 0
      · have Hx := Hid.mk hx
        rw [hx] at hc
        clear hx
        go_wp2
        go_roundw
        case rel =>
          refine ⟨k + 1, by omega, by go_num, trivial, fun j hj => ?_⟩
          by_cases e : j = k
          · rw [e]; exact Hx.out
          · exact Hz.out j (by omega)
        case measure => simp [intOf]; omega
      · have hx' : (l.getD k 0 != 0) = true := by rw [bne_iff_ne]; exact hx
        have HF : Hid (¬ Zeros l) := fun h => absurd (h (l.getD k 0) (by simp [List.getD, hl, hlt])) hx
        generalize l.getD k 0 = X at *
        clear hx
        go_wp2
        go_ret
        exact ⟨⟨_, rfl, ⟨(fun h => by cases h), fun h => absurd h HF.out⟩⟩, rfl⟩
    · have hlt' : ¬ (k : Int) < (n : Int) := by omega
      have HF : Hid (Zeros l) := fun x hx => by
        obtain ⟨j, hj, e⟩ := List.mem_iff_getElem.1 hx
        have := Hz.out j (by omega)
        rw [← e]
        simpa [List.getD, hj] using this
      go_wp2
      go_ret
      exact ⟨⟨_, rfl, ⟨fun _ => HF.out, fun _ => rfl⟩⟩, rfl⟩

theorem Rd.part {w : World} {p b o c k : Nat} {l : List Int} (h : Rd w p b o c k l) {q m : Nat} (hq : q + m ≤ l.length) : ∀ i, i < m → w.cell? ⟨b, o + q + i, none⟩ = some (.int .u8 ((part l q m).getD i 0)) := fun i hi => by
  rw [part_at hi, Nat.add_assoc]
  exact h.src (q + i) (by omega)

set_option maxHeartbeats 2000000 in
theorem rzeros_ok (p b o c k m : Nat) (l : List Int) (w : World) (h : Rd w p b o c k l) (hk : k + m ≤ l.length) (hkc : k < c) (hz : Zeros (part l k m)) :
    Calls Tryz.prog 141 #[.pointer (some ⟨p, 0, none⟩), .int .i64 ((k + m : Nat) : Int)] w fun e w' => e = .returned (.tuple #[]) ∧ Rd w' p b o c (k + m) l ∧ Keeps (fun j => j = p) w w' := by
  have c1 := cell_of_block h.rd (j := 1) rfl
  have ht := take_ok p b o l.length c k m w h.rd hk h.cap hkc h.small h.huge
  have es : ((k + m : Nat) : Int) - (k : Int) = (m : Int) := by omega
  have hml : (m : Int) ≤ 1000000 := by have := h.small; omega
  generalize hN : k + m = N at *
  go_enter Tryz.func141, Tryz.ntmps141
  go_wp2_with fail
  refine ht.mono ?_
  rintro e w1 ⟨rfl, hr1, hk1⟩
  have h1 := h.keep hr1 hk1
  have he := empty_low b (o + k) m (c - k) (part l k m) w1 (part_len (by omega)) (by omega) (h1.part (by omega))
  have H1 := (And.intro h1 hk1)
  go_wp2_with fail
  refine he.mono ?_
  rintro e w2 ⟨⟨x, rfl, hx⟩, hw⟩
  have hw' := hw.symm
  subst hw'
  have hx' := hx.2 hz
  subst hx'
  go_wp2_with fail
  refine (must_t _).mono ?_
  rintro e w3 ⟨rfl, hw⟩
  have hw' := hw.symm
  subst hw'
  go_wp2
  go_end0
  exact ⟨rfl, H1⟩

set_option maxHeartbeats 2000000 in
theorem rzeros_no (p b o c k m : Nat) (l : List Int) (w : World) (h : Rd w p b o c k l) (hk : k + m ≤ l.length) (hkc : k < c) (hz : ¬ Zeros (part l k m)) :
    Calls Tryz.prog 141 #[.pointer (some ⟨p, 0, none⟩), .int .i64 ((k + m : Nat) : Int)] w fun e w' => e = .panicked gaveUp ∧ Keeps (fun j => j = p) w w' := by
  have c1 := cell_of_block h.rd (j := 1) rfl
  have ht := take_ok p b o l.length c k m w h.rd hk h.cap hkc h.small h.huge
  have es : ((k + m : Nat) : Int) - (k : Int) = (m : Int) := by omega
  have hml : (m : Int) ≤ 1000000 := by have := h.small; omega
  generalize hN : k + m = N at *
  go_enter Tryz.func141, Tryz.ntmps141
  go_wp2_with fail
  refine ht.mono ?_
  rintro e w1 ⟨rfl, hr1, hk1⟩
  have h1 := h.keep hr1 hk1
  have he := empty_low b (o + k) m (c - k) (part l k m) w1 (part_len (by omega)) (by omega) (h1.part (by omega))
  go_wp2_with fail
  refine he.mono ?_
  rintro e w2 ⟨⟨x, rfl, hx⟩, hw⟩
  have hw' := hw.symm
  subst hw'
  have hx' : x = false := by
    cases x with
    | false => rfl
    | true => exact absurd (hx.1 rfl) hz
  subst hx'
  go_wp2_with fail
  refine (must_f _).mono ?_
  rintro e w3 ⟨rfl, hw⟩
  have hw' := hw.symm
  subst hw'
  go_wp2
  exact ⟨rfl, rfl, (And.intro h1 hk1).2⟩

end Go.Proofs.YtokcgifpljeoiaaGreat
end

section
namespace Go.Proofs.YtokcgifpljeoiaaGreat
open Go.RowKit

theorem txt_str {xs : List Int} (h : Bytes xs) : txt (strOfNums xs) = xs := by
  unfold txt strOfNums
  simp only [List.map_map]
  apply List.ext_getElem
  · simp
  · intro i h1 h2
    have := h xs[i] (List.getElem_mem h2)
    simp
    omega

set_option maxRecDepth 20000 in
set_option maxHeartbeats 2000000 in
theorem rtext_ok (p b o c k m : Nat) (l : List Int) (w : World) (h : Rd w p b o c k l) (hk : k + m ≤ l.length) (hkc : k < c) :
    Calls Tryz.prog 139 #[.pointer (some ⟨p, 0, none⟩), .int .i64 (m : Int)] w fun e w' => e = .returned (.string (strOfNums (part l k m))) ∧ Rd w' p b o c (k + m) l ∧ Keeps (fun j => j = p) w w' := by
  go_enter Tryz.func139, Tryz.ntmps139
  go_wp2_with fail
  refine (take_ok p b o l.length c k m w h.rd hk h.cap hkc h.small h.huge).mono ?_
  rintro e w1 ⟨rfl, hr1, hk1⟩
  have h1 := h.keep hr1 hk1
  have hcv := run_convert_bytes_arg (P := Tryz.prog) w1 22 5 Tryz.underlying22 Tryz.underlying5 b (o + k) m (c - k) (part l k m) (part_len hk) (h1.part hk) 9 Tryz.underlying9
  go_wp2
  go_ret
  exact ⟨rfl, (And.intro h1 hk1)⟩

/-- The sum that stands behind the bytes is right. -/
def SumOk (l : List Int) : Prop := le (part l (l.length - 4) 4) = sumOf (part l 0 (l.length - 4))

theorem part_low {l : List Int} {k : Nat} (_hk : k ≤ l.length) (i : Nat) (hi : i < k) : (part l 0 k).getD i 0 = l.getD i 0 := by
  rw [part_at hi, Nat.zero_add]

set_option maxRecDepth 20000 in
set_option maxHeartbeats 4000000 in
theorem summed_ok (b o n c : Nat) (l : List Int) (w : World) (hl : l.length = n) (h4 : 4 < n) (hn : n ≤ 1000000) (hc : n ≤ c) (hcc : c ≤ 9223372036854775807) (hb : Bytes l) (hs : ∀ i, i < n → w.cell? ⟨b, o + i, none⟩ = some (.int .u8 (l.getD i 0))) (hok : SumOk l) :
    Calls Tryz.prog 115 #[.slice (some ⟨b, o, none⟩) n c] w fun e w' => ∃ p, e = .returned (.pointer (some ⟨p, 0, none⟩)) ∧ w.heap.size ≤ p ∧ Rd w' p b o c 0 (part l 0 (n - 4)) ∧ Below w.heap.size w w' := by
  have hbw : b < w.heap.size := World.block_lt_of_cell? _ _ (hs 0 (by omega))
  have esub : (n : Int) - 4 = ((n - 4 : Nat) : Int) := by omega
  have i1 : (0 : Int) ≤ (((n - 4 : Nat)) : Int) := by omega
  have i2 : (((n - 4 : Nat)) : Int) ≤ (n : Int) := by omega
  have i3 : (((n - 4 : Nat)) : Int) ≤ (c : Int) := by omega
  obtain ⟨w1, hw1⟩ : ∃ w1, w1 = w.alloc (.cells #[.slice (some ⟨b, o + (n - 4), none⟩) 4 (c - (n - 4)), .int .i64 0] 192) := ⟨_, rfl⟩
  have hB1 : Below w.heap.size w w1 := by rw [hw1]; exact (Below.refl _ w).alloc (Nat.le_refl _) _
  have hp1 : w1.heap[w.heap.size]? = some (.cells #[.slice (some ⟨b, o + (n - 4), none⟩) 4 (c - (n - 4)), .int .i64 0] 192 (0, 0)) := by rw [hw1]; exact heap_alloc_new _ _
  have hsz1 : w1.heap.size = w.heap.size + 1 := by rw [hw1]; simp
  have e4 : (part l (n - 4) 4).length = 4 := part_len (by omega)
  have hrd : ∀ wx : World, Below w1.heap.size w1 wx → Rd wx w.heap.size b (o + (n - 4)) (c - (n - 4)) 0 (part l (n - 4) 4) := fun wx hx =>
    ⟨by show RdAt _ _ _ _ _ _ _; unfold RdAt; rw [e4]; exact (hx.block _ (by omega)).trans hp1, by omega, fun i hi => by
      rw [e4] at hi
      rw [part_at hi, Nat.add_assoc]
      exact cell_later (hB1.trans (hx.mono (by omega))) (hs (n - 4 + i) (by omega)), part_bytes hb _ _, by omega, by omega, by omega, fun _ => by have := hx.size; omega⟩
  have hnum : ∀ wx : World, Below w1.heap.size w1 wx → Calls Tryz.prog 140 #[.pointer (some ⟨w.heap.size, 0, none⟩), .int .i64 4] wx fun e w' => e = .returned (.int .i64 ((le (part l (n - 4) 4) : Nat) : Int)) ∧ Below w.heap.size w w' := fun wx hx => by
    refine (crnumber_any _ _ _ _ 0 4 _ wx (hrd wx hx) (by omega) (by omega) (by omega)).mono ?_
    rintro e w' ⟨rfl, _, hk⟩
    have e0 : part (part l (n - 4) 4) 0 4 = part l (n - 4) 4 := by
      show ((part l (n - 4) 4).drop 0).take 4 = _
      rw [List.drop_zero, List.take_of_length_le (by omega)]
    have hle := le_lt (part_bytes hb (n - 4) 4)
    rw [e4] at hle
    refine ⟨?_, (hB1.trans (hx.mono (by omega))).trans (hk.below (fun j hj => by omega) (by have := hx.size; omega))⟩
    rw [e0]
    congr 2
    unfold wrap64
    have : (2 : Nat) ^ (8 * 4) = 4294967296 := rfl
    omega
  have hsrc : ∀ wx : World, Below w.heap.size w wx → Calls Tryz.prog 137 #[.slice (some ⟨b, o, none⟩) (n - 4) c] wx fun e w' => e = .returned (.int .i64 ((sumOf (part l 0 (n - 4)) : Nat) : Int)) ∧ Below w.heap.size w w' ∧ (Below w1.heap.size w1 wx → Below w1.heap.size w1 w') := fun wx hx =>
    (sum_any (some ⟨b, o, none⟩) (n - 4) c _ wx (part_bytes hb _ _) (by omega) ⟨part_len (l := l) (k := 0) (m := n - 4) (by omega), (fun h => by cases h), fun x hx' i hi => by
      cases hx'
      rw [addr_add, part_low (by omega) i hi]
      exact cell_later hx (hs i (by omega))⟩).mono (by rintro e w' ⟨rfl, hbb⟩; exact ⟨rfl, hx.trans (hbb.mono hx.size), fun h => h.trans (hbb.mono h.size)⟩)
  have heq : le (part l (n - 4) 4) = sumOf (part l 0 (n - 4)) := by have := hok; unfold SumOk at this; rw [hl] at this; exact this
  rw [heq] at hnum
  have HB1 := hB1
  have Hfin : (∀ wx : World, Below w.heap.size w wx → Rd (wx.alloc (.cells #[.slice (some ⟨b, o, none⟩) (n - 4) c, .int .i64 0] 192)) wx.heap.size b o c 0 (part l 0 (n - 4)) ∧ Below w.heap.size w (wx.alloc (.cells #[.slice (some ⟨b, o, none⟩) (n - 4) c, .int .i64 0] 192))) := fun wx hx => by
    have ep : (part l 0 (n - 4)).length = n - 4 := part_len (by omega)
    have hz := hx.size
    refine ⟨⟨by show RdAt _ _ _ _ _ _ _; unfold RdAt; rw [ep]; exact heap_alloc_new _ _, by omega, fun i hi => ?_, part_bytes hb _ _, by omega, by omega, by omega, fun _ => by simp; omega⟩, hx.alloc hz _⟩
    rw [ep] at hi
    rw [part_low (by omega) i hi]
    exact Lib.cell?_alloc_some _ (cell_later hx (hs i (by omega)))
  have Hnum := hnum
  have Hsrc := hsrc
  generalize sumOf (part l 0 (n - 4)) = S at *
  have h44 : n - (n - 4) = 4 := by omega
  have hcne : ¬ c = n - 4 := by omega
  clear hs hrd hp1 e4 hok heq hnum hsrc hB1
  go_enter Tryz.func115, Tryz.ntmps115
  go_wp2_with fail
  rw [← hw1]
  clear hw1
  have hP1 := (below_drew (Below.refl w1.heap.size w1))
  have hP0 := (below_drew HB1)
  go_region_with (first
    | (go_at_call 140; refine (Hnum _ ?_).mono ?_; (first | exact hP1 | exact hP3); rintro e w2 ⟨rfl, hb2⟩; have hP2 := hb2; clear hb2)
    | (go_at_call 137; refine (Hsrc _ ?_).mono ?_; (first | exact hP0 | exact hP2); rintro e w3 ⟨rfl, hb3, hi3⟩; have hP4 := hb3; (try have hP3 := (hi3 hP1)); clear hb3 hi3)
    | (go_at_call 138; refine (must_t _).mono ?_; rintro e w4 ⟨rfl, rfl⟩))
  all_goals
    go_wp2
    go_ret
    first
      | exact ⟨_, rfl, hP4.size, (Hfin _ hP4).1, (Hfin _ hP4).2⟩
      | exact ⟨_, rfl, hP2.size, (Hfin _ hP2).1, (Hfin _ hP2).2⟩
/-- A call of a Go function at a step of a region that draws its order. -/
theorem cstep_call {P : Program} {w : World} {ops : Array Oper} {o : Oper} {a : Act} {K : Act → World → Prop} {Q : Exit → Act → World → Prop} {E : Prop} (hgd : o.guard = none) (f : FuncId) (args : Array Value)
    (hen : (execOp a.eval o).run P w = .ok (.enter f args) w) (R : Value → World → Prop) (hc : Calls P f args w fun e w' => ∃ v, e = .returned v ∧ R v w') (h : ∀ v w', R v w' → K (a.put o.dst v) w') :
    if Region.wanted o (yielded ops a.tmps) = true then Oper.wp P o a w K Q else E := by
  have hw : Region.wanted o (yielded ops a.tmps) = true := by simp [Region.wanted, hgd]
  rw [if_pos hw]
  unfold Oper.wp
  rw [hen, Oper.upon_enter]
  refine hc.mono ?_
  rintro e w' ⟨v, rfl, hr⟩
  exact h v w' hr
/-- A call that gives up, at such a step: nothing follows. -/
theorem step_dies {P : Program} {w : World} {ops : Array Oper} {o : Oper} {a : Act} {K : Act → World → Prop} {Q : Exit → Act → World → Prop} {E : Prop} (hgd : o.guard = none) (f : FuncId) (args : Array Value)
    (hen : (execOp a.eval o).run P w = .ok (.enter f args) w) (chain : List PanicEntry) (hc : Calls P f args w fun e w' => e = .panicked chain ∧ w' = w) (hq : Q (.panic chain) a w) (_ : False → K (a.put o.dst undef) w) :
    if Region.wanted o (yielded ops a.tmps) = true then Oper.wp P o a w K Q else E := by
  have hw : Region.wanted o (yielded ops a.tmps) = true := by simp [Region.wanted, hgd]
  rw [if_pos hw]
  unfold Oper.wp
  rw [hen, Oper.upon_enter]
  refine hc.mono ?_
  rintro e w' ⟨rfl, rfl⟩
  exact hq

set_option maxRecDepth 20000 in
set_option maxHeartbeats 4000000 in
theorem summed_no (b o n c : Nat) (l : List Int) (w : World) (hl : l.length = n) (h4 : 4 < n) (hn : n ≤ 1000000) (hc : n ≤ c) (hcc : c ≤ 9223372036854775807) (hb : Bytes l) (hs : ∀ i, i < n → w.cell? ⟨b, o + i, none⟩ = some (.int .u8 (l.getD i 0))) (hok : ¬ SumOk l) :
    Calls Tryz.prog 115 #[.slice (some ⟨b, o, none⟩) n c] w fun e w' => e = .panicked gaveUp ∧ Below w.heap.size w w' := by
  have hbw : b < w.heap.size := World.block_lt_of_cell? _ _ (hs 0 (by omega))
  have esub : (n : Int) - 4 = ((n - 4 : Nat) : Int) := by omega
  have i1 : (0 : Int) ≤ (((n - 4 : Nat)) : Int) := by omega
  have i2 : (((n - 4 : Nat)) : Int) ≤ (n : Int) := by omega
  have i3 : (((n - 4 : Nat)) : Int) ≤ (c : Int) := by omega
  obtain ⟨w1, hw1⟩ : ∃ w1, w1 = w.alloc (.cells #[.slice (some ⟨b, o + (n - 4), none⟩) 4 (c - (n - 4)), .int .i64 0] 192) := ⟨_, rfl⟩
  have hB1 : Below w.heap.size w w1 := by rw [hw1]; exact (Below.refl _ w).alloc (Nat.le_refl _) _
  have hp1 : w1.heap[w.heap.size]? = some (.cells #[.slice (some ⟨b, o + (n - 4), none⟩) 4 (c - (n - 4)), .int .i64 0] 192 (0, 0)) := by rw [hw1]; exact heap_alloc_new _ _
  have hsz1 : w1.heap.size = w.heap.size + 1 := by rw [hw1]; simp
  have e4 : (part l (n - 4) 4).length = 4 := part_len (by omega)
  have hrd : ∀ wx : World, Below w1.heap.size w1 wx → Rd wx w.heap.size b (o + (n - 4)) (c - (n - 4)) 0 (part l (n - 4) 4) := fun wx hx =>
    ⟨by show RdAt _ _ _ _ _ _ _; unfold RdAt; rw [e4]; exact (hx.block _ (by omega)).trans hp1, by omega, fun i hi => by
      rw [e4] at hi
      rw [part_at hi, Nat.add_assoc]
      exact cell_later (hB1.trans (hx.mono (by omega))) (hs (n - 4 + i) (by omega)), part_bytes hb _ _, by omega, by omega, by omega, fun _ => by have := hx.size; omega⟩
  have hnum : ∀ wx : World, Below w1.heap.size w1 wx → Calls Tryz.prog 140 #[.pointer (some ⟨w.heap.size, 0, none⟩), .int .i64 4] wx fun e w' => e = .returned (.int .i64 ((le (part l (n - 4) 4) : Nat) : Int)) ∧ Below w.heap.size w w' := fun wx hx => by
    refine (crnumber_any _ _ _ _ 0 4 _ wx (hrd wx hx) (by omega) (by omega) (by omega)).mono ?_
    rintro e w' ⟨rfl, _, hk⟩
    have e0 : part (part l (n - 4) 4) 0 4 = part l (n - 4) 4 := by
      show ((part l (n - 4) 4).drop 0).take 4 = _
      rw [List.drop_zero, List.take_of_length_le (by omega)]
    have hle := le_lt (part_bytes hb (n - 4) 4)
    rw [e4] at hle
    refine ⟨?_, (hB1.trans (hx.mono (by omega))).trans (hk.below (fun j hj => by omega) (by have := hx.size; omega))⟩
    rw [e0]
    congr 2
    unfold wrap64
    have : (2 : Nat) ^ (8 * 4) = 4294967296 := rfl
    omega
  have hsrc : ∀ wx : World, Below w.heap.size w wx → Calls Tryz.prog 137 #[.slice (some ⟨b, o, none⟩) (n - 4) c] wx fun e w' => e = .returned (.int .i64 ((sumOf (part l 0 (n - 4)) : Nat) : Int)) ∧ Below w.heap.size w w' ∧ (Below w1.heap.size w1 wx → Below w1.heap.size w1 w') := fun wx hx =>
    (sum_any (some ⟨b, o, none⟩) (n - 4) c _ wx (part_bytes hb _ _) (by omega) ⟨part_len (l := l) (k := 0) (m := n - 4) (by omega), (fun h => by cases h), fun x hx' i hi => by
      cases hx'
      rw [addr_add, part_low (by omega) i hi]
      exact cell_later hx (hs i (by omega))⟩).mono (by rintro e w' ⟨rfl, hbb⟩; exact ⟨rfl, hx.trans (hbb.mono hx.size), fun h => h.trans (hbb.mono h.size)⟩)
  have heq : le (part l (n - 4) 4) ≠ sumOf (part l 0 (n - 4)) := by have := hok; unfold SumOk at this; rw [hl] at this; exact this
  have hself : (((le (part l (n - 4) 4) : Nat) : Int) == ((sumOf (part l 0 (n - 4)) : Nat) : Int)) = false := by rw [Bool.eq_false_iff, ne_eq, beq_iff_eq]; omega
  generalize sumOf (part l 0 (n - 4)) = S at *
  generalize le (part l (n - 4) 4) = L at *
  have h44 : n - (n - 4) = 4 := by omega
  have hcne : ¬ c = n - 4 := by omega
  go_enter Tryz.func115, Tryz.ntmps115
  go_wp2_with fail
  rw [← hw1]
  have hP1 := (below_drew (Below.refl w1.heap.size w1))
  have hP0 := (below_drew hB1)
  have Hnum2 : (∀ wx : World, Below w1.heap.size w1 wx → Calls Tryz.prog 140 #[.pointer (some ⟨w.heap.size, 0, none⟩), .int .i64 4] wx fun e w' => ∃ v, e = .returned v ∧ (v = .int .i64 (L : Int) ∧ Below w.heap.size w w')) := fun wx hx => (hnum wx hx).mono (by rintro e w' ⟨rfl, h⟩; exact ⟨_, rfl, rfl, h⟩)
  have Hsrc2 : (∀ wx : World, Below w.heap.size w wx → Calls Tryz.prog 137 #[.slice (some ⟨b, o, none⟩) (n - 4) c] wx fun e w' => ∃ v, e = .returned v ∧ (v = .int .i64 (S : Int) ∧ Below w.heap.size w w' ∧ (Below w1.heap.size w1 wx → Below w1.heap.size w1 w'))) := fun wx hx => (hsrc wx hx).mono (by rintro e w' ⟨rfl, h⟩; exact ⟨_, rfl, rfl, h⟩)
  go_region_law
    (first
      | (refine cstep_call (by rfl) 140 #[.pointer (some ⟨w.heap.size, 0, none⟩), .int .i64 4] (by simp [go_sem]) _ (Hnum2 _ ?_) ?_; (first | exact hP1 | exact hP3); rintro _ w2 ⟨rfl, hb2⟩; have hP2 := hb2; clear hb2)
      | (refine cstep_call (by rfl) 137 #[.slice (some ⟨b, o, none⟩) (n - 4) c] (by simp [go_sem]) _ (Hsrc2 _ ?_) ?_; (first | exact hP0 | exact hP2); rintro _ w3 ⟨rfl, hb3, hi3⟩; have hP4 := hb3; (try have hP3 := (hi3 hP1)); clear hb3 hi3)
      | (refine step_dies (by rfl) 138 #[.bool false] (by simp [go_sem]) gaveUp (must_f _) ?_ ?_; (first | exact ⟨rfl, rfl, hP4⟩ | exact ⟨rfl, rfl, hP2⟩); intro hF))
  all_goals exact hF.elim
end Go.Proofs.YtokcgifpljeoiaaGreat
end
