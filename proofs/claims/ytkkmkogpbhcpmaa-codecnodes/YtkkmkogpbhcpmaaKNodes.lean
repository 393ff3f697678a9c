import Derived.Test.YtkkmkogpbhcpmaaKNE2
import Derived.Test.YtkkmkogpbhcpmaaKBox
import Derived.Test.YtkkmkogpbhcpmaaKOpenN
import Derived.Test.YtkkmkogpbhcpmaaKOpenL
import Derived.Test.YtkkmkogpbhcpmaaKHelp
namespace Go.Proofs.Ytkkmkogpbhcpmaa
open Go.RowKit

theorem range_later {w w' : World} {b o : Nat} {cs : List Value} (h : w.rangeAt b o cs) (hb : Below w.heap.size w w') : w'.rangeAt b o cs := fun j v hv => cell_later hb (h j v hv)
/-- What is answered by an encoder: bytes that can be read. -/
def EncO (w w' : World) (v : Value) (l : List Int) : Prop := ∃ a c, v = .slice a l.length c ∧ Src w' a l.length l ∧ Below w.heap.size w w'
theorem encO_of {x : NV} {w w' : World} {v : Value} {b : List Int} {E : Int} (h : EncR x b E) (hm : E = 0 → Made w w' v b) (hv : E ≠ 0 → v = .slice none 0 0) (hb : Below w.heap.size w w') : EncO w w' v b := by
  by_cases hE : E = 0
  · obtain ⟨g, c, rfl, _, hr, hbb⟩ := hm hE
    exact ⟨_, c, rfl, hr.src, hbb⟩
  · have hb0 : b = [] := by
      rcases h with ⟨_, _, h⟩ | ⟨_, _, _, h⟩ | ⟨_, _, h, _⟩
      · exact absurd h hE
      · exact absurd h hE
      · exact h
    rw [hv hE, hb0]
    exact ⟨none, 0, rfl, ⟨rfl, fun _ => rfl, fun x hx => by cases hx⟩, hb⟩
theorem encR_len {x : NV} {b : List Int} {E : Int} (h : EncR x b E) : b.length ≤ 128 := by
  rcases h with ⟨_, h, _⟩ | ⟨_, _, h, _⟩ | ⟨_, _, h, _⟩
  · rw [h, zeros128_len]; omega
  · rw [h, sealed_len, nodeBody_len]; omega
  · rw [h]; exact Nat.zero_le _
theorem encnode_o (x : NV) (w : World) : Calls Try.prog 46 #[x.v] w fun e w' => ∃ v b E, EncR x b E ∧ e = .returned (.tuple #[v, .int .i64 E]) ∧ EncO w w' v b := by
  refine (encnode_any x w).mono ?_
  rintro e w' ⟨v, b, E, h, rfl, hm, hv, hb⟩
  exact ⟨v, b, E, h, rfl, encO_of h hm hv hb⟩
theorem rencnode_o (x : NV) (w : World) : Calls Try.prog 47 #[x.v] w fun e w' => ∃ v b E, EncR x b E ∧ e = .returned (.tuple #[v, .int .i64 E]) ∧ EncO w w' v b := by
  refine (rencnode_any x w).mono ?_
  rintro e w' ⟨v, b, E, h, rfl, hm, hv, hb⟩
  exact ⟨v, b, E, h, rfl, encO_of h hm hv hb⟩
/-- A node's box. -/
def Bx (w : World) (g : Nat) : Prop := ∃ cs : Array Value, cs.size = 17 ∧ w.heap[g]? = some (.cells cs 76 (0, 0))
theorem Bx.far {w w' : World} {g : Nat} (h : Bx w g) (hb : Below w.heap.size w w') : Bx w' g := by
  obtain ⟨cs, h1, h2⟩ := h
  exact ⟨cs, h1, (hb.block g (Array.getElem?_eq_some_iff.1 h2).1).trans h2⟩
theorem Bx.keep {w w' : World} {F : Nat → Prop} {g : Nat} (h : Bx w g) (hk : Keeps F w w') (hg : ¬ F g) : Bx w' g := by
  obtain ⟨cs, h1, h2⟩ := h
  exact ⟨cs, h1, (hk.block g (Array.getElem?_eq_some_iff.1 h2).1 hg).trans h2⟩
theorem Bx.there {w : World} {g : Nat} (h : Bx w g) : w.there g 0 17 := by
  obtain ⟨cs, h1, h2⟩ := h
  exact there_node h2 h1
theorem setArr_size : ∀ (vs : List Value) (o : Nat) (cs : Array Value), (setArr cs o vs).size = cs.size
  | [], _, _ => rfl
  | v :: r, o, cs => by rw [setArr, setArr_size r]; simp
theorem Bx.puts {w : World} {g : Nat} (h : Bx w g) (F : List Value) : Bx (w.setCells g 0 F) g := by
  obtain ⟨cs, h1, h2⟩ := h
  exact ⟨_, by rw [setArr_size]; exact h1, heap_setCells_same F 0 _ _ h2⟩
theorem RowAt.neB {w : World} {g c q : Nat} {xs : List Value} (h : RowAt w 5 g c xs) (hq : Bx w q) : g ≠ q := by
  obtain ⟨cs, _, hq⟩ := hq
  exact h.ne hq (by decide)
theorem BoxN.bx {x : NV} {w2 w3 : World} {F : List Value} (h : BoxN x w2 w3 F) : Bx w3 w2.heap.size := by
  have h0 : Bx (w2.alloc (.cells (ndc 0 0 0 0 0 (fun _ => 0)) 76)) w2.heap.size := ⟨_, rfl, heap_alloc_new _ _⟩
  rw [h.made]
  exact h0.puts F

set_option maxRecDepth 20000 in
set_option maxHeartbeats 16000000 in
theorem codecNodes_any (a : Option Addr) (n c : Nat) (a2 : Option Addr) (n2 c2 : Nat) (w : World) (hs : Nodes w w.heap.size a n) (hn : 136 * n ≤ 140737488355328) (hs2 : Lists w w.heap.size a2 n2) (hn2 : 24 * n2 ≤ 140737488355328) :
    Calls Try.prog 7 #[.slice a n c, .slice a2 n2 c2] w fun e w' => e = .returned (.bool true) ∧ Below w.heap.size w w' := by
  have h0 := decnode_len none 0 0 w (by decide) (by omega)
  have Hs := Hid.mk hs
  have Hs2 := Hid.mk hs2
  clear hs hs2
  go_enter Try.func7, Try.ntmps7
  go_wp2_with fail
  refine h0.mono ?_
  rintro e w1 ⟨rfl, hb1⟩
  obtain ⟨F0, w2, hbx0⟩ := boxN nv0 w1
  have HB2 : Hid (Below w.heap.size w w2) := hb1.trans (hbx0.below.mono hb1.size)
  have hth0 := hbx0.there
  have hall0 := hbx0.all
  have hinf0 := hbx0.info
  have HX0 := Hid.mk hbx0
  clear h0 hb1 hbx0
  go_wp2_with (refine wpList_store_mid rfl 76 _ _ rfl w1.heap.size 0 F0.toArray rfl (by rw [HX0.out.eq]; rfl) ?p1 ?p2 hall0 ?_)
  case p1 => exact hth0
  case p2 => simpa using hinf0
  have hmd0 := HX0.out.made
  rw [← hmd0]
  clear hmd0 HX0 hth0 hall0 hinf0
  go_loopw [7] (fun i wr => ∃ k : Nat, k ≤ n ∧ i = .int .i64 k ∧ Below w.heap.size w wr) (fun i _ => n - (intOf i).toNat)
  case atStart => exact ⟨0, Nat.zero_le _, rfl, HB2.out⟩
  case round =>
    clear HB2
    obtain ⟨k, hk, rfl, hbr⟩ := hrel
    by_cases hlt : k < n
    · have hlt' : (k : Int) < (n : Int) := by omega
      obtain ⟨x, rfl⟩ : ∃ x, a = some x := by
        cases a with
        | none => have := Hs.out.1 rfl; omega
        | some x => exact ⟨x, rfl⟩
      obtain ⟨b, o, rfl, hbB, K, L, P, S, Q, D, hra⟩ := (Hs.out.far hbr).2 x rfl k hlt
      have Hra := Hid.mk hra
      have he := encnode_o ⟨K, L, P, S, Q, D⟩ wr
      have hr := Hid.mk (fun wx => rencnode_o ⟨K, L, P, S, Q, D⟩ wx)
      have HB := Hid.mk hbr
      clear hra hbr Hs2
      go_wp2_with (refine wpList_load_mid rfl 76 _ rfl b (o + k * 17) rfl (ndl K L P S Q D) _ Hra.out Try.underlying76 rfl infoNode ?_)
      refine he.mono ?_
      rintro e wa ⟨v1, b1, E1, hen1, rfl, aa, ca, rfl, hsrc1, hba⟩
      have Hra2 := Hid.mk (range_later Hra.out hba)
      have HBa : Hid (Below w.heap.size w wa) := HB.out.trans (hba.mono HB.out.size)
      have HS1 := Hid.mk hsrc1
      have HEn := Hid.mk hen1
      clear he hba HB Hra hsrc1 hen1
      go_wp2_with (refine wpList_load_mid rfl 76 _ rfl b (o + k * 17) rfl (ndl K L P S Q D) _ Hra2.out Try.underlying76 rfl infoNode ?_)
      refine (hr.out _).mono ?_
      rintro e wb ⟨v2, b2, E2, hen2, rfl, ab, cb, rfl, hsrc2, hbb⟩
      obtain ⟨hbe, hee⟩ := encR_unique HEn.out hen2
      subst hbe
      subst hee
      have hsa := same_any aa ab b1.length ca cb b1 wb (by have := encR_len HEn.out; omega) (HS1.out.later hbb) hsrc2
      have HBb : Hid (Below w.heap.size w wb) := HBa.out.trans (hbb.mono HBa.out.size)
      have hself : (E1 != E1) = false := by simp
      clear hr hsrc2 hbb HBa HS1 HEn hen2 Hra2
      go_wp2_with fail
      refine hsa.mono ?_
      rintro e wc ⟨rfl, hbc⟩
      have HBc : Hid (Below w.heap.size w wc) := HBb.out.trans (hbc.mono HBb.out.size)
      clear hsa hbc HBb
      go_wp2
      go_roundw
      case rel => exact ⟨k + 1, by omega, by go_num, HBc.out⟩
      case measure => simp [intOf]; omega
    have hlt' : ¬ (k : Int) < (n : Int) := by omega
    have HB := Hid.mk hbr
    clear hbr Hs
    go_wp2
    go_loopw [12] (fun i wx => ∃ k : Nat, k ≤ n2 ∧ i = .int .i64 k ∧ Below w.heap.size w wx) (fun i _ => n2 - (intOf i).toNat)
    case atStart => exact ⟨0, Nat.zero_le _, rfl, HB.out⟩
    case round =>
      clear HB
      obtain ⟨j, hj, rfl, hbr⟩ := hrel
      by_cases hltj : j < n2
      rotate_left
      · have hltj' : ¬ (j : Int) < (n2 : Int) := by omega
        go_wp2
        go_ret
        exact ⟨rfl, hbr⟩
      have hltj' : (j : Int) < (n2 : Int) := by omega
      obtain ⟨x, rfl⟩ : ∃ x, a2 = some x := by
        cases a2 with
        | none => have := Hs2.out.1 rfl; omega
        | some x => exact ⟨x, rfl⟩
      obtain ⟨b, o, rfl, hbB, a', n', c', l, q0, hsrc, hby, hold, hn', hcap⟩ := (Hs2.out.far hbr).2 x rfl j hltj
      have ht := twin_any a' n' c' l wr hn' hsrc
      have HB := Hid.mk hbr
      have Hsrc := Hid.mk hsrc
      have hll := hsrc.1
      clear hbr hsrc
      go_wp2_with fail
      refine ht.mono ?_
      rintro e w3 ⟨g, rfl, hg, hrow, hb3⟩
      have q3 := cell_later hb3 q0
      have hd := decnode_any (some ⟨g, 0, none⟩) n' (n' + 5) l w3 (pad_src hrow hll) hby hn' (by omega) (by omega)
      have HB3 : Hid (Below w.heap.size w w3) := HB.out.trans (hb3.mono HB.out.size)
      have Hrow := Hid.mk hrow
      have Hs3 := Hid.mk (Hsrc.out.later hb3)
      have Q3 := Hid.mk q3
      clear ht hb3 hrow q0 HB Hsrc q3
      go_wp2_with fail
      refine hd.mono ?_
      rintro e w4 ⟨X, E, hdr, rfl, hb4⟩
      obtain ⟨F1, w5, hbx1⟩ := boxN X w4
      have hth1 := hbx1.there
      have hall1 := hbx1.all
      have hinf1 := hbx1.info
      have HB4 : Below w.heap.size w w4 := HB3.out.trans (hb4.mono HB3.out.size)
      have HB5 : Hid (Below w.heap.size w w5) := HB4.trans (hbx1.below.mono HB4.size)
      have Hs5 := Hid.mk ((Hs3.out.later hb4).later hbx1.below)
      have Hrow5 := Hid.mk ((Hrow.out.agree (hb4.block g Hrow.out.lt)).agree (hbx1.below.block g (Nat.lt_of_lt_of_le Hrow.out.lt hb4.size)))
      have Q5 := Hid.mk (cell_later hbx1.below (cell_later hb4 Q3.out))
      have q5 := Q5.out
      rw [hbx1.made] at q5
      have HBx5 := Hid.mk hbx1.bx
      have HR5 := Hid.mk hbx1.range
      have hgw := Hid.mk (show w.heap.size ≤ w4.heap.size from HB4.size)
      have hrd := rdecnode_any a' n' c' l w5 Hs5.out hby hn' hcap
      have HX1 := Hid.mk hbx1
      have HDr := Hid.mk hdr
      clear hd hb4 hbx1 HB4 Hs3 Hrow HB3 Q3 hdr
      go_wp2_with (refine wpList_store_mid rfl 76 _ _ rfl w4.heap.size 0 F1.toArray rfl (by rw [HX1.out.eq]; rfl) ?s1 ?s2 hall1 ?_)
      case s1 => exact hth1
      case s2 => simpa using hinf1
      have hmd1 := HX1.out.made
      rw [← hmd1]
      clear hmd1 hth1 hall1 q5
      refine hrd.mono ?_
      rintro e w6 ⟨Y, E', hdr', rfl, hb6⟩
      obtain ⟨hxy, hee⟩ := decR_unique HDr.out hdr'
      subst hxy
      subst hee
      obtain ⟨F2, w7, hbx2⟩ := boxN X w6
      have hth2 := hbx2.there
      have hall2 := hbx2.all
      have hinf2 := hbx2.info
      have HB6 : Below w.heap.size w w6 := HB5.out.trans (hb6.mono HB5.out.size)
      have HB7 : Hid (Below w.heap.size w w7) := HB6.trans (hbx2.below.mono HB6.size)
      have hs7 := (Hs5.out.later hb6).later hbx2.below
      have hrow7 := (Hrow5.out.agree (hb6.block g Hrow5.out.lt)).agree (hbx2.below.block g (Nat.lt_of_lt_of_le Hrow5.out.lt hb6.size))
      have Q7 := Hid.mk (cell_later hbx2.below (cell_later hb6 Q5.out))
      have q7 := Q7.out
      have hr1 := range_later (range_later HR5.out hb6) hbx2.below
      have hr2 := hbx2.range
      have hwh := whole_any g n' a' c' l w7 hn' hrow7 hs7
      have HBx7 : Hid (Bx w7 w4.heap.size ∧ Bx w7 w6.heap.size) := ⟨(HBx5.out.far hb6).far hbx2.below, hbx2.bx⟩
      have hlt46 : w4.heap.size < w6.heap.size := by
        obtain ⟨cs, _, h⟩ := HBx5.out.far hb6
        exact (Array.getElem?_eq_some_iff.1 h).1
      rw [hbx2.made] at q7 hr1 hr2
      have Hr1 := Hid.mk hr1
      have Hr2 := Hid.mk hr2
      have HX2 := Hid.mk hbx2
      have Hs7 := Hid.mk hs7
      have HS : Hid ((false = true) ↔ ¬ NSame X.k X.l X.p X.s X.o X.d X.k X.l X.p X.s X.o X.d) := ⟨fun h => (by cases h), fun h => absurd X.same h⟩
      have hselfE : (E != E) = false := by simp
      clear hrd hdr' hb6 hbx2 HB5 HB6 Hs5 Hrow5 Q5 HBx5 HR5 HDr hr1 hr2 hs7 hrow7
      go_wp2_with (first | refine wpList_store_mid rfl 76 _ _ rfl w6.heap.size 0 F2.toArray rfl (by rw [HX2.out.eq]; rfl) ?t1 ?t2 hall2 ?_ | refine wpList_load_mid rfl 76 _ rfl w4.heap.size 0 rfl F1 _ Hr1.out Try.underlying76 rfl hinf1 ?_ | refine wpList_load_mid rfl 76 _ rfl w6.heap.size 0 rfl F2 _ Hr2.out Try.underlying76 rfl hinf2 ?_ | (refine wpList_ne_node ?hg _ _ _ rfl X.k X.l X.p X.s X.o X.d X.k X.l X.p X.s X.o X.d (by rw [HX1.out.eq]; rfl) (by rw [HX2.out.eq]; rfl) false HS.out ?_; case hg => rfl))
      case t1 => exact hth2
      case t2 => simpa using hinf2
      have hmd2 := HX2.out.made
      rw [← hmd2]
      clear hmd2 hth2 hall2 hinf2 hinf1 q7 Hr1 Hr2 HX1 HX2 HS
      refine hwh.mono ?_
      rintro e w8 ⟨rfl, hb8⟩
      have q8 := cell_later hb8 Q7.out
      have hti := tight_any a' n' c' l w8 hn' (Hs7.out.later hb8)
      have HB8 : Hid (Below w.heap.size w w8) := HB7.out.trans (hb8.mono HB7.out.size)
      have B8 := Hid.mk (And.intro (HBx7.out.1.far hb8) (HBx7.out.2.far hb8))
      clear hwh hb8 HB7 HBx7 Hs7 Q7
      go_wp2_with fail
      refine hti.mono ?_
      rintro e w9 ⟨g9, rfl, hg9, hrow9, hb9⟩
      have hL : Hid (Below w.heap.size w w9 ∧ Bx w9 w4.heap.size ∧ Bx w9 w6.heap.size ∧ ∃ l', RowAt w9 5 g9 n' (bs l') ∧ l'.length = n' ∧ Bytes l') := ⟨HB8.out.trans (hb9.mono HB8.out.size), B8.out.1.far hb9, B8.out.2.far hb9, l, hrow9, hll, hby⟩
      have hg9' : w.heap.size ≤ g9 := Nat.le_trans HB8.out.size hg9
      have hgw' := hgw.out
      clear hti hb9 hrow9 HB8 B8 hg9 q8 hgw
      go_wp2
      go_loopw [19] (fun i wx => ∃ m : Nat, m ≤ 3 ∧ i = .int .i64 m ∧ Below w.heap.size w wx ∧ Bx wx w4.heap.size ∧ Bx wx w6.heap.size ∧ ∃ l', RowAt wx 5 g9 n' (bs l') ∧ l'.length = n' ∧ Bytes l') (fun i _ => 3 - (intOf i).toNat)
      case atStart => exact ⟨0, Nat.zero_le _, rfl, hL.out⟩
      case round =>
        clear hL
        obtain ⟨m, hm, rfl, hbx, hx1, hx2, l', hrow, hll', hby'⟩ := hrel
        by_cases hlm : m < 3
        rotate_left
        · have hlm' : ¬ (m : Int) < 3 := by omega
          have HB5 := Hid.mk hbx
          clear hbx hx1 hx2 hrow
          go_wp2
          go_roundw
          case rel => exact ⟨j + 1, by omega, by go_num, HB5.out⟩
          case measure => simp [intOf]; omega
        have hlm' : (m : Int) < 3 := by omega
        have hsr : ∀ (wz : World) (gg : Nat), RowAt wz 5 gg n' (bs l') → Src wz (some ⟨gg, 0, none⟩) n' l' := fun wz gg h => by have := h.src; rw [hll'] at this; exact this
        have hd := decnode_any (some ⟨g9, 0, none⟩) n' n' l' wr (hsr _ _ hrow) hby' hn' (Nat.le_refl _) (by omega)
        have Hrow := Hid.mk hrow
        have HB0 := Hid.mk hbx
        have HX := Hid.mk (And.intro hx1 hx2)
        have Hsr := Hid.mk hsr
        clear hrow hbx hsr hx1 hx2
        go_wp2_with fail
        refine hd.mono ?_
        rintro e wa ⟨Z, Ez, hdz, rfl, hba⟩
        obtain ⟨G1, hG1⟩ : ∃ G1, G1 = ndl Z.k Z.l Z.p Z.s Z.o Z.d := ⟨_, rfl⟩
        have hg1l : G1.length = 17 := by rw [hG1]; rfl
        have hx1a := HX.out.1.far hba
        have hx2a := HX.out.2.far hba
        have hthA : wa.there w4.heap.size 0 G1.length := by rw [hg1l]; exact hx1a.there
        have hallA : G1.toArray.all (·.oneCell') = true := by rw [hG1]; exact all_oneCell_toArray (nl_one _ _ _ _ _ _)
        have hinfA : (Try.prog.info? 76).map (·.size) = some G1.length := by rw [hg1l]; exact infoNode
        have rowa := Hrow.out.agree (hba.block g9 Hrow.out.lt)
        have HBa : Below w.heap.size w wa := HB0.out.trans (hba.mono HB0.out.size)
        obtain ⟨wb, hwb⟩ : ∃ wb, wb = wa.setCells w4.heap.size 0 G1 := ⟨_, rfl⟩
        have Kb : Keeps (fun q => q = w4.heap.size) wa wb := by rw [hwb]; exact Keeps.setCells (F := fun q => q = w4.heap.size) rfl G1 0 wa
        have kb1 : Bx wb w4.heap.size := by rw [hwb]; exact hx1a.puts G1
        have kb2 := hx2a.keep Kb (by omega)
        have rb : wb.rangeAt w4.heap.size 0 G1 := by rw [hwb]; exact World.rangeAt_setCells_same _ _ _ _ hthA
        have rowb := rowa.agree (Kb.block g9 rowa.lt (rowa.neB hx1a))
        have HBb : Below w.heap.size w wb := HBa.trans (Kb.below (fun q hq => by omega) HBa.size)
        have hti := tight_any (some ⟨g9, 0, none⟩) n' n' l' wb hn' (Hsr.out _ _ rowb)
        have S1 := Hid.mk (And.intro kb1 (And.intro kb2 (And.intro rowb (And.intro HBb rb))))
        have HG1 := Hid.mk hG1
        have HDz := Hid.mk hdz
        clear hd hba hdz hG1 hg1l hx1a hx2a rowa HBa HX Hrow HB0 kb1 kb2 Kb rowb HBb rb
        go_wp2_with (refine wpList_store_mid rfl 76 _ _ rfl w4.heap.size 0 G1.toArray rfl (by rw [HG1.out]; rfl) ?x1 ?x2 hallA ?_)
        case x1 => simpa using hthA
        case x2 => simpa using hinfA
        rw [← hwb]
        clear hwb hthA hallA
        refine hti.mono ?_
        rintro e wc ⟨gc, rfl, hgc, rowc, hbc⟩
        have hrd := rdecnode_any (some ⟨gc, 0, none⟩) n' n' l' wc (Hsr.out _ _ rowc) hby' hn' (Nat.le_refl _)
        have S2 : Hid (Bx wc w4.heap.size ∧ Bx wc w6.heap.size ∧ RowAt wc 5 g9 n' (bs l') ∧ Below w.heap.size w wc ∧ wc.rangeAt w4.heap.size 0 G1) := ⟨S1.out.1.far hbc, S1.out.2.1.far hbc, S1.out.2.2.1.agree (hbc.block g9 S1.out.2.2.1.lt), S1.out.2.2.2.1.trans (hbc.mono S1.out.2.2.2.1.size), range_later S1.out.2.2.2.2 hbc⟩
        clear hti hbc rowc S1
        go_wp2_with fail
        refine hrd.mono ?_
        rintro e wd ⟨Z', Ez', hdz', rfl, hbd⟩
        obtain ⟨hzz, hez⟩ := decR_unique HDz.out hdz'
        subst hzz
        subst hez
        obtain ⟨G2, hG2⟩ : ∃ G2, G2 = ndl Z.k Z.l Z.p Z.s Z.o Z.d := ⟨_, rfl⟩
        have hg2l : G2.length = 17 := by rw [hG2]; rfl
        have kd1 := S2.out.1.far hbd
        have kd2 := S2.out.2.1.far hbd
        have rowd := S2.out.2.2.1.agree (hbd.block g9 S2.out.2.2.1.lt)
        have HBd : Below w.heap.size w wd := S2.out.2.2.2.1.trans (hbd.mono S2.out.2.2.2.1.size)
        have rd1 := range_later S2.out.2.2.2.2 hbd
        have hthB : wd.there w6.heap.size 0 G2.length := by rw [hg2l]; exact kd2.there
        have hallB : G2.toArray.all (·.oneCell') = true := by rw [hG2]; exact all_oneCell_toArray (nl_one _ _ _ _ _ _)
        have hinfB : (Try.prog.info? 76).map (·.size) = some G2.length := by rw [hg2l]; exact infoNode
        obtain ⟨we, hwe⟩ : ∃ we, we = wd.setCells w6.heap.size 0 G2 := ⟨_, rfl⟩
        have Ke : Keeps (fun q => q = w6.heap.size) wd we := by rw [hwe]; exact Keeps.setCells (F := fun q => q = w6.heap.size) rfl G2 0 wd
        have ke2 : Bx we w6.heap.size := by rw [hwe]; exact kd2.puts G2
        have ke1 := kd1.keep Ke (by omega)
        have re2 : we.rangeAt w6.heap.size 0 G2 := by rw [hwe]; exact World.rangeAt_setCells_same _ _ _ _ hthB
        have re1 : we.rangeAt w4.heap.size 0 G1 := by rw [hwe]; exact World.rangeAt_setCells_apart rd1 _ _ _ (.inl (by omega))
        have rowe := rowd.agree (Ke.block g9 rowd.lt (rowd.neB kd2))
        have HBe : Below w.heap.size w we := HBd.trans (Ke.below (fun q hq => by omega) HBd.size)
        have hbent := bent_any g9 n' (11 * (j : Int)) (11 * j) l' we (fun _ => by omega) hn' (by omega) hby' hll' rowe
        have S3 := Hid.mk (And.intro ke1 (And.intro ke2 (And.intro rowe HBe)))
        have HG2 := Hid.mk hG2
        have HS : Hid ((false = true) ↔ ¬ NSame Z.k Z.l Z.p Z.s Z.o Z.d Z.k Z.l Z.p Z.s Z.o Z.d) := ⟨fun h => (by cases h), fun h => absurd Z.same h⟩
        have hselfZ : (Ez != Ez) = false := by simp
        rw [hwe] at re1 re2
        have Re1 := Hid.mk re1
        have Re2 := Hid.mk re2
        clear hrd hdz' hbd hG2 hg2l kd1 kd2 rowd HBd rd1 S2 Ke ke1 ke2 re1 re2 rowe HBe HDz
        go_wp2_with (first | refine wpList_store_mid rfl 76 _ _ rfl w6.heap.size 0 G2.toArray rfl (by rw [HG2.out]; rfl) ?y1 ?y2 hallB ?_ | refine wpList_load_mid rfl 76 _ rfl w4.heap.size 0 rfl G1 _ Re1.out Try.underlying76 rfl hinfA ?_ | refine wpList_load_mid rfl 76 _ rfl w6.heap.size 0 rfl G2 _ Re2.out Try.underlying76 rfl hinfB ?_ | (refine wpList_ne_node ?hq _ _ _ rfl Z.k Z.l Z.p Z.s Z.o Z.d Z.k Z.l Z.p Z.s Z.o Z.d (by rw [HG1.out]; rfl) (by rw [HG2.out]; rfl) false HS.out ?_; case hq => rfl))
        case y1 => simpa using hthB
        case y2 => simpa using hinfB
        rw [← hwe]
        clear hwe hthB hallB hinfA hinfB Re1 Re2 HG1 HG2 HS
        refine hbent.mono ?_
        rintro e wf ⟨zz, l'', rfl, rowf, hllf, hbyf, hkf⟩
        have HL : Hid (Below w.heap.size w wf ∧ Bx wf w4.heap.size ∧ Bx wf w6.heap.size ∧ ∃ l', RowAt wf 5 g9 n' (bs l') ∧ l'.length = n' ∧ Bytes l') :=
          ⟨S3.out.2.2.2.trans (hkf.below (fun q hq => by omega) S3.out.2.2.2.size), S3.out.1.keep hkf (fun e => S3.out.2.2.1.neB S3.out.1 e.symm), S3.out.2.1.keep hkf (fun e => S3.out.2.2.1.neB S3.out.2.1 e.symm), l'', rowf, hllf, hbyf⟩
        clear hbent rowf hkf S3
        go_wp2
        go_roundw
        case rel => exact ⟨m + 1, by omega, by go_num, HL.out⟩
        case measure => simp [intOf]; omega
end Go.Proofs.Ytkkmkogpbhcpmaa
