import Derived.Test.YthohoicgidjpfabGreatPD7
namespace Go.Proofs.YthohoicgidjpfabGreat
open Go.RowKit

section
variable {w w' : World} {F X : Nat → Prop} {kr p s cR q l m t n a1 k : Nat} {x2 x3 : Value} {S : DS} {G : SG} {T : TG} {M : MP}
theorem same512 {g g' c c' : Nat} {ty : TypeId} {d d' : List Int} (h : Blk w ty g d) (h' : RowAt w 5 g' c' (bs d')) (hl : d.length = 512) (hl' : d'.length = 512) : Calls Tryz.prog 31 #[.slice (some ⟨g, 0, none⟩) 512 c, .slice (some ⟨g', 0, none⟩) 512 c'] w fun e w' => e = .returned (.bool (decide (d = d'))) ∧ Below w.heap.size w w' :=
  same6_any g 0 g' 0 512 c c' d d' w (by omega) hl hl' (fun i hi => by rw [Nat.zero_add]; exact h.cell (by omega)) (fun i hi => by rw [Nat.zero_add]; exact h'.get (by omega))
theorem Blk.later {ty : TypeId} {g : Nat} {d : List Int} (h : Blk w ty g d) (hb : Below w.heap.size w w') : Blk w' ty g d := (hb.block g h.lt).trans h
set_option maxRecDepth 20000 in
set_option maxHeartbeats 8000000 in
theorem looks_ok (h : TX w F p s cR q l m t n S G T) (hp : PoolAt w F a1 t n) (hrb : w.heap[kr]? = some (.cells (rigC p q x2 x3 k true) 38 (0, 0))) (hkr : ¬ OwT F t n kr) (hm : MX w X k M) (hXO : ∀ j, X j → ¬ OwT F t n j) (h0 : T.state G S = 0) (hm0 : M.state = 0) (hbl : M.blocks = G.y.blocks) (hrl : M.raw.length = G.y.blocks) (hsee : ∀ b, 2 ≤ b → b < G.y.blocks → M.raw[b]? = some (T.sees G S b)) (e0 : T.sees G S 0 = bmOf M.nb) (e1 : T.sees G S 1 = bmOf M.nn) :
    Calls Tryz.prog 12 #[.pointer (some ⟨kr, 0, none⟩), .pointer (some ⟨a1, 0, none⟩)] w fun e w' => e = .returned (.bool true) ∧ (∃ c', TX w' F p s c' q l m t n S G T) ∧ Keeps (OwT F t n) w w' := by
  have hb2 := h.yk.b2
  have k1 := get6_any h 0 (refusal_in h0 (by omega))
  have k2 := fun (w1 : World) (hx1 : TX w1 F p s (cR + 1) q l m t n S G T) => get6_any hx1 1 (refusal_in h0 (by omega))
  have hl0 := h.len 0 (by omega)
  have hl1 := h.len 1 (by omega)
  have c0 := hp.c0
  have HCe : Hid (∀ wr, Keeps (OwT F t n) w wr → wr.cell? ⟨kr, 4, none⟩ = some (.pointer (some ⟨k, 0, none⟩)) ∧ MX wr X k M) := fun wr hk => ⟨cell_of_block ((hk.block kr (lt_there hrb) hkr).trans hrb) (j := 4) rfl, hm.apart hk (fun j hj hx => hXO j hx hj)⟩
  have HO : Hid (∀ (wr : World) (c' : Nat), Keeps (OwT F t n) w wr → TX wr F p s c' q l m t n S G T → Calls Tryz.prog 33 #[.pointer (some ⟨kr, 0, none⟩), .pointer (some ⟨a1, 0, none⟩)] wr fun e w' => e = .returned (.bool true) ∧ (∃ c', TX w' F p s c' q l m t n S G T) ∧ Keeps (OwT F t n) wr w') := fun wr c' hk hx => others_any hx (hp.keep hk) ((hk.block kr (lt_there hrb) hkr).trans hrb) hkr (hm.apart hk (fun j hj hx => hXO j hx hj)) hXO h0 hbl hrl hsee
  have HP := Hid.mk hp
  have HE0 := Hid.mk (And.intro e0 e1)
  have HLT := Hid.mk h.st.d.lt
  clear h hp hrb hm hXO h0 hbl hrl hsee hkr hb2 e0 e1
  go_enter Tryz.func12, Tryz.ntmps12
  go_wp2_with fail
  refine k1.mono ?_
  rintro e w1 ⟨⟨g1, rfl, hg1, hblk1⟩, hx1, hk1⟩
  have hp1 := HP.out.keep (hk1.mono (fun _ h => .inl h))
  have c0' := hp1.c0
  have k3 := k2 w1 hx1
  have HA := Hid.mk (And.intro hblk1 hk1)
  clear k1 k2 hx1 hp1 c0 hblk1 hk1
  go_wp2_with fail
  refine k3.mono ?_
  rintro e w2 ⟨⟨g2, rfl, hg2, hblk2⟩, hx2, hk2⟩
  have hb1 : Blk w2 112 g1 (T.sees G S 0) := (hk2.block g1 HA.out.1.lt (fun hf => by have := HLT.out g1 hf; omega)).trans HA.out.1
  have hK2 : Keeps (OwT F t n) w w2 := (HA.out.2.trans hk2 (fun _ h => .inl h)).mono (fun _ h => .inl h)
  obtain ⟨ce, hm2⟩ := HCe.out w2 hK2
  have km := mstate_any hm2
  rw [hm0] at km
  have H2 := Hid.mk (And.intro hx2 (And.intro hK2 (And.intro hb1 hblk2)))
  have HM := Hid.mk hm2
  clear k3 hx2 hk2 hK2 hb1 hblk2 hm2 HA c0' hg1 hg2
  go_wp2_with fail
  refine km.mono ?_
  rintro e wx ⟨rfl, hwx⟩
  have hwx' := hwx.symm
  subst hwx'
  clear hwx km
  have kn := num6_any 0 w2
  obtain ⟨gq1, cq1, gq2, cq2, gq3, cq3, gq4, cq4, v5, v6, v7, hma⟩ := HM.out
  have c5 : w2.cell? ⟨k, 5, none⟩ = some (slB gq3 cq3) := cell_of_block hma.b (j := 5) rfl
  have c6 : w2.cell? ⟨k, 6, none⟩ = some (slB gq4 cq4) := cell_of_block hma.b (j := 6) rfl
  have kb1 := bytes6_any hma.nb.2.1 hma.nb.2.2
  have Hma := Hid.mk (And.intro hma (And.intro c6 ce))
  clear hma
  go_wp2_with fail
  refine kn.mono ?_
  rintro e wx ⟨rfl, hwx⟩
  have hwx' := hwx.symm
  subst hwx'
  clear hwx
  go_wp2_with fail
  refine kn.mono ?_
  rintro e wx ⟨rfl, hwx⟩
  have hwx' := hwx.symm
  subst hwx'
  clear hwx kn
  go_wp2_with fail
  refine kb1.mono ?_
  rintro e w3 ⟨v3, rfl, ho3, hb3⟩
  obtain ⟨g3, c3, e3, hg3, hr3⟩ := ho3.row' (by rw [bmOf_len]; omega)
  rw [bmOf_len] at e3
  subst e3
  have ks1 := same512 (c := 512) (H2.out.2.2.1.later hb3) hr3 hl0 (bmOf_len _)
  rw [decide_eq_true HE0.out.1] at ks1
  have HB3 := Hid.mk hb3
  clear kb1 ho3 hr3 hb3 c5 c6 ce
  go_wp2_with fail
  refine ks1.mono ?_
  rintro e w4 ⟨rfl, hb4⟩
  have hB4 : Below w2.heap.size w2 w4 := HB3.out.trans (hb4.mono HB3.out.size)
  have c6' := cell_later hB4 Hma.out.2.1
  have ce' := cell_later hB4 Hma.out.2.2
  have kb2 := bytes6_any (w := w4) (Hma.out.1.nn.2.1.agree (hB4.block _ Hma.out.1.nn.2.1.lt)) Hma.out.1.nn.2.2
  have HB4 := Hid.mk hB4
  clear ks1 hb4 hB4 HB3
  go_wp2_with fail
  refine kb2.mono ?_
  rintro e w5 ⟨v5', rfl, ho5, hb5⟩
  obtain ⟨g5, c5', e5, hg5, hr5⟩ := ho5.row' (by rw [bmOf_len]; omega)
  rw [bmOf_len] at e5
  subst e5
  have hB5 : Below w2.heap.size w2 w5 := HB4.out.trans (hb5.mono HB4.out.size)
  have ks2 := same512 (c := 512) (H2.out.2.2.2.later hB5) hr5 hl1 (bmOf_len _)
  rw [decide_eq_true HE0.out.2] at ks2
  have HB5 := Hid.mk hB5
  clear kb2 ho5 hr5 hb5 hB5 c6' ce' HB4
  go_wp2_with fail
  refine ks2.mono ?_
  rintro e w6 ⟨rfl, hb6⟩
  have hB6 : Below w2.heap.size w2 w6 := HB5.out.trans (hb6.mono HB5.out.size)
  have hK6 : Keeps (OwT F t n) w w6 := H2.out.2.1.trans (Keeps.of_below (fun _ => False) hB6) (fun _ h => h.elim)
  have ko := HO.out w6 _ hK6 (H2.out.1.later hB6)
  have HK6 := Hid.mk hK6
  clear ks2 hb6 hB6 hK6 HB5
  go_wp2_with fail
  refine ko.mono ?_
  rintro e w7 ⟨rfl, hx7, hk7⟩
  have HE := Hid.mk (And.intro hx7 (HK6.out.trans hk7 (fun _ h => .inl h)))
  clear ko hx7 hk7
  go_wp2
  go_ret
  exact ⟨rfl, HE.out⟩
end
end Go.Proofs.YthohoicgidjpfabGreat
