import Derived.Test.YtllkjmbcjlbmbaaGreatWB9
namespace Go.Proofs.YtllkjmbcjlbmbaaGreat
open Go.RowKit Go.Maps

section
variable {w wr w' w2 w3 : World} {F F' : Nat → Prop} {pb bb p l n j low low' : Nat} {S S' X : DS} {v v' : Value} {ds ds' : List (List Int)} {nn nn' : Bool} {L L' : LG}
/-- The log is dead on its disk. -/
def KGone (w wr : World) (pb bb l : Nat) : Prop := ∃ q L G t Y, LogP wr l q L ∧ DiskR wr G q t Y ∧ L.dead Y = true ∧ L.Ok t ∧ ∀ k, G k → k ≠ pb ∧ k ≠ bb ∧ k ≠ l ∧ w.heap.size ≤ k
theorem KMem.gone (h : KMem w wr F pb bb p l n S v ds low nn) (ha : (∃ L, LogP wr l p L ∧ Alive S L n j ds low) ∨ (KB S n j ds low nn ∧ KDead w wr F pb bb p l n S)) (hj : j ≤ 100000) (pl : List P3) (hd : DiskR w' F p (n + 2) (S.crash (n + 2) pl)) (hk : Keeps F wr w') : KGone w w' pb bb l := by
  have own : ∀ L, LogP wr l p L → L.Ok (n + 2) → L.life ≤ S.life → 0 ≤ S.life → S.life ≤ ((3 + 2 * j : Nat) : Int) → KGone w w' pb bb l := fun L hl hL hle l0 lt => by
    have hlf : (S.crash (n + 2) pl).life = S.life + 1 := wrap_life l0 lt (by omega)
    refine ⟨p, L, F, n + 2, _, hl.keep hk h.fl, hd, ?_, hL, fun k hF => ⟨fun e => h.fp (e ▸ hF), fun e => h.fb (e ▸ hF), fun e => h.fl (e ▸ hF), h.fF k hF⟩⟩
    unfold LG.dead
    rw [Bool.or_eq_true]
    right
    rw [hlf, bne_iff_ne]
    omega
  rcases ha with ⟨L, hl, hA⟩ | ⟨hB, ⟨L, h1, h2, h3⟩ | ⟨q, L, G, t, Y, h1, h2, h3, h4, h5⟩⟩
  · exact own L hl (hA.i.at (i := 0) rfl).1 (by rw [hA.life]; omega) hA.i.l0 hA.i.lt
  · exact own L h1 h2 h3 hB.l0 hB.lt
  · exact ⟨q, L, G, t, Y, h1.keep hk h.fl, h2.keep hk (fun k hG => (h5 k hG).1), h3, h4, fun k hG => (h5 k hG).2⟩
theorem KGone.later (h : KGone w wr pb bb l) (hb : Below wr.heap.size wr w') : KGone w w' pb bb l := by
  obtain ⟨q, L, G, t, Y, h1, h2, h3, h4, h5⟩ := h
  exact ⟨q, L, G, t, Y, h1.later hb, h2.later hb, h3, h4, h5⟩
theorem KMem.flat (_h : KMem w wr F pb bb p l n S v ds low nn) (ha : (∃ L, LogP wr l p L ∧ Alive S L n j ds low) ∨ (KB S n j ds low nn ∧ KDead w wr F pb bb p l n S)) (hn : 1 ≤ n) (hj : j ≤ 100000) (pl : List P3) (ok : (S.crash (n + 2) pl).Ok (n + 2)) : Flat (S.crash (n + 2) pl) n j ds low nn ∧ ds.length ≤ 600 := by
  rcases ha with ⟨L, hl, hA⟩ | ⟨hB, hD⟩
  · exact ⟨(flat_cut hA.i.byt hA.i.ok hA.i.l0 hA.i.lt ⟨_, hA.ho⟩ (hA.fut hj nn) hn hj pl ok).1, by have := hA.few; omega⟩
  · exact ⟨(flat_cut hB.byt hB.ok hB.l0 hB.lt hB.ho hB.fu hn hj pl ok).1, hB.dl⟩

section
variable {A B' : Int} {da : Option Addr} {dn dc : Nat} {pa : Option Addr} {pn pc : Nat} {d : List Int} {pl : List P3}
set_option maxRecDepth 20000 in
set_option maxHeartbeats 8000000 in
theorem one_crash (h : KAt w wr pb n j) (hj : j ≤ 90000) (h18 : 18 ≤ n) (h256 : n ≤ 256) (ho : OpIn wr w.heap.size A da dn dc pa pn d pl) :
    Calls Tryz.prog 6 #[.pointer (some ⟨pb, 0, none⟩), .agg (opC4 10 A B' da dn dc pa pn pc)] wr (KOut w pb n (j + 1)) := by
  have hbx := below_box wr (.cells (opC4 10 A B' da dn dc pa pn pc) 38)
  have hq : (wr.alloc (.cells (opC4 10 A B' da dn dc pa pn pc) 38)).heap[wr.heap.size]? = some (.cells (opC4 10 A B' da dn dc pa pn pc) 38 (0, 0)) := heap_alloc_new _ _
  have k0 := cell_of_block hq (j := 0) rfl
  have k4 := cell_of_block hq (j := 4) rfl
  obtain ⟨F, bb, p, l, S, v, ds, low, nn, hm0, ha0⟩ := h
  have hqo : ¬ F wr.heap.size := fun hf => by have := hm0.d.lt _ hf; omega
  have hdr := below_drew hbx
  have hm := hm0.later hdr
  have c0 := cell_of_block (hm0.later hbx).pk (j := 0) rfl
  have hq' := ((below_drew (Below.refl _ _)).block wr.heap.size (lt_there hq)).trans hq
  have htw := twinp_any pa pn pc pl _ ho.pn (ho.p.far (hdr.mono hm0.b.size) ho.pq)
  have hp6 : S.puts.length ≤ 600 := ha0.elim (fun ⟨L, _, h2⟩ => h2.i.p6) (fun ⟨h1, _⟩ => h1.p6)
  have hpn := ho.pn
  have hoA := ho.A
  have HM := Hid.mk hm
  have HA : Hid ((∃ L, LogP (wr.alloc (.cells (opC4 10 A B' da dn dc pa pn pc) 38)).drew l p L ∧ Alive S L n j ds low) ∨ (KB S n j ds low nn ∧ KDead w (wr.alloc (.cells (opC4 10 A B' da dn dc pa pn pc) 38)).drew F pb bb p l n S)) := ha0.imp (fun ⟨L, h1, h2⟩ => ⟨L, h1.later hdr, h2⟩) (fun ⟨h1, h2⟩ => ⟨h1, h2.later hdr⟩)
  have HQ := Hid.mk hq'
  clear hm ha0 hm0 hbx hq hdr hq' ho
  go_enter Tryz.func6, Tryz.ntmps6
  go_wp2_with fail
  generalize wr.alloc (.cells (opC4 10 A B' da dn dc pa pn pc) 38) = w5 at *
  generalize wr.heap.size = ob at *
  go_region_held3 (fun w' => w'.cell? ⟨pb, 0, none⟩ = some (.pointer (some ⟨p, 0, none⟩)) ∧ w'.cell? ⟨ob, 4, none⟩ = some (.slice pa pn pc))
    (first | exact ⟨c0, k4⟩ | exact ⟨c10, k14⟩ | exact ⟨c20, k24⟩)
    (first
      | (go_at_call 16; refine htw.mono ?_; rintro e w6 ⟨g6, rfl, hg6, hps6, hb6⟩; have h6 := HM.out.later hb6; have hq6 := (hb6.block ob (lt_there HQ.out)).trans HQ.out; have c10 := cell_of_block h6.pk (j := 0) rfl; have k14 := cell_of_block hq6 (j := 4) rfl)
      | (go_at_call 15; refine (dcrash h6.d (by omega) (some ⟨g6, 0, none⟩) pn pn pl hps6 (by omega) (fun y e hf => by cases e; have h9 : g6 < w5.drew.heap.size := HM.out.d.lt _ hf; omega)).mono ?_; rintro e w7 ⟨rfl, hd7, hk7⟩; have h7 := h6.same hd7 hk7; have hq7 := (hk7.block ob (lt_there hq6) hqo).trans hq6; have c20 := cell_of_block h7.pk (j := 0) rfl; have k24 := cell_of_block hq7 (j := 4) rfl))
  have HA6 := HA.out.imp (fun ⟨L, h1, h2⟩ => (⟨L, h1.later hb6, h2⟩ : ∃ L, LogP w6 l p L ∧ Alive S L n j ds low)) (fun ⟨h1, h2⟩ => And.intro h1 (h2.later hb6))
  have HC := Hid.mk (h6.cut HA6 (by omega) (by omega) pl hd7 hk7)
  have HG := Hid.mk (h6.gone HA6 (by omega) pl hd7 hk7)
  have k1 := cell_of_block hq7 (j := 1) rfl
  have k2 := cell_of_block hq7 (j := 2) rfl
  obtain ⟨hF7, hdl⟩ := h6.flat HA6 (by omega) (by omega) pl hd7.ok
  have H7 := Hid.mk h7
  have HQ7 := Hid.mk hq7
  clear htw hps6 hb6 h6 hq6 hd7 hk7 h7 hq7 c0 c10 k4 k14 k24 HA6 HA HM HQ k0
  generalize S.crash (n + 2) pl = X at *
  by_cases hb2 : Int.tmod B' 2 = 0
  · have hb2' : (Int.tmod B' 2 != 0) = false := by rw [hb2]; rfl
    have hre := HC.out.again hj h18 h256 A hoA
    go_wp2_with fail
    refine hre.mono ?_
    rintro e w8 ⟨rfl, hk⟩
    have HZ := Hid.mk hk
    clear hre hk
    go_wp2
    go_ret
    exact ⟨rfl, HZ.out⟩
  · have hb2' : (Int.tmod B' 2 != 0) = true := by rw [bne_iff_ne]; exact hb2
    have him := dimage H7.out.d
    have hlen := H7.out.d.ok.len
    go_wp2_with fail
    refine him.mono ?_
    rintro e w8 ⟨gi, ci, rfl, hgi, hri, hb8⟩
    have hld := load_ok ⟨gi, 0, none⟩ ((n + 2) * 512) ci (n + 2) X.im w8 rfl (by omega) (by omega) hlen (fun i hi => hri.byte (by omega))
    have H8 := Hid.mk (H7.out.later hb8)
    have HG8 := Hid.mk (HG.out.later hb8)
    have HQ8 := Hid.mk ((hb8.block ob (lt_there HQ7.out)).trans HQ7.out)
    clear him hri hb8 hgi c20
    go_wp2_with fail
    refine hld.mono ?_
    rintro e w9 ⟨p2, rfl, hd9, hb9⟩
    have hcut := H8.out.redisk hF7 hdl HG8.out hd9 hb9
    have h9 := H8.out.later hb9
    have hq9 := (hb9.block ob (lt_there HQ8.out)).trans HQ8.out
    have hre := hcut.again hj h18 h256 A hoA
    have c90 := cell_of_block h9.pk (j := 0) rfl
    have f90 := frozen_of_block h9.pk 0
    have hpo : ob ≠ pb := fun e => by rw [e] at hq9; exact type_ne h9.pk hq9 (by decide)
    have hkc := Keeps.setCell (F := fun k => k = pb) w9 (p := ⟨pb, 0, none⟩) rfl (.pointer (some ⟨p2, 0, none⟩))
    have kA1 := cell_of_block ((hkc.block ob (lt_there hq9) hpo).trans hq9) (j := 1) rfl
    clear hld hd9 hb9 hcut h9 hq9 hkc
    go_wp2_with fail
    refine hre.mono ?_
    rintro e w10 ⟨rfl, hk⟩
    have HZ := Hid.mk hk
    clear hre hk
    go_wp2
    go_ret
    exact ⟨rfl, HZ.out⟩
end
end
end Go.Proofs.YtllkjmbcjlbmbaaGreat
