import Derived.Test.YtllkjmbcjlbmbaaGreatWB2
namespace Go.Proofs.YtllkjmbcjlbmbaaGreat
open Go.RowKit Go.Maps

abbrev pyC (p l n bb : Nat) : Array Value := #[.pointer (some ⟨p, 0, none⟩), .pointer (some ⟨l, 0, none⟩), .int .i64 (n : Int), .pointer (some ⟨bb, 0, none⟩)]
abbrev bkC (v : Value) (low : Nat) (nn : Bool) : Array Value := #[v, .int .i64 (low : Int), .bool nn]
/-- The play in memory. -/
structure KMem (w wr : World) (F : Nat → Prop) (pb bb p l n : Nat) (S : DS) (v : Value) (ds : List (List Int)) (low : Nat) (nn : Bool) : Prop where
  d : DiskR wr F p (n + 2) S
  pk : wr.heap[pb]? = some (.cells (pyC p l n bb) 33 (0, 0))
  bk : wr.heap[bb]? = some (.cells (bkC v low nn) 31 (0, 0))
  ls : LL w wr F v ds
  fp : ¬ F pb
  fb : ¬ F bb
  fl : ¬ F l
  lk : ∃ cur, wr.heap[l]? = some (.cells cur 65 (0, 0))
  fF : ∀ k, F k → w.heap.size ≤ k
  lp : w.heap.size ≤ pb
  lb : w.heap.size ≤ bb
  ll : w.heap.size ≤ l
  b : Below w.heap.size w wr

section
variable {w wr w' : World} {F F' : Nat → Prop} {pb bb p l n j low : Nat} {S S' : DS} {v : Value} {ds : List (List Int)} {nn : Bool} {L L' : LG}
theorem KMem.pbl (h : KMem w wr F pb bb p l n S v ds low nn) : pb ≠ l := fun e => by obtain ⟨c, hc⟩ := h.lk; rw [← e] at hc; exact type_ne h.pk hc (by decide)
theorem KMem.bbl (h : KMem w wr F pb bb p l n S v ds low nn) : bb ≠ l := fun e => by obtain ⟨c, hc⟩ := h.lk; rw [← e] at hc; exact type_ne h.bk hc (by decide)
theorem KMem.pbb (h : KMem w wr F pb bb p l n S v ds low nn) : pb ≠ bb := fun e => by have := h.pk; rw [e] at this; exact type_ne this h.bk (by decide)
/-- The log and the disk are asked. -/
theorem KMem.step (h : KMem w wr F pb bb p l n S v ds low nn) (hd : DiskR w' (more F wr w') p (n + 2) S') (hl : ∃ cur, w'.heap[l]? = some (.cells cur 65 (0, 0))) (hk : Keeps (fun k => F k ∨ k = l) wr w') : KMem w w' (more F wr w') pb bb p l n S' v ds low nn := by
  have h0 := h.b.size
  obtain ⟨cur, hc⟩ := h.lk
  have hm : ∀ k, k < wr.heap.size → ¬ F k → ¬ more F wr w' k := fun k h1 h2 hf => hf.elim h2 (fun h3 => by omega)
  refine ⟨hd, (hk.block pb (lt_there h.pk) (fun hf => hf.elim h.fp h.pbl)).trans h.pk, (hk.block bb (lt_there h.bk) (fun hf => hf.elim h.fb h.bbl)).trans h.bk, h.ls.keep hk (fun k hq => hq.imp id (fun e => ⟨by rw [e]; exact h.ll, cur, 65, (0, 0), by rw [e]; exact hc, by decide, by decide⟩)) (fun k hf => hf.imp id (fun h3 => h3.1)), hm pb (lt_there h.pk) h.fp, hm bb (lt_there h.bk) h.fb, hm l (lt_there hc) h.fl, hl, fun k hf => hf.elim (h.fF k) (fun h3 => by omega), h.lp, h.lb, h.ll, h.b.trans (hk.below (fun k hf => hf.elim (h.fF k) (fun e => by rw [e]; exact h.ll)) h.b.size)⟩
theorem KMem.same (h : KMem w wr F pb bb p l n S v ds low nn) (hd : DiskR w' F p (n + 2) S') (hk : Keeps F wr w') : KMem w w' F pb bb p l n S' v ds low nn := by
  obtain ⟨cur, hc⟩ := h.lk
  exact ⟨hd, (hk.block pb (lt_there h.pk) h.fp).trans h.pk, (hk.block bb (lt_there h.bk) h.fb).trans h.bk, h.ls.keep hk (fun k hq => .inl hq) (fun k hf => .inl hf), h.fp, h.fb, h.fl, ⟨cur, (hk.block l (lt_there hc) h.fl).trans hc⟩, h.fF, h.lp, h.lb, h.ll, h.b.trans (hk.below h.fF h.b.size)⟩
theorem KMem.later (h : KMem w wr F pb bb p l n S v ds low nn) (hb : Below wr.heap.size wr w') : KMem w w' F pb bb p l n S v ds low nn := h.same (h.d.later hb) (Keeps.of_below F hb)

/-- The book's list has grown. -/
theorem KMem.pushed (h : KMem w wr F pb bb p l n S v ds low nn) {w8 : World} {v' : Value} {ds' : List (List Int)} (hll : LL w w8 F v' ds') (hk8 : Keeps (fun k => v.ownBlock = some k) wr w8) :
    KMem w (w8.setCell ⟨bb, 0, none⟩ v') F pb bb p l n S v' ds' low nn ∧ (w8.cell? ⟨pb, 3, none⟩ = some (.pointer (some ⟨bb, 0, none⟩)) ∧ w8.cell? ⟨bb, 0, none⟩ = some v ∧ w8.frozen? ⟨bb, 0, none⟩ = false ∧ (w8.setCell ⟨bb, 0, none⟩ v').cell? ⟨pb, 3, none⟩ = some (.pointer (some ⟨bb, 0, none⟩))) ∧ ∀ (L : LG) (q : Nat), LogP wr l q L → LogP (w8.setCell ⟨bb, 0, none⟩ v') l q L := by
  obtain ⟨vs, ho, hoF, _⟩ := h.ls
  obtain ⟨cl, hcl⟩ := h.lk
  have ne : ∀ {g : Nat} {cur : Array Value} {t : TypeId} {fz : Nat × Nat}, wr.heap[g]? = some (.cells cur t fz) → t ≠ 35 → ¬ v.ownBlock = some g := fun hc ht hq => by
    obtain ⟨cur2, hc2⟩ := owns_block ho hq
    exact type_ne hc hc2 ht
  have hp8 := (hk8.block pb (lt_there h.pk) (ne h.pk (by decide))).trans h.pk
  have hb8 := (hk8.block bb (lt_there h.bk) (ne h.bk (by decide))).trans h.bk
  have hl8 := (hk8.block l (lt_there hcl) (ne hcl (by decide))).trans hcl
  have hks := Keeps.setCell (F := fun k => k = bb) w8 (p := ⟨bb, 0, none⟩) rfl v'
  have hb9 : (w8.setCell ⟨bb, 0, none⟩ v').heap[bb]? = some (.cells (bkC v' low nn) 31 (0, 0)) := (heap_setCell_same _ _ 0 _ _ v' hb8).trans (by simp)
  have hp9 := (hks.block pb (lt_there hp8) h.pbb).trans hp8
  have hl9 := (hks.block l (lt_there hl8) (fun e => h.bbl e.symm)).trans hl8
  have hd9 : DiskR (w8.setCell ⟨bb, 0, none⟩ v') F p (n + 2) S := (h.d.keep hk8 (fun k hf hq => hoF k hq hf)).keep hks (fun k hf e => by rw [e] at hf; exact h.fb hf)
  have hB8 : Below w.heap.size w w8 := h.b.trans (hk8.below (fun k hq => own_lo ho hq) h.b.size)
  refine ⟨⟨hd9, hp9, hb9, hll.keep hks (fun k e => .inr ⟨by rw [e]; exact h.lb, bkC v low nn, 31, (0, 0), by rw [e]; exact hb8, by decide, by decide⟩) (fun k hf => .inl hf), h.fp, h.fb, h.fl, ⟨cl, hl9⟩, h.fF, h.lp, h.lb, h.ll, hB8.trans (hks.below (fun k e => by rw [e]; exact h.lb) hB8.size)⟩, ⟨cell_of_block hp8 (j := 3) rfl, cell_of_block hb8 (j := 0) rfl, frozen_of_block hb8 0, cell_of_block hp9 (j := 3) rfl⟩, fun L q hlp => ?_⟩
  have hlp' : wr.heap[l]? = some (.cells (lgC q L) 65 (0, 0)) := hlp
  show (w8.setCell ⟨bb, 0, none⟩ v').heap[l]? = _
  rw [hl9, ← hcl, hlp']

/-- A disk that is burnt: what may be told of it. -/
structure KB (S : DS) (n j : Nat) (ds : List (List Int)) (low : Nat) (nn : Bool) : Prop where
  fz : S.fuse = 0
  ok : S.Ok (n + 2)
  byt : S.Byt
  p6 : S.puts.length ≤ 600
  l0 : 0 ≤ S.life
  lt : S.life ≤ ((3 + 2 * j : Nat) : Int)
  ho : ∃ N, Hold S 0 n N (j + 2)
  fu : Fut S n ds low nn
  dl : ds.length ≤ 600
/-- The log of a play whose disk is burnt: it is of this disk, or dead on another one. -/
def KDead (w wr : World) (F : Nat → Prop) (pb bb p l n : Nat) (S : DS) : Prop :=
  (∃ L, LogP wr l p L ∧ L.Ok (n + 2) ∧ L.life ≤ S.life) ∨ ∃ q L G t X, LogP wr l q L ∧ DiskR wr G q t X ∧ L.dead X = true ∧ L.Ok t ∧ ∀ k, G k → ¬ F k ∧ k ≠ pb ∧ k ≠ bb ∧ k ≠ l ∧ w.heap.size ≤ k
/-- The play behind j steps. -/
def KAt (w wr : World) (pb n j : Nat) : Prop := ∃ F bb p l S v ds low nn, KMem w wr F pb bb p l n S v ds low nn ∧ ((∃ L, LogP wr l p L ∧ Alive S L n j ds low) ∨ (KB S n j ds low nn ∧ KDead w wr F pb bb p l n S))
def KOut (w : World) (pb n j : Nat) (e : Ending) (w' : World) : Prop := e = .returned (.bool true) ∧ KAt w w' pb n j

theorem KDead.later (h : KDead w wr F pb bb p l n S) (hb : Below wr.heap.size wr w') : KDead w w' F pb bb p l n S := by
  rcases h with ⟨L, h1, h2⟩ | ⟨q, L, G, t, X, h1, h2, h3⟩
  · exact .inl ⟨L, h1.later hb, h2⟩
  · exact .inr ⟨q, L, G, t, X, h1.later hb, h2.later hb, h3⟩
theorem KDead.dead (h : KDead w wr F pb bb p l n S) (hd : DiskR wr F p (n + 2) S) (hf : S.fuse = 0) : ∃ q L G t X, LogP wr l q L ∧ DiskR wr G q t X ∧ L.dead X = true ∧ L.Ok t := by
  rcases h with ⟨L, h1, h2, _⟩ | ⟨q, L, G, t, X, h1, h2, h3, h4, _⟩
  · exact ⟨p, L, F, n + 2, S, h1, hd, by unfold LG.dead; rw [hf]; rfl, h2⟩
  · exact ⟨q, L, G, t, X, h1, h2, h3, h4⟩
theorem lenOf_ge : ∀ {ds : List (List Int)}, (∀ d ∈ ds, 1 ≤ d.length ∧ d.length ≤ 8364) → ds.length ≤ lenOf ds
  | [], _ => Nat.le_refl _
  | d :: r, h => by
    obtain ⟨a, b⟩ := h d (List.mem_cons_self ..)
    have := (cnt_bounds a b).1
    have := lenOf_ge (ds := r) (fun x hx => h x (List.mem_cons_of_mem _ hx))
    show r.length + 1 ≤ cntOf d.length + lenOf r
    omega
theorem Alive.few (h : Alive S L n j ds low) : ds.length ≤ 256 := by
  have := lenOf_ge h.la.sz
  have := h.la.fit
  have := h.nb
  omega
theorem Alive.fuseKB (h : Alive S L n j ds low) (hj : j ≤ 100000) (hf : S.fuse = 0) (nn : Bool) : KB S n j ds low nn :=
  ⟨hf, h.i.ok, h.i.byt, h.i.p6, h.i.l0, h.i.lt, ⟨_, h.ho⟩, h.fut hj nn, by have := h.few; omega⟩

set_option maxRecDepth 20000 in
set_option maxHeartbeats 4000000 in
theorem papp_no (h : KMem w wr F pb bb p l n S v ds low nn) (hlp : LogP wr l p L) (hA : Alive S L n j ds low) (hj : j ≤ 100000) (da : Option Addr) (dc : Nat) (d : List Int) (hs : Src wr da d.length d) (hd : Bytes d) (_hda : ∀ y, da = some y → 0 < d.length → y.block < w.heap.size) (hdn : d.length ≤ 140737488355328) (hc : (L.append S (n + 2) d).1 ≠ 0) (hc3 : (L.append S (n + 2) d).1 = 3 → S.fuse = 0) (he : (L.append S (n + 2) d).2 = (S, L)) :
    Calls Tryz.prog 22 #[.pointer (some ⟨pb, 0, none⟩), .slice da d.length dc] wr (KOut w pb n j) := by
  have hbu := dburnt h.d
  have c0 := cell_of_block h.pk (j := 0) rfl
  have c1 := cell_of_block h.pk (j := 1) rfl
  have hokL := (hA.i.at (i := 0) rfl).1
  have hp6 := hA.i.p6
  have hdr := below_drew (Below.refl wr.heap.size wr)
  have htw := twin_any da d.length dc d wr.drew hdn (hs.later hdr)
  have H := Hid.mk h
  have HL := Hid.mk hlp
  have HDr := Hid.mk hdr
  have HS := Hid.mk hs
  clear h hlp hdr hs
  have hc0 : ((L.append S (n + 2) d).1 == 0) = false := by rw [beq_eq_false_iff_ne]; exact hc
  go_enter Tryz.func22, Tryz.ntmps22
  go_wp2_with fail
  refine hbu.mono ?_
  rintro e w1 ⟨rfl, hw⟩
  have hw' := hw.symm
  subst hw'
  clear hw hbu
  go_wp2_with fail
  go_region_held3 (fun w' => w'.cell? ⟨pb, 1, none⟩ = some (.pointer (some ⟨l, 0, none⟩)))
    (first | exact c1 | exact c16 | exact c17)
    (first
      | (go_at_call 9; refine htw.mono ?_; rintro e w6 ⟨g6, rfl, hg6, hr6, hb6⟩; have hb06 : Below wr.heap.size wr w6 := HDr.out.trans (hb6.mono (Nat.le_refl _)); have h6 := H.out.later hb06; have c16 := cell_of_block h6.pk (j := 1) rfl; have hs6 := hr6.src)
      | (go_at_call 8; refine (Append_any h6.d (HL.out.later hb06) hokL h6.fl (some ⟨g6, 0, none⟩) d.length d.length d hs6 (fun y e _ hf => by cases e; have h9 : g6 < wr.heap.size := H.out.d.lt _ hf; have h8 : wr.heap.size ≤ g6 := hg6; omega) hd (Nat.le_refl _) hdn (by omega)).mono ?_; rintro e w7 ⟨rfl, hd7, hl7, hk7⟩; have h7 := h6.step hd7 ⟨_, hl7⟩ hk7; have hB67 := hk7.below (B := w.heap.size) (fun k hf => hf.elim (h6.fF k) (fun e => by rw [e]; exact h6.ll)) h6.b.size; have c17 := cell_of_block h7.pk (j := 1) rfl))
  have HB07 := Hid.mk ((hb06.mono H.out.b.size).trans hB67)
  have hA7 := hA.append hj hd hd7.ok
  clear htw hr6 hb6 hs6 hk7 c1 c16 c17 hb06 h6 hB67
  have HZ : Hid (KAt w w7 pb n j) := by
    rw [he] at h7 hl7
    exact ⟨_, _, _, _, _, _, _, _, _, h7, .inl ⟨L, hl7, hA⟩⟩
  clear hA7 h7 hl7 hd7
  by_cases q3 : (L.append S (n + 2) d).1 = 3
  · have hfz := hc3 q3
    have hfz' : (S.fuse == 0) = true := by rw [beq_iff_eq]; exact hfz
    rw [q3, hfz']
    go_wp2
    go_ret
    exact ⟨rfl, HZ.out⟩
  · have q3' : ((L.append S (n + 2) d).1 == 3) = false := by rw [beq_eq_false_iff_ne]; exact q3
    generalize (L.append S (n + 2) d).1 = E7 at *
    go_wp2
    go_ret
    exact ⟨rfl, HZ.out⟩

set_option maxRecDepth 20000 in
set_option maxHeartbeats 4000000 in
theorem papp_yes (h : KMem w wr F pb bb p l n S v ds low nn) (hlp : LogP wr l p L) (hA : Alive S L n j ds low) (hj : j ≤ 100000) (da : Option Addr) (dc : Nat) (d : List Int) (hs : Src wr da d.length d) (hd : Bytes d) (hda : ∀ y, da = some y → 0 < d.length → y.block < w.heap.size) (hdn : d.length ≤ 140737488355328) (hc : (L.append S (n + 2) d).1 = 0) (hf : S.fuse ≠ 0) (hd1 : 1 ≤ d.length) (hd2 : d.length ≤ 8364) :
    Calls Tryz.prog 22 #[.pointer (some ⟨pb, 0, none⟩), .slice da d.length dc] wr (KOut w pb n j) := by
  have hbu := dburnt h.d
  have c0 := cell_of_block h.pk (j := 0) rfl
  have c1 := cell_of_block h.pk (j := 1) rfl
  have hokL := (hA.i.at (i := 0) rfl).1
  have hp6 := hA.i.p6
  have hdr := below_drew (Below.refl wr.heap.size wr)
  have htw := twin_any da d.length dc d wr.drew hdn (hs.later hdr)
  have H := Hid.mk h
  have HL := Hid.mk hlp
  have HDr := Hid.mk hdr
  have HS := Hid.mk hs
  clear h hlp hdr hs
  have hf' : (S.fuse == 0) = false := by rw [beq_eq_false_iff_ne]; exact hf
  rw [hf'] at hbu
  have hl0 : ((d.length : Int) == 0) = false := by rw [beq_eq_false_iff_ne]; omega
  have hl1 : ¬ (8364 : Int) < (d.length : Int) := by omega
  go_enter Tryz.func22, Tryz.ntmps22
  go_wp2_with fail
  refine hbu.mono ?_
  rintro e w1 ⟨rfl, hw⟩
  have hw' := hw.symm
  subst hw'
  clear hw hbu
  go_wp2_with fail
  go_region_held3 (fun w' => w'.cell? ⟨pb, 1, none⟩ = some (.pointer (some ⟨l, 0, none⟩)))
    (first | exact c1 | exact c16 | exact c17)
    (first
      | (go_at_call 9; refine htw.mono ?_; rintro e w6 ⟨g6, rfl, hg6, hr6, hb6⟩; have hb06 : Below wr.heap.size wr w6 := HDr.out.trans (hb6.mono (Nat.le_refl _)); have h6 := H.out.later hb06; have c16 := cell_of_block h6.pk (j := 1) rfl; have hs6 := hr6.src)
      | (go_at_call 8; refine (Append_any h6.d (HL.out.later hb06) hokL h6.fl (some ⟨g6, 0, none⟩) d.length d.length d hs6 (fun y e _ hf => by cases e; have h9 : g6 < wr.heap.size := H.out.d.lt _ hf; have h8 : wr.heap.size ≤ g6 := hg6; omega) hd (Nat.le_refl _) hdn (by omega)).mono ?_; rintro e w7 ⟨rfl, hd7, hl7, hk7⟩; have h7 := h6.step hd7 ⟨_, hl7⟩ hk7; have hB67 := hk7.below (B := w.heap.size) (fun k hf => hf.elim (h6.fF k) (fun e => by rw [e]; exact h6.ll)) h6.b.size; have c17 := cell_of_block h7.pk (j := 1) rfl))
  have HB07 := Hid.mk ((hb06.mono H.out.b.size).trans hB67)
  have hA7 := hA.append hj hd hd7.ok
  clear htw hr6 hb6 hs6 hk7 c1 c16 c17 hb06 h6 hB67
  obtain ⟨ad, rfl⟩ : ∃ ad, da = some ad := by
    cases da with
    | none => have := HS.out.2.1 rfl; omega
    | some ad => exact ⟨ad, rfl⟩
  have hadl := hda ad rfl (by omega)
  have hdr7 := below_drew (Below.refl w7.heap.size w7)
  have hs7 : Src w7.drew (some ad) d.length d := (HS.out.far HB07.out hda).later hdr7
  have h7d := h7.later hdr7
  obtain ⟨g', cap', w8, hrun, hll8, hk8⟩ := h7d.ls.push h7d.b.size h7d.d.lt (by have := hA.few; omega) dc hs7 (by omega) (fun hf => by have := h7d.fF _ hf; omega) hadl
  obtain ⟨hm9, ⟨kp8, kb8, fb8, kp9⟩, hlog⟩ := h7d.pushed hll8 hk8
  have hl9 := hlog _ _ (hl7.later hdr7)
  have kp3 : w7.drew.cell? ⟨pb, 3, none⟩ = some (.pointer (some ⟨bb, 0, none⟩)) := cell_of_block h7d.pk (j := 3) rfl
  have kb0 : w7.drew.cell? ⟨bb, 0, none⟩ = some v := cell_of_block h7d.bk (j := 0) rfl
  have hbxA := below_box w7.drew (.cells #[.slice (some ad) d.length dc] 35)
  have kpA : (w7.drew.alloc (.cells #[.slice (some ad) d.length dc] 35)).cell? ⟨pb, 3, none⟩ = some (.pointer (some ⟨bb, 0, none⟩)) := cell_later hbxA kp3
  have kbA : (w7.drew.alloc (.cells #[.slice (some ad) d.length dc] 35)).cell? ⟨bb, 0, none⟩ = some v := cell_later hbxA kb0
  have kbB : (w7.alloc (.cells #[.slice (some ad) d.length dc] 35)).cell? ⟨bb, 0, none⟩ = some v := kbA
  have HRun := Hid.mk hrun
  have HZ : Hid (KAt w (w8.setCell ⟨bb, 0, none⟩ (.slice (some ⟨g', 0, none⟩) (ds.length + 1) cap')) pb n j) := by
    rcases hA7 with ⟨x, _⟩ | ⟨_, _, _, _, x⟩ | ⟨x, _⟩
    · exact absurd hc x
    · exact ⟨_, _, _, _, _, _, _, _, _, hm9, .inl ⟨_, hl9, x⟩⟩
    · rw [hc] at x; cases x
  clear hA7 h7 hl7 hd7 h7d hrun hll8 hk8 hm9 hlog hl9 hs7 hdr7 hbxA
  go_wp2_with fail
  refine wp_region_held_drew (S := (fun w' => w'.cell? ⟨pb, 3, none⟩ = some (.pointer (some ⟨bb, 0, none⟩)))) (by kernel_rfl) (kp3) (fun hHeld => ?_)
  refine wpAnyH_take (i := 0) (oi := { dst := some 32, op := Op.move (Operand.tmp 0), type := 27, pos := "outright.go:71", after := #[], guard := none }) (v := .pointer (some ⟨pb, 0, none⟩)) rfl (by kernel_rfl) (by kernel_rfl) (by kernel_rfl) (fun _ _ _ h => h) (Or.inl ⟨by rfl, ?_⟩) (by assumption) ?_
  · intro w hSw
    (try dsimp only at hSw)
    go_simp
  try simp only [Act.put, List.setIfInBounds_toArray, List.set_cons_zero, List.set_cons_succ]
  refine wpAnyH_take (i := 1) (oi := { dst := some 33, op := Op.nilCheck (Operand.tmp 32), type := 0, pos := "outright.go:71", after := #[{ on := 0, ground := Ground.data }], guard := none }) (v := .pointer (some ⟨pb, 0, none⟩)) rfl (by kernel_rfl) (by kernel_rfl) (by kernel_rfl) (fun _ _ _ h => h) (Or.inl ⟨by rfl, ?_⟩) (by assumption) ?_
  · intro w hSw
    (try dsimp only at hSw)
    go_simp
  try simp only [Act.put, List.setIfInBounds_toArray, List.set_cons_zero, List.set_cons_succ]
  refine wpAnyH_take (i := 2) (oi := { dst := some 34, op := Op.fieldAddr 33 (Operand.tmp 33) 3, type := 0, pos := "outright.go:71", after := #[{ on := 1, ground := Ground.data }], guard := none }) (v := .pointer (some ⟨pb, 3, none⟩)) rfl (by kernel_rfl) (by kernel_rfl) (by kernel_rfl) (fun _ _ _ h => h) (Or.inl ⟨by rfl, ?_⟩) (by assumption) ?_
  · intro w hSw
    (try dsimp only at hSw)
    go_simp
  try simp only [Act.put, List.setIfInBounds_toArray, List.set_cons_zero, List.set_cons_succ]
  refine wpAnyH_take (i := 3) (oi := { dst := some 35, op := Op.load 28 (Operand.tmp 34), type := 28, pos := "outright.go:71", after := #[{ on := 2, ground := Ground.data }], guard := none }) (v := .pointer (some ⟨bb, 0, none⟩)) rfl (by kernel_rfl) (by kernel_rfl) (by kernel_rfl) (fun _ _ _ h => h) (Or.inl ⟨by rfl, ?_⟩) (by assumption) ?_
  · intro w hSw
    (try dsimp only at hSw)
    go_simp
  try simp only [Act.put, List.setIfInBounds_toArray, List.set_cons_zero, List.set_cons_succ]
  refine wpAnyH_take (i := 4) (oi := { dst := some 36, op := Op.move (Operand.tmp 0), type := 27, pos := "outright.go:71", after := #[], guard := none }) (v := .pointer (some ⟨pb, 0, none⟩)) rfl (by kernel_rfl) (by kernel_rfl) (by kernel_rfl) (fun _ _ _ h => h) (Or.inl ⟨by rfl, ?_⟩) (by assumption) ?_
  · intro w hSw
    (try dsimp only at hSw)
    go_simp
  try simp only [Act.put, List.setIfInBounds_toArray, List.set_cons_zero, List.set_cons_succ]
  refine wpAnyH_take (i := 5) (oi := { dst := some 37, op := Op.nilCheck (Operand.tmp 36), type := 0, pos := "outright.go:71", after := #[{ on := 4, ground := Ground.data }], guard := none }) (v := .pointer (some ⟨pb, 0, none⟩)) rfl (by kernel_rfl) (by kernel_rfl) (by kernel_rfl) (fun _ _ _ h => h) (Or.inl ⟨by rfl, ?_⟩) (by assumption) ?_
  · intro w hSw
    (try dsimp only at hSw)
    go_simp
  try simp only [Act.put, List.setIfInBounds_toArray, List.set_cons_zero, List.set_cons_succ]
  refine wpAnyH_take (i := 6) (oi := { dst := some 38, op := Op.fieldAddr 33 (Operand.tmp 37) 3, type := 0, pos := "outright.go:71", after := #[{ on := 5, ground := Ground.data }], guard := none }) (v := .pointer (some ⟨pb, 3, none⟩)) rfl (by kernel_rfl) (by kernel_rfl) (by kernel_rfl) (fun _ _ _ h => h) (Or.inl ⟨by rfl, ?_⟩) (by assumption) ?_
  · intro w hSw
    (try dsimp only at hSw)
    go_simp
  try simp only [Act.put, List.setIfInBounds_toArray, List.set_cons_zero, List.set_cons_succ]
  refine wpAnyH_take (i := 7) (oi := { dst := some 39, op := Op.load 28 (Operand.tmp 38), type := 28, pos := "outright.go:71", after := #[{ on := 6, ground := Ground.data }], guard := none }) (v := .pointer (some ⟨bb, 0, none⟩)) rfl (by kernel_rfl) (by kernel_rfl) (by kernel_rfl) (fun _ _ _ h => h) (Or.inl ⟨by rfl, ?_⟩) (by assumption) ?_
  · intro w hSw
    (try dsimp only at hSw)
    go_simp
  try simp only [Act.put, List.setIfInBounds_toArray, List.set_cons_zero, List.set_cons_succ]
  refine wpAnyH_take (i := 8) (oi := { dst := some 40, op := Op.nilCheck (Operand.tmp 39), type := 0, pos := "outright.go:71", after := #[{ on := 7, ground := Ground.data }], guard := none }) (v := .pointer (some ⟨bb, 0, none⟩)) rfl (by kernel_rfl) (by kernel_rfl) (by kernel_rfl) (fun _ _ _ h => h) (Or.inl ⟨by rfl, ?_⟩) (by assumption) ?_
  · intro w hSw
    (try dsimp only at hSw)
    go_simp
  try simp only [Act.put, List.setIfInBounds_toArray, List.set_cons_zero, List.set_cons_succ]
  refine wpAnyH_take (i := 9) (oi := { dst := some 41, op := Op.fieldAddr 31 (Operand.tmp 40) 0, type := 0, pos := "outright.go:71", after := #[{ on := 8, ground := Ground.data }], guard := none }) (v := .pointer (some ⟨bb, 0, none⟩)) rfl (by kernel_rfl) (by kernel_rfl) (by kernel_rfl) (fun _ _ _ h => h) (Or.inl ⟨by rfl, ?_⟩) (by assumption) ?_
  · intro w hSw
    (try dsimp only at hSw)
    go_simp
  try simp only [Act.put, List.setIfInBounds_toArray, List.set_cons_zero, List.set_cons_succ]
  refine wpAnyH_take (i := 11) (oi := { dst := some 43, op := Op.move (Operand.tmp 1), type := 35, pos := "outright.go:71", after := #[], guard := none }) (v := .slice (some ad) d.length dc) rfl (by kernel_rfl) (by kernel_rfl) (by kernel_rfl) (fun _ _ _ h => h) (Or.inl ⟨by rfl, ?_⟩) (by assumption) ?_
  · intro w hSw
    (try dsimp only at hSw)
    go_simp
  try simp only [Act.put, List.setIfInBounds_toArray, List.set_cons_zero, List.set_cons_succ]
  refine wpAnyH_ready (rs := [10, 12]) (by kernel_rfl) (by simp) ?_
  refine AllReadyH.cons (o := { dst := some 42, op := Op.load 29 (Operand.tmp 41), type := 29, pos := "outright.go:71", after := #[{ on := 9, ground := Ground.data }], guard := none }) rfl (fun K hK => ?_) (AllReadyH.cons (o := { dst := some 44, op := Op.buildSlice 29 1 #[(0, Operand.tmp 43)], type := 29, pos := "outright.go:71", after := #[{ on := 11, ground := Ground.data }], guard := none }) rfl (fun K hK => ?_) AllReadyH.nil)
  · go_simp
    refine hK.out _ _ ?_ (fun hHeld => ?_)
    · exact kp3
    clear hK K
    try simp only [Act.put, List.setIfInBounds_toArray, List.set_cons_zero, List.set_cons_succ]
    refine wpAnyH_ready (rs := [12]) (by kernel_rfl) (by simp) ?_
    refine AllReadyH.cons (o := { dst := some 44, op := Op.buildSlice 29 1 #[(0, Operand.tmp 43)], type := 29, pos := "outright.go:71", after := #[{ on := 11, ground := Ground.data }], guard := none }) rfl (fun K hK => ?_) AllReadyH.nil
    go_simp
    refine hK.out _ _ ?_ (fun hHeld => ?_)
    · exact kpA
    clear hK K
    try simp only [Act.put, List.setIfInBounds_toArray, List.set_cons_zero, List.set_cons_succ]
    refine wpAnyH_ready (rs := [13]) (by kernel_rfl) (by simp) ?_
    refine AllReadyH.cons (o := { dst := some 45, op := Op.call { callee := Callee.builtin Builtin.append, args := #[Operand.tmp 42, Operand.tmp 44], argTypes := #[29, 29] }, type := 29, pos := "outright.go:71", after := #[{ on := 10, ground := Ground.data }, { on := 12, ground := Ground.data }], guard := none }) rfl (fun K hK => ?_) AllReadyH.nil
    rw [if_pos (by rfl)]
    refine wp_append_run _ _ _ rfl v (.slice (some ⟨w7.heap.size, 0, none⟩) 1 1) _ rfl rfl HRun.out ?_
    refine hK.out _ _ ?_ (fun hHeld => ?_)
    · exact kp8
    clear hK K
    try simp only [Act.put, List.setIfInBounds_toArray, List.set_cons_zero, List.set_cons_succ]
    refine wpAnyH_take (i := 14) (oi := { dst := some 46, op := Op.nilCheck (Operand.tmp 35), type := 0, pos := "outright.go:71", after := #[{ on := 3, ground := Ground.data }, { on := 0, ground := Ground.phase }, { on := 1, ground := Ground.phase }, { on := 2, ground := Ground.phase }, { on := 3, ground := Ground.phase }, { on := 4, ground := Ground.phase }, { on := 5, ground := Ground.phase }, { on := 6, ground := Ground.phase }, { on := 7, ground := Ground.phase }, { on := 8, ground := Ground.phase }, { on := 9, ground := Ground.phase }, { on := 10, ground := Ground.phase }, { on := 11, ground := Ground.phase }, { on := 12, ground := Ground.phase }, { on := 13, ground := Ground.phase }], guard := none }) (v := .pointer (some ⟨bb, 0, none⟩)) rfl (by kernel_rfl) (by kernel_rfl) (by kernel_rfl) (fun _ _ _ h => h) (Or.inl ⟨by rfl, ?_⟩) (by assumption) ?_
    · intro w hSw
      (try dsimp only at hSw)
      go_simp
    try simp only [Act.put, List.setIfInBounds_toArray, List.set_cons_zero, List.set_cons_succ]
    refine wpAnyH_take (i := 15) (oi := { dst := some 47, op := Op.fieldAddr 31 (Operand.tmp 46) 0, type := 0, pos := "outright.go:71", after := #[{ on := 14, ground := Ground.data }, { on := 0, ground := Ground.phase }, { on := 1, ground := Ground.phase }, { on := 2, ground := Ground.phase }, { on := 3, ground := Ground.phase }, { on := 4, ground := Ground.phase }, { on := 5, ground := Ground.phase }, { on := 6, ground := Ground.phase }, { on := 7, ground := Ground.phase }, { on := 8, ground := Ground.phase }, { on := 9, ground := Ground.phase }, { on := 10, ground := Ground.phase }, { on := 11, ground := Ground.phase }, { on := 12, ground := Ground.phase }, { on := 13, ground := Ground.phase }], guard := none }) (v := .pointer (some ⟨bb, 0, none⟩)) rfl (by kernel_rfl) (by kernel_rfl) (by kernel_rfl) (fun _ _ _ h => h) (Or.inl ⟨by rfl, ?_⟩) (by assumption) ?_
    · intro w hSw
      (try dsimp only at hSw)
      go_simp
    try simp only [Act.put, List.setIfInBounds_toArray, List.set_cons_zero, List.set_cons_succ]
    refine wpAnyH_ready (rs := [16]) (by kernel_rfl) (by simp) ?_
    refine AllReadyH.cons (o := { dst := none, op := Op.store 29 (Operand.tmp 47) (Operand.tmp 45), type := 0, pos := "outright.go:71", after := #[{ on := 15, ground := Ground.data }, { on := 13, ground := Ground.data }, { on := 13, ground := Ground.chain }, { on := 0, ground := Ground.phase }, { on := 1, ground := Ground.phase }, { on := 2, ground := Ground.phase }, { on := 3, ground := Ground.phase }, { on := 4, ground := Ground.phase }, { on := 5, ground := Ground.phase }, { on := 6, ground := Ground.phase }, { on := 7, ground := Ground.phase }, { on := 8, ground := Ground.phase }, { on := 9, ground := Ground.phase }, { on := 10, ground := Ground.phase }, { on := 11, ground := Ground.phase }, { on := 12, ground := Ground.phase }, { on := 13, ground := Ground.phase }], guard := none }) rfl (fun K hK => ?_) AllReadyH.nil
    go_simp
    refine hK.out _ _ ?_ (fun hHeld => ?_)
    · exact kp9
    clear hK K
    try simp only [Act.put, List.setIfInBounds_toArray, List.set_cons_zero, List.set_cons_succ]
    refine wpAnyH_done (by kernel_rfl) ?_ _
    clear kp3 kb0 kpA kbA kbB kp8 kb8 fb8 kp9 HRun
    go_wp2
    go_ret
    exact ⟨rfl, HZ.out⟩
  · go_simp
    refine hK.out _ _ ?_ (fun hHeld => ?_)
    · exact kpA
    clear hK K
    try simp only [Act.put, List.setIfInBounds_toArray, List.set_cons_zero, List.set_cons_succ]
    refine wpAnyH_ready (rs := [10]) (by kernel_rfl) (by simp) ?_
    refine AllReadyH.cons (o := { dst := some 42, op := Op.load 29 (Operand.tmp 41), type := 29, pos := "outright.go:71", after := #[{ on := 9, ground := Ground.data }], guard := none }) rfl (fun K hK => ?_) AllReadyH.nil
    go_simp
    refine hK.out _ _ ?_ (fun hHeld => ?_)
    · exact kpA
    clear hK K
    try simp only [Act.put, List.setIfInBounds_toArray, List.set_cons_zero, List.set_cons_succ]
    refine wpAnyH_ready (rs := [13]) (by kernel_rfl) (by simp) ?_
    refine AllReadyH.cons (o := { dst := some 45, op := Op.call { callee := Callee.builtin Builtin.append, args := #[Operand.tmp 42, Operand.tmp 44], argTypes := #[29, 29] }, type := 29, pos := "outright.go:71", after := #[{ on := 10, ground := Ground.data }, { on := 12, ground := Ground.data }], guard := none }) rfl (fun K hK => ?_) AllReadyH.nil
    rw [if_pos (by rfl)]
    refine wp_append_run _ _ _ rfl v (.slice (some ⟨w7.heap.size, 0, none⟩) 1 1) _ rfl rfl HRun.out ?_
    refine hK.out _ _ ?_ (fun hHeld => ?_)
    · exact kp8
    clear hK K
    try simp only [Act.put, List.setIfInBounds_toArray, List.set_cons_zero, List.set_cons_succ]
    refine wpAnyH_take (i := 14) (oi := { dst := some 46, op := Op.nilCheck (Operand.tmp 35), type := 0, pos := "outright.go:71", after := #[{ on := 3, ground := Ground.data }, { on := 0, ground := Ground.phase }, { on := 1, ground := Ground.phase }, { on := 2, ground := Ground.phase }, { on := 3, ground := Ground.phase }, { on := 4, ground := Ground.phase }, { on := 5, ground := Ground.phase }, { on := 6, ground := Ground.phase }, { on := 7, ground := Ground.phase }, { on := 8, ground := Ground.phase }, { on := 9, ground := Ground.phase }, { on := 10, ground := Ground.phase }, { on := 11, ground := Ground.phase }, { on := 12, ground := Ground.phase }, { on := 13, ground := Ground.phase }], guard := none }) (v := .pointer (some ⟨bb, 0, none⟩)) rfl (by kernel_rfl) (by kernel_rfl) (by kernel_rfl) (fun _ _ _ h => h) (Or.inl ⟨by rfl, ?_⟩) (by assumption) ?_
    · intro w hSw
      (try dsimp only at hSw)
      go_simp
    try simp only [Act.put, List.setIfInBounds_toArray, List.set_cons_zero, List.set_cons_succ]
    refine wpAnyH_take (i := 15) (oi := { dst := some 47, op := Op.fieldAddr 31 (Operand.tmp 46) 0, type := 0, pos := "outright.go:71", after := #[{ on := 14, ground := Ground.data }, { on := 0, ground := Ground.phase }, { on := 1, ground := Ground.phase }, { on := 2, ground := Ground.phase }, { on := 3, ground := Ground.phase }, { on := 4, ground := Ground.phase }, { on := 5, ground := Ground.phase }, { on := 6, ground := Ground.phase }, { on := 7, ground := Ground.phase }, { on := 8, ground := Ground.phase }, { on := 9, ground := Ground.phase }, { on := 10, ground := Ground.phase }, { on := 11, ground := Ground.phase }, { on := 12, ground := Ground.phase }, { on := 13, ground := Ground.phase }], guard := none }) (v := .pointer (some ⟨bb, 0, none⟩)) rfl (by kernel_rfl) (by kernel_rfl) (by kernel_rfl) (fun _ _ _ h => h) (Or.inl ⟨by rfl, ?_⟩) (by assumption) ?_
    · intro w hSw
      (try dsimp only at hSw)
      go_simp
    try simp only [Act.put, List.setIfInBounds_toArray, List.set_cons_zero, List.set_cons_succ]
    refine wpAnyH_ready (rs := [16]) (by kernel_rfl) (by simp) ?_
    refine AllReadyH.cons (o := { dst := none, op := Op.store 29 (Operand.tmp 47) (Operand.tmp 45), type := 0, pos := "outright.go:71", after := #[{ on := 15, ground := Ground.data }, { on := 13, ground := Ground.data }, { on := 13, ground := Ground.chain }, { on := 0, ground := Ground.phase }, { on := 1, ground := Ground.phase }, { on := 2, ground := Ground.phase }, { on := 3, ground := Ground.phase }, { on := 4, ground := Ground.phase }, { on := 5, ground := Ground.phase }, { on := 6, ground := Ground.phase }, { on := 7, ground := Ground.phase }, { on := 8, ground := Ground.phase }, { on := 9, ground := Ground.phase }, { on := 10, ground := Ground.phase }, { on := 11, ground := Ground.phase }, { on := 12, ground := Ground.phase }, { on := 13, ground := Ground.phase }], guard := none }) rfl (fun K hK => ?_) AllReadyH.nil
    go_simp
    refine hK.out _ _ ?_ (fun hHeld => ?_)
    · exact kp9
    clear hK K
    try simp only [Act.put, List.setIfInBounds_toArray, List.set_cons_zero, List.set_cons_succ]
    refine wpAnyH_done (by kernel_rfl) ?_ _
    clear kp3 kb0 kpA kbA kbB kp8 kb8 fb8 kp9 HRun
    go_wp2
    go_ret
    exact ⟨rfl, HZ.out⟩

set_option maxRecDepth 20000 in
set_option maxHeartbeats 4000000 in
theorem papp_cut (h : KMem w wr F pb bb p l n S v ds low nn) (hlp : LogP wr l p L) (hA : Alive S L n j ds low) (hj : j ≤ 100000) (da : Option Addr) (dc : Nat) (d : List Int) (hs : Src wr da d.length d) (hd : Bytes d) (hda : ∀ y, da = some y → 0 < d.length → y.block < w.heap.size) (hdn : d.length ≤ 140737488355328) (hc : (L.append S (n + 2) d).1 = 3) (hf : S.fuse ≠ 0) (hfz : (L.append S (n + 2) d).2.1.fuse = 0) (hL : (L.append S (n + 2) d).2.2 = L) (hH : ∃ N, Hold (L.append S (n + 2) d).2.1 0 n N (j + 2)) (hfu : Fut (L.append S (n + 2) d).2.1 n (ds ++ [d]) low false) (hI : Inv (L.append S (n + 2) d).2.1 (n + 2) [L] (3 + 2 * j)) (hd1 : 1 ≤ d.length) :
    Calls Tryz.prog 22 #[.pointer (some ⟨pb, 0, none⟩), .slice da d.length dc] wr (KOut w pb n j) := by
  have hbu := dburnt h.d
  have c0 := cell_of_block h.pk (j := 0) rfl
  have c1 := cell_of_block h.pk (j := 1) rfl
  have hokL := (hA.i.at (i := 0) rfl).1
  have hp6 := hA.i.p6
  have hdr := below_drew (Below.refl wr.heap.size wr)
  have htw := twin_any da d.length dc d wr.drew hdn (hs.later hdr)
  have H := Hid.mk h
  have HL := Hid.mk hlp
  have HDr := Hid.mk hdr
  have HS := Hid.mk hs
  clear h hlp hdr hs
  have hf' : (S.fuse == 0) = false := by rw [beq_eq_false_iff_ne]; exact hf
  rw [hf'] at hbu
  go_enter Tryz.func22, Tryz.ntmps22
  go_wp2_with fail
  refine hbu.mono ?_
  rintro e w1 ⟨rfl, hw⟩
  have hw' := hw.symm
  subst hw'
  clear hw hbu
  go_wp2_with fail
  go_region_held3 (fun w' => w'.cell? ⟨pb, 1, none⟩ = some (.pointer (some ⟨l, 0, none⟩)))
    (first | exact c1 | exact c16 | exact c17)
    (first
      | (go_at_call 9; refine htw.mono ?_; rintro e w6 ⟨g6, rfl, hg6, hr6, hb6⟩; have hb06 : Below wr.heap.size wr w6 := HDr.out.trans (hb6.mono (Nat.le_refl _)); have h6 := H.out.later hb06; have c16 := cell_of_block h6.pk (j := 1) rfl; have hs6 := hr6.src)
      | (go_at_call 8; refine (Append_any h6.d (HL.out.later hb06) hokL h6.fl (some ⟨g6, 0, none⟩) d.length d.length d hs6 (fun y e _ hf => by cases e; have h9 : g6 < wr.heap.size := H.out.d.lt _ hf; have h8 : wr.heap.size ≤ g6 := hg6; omega) hd (Nat.le_refl _) hdn (by omega)).mono ?_; rintro e w7 ⟨rfl, hd7, hl7, hk7⟩; have h7 := h6.step hd7 ⟨_, hl7⟩ hk7; have hB67 := hk7.below (B := w.heap.size) (fun k hf => hf.elim (h6.fF k) (fun e => by rw [e]; exact h6.ll)) h6.b.size; have c17 := cell_of_block h7.pk (j := 1) rfl))
  have HB07 := Hid.mk ((hb06.mono H.out.b.size).trans hB67)
  have hA7 := hA.append hj hd hd7.ok
  clear htw hr6 hb6 hs6 hk7 c1 c16 c17 hb06 h6 hB67
  obtain ⟨ad, rfl⟩ : ∃ ad, da = some ad := by
    cases da with
    | none => have := HS.out.2.1 rfl; omega
    | some ad => exact ⟨ad, rfl⟩
  have hadl := hda ad rfl (by omega)
  have hdr7 := below_drew (Below.refl w7.heap.size w7)
  have hs7 : Src w7.drew (some ad) d.length d := (HS.out.far HB07.out hda).later hdr7
  have h7d := h7.later hdr7
  obtain ⟨g', cap', w8, hrun, hll8, hk8⟩ := h7d.ls.push h7d.b.size h7d.d.lt (by have := hA.few; omega) dc hs7 (by omega) (fun hf => by have := h7d.fF _ hf; omega) hadl
  obtain ⟨hm9, ⟨kp8, kb8, fb8, kp9⟩, hlog⟩ := h7d.pushed hll8 hk8
  have hl9 := hlog _ _ (hl7.later hdr7)
  have kp3 : w7.drew.cell? ⟨pb, 3, none⟩ = some (.pointer (some ⟨bb, 0, none⟩)) := cell_of_block h7d.pk (j := 3) rfl
  have kb0 : w7.drew.cell? ⟨bb, 0, none⟩ = some v := cell_of_block h7d.bk (j := 0) rfl
  have hbxA := below_box w7.drew (.cells #[.slice (some ad) d.length dc] 35)
  have kpA : (w7.drew.alloc (.cells #[.slice (some ad) d.length dc] 35)).cell? ⟨pb, 3, none⟩ = some (.pointer (some ⟨bb, 0, none⟩)) := cell_later hbxA kp3
  have kbA : (w7.drew.alloc (.cells #[.slice (some ad) d.length dc] 35)).cell? ⟨bb, 0, none⟩ = some v := cell_later hbxA kb0
  have kbB : (w7.alloc (.cells #[.slice (some ad) d.length dc] 35)).cell? ⟨bb, 0, none⟩ = some v := kbA
  have HRun := Hid.mk hrun
  have HZ : Hid (KAt w (w8.setCell ⟨bb, 0, none⟩ (.slice (some ⟨g', 0, none⟩) (ds.length + 1) cap')) pb n j) := by
    rw [hL] at hl9
    refine ⟨_, _, _, _, _, _, _, _, _, hm9, .inr ⟨⟨hfz, hI.ok, hI.byt, hI.p6, hI.l0, hI.lt, hH, ?_, ?_⟩, .inl ⟨L, hl9, (hI.at (i := 0) rfl).1, (hI.at (i := 0) rfl).2⟩⟩⟩
    · cases nn
      · exact hfu
      · exact hfu.loose
    · rw [List.length_append]
      have := hA.few
      simp only [List.length_singleton]
      omega
  clear hA7 h7 hl7 hd7 h7d hrun hll8 hk8 hm9 hlog hl9 hs7 hdr7 hbxA
  go_wp2_with fail
  refine wp_region_held_drew (S := (fun w' => w'.cell? ⟨pb, 3, none⟩ = some (.pointer (some ⟨bb, 0, none⟩)))) (by kernel_rfl) (kp3) (fun hHeld => ?_)
  refine wpAnyH_take (i := 0) (oi := { dst := some 54, op := Op.move (Operand.tmp 0), type := 27, pos := "outright.go:74", after := #[], guard := none }) (v := .pointer (some ⟨pb, 0, none⟩)) rfl (by kernel_rfl) (by kernel_rfl) (by kernel_rfl) (fun _ _ _ h => h) (Or.inl ⟨by rfl, ?_⟩) (by assumption) ?_
  · intro w hSw
    (try dsimp only at hSw)
    go_simp
  try simp only [Act.put, List.setIfInBounds_toArray, List.set_cons_zero, List.set_cons_succ]
  refine wpAnyH_take (i := 1) (oi := { dst := some 55, op := Op.nilCheck (Operand.tmp 54), type := 0, pos := "outright.go:74", after := #[{ on := 0, ground := Ground.data }], guard := none }) (v := .pointer (some ⟨pb, 0, none⟩)) rfl (by kernel_rfl) (by kernel_rfl) (by kernel_rfl) (fun _ _ _ h => h) (Or.inl ⟨by rfl, ?_⟩) (by assumption) ?_
  · intro w hSw
    (try dsimp only at hSw)
    go_simp
  try simp only [Act.put, List.setIfInBounds_toArray, List.set_cons_zero, List.set_cons_succ]
  refine wpAnyH_take (i := 2) (oi := { dst := some 56, op := Op.fieldAddr 33 (Operand.tmp 55) 3, type := 0, pos := "outright.go:74", after := #[{ on := 1, ground := Ground.data }], guard := none }) (v := .pointer (some ⟨pb, 3, none⟩)) rfl (by kernel_rfl) (by kernel_rfl) (by kernel_rfl) (fun _ _ _ h => h) (Or.inl ⟨by rfl, ?_⟩) (by assumption) ?_
  · intro w hSw
    (try dsimp only at hSw)
    go_simp
  try simp only [Act.put, List.setIfInBounds_toArray, List.set_cons_zero, List.set_cons_succ]
  refine wpAnyH_take (i := 3) (oi := { dst := some 57, op := Op.load 28 (Operand.tmp 56), type := 28, pos := "outright.go:74", after := #[{ on := 2, ground := Ground.data }], guard := none }) (v := .pointer (some ⟨bb, 0, none⟩)) rfl (by kernel_rfl) (by kernel_rfl) (by kernel_rfl) (fun _ _ _ h => h) (Or.inl ⟨by rfl, ?_⟩) (by assumption) ?_
  · intro w hSw
    (try dsimp only at hSw)
    go_simp
  try simp only [Act.put, List.setIfInBounds_toArray, List.set_cons_zero, List.set_cons_succ]
  refine wpAnyH_take (i := 4) (oi := { dst := some 58, op := Op.move (Operand.tmp 0), type := 27, pos := "outright.go:74", after := #[], guard := none }) (v := .pointer (some ⟨pb, 0, none⟩)) rfl (by kernel_rfl) (by kernel_rfl) (by kernel_rfl) (fun _ _ _ h => h) (Or.inl ⟨by rfl, ?_⟩) (by assumption) ?_
  · intro w hSw
    (try dsimp only at hSw)
    go_simp
  try simp only [Act.put, List.setIfInBounds_toArray, List.set_cons_zero, List.set_cons_succ]
  refine wpAnyH_take (i := 5) (oi := { dst := some 59, op := Op.nilCheck (Operand.tmp 58), type := 0, pos := "outright.go:74", after := #[{ on := 4, ground := Ground.data }], guard := none }) (v := .pointer (some ⟨pb, 0, none⟩)) rfl (by kernel_rfl) (by kernel_rfl) (by kernel_rfl) (fun _ _ _ h => h) (Or.inl ⟨by rfl, ?_⟩) (by assumption) ?_
  · intro w hSw
    (try dsimp only at hSw)
    go_simp
  try simp only [Act.put, List.setIfInBounds_toArray, List.set_cons_zero, List.set_cons_succ]
  refine wpAnyH_take (i := 6) (oi := { dst := some 60, op := Op.fieldAddr 33 (Operand.tmp 59) 3, type := 0, pos := "outright.go:74", after := #[{ on := 5, ground := Ground.data }], guard := none }) (v := .pointer (some ⟨pb, 3, none⟩)) rfl (by kernel_rfl) (by kernel_rfl) (by kernel_rfl) (fun _ _ _ h => h) (Or.inl ⟨by rfl, ?_⟩) (by assumption) ?_
  · intro w hSw
    (try dsimp only at hSw)
    go_simp
  try simp only [Act.put, List.setIfInBounds_toArray, List.set_cons_zero, List.set_cons_succ]
  refine wpAnyH_take (i := 7) (oi := { dst := some 61, op := Op.load 28 (Operand.tmp 60), type := 28, pos := "outright.go:74", after := #[{ on := 6, ground := Ground.data }], guard := none }) (v := .pointer (some ⟨bb, 0, none⟩)) rfl (by kernel_rfl) (by kernel_rfl) (by kernel_rfl) (fun _ _ _ h => h) (Or.inl ⟨by rfl, ?_⟩) (by assumption) ?_
  · intro w hSw
    (try dsimp only at hSw)
    go_simp
  try simp only [Act.put, List.setIfInBounds_toArray, List.set_cons_zero, List.set_cons_succ]
  refine wpAnyH_take (i := 8) (oi := { dst := some 62, op := Op.nilCheck (Operand.tmp 61), type := 0, pos := "outright.go:74", after := #[{ on := 7, ground := Ground.data }], guard := none }) (v := .pointer (some ⟨bb, 0, none⟩)) rfl (by kernel_rfl) (by kernel_rfl) (by kernel_rfl) (fun _ _ _ h => h) (Or.inl ⟨by rfl, ?_⟩) (by assumption) ?_
  · intro w hSw
    (try dsimp only at hSw)
    go_simp
  try simp only [Act.put, List.setIfInBounds_toArray, List.set_cons_zero, List.set_cons_succ]
  refine wpAnyH_take (i := 9) (oi := { dst := some 63, op := Op.fieldAddr 31 (Operand.tmp 62) 0, type := 0, pos := "outright.go:74", after := #[{ on := 8, ground := Ground.data }], guard := none }) (v := .pointer (some ⟨bb, 0, none⟩)) rfl (by kernel_rfl) (by kernel_rfl) (by kernel_rfl) (fun _ _ _ h => h) (Or.inl ⟨by rfl, ?_⟩) (by assumption) ?_
  · intro w hSw
    (try dsimp only at hSw)
    go_simp
  try simp only [Act.put, List.setIfInBounds_toArray, List.set_cons_zero, List.set_cons_succ]
  refine wpAnyH_take (i := 11) (oi := { dst := some 65, op := Op.move (Operand.tmp 1), type := 35, pos := "outright.go:74", after := #[], guard := none }) (v := .slice (some ad) d.length dc) rfl (by kernel_rfl) (by kernel_rfl) (by kernel_rfl) (fun _ _ _ h => h) (Or.inl ⟨by rfl, ?_⟩) (by assumption) ?_
  · intro w hSw
    (try dsimp only at hSw)
    go_simp
  try simp only [Act.put, List.setIfInBounds_toArray, List.set_cons_zero, List.set_cons_succ]
  refine wpAnyH_ready (rs := [10, 12]) (by kernel_rfl) (by simp) ?_
  refine AllReadyH.cons (o := { dst := some 64, op := Op.load 29 (Operand.tmp 63), type := 29, pos := "outright.go:74", after := #[{ on := 9, ground := Ground.data }], guard := none }) rfl (fun K hK => ?_) (AllReadyH.cons (o := { dst := some 66, op := Op.buildSlice 29 1 #[(0, Operand.tmp 65)], type := 29, pos := "outright.go:74", after := #[{ on := 11, ground := Ground.data }], guard := none }) rfl (fun K hK => ?_) AllReadyH.nil)
  · go_simp
    refine hK.out _ _ ?_ (fun hHeld => ?_)
    · exact kp3
    clear hK K
    try simp only [Act.put, List.setIfInBounds_toArray, List.set_cons_zero, List.set_cons_succ]
    refine wpAnyH_ready (rs := [12]) (by kernel_rfl) (by simp) ?_
    refine AllReadyH.cons (o := { dst := some 66, op := Op.buildSlice 29 1 #[(0, Operand.tmp 65)], type := 29, pos := "outright.go:74", after := #[{ on := 11, ground := Ground.data }], guard := none }) rfl (fun K hK => ?_) AllReadyH.nil
    go_simp
    refine hK.out _ _ ?_ (fun hHeld => ?_)
    · exact kpA
    clear hK K
    try simp only [Act.put, List.setIfInBounds_toArray, List.set_cons_zero, List.set_cons_succ]
    refine wpAnyH_ready (rs := [13]) (by kernel_rfl) (by simp) ?_
    refine AllReadyH.cons (o := { dst := some 67, op := Op.call { callee := Callee.builtin Builtin.append, args := #[Operand.tmp 64, Operand.tmp 66], argTypes := #[29, 29] }, type := 29, pos := "outright.go:74", after := #[{ on := 10, ground := Ground.data }, { on := 12, ground := Ground.data }], guard := none }) rfl (fun K hK => ?_) AllReadyH.nil
    rw [if_pos (by rfl)]
    refine wp_append_run _ _ _ rfl v (.slice (some ⟨w7.heap.size, 0, none⟩) 1 1) _ rfl rfl HRun.out ?_
    refine hK.out _ _ ?_ (fun hHeld => ?_)
    · exact kp8
    clear hK K
    try simp only [Act.put, List.setIfInBounds_toArray, List.set_cons_zero, List.set_cons_succ]
    refine wpAnyH_take (i := 14) (oi := { dst := some 68, op := Op.nilCheck (Operand.tmp 57), type := 0, pos := "outright.go:74", after := #[{ on := 3, ground := Ground.data }, { on := 0, ground := Ground.phase }, { on := 1, ground := Ground.phase }, { on := 2, ground := Ground.phase }, { on := 3, ground := Ground.phase }, { on := 4, ground := Ground.phase }, { on := 5, ground := Ground.phase }, { on := 6, ground := Ground.phase }, { on := 7, ground := Ground.phase }, { on := 8, ground := Ground.phase }, { on := 9, ground := Ground.phase }, { on := 10, ground := Ground.phase }, { on := 11, ground := Ground.phase }, { on := 12, ground := Ground.phase }, { on := 13, ground := Ground.phase }], guard := none }) (v := .pointer (some ⟨bb, 0, none⟩)) rfl (by kernel_rfl) (by kernel_rfl) (by kernel_rfl) (fun _ _ _ h => h) (Or.inl ⟨by rfl, ?_⟩) (by assumption) ?_
    · intro w hSw
      (try dsimp only at hSw)
      go_simp
    try simp only [Act.put, List.setIfInBounds_toArray, List.set_cons_zero, List.set_cons_succ]
    refine wpAnyH_take (i := 15) (oi := { dst := some 69, op := Op.fieldAddr 31 (Operand.tmp 68) 0, type := 0, pos := "outright.go:74", after := #[{ on := 14, ground := Ground.data }, { on := 0, ground := Ground.phase }, { on := 1, ground := Ground.phase }, { on := 2, ground := Ground.phase }, { on := 3, ground := Ground.phase }, { on := 4, ground := Ground.phase }, { on := 5, ground := Ground.phase }, { on := 6, ground := Ground.phase }, { on := 7, ground := Ground.phase }, { on := 8, ground := Ground.phase }, { on := 9, ground := Ground.phase }, { on := 10, ground := Ground.phase }, { on := 11, ground := Ground.phase }, { on := 12, ground := Ground.phase }, { on := 13, ground := Ground.phase }], guard := none }) (v := .pointer (some ⟨bb, 0, none⟩)) rfl (by kernel_rfl) (by kernel_rfl) (by kernel_rfl) (fun _ _ _ h => h) (Or.inl ⟨by rfl, ?_⟩) (by assumption) ?_
    · intro w hSw
      (try dsimp only at hSw)
      go_simp
    try simp only [Act.put, List.setIfInBounds_toArray, List.set_cons_zero, List.set_cons_succ]
    refine wpAnyH_ready (rs := [16]) (by kernel_rfl) (by simp) ?_
    refine AllReadyH.cons (o := { dst := none, op := Op.store 29 (Operand.tmp 69) (Operand.tmp 67), type := 0, pos := "outright.go:74", after := #[{ on := 15, ground := Ground.data }, { on := 13, ground := Ground.data }, { on := 13, ground := Ground.chain }, { on := 0, ground := Ground.phase }, { on := 1, ground := Ground.phase }, { on := 2, ground := Ground.phase }, { on := 3, ground := Ground.phase }, { on := 4, ground := Ground.phase }, { on := 5, ground := Ground.phase }, { on := 6, ground := Ground.phase }, { on := 7, ground := Ground.phase }, { on := 8, ground := Ground.phase }, { on := 9, ground := Ground.phase }, { on := 10, ground := Ground.phase }, { on := 11, ground := Ground.phase }, { on := 12, ground := Ground.phase }, { on := 13, ground := Ground.phase }], guard := none }) rfl (fun K hK => ?_) AllReadyH.nil
    go_simp
    refine hK.out _ _ ?_ (fun hHeld => ?_)
    · exact kp9
    clear hK K
    try simp only [Act.put, List.setIfInBounds_toArray, List.set_cons_zero, List.set_cons_succ]
    refine wpAnyH_done (by kernel_rfl) ?_ _
    clear kp3 kb0 kpA kbA kbB kp8 kb8 fb8 kp9 HRun
    go_wp2
    go_ret
    exact ⟨rfl, HZ.out⟩
  · go_simp
    refine hK.out _ _ ?_ (fun hHeld => ?_)
    · exact kpA
    clear hK K
    try simp only [Act.put, List.setIfInBounds_toArray, List.set_cons_zero, List.set_cons_succ]
    refine wpAnyH_ready (rs := [10]) (by kernel_rfl) (by simp) ?_
    refine AllReadyH.cons (o := { dst := some 64, op := Op.load 29 (Operand.tmp 63), type := 29, pos := "outright.go:74", after := #[{ on := 9, ground := Ground.data }], guard := none }) rfl (fun K hK => ?_) AllReadyH.nil
    go_simp
    refine hK.out _ _ ?_ (fun hHeld => ?_)
    · exact kpA
    clear hK K
    try simp only [Act.put, List.setIfInBounds_toArray, List.set_cons_zero, List.set_cons_succ]
    refine wpAnyH_ready (rs := [13]) (by kernel_rfl) (by simp) ?_
    refine AllReadyH.cons (o := { dst := some 67, op := Op.call { callee := Callee.builtin Builtin.append, args := #[Operand.tmp 64, Operand.tmp 66], argTypes := #[29, 29] }, type := 29, pos := "outright.go:74", after := #[{ on := 10, ground := Ground.data }, { on := 12, ground := Ground.data }], guard := none }) rfl (fun K hK => ?_) AllReadyH.nil
    rw [if_pos (by rfl)]
    refine wp_append_run _ _ _ rfl v (.slice (some ⟨w7.heap.size, 0, none⟩) 1 1) _ rfl rfl HRun.out ?_
    refine hK.out _ _ ?_ (fun hHeld => ?_)
    · exact kp8
    clear hK K
    try simp only [Act.put, List.setIfInBounds_toArray, List.set_cons_zero, List.set_cons_succ]
    refine wpAnyH_take (i := 14) (oi := { dst := some 68, op := Op.nilCheck (Operand.tmp 57), type := 0, pos := "outright.go:74", after := #[{ on := 3, ground := Ground.data }, { on := 0, ground := Ground.phase }, { on := 1, ground := Ground.phase }, { on := 2, ground := Ground.phase }, { on := 3, ground := Ground.phase }, { on := 4, ground := Ground.phase }, { on := 5, ground := Ground.phase }, { on := 6, ground := Ground.phase }, { on := 7, ground := Ground.phase }, { on := 8, ground := Ground.phase }, { on := 9, ground := Ground.phase }, { on := 10, ground := Ground.phase }, { on := 11, ground := Ground.phase }, { on := 12, ground := Ground.phase }, { on := 13, ground := Ground.phase }], guard := none }) (v := .pointer (some ⟨bb, 0, none⟩)) rfl (by kernel_rfl) (by kernel_rfl) (by kernel_rfl) (fun _ _ _ h => h) (Or.inl ⟨by rfl, ?_⟩) (by assumption) ?_
    · intro w hSw
      (try dsimp only at hSw)
      go_simp
    try simp only [Act.put, List.setIfInBounds_toArray, List.set_cons_zero, List.set_cons_succ]
    refine wpAnyH_take (i := 15) (oi := { dst := some 69, op := Op.fieldAddr 31 (Operand.tmp 68) 0, type := 0, pos := "outright.go:74", after := #[{ on := 14, ground := Ground.data }, { on := 0, ground := Ground.phase }, { on := 1, ground := Ground.phase }, { on := 2, ground := Ground.phase }, { on := 3, ground := Ground.phase }, { on := 4, ground := Ground.phase }, { on := 5, ground := Ground.phase }, { on := 6, ground := Ground.phase }, { on := 7, ground := Ground.phase }, { on := 8, ground := Ground.phase }, { on := 9, ground := Ground.phase }, { on := 10, ground := Ground.phase }, { on := 11, ground := Ground.phase }, { on := 12, ground := Ground.phase }, { on := 13, ground := Ground.phase }], guard := none }) (v := .pointer (some ⟨bb, 0, none⟩)) rfl (by kernel_rfl) (by kernel_rfl) (by kernel_rfl) (fun _ _ _ h => h) (Or.inl ⟨by rfl, ?_⟩) (by assumption) ?_
    · intro w hSw
      (try dsimp only at hSw)
      go_simp
    try simp only [Act.put, List.setIfInBounds_toArray, List.set_cons_zero, List.set_cons_succ]
    refine wpAnyH_ready (rs := [16]) (by kernel_rfl) (by simp) ?_
    refine AllReadyH.cons (o := { dst := none, op := Op.store 29 (Operand.tmp 69) (Operand.tmp 67), type := 0, pos := "outright.go:74", after := #[{ on := 15, ground := Ground.data }, { on := 13, ground := Ground.data }, { on := 13, ground := Ground.chain }, { on := 0, ground := Ground.phase }, { on := 1, ground := Ground.phase }, { on := 2, ground := Ground.phase }, { on := 3, ground := Ground.phase }, { on := 4, ground := Ground.phase }, { on := 5, ground := Ground.phase }, { on := 6, ground := Ground.phase }, { on := 7, ground := Ground.phase }, { on := 8, ground := Ground.phase }, { on := 9, ground := Ground.phase }, { on := 10, ground := Ground.phase }, { on := 11, ground := Ground.phase }, { on := 12, ground := Ground.phase }, { on := 13, ground := Ground.phase }], guard := none }) rfl (fun K hK => ?_) AllReadyH.nil
    go_simp
    refine hK.out _ _ ?_ (fun hHeld => ?_)
    · exact kp9
    clear hK K
    try simp only [Act.put, List.setIfInBounds_toArray, List.set_cons_zero, List.set_cons_succ]
    refine wpAnyH_done (by kernel_rfl) ?_ _
    clear kp3 kb0 kpA kbA kbB kp8 kb8 fb8 kp9 HRun
    go_wp2
    go_ret
    exact ⟨rfl, HZ.out⟩
end
end Go.Proofs.YtllkjmbcjlbmbaaGreat
