import Derived.Test.YtplpkppkaahchaaW16
import Derived.Scope
import Derived.WalkMore
section
namespace Go.Proofs.Ytplpkppkaahchaa.B
open Go.RowKit Go.Shelf

attribute [local go_sem] Oper.semAt_some

section
variable {w : World} {F : Nat → Prop} {p s l cR : Nat} {S : DS} {L : LG}

set_option maxRecDepth 100000 in
set_option maxHeartbeats 8000000 in
theorem Append_go (h : DiskR w F p s S cR) (hl : LogP w l p L) (hk : L.Ok s) (hF : ¬ F l) (b o x k : Nat) (d : List Int) (hs : Src w (some ⟨b, o, none⟩) x d) (hFb : ¬ F b) (hd : Bytes d) (hxk : x ≤ k) (hr : L.refuses S x = 0) (hbig : S.puts.length + 100 ≤ 4000000000000) :
    Calls Try.prog 7 #[.pointer (some ⟨l, 0, none⟩), .slice (some ⟨b, o, none⟩) x k] w fun e w' => e = .returned (.int .i64 (L.append S s d).1) ∧ DiskR w' (more F w w') p s (L.append S s d).2.1 (cR + 17) ∧ LogP w' l p (L.append S s d).2.2 ∧ Keeps (fun k => F k ∨ k = l) w w' := by
  obtain ⟨k0, k1, k2, k3, k4⟩ := refuses_zero hr
  obtain ⟨W0, hW0⟩ : ∃ W0, (w.alloc (.cells #[.pointer (some ⟨l, 0, none⟩)] 24)).alloc (.cells #[.int .i64 0] 29) = W0 := ⟨_, rfl⟩
  have hb0 : Below w.heap.size w W0 := by rw [← hW0]; exact below_two _ _ _
  have hq0 : AppBox W0 w.heap.size l := by
    rw [← hW0]
    refine ⟨(Below.heap_alloc _ _ _ (by simp)).trans (heap_alloc_new _ _), ?_⟩
    have := heap_alloc_new (w.alloc (.cells #[.pointer (some ⟨l, 0, none⟩)] 24)) (.cells #[.int .i64 0] 29)
    rwa [World.size_alloc] at this
  have h1 := unready_any (h.later hb0) (hl.later hb0)
  rw [k0] at h1
  have hsz := hl.lt
  have HW := Hid.mk hW0
  have HQ := Hid.mk hq0
  have HB := Hid.mk hb0
  have HL := Hid.mk (hl.later hb0)
  have hhi := hk.hi
  have HO := Hid.mk hk
  have hd1 : ((x : Int) == 0) = false := by rw [beq_eq_false_iff_ne]; omega
  have hd2 : ¬ (8364 : Int) < (x : Int) := by omega
  obtain ⟨C, hC⟩ : ∃ C, C = (x + 491) / 492 := ⟨_, rfl⟩
  have hC1 : cntOf x = C := by rw [hC]; rfl
  rw [hC1] at k3 k4
  have hC2 : C ≤ 17 := by omega
  have hd3 : ¬ (1073741824 : Int) < (L.head : Int) + (C : Int) := by omega
  have hd4 : ¬ (L.n : Int) - ((L.head : Int) - (L.tail : Int)) < (C : Int) := by omega
  have HC := Hid.mk hC
  have HD := Hid.mk h
  have HLw := Hid.mk hl
  have HR := Hid.mk hr
  have HLt := Hid.mk h.lt
  clear hC hb0 hq0 hW0 hk hl h hr k0
  refine (callsIn_wide (n := 6)).1 ?_
  refine callsIn_of_wp_marks Try.func7 rfl trivial ?_ rfl
  simp only [Try.ntmps7, List.size_toArray, List.length_cons, List.length_nil, Nat.reduceAdd, Nat.reduceSub, Array.replicate_succ, Array.replicate_zero, List.push_toArray, List.append_toArray, List.nil_append, List.cons_append]
  refine (wpIn_wide (n := 6)).2 ?_
  go_wp2_with fail
  rw [HW.out]
  refine h1.mono ?_
  rintro e w1 ⟨rfl, hb1⟩
  have hq1 := AppBox.later HQ.out hb1
  have b0 : w1.cell? ⟨w.heap.size, 0, none⟩ = some (.pointer (some ⟨l, 0, none⟩)) := cell_of_block hq1.1 (j := 0) rfl
  have hl1 := HL.out.later hb1
  have hB1 := HB.out.trans (hb1.mono HB.out.size)
  have c7 := hl1.c7
  have h3 := room_any hl1 HO.out
  have h2 := fun wx => sectorsOf_any x wx (by omega)
  have HB1 := Hid.mk hB1
  have HQ1 := Hid.mk hq1
  have HL1 := Hid.mk hl1
  clear h1 hb1 hB1 hq1 hl1
  go_wp2_with fail
  refine (h2 _).mono ?_
  rintro e w2 ⟨rfl, hw2⟩
  have hw3 := hw2.symm
  subst hw3
  rw [← HC.out]
  clear h2 hw2
  go_wp2_with fail
  refine h3.mono ?_
  rintro e w2 ⟨rfl, hb2⟩
  have hq2 := AppBox.later HQ1.out hb2
  have hB2 := HB1.out.trans (hb2.mono HB1.out.size)
  have hl2 := HL1.out.later hb2
  have b2 : w2.cell? ⟨w.heap.size, 0, none⟩ = some (.pointer (some ⟨l, 0, none⟩)) := cell_of_block hq2.1 (j := 0) rfl
  have e5 := hl2.c5
  have e7 := hl2.c7
  have n1 := World.new_ne w2 ⟨w.heap.size, 0, none⟩ b2
  have n2 := World.new_ne w2 ⟨l, 5, none⟩ e5
  clear h3 hb2
  go_wp2_with fail
  go_region_held3 (fun w' => w'.cell? ⟨w.heap.size, 0, none⟩ = some (.pointer (some ⟨l, 0, none⟩)) ∧ w'.cell? ⟨l, 5, none⟩ = some (.int .i64 (L.ep : Int)) ∧ w'.cell? ⟨l, 7, none⟩ = some (.int .i64 (L.head : Int))) (go_keep) (fail)
  have hsz2 : w.heap.size + 2 ≤ w2.heap.size := by have := lt_there hq2.2; omega
  clear n1 n2 c7 e5 e7 b2 b0
  obtain ⟨W3, hW3⟩ : ∃ W3, (w2.alloc (.cells #[.int .i64 (L.ep : Int), .int .i64 (L.head : Int), .int .i64 0, .int .i64 (C : Int)] 68)).drew = W3 := ⟨_, rfl⟩
  rw [hW3]
  have hz3 : W3.heap.size = w2.heap.size + 1 := by rw [← hW3]; show (w2.alloc _).heap.size = _; simp
  have hB3 : Below w.heap.size w W3 := by rw [← hW3]; exact below_drew (hB2.alloc hB2.size _)
  have hm3 : W3.heap[w2.heap.size]? = some (.cells #[.int .i64 (L.ep : Int), .int .i64 (L.head : Int), .int .i64 0, .int .i64 (C : Int)] 68 (0, 0)) := by rw [← hW3]; exact heap_alloc_new _ _
  have hq3 : AppBox W3 w.heap.size l := hq2.later (by rw [← hW3]; exact below_drew (below_box _ _))
  have HZ3 := Hid.mk hz3
  have HB3 := Hid.mk hB3
  have HM3 := Hid.mk hm3
  have HQ3 := Hid.mk hq3
  clear hW3 hB3 hm3 hq3 hz3 hq2 hB2 hl2
  go_wp2_with fail
  refine (chunk_any (some ⟨b, o, none⟩) x k W3).mono ?_
  rintro e w4 ⟨rfl, hw4⟩
  go_wp2_with fail
  refine (wpIn_wide (n := 6)).1 ?_
  have hb4 : Below W3.heap.size W3 w4 := by rw [hw4]; exact below_two _ _ _
  have hz4 : w4.heap.size = w2.heap.size + 3 := by rw [hw4]; have := HZ3.out; simp; omega
  have hs4 : w4.heap[w2.heap.size + 1]? = some (.cells #[.slice (some ⟨b, o, none⟩) x k] 27 (0, 0)) := by
    rw [hw4, ← HZ3.out]
    exact (Below.heap_alloc _ _ _ (by simp)).trans (heap_alloc_new _ _)
  have hn4 : w4.heap[w2.heap.size + 1 + 1]? = some (.cells #[.int .i64 492] 3 (0, 0)) := by
    rw [hw4, ← HZ3.out]
    have := heap_alloc_new (W3.alloc (.cells #[.slice (some ⟨b, o, none⟩) x k] 27)) (.cells #[.int .i64 492] 3)
    rwa [World.size_alloc] at this
  rw [HZ3.out]
  rw [← hw4]
  clear hw4
  have hB4 := HB3.out.trans (hb4.mono HB3.out.size)
  have hxd : d.length = x := hs.1
  have hcd : cntOf d.length = C := by rw [hxd]; exact hC1
  obtain ⟨m, hDm⟩ := HD.out.some_m
  have hmw : m < w.heap.size := HD.out.lt m hDm.fm
  have hw4z := hB4.size
  have hI0 : AppI w w4 F l p s m w2.heap.size w4.heap.size L S d [] cR := by
    refine ⟨rfl, ?_, ?_, HQ3.out.later hb4, Keeps.of_below F hB4, Nat.le_refl _⟩
    · exact (hDm.later hB4).narrow (fun k hk hc => ⟨.inl hk, hc, by have := HD.out.lt k hk; omega⟩) (fun _ hk => hk.2.2)
    · rw [hcd]
      exact (hb4.block _ (lt_there HM3.out)).trans HM3.out
  refine wpIn_rangeFunc_ownH rfl (by omega) (gf := 52) (lb := #[.pointer (some ⟨w2.heap.size + 1, 0, none⟩), .pointer (some ⟨w2.heap.size + 1 + 1, 0, none⟩)]) rfl trivial (enters_of Try.func52 (by kernel_rfl) rfl)
    (chunk_stops (6 - 1) (by omega) (w2.heap.size + 1) (w2.heap.size + 1 + 1) b o x k C k1 k2 hxk HC.out w4 hs4 hn4) KpC.t (KpC.b (by omega) (by omega)) (Below.refl _ _) (fun _ => rfl)
    (fun pre W => AppI w W F l p s m w2.heap.size w4.heap.size L S d (pre.map Fin.val) cR)
    (fun c pre W => c = .ret ∧ AppX w W F p s m w4.heap.size L S d (pre.map Fin.val) cR)
    ?hI ?hIx hI0
    (fun y a' _ => a' = { tmps := #[Value.pointer (some ⟨l, 0, none⟩), .slice (some ⟨b, o, none⟩) x k, .pointer (some ⟨w.heap.size, 0, none⟩), undef, .pointer (some ⟨w.heap.size + 1, 0, none⟩), .int .i64 0, .int .i64 (C : Int), .pointer (some ⟨w2.heap.size, 0, none⟩), .slice (some ⟨b, o + 492 * y.1, none⟩) (chLen x y.1) (chLen x y.1), undef, .pointer (some ⟨l, 0, none⟩), .int .i64 0, .int .i64 0, .bool false, undef, .slice (some ⟨b, o, none⟩) x k, .int .i64 (x : Int), .int .i64 (C : Int), .bool false, .slice (some ⟨b, o, none⟩) x k, .int .i64 (x : Int), .bool false, .bool (decide ((8364 : Int) < (x : Int))), .slice (some ⟨b, o, none⟩) x k, .int .i64 (x : Int), .bool (decide ((8364 : Int) < (x : Int))), .bool (decide ((1073741824 : Int) < (L.head : Int) + (C : Int))), .pointer (some ⟨l, 0, none⟩), .pointer (some ⟨l, 0, none⟩), .pointer (some ⟨l, 7, none⟩), .int .i64 (L.head : Int), .int .i64 (C : Int), .int .i64 ((L.head : Int) + (C : Int)), .bool (decide ((1073741824 : Int) < (L.head : Int) + (C : Int))), .bool (decide ((L.n : Int) - ((L.head : Int) - (L.tail : Int)) < (C : Int))), .int .i64 (C : Int), .pointer (some ⟨l, 0, none⟩), .int .i64 ((L.n : Int) - ((L.head : Int) - (L.tail : Int))), .bool (decide ((L.n : Int) - ((L.head : Int) - (L.tail : Int)) < (C : Int))), .pointer (some ⟨l, 0, none⟩), .pointer (some ⟨l, 0, none⟩), .pointer (some ⟨l, 5, none⟩), .int .i64 (L.ep : Int), .pointer (some ⟨l, 0, none⟩), .pointer (some ⟨l, 0, none⟩), .pointer (some ⟨l, 7, none⟩), .int .i64 (L.head : Int), .int .i64 (C : Int), .agg #[.int .i64 (L.ep : Int), .int .i64 (L.head : Int), .int .i64 0, .int .i64 (C : Int)], .slice (some ⟨b, o, none⟩) x k, .func (.func 52) #[] #[.pointer (some ⟨w2.heap.size + 1, 0, none⟩), .pointer (some ⟨w2.heap.size + 1 + 1, 0, none⟩)], .slice (some ⟨b, o + 492 * y.1, none⟩) (chLen x y.1) (chLen x y.1), undef, undef, undef, undef, undef, undef, undef, undef, undef, undef, undef, undef, undef, undef, undef, undef, undef, undef, undef, undef, undef], defers := [] }) ?hAx ?assign ?body ?done ?stop
  case hI => exact fun _ _ _ _ h hg hr => h.grown (by omega) hw4z hg hr
  case hIx => exact fun _ _ _ _ _ h hg hr => ⟨h.1, h.2.grown (by omega) hw4z hg hr⟩
  case hAx => exact fun _ _ _ _ _ _ h _ _ => h
  case assign =>
    intro l' pre y W K hI hK
    simp only [encC]
    gi_wp2
    exact hK _ _ (KeepsFrom.refl _ _) (KpC.refl _ _ _) hI rfl
  case body =>
    rintro l' pre y a' W hl' ⟨rr, hrr⟩ hI rfl hlt
    have hlen : (pre.map Fin.val).length = pre.length := by simp
    have hmp : (pre ++ [y]).map Fin.val = pre.map Fin.val ++ [y.1] := by simp
    have hy := y.2
    have hlW : LogP W l p L := HLw.out.keep hI.kp hF
    have hsW : Src W (some ⟨b, o, none⟩) x d := hs.avoid hI.kp (fun z hz _ => by cases hz; exact hFb)
    have hpt := appL_puts L S s d (pre.map Fin.val)
    have hmx : Try.prog.follows .mixedOrders = true := by kernel_rfl
    have hcl : chLen x y.1 = min 492 (x - 492 * y.1) := rfl
    have hyx : 492 * y.1 < x := by have := HC.out; omega
    have hsP : Src W (some ⟨b, o + 492 * y.1, none⟩) (chLen x y.1) (partOf d y.1) := by
      have := hsW.sub (492 * y.1) (chLen x y.1) (by omega)
      rwa [show (d.drop (492 * y.1)).take (chLen x y.1) = partOf d y.1 by unfold partOf; rw [List.take_eq_take_iff, List.length_drop, hxd]; omega] at this
    have hbP : Bytes (partOf d y.1) := partOf_bytes hd _
    have hblt : b < w.heap.size := hs.old _ rfl (by omega)
    have hFC : ∀ k, w.heap.size ≤ k → k < w4.heap.size → ¬ FC F w4.heap.size m W.drew k := fun k h1 h2 h => by
      rcases h.1 with h | h
      · have := HLt.out k h; omega
      · omega
    have hdW : DiskRM W.drew (FC F w4.heap.size m W.drew) p s (appL L S s d (pre.map Fin.val)).2 m (cR + (pre.map Fin.val).length) := hI.dk.carry (fun _ _ _ _ h => h) rfl (Nat.le_refl _)
    have hput := put_any hdW L.f L.n L.ep (L.head + (pre.map Fin.val).length) (pre.map Fin.val).length C (some ⟨b, o + 492 * y.1, none⟩) (chLen x y.1) (chLen x y.1) (partOf d y.1) (hsP.later (below_drew (Below.refl _ _))) (fun z hz _ h => by
      cases hz
      rcases h.1 with h | h
      · exact hFb h
      · have : w4.heap.size ≤ b := h
        omega) hbP (by omega) (fun h => by cases h) (by have := HO.out.n1; omega) HO.out.s (by omega)
    have hsn := appL_snoc (L := L) (S := S) (s := s) (d := d) y.1 hI.ok
    rw [hcd] at hsn
    generalize aput (appL L S s d (pre.map Fin.val)).2 s L.f L.n L.ep (L.head + (pre.map Fin.val).length) (pre.map Fin.val).length C (partOf d y.1) = Y at hput hsn
    rw [← hmp] at hsn
    have b0 : W.drew.cell? ⟨w.heap.size, 0, none⟩ = some (.pointer (some ⟨l, 0, none⟩)) := cell_of_block hI.bx.1 (j := 0) rfl
    have hmk := hI.mrk
    rw [hcd] at hmk
    generalize hj : (pre.map Fin.val).length = j at hput hmk
    have hjC : j < 17 := by omega
    have hcast : ((L.head + j : Nat) : Int) = (L.head : Int) + (j : Int) := by omega
    rw [hcast] at hput hmk
    have hcL : chLen x y.1 ≤ 492 := by omega
    generalize chLen x y.1 = cL at *
    have HJ := Hid.mk hj
    clear hcl hcast hj
    have HSt : Hid (∀ W' : World, W'.heap[w.heap.size]? = some (.cells #[.pointer (some ⟨l, 0, none⟩)] 24 (0, 0)) → W'.heap[w2.heap.size]? = some (.cells #[.int .i64 (L.ep : Int), .int .i64 ((L.head : Int) + (j : Int)), .int .i64 (j : Int), .int .i64 (C : Int)] 68 (0, 0)) → LogP W' l p L →
        (W'.cell? ⟨w.heap.size, 0, none⟩ = some (.pointer (some ⟨l, 0, none⟩)) ∧ W'.cell? ⟨w2.heap.size, 0, none⟩ = some (.int .i64 (L.ep : Int)) ∧ W'.cell? ⟨w2.heap.size, 1, none⟩ = some (.int .i64 ((L.head : Int) + (j : Int))) ∧ W'.cell? ⟨w2.heap.size, 2, none⟩ = some (.int .i64 (j : Int)) ∧ W'.cell? ⟨w2.heap.size, 3, none⟩ = some (.int .i64 (C : Int)) ∧
          W'.cell? ⟨l, 0, none⟩ = some (.pointer (some ⟨p, 0, none⟩)) ∧ W'.cell? ⟨l, 1, none⟩ = some (.int .i64 (L.f : Int)) ∧ W'.cell? ⟨l, 2, none⟩ = some (.int .i64 (L.n : Int)))) :=
      fun W' g1 g2 g3 => ⟨cell_of_block g1 (j := 0) rfl, cell_of_block g2 (j := 0) rfl, cell_of_block g2 (j := 1) rfl, cell_of_block g2 (j := 2) rfl, cell_of_block g2 (j := 3) rfl, g3.c0, g3.c1, g3.c2⟩
    have S0 := Hid.mk (HSt.out W.drew hI.bx.1 hmk (hlW.later (below_drew (Below.refl _ _))))
    have HIh := Hid.mk hI
    have HPut := Hid.mk hput
    have HMk := Hid.mk hmk
    have HSn := Hid.mk hsn
    have HFC := Hid.mk hFC
    clear hI hput hmk hsn hFC hsP hsW hlW hdW hpt b0
    gi_wp2_with fail
    refine wpIn_region_held (S := fun W' => W'.cell? ⟨w.heap.size, 0, none⟩ = some (.pointer (some ⟨l, 0, none⟩)) ∧ W'.cell? ⟨w2.heap.size, 0, none⟩ = some (.int .i64 (L.ep : Int)) ∧ W'.cell? ⟨w2.heap.size, 1, none⟩ = some (.int .i64 ((L.head : Int) + (j : Int))) ∧ W'.cell? ⟨w2.heap.size, 2, none⟩ = some (.int .i64 (j : Int)) ∧ W'.cell? ⟨w2.heap.size, 3, none⟩ = some (.int .i64 (C : Int)) ∧
          W'.cell? ⟨l, 0, none⟩ = some (.pointer (some ⟨p, 0, none⟩)) ∧ W'.cell? ⟨l, 1, none⟩ = some (.int .i64 (L.f : Int)) ∧ W'.cell? ⟨l, 2, none⟩ = some (.int .i64 (L.n : Int))) hmx (by kernel_rfl) ?_
    refine wpAnyH_take (i := 0) (v := .pointer (some ⟨l, 0, none⟩)) rfl (by kernel_rfl) (by kernel_rfl) (by kernel_rfl) (fun _ _ _ h => h) (Or.inl ⟨by rfl, ?_⟩) S0.out ?_
    · rintro W1 ⟨y1, y2, y3, y4, y5, y6, y7, y8⟩
      go_simp
    try simp only [Act.put, List.setIfInBounds_toArray]
    refine wpAnyH_take (i := 1) (v := .pointer (some ⟨l, 0, none⟩)) rfl (by kernel_rfl) (by kernel_rfl) (by kernel_rfl) (fun _ _ _ h => h) (Or.inl ⟨by rfl, ?_⟩) S0.out ?_
    · rintro W1 ⟨y1, y2, y3, y4, y5, y6, y7, y8⟩
      go_simp
    try simp only [Act.put]
    refine wpAnyH_take (i := 2) (v := .pointer (some ⟨l, 0, none⟩)) rfl (by kernel_rfl) (by kernel_rfl) (by kernel_rfl) (fun _ _ _ h => h) (Or.inl ⟨by rfl, ?_⟩) S0.out ?_
    · rintro W1 ⟨y1, y2, y3, y4, y5, y6, y7, y8⟩
      go_simp
    try simp only [Act.put]
    refine wpAnyH_take (i := 3) (v := areaV p L.f L.n) rfl (by kernel_rfl) (by kernel_rfl) (by kernel_rfl) (fun _ _ _ h => h) (Or.inl ⟨by rfl, ?_⟩) S0.out ?_
    · rintro W1 ⟨y1, y2, y3, y4, y5, y6, y7, y8⟩
      go_simp
    try simp only [Act.put]
    refine wpAnyH_take (i := 4) (v := markV (L.ep : Int) ((L.head : Int) + (j : Int)) (j : Int) (C : Int)) rfl (by kernel_rfl) (by kernel_rfl) (by kernel_rfl) (fun _ _ _ h => h) (Or.inl ⟨by rfl, ?_⟩) S0.out ?_
    · rintro W1 ⟨y1, y2, y3, y4, y5, y6, y7, y8⟩
      go_simp
    try simp only [Act.put]
    refine wpAnyH_take (i := 5) (v := .slice (some ⟨b, o + 492 * y.1, none⟩) cL cL) rfl (by kernel_rfl) (by kernel_rfl) (by kernel_rfl) (fun _ _ _ h => h) (Or.inl ⟨by rfl, ?_⟩) S0.out ?_
    · rintro W1 ⟨y1, y2, y3, y4, y5, y6, y7, y8⟩
      go_simp
    try simp only [Act.put]
    refine wpAnyH_take (i := 6) (v := pieceV (L.ep : Int) ((L.head : Int) + (j : Int)) (j : Int) (C : Int) (some ⟨b, o + 492 * y.1, none⟩) cL cL) rfl (by kernel_rfl) (by kernel_rfl) (by kernel_rfl) (fun _ _ _ h => h) (Or.inl ⟨by rfl, ?_⟩) S0.out ?_
    · rintro W1 ⟨y1, y2, y3, y4, y5, y6, y7, y8⟩
      go_simp
    try simp only [Act.put]
    refine wpAnyH_ready (rs := [7]) (by kernel_rfl) (by simp) (AllReadyH.cons rfl (fun K hK => ?_) AllReadyH.nil)
    go_simp
    refine HPut.out.mono ?_
    rintro e W2 ⟨rfl, hd2, hk2⟩
    have hz2 : W.heap.size ≤ W2.heap.size := hk2.size
    have hd3 : DiskRM W2 (FC F w4.heap.size m W2) p s Y.2 m (cR + j + 1) := hd2.fc (w0 := w) (w := W.drew) HIh.out.sz rfl
    have hkw : Keeps F w W2 := (HIh.out.kp.trans (Keeps.of_below (fun _ => False) (below_drew (Below.refl W.heap.size W))) (fun _ h => h.elim)).trans hk2 (fun k hk => by
      rcases hk.1 with h | h
      · exact .inl h
      · exact .inr (by omega))
    have hkeep : ∀ k ob, w.heap.size ≤ k → k < w4.heap.size → W.heap[k]? = some ob → W2.heap[k]? = some ob := fun k ob h1 h2 h3 => (hk2.block k (lt_there h3) (HFC.out k h1 h2)).trans h3
    have hbx : AppBox W2 w.heap.size l := ⟨hkeep _ _ (by omega) (by omega) HIh.out.bx.1, hkeep _ _ (by omega) (by omega) HIh.out.bx.2⟩
    have hmk2 := hkeep w2.heap.size _ (by omega) (by omega) HMk.out
    have hkf : KeepsFrom w4.heap.size W W2 := ⟨hz2, fun k ob h1 h2 h3 => (hk2.block k (lt_there h2) (fun h => by
      rcases h.2.1 with ⟨cur, t, fz, hc⟩ | h
      · have hc' : W.heap[k]? = some (.cells cur t fz) := hc
        rw [h2] at hc'
        cases hc'
        cases h3
      · omega)).trans h2⟩
    have hkc : KpC (w2.heap.size + 1) (w2.heap.size + 1 + 1) W W2 := ⟨hk2.block _ (by have := HIh.out.sz; show _ < W.heap.size; omega) (HFC.out _ (by omega) (by omega)), hk2.block _ (by have := HIh.out.sz; show _ < W.heap.size; omega) (HFC.out _ (by omega) (by omega))⟩
    have hl2 : LogP W2 l p L := HLw.out.keep hkw hF
    have S2 := Hid.mk (HSt.out W2 hbx.1 hmk2 hl2)
    have HD3 := Hid.mk hd3
    have HKw := Hid.mk hkw
    have HBx := Hid.mk hbx
    have HMk2 := Hid.mk hmk2
    have HKf := Hid.mk hkf
    have HKc := Hid.mk hkc
    clear hd2 hk2 hd3 hkw hkeep hbx hmk2 hkf hkc hl2
    refine hK.out _ _ S2.out (fun _ => ?_)
    clear hK K
    try simp only [Act.put, List.setIfInBounds_toArray, List.set_cons_zero, List.set_cons_succ]
    refine wpAnyH_take (i := 8) (v := .int .i64 Y.1) rfl (by kernel_rfl) (by kernel_rfl) (by kernel_rfl) (fun _ _ _ h => h) (Or.inl ⟨by rfl, ?_⟩) S2.out ?_
    · rintro W1 ⟨y1, y2, y3, y4, y5, y6, y7, y8⟩
      go_simp
    try simp only [Act.put, List.setIfInBounds_toArray]
    refine wpAnyH_done (by kernel_rfl) ?_ _
    have er1 : W2.cell? ⟨w.heap.size + 1, 0, none⟩ = some (.int .i64 0) := cell_of_block HBx.out.2 (j := 0) rfl
    have ef1 : W2.frozen? ⟨w.heap.size + 1, 0, none⟩ = false := frozen_of_block HBx.out.2 0
    by_cases kY : Y.1 = 0
    · have dY : (Y.1 == 0) = true := by rw [beq_iff_eq]; exact kY
      obtain ⟨z1, z2, z3, z4, z5, _⟩ := S2.out
      have hnx := CallsIn.inRound l' (callsIn_wide (n := 3).2 (next_any L.ep (L.head + j) j C W2 (by omega) (by omega)))
      rw [show ((L.head + j : Nat) : Int) = (L.head : Int) + (j : Int) by omega] at hnx
      have HKY := Hid.mk kY
      clear kY
      gi_wp2_with fail
      refine ⟨trivial, ?_⟩
      refine hnx.mono ?_
      rintro e W5 ⟨rfl, hb5⟩
      have hm5 := (hb5.block _ (lt_there HMk2.out)).trans HMk2.out
      have m0 : W5.cell? ⟨w2.heap.size, 0, none⟩ = some (.int .i64 (L.ep : Int)) := cell_of_block hm5 (j := 0) rfl
      have m1 : W5.cell? ⟨w2.heap.size, 1, none⟩ = some (.int .i64 ((L.head : Int) + (j : Int))) := cell_of_block hm5 (j := 1) rfl
      have m2 : W5.cell? ⟨w2.heap.size, 2, none⟩ = some (.int .i64 (j : Int)) := cell_of_block hm5 (j := 2) rfl
      have m3 : W5.cell? ⟨w2.heap.size, 3, none⟩ = some (.int .i64 (C : Int)) := cell_of_block hm5 (j := 3) rfl
      have mf : ∀ i, W5.frozen? ⟨w2.heap.size, i, none⟩ = false := fun i => frozen_of_block hm5 i
      have HM5 := Hid.mk hm5
      have HB5 := Hid.mk hb5
      clear hm5 hb5 hnx z1 z2 z3 z4 z5 er1 ef1
      gi_wp2
      obtain ⟨WX, hWX⟩ : ∃ WX, ((((W5.setCell ⟨w2.heap.size, 0, none⟩ (.int .i64 (L.ep : Int))).setCell ⟨w2.heap.size, 1, none⟩ (.int .i64 ((L.head : Int) + (j : Int) + 1))).setCell ⟨w2.heap.size, 2, none⟩ (.int .i64 ((j : Int) + 1))).setCell ⟨w2.heap.size, 3, none⟩ (.int .i64 (C : Int))) = WX := ⟨_, rfl⟩
      rw [hWX]
      have hks : Keeps (fun k => k = w2.heap.size) W5 WX := by
        rw [← hWX]
        exact (((keeps_set (F := fun k => k = w2.heap.size) _ rfl 0 _).trans (keeps_set (F := fun k => k = w2.heap.size) _ rfl 1 _) (fun _ h => .inl h)).trans (keeps_set (F := fun k => k = w2.heap.size) _ rfl 2 _) (fun _ h => .inl h)).trans (keeps_set (F := fun k => k = w2.heap.size) _ rfl 3 _) (fun _ h => .inl h)
      have hkx : KeepsFrom w4.heap.size W5 WX := by
        rw [← hWX]
        exact ((((KeepsOthers.setCell _ _ _).from _).trans ((KeepsOthers.setCell _ _ _).from _)).trans ((KeepsOthers.setCell _ _ _).from _)).trans ((KeepsOthers.setCell _ _ _).from _)
      have hmX : WX.heap[w2.heap.size]? = some (.cells #[.int .i64 (L.ep : Int), .int .i64 ((L.head : Int) + (j : Int) + 1), .int .i64 ((j : Int) + 1), .int .i64 (C : Int)] 68 (0, 0)) := by
        rw [← hWX]
        exact (heap_setCell_same _ _ 3 _ _ _ (heap_setCell_same _ _ 2 _ _ _ (heap_setCell_same _ _ 1 _ _ _ (heap_setCell_same _ _ 0 _ _ _ HM5.out)))).trans (by simp)
      have hb5 := HB5.out
      have hsz5 := HIh.out.sz
      have hkfz := HKf.out.size
      have hc5 := cellsIn_below hb5
      have hd5 : DiskRM W5 (FC F w4.heap.size m W5) p s Y.2 m (cR + j + 1) := HD3.out.carry hc5 (hb5.block _ (fc_lt_m HD3.out)) hb5.size
      have hbl : ∀ k ob, ¬ k = w2.heap.size → W2.heap[k]? = some ob → WX.heap[k]? = some ob := fun k ob h1 h2 => (hks.block k (by have := lt_there h2; have := hb5.size; omega) h1).trans ((hb5.block k (lt_there h2)).trans h2)
      have hz5 := hb5.size
      have hzX := hks.size
      have hIX : AppI w WX F l p s m w2.heap.size w4.heap.size L S d ((pre ++ [y]).map Fin.val) cR := by
        have e1 := HSn.out
        have hcn : cR + j + 1 ≤ cR + ((pre ++ [y]).map Fin.val).length := by rw [hmp, List.length_append, List.length_singleton, HJ.out]; omega
        refine ⟨by rw [e1]; exact HKY.out, by rw [e1]; exact (hd5.fckeep hks (fcw_not HLt.out (by omega) (by omega))).le hcn, ?_, ⟨hbl _ _ (by omega) HBx.out.1, hbl _ _ (by omega) HBx.out.2⟩, (HKw.out.trans (Keeps.of_below (fun _ => False) hb5) (fun _ h => h.elim)).trans hks (fun _ h => .inr (by omega)), by omega⟩
        rw [hmX, hmp, List.length_append, List.length_singleton, HJ.out, hcd]
        rw [show ((L.head + (j + 1) : Nat) : Int) = (L.head : Int) + (j : Int) + 1 by omega, show ((j + 1 : Nat) : Int) = (j : Int) + 1 by omega]
      exact ⟨(HKf.out.trans ⟨hz5, fun k ob _ h2 _ => (hb5.block k (lt_there h2)).trans h2⟩).trans hkx, HKc.out.t ⟨(hks.block _ (by omega) (by omega)).trans (hb5.block _ (by omega)), (hks.block _ (by omega) (by omega)).trans (hb5.block _ (by omega))⟩, hIX⟩
    · have dY : (Y.1 == 0) = false := by rw [beq_eq_false_iff_ne]; exact kY
      have HKY := Hid.mk kY
      clear kY
      gi_wp2
      have hks : Keeps (fun k => k = w.heap.size + 1) W2 (W2.setCell ⟨w.heap.size + 1, 0, none⟩ (.int .i64 Y.1)) := keeps_set (F := fun k => k = w.heap.size + 1) W2 rfl 0 _
      have hX : AppX w (W2.setCell ⟨w.heap.size + 1, 0, none⟩ (.int .i64 Y.1)) F p s m w4.heap.size L S d ((pre ++ [y]).map Fin.val) cR := by
        have e1 := HSn.out
        have hcn : cR + j + 1 ≤ cR + ((pre ++ [y]).map Fin.val).length := by rw [hmp, List.length_append, List.length_singleton, HJ.out]; omega
        refine ⟨by rw [e1]; exact HKY.out, by rw [e1]; exact (HD3.out.fckeep hks (fcw_not HLt.out (by omega) (by omega))).le hcn, by rw [e1]; exact (heap_setCell_same _ _ 0 _ _ _ HBx.out.2).trans (by simp), HKw.out.trans hks (fun _ h => .inr (by omega)), by have := HIh.out.sz; have := HKf.out.size; have := hks.size; omega⟩
      exact ⟨HKf.out.trans ((KeepsOthers.setCell _ _ _).from _), rfl, hX⟩
  case done =>
    intro D xs W hD hxs hI hDD
    have hmp : xs.map Fin.val = List.range C := hxs
    rw [hmp] at hI
    have hlW : LogP W l p L := HLw.out.keep hI.kp hF
    have c0 : W.cell? ⟨w.heap.size, 0, none⟩ = some (.pointer (some ⟨l, 0, none⟩)) := cell_of_block hI.bx.1 (j := 0) rfl
    have c1 : W.cell? ⟨w.heap.size + 1, 0, none⟩ = some (.int .i64 0) := cell_of_block hI.bx.2 (j := 0) rfl
    have g1 : W.frozen? ⟨w.heap.size + 1, 0, none⟩ = false := frozen_of_block hI.bx.2 0
    have c7 := hlW.c7
    have g7 := hlW.fz 7
    have HIh := Hid.mk hI
    have HlW := Hid.mk hlW
    clear hI hlW hmp hxs
    have hnF : ¬ FC F w4.heap.size m W l := fun h => by
      rcases h.1 with h | h
      · exact hF h
      · omega
    have hk1 : Keeps (fun k => k = l) W (W.setCell ⟨l, 7, none⟩ (.int .i64 ((L.head : Int) + (C : Int)))) := keeps_set (F := fun k => k = l) W rfl 7 _
    have hk2 : Keeps (fun k => k = w.heap.size + 1) (W.setCell ⟨l, 7, none⟩ (.int .i64 ((L.head : Int) + (C : Int)))) ((W.setCell ⟨l, 7, none⟩ (.int .i64 ((L.head : Int) + (C : Int)))).setCell ⟨w.heap.size + 1, 0, none⟩ (.int .i64 0)) := keeps_set (F := fun k => k = w.heap.size + 1) _ rfl 0 _
    have hd1 := (HIh.out.dk.fckeep hk1 hnF).fckeep hk2 (fcw_not HLt.out (by omega) (by omega))
    have hl1 : LogP ((W.setCell ⟨l, 7, none⟩ (.int .i64 ((L.head : Int) + (C : Int)))).setCell ⟨w.heap.size + 1, 0, none⟩ (.int .i64 0)) l p { L with head := L.head + C } := LogP.keep (G := fun k => k = w.heap.size + 1) ((heap_setCell_same _ _ 7 _ _ _ HlW.out).trans (by simp)) hk2 (by omega)
    have he1 : ((W.setCell ⟨l, 7, none⟩ (.int .i64 ((L.head : Int) + (C : Int)))).setCell ⟨w.heap.size + 1, 0, none⟩ (.int .i64 0)).heap[w.heap.size + 1]? = some (.cells #[.int .i64 0] 29 (0, 0)) := (heap_setCell_same _ _ 0 _ _ _ ((hk1.block _ (lt_there HIh.out.bx.2) (by omega)).trans HIh.out.bx.2)).trans (by simp)
    have hkw1 : Keeps (fun k => F k ∨ k = l) w ((W.setCell ⟨l, 7, none⟩ (.int .i64 ((L.head : Int) + (C : Int)))).setCell ⟨w.heap.size + 1, 0, none⟩ (.int .i64 0)) := ((HIh.out.kp.mono (fun _ h => .inl h)).trans hk1 (fun _ h => .inl (.inr h))).trans hk2 (fun _ h => .inr (by omega))
    have hDl : D < W.heap.size := lt_there hDD
    have hD1 : ((W.setCell ⟨l, 7, none⟩ (.int .i64 ((L.head : Int) + (C : Int)))).setCell ⟨w.heap.size + 1, 0, none⟩ (.int .i64 0)).heap[D]? = some (.deferred (some [])) := (hk2.block _ (by have := hk1.size; omega) (by omega)).trans ((hk1.block _ hDl (by omega)).trans hDD)
    have hz1 : W.heap.size ≤ ((W.setCell ⟨l, 7, none⟩ (.int .i64 ((L.head : Int) + (C : Int)))).setCell ⟨w.heap.size + 1, 0, none⟩ (.int .i64 0)).heap.size := Nat.le_trans hk1.size hk2.size
    obtain ⟨WZ, hWZ⟩ : ∃ WZ, ((W.setCell ⟨l, 7, none⟩ (.int .i64 ((L.head : Int) + (C : Int)))).setCell ⟨w.heap.size + 1, 0, none⟩ (.int .i64 0)) = WZ := ⟨_, rfl⟩
    rw [hWZ] at hd1 hl1 he1 hkw1 hD1 hz1
    have hcn : cR + (List.range C).length ≤ cR + 17 := by rw [List.length_range]; omega
    have HF := Hid.mk (app_fin HLt.out (hd1.le hcn) hl1 hkw1 he1 hD1 (by omega) hsz hsz2 (by omega) (by omega))
    have HOk := Hid.mk HIh.out.ok
    have HWZ := Hid.mk hWZ
    have HD1 := Hid.mk hD1
    clear hd1 hl1 he1 hkw1 hD1 hk1 hk2 hz1 hWZ
    go_wp2
    rw [HWZ.out]
    refine ⟨by simp, .inl ⟨_, _, rfl, run_takeDeferred HD1.out, ?_⟩⟩
    refine ⟨_, results_cell1 rfl _ _ (w.heap.size + 1) 0 rfl HF.out.1, ?_⟩
    have e1 := HOk.out
    rw [appL_range] at e1 HF
    unfold LG.append
    rw [hxd, HR.out, hC1, if_neg (by decide), if_neg (by rw [e1]; decide)]
    exact ⟨rfl, HF.out.2⟩
  case stop =>
    rintro D c pre W hD ⟨j, hj, hpre⟩ ⟨rfl, hX⟩ hDD
    have hmp : pre.map Fin.val = List.range (j + 1) := hpre
    rw [hmp] at hX
    have hlW : LogP W l p L := HLw.out.keep hX.kp hF
    have hnn := hX.no
    have HF := Hid.mk (app_fin HLt.out (hX.dk.le (by rw [List.length_range]; omega : cR + (List.range (j + 1)).length ≤ cR + 17)) hlW (hX.kp.mono (fun _ h => .inl h)) hX.er hDD (by omega) hsz hsz2 (by omega) (by omega))
    rw [appL_range] at HF hnn
    have hto : appTo L S s d C = appTo L S s d (j + 1) := stepsTo_err hnn C (by omega)
    have HTo := Hid.mk hto
    have HNn := Hid.mk hnn
    clear hX hlW hnn hto
    gi_wp2
    refine ⟨by simp, .inl ⟨_, _, rfl, run_takeDeferred hDD, ?_⟩⟩
    refine ⟨_, results_cell1 rfl _ _ (w.heap.size + 1) _ rfl HF.out.1, ?_⟩
    unfold LG.append
    rw [hxd, HR.out, hC1, if_neg (by decide), HTo.out, if_pos HNn.out]
    exact ⟨rfl, HF.out.2⟩
end
theorem Append_any {w : World} {F : Nat → Prop} {p s l cR : Nat} {S : DS} {L : LG} (h : DiskR w F p s S cR) (hl : LogP w l p L) (hk : L.Ok s) (hF : ¬ F l) (a : Option Addr) (x k : Nat) (d : List Int) (hs : Src w a x d) (hFs : ∀ y, a = some y → 0 < x → ¬ F y.block) (hd : Bytes d) (hxk : x ≤ k) (hx : x ≤ 140737488355328) (hbig : S.puts.length + 100 ≤ 4000000000000) :
    Calls Try.prog 7 #[.pointer (some ⟨l, 0, none⟩), .slice a x k] w fun e w' => e = .returned (.int .i64 (L.append S s d).1) ∧ DiskR w' (more F w w') p s (L.append S s d).2.1 (cR + 17) ∧ LogP w' l p (L.append S s d).2.2 ∧ Keeps (fun k => F k ∨ k = l) w w' := by
  by_cases hr : L.refuses S x = 0
  · have hx1 := (refuses_zero hr).2.1
    obtain ⟨b, o, rfl⟩ := src_spot hs hx1
    exact Append_go h hl hk hF b o x k d hs (hFs _ rfl hx1) hd hxk hr hbig
  · refine (Append_no h.old hl hk a x k hx hr).mono ?_
    rintro e w' ⟨rfl, hb⟩
    unfold LG.append
    rw [hs.1, if_pos hr]
    exact ⟨rfl, ((h.later hb).more).le (by omega), hl.later hb, Keeps.of_below _ hb⟩
end Go.Proofs.Ytplpkppkaahchaa.B
end

section
namespace Go.Proofs.Ytplpkppkaahchaa.B
open Go.RowKit

set_option maxRecDepth 20000 in
set_option maxHeartbeats 8000000 in
theorem ring_any {w : World} {F : Nat → Prop} {p s cR : Nat} {S : DS} (h : DiskR w F p s S cR) (hby : S.Byt) (f n : Nat) (hfn : f + 2 + n ≤ s) (hn1 : 1 ≤ n) (hn : n ≤ 256) (hf : S.fuse ≠ 0) (hbig : S.puts.length + 1 ≤ 4000000000000) :
    Calls Try.prog 63 #[areaV p f n] w fun e w' => ∃ v, e = .returned (.tuple #[v, .int .i64 0]) ∧ RingOut w.heap.size w' n (fun i => pcOf (S.now (f + 2 + i))) v ∧ DiskR w' F p s S (cR + n) ∧ Keeps F w w' := by
  obtain ⟨i0, hi, hz0, hz1, hz2⟩ := info_parts infoPiece3
  have hs := h.ok.hi
  have HL := Hid.mk h.lt
  have HB := Hid.mk (below_box w (.cells #[.pointer (some ⟨p, 0, none⟩), .int .i64 f, .int .i64 n] 64))
  have HD0 := Hid.mk (h.boxed (.cells #[.pointer (some ⟨p, 0, none⟩), .int .i64 f, .int .i64 n] 64))
  have HBY := Hid.mk hby
  clear h hby
  go_enter Try.func63, Try.ntmps63
  go_wp2_with (at_make; refine wpList_make_full _ rfl _ _ 99 rfl (w.heap.size + 1) 74 i0 _ 5 Try.underlying99 hi hz0 hz1 _ _ _ _ n rfl rfl ?c1 ?c2 ?c3 ?c4 ?c5 ?_)
  case c1 => rfl
  case c2 => rfl
  case c3 => rw [hz2]; omega
  case c4 => unfold maxLen; omega
  case c5 => simp
  intro w1 hown hgrow
  have hb1 : Below (w.heap.size + 1) (w.alloc (.cells #[.pointer (some ⟨p, 0, none⟩), .int .i64 f, .int .i64 n] 64)) w1 := (Below.refl _ _).grown hgrow (by simp) (by intro k hk; cases hk)
  obtain ⟨_, ⟨hv, _⟩ | ⟨g', cap, cur, hv, hg0, hg, _, _, hcs, _⟩⟩ := hown
  · cases hv
  cases hv
  have hbox : w1.heap[w.heap.size]? = some (.cells #[.pointer (some ⟨p, 0, none⟩), .int .i64 f, .int .i64 n] 64 (0, 0)) := (hb1.block _ (by omega)).trans (heap_alloc_new _ _)
  have HB1 := Hid.mk (HB.out.trans (hb1.mono (by omega)))
  have hlt : w.heap.size + 1 < w1.heap.size := lt_there hg
  have HR0 : Hid (RingTo w1 w1.heap.size (w.heap.size + 1) n 0 (fun i => pcOf (S.now (f + 2 + i)))) := ⟨⟨cur, hg, hcs⟩, fun i hi => by omega⟩
  have HD1 := Hid.mk (HD0.out.later (by rw [World.size_alloc]; exact hb1))
  have HX := Hid.mk hbox
  have HF : Hid (¬ F w.heap.size ∧ ¬ F (w.heap.size + 1)) := ⟨fun h => by have := HL.out _ h; omega, fun h => by have := HL.out _ h; omega⟩
  obtain ⟨R, hR⟩ : ∃ R, R = (fun i => pcOf (S.now (f + 2 + i))) := ⟨_, rfl⟩
  rw [← hR] at HR0
  have HRR := Hid.mk hR
  clear hgrow hb1 hbox hg hg0 hcs hR
  go_wp2
  go_loopw [13] (fun i wr => ∃ k : Nat, k ≤ n ∧ i = .int .i64 k ∧ RingTo wr w1.heap.size (w.heap.size + 1) n k R ∧ DiskR wr F p s S (cR + k) ∧ Keeps (fun j => F j ∨ j = w.heap.size + 1) w1 wr) (fun i _ => n - (intOf i).toNat)
  case atStart => exact ⟨0, Nat.zero_le _, rfl, HR0.out, HD1.out, Keeps.refl _ _⟩
  case round =>
    obtain ⟨k, hk, rfl, hring, hd, hkp⟩ := hrel
    by_cases q : k < n
    · have q' : (k : Int) < (n : Int) := by omega
      have hbox := box_after HX.out hkp (fun h => by rcases h with h | h; exact HF.out.1 h; omega)
      have c0 := cell_of_block hbox (j := 0) rfl
      have c1 := cell_of_block hbox (j := 1) rfl
      have c2 := cell_of_block hbox (j := 2) rfl
      have h1 := fun wx => aat_any p f n k wx (by omega) (by omega) (by omega) (by omega) (by omega)
      rw [show (f : Int) + 2 + (k : Int) % (n : Int) = ((f + 2 + k : Nat) : Int) by rw [Int.emod_eq_of_lt (by omega) (by omega)]; omega] at h1
      have H1 := Hid.mk h1
      have HRg := Hid.mk hring
      have HDr := Hid.mk hd
      have HKr := Hid.mk hkp
      have HXr := Hid.mk hbox
      clear h1 hring hd hkp hbox
      go_wp2_with fail
      go_region_held3 (fun w' => w'.cell? ⟨w.heap.size, 0, none⟩ = some (.pointer (some ⟨p, 0, none⟩)) ∧ w'.cell? ⟨w.heap.size, 1, none⟩ = some (.int .i64 (f : Int)) ∧ w'.cell? ⟨w.heap.size, 2, none⟩ = some (.int .i64 (n : Int)))
        (first | exact ⟨c0, c1, c2⟩ | exact ⟨cell_of_block hx2 (j := 0) rfl, cell_of_block hx2 (j := 1) rfl, cell_of_block hx2 (j := 2) rfl⟩ | exact ⟨cell_of_block hx3 (j := 0) rfl, cell_of_block hx3 (j := 1) rfl, cell_of_block hx3 (j := 2) rfl⟩)
        (first
          | (go_at_call 53; refine (H1.out _).mono ?_; rintro e w2 ⟨rfl, hb2⟩; have hb3 := (below_drew (Below.refl wr.heap.size wr)).trans hb2; have hx2 := (hb3.block _ (lt_there HXr.out)).trans HXr.out; have hd2 := HDr.out.later hb3)
          | (go_at_call 54; refine (dread_ok hd2 (f + 2 + k) (by omega) hbig hf).mono ?_; rintro e w3 ⟨v, rfl, ho, hd3, hk3⟩; have hx3 := box_after hx2 hk3 HF.out.1))
      obtain ⟨av, cv, rfl, hsv, hlov⟩ := ho
      have hz3 := hb3.size
      have hk4 : Keeps (fun j => F j ∨ j = w.heap.size + 1) w1 w3 := (HKr.out.trans (Keeps.of_below (fun _ => False) hb3) (fun _ h => h.elim)).trans hk3 (fun _ h => .inl (.inl h))
      have hring3 := ((HRg.out.keep (Keeps.of_below (fun _ => False) hb3) (fun h => h) (fun _ h => h.elim)).keep hk3 HF.out.2 (fun j hj => by have := HL.out j hj; omega))
      have hp := pieceOf_any av _ cv (S.now (f + 2 + k)) w3 hsv (HBY.out.now _)
      rw [show pcOf (S.now (f + 2 + k)) = R k by rw [HRR.out]] at hp
      have HR3 := Hid.mk hring3
      have HD3 := Hid.mk hd3
      have HK4 := Hid.mk hk4
      clear hb2 hb3 hx2 hx3 hd2 hd3 hk3 hk4 hring3 hsv hlov c0 c1 c2
      go_wp2_with fail
      refine hp.mono ?_
      rintro e w4 ⟨a4, k4, rfl, hs4, hlo4, hb4⟩
      have hr4 := HR3.out.keep (Keeps.of_below (fun _ => False) hb4) (fun h => h) (fun _ h => h.elim)
      have hz4 := HK4.out.size
      have hth : w4.there (w.heap.size + 1) (k * 5) (pieceC ((R k).e : Int) ((R k).p : Int) ((R k).i : Int) ((R k).c : Int) a4 (R k).d.length k4).size := fun j hj => by
        obtain ⟨v, e⟩ := hr4.spot q j hj
        exact ⟨by rw [e]; rfl, hr4.fz _⟩
      have HTh := Hid.mk hth
      have hsn := hr4.snoc q (by omega) a4 k4 hs4 (fun y hy => by have := hlo4 y hy; omega)
      have hks := keeps_set5at w4 (w.heap.size + 1) (k * 5) (.int .i64 ((R k).e : Int)) (.int .i64 ((R k).p : Int)) (.int .i64 ((R k).i : Int)) (.int .i64 ((R k).c : Int)) (.slice a4 (R k).d.length k4)
      have hk5 := (HK4.out.trans (Keeps.of_below (fun _ => False) hb4) (fun _ h => h.elim)).trans hks (fun _ h => .inl (.inr h))
      have hd5 := (HD3.out.later hb4).keep hks (fun j hj e => HF.out.2 (e ▸ hj))
      have HS := Hid.mk (And.intro hsn (And.intro hd5 hk5))
      have hkn : (0 : Int) ≤ (k : Int) := by omega
      clear hr4 hsn hks hk5 hd5 hs4 hlo4 hb4 hp hth
      go_wp2_with (refine wpList_store_mid rfl 74 _ _ rfl (w.heap.size + 1) (k * 5) (pieceC ((R k).e : Int) ((R k).p : Int) ((R k).i : Int) ((R k).c : Int) a4 (R k).d.length k4) rfl rfl ?s1 ?s2 ?s3 ?_)
      case s1 => exact HTh.out
      case s2 => exact infoPiece
      case s3 => simp [Value.oneCell']
      go_roundw
      case rel => exact ⟨k + 1, by omega, by go_num, HS.out⟩
      case measure => simp [intOf]; omega
    · have q' : ¬ (k : Int) < (n : Int) := by omega
      obtain rfl : k = n := by omega
      have HZ := Hid.mk (And.intro hring (And.intro hd hkp))
      clear hring hd hkp
      go_wp2
      go_ret2
      refine ⟨_, rfl, ⟨w.heap.size + 1, w1.heap.size, rfl, by omega, by omega, HRR.out ▸ HZ.out.1⟩, HZ.out.2.1, ?_⟩
      exact (Keeps.of_below F HB1.out).trans HZ.out.2.2 (fun j hj => by
        rcases hj with hj | hj
        · exact .inl hj
        · exact .inr (by omega))
end Go.Proofs.Ytplpkppkaahchaa.B
end

section
namespace Go.Proofs.Ytplpkppkaahchaa.B
open Go.RowKit

section
variable {w : World} {F : Nat → Prop} {p s l cR : Nat} {S : DS} {L : LG}

theorem ring_o (h : DiskR w F p s S cR) (hby : S.Byt) (f n : Nat) (hfn : f + 2 + n ≤ s) (hn1 : 1 ≤ n) (hn : n ≤ 256) (hf : S.fuse ≠ 0) (hbig : S.puts.length + 1 ≤ 4000000000000) :
    Calls Try.prog 63 #[areaV p f n] w fun e w' => ∃ v, e = .returned (.tuple #[v, .int .i64 0]) ∧ RingOut w.heap.size w' n (oRing S f) v ∧ DiskR w' F p s S (cR + n) ∧ Keeps F w w' := ring_any h hby f n hfn hn1 hn hf hbig
set_option maxRecDepth 20000 in
set_option maxHeartbeats 8000000 in
theorem recall_any (h : DiskR w F p s S cR) (hl : LogP w l p L) (hF : ¬ F l) (hby : S.Byt) (hs : L.f + 2 + L.n ≤ s) (hn1 : 1 ≤ L.n) (hn : L.n ≤ 256) (hf : S.fuse ≠ 0) (hbig : S.puts.length + 1 ≤ 4000000000000) :
    Calls Try.prog 42 #[.pointer (some ⟨l, 0, none⟩)] w fun e w' => Recalled w' w.heap.size l p L S e ∧ DiskR w' F p s S (cR + 2 + L.n) ∧ Keeps (fun k => F k ∨ k = l) w w' := by
  have h1 := dnewest h L.f L.n hbig hf (by omega) (hby.now _) (hby.now _)
  have HLt := Hid.mk h.lt
  have HL := Hid.mk hl
  have hlt := hl.lt
  have c0 := hl.c0
  have c1 := hl.c1
  have c2 := hl.c2
  have HRs := Hid.mk (fun i => pcOf_small (hby.now (L.f + 2 + i)))
  have hR := fun w1 (hd1 : DiskR w1 F p s S (cR + 2)) => ring_o hd1 hby L.f L.n hs hn1 hn hf hbig
  have HO := Hid.mk (oNew_ok (S := S) (f := L.f))
  unfold Recalled
  change Calls _ _ _ _ (fun e w' => e = .returned (.tuple #[.int .i64 ((oNew S L.f).1 : Int), .int .i64 ((oNew S L.f).2.1 : Int), .int .i64 ((oNew S L.f).2.2 : Int)]) ∧ DiskR w' F p s S (cR + 2) ∧ Keeps F w w') at h1
  clear h hl hby hs hf
  by_cases k0 : (oNew S L.f).2.2 = 0
  · rw [k0] at h1
    have ho := HO.out k0
    have HTo := Hid.mk (oTop_le (n := L.n) k0)
    simp only [if_neg (fun h : ¬ (oNew S L.f).2.2 = 0 => h k0)]
    clear k0 HO
    by_cases k1 : oTop S L.f L.n = 1073741824
    · simp only [if_pos k1]
      have d1 : (max ((oNew S L.f).1 : Int) (rtop (oRing S L.f) L.n : Int) == 1073741824) = true := by unfold oTop at k1; rw [beq_iff_eq]; omega
      clear k1
      go_enter Try.func42, Try.ntmps42
      go_wp2_with fail
      refine h1.mono ?_
      rintro e w1 ⟨rfl, hd1, hk1⟩
      have hl1 := HL.out.keep hk1 hF
      have c0 := hl1.c0
      have c1 := hl1.c1
      have c2 := hl1.c2
      have h2 := hR w1 hd1
      have HK1 := Hid.mk hk1
      have HL1 := Hid.mk hl1
      clear h1 hd1 hk1 hl1 hR
      go_wp2_with fail
      refine h2.mono ?_
      rintro e w2 ⟨v, rfl, ⟨g, B, rfl, hg, hgB, hr⟩, hd2, hk2⟩
      have h3 := top_any hr hn
      have HR := Hid.mk hr
      have HK2 := Hid.mk hk2
      have HD2 := Hid.mk hd2
      have HL2 := Hid.mk (HL1.out.keep hk2 hF)
      clear h2 hd2 hk2 hr
      go_wp2_with fail
      refine h3.mono ?_
      rintro e w3 ⟨rfl, hb3⟩
      have hl3 := HL2.out.later hb3
      have c5 := hl3.c5
      have c6 := hl3.c6
      have c7 := hl3.c7
      have c8 := hl3.c8
      have f5 := hl3.fz 5
      have f6 := hl3.fz 6
      have f7 := hl3.fz 7
      have f8 := hl3.fz 8
      have hk3 : Keeps (fun k => F k ∨ k = l) w (w3.setCell ⟨l, 8, none⟩ (.int .i64 (max ((oNew S L.f).1 : Int) (rtop (oRing S L.f) L.n : Int)))) := (((HK1.out.trans HK2.out (fun _ h => .inl h)).trans (Keeps.of_below (fun _ => False) hb3) (fun _ h => h.elim)).mono (fun _ h => .inl h)).trans (keeps_set (F := fun k => F k ∨ k = l) w3 (.inr rfl) 8 _) (fun _ h => .inl h)
      have hd3 : DiskR (w3.setCell ⟨l, 8, none⟩ (.int .i64 (max ((oNew S L.f).1 : Int) (rtop (oRing S L.f) L.n : Int)))) F p s S (cR + 2 + L.n) := (HD2.out.later hb3).keep (keeps_set (F := fun k => k = l) w3 rfl 8 _) (fun k hk e => hF (e ▸ hk))
      have HZ := Hid.mk (And.intro hd3 hk3)
      clear h3 hk3 hd3 hl3
      go_wp2_with fail
      go_ret2
      exact ⟨rfl, HZ.out⟩
    · simp only [if_neg k1]
      have d1 : (max ((oNew S L.f).1 : Int) (rtop (oRing S L.f) L.n : Int) == 1073741824) = false := by unfold oTop at k1; rw [beq_eq_false_iff_ne]; omega
      clear k1
      go_enter Try.func42, Try.ntmps42
      go_wp2_with fail
      refine h1.mono ?_
      rintro e w1 ⟨rfl, hd1, hk1⟩
      have hl1 := HL.out.keep hk1 hF
      have c0 := hl1.c0
      have c1 := hl1.c1
      have c2 := hl1.c2
      have h2 := hR w1 hd1
      have HK1 := Hid.mk hk1
      have HL1 := Hid.mk hl1
      clear h1 hd1 hk1 hl1 hR
      go_wp2_with fail
      refine h2.mono ?_
      rintro e w2 ⟨v, rfl, ⟨g, B, rfl, hg, hgB, hr⟩, hd2, hk2⟩
      have h3 := top_any hr hn
      have HR := Hid.mk hr
      have HK2 := Hid.mk hk2
      have HD2 := Hid.mk hd2
      have HL2 := Hid.mk (HL1.out.keep hk2 hF)
      clear h2 hd2 hk2 hr
      go_wp2_with fail
      refine h3.mono ?_
      rintro e w3 ⟨rfl, hb3⟩
      have hl3 := HL2.out.later hb3
      have c5 := hl3.c5
      have c6 := hl3.c6
      have c7 := hl3.c7
      have c8 := hl3.c8
      have f5 := hl3.fz 5
      have f6 := hl3.fz 6
      have f7 := hl3.fz 7
      have f8 := hl3.fz 8
      have hk3 : Keeps (fun k => F k ∨ k = l) w (w3.setCell ⟨l, 8, none⟩ (.int .i64 (max ((oNew S L.f).1 : Int) (rtop (oRing S L.f) L.n : Int)))) := (((HK1.out.trans HK2.out (fun _ h => .inl h)).trans (Keeps.of_below (fun _ => False) hb3) (fun _ h => h.elim)).mono (fun _ h => .inl h)).trans (keeps_set (F := fun k => F k ∨ k = l) w3 (.inr rfl) 8 _) (fun _ h => .inl h)
      have hd3 : DiskR (w3.setCell ⟨l, 8, none⟩ (.int .i64 (max ((oNew S L.f).1 : Int) (rtop (oRing S L.f) L.n : Int)))) F p s S (cR + 2 + L.n) := (HD2.out.later hb3).keep (keeps_set (F := fun k => k = l) w3 rfl 8 _) (fun k hk e => hF (e ▸ hk))
      have hz3 : w2.heap.size ≤ w3.heap.size := hb3.size
      have hgw : w1.heap.size ≤ g := hg
      have hz1 : w.heap.size ≤ w1.heap.size := HK1.out.size
      have hr3 := (HR.out.keep (Keeps.of_below (fun _ => False) hb3) (fun h => h) (fun _ h => h.elim)).keep (keeps_set (F := fun k => k = l) w3 rfl 8 (.int .i64 (max ((oNew S L.f).1 : Int) (rtop (oRing S L.f) L.n : Int)))) (by omega) (fun k hk => by omega)
      have h4 := scan_any g L.n (oNew S L.f).1 (oNew S L.f).2.1 (oRing S L.f) _ B hr3 hn1 hn ho.2.2 ho.2.1 (fun i => (HRs.out i).2.2.2.2.1) (fun i => by have := (HRs.out i).2.2.2.1; unfold oRing; omega)
      have HL3 := Hid.mk (hl3.topped (max ((oNew S L.f).1 : Int) (rtop (oRing S L.f) L.n : Int)) (oTop S L.f L.n) (by unfold oTop; omega))
      have HZ := Hid.mk (And.intro hd3 hk3)
      clear h3 hk3 hd3 hl3 hr3
      go_wp2_with fail
      refine h4.mono ?_
      rintro e w4 ⟨v, hd, rs, rfl, hrs, ht, hx, hb4⟩
      have hl4 := HL3.out.later hb4
      have c5 := hl4.c5
      have c6 := hl4.c6
      have c7 := hl4.c7
      have f5 := hl4.fz 5
      have f6 := hl4.fz 6
      have f7 := hl4.fz 7
      have hz4 := hb4.size
      have hzs : w.heap.size ≤ (w3.setCell ⟨l, 8, none⟩ (.int .i64 (max ((oNew S L.f).1 : Int) (rtop (oRing S L.f) L.n : Int)))).heap.size := HZ.out.2.size
      have hks := ((keeps_set (F := fun k => k = l) w4 rfl 5 (.int .i64 ((oNew S L.f).1 : Int))).trans (keeps_set (F := fun k => k = l) _ rfl 6 (.int .i64 ((oNew S L.f).2.1 : Int))) (fun _ h => .inl h)).trans (keeps_set (F := fun k => k = l) _ rfl 7 (.int .i64 (hd : Int))) (fun _ h => .inl h)
      have HE := Hid.mk (And.intro (Told.mk ((((hrs.setb (b := l) (by omega) 5 (.int .i64 ((oNew S L.f).1 : Int))).setb (b := l) (by omega) 6 (.int .i64 ((oNew S L.f).2.1 : Int))).setb (b := l) (by omega) 7 (.int .i64 (hd : Int))).low hzs (fun _ h => h)) ht hx (hl4.marked (oNew S L.f).1 (oNew S L.f).2.1 hd)) (And.intro ((HZ.out.1.later hb4).keep hks (fun k hk e => hF (e ▸ hk))) ((HZ.out.2.trans (Keeps.of_below (fun _ => False) hb4) (fun _ h => h.elim)).trans (hks.mono (G := fun k => F k ∨ k = l) (fun _ h => .inr h)) (fun _ h => .inl h))))
      clear h4 hrs ht hx hb4 hl4 hks
      go_wp2_with fail
      go_ret2
      exact ⟨⟨_, _, _, rfl, HE.out.1⟩, HE.out.2⟩
  · have d0 : (((oNew S L.f).2.2 : Int) == 0) = false := by rw [beq_eq_false_iff_ne]; omega
    simp only [if_pos (fun h => k0 h : ¬ (oNew S L.f).2.2 = 0)]
    clear k0 HO hR
    go_enter Try.func42, Try.ntmps42
    go_wp2_with fail
    refine h1.mono ?_
    rintro e w1 ⟨rfl, hd1, hk1⟩
    have HZ := Hid.mk (And.intro (hd1.le (by omega : cR + 2 ≤ cR + 2 + L.n)) (hk1.mono (G := fun k => F k ∨ k = l) (fun _ h => .inl h)))
    clear h1 hd1 hk1
    go_wp2_with fail
    go_ret2
    exact ⟨rfl, HZ.out⟩
end
end Go.Proofs.Ytplpkppkaahchaa.B
end
