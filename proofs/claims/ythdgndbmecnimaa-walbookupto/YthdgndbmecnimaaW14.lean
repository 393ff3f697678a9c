import Derived.Test.YthdgndbmecnimaaW13
import Derived.Scope
import Derived.WalkMore
section
namespace Go.Proofs.Ythdgndbmecnimaa
open Go.RowKit Go.Shelf

attribute [local go_sem] Oper.semAt_some

theorem Src.sub {w : World} {b o n : Nat} {l : List Int} (h : Src w (some ⟨b, o, none⟩) n l) (i k : Nat) (hk : i + k ≤ n) : Src w (some ⟨b, o + i, none⟩) k ((l.drop i).take k) := by
  have hl := h.1
  refine ⟨by simp; omega, by simp, ?_⟩
  intro z hz t ht
  cases hz
  have h0 := h.2.2 _ rfl (i + t) (by omega)
  have e1 : (Addr.add ⟨b, o, none⟩ (i + t)) = Addr.add ⟨b, o + i, none⟩ t := by
    unfold Addr.add
    by_cases h1 : i + t = 0
    · obtain ⟨rfl, rfl⟩ : i = 0 ∧ t = 0 := by omega
      simp
    · by_cases h2 : t = 0
      · subst h2
        rw [if_neg h1, if_pos rfl]
        rfl
      · simp [h2, Nat.add_assoc]
  rw [e1] at h0
  rw [h0]
  congr 2
  simp [List.getD, ht]
theorem fcw_not {w W : World} {F : Nat → Prop} {n0 m k : Nat} (hF : ∀ j, F j → j < w.heap.size) (h1 : w.heap.size ≤ k) (h2 : k < n0) : ¬ FC F n0 m W k := fun h => by
  rcases h.1 with h | h
  · have := hF k h; omega
  · omega
theorem DiskRM.fckeep {W W' : World} {F : Nat → Prop} {p s m n0 b : Nat} {S : DS} (h : DiskRM W (FC F n0 m W) p s S m) (hk : Keeps (fun k => k = b) W W') (hb : ¬ FC F n0 m W b) : DiskRM W' (FC F n0 m W') p s S m :=
  (h.keep hk (fun k hk e => hb (e ▸ hk))).mono (fun k hk' => ⟨hk'.1, by
    rcases hk'.2.1 with ⟨cur, t, fz, hc⟩ | h
    · exact .inl ⟨cur, t, fz, (hk.block k hk'.2.2 (fun e => hb (e ▸ hk'))).trans hc⟩
    · exact .inr h, by have := hk'.2.2; have := hk.size; omega⟩) (fun _ hk => hk.2.2)
theorem app_fin {w W : World} {F : Nat → Prop} {p s m n0 M l D : Nat} {S : DS} {L : LG} {e : Int} (hF : ∀ j, F j → j < w.heap.size) (hd : DiskRM W (FC F n0 m W) p s S m) (hl : LogP W l p L) (hk : Keeps (fun k => F k ∨ k = l) w W) (he : W.heap[w.heap.size + 1]? = some (.cells #[.int .i64 e] 29 (0, 0))) (hD : W.heap[D]? = some (.deferred (some [])))
    (hDn : n0 ≤ D) (hlw : l < w.heap.size) (hM : w.heap.size + 2 ≤ M) (hM2 : M < n0) (hmw : m < w.heap.size) :
    (W.putObj D (.deferred none)).cell? ⟨w.heap.size + 1, 0, none⟩ = some (.int .i64 e) ∧ DiskR (W.putObj D (.deferred none)) (more F w (W.putObj D (.deferred none))) p s S ∧ LogP (W.putObj D (.deferred none)) l p L ∧ Keeps (fun k => F k ∨ k = l) w (W.putObj D (.deferred none)) := by
  have hsz : (W.putObj D (.deferred none)).heap.size = W.heap.size := by simp [World.putObj]
  have hkD : Keeps (fun k => k = D) W (W.putObj D (.deferred none)) := ⟨rfl, rfl, rfl, by omega, fun k _ hn => World.putObj_heap_other hn⟩
  have hkz := hk.size
  refine ⟨cell_of_block ((hkD.block _ (lt_there he) (by omega)).trans he) (j := 0) rfl, ?_, hl.keep hkD (by omega), hk.trans hkD (fun _ h => .inr (by omega))⟩
  refine (hd.r.keep hkD (fun k hk e => ?_)).mono (fun k hk => ?_) (fun k hk => ?_)
  · rcases hk.2.1 with ⟨cur, t, fz, hc⟩ | h
    · rw [e, hD] at hc; cases hc
    · omega
  · rcases hk.1 with h | h
    · exact .inl h
    · exact .inr ⟨by omega, by have := hk.2.2; omega⟩
  · rcases hk with h | h
    · have := hF k h; omega
    · exact h.2
theorem partOf_bytes {d : List Int} (h : Bytes d) (k : Nat) : Bytes (partOf d k) := fun v hv => h v (List.mem_of_mem_drop (List.mem_of_mem_take hv))

section
variable {w : World} {F : Nat → Prop} {p s l : Nat} {S : DS} {L : LG}

theorem refuses_zero {x : Nat} (h : L.refuses S x = 0) : L.unready S = 0 ∧ 1 ≤ x ∧ x ≤ 8364 ∧ L.head + cntOf x ≤ 1073741824 ∧ L.head + cntOf x ≤ L.tail + L.n := by
  unfold LG.refuses at h
  split at h
  · exact absurd h (by assumption)
  · rename_i h0
    split at h
    · omega
    · split at h
      · omega
      · split at h
        · omega
        · split at h
          · omega
          · refine ⟨by omega, by omega, by omega, by omega, by omega⟩

set_option maxRecDepth 100000 in
set_option maxHeartbeats 8000000 in
theorem Append_go (h : DiskR w F p s S) (hl : LogP w l p L) (hk : L.Ok s) (hF : ¬ F l) (b o x k : Nat) (d : List Int) (hs : Src w (some ⟨b, o, none⟩) x d) (hFb : ¬ F b) (hd : Bytes d) (hxk : x ≤ k) (hr : L.refuses S x = 0) (hbig : S.puts.length + 100 ≤ 4000000000000) :
    Calls Try.prog 7 #[.pointer (some ⟨l, 0, none⟩), .slice (some ⟨b, o, none⟩) x k] w fun e w' => e = .returned (.int .i64 (L.append S s d).1) ∧ DiskR w' (more F w w') p s (L.append S s d).2.1 ∧ LogP w' l p (L.append S s d).2.2 ∧ Keeps (fun k => F k ∨ k = l) w w' := by
  obtain ⟨k0, k1, k2, k3, k4⟩ := refuses_zero hr
  obtain ⟨W0, hW0⟩ : ∃ W0, (w.alloc (.cells #[.pointer (some ⟨l, 0, none⟩)] 24)).alloc (.cells #[.int .i64 0] 29) = W0 := ⟨_, rfl⟩
  have hb0 : Below w.heap.size w W0 := by rw [← hW0]; exact below_two _ _ _
  have hq0 : AppBox W0 w.heap.size l := by
    rw [← hW0]
    refine ⟨(Below.heap_alloc _ _ _ (by simp)).trans (heap_alloc_new _ _), ?_⟩
    have := heap_alloc_new (w.alloc (.cells #[.pointer (some ⟨l, 0, none⟩)] 24)) (.cells #[.int .i64 0] 29)
    rwa [World.size_alloc] at this
  have h1 := unready_any (h.later hb0) (hl.later hb0)
  rw [k0] at h1
  have hsz := hl.lt
  have HW := Hid.mk hW0
  have HQ := Hid.mk hq0
  have HB := Hid.mk hb0
  have HL := Hid.mk (hl.later hb0)
  have hhi := hk.hi
  have HO := Hid.mk hk
  have hd1 : ((x : Int) == 0) = false := by rw [beq_eq_false_iff_ne]; omega
  have hd2 : ¬ (8364 : Int) < (x : Int) := by omega
  obtain ⟨C, hC⟩ : ∃ C, C = (x + 491) / 492 := ⟨_, rfl⟩
  have hC1 : cntOf x = C := by rw [hC]; rfl
  rw [hC1] at k3 k4
  have hC2 : C ≤ 17 := by omega
  have hd3 : ¬ (1073741824 : Int) < (L.head : Int) + (C : Int) := by omega
  have hd4 : ¬ (L.n : Int) - ((L.head : Int) - (L.tail : Int)) < (C : Int) := by omega
  have HC := Hid.mk hC
  have HD := Hid.mk h
  have HLw := Hid.mk hl
  have HR := Hid.mk hr
  have HLt := Hid.mk h.lt
  clear hC hb0 hq0 hW0 hk hl h hr k0
  refine (callsIn_wide (n := 6)).1 ?_
  refine callsIn_of_wp_marks Try.func7 rfl trivial ?_ rfl
  simp only [Try.ntmps7, List.size_toArray, List.length_cons, List.length_nil, Nat.reduceAdd, Nat.reduceSub, Array.replicate_succ, Array.replicate_zero, List.push_toArray, List.append_toArray, List.nil_append, List.cons_append]
  refine (wpIn_wide (n := 6)).2 ?_
  go_wp2_with fail
  rw [HW.out]
  refine h1.mono ?_
  rintro e w1 ⟨rfl, hb1⟩
  have hq1 := AppBox.later HQ.out hb1
  have b0 : w1.cell? ⟨w.heap.size, 0, none⟩ = some (.pointer (some ⟨l, 0, none⟩)) := cell_of_block hq1.1 (j := 0) rfl
  have hl1 := HL.out.later hb1
  have hB1 := HB.out.trans (hb1.mono HB.out.size)
  have c7 := hl1.c7
  have h3 := room_any hl1 HO.out
  have h2 := fun wx => sectorsOf_any x wx (by omega)
  have HB1 := Hid.mk hB1
  have HQ1 := Hid.mk hq1
  have HL1 := Hid.mk hl1
  clear h1 hb1 hB1 hq1 hl1
  go_wp2_with fail
  refine (h2 _).mono ?_
  rintro e w2 ⟨rfl, hw2⟩
  have hw3 := hw2.symm
  subst hw3
  rw [← HC.out]
  clear h2 hw2
  go_wp2_with fail
  refine h3.mono ?_
  rintro e w2 ⟨rfl, hb2⟩
  have hq2 := AppBox.later HQ1.out hb2
  have hB2 := HB1.out.trans (hb2.mono HB1.out.size)
  have hl2 := HL1.out.later hb2
  have b2 : w2.cell? ⟨w.heap.size, 0, none⟩ = some (.pointer (some ⟨l, 0, none⟩)) := cell_of_block hq2.1 (j := 0) rfl
  have e5 := hl2.c5
  have e7 := hl2.c7
  have n1 := World.new_ne w2 ⟨w.heap.size, 0, none⟩ b2
  have n2 := World.new_ne w2 ⟨l, 5, none⟩ e5
  clear h3 hb2
  go_wp2_with fail
  go_region_held3 (fun w' => w'.cell? ⟨w.heap.size, 0, none⟩ = some (.pointer (some ⟨l, 0, none⟩)) ∧ w'.cell? ⟨l, 5, none⟩ = some (.int .i64 (L.ep : Int)) ∧ w'.cell? ⟨l, 7, none⟩ = some (.int .i64 (L.head : Int))) (go_keep) (fail)
  have hsz2 : w.heap.size + 2 ≤ w2.heap.size := by have := lt_there hq2.2; omega
  clear n1 n2 c7 e5 e7 b2 b0
  obtain ⟨W3, hW3⟩ : ∃ W3, (w2.alloc (.cells #[.int .i64 (L.ep : Int), .int .i64 (L.head : Int), .int .i64 0, .int .i64 (C : Int)] 68)).drew = W3 := ⟨_, rfl⟩
  rw [hW3]
  have hz3 : W3.heap.size = w2.heap.size + 1 := by rw [← hW3]; show (w2.alloc _).heap.size = _; simp
  have hB3 : Below w.heap.size w W3 := by rw [← hW3]; exact below_drew (hB2.alloc hB2.size _)
  have hm3 : W3.heap[w2.heap.size]? = some (.cells #[.int .i64 (L.ep : Int), .int .i64 (L.head : Int), .int .i64 0, .int .i64 (C : Int)] 68 (0, 0)) := by rw [← hW3]; exact heap_alloc_new _ _
  have hq3 : AppBox W3 w.heap.size l := hq2.later (by rw [← hW3]; exact below_drew (below_box _ _))
  have HZ3 := Hid.mk hz3
  have HB3 := Hid.mk hB3
  have HM3 := Hid.mk hm3
  have HQ3 := Hid.mk hq3
  clear hW3 hB3 hm3 hq3 hz3 hq2 hB2 hl2
  go_wp2_with fail
  refine (chunk_any (some ⟨b, o, none⟩) x k W3).mono ?_
  rintro e w4 ⟨rfl, hw4⟩
  go_wp2_with fail
  refine (wpIn_wide (n := 6)).1 ?_
  have hb4 : Below W3.heap.size W3 w4 := by rw [hw4]; exact below_two _ _ _
  have hz4 : w4.heap.size = w2.heap.size + 3 := by rw [hw4]; have := HZ3.out; simp; omega
  have hs4 : w4.heap[w2.heap.size + 1]? = some (.cells #[.slice (some ⟨b, o, none⟩) x k] 27 (0, 0)) := by
    rw [hw4, ← HZ3.out]
    exact (Below.heap_alloc _ _ _ (by simp)).trans (heap_alloc_new _ _)
  have hn4 : w4.heap[w2.heap.size + 1 + 1]? = some (.cells #[.int .i64 492] 3 (0, 0)) := by
    rw [hw4, ← HZ3.out]
    have := heap_alloc_new (W3.alloc (.cells #[.slice (some ⟨b, o, none⟩) x k] 27)) (.cells #[.int .i64 492] 3)
    rwa [World.size_alloc] at this
  rw [HZ3.out]
  rw [← hw4]
  clear hw4
  have hB4 := HB3.out.trans (hb4.mono HB3.out.size)
  have hxd : d.length = x := hs.1
  have hcd : cntOf d.length = C := by rw [hxd]; exact hC1
  obtain ⟨m, hDm⟩ := HD.out.some_m
  have hmw : m < w.heap.size := HD.out.lt m hDm.fm
  have hw4z := hB4.size
  have hI0 : AppI w w4 F l p s m w2.heap.size w4.heap.size L S d [] := by
    refine ⟨rfl, ?_, ?_, HQ3.out.later hb4, Keeps.of_below F hB4, Nat.le_refl _⟩
    · exact (hDm.later hB4).narrow (fun k hk hc => ⟨.inl hk, hc, by have := HD.out.lt k hk; omega⟩) (fun _ hk => hk.2.2)
    · rw [hcd]
      exact (hb4.block _ (lt_there HM3.out)).trans HM3.out
  refine wpIn_rangeFunc_ownH rfl (by omega) (gf := 52) (lb := #[.pointer (some ⟨w2.heap.size + 1, 0, none⟩), .pointer (some ⟨w2.heap.size + 1 + 1, 0, none⟩)]) rfl trivial (enters_of Try.func52 (by kernel_rfl) rfl)
    (chunk_stops (6 - 1) (by omega) (w2.heap.size + 1) (w2.heap.size + 1 + 1) b o x k C k1 k2 hxk HC.out w4 hs4 hn4) KpC.t (KpC.b (by omega) (by omega)) (Below.refl _ _) (fun _ => rfl)
    (fun pre W => AppI w W F l p s m w2.heap.size w4.heap.size L S d (pre.map Fin.val))
    (fun c pre W => c = .ret ∧ AppX w W F p s m w4.heap.size L S d (pre.map Fin.val))
    ?hI ?hIx hI0
    (fun y a' _ => a' = { tmps := #[Value.pointer (some ⟨l, 0, none⟩), .slice (some ⟨b, o, none⟩) x k, .pointer (some ⟨w.heap.size, 0, none⟩), undef, .pointer (some ⟨w.heap.size + 1, 0, none⟩), .int .i64 0, .int .i64 (C : Int), .pointer (some ⟨w2.heap.size, 0, none⟩), .slice (some ⟨b, o + 492 * y.1, none⟩) (chLen x y.1) (chLen x y.1), undef, .pointer (some ⟨l, 0, none⟩), .int .i64 0, .int .i64 0, .bool false, undef, .slice (some ⟨b, o, none⟩) x k, .int .i64 (x : Int), .int .i64 (C : Int), .bool false, .slice (some ⟨b, o, none⟩) x k, .int .i64 (x : Int), .bool false, .bool (decide ((8364 : Int) < (x : Int))), .slice (some ⟨b, o, none⟩) x k, .int .i64 (x : Int), .bool (decide ((8364 : Int) < (x : Int))), .bool (decide ((1073741824 : Int) < (L.head : Int) + (C : Int))), .pointer (some ⟨l, 0, none⟩), .pointer (some ⟨l, 0, none⟩), .pointer (some ⟨l, 7, none⟩), .int .i64 (L.head : Int), .int .i64 (C : Int), .int .i64 ((L.head : Int) + (C : Int)), .bool (decide ((1073741824 : Int) < (L.head : Int) + (C : Int))), .bool (decide ((L.n : Int) - ((L.head : Int) - (L.tail : Int)) < (C : Int))), .int .i64 (C : Int), .pointer (some ⟨l, 0, none⟩), .int .i64 ((L.n : Int) - ((L.head : Int) - (L.tail : Int))), .bool (decide ((L.n : Int) - ((L.head : Int) - (L.tail : Int)) < (C : Int))), .pointer (some ⟨l, 0, none⟩), .pointer (some ⟨l, 0, none⟩), .pointer (some ⟨l, 5, none⟩), .int .i64 (L.ep : Int), .pointer (some ⟨l, 0, none⟩), .pointer (some ⟨l, 0, none⟩), .pointer (some ⟨l, 7, none⟩), .int .i64 (L.head : Int), .int .i64 (C : Int), .agg #[.int .i64 (L.ep : Int), .int .i64 (L.head : Int), .int .i64 0, .int .i64 (C : Int)], .slice (some ⟨b, o, none⟩) x k, .func (.func 52) #[] #[.pointer (some ⟨w2.heap.size + 1, 0, none⟩), .pointer (some ⟨w2.heap.size + 1 + 1, 0, none⟩)], .slice (some ⟨b, o + 492 * y.1, none⟩) (chLen x y.1) (chLen x y.1), undef, undef, undef, undef, undef, undef, undef, undef, undef, undef, undef, undef, undef, undef, undef, undef, undef, undef, undef, undef, undef], defers := [] }) ?hAx ?assign ?body ?done ?stop
  case hI => exact fun _ _ _ _ h hg hr => h.grown (by omega) hw4z hg hr
  case hIx => exact fun _ _ _ _ _ h hg hr => ⟨h.1, h.2.grown (by omega) hw4z hg hr⟩
  case hAx => exact fun _ _ _ _ _ _ h _ _ => h
  case assign =>
    intro l' pre y W K hI hK
    simp only [encC]
    gi_wp2
    exact hK _ _ (KeepsFrom.refl _ _) (KpC.refl _ _ _) hI rfl
  case body =>
    rintro l' pre y a' W hl' ⟨rr, hrr⟩ hI rfl hlt
    have hlen : (pre.map Fin.val).length = pre.length := by simp
    have hmp : (pre ++ [y]).map Fin.val = pre.map Fin.val ++ [y.1] := by simp
    have hy := y.2
    have hlW : LogP W l p L := HLw.out.keep hI.kp hF
    have hsW : Src W (some ⟨b, o, none⟩) x d := hs.avoid hI.kp (fun z hz _ => by cases hz; exact hFb)
    have hpt := appL_puts L S s d (pre.map Fin.val)
    have hmx : Try.prog.follows .mixedOrders = true := by kernel_rfl
    have hcl : chLen x y.1 = min 492 (x - 492 * y.1) := rfl
    have hyx : 492 * y.1 < x := by have := HC.out; omega
    have hsP : Src W (some ⟨b, o + 492 * y.1, none⟩) (chLen x y.1) (partOf d y.1) := by
      have := hsW.sub (492 * y.1) (chLen x y.1) (by omega)
      rwa [show (d.drop (492 * y.1)).take (chLen x y.1) = partOf d y.1 by unfold partOf; rw [List.take_eq_take_iff, List.length_drop, hxd]; omega] at this
    have hbP : Bytes (partOf d y.1) := partOf_bytes hd _
    have hblt : b < w.heap.size := hs.old _ rfl (by omega)
    have hFC : ∀ k, w.heap.size ≤ k → k < w4.heap.size → ¬ FC F w4.heap.size m W.drew k := fun k h1 h2 h => by
      rcases h.1 with h | h
      · have := HLt.out k h; omega
      · omega
    have hdW : DiskRM W.drew (FC F w4.heap.size m W.drew) p s (appL L S s d (pre.map Fin.val)).2 m := hI.dk.carry (fun _ _ _ _ h => h) rfl (Nat.le_refl _)
    have hput := put_any hdW L.f L.n L.ep (L.head + (pre.map Fin.val).length) (pre.map Fin.val).length C (some ⟨b, o + 492 * y.1, none⟩) (chLen x y.1) (chLen x y.1) (partOf d y.1) (hsP.later (below_drew (Below.refl _ _))) (fun z hz _ h => by
      cases hz
      rcases h.1 with h | h
      · exact hFb h
      · have : w4.heap.size ≤ b := h
        omega) hbP (by omega) (fun h => by cases h) (by have := HO.out.n1; omega) HO.out.s (by omega)
    have hsn := appL_snoc (L := L) (S := S) (s := s) (d := d) y.1 hI.ok
    rw [hcd] at hsn
    generalize aput (appL L S s d (pre.map Fin.val)).2 s L.f L.n L.ep (L.head + (pre.map Fin.val).length) (pre.map Fin.val).length C (partOf d y.1) = Y at hput hsn
    rw [← hmp] at hsn
    have b0 : W.drew.cell? ⟨w.heap.size, 0, none⟩ = some (.pointer (some ⟨l, 0, none⟩)) := cell_of_block hI.bx.1 (j := 0) rfl
    have hmk := hI.mrk
    rw [hcd] at hmk
    generalize hj : (pre.map Fin.val).length = j at hput hmk
    have hjC : j < 17 := by omega
    have hcast : ((L.head + j : Nat) : Int) = (L.head : Int) + (j : Int) := by omega
    rw [hcast] at hput hmk
    have hcL : chLen x y.1 ≤ 492 := by omega
    generalize chLen x y.1 = cL at *
    have HJ := Hid.mk hj
    clear hcl hcast hj
    have HSt : Hid (∀ W' : World, W'.heap[w.heap.size]? = some (.cells #[.pointer (some ⟨l, 0, none⟩)] 24 (0, 0)) → W'.heap[w2.heap.size]? = some (.cells #[.int .i64 (L.ep : Int), .int .i64 ((L.head : Int) + (j : Int)), .int .i64 (j : Int), .int .i64 (C : Int)] 68 (0, 0)) → LogP W' l p L →
        (W'.cell? ⟨w.heap.size, 0, none⟩ = some (.pointer (some ⟨l, 0, none⟩)) ∧ W'.cell? ⟨w2.heap.size, 0, none⟩ = some (.int .i64 (L.ep : Int)) ∧ W'.cell? ⟨w2.heap.size, 1, none⟩ = some (.int .i64 ((L.head : Int) + (j : Int))) ∧ W'.cell? ⟨w2.heap.size, 2, none⟩ = some (.int .i64 (j : Int)) ∧ W'.cell? ⟨w2.heap.size, 3, none⟩ = some (.int .i64 (C : Int)) ∧
          W'.cell? ⟨l, 0, none⟩ = some (.pointer (some ⟨p, 0, none⟩)) ∧ W'.cell? ⟨l, 1, none⟩ = some (.int .i64 (L.f : Int)) ∧ W'.cell? ⟨l, 2, none⟩ = some (.int .i64 (L.n : Int)))) :=
      fun W' g1 g2 g3 => ⟨cell_of_block g1 (j := 0) rfl, cell_of_block g2 (j := 0) rfl, cell_of_block g2 (j := 1) rfl, cell_of_block g2 (j := 2) rfl, cell_of_block g2 (j := 3) rfl, g3.c0, g3.c1, g3.c2⟩
    have S0 := Hid.mk (HSt.out W.drew hI.bx.1 hmk (hlW.later (below_drew (Below.refl _ _))))
    have HIh := Hid.mk hI
    have HPut := Hid.mk hput
    have HMk := Hid.mk hmk
    have HSn := Hid.mk hsn
    have HFC := Hid.mk hFC
    clear hI hput hmk hsn hFC hsP hsW hlW hdW hpt b0
    gi_wp2_with fail
    refine wpIn_region_held (S := fun W' => W'.cell? ⟨w.heap.size, 0, none⟩ = some (.pointer (some ⟨l, 0, none⟩)) ∧ W'.cell? ⟨w2.heap.size, 0, none⟩ = some (.int .i64 (L.ep : Int)) ∧ W'.cell? ⟨w2.heap.size, 1, none⟩ = some (.int .i64 ((L.head : Int) + (j : Int))) ∧ W'.cell? ⟨w2.heap.size, 2, none⟩ = some (.int .i64 (j : Int)) ∧ W'.cell? ⟨w2.heap.size, 3, none⟩ = some (.int .i64 (C : Int)) ∧
          W'.cell? ⟨l, 0, none⟩ = some (.pointer (some ⟨p, 0, none⟩)) ∧ W'.cell? ⟨l, 1, none⟩ = some (.int .i64 (L.f : Int)) ∧ W'.cell? ⟨l, 2, none⟩ = some (.int .i64 (L.n : Int))) hmx (by kernel_rfl) ?_
    refine wpAnyH_take (i := 0) (v := .pointer (some ⟨l, 0, none⟩)) rfl (by kernel_rfl) (by kernel_rfl) (by kernel_rfl) (fun _ _ _ h => h) (Or.inl ⟨by rfl, ?_⟩) S0.out ?_
    · rintro W1 ⟨y1, y2, y3, y4, y5, y6, y7, y8⟩
      go_simp
    try simp only [Act.put, List.setIfInBounds_toArray]
    refine wpAnyH_take (i := 1) (v := .pointer (some ⟨l, 0, none⟩)) rfl (by kernel_rfl) (by kernel_rfl) (by kernel_rfl) (fun _ _ _ h => h) (Or.inl ⟨by rfl, ?_⟩) S0.out ?_
    · rintro W1 ⟨y1, y2, y3, y4, y5, y6, y7, y8⟩
      go_simp
    try simp only [Act.put]
    refine wpAnyH_take (i := 2) (v := .pointer (some ⟨l, 0, none⟩)) rfl (by kernel_rfl) (by kernel_rfl) (by kernel_rfl) (fun _ _ _ h => h) (Or.inl ⟨by rfl, ?_⟩) S0.out ?_
    · rintro W1 ⟨y1, y2, y3, y4, y5, y6, y7, y8⟩
      go_simp
    try simp only [Act.put]
    refine wpAnyH_take (i := 3) (v := areaV p L.f L.n) rfl (by kernel_rfl) (by kernel_rfl) (by kernel_rfl) (fun _ _ _ h => h) (Or.inl ⟨by rfl, ?_⟩) S0.out ?_
    · rintro W1 ⟨y1, y2, y3, y4, y5, y6, y7, y8⟩
      go_simp
    try simp only [Act.put]
    refine wpAnyH_take (i := 4) (v := markV (L.ep : Int) ((L.head : Int) + (j : Int)) (j : Int) (C : Int)) rfl (by kernel_rfl) (by kernel_rfl) (by kernel_rfl) (fun _ _ _ h => h) (Or.inl ⟨by rfl, ?_⟩) S0.out ?_
    · rintro W1 ⟨y1, y2, y3, y4, y5, y6, y7, y8⟩
      go_simp
    try simp only [Act.put]
    refine wpAnyH_take (i := 5) (v := .slice (some ⟨b, o + 492 * y.1, none⟩) cL cL) rfl (by kernel_rfl) (by kernel_rfl) (by kernel_rfl) (fun _ _ _ h => h) (Or.inl ⟨by rfl, ?_⟩) S0.out ?_
    · rintro W1 ⟨y1, y2, y3, y4, y5, y6, y7, y8⟩
      go_simp
    try simp only [Act.put]
    refine wpAnyH_take (i := 6) (v := pieceV (L.ep : Int) ((L.head : Int) + (j : Int)) (j : Int) (C : Int) (some ⟨b, o + 492 * y.1, none⟩) cL cL) rfl (by kernel_rfl) (by kernel_rfl) (by kernel_rfl) (fun _ _ _ h => h) (Or.inl ⟨by rfl, ?_⟩) S0.out ?_
    · rintro W1 ⟨y1, y2, y3, y4, y5, y6, y7, y8⟩
      go_simp
    try simp only [Act.put]
    refine wpAnyH_ready (rs := [7]) (by kernel_rfl) (by simp) (AllReadyH.cons rfl (fun K hK => ?_) AllReadyH.nil)
    go_simp
    refine HPut.out.mono ?_
    rintro e W2 ⟨rfl, hd2, hk2⟩
    have hz2 : W.heap.size ≤ W2.heap.size := hk2.size
    have hd3 : DiskRM W2 (FC F w4.heap.size m W2) p s Y.2 m := hd2.fc (w0 := w) (w := W.drew) HIh.out.sz rfl
    have hkw : Keeps F w W2 := (HIh.out.kp.trans (Keeps.of_below (fun _ => False) (below_drew (Below.refl W.heap.size W))) (fun _ h => h.elim)).trans hk2 (fun k hk => by
      rcases hk.1 with h | h
      · exact .inl h
      · exact .inr (by omega))
    have hkeep : ∀ k ob, w.heap.size ≤ k → k < w4.heap.size → W.heap[k]? = some ob → W2.heap[k]? = some ob := fun k ob h1 h2 h3 => (hk2.block k (lt_there h3) (HFC.out k h1 h2)).trans h3
    have hbx : AppBox W2 w.heap.size l := ⟨hkeep _ _ (by omega) (by omega) HIh.out.bx.1, hkeep _ _ (by omega) (by omega) HIh.out.bx.2⟩
    have hmk2 := hkeep w2.heap.size _ (by omega) (by omega) HMk.out
    have hkf : KeepsFrom w4.heap.size W W2 := ⟨hz2, fun k ob h1 h2 h3 => (hk2.block k (lt_there h2) (fun h => by
      rcases h.2.1 with ⟨cur, t, fz, hc⟩ | h
      · have hc' : W.heap[k]? = some (.cells cur t fz) := hc
        rw [h2] at hc'
        cases hc'
        cases h3
      · omega)).trans h2⟩
    have hkc : KpC (w2.heap.size + 1) (w2.heap.size + 1 + 1) W W2 := ⟨hk2.block _ (by have := HIh.out.sz; show _ < W.heap.size; omega) (HFC.out _ (by omega) (by omega)), hk2.block _ (by have := HIh.out.sz; show _ < W.heap.size; omega) (HFC.out _ (by omega) (by omega))⟩
    have hl2 : LogP W2 l p L := HLw.out.keep hkw hF
    have S2 := Hid.mk (HSt.out W2 hbx.1 hmk2 hl2)
    have HD3 := Hid.mk hd3
    have HKw := Hid.mk hkw
    have HBx := Hid.mk hbx
    have HMk2 := Hid.mk hmk2
    have HKf := Hid.mk hkf
    have HKc := Hid.mk hkc
    clear hd2 hk2 hd3 hkw hkeep hbx hmk2 hkf hkc hl2
    refine hK.out _ _ S2.out (fun _ => ?_)
    clear hK K
    try simp only [Act.put, List.setIfInBounds_toArray, List.set_cons_zero, List.set_cons_succ]
    refine wpAnyH_take (i := 8) (v := .int .i64 Y.1) rfl (by kernel_rfl) (by kernel_rfl) (by kernel_rfl) (fun _ _ _ h => h) (Or.inl ⟨by rfl, ?_⟩) S2.out ?_
    · rintro W1 ⟨y1, y2, y3, y4, y5, y6, y7, y8⟩
      go_simp
    try simp only [Act.put, List.setIfInBounds_toArray]
    refine wpAnyH_done (by kernel_rfl) ?_ _
    have er1 : W2.cell? ⟨w.heap.size + 1, 0, none⟩ = some (.int .i64 0) := cell_of_block HBx.out.2 (j := 0) rfl
    have ef1 : W2.frozen? ⟨w.heap.size + 1, 0, none⟩ = false := frozen_of_block HBx.out.2 0
    by_cases kY : Y.1 = 0
    · have dY : (Y.1 == 0) = true := by rw [beq_iff_eq]; exact kY
      obtain ⟨z1, z2, z3, z4, z5, _⟩ := S2.out
      have hnx := CallsIn.inRound l' (callsIn_wide (n := 3).2 (next_any L.ep (L.head + j) j C W2 (by omega) (by omega)))
      rw [show ((L.head + j : Nat) : Int) = (L.head : Int) + (j : Int) by omega] at hnx
      have HKY := Hid.mk kY
      clear kY
      gi_wp2_with fail
      refine ⟨trivial, ?_⟩
      refine hnx.mono ?_
      rintro e W5 ⟨rfl, hb5⟩
      have hm5 := (hb5.block _ (lt_there HMk2.out)).trans HMk2.out
      have m0 : W5.cell? ⟨w2.heap.size, 0, none⟩ = some (.int .i64 (L.ep : Int)) := cell_of_block hm5 (j := 0) rfl
      have m1 : W5.cell? ⟨w2.heap.size, 1, none⟩ = some (.int .i64 ((L.head : Int) + (j : Int))) := cell_of_block hm5 (j := 1) rfl
      have m2 : W5.cell? ⟨w2.heap.size, 2, none⟩ = some (.int .i64 (j : Int)) := cell_of_block hm5 (j := 2) rfl
      have m3 : W5.cell? ⟨w2.heap.size, 3, none⟩ = some (.int .i64 (C : Int)) := cell_of_block hm5 (j := 3) rfl
      have mf : ∀ i, W5.frozen? ⟨w2.heap.size, i, none⟩ = false := fun i => frozen_of_block hm5 i
      have HM5 := Hid.mk hm5
      have HB5 := Hid.mk hb5
      clear hm5 hb5 hnx z1 z2 z3 z4 z5 er1 ef1
      gi_wp2
      obtain ⟨WX, hWX⟩ : ∃ WX, ((((W5.setCell ⟨w2.heap.size, 0, none⟩ (.int .i64 (L.ep : Int))).setCell ⟨w2.heap.size, 1, none⟩ (.int .i64 ((L.head : Int) + (j : Int) + 1))).setCell ⟨w2.heap.size, 2, none⟩ (.int .i64 ((j : Int) + 1))).setCell ⟨w2.heap.size, 3, none⟩ (.int .i64 (C : Int))) = WX := ⟨_, rfl⟩
      rw [hWX]
      have hks : Keeps (fun k => k = w2.heap.size) W5 WX := by
        rw [← hWX]
        exact (((keeps_set (F := fun k => k = w2.heap.size) _ rfl 0 _).trans (keeps_set (F := fun k => k = w2.heap.size) _ rfl 1 _) (fun _ h => .inl h)).trans (keeps_set (F := fun k => k = w2.heap.size) _ rfl 2 _) (fun _ h => .inl h)).trans (keeps_set (F := fun k => k = w2.heap.size) _ rfl 3 _) (fun _ h => .inl h)
      have hkx : KeepsFrom w4.heap.size W5 WX := by
        rw [← hWX]
        exact ((((KeepsOthers.setCell _ _ _).from _).trans ((KeepsOthers.setCell _ _ _).from _)).trans ((KeepsOthers.setCell _ _ _).from _)).trans ((KeepsOthers.setCell _ _ _).from _)
      have hmX : WX.heap[w2.heap.size]? = some (.cells #[.int .i64 (L.ep : Int), .int .i64 ((L.head : Int) + (j : Int) + 1), .int .i64 ((j : Int) + 1), .int .i64 (C : Int)] 68 (0, 0)) := by
        rw [← hWX]
        exact (heap_setCell_same _ _ 3 _ _ _ (heap_setCell_same _ _ 2 _ _ _ (heap_setCell_same _ _ 1 _ _ _ (heap_setCell_same _ _ 0 _ _ _ HM5.out)))).trans (by simp)
      have hb5 := HB5.out
      have hsz5 := HIh.out.sz
      have hkfz := HKf.out.size
      have hc5 := cellsIn_below hb5
      have hd5 : DiskRM W5 (FC F w4.heap.size m W5) p s Y.2 m := HD3.out.carry hc5 (hb5.block _ (fc_lt_m HD3.out)) hb5.size
      have hbl : ∀ k ob, ¬ k = w2.heap.size → W2.heap[k]? = some ob → WX.heap[k]? = some ob := fun k ob h1 h2 => (hks.block k (by have := lt_there h2; have := hb5.size; omega) h1).trans ((hb5.block k (lt_there h2)).trans h2)
      have hz5 := hb5.size
      have hzX := hks.size
      have hIX : AppI w WX F l p s m w2.heap.size w4.heap.size L S d ((pre ++ [y]).map Fin.val) := by
        have e1 := HSn.out
        refine ⟨by rw [e1]; exact HKY.out, by rw [e1]; exact hd5.fckeep hks (fcw_not HLt.out (by omega) (by omega)), ?_, ⟨hbl _ _ (by omega) HBx.out.1, hbl _ _ (by omega) HBx.out.2⟩, (HKw.out.trans (Keeps.of_below (fun _ => False) hb5) (fun _ h => h.elim)).trans hks (fun _ h => .inr (by omega)), by omega⟩
        rw [hmX, hmp, List.length_append, List.length_singleton, HJ.out, hcd]
        rw [show ((L.head + (j + 1) : Nat) : Int) = (L.head : Int) + (j : Int) + 1 by omega, show ((j + 1 : Nat) : Int) = (j : Int) + 1 by omega]
      exact ⟨(HKf.out.trans ⟨hz5, fun k ob _ h2 _ => (hb5.block k (lt_there h2)).trans h2⟩).trans hkx, HKc.out.t ⟨(hks.block _ (by omega) (by omega)).trans (hb5.block _ (by omega)), (hks.block _ (by omega) (by omega)).trans (hb5.block _ (by omega))⟩, hIX⟩
    · have dY : (Y.1 == 0) = false := by rw [beq_eq_false_iff_ne]; exact kY
      have HKY := Hid.mk kY
      clear kY
      gi_wp2
      have hks : Keeps (fun k => k = w.heap.size + 1) W2 (W2.setCell ⟨w.heap.size + 1, 0, none⟩ (.int .i64 Y.1)) := keeps_set (F := fun k => k = w.heap.size + 1) W2 rfl 0 _
      have hX : AppX w (W2.setCell ⟨w.heap.size + 1, 0, none⟩ (.int .i64 Y.1)) F p s m w4.heap.size L S d ((pre ++ [y]).map Fin.val) := by
        have e1 := HSn.out
        refine ⟨by rw [e1]; exact HKY.out, by rw [e1]; exact HD3.out.fckeep hks (fcw_not HLt.out (by omega) (by omega)), by rw [e1]; exact (heap_setCell_same _ _ 0 _ _ _ HBx.out.2).trans (by simp), HKw.out.trans hks (fun _ h => .inr (by omega)), by have := HIh.out.sz; have := HKf.out.size; have := hks.size; omega⟩
      exact ⟨HKf.out.trans ((KeepsOthers.setCell _ _ _).from _), rfl, hX⟩
  case done =>
    intro D xs W hD hxs hI hDD
    have hmp : xs.map Fin.val = List.range C := hxs
    rw [hmp] at hI
    have hlW : LogP W l p L := HLw.out.keep hI.kp hF
    have c0 : W.cell? ⟨w.heap.size, 0, none⟩ = some (.pointer (some ⟨l, 0, none⟩)) := cell_of_block hI.bx.1 (j := 0) rfl
    have c1 : W.cell? ⟨w.heap.size + 1, 0, none⟩ = some (.int .i64 0) := cell_of_block hI.bx.2 (j := 0) rfl
    have g1 : W.frozen? ⟨w.heap.size + 1, 0, none⟩ = false := frozen_of_block hI.bx.2 0
    have c7 := hlW.c7
    have g7 := hlW.fz 7
    have HIh := Hid.mk hI
    have HlW := Hid.mk hlW
    clear hI hlW hmp hxs
    have hnF : ¬ FC F w4.heap.size m W l := fun h => by
      rcases h.1 with h | h
      · exact hF h
      · omega
    have hk1 : Keeps (fun k => k = l) W (W.setCell ⟨l, 7, none⟩ (.int .i64 ((L.head : Int) + (C : Int)))) := keeps_set (F := fun k => k = l) W rfl 7 _
    have hk2 : Keeps (fun k => k = w.heap.size + 1) (W.setCell ⟨l, 7, none⟩ (.int .i64 ((L.head : Int) + (C : Int)))) ((W.setCell ⟨l, 7, none⟩ (.int .i64 ((L.head : Int) + (C : Int)))).setCell ⟨w.heap.size + 1, 0, none⟩ (.int .i64 0)) := keeps_set (F := fun k => k = w.heap.size + 1) _ rfl 0 _
    have hd1 := (HIh.out.dk.fckeep hk1 hnF).fckeep hk2 (fcw_not HLt.out (by omega) (by omega))
    have hl1 : LogP ((W.setCell ⟨l, 7, none⟩ (.int .i64 ((L.head : Int) + (C : Int)))).setCell ⟨w.heap.size + 1, 0, none⟩ (.int .i64 0)) l p { L with head := L.head + C } := LogP.keep (G := fun k => k = w.heap.size + 1) ((heap_setCell_same _ _ 7 _ _ _ HlW.out).trans (by simp)) hk2 (by omega)
    have he1 : ((W.setCell ⟨l, 7, none⟩ (.int .i64 ((L.head : Int) + (C : Int)))).setCell ⟨w.heap.size + 1, 0, none⟩ (.int .i64 0)).heap[w.heap.size + 1]? = some (.cells #[.int .i64 0] 29 (0, 0)) := (heap_setCell_same _ _ 0 _ _ _ ((hk1.block _ (lt_there HIh.out.bx.2) (by omega)).trans HIh.out.bx.2)).trans (by simp)
    have hkw1 : Keeps (fun k => F k ∨ k = l) w ((W.setCell ⟨l, 7, none⟩ (.int .i64 ((L.head : Int) + (C : Int)))).setCell ⟨w.heap.size + 1, 0, none⟩ (.int .i64 0)) := ((HIh.out.kp.mono (fun _ h => .inl h)).trans hk1 (fun _ h => .inl (.inr h))).trans hk2 (fun _ h => .inr (by omega))
    have hDl : D < W.heap.size := lt_there hDD
    have hD1 : ((W.setCell ⟨l, 7, none⟩ (.int .i64 ((L.head : Int) + (C : Int)))).setCell ⟨w.heap.size + 1, 0, none⟩ (.int .i64 0)).heap[D]? = some (.deferred (some [])) := (hk2.block _ (by have := hk1.size; omega) (by omega)).trans ((hk1.block _ hDl (by omega)).trans hDD)
    have hz1 : W.heap.size ≤ ((W.setCell ⟨l, 7, none⟩ (.int .i64 ((L.head : Int) + (C : Int)))).setCell ⟨w.heap.size + 1, 0, none⟩ (.int .i64 0)).heap.size := Nat.le_trans hk1.size hk2.size
    obtain ⟨WZ, hWZ⟩ : ∃ WZ, ((W.setCell ⟨l, 7, none⟩ (.int .i64 ((L.head : Int) + (C : Int)))).setCell ⟨w.heap.size + 1, 0, none⟩ (.int .i64 0)) = WZ := ⟨_, rfl⟩
    rw [hWZ] at hd1 hl1 he1 hkw1 hD1 hz1
    have HF := Hid.mk (app_fin HLt.out hd1 hl1 hkw1 he1 hD1 (by omega) hsz hsz2 (by omega) (by omega))
    have HOk := Hid.mk HIh.out.ok
    have HWZ := Hid.mk hWZ
    have HD1 := Hid.mk hD1
    clear hd1 hl1 he1 hkw1 hD1 hk1 hk2 hz1 hWZ
    go_wp2
    rw [HWZ.out]
    refine ⟨by simp, .inl ⟨_, _, rfl, run_takeDeferred HD1.out, ?_⟩⟩
    refine ⟨_, results_cell1 rfl _ _ (w.heap.size + 1) 0 rfl HF.out.1, ?_⟩
    have e1 := HOk.out
    rw [appL_range] at e1 HF
    unfold LG.append
    rw [hxd, HR.out, hC1, if_neg (by decide), if_neg (by rw [e1]; decide)]
    exact ⟨rfl, HF.out.2⟩
  case stop =>
    rintro D c pre W hD ⟨j, hj, hpre⟩ ⟨rfl, hX⟩ hDD
    have hmp : pre.map Fin.val = List.range (j + 1) := hpre
    rw [hmp] at hX
    have hlW : LogP W l p L := HLw.out.keep hX.kp hF
    have hnn := hX.no
    have HF := Hid.mk (app_fin HLt.out hX.dk hlW (hX.kp.mono (fun _ h => .inl h)) hX.er hDD (by omega) hsz hsz2 (by omega) (by omega))
    rw [appL_range] at HF hnn
    have hto : appTo L S s d C = appTo L S s d (j + 1) := stepsTo_err hnn C (by omega)
    have HTo := Hid.mk hto
    have HNn := Hid.mk hnn
    clear hX hlW hnn hto
    gi_wp2
    refine ⟨by simp, .inl ⟨_, _, rfl, run_takeDeferred hDD, ?_⟩⟩
    refine ⟨_, results_cell1 rfl _ _ (w.heap.size + 1) _ rfl HF.out.1, ?_⟩
    unfold LG.append
    rw [hxd, HR.out, hC1, if_neg (by decide), HTo.out, if_pos HNn.out]
    exact ⟨rfl, HF.out.2⟩
end
end Go.Proofs.Ythdgndbmecnimaa
end

section
namespace Go.Proofs.Ythdgndbmecnimaa
open Go.RowKit

theorem Append_any {w : World} {F : Nat → Prop} {p s l : Nat} {S : DS} {L : LG} (h : DiskR w F p s S) (hl : LogP w l p L) (hk : L.Ok s) (hF : ¬ F l) (a : Option Addr) (x k : Nat) (d : List Int) (hs : Src w a x d) (hFs : ∀ y, a = some y → 0 < x → ¬ F y.block) (hd : Bytes d) (hxk : x ≤ k) (hx : x ≤ 140737488355328) (hbig : S.puts.length + 100 ≤ 4000000000000) :
    Calls Try.prog 7 #[.pointer (some ⟨l, 0, none⟩), .slice a x k] w fun e w' => e = .returned (.int .i64 (L.append S s d).1) ∧ DiskR w' (more F w w') p s (L.append S s d).2.1 ∧ LogP w' l p (L.append S s d).2.2 ∧ Keeps (fun k => F k ∨ k = l) w w' := by
  by_cases hr : L.refuses S x = 0
  · have hx1 := (refuses_zero hr).2.1
    obtain ⟨b, o, rfl⟩ := src_spot hs hx1
    exact Append_go h hl hk hF b o x k d hs (hFs _ rfl hx1) hd hxk hr hbig
  · refine (Append_no h hl hk a x k hx hr).mono ?_
    rintro e w' ⟨rfl, hb⟩
    unfold LG.append
    rw [hs.1, if_pos hr]
    exact ⟨rfl, (h.later hb).more, hl.later hb, Keeps.of_below _ hb⟩
end Go.Proofs.Ythdgndbmecnimaa
end

section
namespace Go.Proofs.Ythdgndbmecnimaa

theorem now_put (S : DS) (k : Nat) (l : List Int) (j : Nat) : (S.put k l).now j = if j = k then l else S.now j := by
  have e : pendOf (S.put k l).puts j = if j = k then pendOf S.puts k ++ [l] else pendOf S.puts j := pendOf_snoc _ _ _ _
  by_cases h : j = k
  · subst h
    simp [DS.now, DS.cand, e]
  · have e2 : pendOf (S.put k l).puts j = pendOf S.puts j := by rw [e, if_neg h]
    have e3 : (S.put k l).im = S.im := rfl
    simp [DS.now, DS.cand, e2, e3, h]
theorem wr_now {S : DS} {s k : Nat} (hf : S.fuse ≠ 0) (hk : k < s) (l : List Int) (j : Nat) : (S.wr s (k : Int) 512 l).2.now j = if j = k then l else S.now j := by
  rw [wr_in hf hk]
  exact now_put S k l j
theorem wr_ok {S : DS} {s k : Nat} (h : S.Ok s) (hf : S.fuse ≠ 0) (hk : k < s) {l : List Int} (hl : l.length = 512) : (S.wr s (k : Int) 512 l).2.Ok s := by
  rw [wr_in hf hk]
  refine ⟨h.len, h.lo, h.hi, fun q hq => ?_, ?_⟩
  · have hq' : q ∈ S.puts ++ [(k, l)] := hq
    rcases List.mem_append.1 hq' with hq | hq
    · exact h.puts q hq
    · rw [List.mem_singleton.1 hq]; exact ⟨hk, hl⟩
  · have := h.fuse
    show -1 ≤ (if 0 < S.fuse then S.fuse - 1 else S.fuse) ∧ (if 0 < S.fuse then S.fuse - 1 else S.fuse) ≤ _
    split <;> omega
theorem fl_now {S : DS} {s : Nat} (h : S.Ok s) {j : Nat} (hj : j < s) : (S.fl s).2.now j = S.now j := by
  unfold DS.fl
  split
  · rfl
  · show (S.flush s).now j = S.now j
    rw [now_none _ _ rfl]
    exact sec_imOf s S.now (fun k hk => now_len h k hk) j hj
theorem fl_ok {S : DS} {s : Nat} (h : S.Ok s) : (S.fl s).2.Ok s := by
  unfold DS.fl
  split
  · exact h
  · refine ⟨imOf_len s _ (fun k hk => now_len h k hk), h.lo, h.hi, (fun q hq => by cases hq), ?_⟩
    have := h.fuse
    show -1 ≤ (if 0 < S.fuse then S.fuse - 1 else S.fuse) ∧ (if 0 < S.fuse then S.fuse - 1 else S.fuse) ≤ _
    split <;> omega
theorem wr_life (S : DS) (s : Nat) (x : Int) (n : Nat) (l : List Int) : (S.wr s x n l).2.life = S.life := by
  unfold DS.wr
  split
  · rfl
  · split
    · rfl
    · split <;> rfl
theorem fl_life (S : DS) (s : Nat) : (S.fl s).2.life = S.life := by
  unfold DS.fl
  split <;> rfl
theorem fl_zero {S : DS} {s : Nat} (h : (S.fl s).1 = 0) : (S.fl s).2.puts = [] := by
  unfold DS.fl at *
  split at h
  · simp at h
  · rename_i q; rw [if_neg q]; rfl
theorem fl_err {S : DS} {s : Nat} (h : (S.fl s).1 ≠ 0) : (S.fl s).2 = S ∧ S.fuse = 0 ∧ (S.fl s).1 = 3 := by
  unfold DS.fl at *
  split at h
  · rename_i q; rw [if_pos q]; exact ⟨rfl, q, rfl⟩
  · exact absurd rfl h
theorem wr_err {S : DS} {s k : Nat} {l : List Int} (hk : k < s) (h : (S.wr s (k : Int) 512 l).1 ≠ 0) : (S.wr s (k : Int) 512 l).2 = S ∧ S.fuse = 0 := by
  by_cases hf : S.fuse = 0
  · unfold DS.wr
    rw [if_pos hf]
    exact ⟨rfl, hf⟩
  · rw [wr_in hf hk] at h
    exact absurd rfl h
theorem wr_zero {S : DS} {s k : Nat} {l : List Int} (h : (S.wr s (k : Int) 512 l).1 = 0) : S.fuse ≠ 0 := fun hf => by
  unfold DS.wr at h
  rw [if_pos hf] at h
  simp at h

/-- A greater number can always be laid. -/
theorem renew_ok {l r : List Int} (hl : l.length = 512) (hr : r.length = 512) {N : Nat} (h1 : 1 ≤ N) (h : (snewest l r).2.1 < N) : (srenew l r (N : Int) []).2.2 = 0 := by
  unfold srenew
  rw [if_neg (by omega), if_neg (by omega), if_neg (by simp)]
  simp only
  rw [if_neg (by omega)]
  split <;> rfl
theorem renew_pair {l r : List Int} (hl : l.length = 512) (hr : r.length = 512) {N : Nat} (h1 : 1 ≤ N) (hN : N < 9223372036854775808) (h : (snewest l r).2.1 < N) :
    (snewest (sput l r (srenew l r (N : Int) []).1 (srenew l r (N : Int) []).2.1).1 (sput l r (srenew l r (N : Int) []).1 (srenew l r (N : Int) []).2.1).2).2.1 = N := by
  have e : (srenew l r (N : Int) []) = if (snewest l r).2.2.2 = 0 ∧ (snewest l r).1 = 0 then (1, sform (turnOf (r.getD 0 0) (r.getD 511 0)) (bytes8 N ++ []), 0) else (0, sform (turnOf (l.getD 0 0) (l.getD 511 0)) (bytes8 N ++ []), 0) := by
    unfold srenew
    rw [if_neg (by omega), if_neg (by omega), if_neg (by simp)]
    simp only
    rw [if_neg (by omega), Int.toNat_natCast]
  rw [e]
  by_cases q : (snewest l r).2.2.2 = 0 ∧ (snewest l r).1 = 0
  · rw [if_pos q]
    have := pair_new (data := []) hl hr hN h1 (by simp) h (t := turnOf (r.getD 0 0) (r.getD 511 0)) (by have := turnOf_le (r.getD 0 0) (r.getD 511 0); omega) 1 (by rw [if_pos q])
    simp only
    rw [this]
  · rw [if_neg q]
    have := pair_new (data := []) hl hr hN h1 (by simp) h (t := turnOf (l.getD 0 0) (l.getD 511 0)) (by have := turnOf_le (l.getD 0 0) (l.getD 511 0); omega) 0 (by rw [if_neg q])
    simp only
    rw [this]
theorem anew_life (S : DS) (s f : Nat) (num : Int) : (anew S s f num).2.life = S.life := by
  unfold anew
  split
  · rfl
  · split
    · rfl
    · split
      · exact wr_life _ _ _ _ _
      · rw [fl_life, wr_life]
/-- The newest anchor's number. -/
def DS.num (S : DS) (f : Nat) : Nat := (snewest (S.now f) (S.now (f + 1))).2.1
theorem anew_num {S : DS} {s f N : Nat} (h : S.Ok s) (hf : f + 1 < s) (h1 : 1 ≤ N) (hN : N < 9223372036854775808) (hlt : S.num f < N) (h0 : (anew S s f (N : Int)).1 = 0) : (anew S s f (N : Int)).2.num f = N ∧ (anew S s f (N : Int)).2.puts = [] := by
  have hl := now_len h f (by omega)
  have hr := now_len h (f + 1) hf
  have hok := renew_ok hl hr h1 hlt
  have hp := renew_pair hl hr h1 hN hlt
  have hsl := srenew_slot (S.now f) (S.now (f + 1)) (N : Int) []
  have hfu := srenew_full (S.now f) (S.now (f + 1)) (N : Int) [] hok
  unfold anew at *
  split at h0
  · simp at h0
  · rename_i hfz
    rw [if_neg hfz]
    rw [if_neg (by omega)] at h0 ⊢
    generalize srenew (S.now f) (S.now (f + 1)) (N : Int) [] = Y at *
    rw [show (f : Int) + (Y.1 : Int) = ((f + Y.1 : Nat) : Int) by omega] at h0 ⊢
    have hw0 : (S.wr s ((f + Y.1 : Nat) : Int) 512 Y.2.1).1 = 0 := by rw [wr_in hfz (by omega)]
    rw [if_neg (by omega)] at h0 ⊢
    have hwo := wr_ok h hfz (show f + Y.1 < s by omega) hfu
    refine ⟨?_, fl_zero h0⟩
    unfold DS.num
    rw [fl_now hwo (by omega), fl_now hwo hf, wr_now hfz (by omega), wr_now hfz (by omega)]
    unfold sput at hp
    by_cases q : Y.1 = 0
    · rw [q] at hp ⊢
      rw [if_pos (by omega), if_neg (by omega)]
      rw [if_pos rfl] at hp
      exact hp
    · have q1 : Y.1 = 1 := by omega
      rw [q1] at hp ⊢
      rw [if_neg (by omega), if_pos rfl]
      rw [if_neg (by omega)] at hp
      exact hp
theorem anew_err {S : DS} {s f : Nat} {num : Int} (hf : f + 1 < s) (hok : (srenew (S.now f) (S.now (f + 1)) num []).2.2 = 0) (h0 : (anew S s f num).1 ≠ 0) : (anew S s f num).2.fuse = 0 ∧ (anew S s f num).2.puts.length ≤ S.puts.length + 1 := by
  have hsl := srenew_slot (S.now f) (S.now (f + 1)) num []
  unfold anew at *
  split at h0
  · rename_i hfz; rw [if_pos hfz]; exact ⟨hfz, Nat.le_succ _⟩
  · rename_i hfz
    rw [if_neg hfz]
    rw [if_neg (by omega)] at h0 ⊢
    generalize srenew (S.now f) (S.now (f + 1)) num [] = Y at *
    rw [show (f : Int) + (Y.1 : Int) = ((f + Y.1 : Nat) : Int) by omega] at h0 ⊢
    have hw0 : (S.wr s ((f + Y.1 : Nat) : Int) 512 Y.2.1).1 = 0 := by rw [wr_in hfz (by omega)]
    rw [if_neg (by omega)] at h0 ⊢
    obtain ⟨e1, e2, _⟩ := fl_err h0
    rw [e1]
    exact ⟨e2, wr_puts _ _ _ _ _⟩
theorem aput_life (S : DS) (s f n E P i c : Nat) (l : List Int) : (aput S s f n E P i c l).2.life = S.life := by
  unfold aput
  split
  · rfl
  · exact wr_life _ _ _ _ _
theorem aput_now {S : DS} {s f n E P i c : Nat} {l : List Int} (hn : 1 ≤ n) (hs : f + 2 + n ≤ s) {j : Nat} (hj : j < f + 2) : (aput S s f n E P i c l).2.now j = S.now j := by
  have := Nat.mod_lt P hn
  unfold aput
  split
  · rfl
  · rename_i hf
    rw [wr_now hf (by omega), if_neg (by omega)]
theorem aput_err {S : DS} {s f n E P i c : Nat} {l : List Int} (hn : 1 ≤ n) (hs : f + 2 + n ≤ s) (h : (aput S s f n E P i c l).1 ≠ 0) : (aput S s f n E P i c l).2.fuse = 0 := by
  have := Nat.mod_lt P hn
  unfold aput at *
  split at h
  · rename_i hf; rw [if_pos hf]; exact hf
  · rename_i hf
    rw [wr_in hf (by omega)] at h
    exact absurd rfl h
theorem appTo_keeps {L : LG} {S : DS} {s : Nat} {d : List Int} (hn : 1 ≤ L.n) (hs : L.f + 2 + L.n ≤ s) : ∀ k, (appTo L S s d k).2.life = S.life ∧ (∀ j, j < L.f + 2 → (appTo L S s d k).2.now j = S.now j) ∧ ((appTo L S s d k).1 ≠ 0 → (appTo L S s d k).2.fuse = 0) ∧ (appTo L S s d k).2.puts.length ≤ S.puts.length + k
  | 0 => ⟨rfl, fun _ _ => rfl, fun h => absurd rfl h, Nat.le_refl _⟩
  | k + 1 => by
    obtain ⟨h1, h2, h3, h4⟩ := appTo_keeps (L := L) (S := S) (d := d) hn hs k
    by_cases e : (appTo L S s d k).1 = 0
    · have : appTo L S s d (k + 1) = aput (appTo L S s d k).2 s L.f L.n L.ep (L.head + k) k (cntOf d.length) (partOf d k) := stepsTo_ok e
      rw [this]
      refine ⟨(aput_life _ _ _ _ _ _ _ _ _).trans h1, fun j hj => (aput_now hn hs hj).trans (h2 j hj), fun h => aput_err hn hs h, ?_⟩
      have := aput_puts (appTo L S s d k).2 s L.f L.n L.ep (L.head + k) k (cntOf d.length) (partOf d k)
      omega
    · have : appTo L S s d (k + 1) = appTo L S s d k := stepsTo_err e (k + 1) (by omega)
      rw [this]
      exact ⟨h1, h2, h3, by omega⟩

/-- What wiping does to the sectors. -/
theorem wipeTo_keeps {S : DS} {s f n : Nat} (h : S.Ok s) (hs : f + n ≤ s) : ∀ k, k ≤ n → (wipeTo S s f k).2.life = S.life ∧ (wipeTo S s f k).2.Ok s ∧ ((wipeTo S s f k).1 ≠ 0 → (wipeTo S s f k).2.fuse = 0) ∧ ((wipeTo S s f k).1 = 0 → ∀ j, j < k → (wipeTo S s f k).2.now (f + j) = zs 512)
  | 0, _ => ⟨rfl, h, fun h => absurd rfl h, fun _ j hj => by omega⟩
  | k + 1, hk => by
    obtain ⟨h1, h2, h3, h4⟩ := wipeTo_keeps h hs k (by omega)
    by_cases e : (wipeTo S s f k).1 = 0
    · have e1 : wipeTo S s f (k + 1) = (wipeTo S s f k).2.wr s ((f + k : Nat) : Int) 512 (zs 512) := stepsTo_ok e
      rw [e1]
      by_cases hf : (wipeTo S s f k).2.fuse = 0
      · have e2 : (wipeTo S s f k).2.wr s ((f + k : Nat) : Int) 512 (zs 512) = (3, (wipeTo S s f k).2) := by unfold DS.wr; rw [if_pos hf]
        rw [e2]
        exact ⟨h1, h2, fun _ => hf, fun h => by simp at h⟩
      · refine ⟨(wr_life _ _ _ _ _).trans h1, wr_ok h2 hf (by omega) (zs_len 512), fun h => ?_, fun _ j hj => ?_⟩
        · rw [wr_in hf (by omega)] at h; exact absurd rfl h
        · rw [wr_now hf (by omega)]
          by_cases q : j = k
          · rw [if_pos (by omega)]
          · rw [if_neg (by omega)]; exact h4 e j (by omega)
    · have e1 : wipeTo S s f (k + 1) = wipeTo S s f k := stepsTo_err e (k + 1) (by omega)
      rw [e1]
      exact ⟨h1, h2, h3, fun h => absurd h e⟩
theorem sanchor_zero : (sanchor (zs 512)).1 = 0 := by
  have hb : sbody (zs 512) = [] := by
    unfold sbody
    rw [show slen (zs 512) = 0 from by unfold slen; rw [show (zs 512).getD 1 0 = 0 from rfl, show (zs 512).getD 2 0 = 0 from rfl]; rfl]
    exact List.take_zero
  have hs : sanchor (zs 512) = (0, []) := by
    refine sanchor_short ?_
    unfold sopen
    split
    · exact .inr ⟨_, rfl, .inl (by rw [hb]; decide)⟩
    · exact .inl rfl
  rw [hs]
theorem snewest_zero : (snewest (zs 512) (zs 512)).2.1 = 0 := by
  rw [snewest_eq (zs_len 512) (zs_len 512), if_pos ⟨sanchor_zero, sanchor_zero⟩]
theorem awipe_keeps {S : DS} {s f n : Nat} (h : S.Ok s) (hs : f + 2 + n ≤ s) : (awipe S s f n).2.life = S.life ∧ (awipe S s f n).2.Ok s ∧ ((awipe S s f n).1 ≠ 0 → (awipe S s f n).2.fuse = 0) ∧ ((awipe S s f n).1 = 0 → (awipe S s f n).2.num f = 0 ∧ (awipe S s f n).2.puts = []) := by
  obtain ⟨h1, h2, h3, h4⟩ := wipeTo_keeps (f := f) h (n := n + 2) (by omega) (n + 2) (Nat.le_refl _)
  unfold awipe
  by_cases e : (wipeTo S s f (n + 2)).1 = 0
  · rw [if_neg (by omega)]
    refine ⟨(fl_life _ _).trans h1, fl_ok h2, fun h => ?_, fun h => ⟨?_, fl_zero h⟩⟩
    · obtain ⟨e1, e2, _⟩ := fl_err h
      rw [e1]; exact e2
    · unfold DS.num
      have z0 : (wipeTo S s f (n + 2)).2.now f = zs 512 := h4 e 0 (by omega)
      have z1 := h4 e 1 (by omega)
      rw [fl_now h2 (by omega), fl_now h2 (by omega), z0, z1]
      exact snewest_zero
  · rw [if_pos e]
    exact ⟨h1, h2, h3, fun h => absurd h e⟩
end Go.Proofs.Ythdgndbmecnimaa
end
