import Derived.Test.YtnolpafdkaloeaaW03
section
namespace Go.Proofs.Ytnolpafdkaloeaa
open Go.RowKit Go.Maps

/-- What a pick makes of a sector. -/
def tornOf (S : DS) (k : Nat) (A B C : Nat) : List Int :=
  (S.cand k (A % ((pendOf S.puts k).length + 1))).take (C % 513) ++ (S.cand k (B % ((pendOf S.puts k).length + 1))).drop (C % 513)

theorem cand_int {w : World} {F : Nat → Prop} {p s : Nat} {S : DS} {gi ci m : Nat} {D : DataW Value} {gr cr : Nat → Nat} (h : DiskRaw w F p s S gi ci m D gr cr) (k : Nat) (hk : k < s) (j : Nat) (jj : Int) (hjj : jj = (j : Int)) (hj : j ≤ (pendOf S.puts k).length) (hbig : S.puts.length ≤ 140737488355328) :
    Calls Try.prog 62 #[.pointer (some ⟨p, 0, none⟩), .int .i64 (k : Int), .int .i64 jj] w fun e w' => ∃ g o c, e = .returned (.slice (some ⟨g, o, none⟩) 512 c) ∧ F g ∧ 512 ≤ c ∧ (g = gi → o = k * 512 ∧ S.cand k j = sec S.im k) ∧ Src w (some ⟨g, o, none⟩) 512 (S.cand k j) ∧ w' = w := by
  subst hjj
  exact cand_any h k hk j hj hbig

theorem run_max (x : Int) (y : Nat) (h : max x 0 = (y : Int)) (w : World) : (Builtin.max_ #[3, 3] 3 #[.int .i64 x, .int .i64 0]).run Try.prog w = .ok (.int .i64 (y : Int)) w := by
  rw [← h]
  by_cases hx : x < 0
  · simp [Builtin.max_, Builtin.max2, hx, show max x 0 = 0 by omega]
  · simp [Builtin.max_, Builtin.max2, hx, show max x 0 = x by omega]

theorem Src.front {w : World} {x : Addr} {n j : Nat} {l : List Int} (h : Src w (some x) n l) (hj : j ≤ n) : Src w (some x) j (l.take j) := by
  have hl := h.1
  refine ⟨by rw [List.length_take]; omega, (fun h => by cases h), fun y hy i hi => ?_⟩
  rw [h.2.2 y hy i (by omega)]
  simp [List.getD, hi]

theorem splice_two (im la lb : List Int) (o cut n : Nat) (hn : cut ≤ n) (hla : la.length = n) (hlb : lb.length = n) (hl : o + n ≤ im.length) :
    splice (splice im o (la.take cut)) (o + cut) (lb.drop cut) = splice im o (la.take cut ++ lb.drop cut) := by
  have e1 : (la.take cut).length = cut := by rw [List.length_take]; omega
  have e2 : (lb.drop cut).length = n - cut := by rw [List.length_drop]; omega
  have e3 : (la.take cut ++ lb.drop cut).length = n := by rw [List.length_append, e1, e2]; omega
  have e4 : (splice im o (la.take cut)).length = im.length := splice_len _ _ _ (by omega)
  apply List.ext_getElem?
  intro i
  rw [getElem_splice _ _ _ (by omega), getElem_splice _ _ _ (by omega), getElem_splice _ _ _ (by omega), e1, e2, e3]
  by_cases h1 : o ≤ i ∧ i < o + cut
  · rw [if_neg (by omega), if_pos (by omega), if_pos (by omega), List.getElem?_append_left (by omega)]
  · by_cases h2 : o + cut ≤ i ∧ i < o + n
    · rw [if_pos (by omega), if_pos (by omega), List.getElem?_append_right (by omega), e1, show i - (o + cut) = i - o - cut by omega]
    · rw [if_neg (by omega), if_neg (by omega), if_neg (by omega)]

theorem getD_behind (im la : List Int) (k cut i : Nat) (hla : (la.take cut).length = cut) (hl : k * 512 + cut ≤ im.length) (hi : cut + i < 512) :
    (splice im (k * 512) (la.take cut)).getD (k * 512 + (cut + i)) 0 = (sec im k).getD (cut + i) 0 := by
  rw [List.getD, List.getD, getElem_splice _ _ _ (by omega), if_neg (by omega), getElem_sec, if_pos hi]

/-- The two copies of a torn sector. -/
theorem tear_run {w : World} {F : Nat → Prop} {p s : Nat} {S : DS} {gi ci m : Nat} {D : DataW Value} {gr cr : Nat → Nat} (h : DiskRaw w F p s S gi ci m D gr cr) {k : Nat} (hk : k < s) {cut : Nat} (hcut : cut ≤ 512) {la lb : List Int}
    {ga oa ca gb ob : Nat} (hsa : Src w (some ⟨ga, oa, none⟩) 512 la) (hsb : Src w (some ⟨gb, ob, none⟩) 512 lb) (hgb : gb = gi → ob = k * 512 ∧ lb = sec S.im k) :
    ∃ w2, (Builtin.copy_ #[22, 22] 3 #[.slice (some ⟨gi, k * 512, none⟩) cut 512, .slice (some ⟨ga, oa, none⟩) cut ca]).run Try.prog w = .ok (goInt (Nat.min cut cut)) w2 ∧ w2.heap.size = w.heap.size ∧
      (∀ dp sp c1 c2, (cut < 512 → dp = some ⟨gi, k * 512 + cut, none⟩ ∧ sp = some ⟨gb, ob + cut, none⟩) →
        ∃ w3, (Builtin.copy_ #[22, 22] 3 #[.slice dp (512 - cut) c1, .slice sp (512 - cut) c2]).run Try.prog w2.drew = .ok (goInt (Nat.min (512 - cut) (512 - cut))) w3 ∧
          DiskRaw w3 F p s { S with im := splice S.im (k * 512) (la.take cut ++ lb.drop cut) } gi ci m D gr cr ∧ Keeps F w w3) := by
  have hlen := h.ok.len
  have hla := hsa.1
  have hlb := hsb.1
  obtain ⟨w2, hrun, hr2, hk2, hsz⟩ := h.img.copied 3 (some ⟨gi, k * 512, none⟩) (k * 512) cut 512 (some ⟨ga, oa, none⟩) cut ca (la.take cut) (hsa.front hcut) (fun _ => rfl) (by omega)
  rw [List.take_take, Nat.min_self] at hr2
  have hl2 : (splice S.im (k * 512) (la.take cut)).length = s * 512 := by rw [splice_len _ _ _ (by rw [List.length_take]; omega)]; exact hlen
  refine ⟨w2, hrun, hsz, fun dp sp c1 c2 hdp => ?_⟩
  have hr2' : RowAt w2.drew 5 gi ci (bs (splice S.im (k * 512) (la.take cut))) := hr2
  have hsrc : Src w2.drew sp (512 - cut) (lb.drop cut) := by
    refine ⟨by rw [List.length_drop]; omega, fun e => ?_, fun y hy i hi => ?_⟩
    · by_cases h5 : cut < 512
      · rw [(hdp h5).2] at e; cases e
      · omega
    · have h5 : cut < 512 := by omega
      rw [(hdp h5).2] at hy
      cases hy
      rw [addr_add]
      have h0 := hsb.2.2 _ rfl (cut + i) (by omega)
      rw [addr_add] at h0
      have hv : (lb.drop cut).getD i 0 = lb.getD (cut + i) 0 := by simp [List.getD]
      rw [hv]
      by_cases hg : gb = gi
      · obtain ⟨rfl, rfl⟩ := hgb hg
        subst hg
        have h1 := hr2'.byte (i := k * 512 + (cut + i)) (by omega)
        rw [addr_add, Nat.zero_add] at h1
        rw [Nat.add_assoc, h1, getD_behind _ _ _ _ _ (by rw [List.length_take]; omega) (by omega) (by omega)]
      · have := World.cell?_of_block (w := w) (w' := w2) (a := ⟨gb, ob + (cut + i), none⟩) (hk2.block gb (World.block_lt_of_cell? _ _ h0) hg)
        rw [Nat.add_assoc]
        exact this.trans h0
  obtain ⟨w3, hrun3, hr3, hk3, _⟩ := hr2'.copied 3 dp (k * 512 + cut) (512 - cut) c1 sp (512 - cut) c2 (lb.drop cut) hsrc (fun h5 => (hdp (by omega)).1) (by omega)
  rw [List.take_of_length_le (l := lb.drop cut) (by rw [List.length_drop]; omega)] at hr3
  have e := splice_two S.im la lb (k * 512) cut 512 hcut hla hlb (by omega)
  rw [e] at hr3
  have hk23 : Keeps (fun b => b = gi) w w3 := hk2.trans (b := w2) (G := fun b => b = gi) ⟨hk3.os, hk3.tape, hk3.output, hk3.size, hk3.block⟩ (fun j hj => .inl hj)
  exact ⟨w3, hrun3, h.imaged hr3 (by rw [splice_len _ _ _ (by rw [List.length_append, List.length_take, List.length_drop]; omega)]; exact hlen) hk23, hk23.mono (fun b hb => hb ▸ h.fgi)⟩

set_option maxHeartbeats 4000000 in
set_option maxRecDepth 100000 in
theorem tear_ok {w : World} {F : Nat → Prop} {p s : Nat} {S : DS} {gi ci m : Nat} {D : DataW Value} {gr cr : Nat → Nat} (h : DiskRaw w F p s S gi ci m D gr cr) (k : Nat) (hk : k < s) (hbig : S.puts.length + 1 ≤ 5000000000000)
    (A B C : Int) (A' B' C' : Nat) (hA : max A 0 = (A' : Int)) (hB : max B 0 = (B' : Int)) (hC : max C 0 = (C' : Int)) (hAb : A ≤ 9223372036854775807) (hBb : B ≤ 9223372036854775807) (hCb : C ≤ 9223372036854775807) :
    Calls Try.prog 64 #[.pointer (some ⟨p, 0, none⟩), .int .i64 (k : Int), .agg #[.int .i64 A, .int .i64 B, .int .i64 C]] w fun e w' => e = .returned (.tuple #[]) ∧ DiskRaw w' F p s { S with im := splice S.im (k * 512) (tornOf S k A' B' C') } gi ci m D gr cr ∧ Keeps F w w' := by
  have hmA := run_max A A' hA
  have hmB := run_max B B' hB
  have hmC := run_max C C' hC
  have hA2 : (A' : Int) ≤ 9223372036854775807 := by omega
  have hB2 : (B' : Int) ≤ 9223372036854775807 := by omega
  have hC2 : (C' : Int) ≤ 9223372036854775807 := by omega
  have hpn := pendOf_len S.puts k
  have hd : DiskRaw (w.alloc (.cells #[.int .i64 A, .int .i64 B, .int .i64 C] 50)) F p s S gi ci m D gr cr := h.agree (by simp) (fun j hj => Below.heap_alloc _ _ _ (h.lt j hj))
  have hkb : Keeps F w (w.alloc (.cells #[.int .i64 A, .int .i64 B, .int .i64 C] 50)) := Keeps.alloc _ _ _
  obtain ⟨a, cc, xs, hlook, _⟩ := hd.sector hk
  have c1 := cell_of_block hd.blk (j := 1) rfl
  have hl1 := hlook _ rfl
  have hs := h.ok.hi
  have hle := hd.img.le
  have hdu := durable_low p gi (s * 512) ci s k k _ (cell_of_block hd.blk (j := 0) rfl) rfl hk rfl hs (by simp [bs, hd.ok.len] at hle; omega)
  have hm1 : ∀ j : Nat, (j : Int) % (((pendOf S.puts k).length : Int) + 1) = ((j % ((pendOf S.puts k).length + 1) : Nat) : Int) := fun j => by push_cast; rfl
  have hm2 : ∀ j : Nat, j % ((pendOf S.puts k).length + 1) ≤ (pendOf S.puts k).length := fun j => Nat.le_of_lt_succ (Nat.mod_lt _ (by omega))
  have hcA := cand_int hd k hk (A' % ((pendOf S.puts k).length + 1)) _ (hm1 A') (hm2 A') (by omega)
  have hcB := cand_int hd k hk (B' % ((pendOf S.puts k).length + 1)) _ (hm1 B') (hm2 B') (by omega)
  have hCm : (C' : Int) % 513 = ((C' % 513 : Nat) : Int) := by push_cast; rfl
  obtain ⟨cut, hcut⟩ : ∃ cut, cut = C' % 513 := ⟨_, rfl⟩
  rw [← hcut] at hCm
  have hcut2 : cut ≤ 512 := by omega
  have Hd := Hid.mk hd
  have Hcut := Hid.mk hcut
  clear h hA hB hC hd hlook hAb hBb hCb hm1 hm2 hle hcut
  go_enter Try.func64, Try.ntmps64
  go_wp2_with fail
  refine hcA.mono ?_
  rintro e w2 ⟨ga, oa, ca, rfl, hFa, hca, hga, hsa, hw⟩
  have hw' := hw.symm; subst hw'
  clear hcA hw
  have Hsa := Hid.mk hsa
  have Hga := Hid.mk hga
  clear hsa hga
  go_wp2_with fail
  refine hcB.mono ?_
  rintro e w3 ⟨gb, ob, cb, rfl, hFb, hcb, hgb, hsb, hw⟩
  have hw' := hw.symm; subst hw'
  clear hcB hw
  have Hsb := Hid.mk hsb
  have Hgb := Hid.mk hgb
  clear hsb hgb
  go_wp2_with fail
  refine hdu.mono ?_
  rintro e w4 ⟨rfl, hw⟩
  have hw' := hw.symm; subst hw'
  clear hdu hw
  have hdd : DiskRaw (w.alloc (.cells #[.int .i64 A, .int .i64 B, .int .i64 C] 50)).drew F p s S gi ci m D gr cr := Hd.out.agree (Nat.le_refl _) (fun _ _ => rfl)
  obtain ⟨w5, hrun1, _, hrest⟩ := tear_run (ca := ca) hdd hk hcut2 Hsa.out Hsb.out Hgb.out
  have Hrest := Hid.mk hrest
  have hc0 : (0 : Int) ≤ (cut : Int) := by omega
  have hc1 : (cut : Int) ≤ 512 := by omega
  have hc2 : (cut : Int) ≤ (ca : Int) := by omega
  have hc3 : (cut : Int) ≤ (cb : Int) := by omega
  clear hdd hrest
  go_wp2_with fail
  go_region_held3 (fun _ => True) (trivial) (fail)
  go_wp2_with fail
  have hfin : ∀ w6, DiskRaw w6 F p s { S with im := splice S.im (k * 512) (List.take cut (S.cand k (A' % ((pendOf S.puts k).length + 1))) ++ List.drop cut (S.cand k (B' % ((pendOf S.puts k).length + 1)))) } gi ci m D gr cr →
      Keeps F (w.alloc (.cells #[.int .i64 A, .int .i64 B, .int .i64 C] 50)).drew w6 → DiskRaw w6 F p s { S with im := splice S.im (k * 512) (tornOf S k A' B' C') } gi ci m D gr cr ∧ Keeps F w w6 := fun w6 h1 h2 => by
    refine ⟨?_, hkb.trans (b := w.alloc (.cells #[.int .i64 A, .int .i64 B, .int .i64 C] 50)) (G := F) ⟨h2.os, h2.tape, h2.output, h2.size, h2.block⟩ (fun j hj => .inl hj)⟩
    unfold tornOf
    rw [← Hcut.out]
    exact h1
  have Hfin := Hid.mk hfin
  clear hfin hkb hrun1 hmA hmB hmC hl1 c1 Hd Hsa Hsb Hga Hgb Hcut hCm
  rcases (show cut = 0 ∨ (0 < cut ∧ cut < 512) ∨ cut = 512 by omega) with h5 | h5 | h5
  · subst h5
    obtain ⟨w6, hr6, hd6, hk6⟩ := Hrest.out (some ⟨gi, k * 512, none⟩) (some ⟨gb, ob, none⟩) 512 cb (fun _ => ⟨rfl, rfl⟩)
    simp only [Nat.sub_zero] at hr6
    have hq := Hfin.out w6 hd6 hk6
    clear hd6 hk6 Hrest Hfin
    go_region_held3 (fun _ => True) (trivial) (fail)
    all_goals
      go_end0
      exact ⟨rfl, hq⟩
  · obtain ⟨w6, hr6, hd6, hk6⟩ := Hrest.out (some ⟨gi, k * 512 + cut, none⟩) (some ⟨gb, ob + cut, none⟩) (512 - cut) (cb - cut) (fun _ => ⟨rfl, rfl⟩)
    have hq := Hfin.out w6 hd6 hk6
    have z1 : ¬ 512 = cut := by omega
    have z2 : ¬ cb = cut := by omega
    have z3 : ¬ cut = 0 := by omega
    clear hd6 hk6 Hrest Hfin
    go_region_held3 (fun _ => True) (trivial) (fail)
    all_goals
      go_end0
      exact ⟨rfl, hq⟩
  · subst h5
    by_cases z : cb = 512
    · subst z
      obtain ⟨w6, hr6, hd6, hk6⟩ := Hrest.out (some ⟨gi, k * 512, none⟩) (some ⟨gb, ob, none⟩) 0 0 (fun h => by omega)
      simp only [Nat.sub_self] at hr6
      have hq := Hfin.out w6 hd6 hk6
      clear hd6 hk6 Hrest Hfin
      go_region_held3 (fun _ => True) (trivial) (fail)
      all_goals
        go_end0
        exact ⟨rfl, hq⟩
    · obtain ⟨w6, hr6, hd6, hk6⟩ := Hrest.out (some ⟨gi, k * 512, none⟩) (some ⟨gb, ob + 512, none⟩) 0 (cb - 512) (fun h => by omega)
      simp only [Nat.sub_self] at hr6
      have hq := Hfin.out w6 hd6 hk6
      clear hd6 hk6 Hrest Hfin
      go_region_held3 (fun _ => True) (trivial) (fail)
      all_goals
        go_end0
        exact ⟨rfl, hq⟩
end Go.Proofs.Ytnolpafdkaloeaa
end

section
namespace Go.Proofs.Ytnolpafdkaloeaa
open Go.RowKit Go.Maps

/-- Numbers as cells. -/
abbrev is_ (l : List Nat) : List Value := l.map (fun k : Nat => Value.int .i64 (k : Int))

/-- The sectors with pending writes, in rising order. -/
def keysOf (S : DS) (s : Nat) : List Nat := (List.range s).filter (fun k => !(pendOf S.puts k).isEmpty)

theorem mem_keysOf {S : DS} {s k : Nat} : k ∈ keysOf S s ↔ k < s ∧ pendOf S.puts k ≠ [] := by
  simp [keysOf, List.mem_filter]

theorem is_eq (l : List Nat) : (l.map (fun k : Nat => (k : Int))).map (Value.int .i64) = is_ l := by rw [List.map_map]; rfl

/-- What slices.Sort does to a row of numbers. -/
def SortSaid : Prop := ∀ (g cap : Nat) (zs : List Int) (w : World), RowAt w 3 g cap (zs.map (Value.int .i64)) → zs.length < 4611686018427387904 →
  Calls Try.prog 94 #[.slice (some ⟨g, 0, none⟩) zs.length cap] w fun e w' => e = .returned (.tuple #[]) ∧ RowAt w' 3 g cap ((zs.mergeSort fun x y => decide (x ≤ y)).map (Value.int .i64)) ∧ Keeps (fun k => k = g) w w'

/-- .. and to none. -/
def SortNil : Prop := ∀ (w : World), Calls Try.prog 94 #[.slice none 0 0] w fun e w' => e = .returned (.tuple #[]) ∧ Below w.heap.size w w'

theorem sorted_keys {S : DS} {s : Nat} (hok : S.Ok s) {ks : List Nat} (hn : ks.Nodup) (hm : ∀ k, k ∈ ks ↔ pendOf S.puts k ≠ []) :
    ((ks.map (fun k : Nat => (k : Int))).mergeSort fun x y => decide (x ≤ y)) = (keysOf S s).map (fun k : Nat => (k : Int)) := by
  have hlt : ∀ k, pendOf S.puts k ≠ [] → k < s := fun k hp => by
    obtain ⟨l, hl⟩ := List.exists_mem_of_ne_nil _ hp
    unfold pendOf at hl
    obtain ⟨q, hq, _⟩ := List.mem_map.1 hl
    obtain ⟨hq1, hq2⟩ := List.mem_filter.1 hq
    have := (hok.puts q hq1).1
    simp at hq2
    omega
  have hn2 : (keysOf S s).Nodup := List.Pairwise.filter _ List.nodup_range
  have hperm : ks.Perm (keysOf S s) := (List.perm_ext_iff_of_nodup hn hn2).2 (fun k => by
    rw [hm, mem_keysOf]
    exact ⟨fun h => ⟨hlt k h, h⟩, fun h => h.2⟩)
  have hs2 : ((keysOf S s).map (fun k : Nat => (k : Int))).Pairwise (fun x y => decide (x ≤ y) = true) := by
    refine List.pairwise_map.2 ?_
    have : (keysOf S s).Pairwise (fun x y => x < y) := List.Pairwise.filter _ List.pairwise_lt_range
    exact this.imp (fun h => by simp; omega)
  have tr : ∀ a b c : Int, decide (a ≤ b) = true → decide (b ≤ c) = true → decide (a ≤ c) = true := fun a b c h1 h2 => by simp only [decide_eq_true_eq] at *; omega
  have to : ∀ a b : Int, (decide (a ≤ b) || decide (b ≤ a)) = true := fun a b => by simp only [Bool.or_eq_true, decide_eq_true_eq]; omega
  refine List.Perm.eq_of_pairwise (le := fun a b => decide (a ≤ b) = true) (fun a b _ _ h1 h2 => ?_) (List.pairwise_mergeSort tr to _) hs2 ((List.mergeSort_perm _ _).trans (hperm.map _))
  simp only [decide_eq_true_eq] at h1 h2
  omega

set_option maxHeartbeats 4000000 in
theorem unfl_ok (sorts : SortSaid) (sortn : SortNil) {w : World} {F : Nat → Prop} {p s : Nat} {S : DS} {gi ci m : Nat} {D : DataW Value} {gr cr : Nat → Nat} (h : DiskRaw w F p s S gi ci m D gr cr) (hbig : S.puts.length + 1 ≤ 5000000000000) :
    Calls Try.prog 63 #[.pointer (some ⟨p, 0, none⟩)] w fun e w' => ∃ a c, e = .returned (.slice a (keysOf S s).length c) ∧ (keysOf S s ≠ [] → ∃ g, a = some ⟨g, 0, none⟩ ∧ w.heap.size ≤ g ∧ RowAt w' 3 g c (is_ (keysOf S s))) ∧ Below w.heap.size w w' := by
  obtain ⟨i0, hi0, hz0, hz1, hz2⟩ := info_parts infoInt
  have c1 := cell_of_block h.blk (j := 1) rfl
  have hml := h.lt m h.fm
  have H := Hid.mk h
  clear h
  go_enter Try.func63, Try.ntmps63
  go_wp2_with (at_range; refine wpList_range_own _ rfl _ 101 rfl 3 28 keyInt Try.underlying101 Rs m S.puts.length D rfl H.out.map ?_; intro w0 hrg0 hg0 hs0; go_frame)
  have hb0 : Below w.heap.size w w0 := (Below.refl _ w).grown hg0 (Nat.le_refl _) (fun j hj => by cases hj)
  have hsz0 : Maps.size D ≤ S.puts.length := H.out.map.size_le
  clear hg0
  go_loopw [3, 4] (fun v _ wr => ∃ (left : Lit → Bool) (cnt : Nat) (ks : List Nat), wr.ranges Try.prog 3 Rs m w.heap.size S.puts.length D left cnt ∧ wr.ownsRow (w.heap.size + 1) 3 1 v ks.length (is_ ks) ∧
      ks.Nodup ∧ (∀ k, k ∈ ks ↔ pendOf S.puts k ≠ [] ∧ left (kk k) = false) ∧ Below w.heap.size w wr ∧ ks.length + cnt ≤ S.puts.length ∧ w.heap.size + 1 ≤ wr.heap.size)
    (fun _ _ wr => wr.rangeLeft m w.heap.size)
  case atStart => 
    refine ⟨_, _, [], hrg0, World.ownsRow_nil _ _ _ _, List.nodup_nil, fun k => ?_, hb0, by simpa using hsz0, by omega⟩
    constructor
    · intro hk; cases hk
    · rintro ⟨hp, hl⟩; rw [H.out.pend.has hp] at hl; cases hl
  case round =>
    clear hrg0 hb0 hs0 hsz0
    obtain ⟨left, cnt, ks, hrg, hrow, hnd, hmem, hb, hcs, hsz⟩ := hrel
    go_wp2_with (at_next; refine wpList_next_ranges _ rfl _ rfl 3 keyInt Rs (Value.int .i64) mkS (fun key kl hkey => by obtain ⟨x, rfl, _⟩ := Maps.keyOf_int_inv Try.underlying3 hkey; exact ⟨x, rfl⟩) Rs_inv m w.heap.size S.puts.length _ _ _ rfl hrg ?_ ?_)
    · intro _ hl0
      have hmem' : ∀ k, k ∈ ks ↔ pendOf S.puts k ≠ [] := fun k => by rw [hmem, hl0]; simp
      have hsk := sorted_keys H.out.ok hnd hmem'
      have hlen : ks.length = (keysOf S s).length := by
        have := congrArg List.length hsk
        rw [List.length_mergeSort] at this
        simpa using this
      have hnil2 : ks = [] → keysOf S s = [] := fun e => by rw [e] at hlen; exact List.eq_nil_of_length_eq_zero hlen.symm
      rcases hrow.2 with ⟨rfl, hz⟩ | ⟨g, cap, cur, rfl, hg, hbk, h1, h2, h3, h4⟩
      · have hks : keysOf S s = [] := hnil2 (List.eq_nil_of_length_eq_zero hz)
        have hsn := sortn wr
        clear hrow hmem hmem' hsk hrg H sorts sortn
        go_wp2_with (go_at_call 94; refine hsn.mono ?_; rintro e w9 ⟨rfl, hb9⟩)
        go_ret
        exact ⟨none, 0, by simp [hks], fun h => absurd hks h, hb.trans (hb9.mono hb.size)⟩
      · have hr9 : RowAt wr 3 g cap ((ks.map (fun k : Nat => (k : Int))).map (Value.int .i64)) := by
          rw [is_eq]
          refine ⟨cur, hbk, by simpa using h3, ?_, h2⟩
          simp only [Nat.mul_one] at h4
          rw [show (is_ ks).length = ks.length by simp [is_]]
          exact h4
        have hso := sorts g cap _ wr hr9 (by simp; omega)
        simp only [List.length_map] at hso
        rw [hsk] at hso
        have Hlen := Hid.mk hlen
        clear hrow hmem hmem' hsk hrg H sorts sortn hr9 hlen h4
        go_wp2_with (go_at_call 94; refine hso.mono ?_; rintro e w9 ⟨rfl, hr10, hk9⟩)
        go_ret
        refine ⟨some ⟨g, 0, none⟩, cap, ?_, fun _ => ⟨g, rfl, by omega, ?_⟩, hb.trans (hk9.below (fun j hj => by omega) hb.size)⟩
        · rw [← Hlen.out]; rfl
        · rw [← is_eq]; exact hr10
    · intro x ca cn cc kl yd yp w2 cnt2 hkey hlk hv hat hrg2 hlt hg2 hs2 hen
      obtain ⟨k, rfl, rfl, hp, hc⟩ := H.out.pend.met hkey hv hat
      have hnk : k ∉ ks := fun hk => by rw [((hmem k).1 hk).2] at hlk; cases hlk
      have hrow2 := hrow.kept hg2 (.inr (fun e => by have := hrow.lt _ e; omega))
      have hb2 : Below w.heap.size w w2 := hb.grown hg2 hb.size (fun j hj => by cases hj; exact Nat.le_refl _)
      have hsz2 : w.heap.size + 1 ≤ w2.heap.size := by omega
      have hmem2 : ∀ j, j ∈ ks ++ [k] ↔ pendOf S.puts j ≠ [] ∧ (left (kk j) && !(kk j).sameKey (kk k)) = false := fun j => by
        rw [List.mem_append, List.mem_singleton, hmem, same_kk]
        by_cases e : j = k
        · subst e; simp [hp]
        · simp [e]
      have hlen : ks.length + 1 ≤ 5000000000000 := by omega
      have Hmem2 := Hid.mk hmem2
      have Hrow2 := Hid.mk hrow2
      clear hkey hv hat hs2 hg2 hc hmem hmem2 hrow2
      go_wp2_with (at_builtin; refine wpList_append_own _ rfl _ _ 109 rfl (w.heap.size + 1) 3 i0 (.int .i64 0) 1 8 Try.underlying109 hi0 hz0 hz1 hz2 rfl (by decide) _ _ _ rfl (Hrow2.out.alloc _) ⟨w2.heap.size, 0, none⟩ 1 1 [.int .i64 (k : Int)] rfl rfl (cell_one_new _ _ _) (ints_oneCell .i64 [(k : Int)]) (by unfold maxLen; omega) (by omega) (by simp; omega) ?_)
      intro v' w3 hown' hgrow hnil
      have hgr2 : ∀ j, u3.ownBlock = some j → w.heap.size + 1 ≤ j := fun j e => (hrow.lt j e).1
      have hrg3 := (hrg2.alloc (.cells #[.int .i64 (k : Int)] 3)).kept hgrow (fun e => by have := hgr2 m e.symm; omega) (fun e => by have := hgr2 _ e.symm; omega)
      have hb3 : Below w.heap.size w w3 := (hb2.alloc (by omega) _).grown hgrow (by simp; omega) (fun j e => by have := hgr2 j e; omega)
      have hsz3 : w.heap.size + 1 ≤ w3.heap.size := by have := hgrow.size; simp at this; omega
      have hnd2 : (ks ++ [k]).Nodup := List.nodup_append.2 ⟨hnd, by simp, by intro a ha b hb' e; simp at hb'; subst hb'; exact hnk (e ▸ ha)⟩
      have hown2 : w3.ownsRow (w.heap.size + 1) 3 1 v' (ks ++ [k]).length (is_ (ks ++ [k])) := by simpa [is_] using hown'
      have Hown2 := Hid.mk hown2
      have Hrg3 := Hid.mk hrg3
      clear hown' hgrow hnil hown2 hrg3 hrow Hrow2 hrg2 hen
      go_wp2
      go_roundw
      case rel => exact ⟨_, cnt2, ks ++ [k], Hrg3.out, Hown2.out, hnd2, Hmem2.out, hb3, by simp; omega, hsz3⟩
      case measure => rw [Hrg3.out.left_eq, hrg.left_eq]; exact hlt
end Go.Proofs.Ytnolpafdkaloeaa
end

section
namespace Go.Proofs.Ytnolpafdkaloeaa
open Go.RowKit Go.Maps

abbrev P3 := Int × Int × Int

/-- What is told of a list of picks. -/
def PSrc (w : World) (a : Option Addr) (n : Nat) (l : List P3) : Prop :=
  l.length = n ∧ (a = none → n = 0) ∧ (∀ x, a = some x → ∀ i (hi : i < l.length), ∃ b o, x = ⟨b, o, none⟩ ∧ w.cell? ⟨b, o + i * 3, none⟩ = some (.int .i64 l[i].1) ∧ w.cell? ⟨b, o + i * 3 + 1, none⟩ = some (.int .i64 l[i].2.1) ∧ w.cell? ⟨b, o + i * 3 + 2, none⟩ = some (.int .i64 l[i].2.2)) ∧
    ∀ q ∈ l, q.1 ≤ 9223372036854775807 ∧ q.2.1 ≤ 9223372036854775807 ∧ q.2.2 ≤ 9223372036854775807

/-- The pick that the i-th sector takes. -/
def pickN (l : List P3) (i : Nat) : P3 := if h : 0 < l.length then l[i % l.length]'(Nat.mod_lt _ h) else (0, 0, 0)

def tornBy (S : DS) (k : Nat) (q : P3) : List Int := tornOf S k (max q.1 0).toNat (max q.2.1 0).toNat (max q.2.2 0).toNat

/-- What a sector holds behind the cut. -/
def cutOf (S : DS) (l : List P3) (k : Nat) : List Int := if pendOf S.puts k = [] then sec S.im k else tornBy S k (pickN l (keysOf S k).length)

def DS.crash (S : DS) (s : Nat) (l : List P3) : DS := { S with im := imOf s (cutOf S l), puts := [], fuse := -1, life := wrap64 (S.life + 1) }

theorem keysOf_succ (S : DS) (s : Nat) : keysOf S (s + 1) = keysOf S s ++ (if pendOf S.puts s = [] then [] else [s]) := by
  unfold keysOf
  rw [List.range_succ, List.filter_append]
  congr 1
  by_cases h : pendOf S.puts s = [] <;> simp [h]

theorem keysOf_idx (S : DS) : ∀ (s j k : Nat), (keysOf S s)[j]? = some k → (keysOf S k).length = j
  | 0, j, k, h => by simp [keysOf] at h
  | s + 1, j, k, h => by
    rw [keysOf_succ] at h
    by_cases hj : j < (keysOf S s).length
    · rw [List.getElem?_append_left hj] at h
      exact keysOf_idx S s j k h
    · rw [List.getElem?_append_right (by omega)] at h
      split at h
      · simp at h
      · have hj0 : j - (keysOf S s).length = 0 := by
          have := (List.getElem?_eq_some_iff.1 h).1
          simp at this
          omega
        rw [hj0] at h
        simp at h
        subst h
        omega

theorem torn_len {S : DS} {s : Nat} (h : S.Ok s) {k : Nat} (hk : k < s) (A B C : Nat) : (tornOf S k A B C).length = 512 := by
  have h1 := DS.cand_len h hk (j := A % ((pendOf S.puts k).length + 1)) (Nat.le_of_lt_succ (Nat.mod_lt _ (by omega)))
  have h2 := DS.cand_len h hk (j := B % ((pendOf S.puts k).length + 1)) (Nat.le_of_lt_succ (Nat.mod_lt _ (by omega)))
  unfold tornOf
  rw [List.length_append, List.length_take, List.length_drop, h1, h2]
  omega

theorem cut_len {S : DS} {s : Nat} (h : S.Ok s) (l : List P3) : ∀ k, k < s → (cutOf S l k).length = 512 := fun k hk => by
  unfold cutOf
  split
  · exact sec_len h.len hk
  · exact torn_len h hk _ _ _

/-- A sector that has not been torn yet. -/
theorem torn_im (S : DS) (im : List Int) (k A B C : Nat) (h : sec im k = sec S.im k) : tornOf { S with im := im } k A B C = tornOf S k A B C := by
  have e : ∀ j, DS.cand { S with im := im } k j = S.cand k j := fun j => by
    unfold DS.cand
    split
    · exact h
    · rfl
  unfold tornOf
  rw [e, e]

theorem mem_take_succ {ks : List Nat} {j k0 : Nat} (h : ks[j]? = some k0) (k : Nat) : k ∈ ks.take (j + 1) ↔ k ∈ ks.take j ∨ k = k0 := by
  rw [List.take_add_one, h]
  simp

theorem not_mem_take {ks : List Nat} (hn : ks.Nodup) {j k0 : Nat} (h : ks[j]? = some k0) : k0 ∉ ks.take j := by
  obtain ⟨hj, e⟩ := List.getElem?_eq_some_iff.1 h
  intro hm
  obtain ⟨i, hi, e2⟩ := List.mem_iff_getElem.1 hm
  rw [List.getElem_take] at e2
  have := List.getElem_inj (h₀ := by simp at hi; omega) (h₁ := hj) hn |>.1 (e2.trans e.symm)
  simp at hi
  omega

/-- One round of a power cut. -/
theorem crash_step {S : DS} {s : Nat} (hok : S.Ok s) (l : List P3) {im : List Int} {j k : Nat} (him : im.length = s * 512) (hk : (keysOf S s)[j]? = some k)
    (hs : ∀ i, i < s → sec im i = if i ∈ (keysOf S s).take j then cutOf S l i else sec S.im i) :
    k < s ∧ pendOf S.puts k ≠ [] ∧ tornBy { S with im := im } k (pickN l j) = cutOf S l k ∧ ∀ i, i < s → sec (splice im (k * 512) (cutOf S l k)) i = if i ∈ (keysOf S s).take (j + 1) then cutOf S l i else sec S.im i := by
  obtain ⟨hks, hp⟩ := mem_keysOf.1 (List.mem_of_getElem? hk)
  have hnd : (keysOf S s).Nodup := List.Pairwise.filter _ List.nodup_range
  have hni := not_mem_take hnd hk
  have hsk := hs k hks
  rw [if_neg hni] at hsk
  have e : tornBy { S with im := im } k (pickN l j) = cutOf S l k := by
    unfold tornBy cutOf
    rw [if_neg hp, keysOf_idx S s j k hk, torn_im S im k _ _ _ hsk]
    rfl
  refine ⟨hks, hp, e, fun i hi => ?_⟩
  rw [sec_splice him (cut_len hok l k hks) hks]
  by_cases ei : i = k
  · subst ei
    rw [if_pos rfl, if_pos ((mem_take_succ hk i).2 (.inr rfl))]
  · rw [if_neg ei, hs i hi]
    by_cases hm : i ∈ (keysOf S s).take j
    · rw [if_pos hm, if_pos ((mem_take_succ hk i).2 (.inl hm))]
    · rw [if_neg hm, if_neg (fun h => by rcases (mem_take_succ hk i).1 h with h | h; exact hm h; exact ei h)]

theorem crash_all {S : DS} {s : Nat} (hok : S.Ok s) (l : List P3) {im : List Int} (him : im.length = s * 512) (hs : ∀ i, i < s → sec im i = if i ∈ (keysOf S s).take (keysOf S s).length then cutOf S l i else sec S.im i) : im = imOf s (cutOf S l) := by
  refine im_ext s him (imOf_len s _ (cut_len hok l)) (fun k hk => ?_)
  rw [hs k hk, sec_imOf s _ (cut_len hok l) k hk, List.take_length]
  by_cases hp : pendOf S.puts k = []
  · rw [if_neg (fun h => (mem_keysOf.1 h).2 hp)]
    simp [cutOf, hp]
  · rw [if_pos (mem_keysOf.2 ⟨hk, hp⟩)]

theorem PSrc.keeps {w w' : World} {a : Option Addr} {n : Nat} {l : List P3} {F : Nat → Prop} (h : PSrc w a n l) (hk : Keeps F w w') (hF : ∀ x, a = some x → ¬ F x.block) : PSrc w' a n l := by
  refine ⟨h.1, h.2.1, fun x hx i hi => ?_, h.2.2.2⟩
  obtain ⟨b, o, rfl, h1, h2, h3⟩ := h.2.2.1 x hx i hi
  have hb := World.block_lt_of_cell? _ _ h1
  have e := hk.block b hb (hF _ hx)
  exact ⟨b, o, rfl, (World.cell?_of_block (w := w) (a := ⟨b, _, none⟩) e).trans h1, (World.cell?_of_block (w := w) (a := ⟨b, _, none⟩) e).trans h2, (World.cell?_of_block (w := w) (a := ⟨b, _, none⟩) e).trans h3⟩

theorem crash_end {w wr w3 : World} {F : Nat → Prop} {p s : Nat} {S : DS} {gi ci m : Nat} {D : DataW Value} {gr cr : Nat → Nat} {im : List Int} {l : List P3} (h : DiskRaw w F p s S gi ci m D gr cr) (hd : DiskRaw wr F p s { S with im := im } gi ci m D gr cr)
    (he : im = imOf s (cutOf S l)) (hk : Keeps F w wr) (hm3 : w3.ownsMap Try.prog 3 Rs m 0 (.map [])) (hk3 : Keeps (fun k => k = m) wr w3) :
    w3.cell? ⟨p, 2, none⟩ = some (.int .i64 S.fuse) ∧ w3.frozen? ⟨p, 2, none⟩ = false ∧ w3.cell? ⟨p, 3, none⟩ = some (.int .i64 S.life) ∧ w3.frozen? ⟨p, 3, none⟩ = false ∧
    DiskAt ((w3.setCell ⟨p, 2, none⟩ (.int .i64 (-1))).setCell ⟨p, 3, none⟩ (.int .i64 (wrap64 (S.life + 1)))) F p s (S.crash s l) ∧ Keeps F w ((w3.setCell ⟨p, 2, none⟩ (.int .i64 (-1))).setCell ⟨p, 3, none⟩ (.int .i64 (wrap64 (S.life + 1)))) := by
  subst he
  have hd3 := hd.cleared hm3 hk3
  have hd4 : DiskRaw (w3.setCell ⟨p, 2, none⟩ (.int .i64 (-1))) F p s { S with im := imOf s (cutOf S l), puts := [], fuse := -1 } gi ci m (.map []) gr cr :=
    hd3.turn (hd3.set 2 _).2 ((hd3.set 2 _).1.trans (by simp [dkCells])) rfl rfl (by simp)
  have hd5 : DiskRaw ((w3.setCell ⟨p, 2, none⟩ (.int .i64 (-1))).setCell ⟨p, 3, none⟩ (.int .i64 (wrap64 (S.life + 1)))) F p s (S.crash s l) gi ci m (.map []) gr cr :=
    hd4.turn (hd4.set 3 _).2 ((hd4.set 3 _).1.trans (by simp [dkCells, DS.crash])) rfl rfl (by simp [DS.crash])
  refine ⟨cell_of_block hd3.blk (j := 2) rfl, frozen_of_block hd3.blk 2, cell_of_block hd3.blk (j := 3) rfl, frozen_of_block hd3.blk 3, ⟨gi, ci, m, _, gr, cr, hd5⟩, ?_⟩
  exact ((hk.trans hk3 (fun j hj => .inl (hj ▸ h.fm))).trans (Keeps.setCell (F := fun k => k = p) w3 (p := ⟨p, 2, none⟩) rfl _) (fun j hj => .inl (hj ▸ h.fp))).trans (Keeps.setCell (F := fun k => k = p) _ (p := ⟨p, 3, none⟩) rfl _) (fun j hj => .inl (hj ▸ h.fp))

/-- The round's tear, whichever pick it is. -/
theorem crash_tear {wr wx : World} {F : Nat → Prop} {p s : Nat} {S : DS} {gi ci m : Nat} {D : DataW Value} {gr cr : Nat → Nat} {im : List Int} {l : List P3} (hbig : S.puts.length + 1 ≤ 5000000000000) (hd : DiskRaw wr F p s { S with im := im } gi ci m D gr cr)
    (hb : Below wr.heap.size wr wx) {j k : Nat} (hks : k < s) (hto : tornBy { S with im := im } k (pickN l j) = cutOf S l k) (A B C : Int) (hq : pickN l j = (A, B, C)) (hA : A ≤ 9223372036854775807) (hB : B ≤ 9223372036854775807) (hC : C ≤ 9223372036854775807) :
    Calls Try.prog 64 #[.pointer (some ⟨p, 0, none⟩), .int .i64 (k : Int), .agg #[.int .i64 A, .int .i64 B, .int .i64 C]] wx fun e w' => e = .returned (.tuple #[]) ∧ DiskRaw w' F p s { S with im := splice im (k * 512) (cutOf S l k) } gi ci m D gr cr ∧ Keeps F wr w' := by
  have hd2 : DiskRaw wx F p s { S with im := im } gi ci m D gr cr := hd.agree hb.size (fun i hi => hb.block i (hd.lt i hi))
  refine (tear_ok hd2 k hks hbig A B C (max A 0).toNat (max B 0).toNat (max C 0).toNat (by omega) (by omega) (by omega) hA hB hC).mono ?_
  rintro e w' ⟨rfl, h1, h2⟩
  refine ⟨rfl, ?_, (Keeps.of_below F hb).trans h2 (fun i hi => .inl hi)⟩
  rw [← hto, hq]
  exact h1

set_option maxHeartbeats 4000000 in
set_option maxRecDepth 100000 in
theorem crash_ok (sorts : SortSaid) (sortn : SortNil) {w : World} {F : Nat → Prop} {p s : Nat} {S : DS} (hd : DiskAt w F p s S) (hbig : S.puts.length + 1 ≤ 5000000000000) (a : Option Addr) (n c : Nat) (l : List P3) (hps : PSrc w a n l) (hn : n ≤ 140737488355328) (hF : ∀ x, a = some x → ¬ F x.block) :
    Calls Try.prog 16 #[.pointer (some ⟨p, 0, none⟩), .slice a n c] w fun e w' => e = .returned (.tuple #[]) ∧ DiskAt w' F p s (S.crash s l) ∧ Keeps F w w' := by
  obtain ⟨gi, ci, m, D, gr, cr, h⟩ := hd
  have hun := unfl_ok sorts sortn h hbig
  have hkl : (keysOf S s).length ≤ 2048 := by
    have := List.length_filter_le (fun k => !(pendOf S.puts k).isEmpty) (List.range s)
    rw [List.length_range] at this
    exact Nat.le_trans this h.ok.hi
  have H := Hid.mk h
  have HP := Hid.mk hps
  clear h hps
  go_enter Try.func16, Try.ntmps16
  go_wp2_with (go_at_call 63; refine hun.mono ?_; rintro e w1 ⟨ak, ck, rfl, hrow, hb1⟩)
  have Hrow := Hid.mk hrow
  have hd1 : DiskRaw w1 F p s { S with im := S.im } gi ci m D gr cr := H.out.agree hb1.size (fun j hj => hb1.block j (H.out.lt j hj))
  have hk1 : Keeps F w w1 := Keeps.of_below F hb1
  clear hun hrow
  go_loopw [4, 5, 6, 10] (fun _ _ _ i wr => ∃ j : Nat, j ≤ (keysOf S s).length ∧ i = .int .i64 (j : Int) ∧ ∃ im, DiskRaw wr F p s { S with im := im } gi ci m D gr cr ∧ (∀ i, i < s → sec im i = if i ∈ (keysOf S s).take j then cutOf S l i else sec S.im i) ∧ Keeps F w wr ∧
      (keysOf S s ≠ [] → ∃ g, ak = some ⟨g, 0, none⟩ ∧ RowAt wr 3 g ck (is_ (keysOf S s)) ∧ w.heap.size ≤ g)) (fun _ _ _ i _ => (keysOf S s).length - (intOf i).toNat)
  case atStart => exact ⟨0, Nat.zero_le _, rfl, S.im, hd1, fun i _ => by simp, hk1, fun h => by obtain ⟨g, e, hg, hr⟩ := Hrow.out h; exact ⟨g, e, hr, hg⟩⟩
  case round =>
    clear hd1 hk1 Hrow
    obtain ⟨j, hj, rfl, im, hd, hse, hk, hrow⟩ := hrel
    have Hd := Hid.mk hd
    have Hse := Hid.mk hse
    clear hd hse
    by_cases hlt : j < (keysOf S s).length
    · have hlt' : (j : Int) < ((keysOf S s).length : Int) := by omega
      obtain ⟨g, rfl, hr, hg⟩ := hrow (by intro e; rw [e] at hlt; simp at hlt)
      obtain ⟨k0, hk0⟩ : ∃ k, (keysOf S s)[j]? = some k := ⟨_, List.getElem?_eq_getElem hlt⟩
      have hc0 : wr.cell? ⟨g, j, none⟩ = some (.int .i64 (k0 : Int)) := hr.cell (by simp [is_, hk0])
      obtain ⟨hks, hp, hto, hse2⟩ := crash_step H.out.ok l Hd.out.ok.len hk0 Hse.out
      have Hr := Hid.mk hr
      have Hse2 := Hid.mk hse2
      clear hr hse2
      by_cases hn0 : n = 0
      · subst hn0
        have hq : pickN l j = (0, 0, 0) := by simp [pickN, HP.out.1]
        have hte := fun o => crash_tear hbig Hd.out ((Below.refl wr.heap.size wr).alloc (Nat.le_refl _) o) hks hto 0 0 0 hq (by omega) (by omega) (by omega)
        go_wp2_with (go_at_call 64; refine (hte _).mono ?_; rintro e w5 ⟨rfl, hd5, hk5⟩)
        have hr5 : RowAt w5 3 g ck (is_ (keysOf S s)) := Hr.out.agree (hk5.block g Hr.out.lt (fun hf => by have := H.out.lt g hf; omega))
        have Hd5 := Hid.mk hd5
        have hk6 : Keeps F w w5 := hk.trans hk5 (fun i hi => .inl hi)
        clear hd5 hk5 hte hc0
        go_roundw
        case rel => exact ⟨j + 1, by omega, by go_num, _, Hd5.out, Hse2.out, hk6, fun _ => ⟨g, rfl, hr5, hg⟩⟩
        case measure => simp [intOf]; omega
      · obtain ⟨x, rfl⟩ : ∃ x, a = some x := by
          cases a with
          | none => exact absurd (HP.out.2.1 rfl) hn0
          | some x => exact ⟨x, rfl⟩
        have hll := HP.out.1
        have hlp : 0 < l.length := by omega
        obtain ⟨q, hq⟩ : ∃ q, q = j % n := ⟨_, rfl⟩
        have hqn : q < n := by rw [hq]; exact Nat.mod_lt _ (by omega)
        have hql : q < l.length := by omega
        have hPr := HP.out.keeps hk hF
        obtain ⟨b, o, rfl, p0, p1, p2⟩ := hPr.2.2.1 x rfl q hql
        have hpk : pickN l j = (l[q].1, l[q].2.1, l[q].2.2) := by
          have e1 : j % l.length = q := by rw [hll, hq]
          simp only [pickN, hlp, dif_pos, e1]
        obtain ⟨b1, b2, b3⟩ := hPr.2.2.2 l[q] (List.getElem_mem hql)
        have hte := fun wx hx => crash_tear (wx := wx) hbig Hd.out hx hks hto _ _ _ hpk b1 b2 b3
        have hmo : (j : Int) % (n : Int) = (q : Int) := by rw [hq]; push_cast; rfl
        have hn1 : (0 : Int) < (n : Int) := by omega
        have hq1 : (q : Int) < (n : Int) := by omega
        have hbw := World.block_lt_of_cell? _ _ p0
        have Hte := Hid.mk hte
        clear hte hpk hPr hq hto
        generalize l[q].1 = qa at *
        generalize l[q].2.1 = qb at *
        generalize l[q].2.2 = qc at *
        go_wp2_with fail
        refine (Hte.out _ ((Below.refl wr.heap.size wr).alloc (Nat.le_refl _) _)).mono ?_
        rintro e w5 ⟨rfl, hd5, hk5⟩
        have hr5 : RowAt w5 3 g ck (is_ (keysOf S s)) := Hr.out.agree (hk5.block g Hr.out.lt (fun hf => by have := H.out.lt g hf; omega))
        have Hd5 := Hid.mk hd5
        have hk6 : Keeps F w w5 := hk.trans hk5 (fun i hi => .inl hi)
        clear hd5 hk5 Hte hc0 p0 p1 p2
        go_wp2
        go_roundw
        case rel => exact ⟨j + 1, by omega, by go_num, _, Hd5.out, Hse2.out, hk6, fun _ => ⟨g, rfl, hr5, hg⟩⟩
        case measure => simp [intOf]; omega
    · have hlt' : ¬ (j : Int) < ((keysOf S s).length : Int) := by omega
      obtain ⟨w3, hrun3, hm3, hk3, _⟩ := clear_run Hd.out.map
      have c1 := cell_of_block Hd.out.blk (j := 1) rfl
      have ej : j = (keysOf S s).length := by omega
      rw [ej] at Hse
      have hall := crash_all H.out.ok l Hd.out.ok.len Hse.out
      clear ej
      obtain ⟨c2, f2, c3, f3, hd5, hk5⟩ := crash_end H.out Hd.out hall hk hm3 hk3
      have Hq := Hid.mk (And.intro hd5 hk5)
      clear hd5 hk5 hall hm3 hk3 Hd Hse H hk hrow
      go_wp2
      go_end0
      exact ⟨rfl, Hq.out⟩
end Go.Proofs.Ytnolpafdkaloeaa
end

section
namespace Go.Proofs.Ytnolpafdkaloeaa
open Go.RowKit Go.Maps

/-- A list of candidates in memory. -/
def VS (w : World) (F : Nat → Prop) (S : DS) (k : Nat) (vs : List Value) : Prop :=
  vs.length = (pendOf S.puts k).length + 1 ∧ ∀ j, j < vs.length → ∃ g c, vs[j]? = some (.slice (some ⟨g, 0, none⟩) 512 c) ∧ F g ∧ RowAt w 5 g c (bs (S.cand k j))

theorem take_puts {S : DS} {i : Nat} (hi : i < S.puts.length) : S.puts.take (i + 1) = S.puts.take i ++ [S.puts[i]] := by rw [List.take_add_one, List.getElem?_eq_getElem hi]; rfl

theorem VS.skip {w : World} {F : Nat → Prop} {S : DS} {k i : Nat} {vs : List Value} (hi : i < S.puts.length) (h : VS w F { S with puts := S.puts.take i } k vs) (he : S.puts[i].1 ≠ k) : VS w F { S with puts := S.puts.take (i + 1) } k vs := by
  have hp : pendOf (S.puts.take (i + 1)) k = pendOf (S.puts.take i) k := by rw [take_puts hi, pendOf_append, pendOf_none (puts := [S.puts[i]]) (by simpa using he), List.append_nil]
  unfold VS DS.cand at *
  simp only [hp] at *
  exact h

theorem VS.snoc {w : World} {F : Nat → Prop} {S : DS} {k i : Nat} {vs : List Value} (hi : i < S.puts.length) (h : VS w F { S with puts := S.puts.take i } k vs) (he : S.puts[i].1 = k) {g c : Nat} (hF : F g) (hr : RowAt w 5 g c (bs S.puts[i].2)) :
    VS w F { S with puts := S.puts.take (i + 1) } k (vs ++ [.slice (some ⟨g, 0, none⟩) 512 c]) := by
  have hp : pendOf (S.puts.take (i + 1)) k = pendOf (S.puts.take i) k ++ [S.puts[i].2] := by rw [take_puts hi, pendOf_append]; simp [pendOf, he]
  obtain ⟨h1, h2⟩ := h
  simp only at h1
  refine ⟨by simp only [hp]; simp [h1], fun j hj => ?_⟩
  by_cases hj' : j < vs.length
  · obtain ⟨g', c', e1, e2, e3⟩ := h2 j hj'
    refine ⟨g', c', by rw [List.getElem?_append_left hj']; exact e1, e2, ?_⟩
    have : DS.cand { S with puts := S.puts.take (i + 1) } k j = DS.cand { S with puts := S.puts.take i } k j := by
      unfold DS.cand
      split
      · rfl
      · simp only [hp]
        rw [List.getD, List.getD, List.getElem?_append_left (by omega)]
    rw [this]
    exact e3
  · have ej : j = vs.length := by simp at hj; omega
    subst ej
    refine ⟨g, c, by simp, hF, ?_⟩
    have : DS.cand { S with puts := S.puts.take (i + 1) } k vs.length = S.puts[i].2 := by
      unfold DS.cand
      rw [if_neg (by omega)]
      simp only [hp, h1, Nat.add_sub_cancel]
      simp [List.getD]
    rw [this]
    exact hr

theorem VS.start {w : World} {F : Nat → Prop} {S : DS} {k g c : Nat} (hF : F g) (hr : RowAt w 5 g c (bs (sec S.im k))) :
    VS w F { S with puts := S.puts.take 0 } k [.slice (some ⟨g, 0, none⟩) 512 c] := by
  refine ⟨by simp [pendOf], fun j hj => ?_⟩
  have : j = 0 := by simp at hj; omega
  subst this
  exact ⟨g, c, rfl, hF, hr⟩

set_option maxHeartbeats 2000000 in
theorem rcands_at {w : World} {F : Nat → Prop} {r s : Nat} {S : DS} {gl cl : Nat} {ls : List Value} {pv : Value} {xs : List Value} (h : RefRaw w F r s S gl cl ls pv xs) (k : Nat) (hk : k < s) (hbig : S.puts.length + 1 ≤ 4000000000000) :
    Calls Try.prog 76 #[.pointer (some ⟨r, 0, none⟩), .int .i64 (k : Int)] w fun e w' => ∃ g c vs, e = .returned (.slice (some ⟨g, 0, none⟩) ((pendOf S.puts k).length + 1) c) ∧ w.heap.size ≤ g ∧ RowAt w' 22 g c vs ∧ VS w F S k vs ∧ Below w.heap.size w w' := by
  obtain ⟨i0, hi0, hz0, hz1, hz2⟩ := info_parts infoRow
  obtain ⟨a, c, rfl, hpu⟩ := h.form
  have c0 := cell_of_block h.blk (j := 0) rfl
  have c1 := cell_of_block h.blk (j := 1) rfl
  obtain ⟨gs, cs, hls, hFs, hrs⟩ := h.secs k hk
  have cs0 := h.last.cell hls
  have hst := VS.start (S := S) hFs hrs
  have hrl := h.lt r h.fr
  have hgl := h.lt gl h.fl
  have Hpu := Hid.mk hpu
  have Hst := Hid.mk hst
  have hks : (k : Int) < (s : Int) := by omega
  clear h hpu hrs hls hst
  go_enter Try.func76, Try.ntmps76
  go_wp2
  go_loopw [5, 6] (fun v i wr => ∃ j : Nat, j ≤ S.puts.length ∧ i = .int .i64 (j : Int) ∧ ∃ vs, wr.ownsRow w.heap.size 22 1 v ((pendOf (S.puts.take j) k).length + 1) vs ∧ VS w F { S with puts := S.puts.take j } k vs ∧ Below w.heap.size w wr) (fun _ i _ => S.puts.length - (intOf i).toNat)
  case atStart =>
    refine ⟨0, Nat.zero_le _, rfl, _, ?_, Hst.out, (Below.refl _ w).alloc (Nat.le_refl _) _⟩
    exact ⟨by simp [pendOf], .inr ⟨w.heap.size, 1, #[.slice (some ⟨gs, 0, none⟩) 512 cs], by simp [pendOf], Nat.le_refl _, heap_alloc_new _ _, by simp [pendOf], by decide, by simp, by simp [pendOf]⟩⟩
  case round =>
    clear Hst cs0
    obtain ⟨j, hj, rfl, vs, hown, hvs, hb⟩ := hrel
    have d1 := cell_later hb c1
    by_cases hlt : j < S.puts.length
    · have hlt' : (j : Int) < (S.puts.length : Int) := by omega
      obtain ⟨gp, rfl, hp⟩ := Hpu.out (by omega)
      obtain ⟨g, cg, p1, p2, hF, hr⟩ := hp j hlt
      have q1 := cell_later hb p1
      have q2 := cell_later hb p2
      have hpl := pendOf_len (S.puts.take j) k
      have hpl2 : (S.puts.take j).length ≤ S.puts.length := by rw [List.length_take]; omega
      by_cases he : S.puts[j].1 = k
      · have hv2 := Hid.mk (VS.snoc hlt hvs he hF hr)
        have hp2 : (pendOf (S.puts.take (j + 1)) k).length = (pendOf (S.puts.take j) k).length + 1 := by rw [take_puts hlt, pendOf_append]; simp [pendOf, he]
        have Hp2 := Hid.mk hp2
        rw [he] at q1
        have Hown := Hid.mk hown
        clear hp hr hvs hp2 p1 p2 hown he
        go_wp2_with (at_builtin; refine wpList_append_own _ rfl _ _ 28 rfl w.heap.size 22 i0 (.slice none 0 0) 1 24 Try.underlying28 hi0 hz0 hz1 hz2 rfl (by decide) _ _ _ rfl (Hown.out.alloc _) ⟨wr.heap.size, 0, none⟩ 1 1 [.slice (some ⟨g, 0, none⟩) 512 cg] rfl rfl (cell_one_new _ _ _) (by intro u hu; simp at hu; subst hu; rfl) (by unfold maxLen; omega) (by omega) (by simp; have := hb.size; omega) ?_)
        intro v' w3 hown' hgrow hnil
        have hgr2 : ∀ b, u5.ownBlock = some b → w.heap.size ≤ b := fun b e => (Hown.out.lt b e).1
        have hb3 : Below w.heap.size w w3 := (hb.alloc hb.size _).grown hgrow (by simp; have := hb.size; omega) (fun b e => hgr2 b e)
        have hown2 : w3.ownsRow w.heap.size 22 1 v' ((pendOf (S.puts.take (j + 1)) k).length + 1) (vs ++ [.slice (some ⟨g, 0, none⟩) 512 cg]) := by rw [Hp2.out]; exact hown'
        have Hown2 := Hid.mk hown2
        clear hown' hgrow hnil hown2 Hown hgr2 q1 q2 d1
        go_wp2
        go_roundw
        case rel => exact ⟨j + 1, by omega, by go_num, _, Hown2.out, hv2.out, hb3⟩
        case measure => simp [intOf]; omega
      · have hne : (((S.puts[j].1 : Nat) : Int) == (k : Int)) = false := by rw [Bool.eq_false_iff, ne_eq, beq_iff_eq]; omega
        have hv2 := Hid.mk (VS.skip hlt hvs he)
        have hp2 : pendOf (S.puts.take (j + 1)) k = pendOf (S.puts.take j) k := by rw [take_puts hlt, pendOf_append, pendOf_none (puts := [S.puts[j]]) (by simpa using he), List.append_nil]
        rw [← hp2] at hown
        have Hown := Hid.mk hown
        clear hp hr hvs hp2 p1 p2 hown he q2
        go_wp2
        go_roundw
        case rel => exact ⟨j + 1, by omega, by go_num, _, Hown.out, hv2.out, hb⟩
        case measure => simp [intOf]; omega
    · have hlt' : ¬ (j : Int) < (S.puts.length : Int) := by omega
      have ej : j = S.puts.length := by omega
      subst ej
      rw [List.take_length] at hown hvs
      obtain ⟨g, cg, hv, hg, hr, _⟩ := RowAt.of_owns hown (by rintro rfl; rcases hown.2 with ⟨_, h⟩ | ⟨_, _, _, h, _⟩; omega; cases h)
      have Hq := Hid.mk (And.intro hg (And.intro hr hvs))
      subst hv
      clear hown hvs hr hg
      go_wp2
      go_ret
      exact ⟨g, cg, rfl, Hq.out.1, vs, Hq.out.2.1, Hq.out.2.2, hb⟩
theorem floor_low (x : Int) (y : Nat) (h : max x 0 = (y : Int)) (w : World) :
    Calls Try.prog 95 #[.int .i64 x] w fun e w' => e = .returned (.int .i64 (y : Int)) ∧ w' = w := by
  by_cases hx : x < 0
  · have hy : (y : Int) = 0 := by omega
    rw [hy]
    clear h hy
    go_enter Try.func95, Try.ntmps95
    go_wp2
    go_ret
    exact ⟨rfl, rfl⟩
  · have hy : (y : Int) = x := by omega
    rw [hy]
    clear h hy
    go_enter Try.func95, Try.ntmps95
    go_wp2
    go_ret
    exact ⟨rfl, rfl⟩

theorem splice_set (la lb : List Int) (j : Nat) (hla : j < la.length) (hlb : j < lb.length) : (la.take j ++ lb.drop j).set j la[j] = la.take (j + 1) ++ lb.drop (j + 1) := by
  have e1 : (la.take j).length = j := by rw [List.length_take]; omega
  have e2 : lb.drop j = lb[j] :: lb.drop (j + 1) := List.drop_eq_getElem_cons hlb
  have e3 : la.take (j + 1) = la.take j ++ [la[j]] := by rw [List.take_add_one, List.getElem?_eq_getElem hla]; rfl
  rw [List.set_append_right _ _ (by omega), e1, Nat.sub_self, e2, e3, List.set_cons_zero, List.append_assoc]
  rfl

set_option maxRecDepth 100000 in
set_option maxHeartbeats 2000000 in
theorem rtorn_at {w : World} {F : Nat → Prop} {S : DS} {k s : Nat} (hok : S.Ok s) (hks : k < s) {g c : Nat} {vs : List Value} (hr : RowAt w 22 g c vs) (hv : VS w F S k vs)
    (A B C : Int) (A' B' C' : Nat) (hA : max A 0 = (A' : Int)) (hB : max B 0 = (B' : Int)) (hC : max C 0 = (C' : Int)) (hAb : A ≤ 9223372036854775807) (hBb : B ≤ 9223372036854775807) (hCb : C ≤ 9223372036854775807) :
    Calls Try.prog 77 #[.slice (some ⟨g, 0, none⟩) ((pendOf S.puts k).length + 1) c, .agg #[.int .i64 A, .int .i64 B, .int .i64 C]] w fun e w' => ∃ g', e = .returned (.slice (some ⟨g', 0, none⟩) 512 512) ∧ w.heap.size ≤ g' ∧ RowAt w' 5 g' 512 (bs (tornOf S k A' B' C')) ∧ Below w.heap.size w w' := by
  have hpn := pendOf_len S.puts k
  have hvl := hv.1
  have hm1 : ∀ j : Nat, (j : Int) % (((pendOf S.puts k).length : Int) + 1) = ((j % ((pendOf S.puts k).length + 1) : Nat) : Int) := fun j => by push_cast; rfl
  have hm2 : ∀ j : Nat, j % ((pendOf S.puts k).length + 1) < (pendOf S.puts k).length + 1 := fun j => Nat.mod_lt _ (by omega)
  obtain ⟨ja, hja⟩ : ∃ ja, ja = A' % ((pendOf S.puts k).length + 1) := ⟨_, rfl⟩
  obtain ⟨jb, hjb⟩ : ∃ jb, jb = B' % ((pendOf S.puts k).length + 1) := ⟨_, rfl⟩
  have hja2 : ja < (pendOf S.puts k).length + 1 := hja ▸ hm2 A'
  have hjb2 : jb < (pendOf S.puts k).length + 1 := hjb ▸ hm2 B'
  have hmA := hm1 A'
  have hmB := hm1 B'
  rw [← hja] at hmA
  rw [← hjb] at hmB
  obtain ⟨ga, ca, ea, hFa, hra⟩ := hv.2 ja (by omega)
  obtain ⟨gb, cb, eb, hFb, hrb⟩ := hv.2 jb (by omega)
  have ka := hr.cell ea
  have kb := hr.cell eb
  have hgw := hr.lt
  have hla := DS.cand_len hok hks (j := ja) (by omega)
  have hlb := DS.cand_len hok hks (j := jb) (by omega)
  have hCm : (C' : Int) % 513 = ((C' % 513 : Nat) : Int) := by push_cast; rfl
  obtain ⟨cut, hcut⟩ : ∃ cut, cut = C' % 513 := ⟨_, rfl⟩
  rw [← hcut] at hCm
  have hcut2 : cut ≤ 512 := by omega
  have hfA := floor_low A A' hA
  have hfB := floor_low B B' hB
  have hfC := floor_low C C' hC
  have hA2 : (A' : Int) ≤ 9223372036854775807 := by omega
  have hB2 : (B' : Int) ≤ 9223372036854775807 := by omega
  have hC2 : (C' : Int) ≤ 9223372036854775807 := by omega
  have hja3 : (ja : Int) < ((pendOf S.puts k).length : Int) + 1 := by omega
  have hjb3 : (jb : Int) < ((pendOf S.puts k).length : Int) + 1 := by omega
  have hte : tornOf S k A' B' C' = (S.cand k ja).take cut ++ (S.cand k jb).drop cut := by unfold tornOf; rw [← hja, ← hjb, ← hcut]
  rw [hte]
  have Hra := Hid.mk hra
  have Hrb := Hid.mk hrb
  have Hla := Hid.mk hla
  have Hlb := Hid.mk hlb
  clear hA hB hC hAb hBb hCb hm1 hm2 hcut hja hjb hte hra hrb hr hv hvl ea eb hja2 hjb2 hla hlb
  generalize S.cand k ja = la at *
  generalize S.cand k jb = lb at *
  go_enter Try.func77, Try.ntmps77
  go_wp2_with fail
  refine (hfA _).mono ?_
  rintro e w1 ⟨rfl, hw⟩
  have hw' := hw.symm; subst hw'; clear hw
  go_wp2_with fail
  refine (hfB _).mono ?_
  rintro e w1 ⟨rfl, hw⟩
  have hw' := hw.symm; subst hw'; clear hw
  go_wp2_with fail
  refine (hfC _).mono ?_
  rintro e w1 ⟨rfl, hw⟩
  have hw' := hw.symm; subst hw'; clear hw
  have hsb : Src (w.alloc (.cells #[.int .i64 A, .int .i64 B, .int .i64 C] 50)) (some ⟨gb, 0, none⟩) 512 lb := by
    have := Hrb.out.src
    rw [Hlb.out] at this
    exact this.later ((Below.refl _ w).alloc (Nat.le_refl _) _)
  have htw := rtwin_any (some ⟨gb, 0, none⟩) 512 cb lb _ (by omega) hsb
  clear hsb
  go_wp2_with (go_at_call 72; refine htw.mono ?_; rintro e w2 ⟨g', rfl, hg', hr', hb'⟩)
  have hb2 : Below w.heap.size w w2 := ((Below.refl _ w).alloc (Nat.le_refl _) _).trans (hb'.mono (by simp))
  have hg2 : w.heap.size ≤ g' := by simp at hg'; omega
  have hf2 : w2.heap[g']? = some (.cells (bs (la.take 0 ++ lb.drop 0)).toArray 5 (0, 0)) := by simpa using hr'.full (by simp [bs, Hlb.out])
  have Hf2 := Hid.mk hf2
  clear hr' hb' hg' htw hf2 hfA hfB hfC ka kb
  go_loopw [9] (fun i wr => ∃ j : Nat, j ≤ cut ∧ i = .int .i64 (j : Int) ∧ wr.heap[g']? = some (.cells (bs (la.take j ++ lb.drop j)).toArray 5 (0, 0)) ∧ Below w.heap.size w wr) (fun i _ => cut - (intOf i).toNat)
  case atStart => exact ⟨0, Nat.zero_le _, rfl, Hf2.out, hb2⟩
  case round =>
    clear hb2 Hf2
    obtain ⟨j, hj, rfl, hh, hb⟩ := hrel
    have Hh := Hid.mk hh
    clear hh
    by_cases hlt : j < cut
    · have hlt' : (j : Int) < (cut : Int) := by omega
      have hj5 : (j : Int) < 512 := by omega
      have hja : j < la.length := by have := Hla.out; omega
      have hjb : j < lb.length := by have := Hlb.out; omega
      have ca1 : wr.cell? ⟨ga, j, none⟩ = some (.int .u8 la[j]) := by
        have := Hra.out.byte hja
        rw [addr_add, Nat.zero_add] at this
        have h2 := cell_later hb this
        simpa [List.getD, List.getElem?_eq_getElem hja] using h2
      have hlen : (la.take j ++ lb.drop j).length = 512 := by rw [List.length_append, List.length_take, List.length_drop]; have := Hla.out; have := Hlb.out; omega
      have cb1 : ∃ u, wr.cell? ⟨g', j, none⟩ = some u := ⟨_, cell_of_block Hh.out (j := j) (by simp only [List.getElem?_toArray]; exact List.getElem?_eq_getElem (by simp [bs]; have := Hla.out; have := Hlb.out; omega))⟩
      obtain ⟨u, cb1⟩ := cb1
      have fb1 := frozen_of_block Hh.out j
      have hh2 : (wr.setCell ⟨g', j, none⟩ (.int .u8 la[j])).heap[g']? = some (.cells (bs (la.take (j + 1) ++ lb.drop (j + 1))).toArray 5 (0, 0)) := by
        rw [heap_setCell_same _ _ _ _ _ _ Hh.out, ← splice_set la lb j hja hjb]
        simp [bs, List.map_set]
      have Hh2 := Hid.mk (And.intro hh2 (hb.setCell (p := ⟨g', j, none⟩) hg2 (.int .u8 la[j])))
      clear hh2 Hh hlen
      generalize la[j] = y at *
      go_wp2
      go_roundw
      case rel => exact ⟨j + 1, by omega, by go_num, Hh2.out.1, Hh2.out.2⟩
      case measure => simp [intOf]; omega
    · have hlt' : ¬ (j : Int) < (cut : Int) := by omega
      have ej : j = cut := by omega
      subst ej
      have hrr : RowAt wr 5 g' 512 (bs (la.take j ++ lb.drop j)) := by
        have hl5 : (bs (la.take j ++ lb.drop j)).length = 512 := by simp only [bs, List.length_map, List.length_append, List.length_take, List.length_drop]; have := Hla.out; have := Hlb.out; omega
        have := RowAt.of_full Hh.out (by rw [hl5]; decide)
        rw [hl5] at this
        exact this
      have Hrr := Hid.mk hrr
      clear hrr Hh
      go_wp2
      go_ret
      refine ⟨g', rfl, hg2, ?_, hb⟩
      have hx := Hrr.out
      simp only [bs, List.map_append, List.map_take, List.map_drop] at hx
      exact hx
end Go.Proofs.Ytnolpafdkaloeaa
end
