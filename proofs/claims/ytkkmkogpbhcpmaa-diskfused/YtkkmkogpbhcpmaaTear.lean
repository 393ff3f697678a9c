import Derived.Test.YtkkmkogpbhcpmaaSmall
namespace Go.Proofs.Ytkkmkogpbhcpmaa
open Go.RowKit Go.Maps

/-- What a pick makes of a sector. -/
def tornOf (S : DS) (k : Nat) (A B C : Nat) : List Int :=
  (S.cand k (A % ((pendOf S.puts k).length + 1))).take (C % 513) ++ (S.cand k (B % ((pendOf S.puts k).length + 1))).drop (C % 513)

theorem cand_int {w : World} {F : Nat → Prop} {p s : Nat} {S : DS} {gi ci m : Nat} {D : DataW Value} {gr cr : Nat → Nat} (h : DiskRaw w F p s S gi ci m D gr cr) (k : Nat) (hk : k < s) (j : Nat) (jj : Int) (hjj : jj = (j : Int)) (hj : j ≤ (pendOf S.puts k).length) (hbig : S.puts.length ≤ 140737488355328) :
    Calls Try.prog 64 #[.pointer (some ⟨p, 0, none⟩), .int .i64 (k : Int), .int .i64 jj] w fun e w' => ∃ g o c, e = .returned (.slice (some ⟨g, o, none⟩) 512 c) ∧ F g ∧ 512 ≤ c ∧ (g = gi → o = k * 512 ∧ S.cand k j = sec S.im k) ∧ Src w (some ⟨g, o, none⟩) 512 (S.cand k j) ∧ w' = w := by
  subst hjj
  exact cand_any h k hk j hj hbig

theorem run_max (x : Int) (y : Nat) (h : max x 0 = (y : Int)) (w : World) : (Builtin.max_ #[3, 3] 3 #[.int .i64 x, .int .i64 0]).run Try.prog w = .ok (.int .i64 (y : Int)) w := by
  rw [← h]
  by_cases hx : x < 0
  · simp [Builtin.max_, Builtin.max2, hx, show max x 0 = 0 by omega]
  · simp [Builtin.max_, Builtin.max2, hx, show max x 0 = x by omega]

theorem Src.front {w : World} {x : Addr} {n j : Nat} {l : List Int} (h : Src w (some x) n l) (hj : j ≤ n) : Src w (some x) j (l.take j) := by
  have hl := h.1
  refine ⟨by rw [List.length_take]; omega, (fun h => by cases h), fun y hy i hi => ?_⟩
  rw [h.2.2 y hy i (by omega)]
  simp [List.getD, hi]

theorem splice_two (im la lb : List Int) (o cut n : Nat) (hn : cut ≤ n) (hla : la.length = n) (hlb : lb.length = n) (hl : o + n ≤ im.length) :
    splice (splice im o (la.take cut)) (o + cut) (lb.drop cut) = splice im o (la.take cut ++ lb.drop cut) := by
  have e1 : (la.take cut).length = cut := by rw [List.length_take]; omega
  have e2 : (lb.drop cut).length = n - cut := by rw [List.length_drop]; omega
  have e3 : (la.take cut ++ lb.drop cut).length = n := by rw [List.length_append, e1, e2]; omega
  have e4 : (splice im o (la.take cut)).length = im.length := splice_len _ _ _ (by omega)
  apply List.ext_getElem?
  intro i
  rw [getElem_splice _ _ _ (by omega), getElem_splice _ _ _ (by omega), getElem_splice _ _ _ (by omega), e1, e2, e3]
  by_cases h1 : o ≤ i ∧ i < o + cut
  · rw [if_neg (by omega), if_pos (by omega), if_pos (by omega), List.getElem?_append_left (by omega)]
  · by_cases h2 : o + cut ≤ i ∧ i < o + n
    · rw [if_pos (by omega), if_pos (by omega), List.getElem?_append_right (by omega), e1, show i - (o + cut) = i - o - cut by omega]
    · rw [if_neg (by omega), if_neg (by omega), if_neg (by omega)]

theorem getD_behind (im la : List Int) (k cut i : Nat) (hla : (la.take cut).length = cut) (hl : k * 512 + cut ≤ im.length) (hi : cut + i < 512) :
    (splice im (k * 512) (la.take cut)).getD (k * 512 + (cut + i)) 0 = (sec im k).getD (cut + i) 0 := by
  rw [List.getD, List.getD, getElem_splice _ _ _ (by omega), if_neg (by omega), getElem_sec, if_pos hi]

/-- The two copies of a torn sector. -/
theorem tear_run {w : World} {F : Nat → Prop} {p s : Nat} {S : DS} {gi ci m : Nat} {D : DataW Value} {gr cr : Nat → Nat} (h : DiskRaw w F p s S gi ci m D gr cr) {k : Nat} (hk : k < s) {cut : Nat} (hcut : cut ≤ 512) {la lb : List Int}
    {ga oa ca gb ob : Nat} (hsa : Src w (some ⟨ga, oa, none⟩) 512 la) (hsb : Src w (some ⟨gb, ob, none⟩) 512 lb) (hgb : gb = gi → ob = k * 512 ∧ lb = sec S.im k) :
    ∃ w2, (Builtin.copy_ #[27, 27] 3 #[.slice (some ⟨gi, k * 512, none⟩) cut 512, .slice (some ⟨ga, oa, none⟩) cut ca]).run Try.prog w = .ok (goInt (Nat.min cut cut)) w2 ∧ w2.heap.size = w.heap.size ∧
      (∀ dp sp c1 c2, (cut < 512 → dp = some ⟨gi, k * 512 + cut, none⟩ ∧ sp = some ⟨gb, ob + cut, none⟩) →
        ∃ w3, (Builtin.copy_ #[27, 27] 3 #[.slice dp (512 - cut) c1, .slice sp (512 - cut) c2]).run Try.prog w2.drew = .ok (goInt (Nat.min (512 - cut) (512 - cut))) w3 ∧
          DiskRaw w3 F p s { S with im := splice S.im (k * 512) (la.take cut ++ lb.drop cut) } gi ci m D gr cr ∧ Keeps F w w3) := by
  have hlen := h.ok.len
  have hla := hsa.1
  have hlb := hsb.1
  obtain ⟨w2, hrun, hr2, hk2, hsz⟩ := h.img.copied 3 (some ⟨gi, k * 512, none⟩) (k * 512) cut 512 (some ⟨ga, oa, none⟩) cut ca (la.take cut) (hsa.front hcut) (fun _ => rfl) (by omega)
  rw [List.take_take, Nat.min_self] at hr2
  have hl2 : (splice S.im (k * 512) (la.take cut)).length = s * 512 := by rw [splice_len _ _ _ (by rw [List.length_take]; omega)]; exact hlen
  refine ⟨w2, hrun, hsz, fun dp sp c1 c2 hdp => ?_⟩
  have hr2' : RowAt w2.drew 5 gi ci (bs (splice S.im (k * 512) (la.take cut))) := hr2
  have hsrc : Src w2.drew sp (512 - cut) (lb.drop cut) := by
    refine ⟨by rw [List.length_drop]; omega, fun e => ?_, fun y hy i hi => ?_⟩
    · by_cases h5 : cut < 512
      · rw [(hdp h5).2] at e; cases e
      · omega
    · have h5 : cut < 512 := by omega
      rw [(hdp h5).2] at hy
      cases hy
      rw [addr_add]
      have h0 := hsb.2.2 _ rfl (cut + i) (by omega)
      rw [addr_add] at h0
      have hv : (lb.drop cut).getD i 0 = lb.getD (cut + i) 0 := by simp [List.getD]
      rw [hv]
      by_cases hg : gb = gi
      · obtain ⟨rfl, rfl⟩ := hgb hg
        subst hg
        have h1 := hr2'.byte (i := k * 512 + (cut + i)) (by omega)
        rw [addr_add, Nat.zero_add] at h1
        rw [Nat.add_assoc, h1, getD_behind _ _ _ _ _ (by rw [List.length_take]; omega) (by omega) (by omega)]
      · have := World.cell?_of_block (w := w) (w' := w2) (a := ⟨gb, ob + (cut + i), none⟩) (hk2.block gb (World.block_lt_of_cell? _ _ h0) hg)
        rw [Nat.add_assoc]
        exact this.trans h0
  obtain ⟨w3, hrun3, hr3, hk3, _⟩ := hr2'.copied 3 dp (k * 512 + cut) (512 - cut) c1 sp (512 - cut) c2 (lb.drop cut) hsrc (fun h5 => (hdp (by omega)).1) (by omega)
  rw [List.take_of_length_le (l := lb.drop cut) (by rw [List.length_drop]; omega)] at hr3
  have e := splice_two S.im la lb (k * 512) cut 512 hcut hla hlb (by omega)
  rw [e] at hr3
  have hk23 : Keeps (fun b => b = gi) w w3 := hk2.trans (b := w2) (G := fun b => b = gi) ⟨hk3.os, hk3.tape, hk3.output, hk3.size, hk3.block⟩ (fun j hj => .inl hj)
  exact ⟨w3, hrun3, h.imaged hr3 (by rw [splice_len _ _ _ (by rw [List.length_append, List.length_take, List.length_drop]; omega)]; exact hlen) hk23, hk23.mono (fun b hb => hb ▸ h.fgi)⟩

set_option maxHeartbeats 4000000 in
set_option maxRecDepth 100000 in
theorem tear_ok {w : World} {F : Nat → Prop} {p s : Nat} {S : DS} {gi ci m : Nat} {D : DataW Value} {gr cr : Nat → Nat} (h : DiskRaw w F p s S gi ci m D gr cr) (k : Nat) (hk : k < s) (hbig : S.puts.length + 1 ≤ 5000000000000)
    (A B C : Int) (A' B' C' : Nat) (hA : max A 0 = (A' : Int)) (hB : max B 0 = (B' : Int)) (hC : max C 0 = (C' : Int)) (hAb : A ≤ 9223372036854775807) (hBb : B ≤ 9223372036854775807) (hCb : C ≤ 9223372036854775807) :
    Calls Try.prog 69 #[.pointer (some ⟨p, 0, none⟩), .int .i64 (k : Int), .agg #[.int .i64 A, .int .i64 B, .int .i64 C]] w fun e w' => e = .returned (.tuple #[]) ∧ DiskRaw w' F p s { S with im := splice S.im (k * 512) (tornOf S k A' B' C') } gi ci m D gr cr ∧ Keeps F w w' := by
  have hmA := run_max A A' hA
  have hmB := run_max B B' hB
  have hmC := run_max C C' hC
  have hA2 : (A' : Int) ≤ 9223372036854775807 := by omega
  have hB2 : (B' : Int) ≤ 9223372036854775807 := by omega
  have hC2 : (C' : Int) ≤ 9223372036854775807 := by omega
  have hpn := pendOf_len S.puts k
  have hd : DiskRaw (w.alloc (.cells #[.int .i64 A, .int .i64 B, .int .i64 C] 53)) F p s S gi ci m D gr cr := h.agree (by simp) (fun j hj => Below.heap_alloc _ _ _ (h.lt j hj))
  have hkb : Keeps F w (w.alloc (.cells #[.int .i64 A, .int .i64 B, .int .i64 C] 53)) := Keeps.alloc _ _ _
  obtain ⟨a, cc, xs, hlook, _⟩ := hd.sector hk
  have c1 := cell_of_block hd.blk (j := 1) rfl
  have hl1 := hlook _ rfl
  have hs := h.ok.hi
  have hle := hd.img.le
  have hdu := durable_low p gi (s * 512) ci s k k _ (cell_of_block hd.blk (j := 0) rfl) rfl hk rfl hs (by simp [bs, hd.ok.len] at hle; omega)
  have hm1 : ∀ j : Nat, (j : Int) % (((pendOf S.puts k).length : Int) + 1) = ((j % ((pendOf S.puts k).length + 1) : Nat) : Int) := fun j => by push_cast; rfl
  have hm2 : ∀ j : Nat, j % ((pendOf S.puts k).length + 1) ≤ (pendOf S.puts k).length := fun j => Nat.le_of_lt_succ (Nat.mod_lt _ (by omega))
  have hcA := cand_int hd k hk (A' % ((pendOf S.puts k).length + 1)) _ (hm1 A') (hm2 A') (by omega)
  have hcB := cand_int hd k hk (B' % ((pendOf S.puts k).length + 1)) _ (hm1 B') (hm2 B') (by omega)
  have hCm : (C' : Int) % 513 = ((C' % 513 : Nat) : Int) := by push_cast; rfl
  obtain ⟨cut, hcut⟩ : ∃ cut, cut = C' % 513 := ⟨_, rfl⟩
  rw [← hcut] at hCm
  have hcut2 : cut ≤ 512 := by omega
  have Hd := Hid.mk hd
  have Hcut := Hid.mk hcut
  clear h hA hB hC hd hlook hAb hBb hCb hm1 hm2 hle hcut
  go_enter Try.func69, Try.ntmps69
  go_wp2_with fail
  refine hcA.mono ?_
  rintro e w2 ⟨ga, oa, ca, rfl, hFa, hca, hga, hsa, hw⟩
  have hw' := hw.symm; subst hw'
  clear hcA hw
  have Hsa := Hid.mk hsa
  have Hga := Hid.mk hga
  clear hsa hga
  go_wp2_with fail
  refine hcB.mono ?_
  rintro e w3 ⟨gb, ob, cb, rfl, hFb, hcb, hgb, hsb, hw⟩
  have hw' := hw.symm; subst hw'
  clear hcB hw
  have Hsb := Hid.mk hsb
  have Hgb := Hid.mk hgb
  clear hsb hgb
  go_wp2_with fail
  refine hdu.mono ?_
  rintro e w4 ⟨rfl, hw⟩
  have hw' := hw.symm; subst hw'
  clear hdu hw
  have hdd : DiskRaw (w.alloc (.cells #[.int .i64 A, .int .i64 B, .int .i64 C] 53)).drew F p s S gi ci m D gr cr := Hd.out.agree (Nat.le_refl _) (fun _ _ => rfl)
  obtain ⟨w5, hrun1, _, hrest⟩ := tear_run (ca := ca) hdd hk hcut2 Hsa.out Hsb.out Hgb.out
  have Hrest := Hid.mk hrest
  have hc0 : (0 : Int) ≤ (cut : Int) := by omega
  have hc1 : (cut : Int) ≤ 512 := by omega
  have hc2 : (cut : Int) ≤ (ca : Int) := by omega
  have hc3 : (cut : Int) ≤ (cb : Int) := by omega
  clear hdd hrest
  go_wp2_with fail
  go_region_held3 (fun _ => True) (trivial) (fail)
  go_wp2_with fail
  have hfin : ∀ w6, DiskRaw w6 F p s { S with im := splice S.im (k * 512) (List.take cut (S.cand k (A' % ((pendOf S.puts k).length + 1))) ++ List.drop cut (S.cand k (B' % ((pendOf S.puts k).length + 1)))) } gi ci m D gr cr →
      Keeps F (w.alloc (.cells #[.int .i64 A, .int .i64 B, .int .i64 C] 53)).drew w6 → DiskRaw w6 F p s { S with im := splice S.im (k * 512) (tornOf S k A' B' C') } gi ci m D gr cr ∧ Keeps F w w6 := fun w6 h1 h2 => by
    refine ⟨?_, hkb.trans (b := w.alloc (.cells #[.int .i64 A, .int .i64 B, .int .i64 C] 53)) (G := F) ⟨h2.os, h2.tape, h2.output, h2.size, h2.block⟩ (fun j hj => .inl hj)⟩
    unfold tornOf
    rw [← Hcut.out]
    exact h1
  have Hfin := Hid.mk hfin
  clear hfin hkb hrun1 hmA hmB hmC hl1 c1 Hd Hsa Hsb Hga Hgb Hcut hCm
  rcases (show cut = 0 ∨ (0 < cut ∧ cut < 512) ∨ cut = 512 by omega) with h5 | h5 | h5
  · subst h5
    obtain ⟨w6, hr6, hd6, hk6⟩ := Hrest.out (some ⟨gi, k * 512, none⟩) (some ⟨gb, ob, none⟩) 512 cb (fun _ => ⟨rfl, rfl⟩)
    simp only [Nat.sub_zero] at hr6
    have hq := Hfin.out w6 hd6 hk6
    clear hd6 hk6 Hrest Hfin
    go_region_held3 (fun _ => True) (trivial) (fail)
    all_goals
      go_end0
      exact ⟨rfl, hq⟩
  · obtain ⟨w6, hr6, hd6, hk6⟩ := Hrest.out (some ⟨gi, k * 512 + cut, none⟩) (some ⟨gb, ob + cut, none⟩) (512 - cut) (cb - cut) (fun _ => ⟨rfl, rfl⟩)
    have hq := Hfin.out w6 hd6 hk6
    have z1 : ¬ 512 = cut := by omega
    have z2 : ¬ cb = cut := by omega
    have z3 : ¬ cut = 0 := by omega
    clear hd6 hk6 Hrest Hfin
    go_region_held3 (fun _ => True) (trivial) (fail)
    all_goals
      go_end0
      exact ⟨rfl, hq⟩
  · subst h5
    by_cases z : cb = 512
    · subst z
      obtain ⟨w6, hr6, hd6, hk6⟩ := Hrest.out (some ⟨gi, k * 512, none⟩) (some ⟨gb, ob, none⟩) 0 0 (fun h => by omega)
      simp only [Nat.sub_self] at hr6
      have hq := Hfin.out w6 hd6 hk6
      clear hd6 hk6 Hrest Hfin
      go_region_held3 (fun _ => True) (trivial) (fail)
      all_goals
        go_end0
        exact ⟨rfl, hq⟩
    · obtain ⟨w6, hr6, hd6, hk6⟩ := Hrest.out (some ⟨gi, k * 512, none⟩) (some ⟨gb, ob + 512, none⟩) 0 (cb - 512) (fun h => by omega)
      simp only [Nat.sub_self] at hr6
      have hq := Hfin.out w6 hd6 hk6
      clear hd6 hk6 Hrest Hfin
      go_region_held3 (fun _ => True) (trivial) (fail)
      all_goals
        go_end0
        exact ⟨rfl, hq⟩
end Go.Proofs.Ytkkmkogpbhcpmaa
