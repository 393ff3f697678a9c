import Derived.Test.YtkkmkogpbhcpmaaUnfl
namespace Go.Proofs.Ytkkmkogpbhcpmaa
open Go.RowKit Go.Maps

abbrev P3 := Int × Int × Int

/-- What is told of a list of picks. -/
def PSrc (w : World) (a : Option Addr) (n : Nat) (l : List P3) : Prop :=
  l.length = n ∧ (a = none → n = 0) ∧ (∀ x, a = some x → ∀ i (hi : i < l.length), ∃ b o, x = ⟨b, o, none⟩ ∧ w.cell? ⟨b, o + i * 3, none⟩ = some (.int .i64 l[i].1) ∧ w.cell? ⟨b, o + i * 3 + 1, none⟩ = some (.int .i64 l[i].2.1) ∧ w.cell? ⟨b, o + i * 3 + 2, none⟩ = some (.int .i64 l[i].2.2)) ∧
    ∀ q ∈ l, q.1 ≤ 9223372036854775807 ∧ q.2.1 ≤ 9223372036854775807 ∧ q.2.2 ≤ 9223372036854775807

/-- The pick that the i-th sector takes. -/
def pickN (l : List P3) (i : Nat) : P3 := if h : 0 < l.length then l[i % l.length]'(Nat.mod_lt _ h) else (0, 0, 0)

def tornBy (S : DS) (k : Nat) (q : P3) : List Int := tornOf S k (max q.1 0).toNat (max q.2.1 0).toNat (max q.2.2 0).toNat

/-- What a sector holds behind the cut. -/
def cutOf (S : DS) (l : List P3) (k : Nat) : List Int := if pendOf S.puts k = [] then sec S.im k else tornBy S k (pickN l (keysOf S k).length)

def DS.crash (S : DS) (s : Nat) (l : List P3) : DS := { S with im := imOf s (cutOf S l), puts := [], fuse := -1, life := wrap64 (S.life + 1) }

theorem keysOf_succ (S : DS) (s : Nat) : keysOf S (s + 1) = keysOf S s ++ (if pendOf S.puts s = [] then [] else [s]) := by
  unfold keysOf
  rw [List.range_succ, List.filter_append]
  congr 1
  by_cases h : pendOf S.puts s = [] <;> simp [h]

theorem keysOf_idx (S : DS) : ∀ (s j k : Nat), (keysOf S s)[j]? = some k → (keysOf S k).length = j
  | 0, j, k, h => by simp [keysOf] at h
  | s + 1, j, k, h => by
    rw [keysOf_succ] at h
    by_cases hj : j < (keysOf S s).length
    · rw [List.getElem?_append_left hj] at h
      exact keysOf_idx S s j k h
    · rw [List.getElem?_append_right (by omega)] at h
      split at h
      · simp at h
      · have hj0 : j - (keysOf S s).length = 0 := by
          have := (List.getElem?_eq_some_iff.1 h).1
          simp at this
          omega
        rw [hj0] at h
        simp at h
        subst h
        omega

theorem torn_len {S : DS} {s : Nat} (h : S.Ok s) {k : Nat} (hk : k < s) (A B C : Nat) : (tornOf S k A B C).length = 512 := by
  have h1 := DS.cand_len h hk (j := A % ((pendOf S.puts k).length + 1)) (Nat.le_of_lt_succ (Nat.mod_lt _ (by omega)))
  have h2 := DS.cand_len h hk (j := B % ((pendOf S.puts k).length + 1)) (Nat.le_of_lt_succ (Nat.mod_lt _ (by omega)))
  unfold tornOf
  rw [List.length_append, List.length_take, List.length_drop, h1, h2]
  omega

theorem cut_len {S : DS} {s : Nat} (h : S.Ok s) (l : List P3) : ∀ k, k < s → (cutOf S l k).length = 512 := fun k hk => by
  unfold cutOf
  split
  · exact sec_len h.len hk
  · exact torn_len h hk _ _ _

/-- A sector that has not been torn yet. -/
theorem torn_im (S : DS) (im : List Int) (k A B C : Nat) (h : sec im k = sec S.im k) : tornOf { S with im := im } k A B C = tornOf S k A B C := by
  have e : ∀ j, DS.cand { S with im := im } k j = S.cand k j := fun j => by
    unfold DS.cand
    split
    · exact h
    · rfl
  unfold tornOf
  rw [e, e]

theorem mem_take_succ {ks : List Nat} {j k0 : Nat} (h : ks[j]? = some k0) (k : Nat) : k ∈ ks.take (j + 1) ↔ k ∈ ks.take j ∨ k = k0 := by
  rw [List.take_add_one, h]
  simp

theorem not_mem_take {ks : List Nat} (hn : ks.Nodup) {j k0 : Nat} (h : ks[j]? = some k0) : k0 ∉ ks.take j := by
  obtain ⟨hj, e⟩ := List.getElem?_eq_some_iff.1 h
  intro hm
  obtain ⟨i, hi, e2⟩ := List.mem_iff_getElem.1 hm
  rw [List.getElem_take] at e2
  have := List.getElem_inj (h₀ := by simp at hi; omega) (h₁ := hj) hn |>.1 (e2.trans e.symm)
  simp at hi
  omega

/-- One round of a power cut. -/
theorem crash_step {S : DS} {s : Nat} (hok : S.Ok s) (l : List P3) {im : List Int} {j k : Nat} (him : im.length = s * 512) (hk : (keysOf S s)[j]? = some k)
    (hs : ∀ i, i < s → sec im i = if i ∈ (keysOf S s).take j then cutOf S l i else sec S.im i) :
    k < s ∧ pendOf S.puts k ≠ [] ∧ tornBy { S with im := im } k (pickN l j) = cutOf S l k ∧ ∀ i, i < s → sec (splice im (k * 512) (cutOf S l k)) i = if i ∈ (keysOf S s).take (j + 1) then cutOf S l i else sec S.im i := by
  obtain ⟨hks, hp⟩ := mem_keysOf.1 (List.mem_of_getElem? hk)
  have hnd : (keysOf S s).Nodup := List.Pairwise.filter _ List.nodup_range
  have hni := not_mem_take hnd hk
  have hsk := hs k hks
  rw [if_neg hni] at hsk
  have e : tornBy { S with im := im } k (pickN l j) = cutOf S l k := by
    unfold tornBy cutOf
    rw [if_neg hp, keysOf_idx S s j k hk, torn_im S im k _ _ _ hsk]
    rfl
  refine ⟨hks, hp, e, fun i hi => ?_⟩
  rw [sec_splice him (cut_len hok l k hks) hks]
  by_cases ei : i = k
  · subst ei
    rw [if_pos rfl, if_pos ((mem_take_succ hk i).2 (.inr rfl))]
  · rw [if_neg ei, hs i hi]
    by_cases hm : i ∈ (keysOf S s).take j
    · rw [if_pos hm, if_pos ((mem_take_succ hk i).2 (.inl hm))]
    · rw [if_neg hm, if_neg (fun h => by rcases (mem_take_succ hk i).1 h with h | h; exact hm h; exact ei h)]

theorem crash_all {S : DS} {s : Nat} (hok : S.Ok s) (l : List P3) {im : List Int} (him : im.length = s * 512) (hs : ∀ i, i < s → sec im i = if i ∈ (keysOf S s).take (keysOf S s).length then cutOf S l i else sec S.im i) : im = imOf s (cutOf S l) := by
  refine im_ext s him (imOf_len s _ (cut_len hok l)) (fun k hk => ?_)
  rw [hs k hk, sec_imOf s _ (cut_len hok l) k hk, List.take_length]
  by_cases hp : pendOf S.puts k = []
  · rw [if_neg (fun h => (mem_keysOf.1 h).2 hp)]
    simp [cutOf, hp]
  · rw [if_pos (mem_keysOf.2 ⟨hk, hp⟩)]

theorem PSrc.keeps {w w' : World} {a : Option Addr} {n : Nat} {l : List P3} {F : Nat → Prop} (h : PSrc w a n l) (hk : Keeps F w w') (hF : ∀ x, a = some x → ¬ F x.block) : PSrc w' a n l := by
  refine ⟨h.1, h.2.1, fun x hx i hi => ?_, h.2.2.2⟩
  obtain ⟨b, o, rfl, h1, h2, h3⟩ := h.2.2.1 x hx i hi
  have hb := World.block_lt_of_cell? _ _ h1
  have e := hk.block b hb (hF _ hx)
  exact ⟨b, o, rfl, (World.cell?_of_block (w := w) (a := ⟨b, _, none⟩) e).trans h1, (World.cell?_of_block (w := w) (a := ⟨b, _, none⟩) e).trans h2, (World.cell?_of_block (w := w) (a := ⟨b, _, none⟩) e).trans h3⟩

theorem crash_end {w wr w3 : World} {F : Nat → Prop} {p s : Nat} {S : DS} {gi ci m : Nat} {D : DataW Value} {gr cr : Nat → Nat} {im : List Int} {l : List P3} (h : DiskRaw w F p s S gi ci m D gr cr) (hd : DiskRaw wr F p s { S with im := im } gi ci m D gr cr)
    (he : im = imOf s (cutOf S l)) (hk : Keeps F w wr) (hm3 : w3.ownsMap Try.prog 3 Rs m 0 (.map [])) (hk3 : Keeps (fun k => k = m) wr w3) :
    w3.cell? ⟨p, 2, none⟩ = some (.int .i64 S.fuse) ∧ w3.frozen? ⟨p, 2, none⟩ = false ∧ w3.cell? ⟨p, 3, none⟩ = some (.int .i64 S.life) ∧ w3.frozen? ⟨p, 3, none⟩ = false ∧
    DiskAt ((w3.setCell ⟨p, 2, none⟩ (.int .i64 (-1))).setCell ⟨p, 3, none⟩ (.int .i64 (wrap64 (S.life + 1)))) F p s (S.crash s l) ∧ Keeps F w ((w3.setCell ⟨p, 2, none⟩ (.int .i64 (-1))).setCell ⟨p, 3, none⟩ (.int .i64 (wrap64 (S.life + 1)))) := by
  subst he
  have hd3 := hd.cleared hm3 hk3
  have hd4 : DiskRaw (w3.setCell ⟨p, 2, none⟩ (.int .i64 (-1))) F p s { S with im := imOf s (cutOf S l), puts := [], fuse := -1 } gi ci m (.map []) gr cr :=
    hd3.turn (hd3.set 2 _).2 ((hd3.set 2 _).1.trans (by simp [dkCells])) rfl rfl (by simp)
  have hd5 : DiskRaw ((w3.setCell ⟨p, 2, none⟩ (.int .i64 (-1))).setCell ⟨p, 3, none⟩ (.int .i64 (wrap64 (S.life + 1)))) F p s (S.crash s l) gi ci m (.map []) gr cr :=
    hd4.turn (hd4.set 3 _).2 ((hd4.set 3 _).1.trans (by simp [dkCells, DS.crash])) rfl rfl (by simp [DS.crash])
  refine ⟨cell_of_block hd3.blk (j := 2) rfl, frozen_of_block hd3.blk 2, cell_of_block hd3.blk (j := 3) rfl, frozen_of_block hd3.blk 3, ⟨gi, ci, m, _, gr, cr, hd5⟩, ?_⟩
  exact ((hk.trans hk3 (fun j hj => .inl (hj ▸ h.fm))).trans (Keeps.setCell (F := fun k => k = p) w3 (p := ⟨p, 2, none⟩) rfl _) (fun j hj => .inl (hj ▸ h.fp))).trans (Keeps.setCell (F := fun k => k = p) _ (p := ⟨p, 3, none⟩) rfl _) (fun j hj => .inl (hj ▸ h.fp))

/-- The round's tear, whichever pick it is. -/
theorem crash_tear {wr wx : World} {F : Nat → Prop} {p s : Nat} {S : DS} {gi ci m : Nat} {D : DataW Value} {gr cr : Nat → Nat} {im : List Int} {l : List P3} (hbig : S.puts.length + 1 ≤ 5000000000000) (hd : DiskRaw wr F p s { S with im := im } gi ci m D gr cr)
    (hb : Below wr.heap.size wr wx) {j k : Nat} (hks : k < s) (hto : tornBy { S with im := im } k (pickN l j) = cutOf S l k) (A B C : Int) (hq : pickN l j = (A, B, C)) (hA : A ≤ 9223372036854775807) (hB : B ≤ 9223372036854775807) (hC : C ≤ 9223372036854775807) :
    Calls Try.prog 69 #[.pointer (some ⟨p, 0, none⟩), .int .i64 (k : Int), .agg #[.int .i64 A, .int .i64 B, .int .i64 C]] wx fun e w' => e = .returned (.tuple #[]) ∧ DiskRaw w' F p s { S with im := splice im (k * 512) (cutOf S l k) } gi ci m D gr cr ∧ Keeps F wr w' := by
  have hd2 : DiskRaw wx F p s { S with im := im } gi ci m D gr cr := hd.agree hb.size (fun i hi => hb.block i (hd.lt i hi))
  refine (tear_ok hd2 k hks hbig A B C (max A 0).toNat (max B 0).toNat (max C 0).toNat (by omega) (by omega) (by omega) hA hB hC).mono ?_
  rintro e w' ⟨rfl, h1, h2⟩
  refine ⟨rfl, ?_, (Keeps.of_below F hb).trans h2 (fun i hi => .inl hi)⟩
  rw [← hto, hq]
  exact h1

set_option maxHeartbeats 4000000 in
set_option maxRecDepth 100000 in
theorem crash_ok (sorts : SortSaid) (sortn : SortNil) {w : World} {F : Nat → Prop} {p s : Nat} {S : DS} (hd : DiskAt w F p s S) (hbig : S.puts.length + 1 ≤ 5000000000000) (a : Option Addr) (n c : Nat) (l : List P3) (hps : PSrc w a n l) (hn : n ≤ 140737488355328) (hF : ∀ x, a = some x → ¬ F x.block) :
    Calls Try.prog 17 #[.pointer (some ⟨p, 0, none⟩), .slice a n c] w fun e w' => e = .returned (.tuple #[]) ∧ DiskAt w' F p s (S.crash s l) ∧ Keeps F w w' := by
  obtain ⟨gi, ci, m, D, gr, cr, h⟩ := hd
  have hun := unfl_ok sorts sortn h hbig
  have hkl : (keysOf S s).length ≤ 2048 := by
    have := List.length_filter_le (fun k => !(pendOf S.puts k).isEmpty) (List.range s)
    rw [List.length_range] at this
    exact Nat.le_trans this h.ok.hi
  have H := Hid.mk h
  have HP := Hid.mk hps
  clear h hps
  go_enter Try.func17, Try.ntmps17
  go_wp2_with (go_at_call 68; refine hun.mono ?_; rintro e w1 ⟨ak, ck, rfl, hrow, hb1⟩)
  have Hrow := Hid.mk hrow
  have hd1 : DiskRaw w1 F p s { S with im := S.im } gi ci m D gr cr := H.out.agree hb1.size (fun j hj => hb1.block j (H.out.lt j hj))
  have hk1 : Keeps F w w1 := Keeps.of_below F hb1
  clear hun hrow
  go_loopw [4, 5, 6, 10] (fun _ _ _ i wr => ∃ j : Nat, j ≤ (keysOf S s).length ∧ i = .int .i64 (j : Int) ∧ ∃ im, DiskRaw wr F p s { S with im := im } gi ci m D gr cr ∧ (∀ i, i < s → sec im i = if i ∈ (keysOf S s).take j then cutOf S l i else sec S.im i) ∧ Keeps F w wr ∧
      (keysOf S s ≠ [] → ∃ g, ak = some ⟨g, 0, none⟩ ∧ RowAt wr 3 g ck (is_ (keysOf S s)) ∧ w.heap.size ≤ g)) (fun _ _ _ i _ => (keysOf S s).length - (intOf i).toNat)
  case atStart => exact ⟨0, Nat.zero_le _, rfl, S.im, hd1, fun i _ => by simp, hk1, fun h => by obtain ⟨g, e, hg, hr⟩ := Hrow.out h; exact ⟨g, e, hr, hg⟩⟩
  case round =>
    clear hd1 hk1 Hrow
    obtain ⟨j, hj, rfl, im, hd, hse, hk, hrow⟩ := hrel
    have Hd := Hid.mk hd
    have Hse := Hid.mk hse
    clear hd hse
    by_cases hlt : j < (keysOf S s).length
    · have hlt' : (j : Int) < ((keysOf S s).length : Int) := by omega
      obtain ⟨g, rfl, hr, hg⟩ := hrow (by intro e; rw [e] at hlt; simp at hlt)
      obtain ⟨k0, hk0⟩ : ∃ k, (keysOf S s)[j]? = some k := ⟨_, List.getElem?_eq_getElem hlt⟩
      have hc0 : wr.cell? ⟨g, j, none⟩ = some (.int .i64 (k0 : Int)) := hr.cell (by simp [is_, hk0])
      obtain ⟨hks, hp, hto, hse2⟩ := crash_step H.out.ok l Hd.out.ok.len hk0 Hse.out
      have Hr := Hid.mk hr
      have Hse2 := Hid.mk hse2
      clear hr hse2
      by_cases hn0 : n = 0
      · subst hn0
        have hq : pickN l j = (0, 0, 0) := by simp [pickN, HP.out.1]
        have hte := fun o => crash_tear hbig Hd.out ((Below.refl wr.heap.size wr).alloc (Nat.le_refl _) o) hks hto 0 0 0 hq (by omega) (by omega) (by omega)
        go_wp2_with (go_at_call 69; refine (hte _).mono ?_; rintro e w5 ⟨rfl, hd5, hk5⟩)
        have hr5 : RowAt w5 3 g ck (is_ (keysOf S s)) := Hr.out.agree (hk5.block g Hr.out.lt (fun hf => by have := H.out.lt g hf; omega))
        have Hd5 := Hid.mk hd5
        have hk6 : Keeps F w w5 := hk.trans hk5 (fun i hi => .inl hi)
        clear hd5 hk5 hte hc0
        go_roundw
        case rel => exact ⟨j + 1, by omega, by go_num, _, Hd5.out, Hse2.out, hk6, fun _ => ⟨g, rfl, hr5, hg⟩⟩
        case measure => simp [intOf]; omega
      · obtain ⟨x, rfl⟩ : ∃ x, a = some x := by
          cases a with
          | none => exact absurd (HP.out.2.1 rfl) hn0
          | some x => exact ⟨x, rfl⟩
        have hll := HP.out.1
        have hlp : 0 < l.length := by omega
        obtain ⟨q, hq⟩ : ∃ q, q = j % n := ⟨_, rfl⟩
        have hqn : q < n := by rw [hq]; exact Nat.mod_lt _ (by omega)
        have hql : q < l.length := by omega
        have hPr := HP.out.keeps hk hF
        obtain ⟨b, o, rfl, p0, p1, p2⟩ := hPr.2.2.1 x rfl q hql
        have hpk : pickN l j = (l[q].1, l[q].2.1, l[q].2.2) := by
          have e1 : j % l.length = q := by rw [hll, hq]
          simp only [pickN, hlp, dif_pos, e1]
        obtain ⟨b1, b2, b3⟩ := hPr.2.2.2 l[q] (List.getElem_mem hql)
        have hte := fun wx hx => crash_tear (wx := wx) hbig Hd.out hx hks hto _ _ _ hpk b1 b2 b3
        have hmo : (j : Int) % (n : Int) = (q : Int) := by rw [hq]; push_cast; rfl
        have hn1 : (0 : Int) < (n : Int) := by omega
        have hq1 : (q : Int) < (n : Int) := by omega
        have hbw := World.block_lt_of_cell? _ _ p0
        have Hte := Hid.mk hte
        clear hte hpk hPr hq hto
        generalize l[q].1 = qa at *
        generalize l[q].2.1 = qb at *
        generalize l[q].2.2 = qc at *
        go_wp2_with fail
        refine (Hte.out _ ((Below.refl wr.heap.size wr).alloc (Nat.le_refl _) _)).mono ?_
        rintro e w5 ⟨rfl, hd5, hk5⟩
        have hr5 : RowAt w5 3 g ck (is_ (keysOf S s)) := Hr.out.agree (hk5.block g Hr.out.lt (fun hf => by have := H.out.lt g hf; omega))
        have Hd5 := Hid.mk hd5
        have hk6 : Keeps F w w5 := hk.trans hk5 (fun i hi => .inl hi)
        clear hd5 hk5 Hte hc0 p0 p1 p2
        go_wp2
        go_roundw
        case rel => exact ⟨j + 1, by omega, by go_num, _, Hd5.out, Hse2.out, hk6, fun _ => ⟨g, rfl, hr5, hg⟩⟩
        case measure => simp [intOf]; omega
    · have hlt' : ¬ (j : Int) < ((keysOf S s).length : Int) := by omega
      obtain ⟨w3, hrun3, hm3, hk3, _⟩ := clear_run Hd.out.map
      have c1 := cell_of_block Hd.out.blk (j := 1) rfl
      have ej : j = (keysOf S s).length := by omega
      rw [ej] at Hse
      have hall := crash_all H.out.ok l Hd.out.ok.len Hse.out
      clear ej
      obtain ⟨c2, f2, c3, f3, hd5, hk5⟩ := crash_end H.out Hd.out hall hk hm3 hk3
      have Hq := Hid.mk (And.intro hd5 hk5)
      clear hd5 hk5 hall hm3 hk3 Hd Hse H hk hrow
      go_wp2
      go_end0
      exact ⟨rfl, Hq.out⟩
end Go.Proofs.Ytkkmkogpbhcpmaa
