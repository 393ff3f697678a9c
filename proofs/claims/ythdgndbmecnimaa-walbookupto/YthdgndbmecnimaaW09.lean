import Derived.Test.YthdgndbmecnimaaW08
import Derived.Deep.RegionHeld3
section
namespace Go.Proofs.Ythdgndbmecnimaa

/-- What a sector of the ring says: epoch, position, index, count, data. -/
structure PC where
  e : Nat
  p : Nat
  i : Nat
  c : Nat
  d : List Int

def PC.zero : PC := ⟨0, 0, 0, 0, []⟩
def pcBody (b : List Int) : PC := ⟨le (b.take 4), le ((b.drop 4).take 4), le ((b.drop 8).take 2), le ((b.drop 10).take 2), b.drop 12⟩
/-- What lies in a sector. -/
def pcOf (l : List Int) : PC := if (sopens l).2 ≠ 0 ∨ (sopens l).1.length < 12 then PC.zero else pcBody (sopens l).1

/-- It is the piece that is due. -/
def PC.ok (q : PC) (E P i c : Nat) : Prop := q.e = E ∧ q.p = P ∧ q.i = i ∧ q.c = c ∧ 0 < q.d.length ∧ (i + 1 ≠ c → q.d.length = 492)

/-- The data of the first k pieces from P on. -/
def dataTo (R : Nat → PC) (P k : Nat) : List Int := (List.range k).flatMap (fun i => (R (P + i)).d)
theorem dataTo_zero (R : Nat → PC) (P : Nat) : dataTo R P 0 = [] := rfl
theorem dataTo_succ (R : Nat → PC) (P k : Nat) : dataTo R P (k + 1) = dataTo R P k ++ (R (P + k)).d := by simp [dataTo, List.range_succ]

/-- A record of c sectors lies at P. -/
def Rec (R : Nat → PC) (E P c : Nat) (d : List Int) : Prop := 1 ≤ c ∧ c ≤ 17 ∧ (∀ i, i < c → (R (P + i)).ok E (P + i) i c) ∧ d = dataTo R P c

theorem Rec.count {R : Nat → PC} {E P c : Nat} {d : List Int} (h : Rec R E P c d) : (R P).c = c := by
  have := (h.2.2.1 0 h.1).2.2.2.1
  simpa using this
theorem Rec.unique {R : Nat → PC} {E P c c' : Nat} {d d' : List Int} (h : Rec R E P c d) (h' : Rec R E P c' d') : c = c' ∧ d = d' := by
  have e : c = c' := h.count.symm.trans h'.count
  subst e
  exact ⟨rfl, h.2.2.2.trans h'.2.2.2.symm⟩

/-- The records from P on, and the place behind them. -/
def Tells (R : Nat → PC) (E : Nat) : Nat → List (List Int) → Nat → Prop
  | P, [], h => h = P
  | P, d :: ds, h => ∃ c, Rec R E P c d ∧ Tells R E (P + c) ds h

theorem Tells.nil (R : Nat → PC) (E P : Nat) : Tells R E P [] P := rfl
theorem Tells.snoc {R : Nat → PC} {E : Nat} : ∀ {rs : List (List Int)} {P h c : Nat} {d : List Int}, Tells R E P rs h → Rec R E h c d → Tells R E P (rs ++ [d]) (h + c)
  | [], P, h, c, d, ht, hr => by
    have ht : h = P := ht
    subst ht
    exact ⟨c, hr, rfl⟩
  | x :: xs, P, h, c, d, ⟨k, hk, ht⟩, hr => ⟨k, hk, Tells.snoc ht hr⟩
theorem Tells.unique {R : Nat → PC} {E : Nat} : ∀ {rs rs' : List (List Int)} {P h h' : Nat}, Tells R E P rs h → (∀ c d, ¬ Rec R E h c d) → Tells R E P rs' h' → (∀ c d, ¬ Rec R E h' c d) → rs = rs' ∧ h = h'
  | [], [], P, h, h', a, _, b, _ => ⟨rfl, (show h = P from a).trans (show h' = P from b).symm⟩
  | [], x :: xs, P, h, h', a, hn, ⟨k, hk, _⟩, _ => by
    have a : h = P := a
    subst a
    exact absurd hk (hn _ _)
  | x :: xs, [], P, h, h', ⟨k, hk, _⟩, _, b, hn => by
    have b : h' = P := b
    subst b
    exact absurd hk (hn _ _)
  | x :: xs, y :: ys, P, h, h', ⟨k, hk, ht⟩, hn, ⟨k', hk', ht'⟩, hn' => by
    obtain ⟨rfl, rfl⟩ := hk.unique hk'
    obtain ⟨rfl, rfl⟩ := Tells.unique ht hn ht' hn'
    exact ⟨rfl, rfl⟩
theorem Tells.le {R : Nat → PC} {E : Nat} : ∀ {rs : List (List Int)} {P h : Nat}, Tells R E P rs h → P ≤ h
  | [], P, h, a => Nat.le_of_eq (show h = P from a).symm
  | x :: xs, P, h, ⟨k, hk, ht⟩ => by have := Tells.le ht; omega
theorem Rec.at {R : Nat → PC} {E P c : Nat} {d : List Int} (h : Rec R E P c d) {q : Nat} (h1 : P ≤ q) (h2 : q < P + c) : (R q).p = q := by
  have := (h.2.2.1 (q - P) (by omega)).2.1
  rwa [show P + (q - P) = q by omega] at this
theorem Tells.at {R : Nat → PC} {E : Nat} : ∀ {rs : List (List Int)} {P h : Nat}, Tells R E P rs h → ∀ q, P ≤ q → q < h → (R q).p = q
  | [], P, h, a, q, h1, h2 => by have a : h = P := a; omega
  | x :: xs, P, h, ⟨k, hk, ht⟩, q, h1, h2 => by
    by_cases h3 : q < P + k
    · exact hk.at h1 h3
    · exact Tells.at ht q (by omega) h2
theorem Tells.round {R : Nat → PC} {E n : Nat} (hn : 1 ≤ n) (hR : ∀ q, R (q + n) = R q) {rs : List (List Int)} {P h : Nat} (ht : Tells R E P rs h) : h ≤ P + n := by
  rcases Nat.lt_or_ge (P + n) h with h1 | h1
  · have a := ht.at P (Nat.le_refl _) (by omega)
    have b := ht.at (P + n) (by omega) h1
    rw [hR] at b
    omega
  · exact h1
theorem Tells.length {R : Nat → PC} {E : Nat} : ∀ {rs : List (List Int)} {P h : Nat}, Tells R E P rs h → P + rs.length ≤ h
  | [], P, h, a => Nat.le_of_eq (show h = P from a).symm
  | x :: xs, P, h, ⟨k, hk, ht⟩ => by have := Tells.length ht; have := hk.1; simp only [List.length_cons]; omega

/-- The state of a scan: whole records up to h, then j pieces of one of c. -/
structure Scan (R : Nat → PC) (E T : Nat) (rs : List (List Int)) (h j c : Nat) (d : List Int) : Prop where
  t : Tells R E T rs h
  p : ∀ i, i < j → (R (h + i)).ok E (h + i) i c
  c : 0 < j → 1 ≤ c ∧ c ≤ 17 ∧ j < c
  d : d = dataTo R h j
theorem Scan.start (R : Nat → PC) (E T : Nat) (c : Nat) : Scan R E T [] T 0 c [] := ⟨rfl, fun i hi => by omega, fun h => by omega, rfl⟩
/-- The count that is due. -/
def dueC (R : Nat → PC) (h j c : Nat) : Nat := if j = 0 then (R h).c else c
theorem Scan.grow {R : Nat → PC} {E T : Nat} {rs : List (List Int)} {h j c : Nat} {d : List Int} (s : Scan R E T rs h j c d) (hk : (R (h + j)).ok E (h + j) j (dueC R h j c)) (h1 : 1 ≤ dueC R h j c) (h2 : dueC R h j c ≤ 17) (hl : j + 1 ≠ dueC R h j c) (hj : j < dueC R h j c) :
    Scan R E T rs h (j + 1) (dueC R h j c) (d ++ (R (h + j)).d) := by
  refine ⟨s.t, fun i hi => ?_, fun _ => ⟨h1, h2, by omega⟩, by rw [s.d, dataTo_succ]⟩
  by_cases e : i = j
  · subst e; exact hk
  · have hj0 : j ≠ 0 := by omega
    have := s.p i (by omega)
    rwa [dueC, if_neg hj0]
theorem Scan.full {R : Nat → PC} {E T : Nat} {rs : List (List Int)} {h j c : Nat} {d : List Int} (s : Scan R E T rs h j c d) (hk : (R (h + j)).ok E (h + j) j (dueC R h j c)) (h2 : dueC R h j c ≤ 17) (hl : j + 1 = dueC R h j c) (c' : Nat) :
    Scan R E T (rs ++ [d ++ (R (h + j)).d]) (h + j + 1) 0 c' [] := by
  refine ⟨?_, fun i hi => by omega, fun h => by omega, rfl⟩
  have hr : Rec R E h (j + 1) (d ++ (R (h + j)).d) := by
    refine ⟨by omega, by omega, fun i hi => ?_, by rw [s.d, dataTo_succ]⟩
    by_cases e : i = j
    · subst e; rw [hl]; exact hk
    · have := s.p i (by omega)
      have hj0 : j ≠ 0 := by omega
      rw [hl, dueC, if_neg hj0]
      exact this
  exact s.t.snoc hr
theorem Scan.ends {R : Nat → PC} {E T : Nat} {rs : List (List Int)} {h j c : Nat} {d : List Int} (s : Scan R E T rs h j c d) (hk : ¬ ((R (h + j)).ok E (h + j) j (dueC R h j c) ∧ 1 ≤ dueC R h j c ∧ dueC R h j c ≤ 17 )) : ∀ c d, ¬ Rec R E h c d := by
  intro k x hr
  by_cases e : j = 0
  · subst e
    refine hk ?_
    rw [dueC, if_pos rfl, hr.count]
    exact ⟨hr.2.2.1 0 hr.1, hr.1, hr.2.1⟩
  · have hc := s.c (by omega)
    have h0 := s.p 0 (by omega)
    have ek : k = c := by rw [← hr.count]; simpa using h0.2.2.2.1
    subst ek
    refine hk ?_
    rw [dueC, if_neg e]
    exact ⟨hr.2.2.1 j hc.2.2, hr.1, hr.2.1⟩
theorem Scan.at {R : Nat → PC} {E T : Nat} {rs : List (List Int)} {h j c : Nat} {d : List Int} (s : Scan R E T rs h j c d) (q : Nat) (h1 : T ≤ q) (h2 : q < h + j) : (R q).p = q := by
  by_cases h3 : q < h
  · exact s.t.at q h1 h3
  · have := (s.p (q - h) (by omega)).2.1
    rwa [show h + (q - h) = q by omega] at this
/-- Once around: nothing more is there. -/
theorem Scan.round {R : Nat → PC} {E T n : Nat} {rs : List (List Int)} {h j c : Nat} {d : List Int} (hn : 1 ≤ n) (hR : ∀ q, R (q + n) = R q) (s : Scan R E T rs h j c d) (hj : h + j = T + n) : ∀ c d, ¬ Rec R E h c d := by
  refine s.ends (fun hk => ?_)
  have a := hk.1.2.1
  rw [hj, hR] at a
  have := s.at T (Nat.le_refl _) (by omega)
  omega

/-- The greatest epoch of the first k sectors. -/
def rtop (R : Nat → PC) : Nat → Nat
  | 0 => 0
  | k + 1 => if (R k).e ≤ 1073741824 then max (rtop R k) (R k).e else rtop R k
theorem rtop_le (R : Nat → PC) : ∀ k, rtop R k ≤ 1073741824
  | 0 => by simp [rtop]
  | k + 1 => by
    have := rtop_le R k
    unfold rtop
    split <;> omega
theorem le_room {l : List Int} (hb : Bytes l) {k : Nat} (h : l.length ≤ k) : le l < 2 ^ (8 * k) := Nat.lt_of_lt_of_le (le_lt hb) (Nat.pow_le_pow_right (by omega) (by omega))
theorem le_len2 {l : List Int} (hb : Bytes l) (h : l.length ≤ 2) : le l < 65536 := le_room hb (k := 2) h
theorem le_len4 {l : List Int} (hb : Bytes l) (h : l.length ≤ 4) : le l < 4294967296 := le_room hb (k := 4) h
theorem so_bytes {l : List Int} (hb : Bytes l) : Bytes (sopens l).1 := by
  unfold sopens
  split
  · exact Bytes.nil
  · split
    · exact Bytes.nil
    · rename_i b h
      rw [(sopen_some h).2.2.2]
      exact (hb.drop 7).take _
theorem so_len (l : List Int) : (sopens l).1.length ≤ 504 := by
  unfold sopens
  split
  · simp
  · split
    · simp
    · rename_i h1 b h
      exact sopen_len h (by omega)
theorem pcOf_small {l : List Int} (hb : Bytes l) : (pcOf l).e < 4294967296 ∧ (pcOf l).p < 4294967296 ∧ (pcOf l).i < 65536 ∧ (pcOf l).c < 65536 ∧ (pcOf l).d.length ≤ 492 ∧ Bytes (pcOf l).d := by
  have h1 := so_bytes hb
  have h2 := so_len l
  unfold pcOf
  split
  · exact ⟨by decide, by decide, by decide, by decide, by decide, Bytes.nil⟩
  · exact ⟨le_len4 (h1.take _) (by simp; omega), le_len4 ((h1.drop _).take _) (by simp; omega), le_len2 ((h1.drop _).take _) (by simp; omega), le_len2 ((h1.drop _).take _) (by simp; omega), by simp [pcBody]; omega, h1.drop _⟩
end Go.Proofs.Ythdgndbmecnimaa
end

section
namespace Go.Proofs.Ythdgndbmecnimaa
open Go.RowKit

/-- The state with so many reads. -/
def DS.rds (S : DS) (r : Int) : DS := { S with reads := r }
/-- A disk, whatever it was asked to read. -/
def DiskR (w : World) (F : Nat → Prop) (p s : Nat) (S : DS) : Prop := ∃ r, DiskAt w F p s (S.rds r)

section
variable {w w' : World} {F G : Nat → Prop} {p s : Nat} {S : DS}
theorem DiskAt.r (h : DiskAt w F p s S) : DiskR w F p s S := ⟨S.reads, h⟩
theorem DiskR.ok (h : DiskR w F p s S) : S.Ok s := by
  obtain ⟨r, h⟩ := h
  exact ⟨h.ok.len, h.ok.lo, h.ok.hi, h.ok.puts, h.ok.fuse⟩
theorem DiskR.lt (h : DiskR w F p s S) : ∀ k, F k → k < w.heap.size := by obtain ⟨r, h⟩ := h; exact h.lt
theorem DiskR.mem (h : DiskR w F p s S) : F p := by obtain ⟨r, h⟩ := h; exact h.mem
theorem DiskR.keep (h : DiskR w F p s S) (k : Keeps G w w') (hd : ∀ k, F k → ¬ G k) : DiskR w' F p s S := by obtain ⟨r, h⟩ := h; exact ⟨r, h.keep k hd⟩
theorem DiskR.later (h : DiskR w F p s S) (hb : Below w.heap.size w w') : DiskR w' F p s S := h.keep (Keeps.of_below (fun _ => False) hb) (fun _ _ h => h)
theorem DiskR.boxed (h : DiskR w F p s S) (o : Obj) : DiskR (w.alloc o) F p s S := h.later ((Below.refl w.heap.size w).alloc (Nat.le_refl _) o)
theorem DiskR.mono (h : DiskR w F p s S) (hG : ∀ k, F k → G k) (hl : ∀ k, G k → k < w.heap.size) : DiskR w G p s S := by obtain ⟨r, h⟩ := h; exact ⟨r, h.mono hG hl⟩
theorem DiskR.more (h : DiskR w' F p s S) : DiskR w' (more F w w') p s S := by obtain ⟨r, h⟩ := h; exact ⟨r, h.more⟩

theorem rds_wr (S : DS) (r : Int) (s : Nat) (x : Int) (n : Nat) (l : List Int) : (S.rds r).wr s x n l = ((S.wr s x n l).1, (S.wr s x n l).2.rds r) := by
  unfold DS.wr
  show (if S.fuse = 0 then _ else _) = _
  split
  · rfl
  · split
    · rfl
    · split <;> rfl
theorem rds_fl (S : DS) (r : Int) (s : Nat) : (S.rds r).fl s = ((S.fl s).1, (S.fl s).2.rds r) := by
  unfold DS.fl
  show (if S.fuse = 0 then _ else _) = _
  split <;> rfl
theorem rds_now (S : DS) (r : Int) (k : Nat) : (S.rds r).now k = S.now k := rfl
theorem rds_lay (S : DS) (r x : Int) : (S.rds r).lay x = (S.lay x).rds r := by
  unfold DS.lay
  show (if S.fuse = 0 then _ else _) = _
  split <;> rfl

theorem dsectors (h : DiskR w F p s S) : Calls Try.prog 25 #[.pointer (some ⟨p, 0, none⟩)] w fun e w' => e = .returned (.int .i64 s) ∧ w' = w := by
  obtain ⟨r, h⟩ := h; exact sectors_at h
theorem dburnt (h : DiskR w F p s S) : Calls Try.prog 58 #[.pointer (some ⟨p, 0, none⟩)] w fun e w' => e = .returned (.bool (S.fuse == 0)) ∧ w' = w := by
  obtain ⟨r, h⟩ := h; exact burnt_at (S := S.rds r) h
theorem dlife (h : DiskR w F p s S) : Calls Try.prog 26 #[.pointer (some ⟨p, 0, none⟩)] w fun e w' => e = .returned (.int .i64 S.life) ∧ w' = w := by
  obtain ⟨r, h⟩ := h; exact life_at (S := S.rds r) h
theorem dtake (h : DiskR w F p s S) : Calls Try.prog 41 #[.pointer (some ⟨p, 0, none⟩)] w fun e w' => e = .returned (.int .i64 (wrap64 (S.life + 1))) ∧ DiskR w' F p s S.take ∧ Keeps F w w' := by
  obtain ⟨r, h⟩ := h
  refine (take_at h).mono ?_
  rintro e w' ⟨rfl, h1, h2⟩
  exact ⟨rfl, ⟨r, h1⟩, h2⟩
theorem dread_dead (h : DiskR w F p s S) (x : Int) (hf : S.fuse = 0) : Calls Try.prog 54 #[.pointer (some ⟨p, 0, none⟩), .int .i64 x] w fun e w' => e = .returned (.tuple #[.slice none 0 0, .int .i64 3]) ∧ w' = w := by
  obtain ⟨r, h⟩ := h; exact read_dead h x hf
theorem dread_ok (h : DiskR w F p s S) (k : Nat) (hk : k < s) (hbig : S.puts.length + 1 ≤ 4000000000000) (hf : S.fuse ≠ 0) :
    Calls Try.prog 54 #[.pointer (some ⟨p, 0, none⟩), .int .i64 (k : Int)] w fun e w' => ∃ v, e = .returned (.tuple #[v, .int .i64 0]) ∧ Out w.heap.size w' (S.now k) v ∧ DiskR w' F p s S ∧ Keeps F w w' := by
  obtain ⟨r, h⟩ := h
  have h1 := read_all h (k : Int) hbig
  rw [rd_in (S := S.rds r) hf hk] at h1
  refine h1.mono ?_
  rintro e w' ⟨v, rfl, h2, h3, h4⟩
  exact ⟨v, rfl, h2, ⟨_, h3⟩, h4⟩
theorem dwrite (h : DiskR w F p s S) (x : Int) (a : Option Addr) (n c : Nat) (l : List Int) (hs : Src w a n l) (hbig : S.puts.length + 1 ≤ 4000000000000) :
    Calls Try.prog 57 #[.pointer (some ⟨p, 0, none⟩), .int .i64 x, .slice a n c] w fun e w' => e = .returned (.int .i64 (S.wr s x n l).1) ∧ DiskR w' (more F w w') p s (S.wr s x n l).2 ∧ Keeps F w w' := by
  obtain ⟨r, h⟩ := h
  have h1 := write_all h x a n c l hs hbig
  rw [rds_wr] at h1
  refine h1.mono ?_
  rintro e w' ⟨rfl, h2, h3⟩
  exact ⟨rfl, ⟨r, h2⟩, h3⟩
theorem dflush (h : DiskR w F p s S) (hbig : S.puts.length + 1 ≤ 4000000000000) :
    Calls Try.prog 39 #[.pointer (some ⟨p, 0, none⟩)] w fun e w' => e = .returned (.int .i64 (S.fl s).1) ∧ DiskR w' F p s (S.fl s).2 ∧ Keeps F w w' := by
  obtain ⟨r, h⟩ := h
  have h1 := flush_all h hbig
  rw [rds_fl] at h1
  refine h1.mono ?_
  rintro e w' ⟨rfl, h2, h3⟩
  exact ⟨rfl, ⟨r, h2⟩, h3⟩
theorem dcrash (h : DiskR w F p s S) (hbig : S.puts.length + 1 ≤ 4000000000000) (a : Option Addr) (n c : Nat) (l : List P3) (hps : PSrc w a n l) (hn : n ≤ 140737488355328) (hF : ∀ x, a = some x → ¬ F x.block) :
    Calls Try.prog 27 #[.pointer (some ⟨p, 0, none⟩), .slice a n c] w fun e w' => e = .returned (.tuple #[]) ∧ DiskR w' F p s (S.crash s l) ∧ Keeps F w w' := by
  obtain ⟨r, h⟩ := h
  refine (crash_ok sorts sortn h (by show S.puts.length + 1 ≤ _; omega) a n c l hps hn hF).mono ?_
  rintro e w' ⟨rfl, h2, h3⟩
  exact ⟨rfl, ⟨r, h2⟩, h3⟩
theorem dimage (h : DiskR w F p s S) : Calls Try.prog 28 #[.pointer (some ⟨p, 0, none⟩)] w fun e w' => ∃ g c, e = .returned (.slice (some ⟨g, 0, none⟩) (s * 512) c) ∧ w.heap.size ≤ g ∧ RowAt w' 5 g c (bs S.im) ∧ Below w.heap.size w w' := by
  obtain ⟨r, h⟩ := h; exact image_any p s F (S.rds r) w h
theorem dcounts (h : DiskR w F p s S) (hbig : S.puts.length ≤ 140737488355328) : Calls Try.prog 24 #[.pointer (some ⟨p, 0, none⟩)] w fun e w' => ∃ r, e = .returned (.agg (cnCells r S.writes S.flushes S.refused S.puts.length)) ∧ Below w.heap.size w w' := by
  obtain ⟨r, h⟩ := h
  refine (counts_any p s F _ w h hbig).mono ?_
  rintro e w' ⟨rfl, h2⟩
  exact ⟨r, rfl, h2⟩

/-- What the next anchor makes of a disk. -/
def anew (S : DS) (s f : Nat) (num : Int) : Int × DS :=
  if S.fuse = 0 then (3, S) else
  if (srenew (S.now f) (S.now (f + 1)) num []).2.2 ≠ 0 then (((srenew (S.now f) (S.now (f + 1)) num []).2.2 : Int), S) else
  if (S.wr s ((f : Int) + ((srenew (S.now f) (S.now (f + 1)) num []).1 : Int)) 512 (srenew (S.now f) (S.now (f + 1)) num []).2.1).1 ≠ 0 then S.wr s ((f : Int) + ((srenew (S.now f) (S.now (f + 1)) num []).1 : Int)) 512 (srenew (S.now f) (S.now (f + 1)) num []).2.1
  else (S.wr s ((f : Int) + ((srenew (S.now f) (S.now (f + 1)) num []).1 : Int)) 512 (srenew (S.now f) (S.now (f + 1)) num []).2.1).2.fl s
theorem rds_anew (S : DS) (r : Int) (s f : Nat) (num : Int) (hf : S.fuse ≠ 0) : ∃ r', arenew (S.rds r) s f num = ((anew S s f num).1, (anew S s f num).2.rds r') := by
  unfold arenew anew
  rw [if_neg hf]
  simp only [rds_now]
  have e : (S.rds r).read.read = S.rds (wrap64 (wrap64 (r + 1) + 1)) := rfl
  simp only [e, rds_wr]
  split
  · exact ⟨_, rfl⟩
  · split
    · exact ⟨_, rfl⟩
    · simp only [rds_fl]
      exact ⟨_, rfl⟩
theorem dnewest (h : DiskR w F p s S) (f : Nat) (n : Int) (hbig : S.puts.length + 1 ≤ 4000000000000) (hf : S.fuse ≠ 0) (hs : f + 1 < s) (hb1 : Bytes (S.now f)) (hb2 : Bytes (S.now (f + 1))) :
    Calls Try.prog 62 #[areaV p f n] w fun e w' => e = .returned (.tuple #[.int .i64 ((lnewest (S.now f) (S.now (f + 1))).1 : Int), .int .i64 ((lnewest (S.now f) (S.now (f + 1))).2.1 : Int), .int .i64 ((lnewest (S.now f) (S.now (f + 1))).2.2 : Int)]) ∧ DiskR w' F p s S ∧ Keeps F w w' := by
  obtain ⟨r, h⟩ := h
  refine (anewest_ok h f n hbig hf hs hb1 hb2).mono ?_
  rintro e w' ⟨rfl, h2, h3⟩
  exact ⟨rfl, ⟨_, h2⟩, h3⟩
theorem drefusal (h : DiskR w F p s S) (f n : Int) : Calls Try.prog 40 #[areaV p f n] w fun e w' => e = .returned (.int .i64 (lrefuse S s f n)) ∧ Below w.heap.size w w' := by
  have hs := h.ok.hi
  obtain ⟨r, h⟩ := h
  exact refusal_any h f n hs
end

set_option maxRecDepth 20000 in
set_option maxHeartbeats 4000000 in
theorem renew_dead {w : World} {F : Nat → Prop} {p s : Nat} {S : DS} (h : DiskR w F p s S) (f : Nat) (n : Int) (E T : Int) (hbig : S.puts.length + 1 ≤ 4000000000000) (hf : S.fuse = 0) :
    Calls Try.prog 50 #[areaV p f n, .int .i64 E, .int .i64 T] w fun e w' => e = .returned (.int .i64 3) ∧ DiskR w' F p s S ∧ Keeps F w w' := by
  obtain ⟨r, h⟩ := h
  have hB := Keeps.boxed (w := w) F (.cells #[.pointer (some ⟨p, 0, none⟩), .int .i64 f, .int .i64 n] 64)
  have h1 := pair_dead (h.boxed (.cells #[.pointer (some ⟨p, 0, none⟩), .int .i64 f, .int .i64 n] 64)) f n hbig hf
  have HB := Hid.mk hB
  clear h hB hf
  go_enter Try.func50, Try.ntmps50
  go_wp2_with fail
  refine h1.mono ?_
  rintro e w1 ⟨rfl, hd, hk⟩
  have HD := Hid.mk hd
  have HK := Hid.mk (HB.out.trans hk (fun _ h => .inl h))
  clear hd hk h1
  go_wp2
  go_ret
  exact ⟨rfl, ⟨r, HD.out⟩, HK.out⟩

theorem drenew {w : World} {F : Nat → Prop} {p s : Nat} {S : DS} (h : DiskR w F p s S) (f : Nat) (n : Int) (E T : Nat) (hE : E ≤ 1073741824) (hT : T ≤ 1073741824) (hbig : S.puts.length + 2 ≤ 4000000000000) (hs : f + 1 < s) (hb1 : Bytes (S.now f)) (hb2 : Bytes (S.now (f + 1))) :
    Calls Try.prog 50 #[areaV p f n, .int .i64 (E : Int), .int .i64 (T : Int)] w fun e w' => e = .returned (.int .i64 (anew S s f ((E : Int) * 4294967296 + T)).1) ∧ DiskR w' (more F w w') p s (anew S s f ((E : Int) * 4294967296 + T)).2 ∧ Keeps F w w' := by
  by_cases hf : S.fuse = 0
  · refine (renew_dead h f n E T (by omega) hf).mono ?_
    rintro e w' ⟨rfl, h1, h2⟩
    unfold anew
    rw [if_pos hf]
    exact ⟨rfl, h1.more, h2⟩
  · obtain ⟨r, h⟩ := h
    obtain ⟨r', e'⟩ := rds_anew S r s f ((E : Int) * 4294967296 + T) hf
    have h1 := arenew_ok h f n E T hE hT hbig hf hs hb1 hb2
    rw [e'] at h1
    refine h1.mono ?_
    rintro e w' ⟨rfl, h2, h3⟩
    exact ⟨rfl, ⟨r', h2⟩, h3⟩
end Go.Proofs.Ythdgndbmecnimaa
end

section
namespace Go.Proofs.Ythdgndbmecnimaa
open Go.RowKit

/-- A log's state. -/
structure LG where
  f : Nat
  n : Nat
  life : Int
  begun : Bool
  ep : Nat
  tail : Nat
  head : Nat
  top : Nat

abbrev lgC (p : Nat) (L : LG) : Array Value := #[.pointer (some ⟨p, 0, none⟩), .int .i64 (L.f : Int), .int .i64 (L.n : Int), .int .i64 L.life, .bool L.begun, .int .i64 (L.ep : Int), .int .i64 (L.tail : Int), .int .i64 (L.head : Int), .int .i64 (L.top : Int)]
/-- The program's log in memory. -/
def LogP (w : World) (l p : Nat) (L : LG) : Prop := w.heap[l]? = some (.cells (lgC p L) 66 (0, 0))
theorem LogP.lt {w : World} {l p : Nat} {L : LG} (h : LogP w l p L) : l < w.heap.size := lt_there h
theorem LogP.keep {w w' : World} {l p : Nat} {L : LG} {G : Nat → Prop} (h : LogP w l p L) (k : Keeps G w w') (hn : ¬ G l) : LogP w' l p L := (k.block l h.lt hn).trans h

section
variable {w : World} {l p : Nat} {L : LG}
theorem LogP.c0 (h : LogP w l p L) : w.cell? ⟨l, 0, none⟩ = some (.pointer (some ⟨p, 0, none⟩)) := cell_of_block h (j := 0) rfl
theorem LogP.c1 (h : LogP w l p L) : w.cell? ⟨l, 1, none⟩ = some (.int .i64 (L.f : Int)) := cell_of_block h (j := 1) rfl
theorem LogP.c2 (h : LogP w l p L) : w.cell? ⟨l, 2, none⟩ = some (.int .i64 (L.n : Int)) := cell_of_block h (j := 2) rfl
theorem LogP.c3 (h : LogP w l p L) : w.cell? ⟨l, 3, none⟩ = some (.int .i64 L.life) := cell_of_block h (j := 3) rfl
theorem LogP.c4 (h : LogP w l p L) : w.cell? ⟨l, 4, none⟩ = some (.bool L.begun) := cell_of_block h (j := 4) rfl
theorem LogP.c5 (h : LogP w l p L) : w.cell? ⟨l, 5, none⟩ = some (.int .i64 (L.ep : Int)) := cell_of_block h (j := 5) rfl
theorem LogP.c6 (h : LogP w l p L) : w.cell? ⟨l, 6, none⟩ = some (.int .i64 (L.tail : Int)) := cell_of_block h (j := 6) rfl
theorem LogP.c7 (h : LogP w l p L) : w.cell? ⟨l, 7, none⟩ = some (.int .i64 (L.head : Int)) := cell_of_block h (j := 7) rfl
theorem LogP.c8 (h : LogP w l p L) : w.cell? ⟨l, 8, none⟩ = some (.int .i64 (L.top : Int)) := cell_of_block h (j := 8) rfl
theorem LogP.fz (h : LogP w l p L) (j : Nat) : w.frozen? ⟨l, j, none⟩ = false := frozen_of_block h j
end

/-- What can be said of a log on a disk of s sectors. -/
structure LG.Ok (L : LG) (s : Nat) : Prop where
  s : L.f + 2 + L.n ≤ s
  n1 : 18 ≤ L.n
  n2 : L.n ≤ 256
  ep : L.ep ≤ 1073741824
  top : L.top < 1073741824
  th : L.tail ≤ L.head
  hn : L.head ≤ L.tail + L.n
  hi : L.head ≤ 1073742080
  hb : L.begun = true → L.head ≤ 1073741824

def LG.dead (L : LG) (S : DS) : Bool := S.fuse == 0 || S.life != L.life
def LG.unready (L : LG) (S : DS) : Int := if L.dead S = true then 3 else if L.begun = true then 0 else 4

section
variable {w : World} {F : Nat → Prop} {p s l : Nat} {S : DS} {L : LG}

theorem DiskR.laterB {w w' : World} {F : Nat → Prop} {p s : Nat} {S : DS} (h : DiskR w F p s S) (hb : Below w.heap.size w w') : DiskR w' F p s S := h.later hb
theorem LogP.later {w w' : World} {l p : Nat} {L : LG} (h : LogP w l p L) (hb : Below w.heap.size w w') : LogP w' l p L := (hb.block l h.lt).trans h

set_option maxRecDepth 20000 in
set_option maxHeartbeats 4000000 in
theorem dead_any (h : DiskR w F p s S) (hl : LogP w l p L) :
    Calls Try.prog 51 #[.pointer (some ⟨l, 0, none⟩)] w fun e w' => e = .returned (.bool (L.dead S)) ∧ Below w.heap.size w w' := by
  have h1 := fun n => dburnt (h.later (below_drewN (Below.refl w.heap.size w) n))
  have h2 := fun n => dlife (h.later (below_drewN (Below.refl w.heap.size w) n))
  have c0 := hl.c0
  have c3 := hl.c3
  unfold LG.dead
  clear h hl
  by_cases q : S.fuse = 0
  · rw [show (S.fuse == 0) = true by simp [q]] at h1 ⊢
    clear q
    go_enter Try.func51, Try.ntmps51
    go_wp2_with fail
    go_quiet ((go_at_call 58; exact Calls.quiet_of_same (h1 _)))
    go_wp2
    go_ret
    exact ⟨rfl, below_drewN (Below.refl _ _) _⟩
  · rw [show (S.fuse == 0) = false by simp [q]] at h1 ⊢
    clear q
    go_enter Try.func51, Try.ntmps51
    go_wp2_with fail
    go_quiet (first | (go_at_call 58; exact Calls.quiet_of_same (h1 _)) | (go_at_call 26; exact Calls.quiet_of_same (h2 _)))
    go_wp2
    go_ret
    exact ⟨rfl, below_drewN (Below.refl _ _) _⟩

set_option maxRecDepth 20000 in
set_option maxHeartbeats 4000000 in
theorem unready_any (h : DiskR w F p s S) (hl : LogP w l p L) :
    Calls Try.prog 33 #[.pointer (some ⟨l, 0, none⟩)] w fun e w' => e = .returned (.int .i64 (L.unready S)) ∧ Below w.heap.size w w' := by
  have h1 := dead_any h hl
  unfold LG.unready
  have HL := Hid.mk hl
  clear h hl
  cases hd : L.dead S
  · rw [hd] at h1
    cases hb : L.begun
    · rw [if_neg (by decide), if_neg (by decide)]
      go_enter Try.func33, Try.ntmps33
      go_wp2_with fail
      refine h1.mono ?_
      rintro e w' ⟨rfl, hb'⟩
      have c4 := (HL.out.later hb').c4
      rw [hb] at c4
      have HB := Hid.mk hb'
      clear hb' h1
      go_wp2
      go_ret
      exact ⟨rfl, HB.out⟩
    · rw [if_neg (by decide), if_pos rfl]
      go_enter Try.func33, Try.ntmps33
      go_wp2_with fail
      refine h1.mono ?_
      rintro e w' ⟨rfl, hb'⟩
      have c4 := (HL.out.later hb').c4
      rw [hb] at c4
      have HB := Hid.mk hb'
      clear hb' h1
      go_wp2
      go_ret
      exact ⟨rfl, HB.out⟩
  · rw [hd] at h1
    rw [if_pos rfl]
    go_enter Try.func33, Try.ntmps33
    go_wp2_with fail
    refine h1.mono ?_
    rintro e w' ⟨rfl, hb'⟩
    have HB := Hid.mk hb'
    clear hb' h1
    go_wp2
    go_ret
    exact ⟨rfl, HB.out⟩

set_option maxRecDepth 20000 in
set_option maxHeartbeats 4000000 in
theorem room_any (hl : LogP w l p L) (hk : L.Ok s) :
    Calls Try.prog 35 #[.pointer (some ⟨l, 0, none⟩)] w fun e w' => e = .returned (.int .i64 ((L.n : Int) - ((L.head : Int) - (L.tail : Int)))) ∧ Below w.heap.size w w' := by
  have c2 := hl.c2
  have c6 := hl.c6
  have c7 := hl.c7
  have b1 := hk.n2
  have b2 := hk.th
  have b3 := hk.hi
  have b4 := hk.hn
  clear hl hk
  go_enter Try.func35, Try.ntmps35
  go_wp2_with fail
  go_quiet (fail)
  go_wp2
  go_ret
  exact ⟨rfl, below_drewN (Below.refl _ _) _⟩

theorem sectorsOf_any (x : Nat) (w : World) (hx : x ≤ 140737488355328) : Calls Try.prog 34 #[.int .i64 (x : Int)] w fun e w' => e = .returned (.int .i64 (((x + 491) / 492 : Nat) : Int)) ∧ w' = w := by
  have h : ((x : Int) + 492 - 1) / 492 = (((x + 491) / 492 : Nat) : Int) := by omega
  go_enter Try.func34, Try.ntmps34
  go_wp2
  go_ret
  rw [h]
  exact ⟨rfl, rfl⟩

/-- What Room tells. -/
def LG.room (L : LG) (S : DS) : Int × Int := if L.unready S ≠ 0 then (0, L.unready S) else ((L.n : Int) - ((L.head : Int) - (L.tail : Int)), 0)

/-- What Sync does. -/
def LG.sync (L : LG) (S : DS) (s : Nat) : Int × DS := if L.unready S ≠ 0 then (L.unready S, S) else S.fl s

set_option maxRecDepth 20000 in
set_option maxHeartbeats 4000000 in
theorem Sync_any (h : DiskR w F p s S) (hl : LogP w l p L) (hF : ¬ F l) (hbig : S.puts.length + 1 ≤ 4000000000000) :
    Calls Try.prog 12 #[.pointer (some ⟨l, 0, none⟩)] w fun e w' => e = .returned (.int .i64 (L.sync S s).1) ∧ DiskR w' F p s (L.sync S s).2 ∧ LogP w' l p L ∧ Keeps F w w' := by
  have h1 := unready_any h hl
  have HL := Hid.mk hl
  have HD := Hid.mk h
  unfold LG.sync
  generalize L.unready S = U at *
  clear h hl
  by_cases q : U = 0
  · subst q
    rw [if_neg (by decide)]
    go_enter Try.func12, Try.ntmps12
    go_wp2_with fail
    refine h1.mono ?_
    rintro e w1 ⟨rfl, hb⟩
    have hl := HL.out.later hb
    have c0 := hl.c0
    have h2 := dflush (HD.out.later hb) hbig
    have HB := Hid.mk (Keeps.of_below F hb)
    have HL1 := Hid.mk hl
    clear hb h1 hl
    go_wp2_with fail
    refine h2.mono ?_
    rintro e w2 ⟨rfl, hd, hk⟩
    have HX := Hid.mk (And.intro hd (And.intro (HL1.out.keep hk hF) (HB.out.trans hk (fun _ h => .inl h))))
    clear hd hk h2
    go_wp2
    go_ret
    exact ⟨rfl, HX.out⟩
  · rw [if_pos q]
    have d : (U == 0) = false := by rw [beq_eq_false_iff_ne]; exact q
    go_enter Try.func12, Try.ntmps12
    go_wp2_with fail
    refine h1.mono ?_
    rintro e w1 ⟨rfl, hb⟩
    have HX := Hid.mk (And.intro (HD.out.later hb) (And.intro (HL.out.later hb) (Keeps.of_below F hb)))
    clear hb h1
    go_wp2
    go_ret
    exact ⟨rfl, HX.out⟩
end
end Go.Proofs.Ythdgndbmecnimaa
end

section
namespace Go.Proofs.Ythdgndbmecnimaa
open Go.RowKit

/-- A walk of steps that ends at the first error. -/
def stepsTo (S : DS) (g : Nat → DS → Int × DS) : Nat → Int × DS
  | 0 => (0, S)
  | k + 1 => if (stepsTo S g k).1 ≠ 0 then stepsTo S g k else g k (stepsTo S g k).2
theorem stepsTo_err {S : DS} {g : Nat → DS → Int × DS} {k : Nat} (h : (stepsTo S g k).1 ≠ 0) : ∀ m, k ≤ m → stepsTo S g m = stepsTo S g k
  | 0, hm => by rw [show k = 0 by omega]
  | m + 1, hm => by
    by_cases e : k = m + 1
    · rw [e]
    · have := stepsTo_err h m (by omega)
      show (if (stepsTo S g m).1 ≠ 0 then stepsTo S g m else g m (stepsTo S g m).2) = _
      rw [this, if_pos h]
theorem stepsTo_ok {S : DS} {g : Nat → DS → Int × DS} {k : Nat} (h : (stepsTo S g k).1 = 0) : stepsTo S g (k + 1) = g k (stepsTo S g k).2 := by
  rw [stepsTo, if_neg (by omega)]
theorem stepsTo_puts {S : DS} {g : Nat → DS → Int × DS} (hg : ∀ k T, (g k T).2.puts.length ≤ T.puts.length + 1) : ∀ k, (stepsTo S g k).2.puts.length ≤ S.puts.length + k
  | 0 => Nat.le_refl _
  | k + 1 => by
    have := stepsTo_puts hg k (S := S)
    have := hg k (stepsTo S g k).2
    unfold stepsTo
    split <;> omega

/-- The wiping of the first k sectors. -/
def wipeTo (S : DS) (s f k : Nat) : Int × DS := stepsTo S (fun j T => T.wr s ((f + j : Nat) : Int) 512 (zs 512)) k
def awipe (S : DS) (s f n : Nat) : Int × DS := if (wipeTo S s f (n + 2)).1 ≠ 0 then wipeTo S s f (n + 2) else (wipeTo S s f (n + 2)).2.fl s
theorem wipeTo_puts (S : DS) (s f k : Nat) : (wipeTo S s f k).2.puts.length ≤ S.puts.length + k := stepsTo_puts (fun _ _ => wr_puts _ _ _ _ _) k

theorem more_more {F : Nat → Prop} {w w1 w2 : World} (h1 : w.heap.size ≤ w1.heap.size) (h2 : w1.heap.size ≤ w2.heap.size) : ∀ k, more (more F w w1) w1 w2 k → more F w w2 k := fun k hk => by
  rcases hk with (hk | hk) | hk
  · exact .inl hk
  · exact .inr ⟨hk.1, by omega⟩
  · exact .inr ⟨by omega, hk.2⟩
theorem more_lt {F : Nat → Prop} {w w2 : World} (hl : ∀ k, F k → k < w.heap.size) (h2 : w.heap.size ≤ w2.heap.size) : ∀ k, more F w w2 k → k < w2.heap.size := fun k hk => by
  rcases hk with hk | hk
  · have := hl k hk; omega
  · exact hk.2
/-- A disk that has grown, told from an earlier world on. -/
theorem DiskR.from {w w1 w2 : World} {F : Nat → Prop} {p s : Nat} {S : DS} (h : DiskR w2 (Go.Proofs.Ythdgndbmecnimaa.more F w1 w2) p s S) (hl : ∀ k, F k → k < w.heap.size) (h1 : w.heap.size ≤ w1.heap.size) (h2 : w1.heap.size ≤ w2.heap.size) : DiskR w2 (Go.Proofs.Ythdgndbmecnimaa.more F w w2) p s S :=
  h.mono (fun k hk => by rcases hk with hk | hk; exact .inl hk; exact .inr ⟨by omega, hk.2⟩) (more_lt hl (by omega))
theorem DiskR.join {w w1 w2 : World} {F : Nat → Prop} {p s : Nat} {S : DS} (h : DiskR w2 (Go.Proofs.Ythdgndbmecnimaa.more (Go.Proofs.Ythdgndbmecnimaa.more F w w1) w1 w2) p s S) (hl : ∀ k, F k → k < w.heap.size) (h1 : w.heap.size ≤ w1.heap.size) (h2 : w1.heap.size ≤ w2.heap.size) : DiskR w2 (Go.Proofs.Ythdgndbmecnimaa.more F w w2) p s S :=
  h.mono (more_more h1 h2) (more_lt hl (by omega))
theorem Keeps.join {w w1 w2 : World} {F : Nat → Prop} (h1 : Keeps F w w1) (h2 : Keeps (more F w w1) w1 w2) : Keeps F w w2 :=
  h1.trans h2 (fun j hj => by rcases hj with hj | hj; exact .inl hj; exact .inr hj.1)
/-- Widened by what is new. -/
theorem DiskR.wide {w w1 w2 : World} {F : Nat → Prop} {p s : Nat} {S : DS} (h : DiskR w2 (Go.Proofs.Ythdgndbmecnimaa.more F w w1) p s S) (hl : ∀ k, F k → k < w.heap.size) (h1 : w.heap.size ≤ w1.heap.size) (h2 : w1.heap.size ≤ w2.heap.size) : DiskR w2 (Go.Proofs.Ythdgndbmecnimaa.more F w w2) p s S :=
  h.mono (fun k hk => by rcases hk with hk | hk; exact .inl hk; exact .inr ⟨hk.1, by omega⟩) (more_lt hl (by omega))

set_option maxRecDepth 20000 in
set_option maxHeartbeats 8000000 in
theorem wipe_any {w : World} {F : Nat → Prop} {p s : Nat} {S : DS} (h : DiskR w F p s S) (f n : Nat) (hfn : f + 2 + n ≤ s) (hn : n ≤ 256) (hbig : S.puts.length + 400 ≤ 4000000000000) :
    Calls Try.prog 49 #[areaV p f n] w fun e w' => e = .returned (.int .i64 (awipe S s f n).1) ∧ DiskR w' (more F w w') p s (awipe S s f n).2 ∧ Keeps F w w' := by
  have hs := h.ok.hi
  have HL := Hid.mk h.lt
  have hB := (Below.refl w.heap.size w).alloc (Nat.le_refl _) (.cells #[.pointer (some ⟨p, 0, none⟩), .int .i64 f, .int .i64 n] 64)
  have HD0 := Hid.mk (h.boxed (.cells #[.pointer (some ⟨p, 0, none⟩), .int .i64 f, .int .i64 n] 64))
  have HB := Hid.mk hB
  clear h hB
  go_enter Try.func49, Try.ntmps49
  go_wp2_with (at_make; refine wpList_make_part _ rfl _ _ rfl _ 512 512 rfl rfl ?c1 ?c2 ?c3 ?_)
  case c1 => rfl
  case c2 => omega
  case c3 => omega
  intro w1 hblk hb1
  have hd1 := HD0.out.later (by rw [World.size_alloc]; exact hb1)
  have hbox : w1.heap[w.heap.size]? = some (.cells #[.pointer (some ⟨p, 0, none⟩), .int .i64 f, .int .i64 n] 64 (0, 0)) := (hb1.block _ (by simp)).trans (heap_alloc_new _ _)
  have hz1 : w.heap.size + 1 ≤ w1.heap.size := by have := hb1.size; simpa using this
  have hsz : w.heap.size + 1 < w1.heap.size := hblk.lt
  have HX := Hid.mk hbox
  have HZ := Hid.mk hblk
  have HD1 := Hid.mk hd1
  have HB1 := Hid.mk (HB.out.trans (hb1.mono (by simp)))
  have HF : Hid (¬ F w.heap.size ∧ ¬ F (w.heap.size + 1)) := ⟨fun h => by have := HL.out _ h; omega, fun h => by have := HL.out _ h; omega⟩
  have c1 := cell_of_block hbox (j := 1) rfl
  clear hblk hb1 hd1 hbox
  go_wp2
  clear c1
  go_loopw [4] (fun i wr => ∃ k : Nat, k ≤ n + 2 ∧ i = .int .i64 ((f + k : Nat) : Int) ∧ (wipeTo S s f k).1 = 0 ∧ DiskR wr (more F w1 wr) p s (wipeTo S s f k).2 ∧ Keeps F w1 wr) (fun i _ => f + n + 2 - (intOf i).toNat)
  case atStart => exact ⟨0, Nat.zero_le _, by simp, rfl, HD1.out.more, Keeps.refl _ _⟩
  case round =>
    obtain ⟨k, hk, rfl, he, hd, hkp⟩ := hrel
    have hbox : wr.heap[w.heap.size]? = some (.cells #[.pointer (some ⟨p, 0, none⟩), .int .i64 f, .int .i64 n] 64 (0, 0)) := (hkp.block _ (by omega) HF.out.1).trans HX.out
    have hzr : Blk wr 5 (w.heap.size + 1) (zs 512) := (hkp.block _ (by omega) HF.out.2).trans HZ.out
    have c0 := cell_of_block hbox (j := 0) rfl
    have c1 := cell_of_block hbox (j := 1) rfl
    have c2 := cell_of_block hbox (j := 2) rfl
    have hx := aend_any p f n wr (by omega) (by omega) (by omega) (by omega)
    have HE := Hid.mk he
    have HDr := Hid.mk hd
    have HKr := Hid.mk hkp
    have HBX := Hid.mk hbox
    have HZr := Hid.mk hzr
    clear he hd hkp hbox hzr
    go_wp2_with fail
    refine hx.mono ?_
    rintro e w2 ⟨rfl, hb2⟩
    have hbox : w2.heap[w.heap.size]? = some (.cells #[.pointer (some ⟨p, 0, none⟩), .int .i64 f, .int .i64 n] 64 (0, 0)) := (hb2.block _ (lt_there HBX.out)).trans HBX.out
    have hzr : Blk w2 5 (w.heap.size + 1) (zs 512) := (hb2.block _ (lt_there HZr.out)).trans HZr.out
    have hd2 := HDr.out.later hb2
    have HK2 := Hid.mk (HKr.out.trans (Keeps.of_below (fun _ => False) hb2) (fun _ h => h.elim))
    have hz2 := hb2.size
    have hz3 := HKr.out.size
    have hp2 := wipeTo_puts S s f k
    clear hx hb2 c0 c1 c2
    have c0 := cell_of_block hbox (j := 0) rfl
    by_cases q : k < n + 2
    · have hlt : ((f + k : Nat) : Int) < (f : Int) + 2 + (n : Int) := by omega
      have hsrc := hzr.src (o := 0) (n := 512) (by rw [zs_len]; omega)
      rw [List.drop_zero, List.take_of_length_le (by rw [zs_len]; omega)] at hsrc
      have hw := dwrite hd2 ((f + k : Nat) : Int) (some ⟨w.heap.size + 1, 0, none⟩) 512 512 (zs 512) hsrc (by omega)
      have e1 : wipeTo S s f (k + 1) = (wipeTo S s f k).2.wr s ((f + k : Nat) : Int) 512 (zs 512) := stepsTo_ok HE.out
      rw [← e1] at hw
      clear hsrc e1 hbox hzr hd2
      go_wp2_with fail
      refine hw.mono ?_
      rintro e w3 ⟨rfl, hd3, hk3⟩
      have hj := (hd3.mono (fun k hk => by rcases hk with (hk | hk) | hk; exact .inl hk; exact .inr ⟨hk.1, by have := hk3.size; omega⟩; exact .inr ⟨by omega, hk.2⟩) (more_lt (F := F) (w := w1) (fun k hk => by have := HL.out k hk; omega) (by have := hk3.size; omega)) : DiskR w3 (more F w1 w3) p s (wipeTo S s f (k + 1)).2)
      have hkj : Keeps F w1 w3 := HK2.out.trans hk3 (fun j hj => by rcases hj with hj | hj; exact .inl hj; exact .inr hj.1)
      have HDj := Hid.mk hj
      have HKj := Hid.mk hkj
      clear hd3 hk3 hw hj hkj
      by_cases q2 : (wipeTo S s f (k + 1)).1 = 0
      · have d : ((wipeTo S s f (k + 1)).1 == 0) = true := by rw [beq_iff_eq]; exact q2
        have HQ := Hid.mk q2
        clear q2
        go_wp2
        go_roundw
        case rel => exact ⟨k + 1, by omega, by go_num, HQ.out, HDj.out, HKj.out⟩
        case measure => simp [intOf]; omega
      · have d : ((wipeTo S s f (k + 1)).1 == 0) = false := by rw [beq_eq_false_iff_ne]; exact q2
        have e2 : awipe S s f n = wipeTo S s f (k + 1) := by
          have : wipeTo S s f (n + 2) = wipeTo S s f (k + 1) := stepsTo_err q2 (n + 2) (by omega)
          unfold awipe
          rw [this, if_pos q2]
        clear q2
        go_wp2
        go_ret
        rw [e2]
        exact ⟨rfl, HDj.out.from (w := w) HL.out (by omega) HKj.out.size, (Keeps.of_below F HB1.out).trans HKj.out (fun _ h => .inl h)⟩
    · have hlt : ¬ ((f + k : Nat) : Int) < (f : Int) + 2 + (n : Int) := by omega
      obtain rfl : k = n + 2 := by omega
      have hw := dflush hd2 (by omega)
      have e2 : awipe S s f n = (wipeTo S s f (n + 2)).2.fl s := by
        unfold awipe
        rw [if_neg (by have := HE.out; omega)]
      have HE2 := Hid.mk e2
      clear e2 hbox hzr hd2
      go_wp2_with fail
      refine hw.mono ?_
      rintro e w3 ⟨rfl, hd3, hk3⟩
      have HDj := Hid.mk ((hd3.wide (fun k hk => by have := HL.out k hk; omega) hz3 (by have := hk3.size; omega) : DiskR w3 (more F w1 w3) p s ((wipeTo S s f (n + 2)).2.fl s).2))
      have HKj := Hid.mk (HK2.out.trans hk3 (fun j hj => by rcases hj with hj | hj; exact .inl hj; exact .inr hj.1) : Keeps F w1 w3)
      clear hd3 hk3 hw
      go_wp2
      go_ret
      rw [HE2.out]
      exact ⟨rfl, HDj.out.from (w := w) HL.out (by omega) HKj.out.size, (Keeps.of_below F HB1.out).trans HKj.out (fun _ h => .inl h)⟩
end Go.Proofs.Ythdgndbmecnimaa
end

section
namespace Go.Proofs.Ythdgndbmecnimaa
open Go.RowKit

/-- All that a disk holds are bytes. -/
def DS.Byt (S : DS) : Prop := Bytes S.im ∧ ∀ q ∈ S.puts, Bytes q.2
theorem dsec_bytes {im : List Int} (h : Bytes im) (k : Nat) : Bytes (dsec im k) := (h.drop _).take _
theorem pend_bytes {S : DS} (h : S.Byt) (k j : Nat) : Bytes ((pendOf S.puts k).getD j []) := by
  rcases Nat.lt_or_ge j (pendOf S.puts k).length with hj | hj
  · rw [List.getD, List.getElem?_eq_getElem hj, Option.getD_some]
    have hm := List.getElem_mem hj
    unfold pendOf at hm
    obtain ⟨q, hq, e⟩ := List.mem_map.1 hm
    have := h.2 q (List.mem_filter.1 hq).1
    unfold pendOf
    rw [← e]
    exact this
  · rw [List.getD, List.getElem?_eq_none hj]
    exact Bytes.nil
theorem cand_bytes {S : DS} (h : S.Byt) (k j : Nat) : Bytes (S.cand k j) := by
  unfold DS.cand
  split
  · exact dsec_bytes h.1 k
  · exact pend_bytes h k _
theorem DS.Byt.now {S : DS} (h : S.Byt) (k : Nat) : Bytes (S.now k) := cand_bytes h k _
theorem imOf_bytes {s : Nat} {f : Nat → List Int} (h : ∀ k, Bytes (f k)) : Bytes (imOf s f) := by
  intro x hx
  obtain ⟨k, _, hk⟩ := List.mem_flatMap.1 hx
  exact h k x hk
theorem DS.Byt.wr {S : DS} (h : S.Byt) (s : Nat) (x : Int) (n : Nat) {l : List Int} (hl : Bytes l) : (S.wr s x n l).2.Byt := by
  unfold DS.wr
  split
  · exact h
  · split
    · exact h
    · split
      · exact h
      · refine ⟨h.1, fun q hq => ?_⟩
        rcases List.mem_append.1 hq with hq | hq
        · exact h.2 q hq
        · rw [List.mem_singleton.1 hq]; exact hl
theorem DS.Byt.fl {S : DS} (h : S.Byt) (s : Nat) : (S.fl s).2.Byt := by
  unfold DS.fl
  split
  · exact h
  · exact ⟨imOf_bytes h.now, fun q hq => by cases hq⟩
theorem DS.Byt.take {S : DS} (h : S.Byt) : S.take.Byt := h
theorem DS.Byt.lay {S : DS} (h : S.Byt) (x : Int) : (S.lay x).Byt := by
  unfold DS.lay
  split
  · exact h
  · exact h
theorem torn_bytes {S : DS} (h : S.Byt) (k A B C : Nat) : Bytes (tornOf S k A B C) := by
  unfold tornOf
  exact ((cand_bytes h k _).take _).append ((cand_bytes h k _).drop _)
theorem DS.Byt.crash {S : DS} (h : S.Byt) (s : Nat) (l : List P3) : (S.crash s l).Byt := by
  refine ⟨imOf_bytes (fun k => ?_), fun q hq => by cases hq⟩
  unfold cutOf
  split
  · exact dsec_bytes h.1 k
  · exact torn_bytes h k _ _ _
theorem stepsTo_byt {S : DS} {g : Nat → DS → Int × DS} (h : S.Byt) (hg : ∀ k T, T.Byt → (g k T).2.Byt) : ∀ k, (stepsTo S g k).2.Byt
  | 0 => h
  | k + 1 => by
    have := stepsTo_byt h hg k
    unfold stepsTo
    split
    · exact this
    · exact hg k _ this
theorem zs_bytes (n : Nat) : Bytes (zs n) := by unfold zs; exact Bytes.zeros n
theorem DS.Byt.wipe {S : DS} (h : S.Byt) (s f n : Nat) : (awipe S s f n).2.Byt := by
  have h1 : ∀ k, (wipeTo S s f k).2.Byt := stepsTo_byt h (fun k T hT => hT.wr s _ _ (zs_bytes _))
  unfold awipe
  split
  · exact h1 _
  · exact (h1 _).fl s
theorem srenew_bytes {l r : List Int} (num : Int) {dt : List Int} (hd : Bytes dt) : Bytes (srenew l r num dt).2.1 := by
  have hf : ∀ (a b : Int), dt.length ≤ 496 → Bytes (sform (turnOf a b) (bytes8 num.toNat ++ dt)) := fun a b h => sform_bytes ((bytes8_bytes _).append hd) (by rw [List.length_append, bytes8_len]; omega) ⟨by omega, by have := turnOf_le a b; omega⟩
  unfold srenew
  split
  · exact Bytes.nil
  · split
    · exact Bytes.nil
    · split
      · exact Bytes.nil
      · dsimp only
        split
        · exact Bytes.nil
        · split
          · exact hf _ _ (by omega)
          · exact hf _ _ (by omega)
theorem DS.Byt.anew {S : DS} (h : S.Byt) (s f : Nat) (num : Int) : (anew S s f num).2.Byt := by
  have h1 := h.wr s ((f : Int) + ((srenew (S.now f) (S.now (f + 1)) num []).1 : Int)) 512 (srenew_bytes (l := S.now f) (r := S.now (f + 1)) num Bytes.nil)
  unfold Go.Proofs.Ythdgndbmecnimaa.anew
  split
  · exact h
  · split
    · exact h
    · split
      · exact h1
      · exact h1.fl s
theorem sseal_bytes {old body : List Int} (hb : Bytes body) : Bytes (sseal old body).1 := by
  unfold sseal
  split
  · exact Bytes.nil
  · split
    · exact Bytes.nil
    · exact sform_bytes hb (by omega) ⟨by omega, by have := turnOf_le (old.getD 0 0) (old.getD 511 0); omega⟩
theorem anew_puts (S : DS) (s f : Nat) (num : Int) : (anew S s f num).2.puts.length ≤ S.puts.length + 2 := by
  have h1 := wr_puts S s ((f : Int) + ((srenew (S.now f) (S.now (f + 1)) num []).1 : Int)) 512 (srenew (S.now f) (S.now (f + 1)) num []).2.1
  have h2 := fl_puts (S.wr s ((f : Int) + ((srenew (S.now f) (S.now (f + 1)) num []).1 : Int)) 512 (srenew (S.now f) (S.now (f + 1)) num []).2.1).2 s
  unfold anew
  split
  · simp
  · split
    · simp
    · split <;> omega
theorem awipe_puts (S : DS) (s f n : Nat) : (awipe S s f n).2.puts.length ≤ S.puts.length + n + 3 := by
  have h1 := wipeTo_puts S s f (n + 2)
  have h2 := fl_puts (wipeTo S s f (n + 2)).2 s
  unfold awipe
  split <;> omega
end Go.Proofs.Ythdgndbmecnimaa
end

section
namespace Go.Proofs.Ythdgndbmecnimaa
open Go.RowKit

/-- What Format does. -/
def lformat (S : DS) (s : Nat) (f n : Int) : Int × DS :=
  if lrefuse S s f n ≠ 0 then (lrefuse S s f n, S) else
  if (awipe S.take s f.toNat n.toNat).1 ≠ 0 then awipe S.take s f.toNat n.toNat else anew (awipe S.take s f.toNat n.toNat).2 s f.toNat 4294967296

theorem lrefuse_zero {S : DS} {s : Nat} {f n : Int} (h : lrefuse S s f n = 0) : S.fuse ≠ 0 ∧ ∃ a b : Nat, f = (a : Int) ∧ n = (b : Int) ∧ a + 2 + b ≤ s ∧ 18 ≤ b ∧ b ≤ 256 := by
  unfold lrefuse at h
  split at h
  · omega
  · rename_i h1
    split at h
    · omega
    · split at h
      · omega
      · split at h
        · omega
        · exact ⟨h1, f.toNat, n.toNat, by omega, by omega, by omega, by omega, by omega⟩

/-- The area in its box, behind a call that leaves it. -/
theorem box_after {w w1 : World} {b : Nat} {o : Obj} {G : Nat → Prop} (h : w.heap[b]? = some o) (hk : Keeps G w w1) (hn : ¬ G b) : w1.heap[b]? = some o := (hk.block b (lt_there h) hn).trans h

set_option maxRecDepth 20000 in
set_option maxHeartbeats 8000000 in
theorem Format_any {w : World} {F : Nat → Prop} {p s : Nat} {S : DS} (h : DiskR w F p s S) (hby : S.Byt) (f n : Int) (hbig : S.puts.length + 500 ≤ 4000000000000) :
    Calls Try.prog 31 #[.pointer (some ⟨p, 0, none⟩), .int .i64 f, .int .i64 n] w fun e w' => e = .returned (.int .i64 (lformat S s f n).1) ∧ DiskR w' (more F w w') p s (lformat S s f n).2 ∧ Keeps F w w' := by
  have HL := Hid.mk h.lt
  have hFb : ¬ F w.heap.size := fun h1 => by have := h.lt _ h1; omega
  have HB := Hid.mk (below_box w (.cells #[.pointer (some ⟨p, 0, none⟩), .int .i64 f, .int .i64 n] 64))
  have hx0 : (w.alloc (.cells #[.pointer (some ⟨p, 0, none⟩), .int .i64 f, .int .i64 n] 64)).heap[w.heap.size]? = some (.cells #[.pointer (some ⟨p, 0, none⟩), .int .i64 f, .int .i64 n] 64 (0, 0)) := heap_alloc_new _ _
  have hd0 := h.boxed (.cells #[.pointer (some ⟨p, 0, none⟩), .int .i64 f, .int .i64 n] 64)
  have h1 := drefusal hd0 f n
  have HX := Hid.mk hx0
  have HD := Hid.mk hd0
  have HFb := Hid.mk hFb
  clear hx0 hd0 hFb
  unfold lformat
  by_cases q : lrefuse S s f n = 0
  · rw [if_neg (by omega)]
    obtain ⟨hf0, a, b, rfl, rfl, hab, hb1, hb2⟩ := lrefuse_zero q
    rw [q] at h1
    simp only [Int.toNat_natCast]
    have hs := h.ok.hi
    have hpt := awipe_puts S.take s a b
    have hpt2 : S.take.puts.length = S.puts.length := rfl
    have HBW := Hid.mk ((hby.take).wipe s a b)
    have H3 := Hid.mk (fun w2 (hd2 : DiskR w2 F p s S.take) => wipe_any hd2 a b hab hb2 (by simpa [DS.take] using (show S.puts.length + 400 ≤ 4000000000000 by omega)))
    clear q h
    generalize awipe S.take s a b = Y at *
    by_cases k : Y.1 = 0
    · rw [if_neg (fun h => h k)]
      have d : (Y.1 == 0) = true := by rw [beq_iff_eq]; exact k
      clear k
      go_enter Try.func31, Try.ntmps31
      go_wp2_with fail
      refine h1.mono ?_
      rintro e w1 ⟨rfl, hb⟩
      have hx1 : w1.heap[w.heap.size]? = _ := (hb.block _ (by simp)).trans HX.out
      have h2 := dtake (HD.out.later hb)
      have HB1 := Hid.mk (HB.out.trans (hb.mono (by simp)))
      have HX1 := Hid.mk hx1
      clear h1 hb hx1
      go_wp2_with fail
      refine h2.mono ?_
      rintro e w2 ⟨rfl, hd2, hk2⟩
      have hx2 := box_after HX1.out hk2 HFb.out
      have c0 := cell_of_block hx2 (j := 0) rfl
      have c1 := cell_of_block hx2 (j := 1) rfl
      have c2 := cell_of_block hx2 (j := 2) rfl
      have h3 := H3.out w2 hd2
      have HK2 := Hid.mk ((Keeps.of_below F HB1.out).trans hk2 (fun _ h => .inl h))
      have HX2 := Hid.mk hx2
      clear h2 hd2 hk2 hx2
      go_wp2_with fail
      refine h3.mono ?_
      rintro e w3 ⟨rfl, hd3, hk3⟩
      have hx3 := box_after HX2.out hk3 HFb.out
      have c0 := cell_of_block hx3 (j := 0) rfl
      have c1 := cell_of_block hx3 (j := 1) rfl
      have c2 := cell_of_block hx3 (j := 2) rfl
      have HK3 := Hid.mk (HK2.out.trans hk3 (fun _ h => .inl h))
      have hz2 := HK2.out.size
      have hz3 := hk3.size
      have h4 := drenew hd3 a b 1 0 (by omega) (by omega) (by omega) (by omega) (HBW.out.now a) (HBW.out.now (a + 1))
      rw [show ((1 : Nat) : Int) * 4294967296 + ((0 : Nat) : Int) = 4294967296 by decide] at h4
      clear h3 hd3 hk3 hx3
      go_wp2_with fail
      refine h4.mono ?_
      rintro e w4 ⟨rfl, hd4, hk4⟩
      have hz4 := hk4.size
      have HZ := Hid.mk (And.intro ((hd4.mono (fun k hk => by
        rcases hk with (hk | hk) | hk
        · exact .inl hk
        · exact .inr ⟨by omega, by omega⟩
        · exact .inr ⟨by omega, hk.2⟩) (more_lt (F := F) (w := w) HL.out (by omega)) : DiskR w4 (more F w w4) p s _)) (HK3.out.trans hk4 (fun j hj => by
        rcases hj with hj | hj
        · exact .inl hj
        · exact .inr (by omega))))
      clear h4 hd4 hk4
      go_wp2
      go_ret
      exact ⟨rfl, HZ.out⟩
    · rw [if_pos k]
      have d : (Y.1 == 0) = false := by rw [beq_eq_false_iff_ne]; exact k
      clear k
      go_enter Try.func31, Try.ntmps31
      go_wp2_with fail
      refine h1.mono ?_
      rintro e w1 ⟨rfl, hb⟩
      have hx1 : w1.heap[w.heap.size]? = _ := (hb.block _ (by simp)).trans HX.out
      have h2 := dtake (HD.out.later hb)
      have HB1 := Hid.mk (HB.out.trans (hb.mono (by simp)))
      have HX1 := Hid.mk hx1
      clear h1 hb hx1
      go_wp2_with fail
      refine h2.mono ?_
      rintro e w2 ⟨rfl, hd2, hk2⟩
      have hx2 := box_after HX1.out hk2 HFb.out
      have c0 := cell_of_block hx2 (j := 0) rfl
      have c1 := cell_of_block hx2 (j := 1) rfl
      have c2 := cell_of_block hx2 (j := 2) rfl
      have h3 := H3.out w2 hd2
      have HK2 := Hid.mk ((Keeps.of_below F HB1.out).trans hk2 (fun _ h => .inl h))
      have HX2 := Hid.mk hx2
      clear h2 hd2 hk2 hx2
      go_wp2_with fail
      refine h3.mono ?_
      rintro e w3 ⟨rfl, hd3, hk3⟩
      have hx3 := box_after HX2.out hk3 HFb.out
      have c0 := cell_of_block hx3 (j := 0) rfl
      have c1 := cell_of_block hx3 (j := 1) rfl
      have c2 := cell_of_block hx3 (j := 2) rfl
      have HK3 := Hid.mk (HK2.out.trans hk3 (fun _ h => .inl h))
      have hz2 := HK2.out.size
      have hz3 := hk3.size
      have HZ := Hid.mk (And.intro ((hd3.from HL.out hz2 hz3 : DiskR w3 (more F w w3) p s Y.2)) HK3.out)
      clear h3 hd3 hk3 hx3
      go_wp2
      go_ret
      exact ⟨rfl, HZ.out⟩
  · rw [if_pos q]
    have d : (lrefuse S s f n == 0) = false := by rw [beq_eq_false_iff_ne]; exact q
    generalize lrefuse S s f n = U at *
    clear q h
    go_enter Try.func31, Try.ntmps31
    go_wp2_with fail
    refine h1.mono ?_
    rintro e w1 ⟨rfl, hb⟩
    have HZ := Hid.mk (And.intro ((HD.out.later hb).more (w := w)) (Keeps.of_below F (HB.out.trans (hb.mono (by simp)))))
    clear h1 hb
    go_wp2
    go_ret
    exact ⟨rfl, HZ.out⟩
end Go.Proofs.Ythdgndbmecnimaa
end

section
namespace Go.Proofs.Ythdgndbmecnimaa
open Go.RowKit

/-- What Start does. -/
def LG.start (L : LG) (S : DS) (s : Nat) : Int × DS × LG :=
  if L.dead S = true then (3, S, L) else if L.begun = true then (5, S, L) else
  if (anew S s L.f (((L.top + 1 : Nat) : Int) * 4294967296 + ((0 : Nat) : Int))).1 ≠ 0 then ((anew S s L.f (((L.top + 1 : Nat) : Int) * 4294967296 + ((0 : Nat) : Int))).1, (anew S s L.f (((L.top + 1 : Nat) : Int) * 4294967296 + ((0 : Nat) : Int))).2, L)
  else (0, (anew S s L.f (((L.top + 1 : Nat) : Int) * 4294967296 + ((0 : Nat) : Int))).2, { L with begun := true, ep := L.top + 1, tail := 0, head := 0 })
/-- What Trim does. -/
def LG.trim (L : LG) (S : DS) (s : Nat) : Int × DS × LG :=
  if (L.sync S s).1 ≠ 0 then ((L.sync S s).1, (L.sync S s).2, L) else if L.tail = L.head then (0, (L.sync S s).2, L) else
  if (anew (L.sync S s).2 s L.f ((L.ep : Int) * 4294967296 + (L.head : Int))).1 ≠ 0 then ((anew (L.sync S s).2 s L.f ((L.ep : Int) * 4294967296 + (L.head : Int))).1, (anew (L.sync S s).2 s L.f ((L.ep : Int) * 4294967296 + (L.head : Int))).2, L)
  else (0, (anew (L.sync S s).2 s L.f ((L.ep : Int) * 4294967296 + (L.head : Int))).2, { L with tail := L.head })

theorem LogP.started {w : World} {l p : Nat} {L : LG} (h : LogP w l p L) (E : Int) (n : Nat) (hE : E = (n : Int)) :
    LogP ((((w.setCell ⟨l, 4, none⟩ (.bool true)).setCell ⟨l, 5, none⟩ (.int .i64 E)).setCell ⟨l, 6, none⟩ (.int .i64 0)).setCell ⟨l, 7, none⟩ (.int .i64 0)) l p { L with begun := true, ep := n, tail := 0, head := 0 } := by
  subst hE
  have h1 := heap_setCell_same _ _ 4 _ _ (.bool true) h
  have h2 := heap_setCell_same _ _ 5 _ _ (.int .i64 (n : Int)) h1
  have h3 := heap_setCell_same _ _ 6 _ _ (.int .i64 0) h2
  have h4 := heap_setCell_same _ _ 7 _ _ (.int .i64 0) h3
  exact h4.trans (by simp [lgC])
theorem LogP.trimmed {w : World} {l p : Nat} {L : LG} (h : LogP w l p L) : LogP (w.setCell ⟨l, 6, none⟩ (.int .i64 (L.head : Int))) l p { L with tail := L.head } :=
  (heap_setCell_same _ _ 6 _ _ (.int .i64 (L.head : Int)) h).trans (by simp [lgC])
theorem keeps_set {F : Nat → Prop} (w : World) {l : Nat} (hF : F l) (j : Nat) (v : Value) : Keeps F w (w.setCell ⟨l, j, none⟩ v) := Keeps.setCell (F := F) w (p := ⟨l, j, none⟩) hF v

section
variable {w : World} {F : Nat → Prop} {p s l : Nat} {S : DS} {L : LG}

set_option maxRecDepth 20000 in
set_option maxHeartbeats 8000000 in
theorem Start_any (h : DiskR w F p s S) (hl : LogP w l p L) (hk : L.Ok s) (hF : ¬ F l) (hby : S.Byt) (hbig : S.puts.length + 2 ≤ 4000000000000) :
    Calls Try.prog 32 #[.pointer (some ⟨l, 0, none⟩)] w fun e w' => e = .returned (.int .i64 (L.start S s).1) ∧ DiskR w' (more F w w') p s (L.start S s).2.1 ∧ LogP w' l p (L.start S s).2.2 ∧ Keeps (fun k => F k ∨ k = l) w w' := by
  have h1 := dead_any h hl
  have HL := Hid.mk hl
  have HD := Hid.mk h
  have hlt := hl.lt
  have hs := hk.s
  have htop := hk.top
  unfold LG.start
  have H3 := Hid.mk (fun w2 (hd2 : DiskR w2 F p s S) => drenew hd2 L.f L.n (L.top + 1) 0 (by omega) (by omega) hbig (by have := hk.n1; omega) (hby.now _) (hby.now _))
  clear h hl hk hby
  cases hd : L.dead S
  · rw [hd] at h1
    rw [if_neg (by decide)]
    clear hd
    cases hb : L.begun
    · rw [if_neg (by decide)]
      generalize hY : anew S s L.f (((L.top + 1 : Nat) : Int) * 4294967296 + ((0 : Nat) : Int)) = Y at *
      clear hY
      by_cases k : Y.1 = 0
      · rw [if_neg (fun h => h k)]
        have d : (Y.1 == 0) = true := by rw [beq_iff_eq]; exact k
        clear k
        go_enter Try.func32, Try.ntmps32
        go_wp2_with fail
        refine h1.mono ?_
        rintro e w1 ⟨rfl, hb1⟩
        have hl1 := HL.out.later hb1
        have c0 := hl1.c0
        have c1 := hl1.c1
        have c2 := hl1.c2
        have c4 := hl1.c4
        have c8 := hl1.c8
        rw [hb] at c4
        have h3 := H3.out w1 (HD.out.later hb1)
        rw [show ((L.top + 1 : Nat) : Int) = (L.top : Int) + 1 by omega, show (((0 : Nat) : Int)) = 0 from rfl] at h3
        have HB1 := Hid.mk hb1
        have HL1 := Hid.mk hl1
        clear h1 hb1 hl1
        go_wp2_with fail
        refine h3.mono ?_
        rintro e w2 ⟨rfl, hd2, hk2⟩
        have hl2 := HL1.out.keep hk2 hF
        have f4 := hl2.fz 4
        have f5 := hl2.fz 5
        have f6 := hl2.fz 6
        have f7 := hl2.fz 7
        have c4 := hl2.c4
        have c5 := hl2.c5
        have c6 := hl2.c6
        have c7 := hl2.c7
        have hz1 := HB1.out.size
        have hz2 := hk2.size
        have hK : Keeps (fun k => F k ∨ k = l) w ((((w2.setCell ⟨l, 4, none⟩ (.bool true)).setCell ⟨l, 5, none⟩ (.int .i64 ((L.top : Int) + 1))).setCell ⟨l, 6, none⟩ (.int .i64 0)).setCell ⟨l, 7, none⟩ (.int .i64 0)) :=
          (((((Keeps.of_below (fun k => F k ∨ k = l) HB1.out).trans hk2 (fun _ h => .inl (.inl h))).trans (keeps_set (F := fun k => k = l) w2 rfl 4 _) (fun _ h => .inl (.inr h))).trans (keeps_set (F := fun k => k = l) _ rfl 5 _) (fun _ h => .inl (.inr h))).trans (keeps_set (F := fun k => k = l) _ rfl 6 _) (fun _ h => .inl (.inr h))).trans (keeps_set (F := fun k => k = l) _ rfl 7 _) (fun _ h => .inl (.inr h))
        have hD4 : DiskR ((((w2.setCell ⟨l, 4, none⟩ (.bool true)).setCell ⟨l, 5, none⟩ (.int .i64 ((L.top : Int) + 1))).setCell ⟨l, 6, none⟩ (.int .i64 0)).setCell ⟨l, 7, none⟩ (.int .i64 0)) (more F w1 w2) p s Y.2 := by
          have hne : ∀ k, more F w1 w2 k → ¬ k = l := fun k hk e => by
            subst e
            rcases hk with hk | hk
            · exact hF hk
            · omega
          exact (((hd2.keep (keeps_set (F := fun k => k = l) w2 rfl 4 _) hne).keep (keeps_set (F := fun k => k = l) _ rfl 5 _) hne).keep (keeps_set (F := fun k => k = l) _ rfl 6 _) hne).keep (keeps_set (F := fun k => k = l) _ rfl 7 _) hne
        have hsz : ((((w2.setCell ⟨l, 4, none⟩ (.bool true)).setCell ⟨l, 5, none⟩ (.int .i64 ((L.top : Int) + 1))).setCell ⟨l, 6, none⟩ (.int .i64 0)).setCell ⟨l, 7, none⟩ (.int .i64 0)).heap.size = w2.heap.size := by simp [World.setCell]
        have HZ := Hid.mk (And.intro ((hD4.mono (G := more F w ((((w2.setCell ⟨l, 4, none⟩ (.bool true)).setCell ⟨l, 5, none⟩ (.int .i64 ((L.top : Int) + 1))).setCell ⟨l, 6, none⟩ (.int .i64 0)).setCell ⟨l, 7, none⟩ (.int .i64 0))) (fun k hk => by
            rcases hk with hk | hk
            · exact .inl hk
            · exact .inr ⟨by omega, by rw [hsz]; exact hk.2⟩) (more_lt (F := F) (w := w) HD.out.lt (by rw [hsz]; omega)))) (And.intro (hl2.started ((L.top : Int) + 1) (L.top + 1) (by omega)) hK))
        clear h3 hd2 hk2 hl2 hK hD4 hsz
        go_wp2
        go_ret
        exact ⟨rfl, HZ.out⟩
      · rw [if_pos k]
        have d : (Y.1 == 0) = false := by rw [beq_eq_false_iff_ne]; exact k
        clear k
        go_enter Try.func32, Try.ntmps32
        go_wp2_with fail
        refine h1.mono ?_
        rintro e w1 ⟨rfl, hb1⟩
        have hl1 := HL.out.later hb1
        have c0 := hl1.c0
        have c1 := hl1.c1
        have c2 := hl1.c2
        have c4 := hl1.c4
        have c8 := hl1.c8
        rw [hb] at c4
        have h3 := H3.out w1 (HD.out.later hb1)
        rw [show ((L.top + 1 : Nat) : Int) = (L.top : Int) + 1 by omega, show (((0 : Nat) : Int)) = 0 from rfl] at h3
        have HB1 := Hid.mk hb1
        have HL1 := Hid.mk hl1
        clear h1 hb1 hl1
        go_wp2_with fail
        refine h3.mono ?_
        rintro e w2 ⟨rfl, hd2, hk2⟩
        have HZ := Hid.mk (And.intro (hd2.from HD.out.lt HB1.out.size hk2.size) (And.intro (HL1.out.keep hk2 hF) ((Keeps.of_below (fun k => F k ∨ k = l) HB1.out).trans hk2 (fun _ h => .inl (.inl h)))))
        clear h3 hd2 hk2
        go_wp2
        go_ret
        exact ⟨rfl, HZ.out⟩
    · rw [if_pos rfl]
      go_enter Try.func32, Try.ntmps32
      go_wp2_with fail
      refine h1.mono ?_
      rintro e w1 ⟨rfl, hb1⟩
      have c4 := (HL.out.later hb1).c4
      rw [hb] at c4
      have HZ := Hid.mk (And.intro ((HD.out.later hb1).more (w := w)) (And.intro (HL.out.later hb1) (Keeps.of_below (fun k => F k ∨ k = l) hb1)))
      clear h1 hb1
      go_wp2
      go_ret
      exact ⟨rfl, HZ.out⟩
  · rw [hd] at h1
    rw [if_pos rfl]
    go_enter Try.func32, Try.ntmps32
    go_wp2_with fail
    refine h1.mono ?_
    rintro e w1 ⟨rfl, hb1⟩
    have HZ := Hid.mk (And.intro ((HD.out.later hb1).more (w := w)) (And.intro (HL.out.later hb1) (Keeps.of_below (fun k => F k ∨ k = l) hb1)))
    clear h1 hb1
    go_wp2
    go_ret
    exact ⟨rfl, HZ.out⟩
end
end Go.Proofs.Ythdgndbmecnimaa
end
