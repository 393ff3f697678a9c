import Derived.Test.YtokcgifpljeoiaaGreatV02
import Derived.Test.YtokcgifpljeoiaaGreatV07
import Derived.Deep.RegionHeld3
section
namespace Go.Proofs.YtokcgifpljeoiaaGreat

/-- What a sector of the ring says: epoch, position, index, count, data. -/
structure PC where
  e : Nat
  p : Nat
  i : Nat
  c : Nat
  d : List Int

def PC.zero : PC := ⟨0, 0, 0, 0, []⟩
def pcBody (b : List Int) : PC := ⟨le (b.take 4), le ((b.drop 4).take 4), le ((b.drop 8).take 2), le ((b.drop 10).take 2), b.drop 12⟩
/-- What lies in a sector. -/
def pcOf (l : List Int) : PC := if (sopens l).2 ≠ 0 ∨ (sopens l).1.length < 12 then PC.zero else pcBody (sopens l).1

/-- It is the piece that is due. -/
def PC.ok (q : PC) (E P i c : Nat) : Prop := q.e = E ∧ q.p = P ∧ q.i = i ∧ q.c = c ∧ 0 < q.d.length ∧ (i + 1 ≠ c → q.d.length = 492)

/-- The data of the first k pieces from P on. -/
def dataTo (R : Nat → PC) (P k : Nat) : List Int := (List.range k).flatMap (fun i => (R (P + i)).d)
theorem dataTo_zero (R : Nat → PC) (P : Nat) : dataTo R P 0 = [] := rfl
theorem dataTo_succ (R : Nat → PC) (P k : Nat) : dataTo R P (k + 1) = dataTo R P k ++ (R (P + k)).d := by simp [dataTo, List.range_succ]

/-- A record of c sectors lies at P. -/
def Rec (R : Nat → PC) (E P c : Nat) (d : List Int) : Prop := 1 ≤ c ∧ c ≤ 17 ∧ (∀ i, i < c → (R (P + i)).ok E (P + i) i c) ∧ d = dataTo R P c

theorem Rec.count {R : Nat → PC} {E P c : Nat} {d : List Int} (h : Rec R E P c d) : (R P).c = c := by
  have := (h.2.2.1 0 h.1).2.2.2.1
  simpa using this
theorem Rec.unique {R : Nat → PC} {E P c c' : Nat} {d d' : List Int} (h : Rec R E P c d) (h' : Rec R E P c' d') : c = c' ∧ d = d' := by
  have e := h.count.symm.trans h'.count
  subst e
  exact ⟨rfl, h.2.2.2.trans h'.2.2.2.symm⟩

/-- The records from P on, and the place behind them. -/
def Tells (R : Nat → PC) (E : Nat) : Nat → List (List Int) → Nat → Prop
  | P, [], h => h = P
  | P, d :: ds, h => ∃ c, Rec R E P c d ∧ Tells R E (P + c) ds h

theorem Tells.snoc {R : Nat → PC} {E : Nat} : ∀ {rs : List (List Int)} {P h c : Nat} {d : List Int}, Tells R E P rs h → Rec R E h c d → Tells R E P (rs ++ [d]) (h + c)
  | [], P, h, c, d, ht, hr => by
    have ht : h = P := ht
    subst ht
    exact ⟨c, hr, rfl⟩
  | x :: xs, P, h, c, d, ⟨k, hk, ht⟩, hr => ⟨k, hk, Tells.snoc ht hr⟩
theorem Tells.unique {R : Nat → PC} {E : Nat} : ∀ {rs rs' : List (List Int)} {P h h' : Nat}, Tells R E P rs h → (∀ c d, ¬ Rec R E h c d) → Tells R E P rs' h' → (∀ c d, ¬ Rec R E h' c d) → rs = rs' ∧ h = h'
  | [], [], P, h, h', a, _, b, _ => ⟨rfl, (show h = P from a).trans (show h' = P from b).symm⟩
  | [], x :: xs, P, h, h', a, hn, ⟨k, hk, _⟩, _ => by
    have a : h = P := a
    subst a
    exact absurd hk (hn _ _)
  | x :: xs, [], P, h, h', ⟨k, hk, _⟩, _, b, hn => by
    have b : h' = P := b
    subst b
    exact absurd hk (hn _ _)
  | x :: xs, y :: ys, P, h, h', ⟨k, hk, ht⟩, hn, ⟨k', hk', ht'⟩, hn' => by
    obtain ⟨rfl, rfl⟩ := hk.unique hk'
    obtain ⟨rfl, rfl⟩ := Tells.unique ht hn ht' hn'
    exact ⟨rfl, rfl⟩
theorem Tells.le {R : Nat → PC} {E : Nat} : ∀ {rs : List (List Int)} {P h : Nat}, Tells R E P rs h → P ≤ h
  | [], P, h, a => Nat.le_of_eq (show h = P from a).symm
  | x :: xs, P, h, ⟨k, hk, ht⟩ => by have := Tells.le ht; omega
theorem Rec.at {R : Nat → PC} {E P c : Nat} {d : List Int} (h : Rec R E P c d) {q : Nat} (h1 : P ≤ q) (h2 : q < P + c) : (R q).p = q := by
  have := (h.2.2.1 (q - P) (by omega)).2.1
  rwa [show P + (q - P) = q by omega] at this
theorem Tells.at {R : Nat → PC} {E : Nat} : ∀ {rs : List (List Int)} {P h : Nat}, Tells R E P rs h → ∀ q, P ≤ q → q < h → (R q).p = q
  | [], P, h, a, q, h1, h2 => by have a : h = P := a; omega
  | x :: xs, P, h, ⟨k, hk, ht⟩, q, h1, h2 => by
    by_cases h3 : q < P + k
    · exact hk.at h1 h3
    · exact Tells.at ht q (by omega) h2
theorem Tells.round {R : Nat → PC} {E n : Nat} (hn : 1 ≤ n) (hR : ∀ q, R (q + n) = R q) {rs : List (List Int)} {P h : Nat} (ht : Tells R E P rs h) : h ≤ P + n := by
  rcases Nat.lt_or_ge (P + n) h with h1 | h1
  · have a := ht.at P (Nat.le_refl _) (by omega)
    have b := ht.at (P + n) (by omega) h1
    rw [hR] at b
    omega
  · exact h1
theorem Tells.length {R : Nat → PC} {E : Nat} : ∀ {rs : List (List Int)} {P h : Nat}, Tells R E P rs h → P + rs.length ≤ h
  | [], P, h, a => Nat.le_of_eq (show h = P from a).symm
  | x :: xs, P, h, ⟨k, hk, ht⟩ => by have := Tells.length ht; have := hk.1; simp only [List.length_cons]; omega

/-- The state of a scan: whole records up to h, then j pieces of one of c. -/
structure Scan (R : Nat → PC) (E T : Nat) (rs : List (List Int)) (h j c : Nat) (d : List Int) : Prop where
  t : Tells R E T rs h
  p : ∀ i, i < j → (R (h + i)).ok E (h + i) i c
  c : 0 < j → 1 ≤ c ∧ c ≤ 17 ∧ j < c
  d : d = dataTo R h j
theorem Scan.start (R : Nat → PC) (E T : Nat) (c : Nat) : Scan R E T [] T 0 c [] := ⟨rfl, fun i hi => by omega, fun h => by omega, rfl⟩
/-- The count that is due. -/
def dueC (R : Nat → PC) (h j c : Nat) : Nat := if j = 0 then (R h).c else c
theorem Scan.grow {R : Nat → PC} {E T : Nat} {rs : List (List Int)} {h j c : Nat} {d : List Int} (s : Scan R E T rs h j c d) (hk : (R (h + j)).ok E (h + j) j (dueC R h j c)) (h1 : 1 ≤ dueC R h j c) (h2 : dueC R h j c ≤ 17) (hl : j + 1 ≠ dueC R h j c) (hj : j < dueC R h j c) :
    Scan R E T rs h (j + 1) (dueC R h j c) (d ++ (R (h + j)).d) := by
  refine ⟨s.t, fun i hi => ?_, fun _ => ⟨h1, h2, by omega⟩, by rw [s.d, dataTo_succ]⟩
  by_cases e : i = j
  · subst e; exact hk
  · have hj0 : j ≠ 0 := by omega
    have := s.p i (by omega)
    rwa [dueC, if_neg hj0]
theorem Scan.full {R : Nat → PC} {E T : Nat} {rs : List (List Int)} {h j c : Nat} {d : List Int} (s : Scan R E T rs h j c d) (hk : (R (h + j)).ok E (h + j) j (dueC R h j c)) (h2 : dueC R h j c ≤ 17) (hl : j + 1 = dueC R h j c) (c' : Nat) :
    Scan R E T (rs ++ [d ++ (R (h + j)).d]) (h + j + 1) 0 c' [] := by
  refine ⟨?_, fun i hi => by omega, fun h => by omega, rfl⟩
  have hr : Rec R E h (j + 1) (d ++ (R (h + j)).d) := by
    refine ⟨by omega, by omega, fun i hi => ?_, by rw [s.d, dataTo_succ]⟩
    by_cases e : i = j
    · subst e; rw [hl]; exact hk
    · have := s.p i (by omega)
      have hj0 : j ≠ 0 := by omega
      rw [hl, dueC, if_neg hj0]
      exact this
  exact s.t.snoc hr
theorem Scan.ends {R : Nat → PC} {E T : Nat} {rs : List (List Int)} {h j c : Nat} {d : List Int} (s : Scan R E T rs h j c d) (hk : ¬ ((R (h + j)).ok E (h + j) j (dueC R h j c) ∧ 1 ≤ dueC R h j c ∧ dueC R h j c ≤ 17 )) : ∀ c d, ¬ Rec R E h c d := by
  intro k x hr
  by_cases e : j = 0
  · subst e
    refine hk ?_
    rw [dueC, if_pos rfl, hr.count]
    exact ⟨hr.2.2.1 0 hr.1, hr.1, hr.2.1⟩
  · have hc := s.c (by omega)
    have ek : k = c := by rw [← hr.count]; simpa using (s.p 0 (by omega)).2.2.2.1
    subst ek
    refine hk ?_
    rw [dueC, if_neg e]
    exact ⟨hr.2.2.1 j hc.2.2, hr.1, hr.2.1⟩
theorem Scan.at {R : Nat → PC} {E T : Nat} {rs : List (List Int)} {h j c : Nat} {d : List Int} (s : Scan R E T rs h j c d) (q : Nat) (h1 : T ≤ q) (h2 : q < h + j) : (R q).p = q := by
  by_cases h3 : q < h
  · exact s.t.at q h1 h3
  · have := (s.p (q - h) (by omega)).2.1
    rwa [show h + (q - h) = q by omega] at this
/-- Once around: nothing more is there. -/
theorem Scan.round {R : Nat → PC} {E T n : Nat} {rs : List (List Int)} {h j c : Nat} {d : List Int} (hn : 1 ≤ n) (hR : ∀ q, R (q + n) = R q) (s : Scan R E T rs h j c d) (hj : h + j = T + n) : ∀ c d, ¬ Rec R E h c d := by
  refine s.ends (fun hk => ?_)
  have a := hk.1.2.1
  rw [hj, hR] at a
  have := s.at T (Nat.le_refl _) (by omega)
  omega

/-- The greatest epoch of the first k sectors. -/
def rtop (R : Nat → PC) : Nat → Nat
  | 0 => 0
  | k + 1 => if (R k).e ≤ 1073741824 then max (rtop R k) (R k).e else rtop R k
theorem rtop_le (R : Nat → PC) : ∀ k, rtop R k ≤ 1073741824
  | 0 => by simp [rtop]
  | k + 1 => by
    have := rtop_le R k
    unfold rtop
    split <;> omega
theorem le_room {l : List Int} (hb : Bytes l) {k : Nat} (h : l.length ≤ k) : le l < 2 ^ (8 * k) := Nat.lt_of_lt_of_le (le_lt hb) (Nat.pow_le_pow_right (by omega) (by omega))
theorem le_len2 {l : List Int} (hb : Bytes l) (h : l.length ≤ 2) : le l < 65536 := le_room hb (k := 2) h
theorem le_len4 {l : List Int} (hb : Bytes l) (h : l.length ≤ 4) : le l < 4294967296 := le_room hb (k := 4) h
theorem so_bytes {l : List Int} (hb : Bytes l) : Bytes (sopens l).1 := by
  unfold sopens
  split
  · exact Bytes.nil
  · split
    · exact Bytes.nil
    · rename_i b h
      rw [(sopen_some h).2.2.2]
      exact (hb.drop 7).take _
theorem so_len (l : List Int) : (sopens l).1.length ≤ 504 := by
  unfold sopens
  split
  · simp
  · split
    · simp
    · rename_i h1 b h
      exact sopen_len h (by omega)
theorem pcOf_small {l : List Int} (hb : Bytes l) : (pcOf l).e < 4294967296 ∧ (pcOf l).p < 4294967296 ∧ (pcOf l).i < 65536 ∧ (pcOf l).c < 65536 ∧ (pcOf l).d.length ≤ 492 ∧ Bytes (pcOf l).d := by
  have h1 := so_bytes hb
  have h2 := so_len l
  unfold pcOf
  split
  · exact ⟨by decide, by decide, by decide, by decide, by decide, Bytes.nil⟩
  · exact ⟨le_len4 (h1.take _) (by simp; omega), le_len4 ((h1.drop _).take _) (by simp; omega), le_len2 ((h1.drop _).take _) (by simp; omega), le_len2 ((h1.drop _).take _) (by simp; omega), by simp [pcBody]; omega, h1.drop _⟩
end Go.Proofs.YtokcgifpljeoiaaGreat
end

section
namespace Go.Proofs.YtokcgifpljeoiaaGreat
open Go.RowKit

/-- The state with so many reads. -/
def DS.rds (S : DS) (r : Int) : DS := { S with reads := r }
/-- A disk, whatever it was asked to read. -/
def DiskR (w : World) (F : Nat → Prop) (p s : Nat) (S : DS) : Prop := ∃ r, DiskAt w F p s (S.rds r)

section
variable {w w' : World} {F G : Nat → Prop} {p s : Nat} {S : DS}
theorem DiskR.ok (h : DiskR w F p s S) : S.Ok s := by
  obtain ⟨r, h⟩ := h
  exact ⟨h.ok.len, h.ok.lo, h.ok.hi, h.ok.puts, h.ok.fuse⟩
theorem DiskR.lt (h : DiskR w F p s S) : ∀ k, F k → k < w.heap.size := by obtain ⟨r, h⟩ := h; exact h.lt
theorem DiskR.keep (h : DiskR w F p s S) (k : Keeps G w w') (hd : ∀ k, F k → ¬ G k) : DiskR w' F p s S := by obtain ⟨r, h⟩ := h; exact ⟨r, h.keep k hd⟩
theorem DiskR.later (h : DiskR w F p s S) (hb : Below w.heap.size w w') : DiskR w' F p s S := h.keep (Keeps.of_below (fun _ => False) hb) (fun _ _ h => h)
theorem rds_wr (S : DS) (r : Int) (s : Nat) (x : Int) (n : Nat) (l : List Int) : (S.rds r).wr s x n l = ((S.wr s x n l).1, (S.wr s x n l).2.rds r) := by
  unfold DS.wr
  show (if S.fuse = 0 then _ else _) = _
  split
  · rfl
  · split
    · rfl
    · split <;> rfl
theorem rds_fl (S : DS) (r : Int) (s : Nat) : (S.rds r).fl s = ((S.fl s).1, (S.fl s).2.rds r) := by
  unfold DS.fl
  show (if S.fuse = 0 then _ else _) = _
  split <;> rfl
theorem rds_now (S : DS) (r : Int) (k : Nat) : (S.rds r).now k = S.now k := rfl
theorem dsectors (h : DiskR w F p s S) : Calls Tryz.prog 20 #[.pointer (some ⟨p, 0, none⟩)] w fun e w' => e = .returned (.int .i64 s) ∧ w' = w := by
  obtain ⟨r, h⟩ := h; exact sectors_at h
theorem dburnt (h : DiskR w F p s S) : Calls Tryz.prog 51 #[.pointer (some ⟨p, 0, none⟩)] w fun e w' => e = .returned (.bool (S.fuse == 0)) ∧ w' = w := by
  obtain ⟨r, h⟩ := h; exact burnt_at (S := S.rds r) h
theorem dlife (h : DiskR w F p s S) : Calls Tryz.prog 125 #[.pointer (some ⟨p, 0, none⟩)] w fun e w' => e = .returned (.int .i64 S.life) ∧ w' = w := by
  obtain ⟨r, h⟩ := h; exact life_at (S := S.rds r) h
theorem dread_dead (h : DiskR w F p s S) (x : Int) (hf : S.fuse = 0) : Calls Tryz.prog 80 #[.pointer (some ⟨p, 0, none⟩), .int .i64 x] w fun e w' => e = .returned (.tuple #[.slice none 0 0, .int .i64 3]) ∧ w' = w := by
  obtain ⟨r, h⟩ := h; exact read_dead h x hf
/-- What the next anchor makes of a disk. -/
def anew (S : DS) (s f : Nat) (num : Int) : Int × DS :=
  if S.fuse = 0 then (3, S) else
  if (srenew (S.now f) (S.now (f + 1)) num []).2.2 ≠ 0 then (((srenew (S.now f) (S.now (f + 1)) num []).2.2 : Int), S) else
  if (S.wr s ((f : Int) + ((srenew (S.now f) (S.now (f + 1)) num []).1 : Int)) 512 (srenew (S.now f) (S.now (f + 1)) num []).2.1).1 ≠ 0 then S.wr s ((f : Int) + ((srenew (S.now f) (S.now (f + 1)) num []).1 : Int)) 512 (srenew (S.now f) (S.now (f + 1)) num []).2.1
  else (S.wr s ((f : Int) + ((srenew (S.now f) (S.now (f + 1)) num []).1 : Int)) 512 (srenew (S.now f) (S.now (f + 1)) num []).2.1).2.fl s
theorem drefusal (h : DiskR w F p s S) (f n : Int) : Calls Tryz.prog 83 #[areaV p f n] w fun e w' => e = .returned (.int .i64 (lrefuse S s f n)) ∧ Below w.heap.size w w' := by
  have hs := h.ok.hi
  obtain ⟨r, h⟩ := h
  exact refusal_any h f n hs
end

end Go.Proofs.YtokcgifpljeoiaaGreat
end

section
namespace Go.Proofs.YtokcgifpljeoiaaGreat
open Go.RowKit

/-- A log's state. -/
structure LG where
  f : Nat
  n : Nat
  life : Int
  begun : Bool
  ep : Nat
  tail : Nat
  head : Nat
  top : Nat

abbrev lgC (p : Nat) (L : LG) : Array Value := #[.pointer (some ⟨p, 0, none⟩), .int .i64 (L.f : Int), .int .i64 (L.n : Int), .int .i64 L.life, .bool L.begun, .int .i64 (L.ep : Int), .int .i64 (L.tail : Int), .int .i64 (L.head : Int), .int .i64 (L.top : Int)]
/-- The program's log in memory. -/
def LogP (w : World) (l p : Nat) (L : LG) : Prop := w.heap[l]? = some (.cells (lgC p L) 136 (0, 0))
theorem LogP.lt {w : World} {l p : Nat} {L : LG} (h : LogP w l p L) : l < w.heap.size := lt_there h
theorem LogP.keep {w w' : World} {l p : Nat} {L : LG} {G : Nat → Prop} (h : LogP w l p L) (k : Keeps G w w') (hn : ¬ G l) : LogP w' l p L := (k.block l h.lt hn).trans h

section
variable {w : World} {l p : Nat} {L : LG}
theorem LogP.c0 (h : LogP w l p L) : w.cell? ⟨l, 0, none⟩ = some (.pointer (some ⟨p, 0, none⟩)) := cell_of_block h (j := 0) rfl
theorem LogP.c1 (h : LogP w l p L) : w.cell? ⟨l, 1, none⟩ = some (.int .i64 (L.f : Int)) := cell_of_block h (j := 1) rfl
theorem LogP.c2 (h : LogP w l p L) : w.cell? ⟨l, 2, none⟩ = some (.int .i64 (L.n : Int)) := cell_of_block h (j := 2) rfl
theorem LogP.c3 (h : LogP w l p L) : w.cell? ⟨l, 3, none⟩ = some (.int .i64 L.life) := cell_of_block h (j := 3) rfl
theorem LogP.c4 (h : LogP w l p L) : w.cell? ⟨l, 4, none⟩ = some (.bool L.begun) := cell_of_block h (j := 4) rfl
theorem LogP.c5 (h : LogP w l p L) : w.cell? ⟨l, 5, none⟩ = some (.int .i64 (L.ep : Int)) := cell_of_block h (j := 5) rfl
theorem LogP.c6 (h : LogP w l p L) : w.cell? ⟨l, 6, none⟩ = some (.int .i64 (L.tail : Int)) := cell_of_block h (j := 6) rfl
theorem LogP.c7 (h : LogP w l p L) : w.cell? ⟨l, 7, none⟩ = some (.int .i64 (L.head : Int)) := cell_of_block h (j := 7) rfl
theorem LogP.c8 (h : LogP w l p L) : w.cell? ⟨l, 8, none⟩ = some (.int .i64 (L.top : Int)) := cell_of_block h (j := 8) rfl
theorem LogP.fz (h : LogP w l p L) (j : Nat) : w.frozen? ⟨l, j, none⟩ = false := frozen_of_block h j
end

/-- What can be said of a log on a disk of s sectors. -/
structure LG.Ok (L : LG) (s : Nat) : Prop where
  s : L.f + 2 + L.n ≤ s
  n1 : 18 ≤ L.n
  n2 : L.n ≤ 256
  ep : L.ep ≤ 1073741824
  top : L.top < 1073741824
  th : L.tail ≤ L.head
  hn : L.head ≤ L.tail + L.n
  hi : L.head ≤ 1073742080
  hb : L.begun = true → L.head ≤ 1073741824

def LG.dead (L : LG) (S : DS) : Bool := S.fuse == 0 || S.life != L.life
def LG.unready (L : LG) (S : DS) : Int := if L.dead S = true then 3 else if L.begun = true then 0 else 4

section
variable {w : World} {F : Nat → Prop} {p s l : Nat} {S : DS} {L : LG}

theorem LogP.later {w w' : World} {l p : Nat} {L : LG} (h : LogP w l p L) (hb : Below w.heap.size w w') : LogP w' l p L := (hb.block l h.lt).trans h

set_option maxRecDepth 20000 in
set_option maxHeartbeats 4000000 in
theorem dead_any (h : DiskR w F p s S) (hl : LogP w l p L) :
    Calls Tryz.prog 88 #[.pointer (some ⟨l, 0, none⟩)] w fun e w' => e = .returned (.bool (L.dead S)) ∧ Below w.heap.size w w' := by
  have h1 := fun n => dburnt (h.later (below_drewN (Below.refl w.heap.size w) n))
  have h2 := fun n => dlife (h.later (below_drewN (Below.refl w.heap.size w) n))
  have c0 := hl.c0
  have c3 := hl.c3
  unfold LG.dead
  go_enter Tryz.func88, Tryz.ntmps88
  by_cases q : S.fuse = 0
  · rw [show (S.fuse == 0) = true by simp [q]] at h1 ⊢
    go_wp2_with fail
    go_quiet ((go_at_call 51; exact Calls.quiet_of_same (h1 _)))
    go_wp2
    go_ret
    exact ⟨rfl, below_drewN (Below.refl _ _) _⟩
  · rw [show (S.fuse == 0) = false by simp [q]] at h1 ⊢
    go_wp2_with fail
    go_quiet (first | (go_at_call 51; exact Calls.quiet_of_same (h1 _)) | (go_at_call 125; exact Calls.quiet_of_same (h2 _)))
    go_wp2
    go_ret
    exact ⟨rfl, below_drewN (Below.refl _ _) _⟩
set_option maxRecDepth 20000 in
set_option maxHeartbeats 4000000 in
theorem unready_any (h : DiskR w F p s S) (hl : LogP w l p L) :
    Calls Tryz.prog 100 #[.pointer (some ⟨l, 0, none⟩)] w fun e w' => e = .returned (.int .i64 (L.unready S)) ∧ Below w.heap.size w w' := by
  have h1 := dead_any h hl
  unfold LG.unready
  go_enter Tryz.func100, Tryz.ntmps100
  cases hd : L.dead S
  · rw [hd] at h1
    cases hb : L.begun
    · rw [if_neg (by decide), if_neg (by decide)]
      go_wp2_with fail
      refine h1.mono ?_
      rintro e w' ⟨rfl, hb'⟩
      have c4 := (hl.later hb').c4
      rw [hb] at c4
      go_wp2
      go_ret
      exact ⟨rfl, hb'⟩
    · rw [if_neg (by decide), if_pos rfl]
      go_wp2_with fail
      refine h1.mono ?_
      rintro e w' ⟨rfl, hb'⟩
      have c4 := (hl.later hb').c4
      rw [hb] at c4
      go_wp2
      go_ret
      exact ⟨rfl, hb'⟩
  · rw [hd] at h1
    rw [if_pos rfl]
    go_wp2_with fail
    refine h1.mono ?_
    rintro e w' ⟨rfl, hb'⟩
    go_wp2
    go_ret
    exact ⟨rfl, hb'⟩
set_option maxRecDepth 20000 in
set_option maxHeartbeats 4000000 in
theorem room_any (hl : LogP w l p L) (hk : L.Ok s) :
    Calls Tryz.prog 130 #[.pointer (some ⟨l, 0, none⟩)] w fun e w' => e = .returned (.int .i64 ((L.n : Int) - ((L.head : Int) - (L.tail : Int)))) ∧ Below w.heap.size w w' := by
  have c2 := hl.c2
  have c6 := hl.c6
  have c7 := hl.c7
  have b1 := hk.n2
  have b2 := hk.th
  have b4 := hk.hn
  go_enter Tryz.func130, Tryz.ntmps130
  go_wp2_with fail
  go_quiet (fail)
  go_wp2
  go_ret
  exact ⟨rfl, below_drewN (Below.refl _ _) _⟩

/-- What Room tells. -/
def LG.room (L : LG) (S : DS) : Int × Int := if L.unready S ≠ 0 then (0, L.unready S) else ((L.n : Int) - ((L.head : Int) - (L.tail : Int)), 0)

set_option maxRecDepth 20000 in
set_option maxHeartbeats 4000000 in
theorem Room_any (h : DiskR w F p s S) (hl : LogP w l p L) (hk : L.Ok s) :
    Calls Tryz.prog 93 #[.pointer (some ⟨l, 0, none⟩)] w fun e w' => e = .returned (.tuple #[.int .i64 (L.room S).1, .int .i64 (L.room S).2]) ∧ Below w.heap.size w w' := by
  have h1 := unready_any h hl
  unfold LG.room
  generalize L.unready S = U at *
  go_enter Tryz.func93, Tryz.ntmps93
  by_cases q : U = 0
  · subst q
    rw [if_neg (by decide)]
    go_wp2_with fail
    refine h1.mono ?_
    rintro e w1 ⟨rfl, hb⟩
    have HB := hb
    go_wp2_with fail
    refine (room_any (hl.later hb) hk).mono ?_
    rintro e w2 ⟨rfl, hb⟩
    go_wp2
    go_ret2
    exact ⟨rfl, (HB.trans (hb.mono HB.size))⟩
  · rw [if_pos q]
    have d : (U == 0) = false := by rw [beq_eq_false_iff_ne]; exact q
    go_wp2_with fail
    refine h1.mono ?_
    rintro e w1 ⟨rfl, hb⟩
    go_wp2
    go_ret2
    exact ⟨rfl, hb⟩
end
end Go.Proofs.YtokcgifpljeoiaaGreat
end

section
namespace Go.Proofs.YtokcgifpljeoiaaGreat
open Go.RowKit

/-- A walk of steps that ends at the first error. -/
def stepsTo (S : DS) (g : Nat → DS → Int × DS) : Nat → Int × DS
  | 0 => (0, S)
  | k + 1 => if (stepsTo S g k).1 ≠ 0 then stepsTo S g k else g k (stepsTo S g k).2
theorem stepsTo_err {S : DS} {g : Nat → DS → Int × DS} {k : Nat} (h : (stepsTo S g k).1 ≠ 0) : ∀ m, k ≤ m → stepsTo S g m = stepsTo S g k
  | 0, hm => by rw [show k = 0 by omega]
  | m + 1, hm => by
    by_cases e : k = m + 1
    · rw [e]
    · have := stepsTo_err h m (by omega)
      show (if (stepsTo S g m).1 ≠ 0 then stepsTo S g m else g m (stepsTo S g m).2) = _
      rw [this, if_pos h]
theorem stepsTo_ok {S : DS} {g : Nat → DS → Int × DS} {k : Nat} (h : (stepsTo S g k).1 = 0) : stepsTo S g (k + 1) = g k (stepsTo S g k).2 := by
  rw [stepsTo, if_neg (by omega)]
theorem stepsTo_puts {S : DS} {g : Nat → DS → Int × DS} (hg : ∀ k T, (g k T).2.puts.length ≤ T.puts.length + 1) : ∀ k, (stepsTo S g k).2.puts.length ≤ S.puts.length + k
  | 0 => Nat.le_refl _
  | k + 1 => by
    have := stepsTo_puts hg k (S := S)
    have := hg k (stepsTo S g k).2
    unfold stepsTo
    split <;> omega

/-- The wiping of the first k sectors. -/
def wipeTo (S : DS) (s f k : Nat) : Int × DS := stepsTo S (fun j T => T.wr s ((f + j : Nat) : Int) 512 (zs 512)) k
def awipe (S : DS) (s f n : Nat) : Int × DS := if (wipeTo S s f (n + 2)).1 ≠ 0 then wipeTo S s f (n + 2) else (wipeTo S s f (n + 2)).2.fl s
theorem wipeTo_puts (S : DS) (s f k : Nat) : (wipeTo S s f k).2.puts.length ≤ S.puts.length + k := stepsTo_puts (fun _ _ => wr_puts _ _ _ _ _) k

theorem more_more {F : Nat → Prop} {w w1 w2 : World} (h1 : w.heap.size ≤ w1.heap.size) (h2 : w1.heap.size ≤ w2.heap.size) : ∀ k, more (more F w w1) w1 w2 k → more F w w2 k := fun k hk => by
  rcases hk with (hk | hk) | hk
  · exact .inl hk
  · exact .inr ⟨hk.1, by omega⟩
  · exact .inr ⟨by omega, hk.2⟩
theorem more_lt {F : Nat → Prop} {w w2 : World} (hl : ∀ k, F k → k < w.heap.size) (h2 : w.heap.size ≤ w2.heap.size) : ∀ k, more F w w2 k → k < w2.heap.size := fun k hk => by
  rcases hk with hk | hk
  · have := hl k hk; omega
  · exact hk.2
end Go.Proofs.YtokcgifpljeoiaaGreat
end

section
namespace Go.Proofs.YtokcgifpljeoiaaGreat
open Go.RowKit

/-- All that a disk holds are bytes. -/
def DS.Byt (S : DS) : Prop := Bytes S.im ∧ ∀ q ∈ S.puts, Bytes q.2
theorem dsec_bytes {im : List Int} (h : Bytes im) (k : Nat) : Bytes (dsec im k) := (h.drop _).take _
theorem pend_bytes {S : DS} (h : S.Byt) (k j : Nat) : Bytes ((pendOf S.puts k).getD j []) := by
  rcases Nat.lt_or_ge j (pendOf S.puts k).length with hj | hj
  · rw [List.getD, List.getElem?_eq_getElem hj, Option.getD_some]
    have hm := List.getElem_mem hj
    unfold pendOf at hm
    obtain ⟨q, hq, e⟩ := List.mem_map.1 hm
    have := h.2 q (List.mem_filter.1 hq).1
    unfold pendOf
    rw [← e]
    exact this
  · rw [List.getD, List.getElem?_eq_none hj]
    exact Bytes.nil
theorem cand_bytes {S : DS} (h : S.Byt) (k j : Nat) : Bytes (S.cand k j) := by
  unfold DS.cand
  split
  · exact dsec_bytes h.1 k
  · exact pend_bytes h k _
theorem DS.Byt.now {S : DS} (h : S.Byt) (k : Nat) : Bytes (S.now k) := cand_bytes h k _
theorem imOf_bytes {s : Nat} {f : Nat → List Int} (h : ∀ k, Bytes (f k)) : Bytes (imOf s f) := by
  intro x hx
  obtain ⟨k, _, hk⟩ := List.mem_flatMap.1 hx
  exact h k x hk
theorem DS.Byt.wr {S : DS} (h : S.Byt) (s : Nat) (x : Int) (n : Nat) {l : List Int} (hl : Bytes l) : (S.wr s x n l).2.Byt := by
  unfold DS.wr
  split
  · exact h
  · split
    · exact h
    · split
      · exact h
      · refine ⟨h.1, fun q hq => ?_⟩
        rcases List.mem_append.1 hq with hq | hq
        · exact h.2 q hq
        · rw [List.mem_singleton.1 hq]; exact hl
theorem DS.Byt.fl {S : DS} (h : S.Byt) (s : Nat) : (S.fl s).2.Byt := by
  unfold DS.fl
  split
  · exact h
  · exact ⟨imOf_bytes h.now, fun q hq => by cases hq⟩
theorem DS.Byt.take {S : DS} (h : S.Byt) : S.take.Byt := h
theorem torn_bytes {S : DS} (h : S.Byt) (k A B C : Nat) : Bytes (tornOf S k A B C) := by
  unfold tornOf
  exact ((cand_bytes h k _).take _).append ((cand_bytes h k _).drop _)
theorem DS.Byt.crash {S : DS} (h : S.Byt) (s : Nat) (l : List P3) : (S.crash s l).Byt := by
  refine ⟨imOf_bytes (fun k => ?_), fun q hq => by cases hq⟩
  unfold cutOf
  split
  · exact dsec_bytes h.1 k
  · exact torn_bytes h k _ _ _
theorem stepsTo_byt {S : DS} {g : Nat → DS → Int × DS} (h : S.Byt) (hg : ∀ k T, T.Byt → (g k T).2.Byt) : ∀ k, (stepsTo S g k).2.Byt
  | 0 => h
  | k + 1 => by
    have := stepsTo_byt h hg k
    unfold stepsTo
    split
    · exact this
    · exact hg k _ this
theorem zs_bytes (n : Nat) : Bytes (zs n) := by unfold zs; exact Bytes.zeros n
theorem DS.Byt.wipe {S : DS} (h : S.Byt) (s f n : Nat) : (awipe S s f n).2.Byt := by
  have h1 : ∀ k, (wipeTo S s f k).2.Byt := stepsTo_byt h (fun k T hT => hT.wr s _ _ (zs_bytes _))
  unfold awipe
  split
  · exact h1 _
  · exact (h1 _).fl s
theorem srenew_bytes {l r : List Int} (num : Int) {dt : List Int} (hd : Bytes dt) : Bytes (srenew l r num dt).2.1 := by
  have hf : ∀ (a b : Int), dt.length ≤ 496 → Bytes (sform (turnOf a b) (bytes8 num.toNat ++ dt)) := fun a b h => sform_bytes ((bytes8_bytes _).append hd) (by rw [List.length_append, bytes8_len]; omega) ⟨by omega, by have := turnOf_le a b; omega⟩
  unfold srenew
  split
  · exact Bytes.nil
  · split
    · exact Bytes.nil
    · split
      · exact Bytes.nil
      · dsimp only
        split
        · exact Bytes.nil
        · split
          · exact hf _ _ (by omega)
          · exact hf _ _ (by omega)
theorem DS.Byt.anew {S : DS} (h : S.Byt) (s f : Nat) (num : Int) : (anew S s f num).2.Byt := by
  have h1 := h.wr s ((f : Int) + ((srenew (S.now f) (S.now (f + 1)) num []).1 : Int)) 512 (srenew_bytes (l := S.now f) (r := S.now (f + 1)) num Bytes.nil)
  unfold Go.Proofs.YtokcgifpljeoiaaGreat.anew
  split
  · exact h
  · split
    · exact h
    · split
      · exact h1
      · exact h1.fl s
theorem sseal_bytes {old body : List Int} (hb : Bytes body) : Bytes (sseal old body).1 := by
  unfold sseal
  split
  · exact Bytes.nil
  · split
    · exact Bytes.nil
    · exact sform_bytes hb (by omega) ⟨by omega, by have := turnOf_le (old.getD 0 0) (old.getD 511 0); omega⟩
theorem awipe_puts (S : DS) (s f n : Nat) : (awipe S s f n).2.puts.length ≤ S.puts.length + n + 3 := by
  have h1 := wipeTo_puts S s f (n + 2)
  have h2 := fl_puts (wipeTo S s f (n + 2)).2 s
  unfold awipe
  split <;> omega
end Go.Proofs.YtokcgifpljeoiaaGreat
end

section
namespace Go.Proofs.YtokcgifpljeoiaaGreat
open Go.RowKit

/-- What Format does. -/
def lformat (S : DS) (s : Nat) (f n : Int) : Int × DS :=
  if lrefuse S s f n ≠ 0 then (lrefuse S s f n, S) else
  if (awipe S.take s f.toNat n.toNat).1 ≠ 0 then awipe S.take s f.toNat n.toNat else anew (awipe S.take s f.toNat n.toNat).2 s f.toNat 4294967296

theorem lrefuse_zero {S : DS} {s : Nat} {f n : Int} (h : lrefuse S s f n = 0) : S.fuse ≠ 0 ∧ ∃ a b : Nat, f = (a : Int) ∧ n = (b : Int) ∧ a + 2 + b ≤ s ∧ 18 ≤ b ∧ b ≤ 256 := by
  unfold lrefuse at h
  split at h
  · omega
  · rename_i h1
    split at h
    · omega
    · split at h
      · omega
      · split at h
        · omega
        · exact ⟨h1, f.toNat, n.toNat, by omega, by omega, by omega, by omega, by omega⟩

/-- The area in its box, behind a call that leaves it. -/
theorem box_after {w w1 : World} {b : Nat} {o : Obj} {G : Nat → Prop} (h : w.heap[b]? = some o) (hk : Keeps G w w1) (hn : ¬ G b) : w1.heap[b]? = some o := (hk.block b (lt_there h) hn).trans h

end Go.Proofs.YtokcgifpljeoiaaGreat
end

section
namespace Go.Proofs.YtokcgifpljeoiaaGreat
open Go.RowKit

/-- What Start does. -/
def LG.start (L : LG) (S : DS) (s : Nat) : Int × DS × LG :=
  if L.dead S = true then (3, S, L) else if L.begun = true then (5, S, L) else
  if (anew S s L.f (((L.top + 1 : Nat) : Int) * 4294967296 + ((0 : Nat) : Int))).1 ≠ 0 then ((anew S s L.f (((L.top + 1 : Nat) : Int) * 4294967296 + ((0 : Nat) : Int))).1, (anew S s L.f (((L.top + 1 : Nat) : Int) * 4294967296 + ((0 : Nat) : Int))).2, L)
  else (0, (anew S s L.f (((L.top + 1 : Nat) : Int) * 4294967296 + ((0 : Nat) : Int))).2, { L with begun := true, ep := L.top + 1, tail := 0, head := 0 })
theorem LogP.started {w : World} {l p : Nat} {L : LG} (h : LogP w l p L) (E : Int) (n : Nat) (hE : E = (n : Int)) :
    LogP ((((w.setCell ⟨l, 4, none⟩ (.bool true)).setCell ⟨l, 5, none⟩ (.int .i64 E)).setCell ⟨l, 6, none⟩ (.int .i64 0)).setCell ⟨l, 7, none⟩ (.int .i64 0)) l p { L with begun := true, ep := n, tail := 0, head := 0 } := by
  subst hE
  have h1 := heap_setCell_same _ _ 4 _ _ (.bool true) h
  have h2 := heap_setCell_same _ _ 5 _ _ (.int .i64 (n : Int)) h1
  have h3 := heap_setCell_same _ _ 6 _ _ (.int .i64 0) h2
  have h4 := heap_setCell_same _ _ 7 _ _ (.int .i64 0) h3
  exact h4.trans (by simp [lgC])
theorem keeps_set {F : Nat → Prop} (w : World) {l : Nat} (hF : F l) (j : Nat) (v : Value) : Keeps F w (w.setCell ⟨l, j, none⟩ v) := Keeps.setCell (F := F) w (p := ⟨l, j, none⟩) hF v

section
variable {w : World} {F : Nat → Prop} {p s l : Nat} {S : DS} {L : LG}

end
end Go.Proofs.YtokcgifpljeoiaaGreat
end

section
namespace Go.Proofs.YtokcgifpljeoiaaGreat
open Go.RowKit

section
variable {w : World} {F : Nat → Prop} {p s l : Nat} {S : DS} {L : LG}

end
end Go.Proofs.YtokcgifpljeoiaaGreat
end

section
namespace Go.Proofs.YtokcgifpljeoiaaGreat
open Go.RowKit

/-- A piece as a value. -/
abbrev pieceV (e q i c : Int) (a : Option Addr) (n k : Nat) : Value := .agg #[.int .i64 e, .int .i64 q, .int .i64 i, .int .i64 c, .slice a n k]
abbrev pieceC (e q i c : Int) (a : Option Addr) (n k : Nat) : Array Value := #[.int .i64 e, .int .i64 q, .int .i64 i, .int .i64 c, .slice a n k]
/-- What is sealed of a piece. -/
def pbody (E P i c : Nat) (part : List Int) : List Int := leb 4 E ++ (leb 4 P ++ (leb 2 i ++ (leb 2 c ++ part)))

theorem pbody_bytes {E P i c : Nat} {l : List Int} (h : Bytes l) : Bytes (pbody E P i c l) := (leb_bytes _ _).append ((leb_bytes _ _).append ((leb_bytes _ _).append ((leb_bytes _ _).append h)))
end Go.Proofs.YtokcgifpljeoiaaGreat
end

section
namespace Go.Proofs.YtokcgifpljeoiaaGreat
open Go.RowKit

section
variable {w w' : World} {F G : Nat → Prop} {p s m : Nat} {S : DS}
theorem wr_in {S : DS} {s k : Nat} (hf : S.fuse ≠ 0) (hk : k < s) (l : List Int) : S.wr s (k : Int) 512 l = (0, (S.put k l).wrote.spend) := by
  unfold DS.wr
  rw [if_neg hf, if_neg (by omega), if_neg (by omega), Int.toNat_natCast]
end

/-- What the laying of one piece does. -/
def aput (S : DS) (s f n E P i c : Nat) (part : List Int) : Int × DS :=
  if S.fuse = 0 then (3, S) else S.wr s ((f + 2 + P % n : Nat) : Int) 512 (sseal (S.now (f + 2 + P % n)) (pbody E P i c part)).1
theorem Src.avoid {w w' : World} {a : Option Addr} {n : Nat} {l : List Int} {F : Nat → Prop} (h : Src w a n l) (hk : Keeps F w w') (ha : ∀ y, a = some y → 0 < n → ¬ F y.block) : Src w' a n l :=
  ⟨h.1, h.2.1, fun x hx i hi => by
    have h0 := h.2.2 x hx i hi
    have hb : (x.add i).block = x.block := by unfold Addr.add; split <;> rfl
    rw [World.cell?_of_block (w := w) (hk.block _ (World.block_lt_of_cell? _ _ h0) (fun hf => by rw [hb] at hf; exact ha x hx (by omega) hf))]
    exact h0⟩
theorem below_two (w : World) (o1 o2 : Obj) : Below w.heap.size w ((w.alloc o1).alloc o2) := ((Below.refl _ _).alloc (Nat.le_refl _) _).alloc (by simp) _

end Go.Proofs.YtokcgifpljeoiaaGreat
end

section
namespace Go.Proofs.YtokcgifpljeoiaaGreat
open Go.RowKit

theorem src_at {w : World} {b o n : Nat} {l : List Int} (h : Src w (some ⟨b, o, none⟩) n l) (x y : Nat) (hxy : x + y ≤ n) : ∀ i, i < y → w.cell? ⟨b, o + x + i, none⟩ = some (.int .u8 (((l.drop x).take y).getD i 0)) := by
  intro i hi
  have := h.2.2 _ rfl (x + i) (by omega)
  rw [addr_add] at this
  rw [Nat.add_assoc, this]
  congr 2
  simp [List.getD, hi, List.getElem?_drop]
theorem src_piece {w : World} {b o n : Nat} {l : List Int} (h : Src w (some ⟨b, o, none⟩) n l) (x y : Nat) (hxy : x + y ≤ n) : Src w (some ⟨b, o + x, none⟩) y ((l.drop x).take y) :=
  ⟨by have := h.1; simp; omega, (fun e => by cases e), fun z hz i hi => by cases hz; rw [addr_add]; exact src_at h x y hxy i hi⟩

theorem keeps_set5 (w1 : World) (b : Nat) (v0 v1 v2 v3 v4 : Value) : Keeps (fun k => k = b) w1 (((((w1.setCell ⟨b, 0, none⟩ v0).setCell ⟨b, 1, none⟩ v1).setCell ⟨b, 2, none⟩ v2).setCell ⟨b, 3, none⟩ v3).setCell ⟨b, 4, none⟩ v4) :=
  ((((keeps_set (F := fun k => k = b) w1 rfl 0 v0).trans (keeps_set (F := fun k => k = b) _ rfl 1 v1) (fun _ h => .inl h)).trans (keeps_set (F := fun k => k = b) _ rfl 2 v2) (fun _ h => .inl h)).trans (keeps_set (F := fun k => k = b) _ rfl 3 v3) (fun _ h => .inl h)).trans (keeps_set (F := fun k => k = b) _ rfl 4 v4) (fun _ h => .inl h)
theorem heap_drewn (w : World) (b : Nat) : (World.drew w).heap[b]? = w.heap[b]? := rfl
theorem set5_drew {w : World} {b : Nat} {t : TypeId} {a0 a1 a2 a3 a4 : Value} (v0 v1 v2 v3 v4 : Value) (h : w.heap[b]? = some (.cells #[a0, a1, a2, a3, a4] t (0, 0))) :
    (World.drew (((((w.setCell ⟨b, 0, none⟩ v0).setCell ⟨b, 1, none⟩ v1).setCell ⟨b, 2, none⟩ v2).setCell ⟨b, 3, none⟩ v3).setCell ⟨b, 4, none⟩ v4)).heap[b]? = some (.cells #[v0, v1, v2, v3, v4] t (0, 0)) := (heap_drewn _ _).trans (set5 v0 v1 v2 v3 v4 h)
theorem infoPiece : (Tryz.prog.info? 187).map (·.size) = some 5 := by kernel_rfl
theorem below_set5 {B : Nat} {w w1 : World} (h : Below B w w1) {b : Nat} (hb : B ≤ b) (v0 v1 v2 v3 v4 : Value) : Below B w (((((w1.setCell ⟨b, 0, none⟩ v0).setCell ⟨b, 1, none⟩ v1).setCell ⟨b, 2, none⟩ v2).setCell ⟨b, 3, none⟩ v3).setCell ⟨b, 4, none⟩ v4) :=
  ((((h.setCell (p := ⟨b, 0, none⟩) hb _).setCell (p := ⟨b, 1, none⟩) hb _).setCell (p := ⟨b, 2, none⟩) hb _).setCell (p := ⟨b, 3, none⟩) hb _).setCell (p := ⟨b, 4, none⟩) hb _

set_option maxRecDepth 20000 in
set_option maxHeartbeats 4000000 in
theorem pieceOf_no (a : Option Addr) (n c : Nat) (l : List Int) (w : World) (hs : Src w a n l) (hb : Bytes l) (hq : (sopens l).2 ≠ 0 ∨ (sopens l).1.length < 12) :
    Calls Tryz.prog 144 #[.slice a n c] w fun e w' => e = .returned (pieceV 0 0 0 0 none 0 0) ∧ Below w.heap.size w w' := by
  have h1 := sopen_any a n c l (w.alloc (.cells (pieceC 0 0 0 0 none 0 0) 187)) (hs.later (below_box _ _)) hb
  generalize sopens l = Y at *
  go_enter Tryz.func144, Tryz.ntmps144
  go_wp2_with fail
  refine h1.mono ?_
  rintro e w1 ⟨v, rfl, ⟨a1, c1, rfl, hs1, _, _⟩, hb1⟩
  have hx := (hb1.block _ (by simp)).trans (heap_alloc_new _ _)
  have HB1 := ((below_box w (.cells (pieceC 0 0 0 0 none 0 0) 187)).trans (hb1.mono (by simp)))
  have f := fun j => frozen_of_block hx j
  have k0 := cell_of_block hx (j := 0) rfl
  have k1 := cell_of_block hx (j := 1) rfl
  have k2 := cell_of_block hx (j := 2) rfl
  have k3 := cell_of_block hx (j := 3) rfl
  have k4 := cell_of_block hx (j := 4) rfl
  by_cases q : Y.2 = 0
  · have q2 : (Y.1.length : Int) < 12 := by omega
    rw [q] at h1
    go_wp2
    exact bodyPost_ret (results_cell_row (P := Tryz.prog) rfl _ _ w.heap.size 187 _ (0, 0) _ rfl (set5 _ _ _ _ _ hx) Tryz.underlying187 rfl infoPiece) rfl ⟨rfl, below_set5 HB1 (Nat.le_refl _) _ _ _ _ _⟩
  · have q2 : (((Y.2 : Nat) : Int) == 0) = false := by rw [beq_eq_false_iff_ne]; omega
    go_wp2
    exact bodyPost_ret (results_cell_row (P := Tryz.prog) rfl _ _ w.heap.size 187 _ (0, 0) _ rfl (set5 _ _ _ _ _ hx) Tryz.underlying187 rfl infoPiece) rfl ⟨rfl, below_set5 HB1 (Nat.le_refl _) _ _ _ _ _⟩
set_option maxRecDepth 20000 in
set_option maxHeartbeats 4000000 in
theorem pieceOf_ok (a : Option Addr) (n c : Nat) (l : List Int) (w : World) (hs : Src w a n l) (hb : Bytes l) (hq : (sopens l).2 = 0) (hq2 : 12 ≤ (sopens l).1.length) :
    Calls Tryz.prog 144 #[.slice a n c] w fun e w' => ∃ a' k, e = .returned (pieceV ((pcBody (sopens l).1).e : Int) ((pcBody (sopens l).1).p : Int) ((pcBody (sopens l).1).i : Int) ((pcBody (sopens l).1).c : Int) a' (pcBody (sopens l).1).d.length k) ∧ Src w' a' (pcBody (sopens l).1).d.length (pcBody (sopens l).1).d ∧ (∀ y, a' = some y → w.heap.size < y.block) ∧ Below w.heap.size w w' := by
  have h1 := sopen_any a n c l (w.alloc (.cells (pieceC 0 0 0 0 none 0 0) 187)) (hs.later (below_box _ _)) hb
  have hyb := so_bytes hb
  rw [hq] at h1
  generalize (sopens l).1 = Y at *
  have hx12 : ¬ (Y.length : Int) < 12 := by omega
  go_enter Tryz.func144, Tryz.ntmps144
  go_wp2_with fail
  refine h1.mono ?_
  rintro e w1 ⟨v, rfl, ⟨a1, c1, rfl, hs1, hc1, hlo⟩, hb1⟩
  obtain ⟨b, o, rfl⟩ := src_spot hs1 (by omega)
  have hlo' := hlo _ rfl
  have hx := (hb1.block _ (by simp)).trans (heap_alloc_new _ _)
  have HB1 := ((below_box w (.cells (pieceC 0 0 0 0 none 0 0) 187)).trans (hb1.mono (by simp)))
  have f := fun j => frozen_of_block hx j
  have k0 := cell_of_block hx (j := 0) rfl
  have k1 := cell_of_block hx (j := 1) rfl
  have k2 := cell_of_block hx (j := 2) rfl
  have k3 := cell_of_block hx (j := 3) rfl
  have k4 := cell_of_block hx (j := 4) rfl
  have t1 := fun wx (hw : ∀ a, World.cell? wx a = w1.cell? a) cp => wtaken_any b o 4 cp (Y.take 4) wx (hyb.take 4) (by simp; omega) (by omega) (fun i hi => (hw _).trans (by have := src_at hs1 0 4 (by omega) i hi; rwa [List.drop_zero, Nat.add_zero] at this))
  have t2 := fun wx (hw : ∀ a, World.cell? wx a = w1.cell? a) cp => wtaken_any b (o + 4) 4 cp ((Y.drop 4).take 4) wx ((hyb.drop 4).take 4) (by simp; omega) (by omega) (fun i hi => (hw _).trans (src_at hs1 4 4 (by omega) i hi))
  have t3 := fun wx (hw : ∀ a, World.cell? wx a = w1.cell? a) cp => wtaken_any b (o + 8) 2 cp ((Y.drop 8).take 2) wx ((hyb.drop 8).take 2) (by simp; omega) (by omega) (fun i hi => (hw _).trans (src_at hs1 8 2 (by omega) i hi))
  have t4 := fun wx (hw : ∀ a, World.cell? wx a = w1.cell? a) cp => wtaken_any b (o + 10) 2 cp ((Y.drop 10).take 2) wx ((hyb.drop 10).take 2) (by simp; omega) (by omega) (fun i hi => (hw _).trans (src_at hs1 10 2 (by omega) i hi))
  have b4 : (4 : Int) ≤ (c1 : Int) := by omega
  have b8 : (8 : Int) ≤ (c1 : Int) := by omega
  have b10 : (10 : Int) ≤ (c1 : Int) := by omega
  have b12 : (12 : Int) ≤ (c1 : Int) := by omega
  have dl : (Y.length : Int) ≤ (c1 : Int) := by omega
  have n0 : ¬ c1 = 0 := by omega
  have n4 : ¬ c1 = 4 := by omega
  have n8 : ¬ c1 = 8 := by omega
  have n10 : ¬ c1 = 10 := by omega
  have T1 := t1
  have T2 := t2
  have T3 := t3
  have T4 := t4
  have HX := hx
  by_cases n12 : c1 = 12
  · have hl12 : Y.length = 12 := by omega
    have HLen : ((pcBody Y).d = []) := List.eq_nil_of_length_eq_zero (by simp [pcBody, hl12])
    subst n12
    rw [hl12] at *
    go_wp2_with fail
    go_region_held3 (fun _ => True) (trivial)
      (first
        | (go_at_call 174; refine (T1 w1.drew (fun _ => rfl) 12).mono ?_; clear T1; rintro e w2 ⟨rfl, hw⟩; subst hw)
        | (go_at_call 174; refine (T2 w1.drew (fun _ => rfl) (8)).mono ?_; clear T2; rintro e w2 ⟨rfl, hw⟩; subst hw)
        | (go_at_call 174; refine (T3 w1.drew (fun _ => rfl) (4)).mono ?_; clear T3; rintro e w2 ⟨rfl, hw⟩; subst hw)
        | (go_at_call 174; refine (T4 w1.drew (fun _ => rfl) (2)).mono ?_; clear T4; rintro e w2 ⟨rfl, hw⟩; subst hw))
    go_wp2
    refine bodyPost_ret (results_cell_row (P := Tryz.prog) rfl _ _ w.heap.size 187 _ (0, 0) _ rfl (set5_drew _ _ _ _ _ HX) Tryz.underlying187 rfl infoPiece) rfl ⟨some ⟨b, o, none⟩, 0, ?_, ?_, ?_, below_drew (below_set5 HB1 (Nat.le_refl _) _ _ _ _ _)⟩
    · rw [HLen]
      rfl
    · rw [HLen]
      exact ⟨rfl, fun _ => rfl, fun x hx i hi => by cases hi⟩
    · intro y hy
      cases hy
      simp at hlo'
      show w.heap.size < b
      omega
  · go_wp2_with fail
    go_region_held3 (fun _ => True) (trivial)
      (first
        | (go_at_call 174; refine (T1 w1.drew (fun _ => rfl) c1).mono ?_; clear T1; rintro e w2 ⟨rfl, hw⟩; subst hw)
        | (go_at_call 174; refine (T2 w1.drew (fun _ => rfl) (c1 - 4)).mono ?_; clear T2; rintro e w2 ⟨rfl, hw⟩; subst hw)
        | (go_at_call 174; refine (T3 w1.drew (fun _ => rfl) (c1 - 8)).mono ?_; clear T3; rintro e w2 ⟨rfl, hw⟩; subst hw)
        | (go_at_call 174; refine (T4 w1.drew (fun _ => rfl) (c1 - 10)).mono ?_; clear T4; rintro e w2 ⟨rfl, hw⟩; subst hw))
    go_wp2
    have hdl : (pcBody Y).d.length = Y.length - 12 := by simp [pcBody]
    refine bodyPost_ret (results_cell_row (P := Tryz.prog) rfl _ _ w.heap.size 187 _ (0, 0) _ rfl (set5_drew _ _ _ _ _ HX) Tryz.underlying187 rfl infoPiece) rfl ⟨some ⟨b, o + 12, none⟩, c1 - 12, ?_, ?_, ?_, below_drew (below_set5 HB1 (Nat.le_refl _) _ _ _ _ _)⟩
    · rw [hdl]
      rfl
    · rw [hdl]
      have h1 := src_piece hs1 12 (Y.length - 12) (by omega)
      rw [List.take_of_length_le (by simp)] at h1
      have h2 := h1.avoid (keeps_set5 w1 w.heap.size (.int .i64 ((le (Y.take 4) : Nat) : Int)) (.int .i64 ((le ((Y.drop 4).take 4) : Nat) : Int)) (.int .i64 ((le ((Y.drop 8).take 2) : Nat) : Int)) (.int .i64 ((le ((Y.drop 10).take 2) : Nat) : Int)) (.slice (some ⟨b, o + 12, none⟩) (Y.length - 12) (c1 - 12))) (fun y hy _ e => by cases hy; simp at hlo' e; omega)
      exact h2.later (below_drew (Below.refl _ _))
    · intro y hy
      cases hy
      simp at hlo'
      show w.heap.size < b
      omega
end Go.Proofs.YtokcgifpljeoiaaGreat
end

section
namespace Go.Proofs.YtokcgifpljeoiaaGreat
open Go.RowKit

theorem pieceOf_any (a : Option Addr) (n c : Nat) (l : List Int) (w : World) (hs : Src w a n l) (hb : Bytes l) :
    Calls Tryz.prog 144 #[.slice a n c] w fun e w' => ∃ a' k, e = .returned (pieceV ((pcOf l).e : Int) ((pcOf l).p : Int) ((pcOf l).i : Int) ((pcOf l).c : Int) a' (pcOf l).d.length k) ∧ Src w' a' (pcOf l).d.length (pcOf l).d ∧ (∀ y, a' = some y → w.heap.size < y.block) ∧ Below w.heap.size w w' := by
  by_cases q : (sopens l).2 ≠ 0 ∨ (sopens l).1.length < 12
  · refine (pieceOf_no a n c l w hs hb q).mono ?_
    rintro e w' ⟨rfl, hb'⟩
    unfold pcOf
    rw [if_pos q]
    exact ⟨none, 0, rfl, ⟨rfl, fun _ => rfl, fun x hx => by cases hx⟩, fun y hy => (by cases hy), hb'⟩
  · refine (pieceOf_ok a n c l w hs hb (by omega) (by omega)).mono ?_
    rintro e w' h
    unfold pcOf
    rw [if_neg q]
    exact h

/-- A piece in its place of a ring. -/
def PieceAt (w : World) (B g i : Nat) (q : PC) : Prop :=
  ∃ a k, w.cell? ⟨g, i * 5, none⟩ = some (.int .i64 (q.e : Int)) ∧ w.cell? ⟨g, i * 5 + 1, none⟩ = some (.int .i64 (q.p : Int)) ∧ w.cell? ⟨g, i * 5 + 2, none⟩ = some (.int .i64 (q.i : Int)) ∧ w.cell? ⟨g, i * 5 + 3, none⟩ = some (.int .i64 (q.c : Int)) ∧
    w.cell? ⟨g, i * 5 + 4, none⟩ = some (.slice a q.d.length k) ∧ Src w a q.d.length q.d ∧ ∀ y, a = some y → B ≤ y.block
theorem PieceAt.keep {w w' : World} {B g i : Nat} {q : PC} {F : Nat → Prop} (h : PieceAt w B g i q) (hk : Keeps F w w') (hg : ¬ F g) (hF : ∀ k, F k → k < B) : PieceAt w' B g i q := by
  obtain ⟨a, k, h0, h1, h2, h3, h4, h5, h6⟩ := h
  have e : ∀ o v, w.cell? ⟨g, o, none⟩ = some v → w'.cell? ⟨g, o, none⟩ = some v := fun o v hv => by
    have hb := World.block_lt_of_cell? _ _ hv
    exact (World.cell?_of_block (w := w) (a := ⟨g, o, none⟩) (hk.block g hb hg)).trans hv
  exact ⟨a, k, e _ _ h0, e _ _ h1, e _ _ h2, e _ _ h3, e _ _ h4, h5.avoid hk (fun y hy _ hf => by have := h6 y hy; have := hF _ hf; omega), h6⟩
theorem PieceAt.later {w w' : World} {B g i : Nat} {q : PC} (h : PieceAt w B g i q) (hb : Below w.heap.size w w') : PieceAt w' B g i q := h.keep (Keeps.of_below (fun _ => False) hb) (fun h => h) (fun _ h => h.elim)

theorem infoPiece3 : (Tryz.prog.info? 187).map (fun i => (i.zero, i.size, i.bytes)) = some (some (pieceV 0 0 0 0 none 0 0), 5, 56) := by kernel_rfl

/-- The five cells of a piece that is stored. -/
theorem cell_set5 {w : World} {g j : Nat} {T : TypeId} {cur : Array Value} (hg : w.heap[g]? = some (.cells cur T (0, 0))) (hj : j + 5 ≤ cur.size) (v0 v1 v2 v3 v4 : Value) :
    ∃ cur', (((((w.setCell ⟨g, j, none⟩ v0).setCell ⟨g, j + 1, none⟩ v1).setCell ⟨g, j + 2, none⟩ v2).setCell ⟨g, j + 3, none⟩ v3).setCell ⟨g, j + 4, none⟩ v4).heap[g]? = some (.cells cur' T (0, 0)) ∧ cur'.size = cur.size ∧
      cur'[j]? = some v0 ∧ cur'[j + 1]? = some v1 ∧ cur'[j + 2]? = some v2 ∧ cur'[j + 3]? = some v3 ∧ cur'[j + 4]? = some v4 ∧ ∀ o, o < j ∨ j + 5 ≤ o → cur'[o]? = cur[o]? := by
  have h0 := heap_setCell_same w g j _ T v0 hg
  have h1 := heap_setCell_same _ g (j + 1) _ T v1 h0
  have h2 := heap_setCell_same _ g (j + 2) _ T v2 h1
  have h3 := heap_setCell_same _ g (j + 3) _ T v3 h2
  have h4 := heap_setCell_same _ g (j + 4) _ T v4 h3
  refine ⟨_, h4, by simp, ?_, ?_, ?_, ?_, ?_, ?_⟩
  · rw [Array.getElem?_setIfInBounds_ne (by omega), Array.getElem?_setIfInBounds_ne (by omega), Array.getElem?_setIfInBounds_ne (by omega), Array.getElem?_setIfInBounds_ne (by omega), Array.getElem?_setIfInBounds_self_of_lt (by omega)]
  · rw [Array.getElem?_setIfInBounds_ne (by omega), Array.getElem?_setIfInBounds_ne (by omega), Array.getElem?_setIfInBounds_ne (by omega), Array.getElem?_setIfInBounds_self_of_lt (by simp; omega)]
  · rw [Array.getElem?_setIfInBounds_ne (by omega), Array.getElem?_setIfInBounds_ne (by omega), Array.getElem?_setIfInBounds_self_of_lt (by simp; omega)]
  · rw [Array.getElem?_setIfInBounds_ne (by omega), Array.getElem?_setIfInBounds_self_of_lt (by simp; omega)]
  · rw [Array.getElem?_setIfInBounds_self_of_lt (by simp; omega)]
  · intro o ho
    rw [Array.getElem?_setIfInBounds_ne (by omega), Array.getElem?_setIfInBounds_ne (by omega), Array.getElem?_setIfInBounds_ne (by omega), Array.getElem?_setIfInBounds_ne (by omega), Array.getElem?_setIfInBounds_ne (by omega)]
theorem keeps_set5at (w1 : World) (b j : Nat) (v0 v1 v2 v3 v4 : Value) : Keeps (fun k => k = b) w1 (((((w1.setCell ⟨b, j, none⟩ v0).setCell ⟨b, j + 1, none⟩ v1).setCell ⟨b, j + 2, none⟩ v2).setCell ⟨b, j + 3, none⟩ v3).setCell ⟨b, j + 4, none⟩ v4) :=
  ((((keeps_set (F := fun k => k = b) w1 rfl j v0).trans (keeps_set (F := fun k => k = b) _ rfl (j + 1) v1) (fun _ h => .inl h)).trans (keeps_set (F := fun k => k = b) _ rfl (j + 2) v2) (fun _ h => .inl h)).trans (keeps_set (F := fun k => k = b) _ rfl (j + 3) v3) (fun _ h => .inl h)).trans (keeps_set (F := fun k => k = b) _ rfl (j + 4) v4) (fun _ h => .inl h)

/-- A ring of which the first k places are filled. -/
def RingTo (w : World) (B g n k : Nat) (R : Nat → PC) : Prop := (∃ cur, w.heap[g]? = some (.cells cur 187 (0, 0)) ∧ cur.size = n * 5) ∧ ∀ i, i < k → PieceAt w B g i (R i)
theorem RingTo.keep {w w' : World} {B g n k : Nat} {R : Nat → PC} {F : Nat → Prop} (h : RingTo w B g n k R) (hk : Keeps F w w') (hg : ¬ F g) (hF : ∀ k, F k → k < B) : RingTo w' B g n k R := by
  obtain ⟨⟨cur, hc, hs⟩, h2⟩ := h
  exact ⟨⟨cur, (hk.block g (lt_there hc) hg).trans hc, hs⟩, fun i hi => (h2 i hi).keep hk hg hF⟩
theorem RingTo.lt {w : World} {B g n k : Nat} {R : Nat → PC} (h : RingTo w B g n k R) : g < w.heap.size := by
  obtain ⟨⟨cur, hc, hs⟩, h2⟩ := h
  exact lt_there hc
theorem RingTo.spot {w : World} {B g n k : Nat} {R : Nat → PC} (h : RingTo w B g n k R) (hk : k < n) : ∀ j, j < 5 → ∃ v, w.cell? ⟨g, k * 5 + j, none⟩ = some v := by
  obtain ⟨⟨cur, hc, hs⟩, h2⟩ := h
  intro j hj
  have hlt : k * 5 + j < cur.size := by omega
  exact ⟨cur[k * 5 + j], cell_of_block hc (by simp [hlt])⟩
theorem RingTo.fz {w : World} {B g n k : Nat} {R : Nat → PC} (h : RingTo w B g n k R) (j : Nat) : w.frozen? ⟨g, j, none⟩ = false := by
  obtain ⟨⟨cur, hc, hs⟩, h2⟩ := h
  exact frozen_of_block hc j
theorem RingTo.snoc {w : World} {B g n k : Nat} {R : Nat → PC} (h : RingTo w B g n k R) (hk : k < n) (hgB : g < B) (a : Option Addr) (c : Nat) (hs : Src w a (R k).d.length (R k).d) (ha : ∀ y, a = some y → B ≤ y.block) :
    RingTo (((((w.setCell ⟨g, k * 5, none⟩ (.int .i64 ((R k).e : Int))).setCell ⟨g, k * 5 + 1, none⟩ (.int .i64 ((R k).p : Int))).setCell ⟨g, k * 5 + 2, none⟩ (.int .i64 ((R k).i : Int))).setCell ⟨g, k * 5 + 3, none⟩ (.int .i64 ((R k).c : Int))).setCell ⟨g, k * 5 + 4, none⟩ (.slice a (R k).d.length c)) B g n (k + 1) R := by
  obtain ⟨⟨cur, hc, hsz⟩, h2⟩ := h
  obtain ⟨cur', hc', hsz', g0, g1, g2, g3, g4, go⟩ := cell_set5 hc (j := k * 5) (by omega) (.int .i64 ((R k).e : Int)) (.int .i64 ((R k).p : Int)) (.int .i64 ((R k).i : Int)) (.int .i64 ((R k).c : Int)) (.slice a (R k).d.length c)
  have hkp := keeps_set5at w g (k * 5) (.int .i64 ((R k).e : Int)) (.int .i64 ((R k).p : Int)) (.int .i64 ((R k).i : Int)) (.int .i64 ((R k).c : Int)) (.slice a (R k).d.length c)
  refine ⟨⟨cur', hc', by omega⟩, fun i hi => ?_⟩
  by_cases e : i = k
  · subst e
    exact ⟨a, c, cell_of_block hc' g0, cell_of_block hc' g1, cell_of_block hc' g2, cell_of_block hc' g3, cell_of_block hc' g4, hs.avoid hkp (fun y hy _ e => by have := ha y hy; omega), ha⟩
  · obtain ⟨a', c', p0, p1, p2, p3, p4, p5, p6⟩ := h2 i (by omega)
    have q : ∀ o v, o < k * 5 ∨ k * 5 + 5 ≤ o → w.cell? ⟨g, o, none⟩ = some v → (((((w.setCell ⟨g, k * 5, none⟩ (.int .i64 ((R k).e : Int))).setCell ⟨g, k * 5 + 1, none⟩ (.int .i64 ((R k).p : Int))).setCell ⟨g, k * 5 + 2, none⟩ (.int .i64 ((R k).i : Int))).setCell ⟨g, k * 5 + 3, none⟩ (.int .i64 ((R k).c : Int))).setCell ⟨g, k * 5 + 4, none⟩ (.slice a (R k).d.length c)).cell? ⟨g, o, none⟩ = some v := fun o v ho hv => by
      refine cell_of_block hc' ((go o ho).trans ?_)
      simpa [World.cell?, hc] using hv
    exact ⟨a', c', q _ _ (by omega) p0, q _ _ (by omega) p1, q _ _ (by omega) p2, q _ _ (by omega) p3, q _ _ (by omega) p4, p5.avoid hkp (fun y hy _ e => by have := p6 y hy; omega), p6⟩
end Go.Proofs.YtokcgifpljeoiaaGreat
end

section
namespace Go.Proofs.YtokcgifpljeoiaaGreat
open Go.RowKit

/-- What ring hands out. -/
def RingOut (lo : Nat) (w : World) (n : Nat) (R : Nat → PC) (v : Value) : Prop := ∃ g B, v = .slice (some ⟨g, 0, none⟩) n n ∧ lo ≤ g ∧ g < B ∧ RingTo w B g n n R

/-- A piece's cells in a row. -/
theorem PieceAt.range {w : World} {B g i : Nat} {q : PC} (h : PieceAt w B g i q) : ∃ a k, w.rangeAt g (i * 5) (pieceC (q.e : Int) (q.p : Int) (q.i : Int) (q.c : Int) a q.d.length k).toList ∧ Src w a q.d.length q.d ∧ ∀ y, a = some y → B ≤ y.block := by
  obtain ⟨a, k, h0, h1, h2, h3, h4, h5, h6⟩ := h
  refine ⟨a, k, fun j v hv => ?_, h5, h6⟩
  match j, hv with
  | 0, hv => cases hv; exact h0
  | 1, hv => cases hv; exact h1
  | 2, hv => cases hv; exact h2
  | 3, hv => cases hv; exact h3
  | 4, hv => cases hv; exact h4
  | j + 5, hv => simp at hv

set_option maxRecDepth 20000 in
set_option maxHeartbeats 4000000 in
theorem top_any {w : World} {B g n : Nat} {R : Nat → PC} (h : RingTo w B g n n R) (hn : n ≤ 256) :
    Calls Tryz.prog 120 #[.slice (some ⟨g, 0, none⟩) n n] w fun e w' => e = .returned (.int .i64 ((rtop R n : Nat) : Int)) ∧ Below w.heap.size w w' := by
  have H := Hid.mk h
  go_enter Tryz.func120, Tryz.ntmps120
  go_wp2
  go_loopw [3, 8] (fun r i wr => ∃ k : Nat, k ≤ n ∧ i = .int .i64 k ∧ r = .int .i64 ((rtop R k : Nat) : Int) ∧ Below w.heap.size w wr) (fun _ i _ => n - (intOf i).toNat)
  case atStart => exact ⟨0, Nat.zero_le _, rfl, rfl, Below.refl _ _⟩
  case round =>
    obtain ⟨k, hk, rfl, rfl, hb⟩ := hrel
    by_cases q : k < n
    · have q' : (k : Int) < (n : Int) := by omega
      have q0 : (0 : Int) ≤ (k : Int) := by omega
      obtain ⟨a, c, hrg, _, _⟩ := ((H.out.2 k q).later hb).range
      have HRg := Hid.mk hrg
      have hle := rtop_le R k
      have HB := Hid.mk (fun o => hb.trans ((below_box wr o).mono hb.size))
      by_cases m : (R k).e ≤ 1073741824
      · have m' : ((R k).e : Int) ≤ 1073741824 := by omega
        have hr : Hid (rtop R (k + 1) = max (rtop R k) (R k).e) := by rw [rtop, if_pos m]; exact rfl
        go_wp2_with (refine wpList_load_mid rfl 187 _ rfl g (k * 5) rfl (pieceC ((R k).e : Int) ((R k).p : Int) ((R k).i : Int) ((R k).c : Int) a (R k).d.length c).toList _ HRg.out Tryz.underlying187 rfl infoPiece ?_)
        go_roundw
        case rel => exact ⟨k + 1, by omega, by go_num, by rw [hr.out]; congr 1; omega, HB.out _⟩
        case measure => simp [intOf]; omega
      · have m' : ¬ ((R k).e : Int) ≤ 1073741824 := by omega
        have hr : Hid (rtop R (k + 1) = rtop R k) := by rw [rtop, if_neg m]; exact rfl
        go_wp2_with (refine wpList_load_mid rfl 187 _ rfl g (k * 5) rfl (pieceC ((R k).e : Int) ((R k).p : Int) ((R k).i : Int) ((R k).c : Int) a (R k).d.length c).toList _ HRg.out Tryz.underlying187 rfl infoPiece ?_)
        go_roundw
        case rel => exact ⟨k + 1, by omega, by go_num, by rw [hr.out], HB.out _⟩
        case measure => simp [intOf]; omega
    · have q' : ¬ (k : Int) < (n : Int) := by omega
      obtain rfl : k = n := by omega
      have HB := Hid.mk hb
      go_wp2
      go_ret
      exact ⟨rfl, HB.out⟩
end Go.Proofs.YtokcgifpljeoiaaGreat
end
