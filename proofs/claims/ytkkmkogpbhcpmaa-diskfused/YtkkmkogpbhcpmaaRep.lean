import Derived.Test.YtkkmkogpbhcpmaaLow1
namespace Go.Proofs.Ytkkmkogpbhcpmaa
open Go.RowKit Go.Maps

theorem addr_add (g o i : Nat) : (⟨g, o, none⟩ : Addr).add i = ⟨g, o + i, none⟩ := by
  unfold Addr.add
  split <;> simp_all

/-- Bytes as cells. -/
abbrev bs (l : List Int) : List Value := l.map (Value.int .u8)

/-- Block g is a row of c cells of type e, none frozen, that begins with xs. -/
def RowAt (w : World) (e : TypeId) (g c : Nat) (xs : List Value) : Prop :=
  ∃ cur, w.heap[g]? = some (.cells cur e (0, 0)) ∧ cur.size = c ∧ cur.toList.take xs.length = xs ∧ c ≤ maxLen

theorem RowAt.lt {w : World} {e : TypeId} {g c : Nat} {xs : List Value} (h : RowAt w e g c xs) : g < w.heap.size := by
  obtain ⟨cur, hb, _⟩ := h
  exact (Array.getElem?_eq_some_iff.1 hb).1
theorem RowAt.le {w : World} {e : TypeId} {g c : Nat} {xs : List Value} (h : RowAt w e g c xs) : xs.length ≤ c := by
  obtain ⟨cur, _, rfl, ht, _⟩ := h
  have := congrArg List.length ht
  simp at this
  omega
theorem RowAt.max {w : World} {e : TypeId} {g c : Nat} {xs : List Value} (h : RowAt w e g c xs) : c ≤ maxLen := by
  obtain ⟨cur, _, _, _, h⟩ := h; exact h
theorem RowAt.cell {w : World} {e : TypeId} {g c : Nat} {xs : List Value} (h : RowAt w e g c xs) {j : Nat} {u : Value} (hu : xs[j]? = some u) : w.cell? ⟨g, j, none⟩ = some u := by
  obtain ⟨cur, hb, _, ht, _⟩ := h
  simp only [World.cell?, hb]
  have hj := (List.getElem?_eq_some_iff.1 hu).1
  rw [← ht, List.getElem?_take] at hu
  rw [if_pos hj] at hu
  simpa using hu
theorem RowAt.byte {w : World} {e : TypeId} {g c : Nat} {l : List Int} (h : RowAt w e g c (bs l)) {i : Nat} (hi : i < l.length) : w.cell? ((⟨g, 0, none⟩ : Addr).add i) = some (.int .u8 (l.getD i 0)) := by
  rw [addr_add, Nat.zero_add]
  exact h.cell (by simp [bs, List.getD, List.getElem?_eq_getElem hi])
theorem RowAt.frozen {w : World} {e : TypeId} {g c : Nat} {xs : List Value} (h : RowAt w e g c xs) (j : Nat) : w.frozen? ⟨g, j, none⟩ = false := by
  obtain ⟨cur, hb, _⟩ := h
  simp [World.frozen?, hb]
theorem RowAt.agree {w w' : World} {e : TypeId} {g c : Nat} {xs : List Value} (h : RowAt w e g c xs) (hb : w'.heap[g]? = w.heap[g]?) : RowAt w' e g c xs := by
  obtain ⟨cur, h1, h2⟩ := h
  exact ⟨cur, hb.trans h1, h2⟩
theorem RowAt.owns {w : World} {e : TypeId} {g c : Nat} {xs : List Value} (h : RowAt w e g c xs) : w.ownsRow 0 e 1 (.slice (some ⟨g, 0, none⟩) xs.length c) xs.length xs := by
  have hle := h.le
  obtain ⟨cur, hb, hc, ht, hm⟩ := h
  exact ⟨by simp, .inr ⟨g, c, cur, rfl, Nat.zero_le _, hb, hle, hm, by simpa using hc, by simpa using ht⟩⟩
theorem RowAt.of_owns {w : World} {base : Nat} {e : TypeId} {v : Value} {n : Nat} {xs : List Value} (h : w.ownsRow base e 1 v n xs) (hv : v ≠ .slice none 0 0) :
    ∃ g c, v = .slice (some ⟨g, 0, none⟩) n c ∧ base ≤ g ∧ RowAt w e g c xs ∧ xs.length = n := by
  obtain ⟨hl, ⟨rfl, _⟩ | ⟨g, c, cur, rfl, hg, hb, hn, hm, hc, ht⟩⟩ := h
  · exact absurd rfl hv
  · simp only [Nat.mul_one] at hl hc ht
    exact ⟨g, c, rfl, hg, ⟨cur, hb, hc, by rw [hl]; exact ht, hm⟩, hl⟩

/-- w' is w but for new blocks and the blocks of F. -/
structure Keeps (F : Nat → Prop) (w w' : World) : Prop where
  os : w'.os = w.os
  tape : w'.tape = w.tape
  output : w'.output = w.output
  size : w.heap.size ≤ w'.heap.size
  block : ∀ k, k < w.heap.size → ¬ F k → w'.heap[k]? = w.heap[k]?

/-- The blocks that a thing has behind a call: those that it had, and what is new. -/
def more (F : Nat → Prop) (w w' : World) : Nat → Prop := fun k => F k ∨ (w.heap.size ≤ k ∧ k < w'.heap.size)

theorem Keeps.refl (F : Nat → Prop) (w : World) : Keeps F w w := ⟨rfl, rfl, rfl, Nat.le_refl _, fun _ _ _ => rfl⟩
theorem Keeps.trans {F G : Nat → Prop} {a b c : World} (h : Keeps F a b) (k : Keeps G b c) (hG : ∀ j, G j → F j ∨ a.heap.size ≤ j) : Keeps F a c :=
  ⟨k.os.trans h.os, k.tape.trans h.tape, k.output.trans h.output, Nat.le_trans h.size k.size, fun i hi hn =>
    (k.block i (Nat.lt_of_lt_of_le hi h.size) (fun hg => by rcases hG i hg with h1 | h1; exact hn h1; omega)).trans (h.block i hi hn)⟩
theorem Keeps.of_below {w w' : World} (F : Nat → Prop) (h : Below w.heap.size w w') : Keeps F w w' := ⟨h.os, h.tape, h.output, h.size, fun k hk _ => h.block k hk⟩
theorem Keeps.below {B : Nat} {F : Nat → Prop} {w w' : World} (h : Keeps F w w') (hF : ∀ k, F k → B ≤ k) (hB : B ≤ w.heap.size) : Below B w w' :=
  ⟨h.os, h.tape, h.output, h.size, fun k hk => h.block k (by omega) (fun hf => by have := hF k hf; omega)⟩
theorem Keeps.mono {F G : Nat → Prop} {w w' : World} (h : Keeps F w w') (hG : ∀ k, F k → G k) : Keeps G w w' := ⟨h.os, h.tape, h.output, h.size, fun k hk hn => h.block k hk (fun hf => hn (hG k hf))⟩
theorem Keeps.setCell {F : Nat → Prop} (w : World) {p : Addr} (hp : F p.block) (u : Value) : Keeps F w (w.setCell p u) :=
  ⟨rfl, rfl, rfl, by simp [World.setCell], fun k _ hn => Below.heap_setCell w p u k (fun e => hn (e ▸ hp))⟩
theorem Keeps.alloc (F : Nat → Prop) (w : World) (o : Obj) : Keeps F w (w.alloc o) := Keeps.of_below F ((Below.refl _ _).alloc (Nat.le_refl _) _)
theorem Keeps.drew (F : Nat → Prop) (w : World) : Keeps F w w.drew := ⟨rfl, rfl, rfl, Nat.le_refl _, fun _ _ _ => rfl⟩

theorem grown_setCell (w : World) (a : Addr) (v : Value) : w.grownBy (w.setCell a v) (some a.block) :=
  ⟨rfl, rfl, rfl, by simp [World.setCell], fun k _ hn => Below.heap_setCell w a v k (fun e => hn (by rw [e]))⟩

/-- A disk's state: the image's bytes; the pending writes in their order; the rest. -/
structure DS where
  im : List Int
  puts : List (Nat × List Int)
  fuse : Int
  life : Int
  reads : Int
  writes : Int
  flushes : Int
  refused : Int

/-- A sector's pending writes. -/
def pendOf (puts : List (Nat × List Int)) (k : Nat) : List (List Int) := (puts.filter (fun q => q.1 == k)).map (·.2)

structure DS.Ok (S : DS) (s : Nat) : Prop where
  len : S.im.length = s * 512
  lo : 1 ≤ s
  hi : s ≤ 2048
  puts : ∀ q ∈ S.puts, q.1 < s ∧ q.2.length = 512
  fuse : -1 ≤ S.fuse ∧ S.fuse ≤ 9223372036854775807

/-- The pending writes of one sector as they lie in memory. -/
def Rows' (w : World) (F : Nat → Prop) (gi : Nat) : List Value → List (List Int) → Prop
  | [], [] => True
  | v :: vs, l :: ls => (∃ g c, v = .slice (some ⟨g, 0, none⟩) 512 c ∧ F g ∧ g ≠ gi ∧ RowAt w 5 g c (bs l)) ∧ Rows' w F gi vs ls
  | _, _ => False

/-- A map's elements: slices, as they are. -/
def Rs (v : Value) : Option (DataW Value × List MemPlace) :=
  match v with
  | .slice _ _ _ => some (.held v, [])
  | _ => none

theorem keyInt : Keyed Try.prog 3 := int_keyed Try.underlying3

abbrev kk (k : Nat) : Lit := .int .i64 (k : Int)

structure PendAt (w : World) (F : Nat → Prop) (gi : Nat) (D : DataW Value) (gr cr : Nat → Nat) (pend : Nat → List (List Int)) : Prop where
  keys : ∀ kl, has D kl = true → ∃ k : Nat, kl = kk k ∧ pend k ≠ []
  nope : ∀ k, pend k = [] → has D (kk k) = false
  look : ∀ k, pend k ≠ [] → ∀ z, D.atKey (kk k) z = .held (.slice (some ⟨gr k, 0, none⟩) (pend k).length (cr k))
  row : ∀ k, pend k ≠ [] → F (gr k) ∧ ∃ xs, RowAt w 27 (gr k) (cr k) xs ∧ Rows' w F gi xs (pend k)
  inj : ∀ k k', pend k ≠ [] → pend k' ≠ [] → gr k = gr k' → k = k'

structure DiskRaw (w : World) (F : Nat → Prop) (p s : Nat) (S : DS) (gi ci m : Nat) (D : DataW Value) (gr cr : Nat → Nat) : Prop where
  fp : F p
  fgi : F gi
  fm : F m
  lt : ∀ k, F k → k < w.heap.size
  blk : w.heap[p]? = some (.cells (dkCells (.slice (some ⟨gi, 0, none⟩) (s * 512) ci) (.map (some m)) S.fuse S.life S.reads S.writes S.flushes S.refused) 100 (0, 0))
  img : RowAt w 5 gi ci (bs S.im)
  map : w.ownsMap Try.prog 3 Rs m S.puts.length D
  pend : PendAt w F gi D gr cr (pendOf S.puts)
  ok : S.Ok s

def DiskAt (w : World) (F : Nat → Prop) (p s : Nat) (S : DS) : Prop := ∃ gi ci m D gr cr, DiskRaw w F p s S gi ci m D gr cr

theorem Rows'.agree {w w' : World} {F : Nat → Prop} {gi : Nat} (hb : ∀ k, F k → w'.heap[k]? = w.heap[k]?) : ∀ {xs : List Value} {ls : List (List Int)}, Rows' w F gi xs ls → Rows' w' F gi xs ls
  | [], [], _ => trivial
  | _ :: _, _ :: _, ⟨⟨g, c, h1, h2, h3, h4⟩, h5⟩ => ⟨⟨g, c, h1, h2, h3, h4.agree (hb g h2)⟩, Rows'.agree hb h5⟩
  | [], _ :: _, h => h.elim
  | _ :: _, [], h => h.elim

theorem Rows'.carry {w w' : World} {F : Nat → Prop} {gi : Nat} (hb : ∀ g c xs, F g → g ≠ gi → RowAt w 5 g c xs → RowAt w' 5 g c xs) : ∀ {xs : List Value} {ls : List (List Int)}, Rows' w F gi xs ls → Rows' w' F gi xs ls
  | [], [], _ => trivial
  | _ :: _, _ :: _, ⟨⟨g, c, h1, h2, h3, h4⟩, h5⟩ => ⟨⟨g, c, h1, h2, h3, hb g c _ h2 h3 h4⟩, Rows'.carry hb h5⟩
  | [], _ :: _, h => h.elim
  | _ :: _, [], h => h.elim

theorem Rows'.mono {w : World} {F G : Nat → Prop} {gi : Nat} (hG : ∀ k, F k → G k) : ∀ {xs : List Value} {ls : List (List Int)}, Rows' w F gi xs ls → Rows' w G gi xs ls
  | [], [], _ => trivial
  | _ :: _, _ :: _, ⟨⟨g, c, h1, h2, h3, h4⟩, h5⟩ => ⟨⟨g, c, h1, hG g h2, h3, h4⟩, Rows'.mono hG h5⟩
  | [], _ :: _, h => h.elim
  | _ :: _, [], h => h.elim

theorem Rows'.length {w : World} {F : Nat → Prop} {gi : Nat} : ∀ {xs : List Value} {ls : List (List Int)}, Rows' w F gi xs ls → xs.length = ls.length
  | [], [], _ => rfl
  | _ :: _, _ :: _, ⟨_, h5⟩ => by simp [Rows'.length h5]
  | [], _ :: _, h => h.elim
  | _ :: _, [], h => h.elim

theorem Rows'.snoc {w : World} {F : Nat → Prop} {gi : Nat} {v : Value} {l : List Int} (hv : ∃ g c, v = .slice (some ⟨g, 0, none⟩) 512 c ∧ F g ∧ g ≠ gi ∧ RowAt w 5 g c (bs l)) :
    ∀ {xs : List Value} {ls : List (List Int)}, Rows' w F gi xs ls → Rows' w F gi (xs ++ [v]) (ls ++ [l])
  | [], [], _ => ⟨hv, trivial⟩
  | _ :: _, _ :: _, ⟨h, h5⟩ => ⟨h, Rows'.snoc hv h5⟩
  | [], _ :: _, h => h.elim
  | _ :: _, [], h => h.elim

theorem Rows'.get {w : World} {F : Nat → Prop} {gi : Nat} : ∀ {xs : List Value} {ls : List (List Int)}, Rows' w F gi xs ls → ∀ j (hj : j < ls.length), ∃ g c, xs[j]? = some (.slice (some ⟨g, 0, none⟩) 512 c) ∧ F g ∧ g ≠ gi ∧ RowAt w 5 g c (bs ls[j])
  | [], [], _, j, hj => by simp at hj
  | v :: vs, l :: ls, ⟨⟨g, c, h1, h2, h3, h4⟩, h5⟩, j, hj => by
    cases j with
    | zero => exact ⟨g, c, by simp [h1], h2, h3, h4⟩
    | succ j => simpa using Rows'.get h5 j (by simpa using hj)
  | [], _ :: _, h, _, _ => h.elim
  | _ :: _, [], h, _, _ => h.elim

theorem DiskAt.lt {w : World} {F : Nat → Prop} {p s : Nat} {S : DS} (h : DiskAt w F p s S) : ∀ k, F k → k < w.heap.size := by
  obtain ⟨gi, ci, m, D, gr, cr, _, _, _, h, _⟩ := h; exact h
theorem DiskAt.ok {w : World} {F : Nat → Prop} {p s : Nat} {S : DS} (h : DiskAt w F p s S) : S.Ok s := by
  obtain ⟨gi, ci, m, D, gr, cr, _, _, _, _, _, _, _, _, h⟩ := h; exact h
theorem DiskAt.mem {w : World} {F : Nat → Prop} {p s : Nat} {S : DS} (h : DiskAt w F p s S) : F p := by
  obtain ⟨gi, ci, m, D, gr, cr, h, _⟩ := h; exact h

theorem ownsMap_agree {w w' : World} {m n : Nat} {D : DataW Value} (h : w.ownsMap Try.prog 3 Rs m n D) (hb : w'.heap[m]? = w.heap[m]?) : w'.ownsMap Try.prog 3 Rs m n D := by
  obtain ⟨es, clock, h1, h2⟩ := h
  exact ⟨es, clock, hb.trans h1, h2⟩

theorem PendAt.agree {w w' : World} {F : Nat → Prop} {gi : Nat} {D : DataW Value} {gr cr : Nat → Nat} {pend : Nat → List (List Int)} (h : PendAt w F gi D gr cr pend) (hb : ∀ k, F k → w'.heap[k]? = w.heap[k]?) :
    PendAt w' F gi D gr cr pend :=
  ⟨h.keys, h.nope, h.look, fun k hk => by
    obtain ⟨h1, xs, h2, h3⟩ := h.row k hk
    exact ⟨h1, xs, h2.agree (hb _ h1), h3.agree hb⟩, h.inj⟩

theorem PendAt.carry {w w' : World} {F : Nat → Prop} {gi : Nat} {D : DataW Value} {gr cr : Nat → Nat} {pend : Nat → List (List Int)} (h : PendAt w F gi D gr cr pend)
    (hb : ∀ g c xs, F g → g ≠ gi → RowAt w 5 g c xs → RowAt w' 5 g c xs) (hr : ∀ g c xs, F g → RowAt w 27 g c xs → RowAt w' 27 g c xs) : PendAt w' F gi D gr cr pend :=
  ⟨h.keys, h.nope, h.look, fun k hk => by
    obtain ⟨h1, xs, h2, h3⟩ := h.row k hk
    exact ⟨h1, xs, hr _ _ _ h1 h2, h3.carry hb⟩, h.inj⟩

theorem RowAt.other {w w' : World} {e e' : TypeId} {g c q : Nat} {xs : List Value} {cur : Array Value} {fz : Nat × Nat} (h : RowAt w e g c xs) (hk : Keeps (fun k => k = q) w w') (hq : w.heap[q]? = some (.cells cur e' fz)) (he : e' ≠ e) : RowAt w' e g c xs := by
  refine h.agree (hk.block g h.lt (fun e1 => ?_))
  obtain ⟨cur', hb, _⟩ := h
  rw [e1, hq] at hb
  simp at hb
  exact he hb.2.1

theorem RowAt.ne {w : World} {e e' : TypeId} {g c q : Nat} {xs : List Value} {cur : Array Value} {fz : Nat × Nat} (h : RowAt w e g c xs) (hq : w.heap[q]? = some (.cells cur e' fz)) (he : e' ≠ e) : g ≠ q := by
  intro e1
  obtain ⟨cur', hb, _⟩ := h
  rw [e1, hq] at hb
  simp at hb
  exact he hb.2.1

theorem ownsMap_ne {w : World} {m n q : Nat} {D : DataW Value} {cur : Array Value} {e : TypeId} {fz : Nat × Nat} (h : w.ownsMap Try.prog 3 Rs m n D) (hq : w.heap[q]? = some (.cells cur e fz)) : m ≠ q := by
  obtain ⟨es, clock, h1, _⟩ := h
  intro e1
  rw [e1, hq] at h1
  simp at h1

theorem PendAt.mono {w : World} {F G : Nat → Prop} {gi : Nat} {D : DataW Value} {gr cr : Nat → Nat} {pend : Nat → List (List Int)} (h : PendAt w F gi D gr cr pend) (hG : ∀ k, F k → G k) :
    PendAt w G gi D gr cr pend :=
  ⟨h.keys, h.nope, h.look, fun k hk => by
    obtain ⟨h1, xs, h2, h3⟩ := h.row k hk
    exact ⟨hG _ h1, xs, h2, h3.mono hG⟩, h.inj⟩

/-- A disk stays what it is where its own blocks stay. -/
theorem DiskAt.agree {w w' : World} {F : Nat → Prop} {p s : Nat} {S : DS} (h : DiskAt w F p s S) (hs : w.heap.size ≤ w'.heap.size) (hb : ∀ k, F k → w'.heap[k]? = w.heap[k]?) : DiskAt w' F p s S := by
  obtain ⟨gi, ci, m, D, gr, cr, h1, h2, h3, h4, h5, h6, h7, h8, h9⟩ := h
  exact ⟨gi, ci, m, D, gr, cr, h1, h2, h3, fun k hk => Nat.lt_of_lt_of_le (h4 k hk) hs, (hb p h1).trans h5, h6.agree (hb gi h2), ownsMap_agree h7 (hb m h3), h8.agree hb, h9⟩

theorem DiskAt.keep {w w' : World} {F G : Nat → Prop} {p s : Nat} {S : DS} (h : DiskAt w F p s S) (k : Keeps G w w') (hd : ∀ k, F k → ¬ G k) : DiskAt w' F p s S :=
  h.agree k.size (fun j hj => k.block j (h.lt j hj) (hd j hj))

theorem DiskAt.mono {w : World} {F G : Nat → Prop} {p s : Nat} {S : DS} (h : DiskAt w F p s S) (hG : ∀ k, F k → G k) (hl : ∀ k, G k → k < w.heap.size) : DiskAt w G p s S := by
  obtain ⟨gi, ci, m, D, gr, cr, h1, h2, h3, h4, h5, h6, h7, h8, h9⟩ := h
  exact ⟨gi, ci, m, D, gr, cr, hG _ h1, hG _ h2, hG _ h3, hl, h5, h6, h7, h8.mono hG, h9⟩

/-- Where the struct's own cells alone have turned. -/
theorem DiskRaw.turn {w w' : World} {F : Nat → Prop} {p s : Nat} {S S' : DS} {gi ci m : Nat} {D : DataW Value} {gr cr : Nat → Nat} (h : DiskRaw w F p s S gi ci m D gr cr) (hk : Keeps (fun k => k = p) w w')
    (hb : w'.heap[p]? = some (.cells (dkCells (.slice (some ⟨gi, 0, none⟩) (s * 512) ci) (.map (some m)) S'.fuse S'.life S'.reads S'.writes S'.flushes S'.refused) 100 (0, 0))) (h1 : S'.im = S.im) (h2 : S'.puts = S.puts) (h3 : -1 ≤ S'.fuse ∧ S'.fuse ≤ 9223372036854775807) :
    DiskRaw w' F p s S' gi ci m D gr cr := by
  refine ⟨h.fp, h.fgi, h.fm, fun k hf => Nat.lt_of_lt_of_le (h.lt k hf) hk.size, hb, ?_, ?_, ?_, ⟨?_, h.ok.lo, h.ok.hi, ?_, h3⟩⟩
  · rw [h1]; exact h.img.other hk h.blk (by decide)
  · rw [h2]; exact ownsMap_agree h.map (hk.block m (h.lt m h.fm) (ownsMap_ne h.map h.blk))
  · rw [h2]; exact h.pend.carry (fun g c xs _ _ hr => hr.other hk h.blk (by decide)) (fun g c xs _ hr => hr.other hk h.blk (by decide))
  · rw [h1]; exact h.ok.len
  · rw [h2]; exact h.ok.puts

theorem cell_of_block {w : World} {g : Nat} {cur : Array Value} {e : TypeId} (hb : w.heap[g]? = some (.cells cur e (0, 0))) {j : Nat} {u : Value} (hu : cur[j]? = some u) : w.cell? ⟨g, j, none⟩ = some u := by
  simp only [World.cell?, hb]
  simpa using hu
theorem frozen_of_block {w : World} {g : Nat} {cur : Array Value} {e : TypeId} (hb : w.heap[g]? = some (.cells cur e (0, 0))) (j : Nat) : w.frozen? ⟨g, j, none⟩ = false := by
  simp [World.frozen?, hb]

/-- The empty map pends nothing. -/
theorem PendAt.empty (w : World) (F : Nat → Prop) (gi : Nat) (gr cr : Nat → Nat) : PendAt w F gi (.map []) gr cr (pendOf []) :=
  ⟨fun kl h => by simp [has] at h, fun _ _ => rfl, fun k h => absurd rfl h, fun k h => absurd rfl h, fun k _ h => absurd rfl h⟩

end Go.Proofs.Ytkkmkogpbhcpmaa
