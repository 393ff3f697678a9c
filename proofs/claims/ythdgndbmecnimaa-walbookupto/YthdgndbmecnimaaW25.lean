import Derived.Test.YthdgndbmecnimaaW24
import Derived.Laws.Closers25b
section
namespace Go.Proofs.Ythdgndbmecnimaa
open Go.RowKit Go.Maps

/-- Lists of bytes as they are told by a list of them. -/
def LLs (w : World) (a : Option Addr) (rs : List (List Int)) : Prop := ∀ i (hi : i < rs.length), ∃ b x y, a = some ⟨b, 0, none⟩ ∧ w.cell? ⟨b, i, none⟩ = some (.slice x (rs[i]).length y) ∧ Src w x (rs[i]).length rs[i]
theorem LLs.later {w w' : World} {a : Option Addr} {rs : List (List Int)} (h : LLs w a rs) (hb : Below w.heap.size w w') : LLs w' a rs := fun i hi => by
  obtain ⟨b, x, y, h1, h2, h3⟩ := h i hi
  exact ⟨b, x, y, h1, cell_later hb h2, h3.later hb⟩
set_option maxRecDepth 20000 in
set_option maxHeartbeats 2000000 in
theorem alikeG {w : World} {a a' : Option Addr} {c c' : Nat} {rs : List (List Int)} (h1 : LLs w a rs) (h2 : LLs w a' rs) (hn : rs.length ≤ 1000000) (hl : ∀ i (hi : i < rs.length), (rs[i]).length ≤ 1000000) :
    Calls Try.prog 14 #[.slice a rs.length c, .slice a' rs.length c'] w fun e w' => e = .returned (.bool true) ∧ Below w.heap.size w w' := by
  have H1 := Hid.mk h1
  have H2 := Hid.mk h2
  have hne : (((rs.length : Nat) : Int) != ((rs.length : Nat) : Int)) = false := by simp
  clear h1 h2
  go_enter Try.func14, Try.ntmps14
  go_wp2
  go_loopw [5] (fun i wr => ∃ j : Nat, j ≤ rs.length ∧ i = .int .i64 (j : Int) ∧ Below w.heap.size w wr) (fun i _ => rs.length - (intOf i).toNat)
  case atStart => exact ⟨0, Nat.zero_le _, rfl, Below.refl _ _⟩
  case round =>
    obtain ⟨j, hj, rfl, hbr⟩ := hrel
    have HB := Hid.mk hbr
    have hz := hbr.size
    by_cases hlt : j < rs.length
    · have hlt' : (j : Int) < (rs.length : Int) := by omega
      obtain ⟨b, x, y, rfl, c1, s1⟩ := H1.out j hlt
      obtain ⟨b', x', y', rfl, c2, s2⟩ := H2.out j hlt
      have c1 := cell_later hbr c1
      have c2 := cell_later hbr c2
      have h3 := same_any x x' (rs[j]).length y y' rs[j] wr.drew (by have := hl j hlt; omega) ((s1.later hbr).later (below_drew (Below.refl wr.heap.size wr))) ((s2.later hbr).later (below_drew (Below.refl wr.heap.size wr)))
      clear hbr s1 s2
      go_wp2_with fail
      go_region_held3 (fun w' => w'.cell? ⟨b, j, none⟩ = some (.slice x (rs[j]).length y) ∧ w'.cell? ⟨b', j, none⟩ = some (.slice x' (rs[j]).length y'))
        (first | exact ⟨c1, c2⟩ | exact ⟨cell_later hw1 c1, cell_later hw1 c2⟩)
        ((go_at_call 10; refine h3.mono ?_; rintro e w1 ⟨rfl, hw1⟩))
      have HB1 : Hid (Below w.heap.size w w1) := HB.out.trans ((below_drew (Below.refl wr.heap.size wr)).trans hw1 |>.mono hz)
      clear h3 hw1
      go_wp2
      go_roundw
      case rel => exact ⟨j + 1, by omega, by go_num, HB1.out⟩
      case measure => simp [intOf]; omega
    · obtain rfl : j = rs.length := by omega
      have hge : ¬ (rs.length : Int) < (rs.length : Int) := by omega
      go_wp2
      go_ret
      exact ⟨rfl, HB.out⟩

/-- What may be told. -/
theorem Kq.gro {w w' : World} {lab lab' : Nat → Nat} {p : Nat} {vL vW : Value} {ds ws : List (List Int)} {X : Nat → Prop} (h : Kq w lab p vL vW ds ws) (g : Gro lab lab' w w' X) (hX : ∀ y, 20 ≤ y → y ≤ 22 → ¬ X y) (h0 : ¬ X 0) (hY : ∀ i, i < ds.length → ¬ X (yK i)) : Kq w' lab' p vL vW ds ws :=
  ⟨(g.block h.lt h.bp (hX 20 (by omega) (by omega))).trans h.box, g.tag h.lt h.bp, h.ls.gro g (hX _ (by omega) (by omega)) hY, h.wt.gro g (hX _ (by omega) (by omega)) (fun _ _ => h0)⟩

theorem Gro.cell {lab lab' : Nat → Nat} {w w' : World} {X : Nat → Prop} (G : Gro lab lab' w w' X) {b o y : Nat} {x : Value} (hc : w.cell? ⟨b, o, none⟩ = some x) (hl : lab b = y) (hX : ¬ X y) : w'.cell? ⟨b, o, none⟩ = some x ∧ lab' b = y := by
  have hlt : b < w.heap.size := World.block_lt_of_cell? _ _ hc
  exact ⟨(World.cell?_of_block (w := w) (a := ⟨b, o, none⟩) (G.block hlt hl hX)).trans hc, G.tag hlt hl⟩
def toSV : Value → SV
  | .slice a n c => ⟨a, n, c⟩
  | _ => ⟨none, 0, 0⟩
theorem vls_toSV {vs : List Value} (h : ∀ x ∈ vs, ∃ a n c, x = .slice a n c) : vls (vs.map toSV) = vs := by
  unfold vls
  rw [List.map_map]
  conv => rhs; rw [← List.map_id vs]
  refine List.map_congr_left (fun x hx => ?_)
  obtain ⟨a, n, c, rfl⟩ := h x hx
  rfl
/-- A list of records that was told: the list has yr, the i-th record yb i. -/
structure Td (w : World) (lab : Nat → Nat) (yr : Nat) (yb : Nat → Nat) (v : Value) (ds : List (List Int)) (svs : List SV) : Prop where
  r : OR w lab yr 27 v ds.length (vls svs)
  n : svs.length = ds.length
  o : ∀ i (hi : i < ds.length), ∃ s, svs[i]? = some s ∧ OR w lab (yb i) 5 s.v (ds[i]).length (bs ds[i])
theorem Td.gro {w w' : World} {lab lab' : Nat → Nat} {yr : Nat} {yb : Nat → Nat} {v : Value} {ds : List (List Int)} {svs : List SV} {X : Nat → Prop} (h : Td w lab yr yb v ds svs) (G : Gro lab lab' w w' X) (h1 : ¬ X yr) (h2 : ∀ i, i < ds.length → ¬ X (yb i)) : Td w' lab' yr yb v ds svs :=
  ⟨h.r.gro G h1, h.n, fun i hi => by
    obtain ⟨s, e, ho⟩ := h.o i hi
    exact ⟨s, e, ho.gro G (h2 i hi)⟩⟩
theorem Td.lls {w : World} {lab : Nat → Nat} {yr : Nat} {yb : Nat → Nat} {v : Value} {ds : List (List Int)} {svs : List SV} (h : Td w lab yr yb v ds svs) : ∃ a c, v = .slice a ds.length c ∧ LLs w a ds := by
  obtain ⟨a, c, rfl⟩ := h.r.form
  refine ⟨a, c, rfl, fun i hi => ?_⟩
  obtain ⟨g, c2, e, hr, _, _⟩ := h.r.row (by omega)
  obtain ⟨s, e1, ho⟩ := h.o i hi
  obtain ⟨x, y, e2, hs, _⟩ := ho.src
  injection e with e3 e4 e5
  exact ⟨g, x, y, e3, by rw [← e2]; exact hr.cell (by simp [vls, e1]), hs.1⟩
theorem LX.lls {w : World} {lab : Nat → Nat} {yr : Nat} {yb : Nat → Nat} {v : Value} {ds : List (List Int)} (h : LX w lab yr yb v ds []) : ∃ a c, v = .slice a ds.length c ∧ LLs w a ds := by
  obtain ⟨a, c, rfl⟩ := h.form
  refine ⟨a, c, rfl, fun i hi => ?_⟩
  obtain ⟨g, cap, x, y, e, h1, h2⟩ := h.at hi
  injection e with e3 e4 e5
  exact ⟨g, x, y, e3, h1, h2.1⟩
section
variable {lab : Nat → Nat} {w : World} {n j p x : Nat} {X : DS} {ds : List (List Int)}
theorem open_sv (h : DiskR w (ofL lab x) p (n + 2) X) (hx : x ≠ 0) (hz : LZ lab w) (hF : Flat X n j ds ds.length false) (hj : j ≤ 1000) (hf : X.fuse = -1) (h18 : 18 ≤ n) (h256 : n ≤ 256) (yr : Nat) (yb : Nat → Nat) :
    Calls Try.prog 13 #[.pointer (some ⟨p, 0, none⟩), .int .i64 0, .int .i64 (n : Int)] w fun e w' => ∃ l v lab' svs X', e = .returned (.tuple #[.pointer (some ⟨l, 0, none⟩), v, .int .i64 0]) ∧ Gro lab lab' w w' (fun y => y = x ∨ y = yr ∨ ∃ i, i < ds.length ∧ y = yb i) ∧ DiskR w' (ofL lab' x) p (n + 2) X' ∧ Flat X' n (j + 1) ds ds.length false ∧ X'.fuse = -1 ∧ Td w' lab' yr yb v ds svs := by
  refine (open_flat h hx hz hF hj hf h18 h256 yr yb).mono ?_
  rintro e w' ⟨l, v, lab', vs, X', rfl, G, hd, hFl, hfu, oR, oB⟩
  have hl : vs.length = ds.length := by have := oR.1.1; simpa using this
  have hall : ∀ x ∈ vs, ∃ a n c, x = .slice a n c := fun x hx => by
    obtain ⟨i, hi⟩ := List.mem_iff_getElem?.1 hx
    obtain ⟨u, e1, e2⟩ := oB i (by rw [← hl]; exact (List.getElem?_eq_some_iff.1 hi).1)
    rw [hi] at e1
    cases e1
    obtain ⟨a, c, e⟩ := e2.form
    exact ⟨_, _, _, e⟩
  refine ⟨l, v, lab', vs.map toSV, X', rfl, G, hd, hFl, hfu, by rw [vls_toSV hall]; exact oR, by simpa using hl, fun i hi => ?_⟩
  obtain ⟨u, e1, e2⟩ := oB i hi
  obtain ⟨a, c, rfl⟩ := e2.form
  exact ⟨⟨a, _, c⟩, by simp [e1, toSV], e2⟩
end
end Go.Proofs.Ythdgndbmecnimaa
end

section
namespace Go.Proofs.Ythdgndbmecnimaa
open Go.RowKit Go.Maps

/-- A disk with a log that nobody cuts. -/
def FD (wr : World) (lab : Nat → Nat) (x p n j : Nat) (ds : List (List Int)) : Prop := ∃ X, DiskR wr (ofL lab x) p (n + 2) X ∧ Flat X n j ds ds.length false ∧ X.fuse = -1
/-- What was taken, what is kept and the lists that were told. -/
structure PCs (w wr : World) (lab : Nat → Nat) (n p : Nat) (ds : List (List Int)) (kv : Value) (j pk : Nat) (ins : List (List Int)) (lv : Value) (rows : List (List SV)) : Prop where
  d : FD wr lab 1 p n j ds
  k : LX wr lab 5 (fun _ => 0) kv ds []
  i : ∃ vL vW, Kq wr lab pk vL vW ins ins
  ib : ∀ d ∈ ins, d.length ≤ 8364
  l : LV wr lab 6 yA lv rows
  r : ∀ d ∈ rows, d.length = ds.length
  g : Gro (fun _ => 0) lab w wr (fun y => y ≠ 0)
section
variable {w wr w' : World} {lab lab' : Nat → Nat} {n p q : Nat} {ds : List (List Int)} {kv : Value} {j j2 pk : Nat} {ins : List (List Int)} {lv : Value} {rows : List (List SV)} {X : Nat → Prop}
theorem FD.gro {x : Nat} (h : FD wr lab x p n j ds) (G : Gro lab lab' wr w' X) (hx : x ≠ 0) (hX : ¬ X x) : FD w' lab' x p n j ds := by
  obtain ⟨Y, h1, h2⟩ := h
  exact ⟨Y, h1.gro G hx hX, h2⟩
theorem PCs.move (h : PCs w wr lab n p ds kv j pk ins lv rows) (G : Gro lab lab' wr w' X) (hd : FD w' lab' 1 p n j2 ds) (h0 : ¬ X 0) (h5 : ¬ X 5) (h6 : ¬ X 6) (h2 : ∀ y, 20 ≤ y → y ≤ 22 → ¬ X y) (hK : ∀ i, i < ins.length → ¬ X (yK i)) (hA : ∀ i, i < rows.length → ¬ X (yA i)) : PCs w w' lab' n p ds kv j2 pk ins lv rows := by
  obtain ⟨vL, vW, hi⟩ := h.i
  exact ⟨hd, h.k.gro G h5 (fun _ _ => h0), ⟨vL, vW, hi.gro G h2 h0 hK⟩, h.ib, h.l.gro G h6 hA, h.r, h.g.join G (Z := fun y => y ≠ 0) (fun _ h => h) (fun y hy e => h0 (e ▸ hy))⟩
theorem PCs.gro (h : PCs w wr lab n p ds kv j pk ins lv rows) (G : Gro lab lab' wr w' X) (h1 : ¬ X 1) (h0 : ¬ X 0) (h5 : ¬ X 5) (h6 : ¬ X 6) (h2 : ∀ y, 20 ≤ y → y ≤ 22 → ¬ X y) (hK : ∀ i, i < ins.length → ¬ X (yK i)) (hA : ∀ i, i < rows.length → ¬ X (yA i)) : PCs w w' lab' n p ds kv j pk ins lv rows :=
  h.move G (h.d.gro G (by omega) h1) h0 h5 h6 h2 hK hA
theorem PCs.later (h : PCs w wr lab n p ds kv j pk ins lv rows) (hb : Below wr.heap.size wr w') : PCs w w' lab n p ds kv j pk ins lv rows :=
  h.gro (Gro.below h.g.lz hb (fun _ => False)) (fun h => h) (fun h => h) (fun h => h) (fun h => h) (fun _ _ _ h => h) (fun _ _ h => h) (fun _ _ h => h)
theorem PCs.below (h : PCs w wr lab n p ds kv j pk ins lv rows) : Below w.heap.size w wr := h.g.belowB (Nat.le_refl _) (fun _k hk => absurd rfl hk) (fun h => h rfl)
theorem yK_26 (i : Nat) (t : Nat) (h : t ≤ 40) : yK i ≠ t := fun e => by have := yK_ge i; omega
/-- The told records, and the other disk besides. -/
structure PTs (w wr : World) (lab : Nat → Nat) (n p q : Nat) (ds : List (List Int)) (kv : Value) (j jq pk : Nat) (ins : List (List Int)) (lv : Value) (rows : List (List SV)) (t base : Nat) (v : Value) (svs : List SV) : Prop where
  c : PCs w wr lab n p ds kv j pk ins lv rows
  o : FD wr lab 3 q n jq []
  t : Td wr lab (yA t) (fun i => yK (base + i)) v ds svs
theorem PTs.later {jq t base : Nat} {v : Value} {svs : List SV} (h : PTs w wr lab n p q ds kv j jq pk ins lv rows t base v svs) (hb : Below wr.heap.size wr w') : PTs w w' lab n p q ds kv j jq pk ins lv rows t base v svs := by
  have G := Gro.below h.c.g.lz hb (fun _ => False)
  exact ⟨h.c.later hb, h.o.gro G (by omega) (fun h => h), h.t.gro G (fun h => h) (fun _ _ h => h)⟩
/-- Open of the first disk. -/
theorem PCs.open (h : PCs w wr lab n p ds kv j pk ins lv rows) (ho : FD wr lab 3 q n j2 []) (hj : j ≤ 1000) (h18 : 18 ≤ n) (h256 : n ≤ 256) {t : Nat} (ht : rows.length = t) (ht3 : t < 3) :
    Calls Try.prog 13 #[.pointer (some ⟨p, 0, none⟩), .int .i64 0, .int .i64 (n : Int)] wr fun e w' => ∃ l v lab' svs, e = .returned (.tuple #[.pointer (some ⟨l, 0, none⟩), v, .int .i64 0]) ∧ PTs w w' lab' n p q ds kv (j + 1) j2 pk ins lv rows t ins.length v svs := by
  obtain ⟨X, h1, h2, h3⟩ := h.d
  refine (open_sv h1 (by omega) h.g.lz h2 hj h3 h18 h256 (yA t) (fun i => yK (ins.length + i))).mono ?_
  rintro e w' ⟨l, v, lab', svs, X', rfl, G, hd, hF, hf, hT⟩
  have no : ∀ y, y ≠ 1 → y ≠ 26 + t → y ≤ 40 → ¬ (y = 1 ∨ y = yA t ∨ ∃ i, i < ds.length ∧ y = yK (ins.length + i)) := fun y y1 y2 y3 hy => by
    rcases hy with hy | hy | ⟨i, _, hy⟩
    · exact y1 hy
    · exact y2 hy
    · exact yK_26 _ y y3 hy.symm
  refine ⟨l, v, lab', svs, rfl, h.move G ⟨X', hd, hF, hf⟩ (no 0 (by omega) (by omega) (by omega)) (no 5 (by omega) (by omega) (by omega)) (no 6 (by omega) (by omega) (by omega)) (fun y y1 y2 => no y (by omega) (by omega) (by omega)) (fun i hi hy => ?_) (fun i hi => no (26 + i) (by omega) (by omega) (by omega)), ho.gro G (by omega) (no 3 (by omega) (by omega) (by omega)), hT⟩
  rcases hy with hy | hy | ⟨i', _, hy⟩
  · exact yK_26 _ 1 (by omega) hy
  · exact yK_26 _ (26 + t) (by omega) hy
  · exact yK_ne (by omega) hy
/-- Open of the other. -/
theorem PTs.open {jq t base : Nat} {v : Value} {svs : List SV} (h : PTs w wr lab n p q ds kv j jq pk ins lv rows t base v svs) (hj : jq ≤ 1000) (h18 : 18 ≤ n) (h256 : n ≤ 256) (ht : rows.length = t) (ht3 : t < 3) :
    Calls Try.prog 13 #[.pointer (some ⟨q, 0, none⟩), .int .i64 0, .int .i64 (n : Int)] wr fun e w' => ∃ l a c lab', e = .returned (.tuple #[.pointer (some ⟨l, 0, none⟩), .slice a 0 c, .int .i64 0]) ∧ PTs w w' lab' n p q ds kv j (jq + 1) pk ins lv rows t base v svs := by
  obtain ⟨X, h1, h2, h3⟩ := h.o
  refine (open_sv h1 (by omega) h.c.g.lz h2 hj h3 h18 h256 19 (fun _ => 19)).mono ?_
  rintro e w' ⟨l, v', lab', svs', X', rfl, G, hd, hF, hf, hT⟩
  obtain ⟨a, c, rfl⟩ := hT.r.form
  have no : ∀ y, y ≠ 3 → y ≠ 19 → ¬ (y = 3 ∨ y = 19 ∨ ∃ i, i < ([] : List (List Int)).length ∧ y = 19) := fun y y1 y2 hy => by
    rcases hy with hy | hy | ⟨i, _, hy⟩
    · exact y1 hy
    · exact y2 hy
    · exact y2 hy
  exact ⟨l, a, c, lab', rfl, h.c.gro G (no 1 (by omega) (by omega)) (no 0 (by omega) (by omega)) (no 5 (by omega) (by omega)) (no 6 (by omega) (by omega)) (fun y y1 y2 => no y (by omega) (by omega)) (fun i _ => no _ (yK_26 i 3 (by omega)) (yK_26 i 19 (by omega))) (fun i _ => no (26 + i) (by omega) (by omega)), ⟨X', hd, hF, hf⟩, h.t.gro G (no (26 + t) (by omega) (by omega)) (fun i _ => no _ (yK_26 _ 3 (by omega)) (yK_26 _ 19 (by omega)))⟩
/-- The told list joins the others. -/
theorem PTs.push {jq t base : Nat} {v : Value} {svs : List SV} (h : PTs w wr lab n p q ds kv j jq pk ins lv rows t base v svs) (ht : rows.length = t) (ht3 : t < 3) : ∃ g' cap' w', (Builtin.append_ #[36, 36] 36 #[lv, .slice (some ⟨wr.heap.size, 0, none⟩) 1 1]).run Try.prog (wr.alloc (.cells #[v] 22)) = .ok (.slice (some ⟨g', 0, none⟩) (t + 1) cap') w' ∧ ∃ lab', PTs w w' lab' n p q ds kv j jq pk ins (.slice (some ⟨g', 0, none⟩) (t + 1) cap') (rows ++ [svs]) t base v svs := by
  obtain ⟨g', cap', w', hrun, lab', G, hl⟩ := h.c.l.push h.c.g.lz (fun i => by show 6 ≠ 26 + i; omega) (by omega) (u := v) (d := svs) (by rw [ht, h.t.n]; exact h.t.r)
  rw [ht] at hrun hl
  obtain ⟨vL, vW, hi⟩ := h.c.i
  refine ⟨g', cap', w', hrun, lab', ⟨h.c.d.gro G (by omega) (by omega), h.c.k.gro G (by omega) (fun _ _ => by omega), ⟨vL, vW, hi.gro G (fun y y1 y2 => by omega) (by omega) (fun i _ => yK_26 i 6 (by omega))⟩, h.c.ib, hl, fun d hd => ?_, h.c.g.join G (Z := fun y => y ≠ 0) (fun _ h => h) (fun y hy => by omega)⟩, h.o.gro G (by omega) (by omega), h.t.gro G (by show 26 + t ≠ 6; omega) (fun i _ => yK_26 _ 6 (by omega))⟩
  rcases List.mem_append.1 hd with hd | hd
  · exact h.c.r d hd
  · rw [List.mem_singleton.1 hd]; exact h.t.n
/-- A told record is kept. -/
theorem PTs.add {jq t base : Nat} {v : Value} {svs : List SV} (h : PTs w wr lab n p q ds kv j jq pk ins lv rows t base v svs) (hds : ∀ d ∈ ds, d.length ≤ 8364) {i : Nat} (hi : i < ds.length) (hb : ins.length = base + i) (hN : base + i ≤ 100000) (_ht : rows.length = t + 1) (ht3 : t < 3) {s : SV} (hs : svs[i]? = some s) :
    Calls Try.prog 15 #[.pointer (some ⟨pk, 0, none⟩), s.v] wr fun e w' => e = .returned (.tuple #[]) ∧ ∃ lab', PTs w w' lab' n p q ds kv j jq pk (ins ++ [ds[i]]) lv rows t base v svs := by
  obtain ⟨vL, vW, hq⟩ := h.c.i
  obtain ⟨s', e1, ho⟩ := h.t.o i hi
  rw [hs] at e1
  cases e1
  refine (add_any hq h.c.g.lz (by rw [hb]; exact ho) (by have := hds _ (List.getElem_mem hi); omega) (by omega)).mono ?_
  rintro e w' ⟨rfl, lab', uL, uW, G, hq'⟩
  refine ⟨rfl, lab', ⟨h.c.d.gro G (by omega) (by omega), h.c.k.gro G (by omega) (fun _ _ => by omega), ⟨uL, uW, hq'⟩, fun d hd => ?_, h.c.l.gro G (by omega) (fun i _ => by show ¬ (20 ≤ 26 + i ∧ 26 + i ≤ 22); omega), h.c.r, h.c.g.join G (Z := fun y => y ≠ 0) (fun _ h => h) (fun y hy => by omega)⟩, h.o.gro G (by omega) (by omega), h.t.gro G (by show ¬ (20 ≤ 26 + t ∧ 26 + t ≤ 22); omega) (fun i _ => by have := yK_ge (base + i); omega)⟩
  rcases List.mem_append.1 hd with hd | hd
  · exact h.c.ib d hd
  · rw [List.mem_singleton.1 hd]; exact hds _ (List.getElem_mem hi)
end
end Go.Proofs.Ythdgndbmecnimaa
end

section
namespace Go.Proofs.Ythdgndbmecnimaa
open Go.RowKit Go.Maps

/-- Records that are handed in. -/
def RecIn (w : World) (B : Nat) (a : Option Addr) (m : Nat) : Prop :=
  (a = none → m = 0) ∧ ∀ x, a = some x → ∀ i, i < m → ∃ b o, x = ⟨b, o, none⟩ ∧ b < B ∧ ∃ a' n' c' l, w.cell? ⟨b, o + i, none⟩ = some (.slice a' n' c') ∧ Src w a' n' l ∧ Bytes l ∧ (∀ y, a' = some y → 0 < n' → y.block < B) ∧ n' ≤ 1048576 ∧ n' ≤ c'
theorem RecIn.far {w w' : World} {B : Nat} {a : Option Addr} {n : Nat} (h : RecIn w B a n) (hb : Below B w w') : RecIn w' B a n :=
  ⟨h.1, fun x hx i hi => by
    obtain ⟨b, o, rfl, h0, a', n', c', l, h1, h2, h3, h4, h5⟩ := h.2 x hx i hi
    exact ⟨b, o, rfl, h0, a', n', c', l, (World.cell?_of_block (w := w) (a := ⟨b, _, none⟩) (hb.block b h0)).trans h1, h2.far hb h4, h3, h4, h5⟩⟩
theorem bytes_turn (l : List Int) : Bytes (l.map turn5) := fun x hx => by
  obtain ⟨y, _, rfl⟩ := List.mem_map.1 hx
  exact ⟨bits_lo_u8 .xor y 91, by have := bits_hi_u8 .xor y 91; unfold turn5; omega⟩
/-- What the walk of the whole owes. -/
def WOut (w : World) (e : Ending) (w' : World) : Prop := e = .returned (.bool true) ∧ Below w.heap.size w w'
theorem fresh_pb {w w1 : World} {F : Nat → Prop} {p l n : Nat} {S : DS} {L : LG} (h : Live w w1 F p l n S L) (hA : Alive S L n 0 [] 0) : ∃ lab, PB w w1 lab p l n S L [] [] (.slice none 0 0) := by
  have hll := h.lp.lt
  have hlo := h.lo
  have G : Gro (fun _ => 0) (fun k => if k = l then 2 else relab (fun _ => 0) w.heap.size w1.heap.size 1 k) w w1 (fun y => y ≠ 0) := by
    refine ⟨Keeps.of_below _ h.b, fun k hk => ?_, fun k hk => ?_, fun k hk => ?_⟩
    · show (if k = l then 2 else relab (fun _ => 0) w.heap.size w1.heap.size 1 k) = 0
      rw [if_neg (by omega), relab_old hk]
    · show (if k = l then 2 else relab (fun _ => 0) w.heap.size w1.heap.size 1 k) = 0 ∨ (if k = l then 2 else relab (fun _ => 0) w.heap.size w1.heap.size 1 k) ≠ 0
      exact Decidable.em _
    · show (if k = l then 2 else relab (fun _ => 0) w.heap.size w1.heap.size 1 k) = 0
      rw [if_neg (by omega), relab_far hk]
  refine ⟨_, ⟨⟨h.d.mono (fun k hk => ?_) (fun k hk => ?_), h.lp, ?_⟩, hA, h.f, LX.nil _ _ _ _, G⟩⟩
  · show (if k = l then 2 else relab (fun _ => 0) w.heap.size w1.heap.size 1 k) = 1
    rw [if_neg (fun (e : k = l) => h.nf (e ▸ hk)), relab_new (h.fF k hk) (h.d.lt k hk)]
  · apply Decidable.byContradiction
    intro hn
    have e : (if k = l then 2 else relab (fun _ => 0) w.heap.size w1.heap.size 1 k) = 1 := hk
    rw [if_neg (by omega), relab_far (by omega)] at e
    cases e
  · show (if l = l then 2 else _) = 2
    rw [if_pos rfl]
theorem fresh_flat {w w1 : World} {F : Nat → Prop} {p l n : Nat} {S : DS} {L : LG} (h : Live w w1 F p l n S L) (ht : L.tail = 0) (hh : L.head = 0) (hA : Alive S L n 0 [] 0) : Flat S n 0 [] 0 false := by
  refine hA.flat (by omega) ?_
  have hfit := (h.i.al L (by simp) h.a (by rw [h.f]; decide)).1 h.g
  exact List.eq_nil_of_length_eq_zero (by omega)
/-- The other disk. -/
theorem fresh_fd {w w1 : World} {F : Nat → Prop} {p l n : Nat} {S : DS} {L : LG} {lab : Nat → Nat} (h : Live w w1 F p l n S L) (hF : Flat S n 0 [] 0 false) (hz : LZ lab w) : ∃ lab', Gro lab lab' w w1 (fun y => y = 3) ∧ FD w1 lab' 3 p n 0 [] := by
  refine ⟨relab lab w.heap.size w1.heap.size 3, Gro.keeps hz (Keeps.of_below (fun _ => False) h.b) 3 (fun _ _ h => h.elim), S, h.d.mono (fun k hk => relab_new (h.fF k hk) (h.d.lt k hk)) (fun k hk => ?_), hF, h.f⟩
  apply Decidable.byContradiction
  intro hn
  have e : relab lab w.heap.size w1.heap.size 3 k = 3 := hk
  rw [relab_far (by omega), hz k (Nat.le_trans h.b.size (by omega))] at e
  cases e
/-- What is to be kept: nothing yet. -/
theorem kept_new {w : World} {lab : Nat → Nat} (hz : LZ lab w) : ∃ lab', Gro lab lab' w (w.alloc (.cells #[.slice none 0 0, .slice none 0 0] 35)) (fun y => y = 20) ∧ Kq (w.alloc (.cells #[.slice none 0 0, .slice none 0 0] 35)) lab' w.heap.size (.slice none 0 0) (.slice none 0 0) [] [] := by
  refine ⟨_, Gro.give hz (below_box w _) (Nat.le_refl _) (by simp) 20, heap_alloc_new _ _, ?_, LO.nil _ _ _ _, LX.nil _ _ _ _⟩
  show (if w.heap.size = w.heap.size then 20 else _) = 20
  rw [if_pos rfl]
end Go.Proofs.Ythdgndbmecnimaa
end

section
namespace Go.Proofs.Ythdgndbmecnimaa
open Go.RowKit Go.Maps

/-- Behind an append: what stood stands, or is the list's own by now. -/
theorem OR.appCell {w w' : World} {lab : Nat → Nat} {y n m c g' cap' g1 o : Nat} {v x : Value} {l nw : List SV} {ad : Addr} (h : OR w lab y 27 v n (vls l)) (hm : nw.length = m) (hnw : ∀ j u, (vls nw)[j]? = some u → w.cell? (ad.add j) = some u) (h0 : 0 < m) (hb : n + m ≤ 1000000000)
    (hr : (Builtin.append_ #[22, 22] 22 #[v, .slice (some ad) m c]).run Try.prog w = .ok (.slice (some ⟨g', 0, none⟩) (n + m) cap') w') (hc : w.cell? ⟨g1, o, none⟩ = some x) (ho : o < n + m) :
    w'.cell? ⟨g1, o, none⟩ = some x ∨ ∃ s, (l ++ nw)[o]? = some s ∧ w'.cell? ⟨g1, o, none⟩ = some s.v := by
  obtain ⟨i0, hi, hz0, hz1, hz2⟩ := info_parts infoOne
  have hlen : (vls nw).length = m * 1 := by simp [hm]
  have hone : ∀ u ∈ vls nw, u.oneCell' = true := by
    intro u hu
    obtain ⟨x, _, rfl⟩ := List.mem_map.1 hu
    rfl
  obtain ⟨g2, cap2, w2, hr2, hw, hg, hat, hlt⟩ := run_append_lies (P := Try.prog) w 22 22 0 27 i0 (.slice none 0 0) 1 24 Try.underlying22 hi hz0 hz1 hz2 rfl (by decide) v n (vls l) h.1 ad m c (vls nw) hlen hnw hone h0 (by unfold maxLen; omega) (by omega) (Nat.zero_le _) _ rfl
  rw [hr] at hr2
  injection hr2 with e1 e2
  injection e1 with e3 e4 e5
  injection e3 with e6
  injection e6 with e7
  subst e7
  subst e5
  subst e2
  have hl1 : g1 < w.heap.size := World.block_lt_of_cell? _ _ hc
  have hll : l.length = n := by have := h.1.1; simpa using this
  by_cases e : g1 = g'
  · right
    subst e
    obtain ⟨g3, c3, e8, _, hrow, _⟩ := RowAt.of_owns hw (by intro q; cases q)
    injection e8 with q1
    injection q1 with q2
    injection q2 with q3
    subst q3
    obtain ⟨s, hs⟩ : ∃ s, (l ++ nw)[o]? = some s := ⟨_, List.getElem?_eq_getElem (by rw [List.length_append]; omega)⟩
    refine ⟨s, hs, hrow.cell ?_⟩
    have hv : (vls (l ++ nw))[o]? = some s.v := by unfold vls; rw [List.getElem?_map, hs]; rfl
    rw [show vls l ++ vls nw = vls (l ++ nw) by simp [vls]]
    exact hv
  · left
    by_cases hv : v.ownBlock = some g1
    · obtain ⟨hl, ⟨rfl, rfl⟩ | ⟨g, cap, cur, rfl, hg0, hblk, hnc, hmc, hcs, ht⟩⟩ := h.1
      · simp [Value.ownBlock] at hv
      · obtain rfl : g = g1 := by simpa [Value.ownBlock] using hv
        simp only [Nat.mul_one] at hl hcs ht
        by_cases hroom : n + m ≤ cap
        · have hr3 := run_append_room (P := Try.prog) w 22 22 27 i0 Try.underlying22 hi g n cap cur hblk ad m c (vls nw) (by rw [hz1]; exact hlen) hnw hone hroom (by rw [hz1, hlen]; omega)
          have e1 := (Result.ok.inj (hr.symm.trans hr3)).1
          have e3 := (Value.slice.inj e1).1
          have e7 := congrArg Addr.block (Option.some.inj e3)
          exact absurd e7.symm e
        · have hr3 := run_append_grow (P := Try.prog) w 22 22 27 i0 (.slice none 0 0) Try.underlying22 hi hz0 ⟨g, 0, none⟩ n cap (vls l) (by rw [hz1]; simpa using hl) (h.1.cells (g := g) rfl) ad m c (vls nw) (by rw [hz1]; exact hlen) hnw (by omega) (by omega) (growslice_fits (by omega) (by rw [hz2]; omega))
          have e2 := (Result.ok.inj (hr.symm.trans hr3)).2
          rw [e2, World.cell?_of_block (w := w) (a := ⟨g, o, none⟩) (Below.heap_alloc w.drew _ g hl1)]
          exact hc
    · rw [World.cell?_of_block (w := w) (a := ⟨g1, o, none⟩) (hg.block g1 hl1 (fun q => hv q.symm))]
      exact hc
/-- A list of one byte, nobody's. -/
def MkL (w : World) (lab : Nat → Nat) (m : Nat) (x : Value) : Prop := ∃ g c, x = .slice (some ⟨g, 0, none⟩) 1 c ∧ 1 ≤ c ∧ w.cell? ⟨g, 0, none⟩ = some (.int .u8 (m : Int)) ∧ lab g = 0
theorem MkL.mk {w : World} {lab : Nat → Nat} {m : Nat} {x : Value} (h : MkL w lab m x) : Mk w m x := by
  obtain ⟨g, c, e, h1, h2, _⟩ := h
  exact ⟨g, c, e, h1, h2⟩
theorem MkL.gro {w w' : World} {lab lab' : Nat → Nat} {X : Nat → Prop} {m : Nat} {x : Value} (h : MkL w lab m x) (G : Gro lab lab' w w' X) (h0 : ¬ X 0) : MkL w' lab' m x := by
  obtain ⟨g, c, e, h1, h2, h3⟩ := h
  obtain ⟨c1, c2⟩ := G.cell h2 h3 h0
  exact ⟨g, c, e, h1, c1, c2⟩
theorem MkL.new {w : World} {lab : Nat → Nat} (hz : LZ lab w) (m : Nat) : MkL (w.alloc (.cells #[.int .u8 (m : Int)] 5)) lab m (.slice (some ⟨w.heap.size, 0, none⟩) 1 1) :=
  ⟨_, _, rfl, Nat.le_refl _, cell_of_block (heap_alloc_new _ _) (j := 0) rfl, hz _ (Nat.le_refl _)⟩
/-- The marks of a list that was told. -/
def OL (w : World) (lab : Nat → Nat) (K t : Nat) (a : Option Addr) : Prop := ∀ o, o < K → ∃ b x, a = some ⟨b, 0, none⟩ ∧ lab b = 29 + t ∧ w.cell? ⟨b, o, none⟩ = some x ∧ MkL w lab t x
theorem OL.gro {w w' : World} {lab lab' : Nat → Nat} {X : Nat → Prop} {K t : Nat} {a : Option Addr} (h : OL w lab K t a) (G : Gro lab lab' w w' X) (h0 : ¬ X 0) (h1 : ¬ X (29 + t)) : OL w' lab' K t a := fun o ho => by
  obtain ⟨b, x, e, hl, hc, hx⟩ := h o ho
  obtain ⟨c1, c2⟩ := G.cell hc hl h1
  exact ⟨b, x, e, c2, c1, hx.gro G h0⟩
theorem OL.mkr {w : World} {lab : Nat → Nat} {K t : Nat} {a : Option Addr} (h : OL w lab K t a) : MkR w a K t := fun o ho => by
  obtain ⟨b, x, e, _, hc, hx⟩ := h o ho
  exact ⟨b, x, e, hc, hx.mk⟩
/-- A list that was appended to. -/
def GL (w : World) (lab : Nat → Nat) (K t k : Nat) (s : SV) : Prop := ∃ g, s.a = some ⟨g, 0, none⟩ ∧ lab g = 29 + t ∧ s.n = K + k + 1 ∧ K + k + 1 ≤ s.c ∧ s.c ≤ 9223372036854775807 ∧ ∀ o, o < K + k + 1 → ∃ x, w.cell? ⟨g, o, none⟩ = some x ∧ MkL w lab (if o < K then t else 200 + t) x
theorem GL.gro {w w' : World} {lab lab' : Nat → Nat} {X : Nat → Prop} {K t k : Nat} {s : SV} (h : GL w lab K t k s) (G : Gro lab lab' w w' X) (h0 : ¬ X 0) (h1 : ¬ X (29 + t)) : GL w' lab' K t k s := by
  obtain ⟨g, e, hl, hn, hc, hc2, ho⟩ := h
  have hlt : lab' g = 29 + t := by
    obtain ⟨x, h2, _⟩ := ho 0 (by omega)
    exact (G.cell h2 hl h1).2
  refine ⟨g, e, hlt, hn, hc, hc2, fun o h3 => ?_⟩
  obtain ⟨x, h4, h5⟩ := ho o h3
  exact ⟨x, (G.cell h4 hl h1).1, h5.gro G h0⟩
/-- Lists that were appended to, in a row. -/
def ML (w : World) (lab : Nat → Nat) (K t N : Nat) (a : Option Addr) : Prop := ∀ k, k < N → ∃ b s, a = some ⟨b, 0, none⟩ ∧ lab b = 32 + t ∧ w.cell? ⟨b, k, none⟩ = some (SV.v s) ∧ GL w lab K t k s
theorem ML.gro {w w' : World} {lab lab' : Nat → Nat} {X : Nat → Prop} {K t N : Nat} {a : Option Addr} (h : ML w lab K t N a) (G : Gro lab lab' w w' X) (h0 : ¬ X 0) (h1 : ¬ X (29 + t)) (h2 : ¬ X (32 + t)) : ML w' lab' K t N a := fun k hk => by
  obtain ⟨b, s, e, hl, hc, hs⟩ := h k hk
  obtain ⟨c1, c2⟩ := G.cell hc hl h2
  exact ⟨b, s, e, c2, c1, hs.gro G h0 h1⟩
theorem ML.gwr {w : World} {lab : Nat → Nat} {K t : Nat} {a : Option Addr} (h : ML w lab K t 96 a) : GwR w a K t 96 := fun k hk => by
  obtain ⟨b, s, e, _, hc, g, e1, _, hn, hc1, hc2, ho⟩ := h k hk
  obtain ⟨sa, sn, sc⟩ := s
  simp only at e1 hn hc1 hc2
  subst e1
  subst hn
  refine ⟨b, g, sc, e, hc, hc1, hc2, fun o h3 => ?_⟩
  obtain ⟨x, h4, h5⟩ := ho o h3
  exact ⟨x, h4, h5.mk⟩
section
variable {w : World} {lab : Nat → Nat} {y n : Nat} {v : Value} {l : List SV}
/-- One more row. -/
theorem OR.pushL (h : OR w lab y 22 v n (vls l)) (hz : LZ lab w) (hn : n ≤ 100000) (x : SV) : ∃ g' cap' w', (Builtin.append_ #[36, 36] 36 #[v, .slice (some ⟨w.heap.size, 0, none⟩) 1 1]).run Try.prog (w.alloc (.cells #[x.v] 22)) = .ok (.slice (some ⟨g', 0, none⟩) (n + 1) cap') w' ∧ ∃ lab', Gro lab lab' w w' (fun z => z = y) ∧ OR w' lab' y 22 (.slice (some ⟨g', 0, none⟩) (n + 1) cap') (n + 1) (vls (l ++ [x])) := by
  obtain ⟨g', cap', w', hrun, hw, hg, hat⟩ := app_listsV h.1 x.v rfl (by omega) (Nat.zero_le _)
  have hbx := below_box w (.cells #[x.v] 22)
  have hk : Keeps (fun k => v.ownBlock = some k) w w' := ⟨hg.os.trans hbx.os, hg.tape.trans hbx.tape, hg.output.trans hbx.output, Nat.le_trans hbx.size hg.size, fun k hk hq => (hg.block k (Nat.lt_of_lt_of_le hk hbx.size) (fun e => hq e.symm)).trans (hbx.block k hk)⟩
  have G := Gro.keeps hz hk y (fun k _ hf => h.2 k hf)
  refine ⟨g', cap', w', hrun, _, G, ⟨by rw [show vls (l ++ [x]) = vls l ++ [x.v] by simp [vls]]; exact hw, fun k hk' => ?_⟩⟩
  have e : k = g' := by simpa [Value.ownBlock] using hk'.symm
  subst e
  rcases hat with e | e
  · exact G.tag (rowLt h.1 e) (h.2 _ e)
  · exact relab_new (by omega) (rowLt hw rfl)
end
theorem infoRowW : (Try.prog.info? 36).map (fun i => (i.zero, i.size, i.bytes)) = some (some (.slice none 0 0), 1, 24) := by kernel_rfl
theorem app_listsW {W : World} {B k : Nat} {v : Value} {vs : List Value} (hrow : W.ownsRow B 36 1 v k vs) (x : Value) (hx : x.oneCell' = true) (hk : k ≤ 100000000) (hB : B ≤ W.heap.size) :
    ∃ g cap w', (Builtin.append_ #[44, 44] 44 #[v, .slice (some ⟨W.heap.size, 0, none⟩) 1 1]).run Try.prog (W.alloc (.cells #[x] 36)) = .ok (.slice (some ⟨g, 0, none⟩) (k + 1) cap) w' ∧ w'.ownsRow B 36 1 (.slice (some ⟨g, 0, none⟩) (k + 1) cap) (k + 1) (vs ++ [x]) ∧ (W.alloc (.cells #[x] 36)).grownBy w' v.ownBlock ∧ (v.ownBlock = some g ∨ g = W.heap.size + 1) := by
  obtain ⟨i0, hi, hz0, hz1, hz2⟩ := info_parts infoRowW
  obtain ⟨g, cap, w', h1, h2, h3, h4, _⟩ := run_append_lies (P := Try.prog) (W.alloc (.cells #[x] 36)) 44 44 B 36 i0 (.slice none 0 0) 1 24 Try.underlying44 hi hz0 hz1 hz2 rfl (by decide) v k vs (rowAgree hrow (fun g hg => Below.heap_alloc _ _ _ (rowLt hrow hg))) ⟨W.heap.size, 0, none⟩ 1 1 [x] rfl (World.news_of_block (cs := #[x]) (t := 36) (fr := (0, 0)) (heap_alloc_new W _)) (by simpa using hx) (by omega) (by unfold maxLen; omega) (by omega) (by simp; omega) _ rfl
  exact ⟨g, cap, w', h1, h2, h3, h4.imp (fun e => e) (fun e => e.trans (by simp))⟩
section
variable {w : World} {lab : Nat → Nat} {y n : Nat} {v : Value} {l : List SV}
/-- One more row of rows. -/
theorem OR.pushM (h : OR w lab y 36 v n (vls l)) (hz : LZ lab w) (hn : n ≤ 100000) (x : SV) : ∃ g' cap' w', (Builtin.append_ #[44, 44] 44 #[v, .slice (some ⟨w.heap.size, 0, none⟩) 1 1]).run Try.prog (w.alloc (.cells #[x.v] 36)) = .ok (.slice (some ⟨g', 0, none⟩) (n + 1) cap') w' ∧ ∃ lab', Gro lab lab' w w' (fun z => z = y) ∧ OR w' lab' y 36 (.slice (some ⟨g', 0, none⟩) (n + 1) cap') (n + 1) (vls (l ++ [x])) := by
  obtain ⟨g', cap', w', hrun, hw, hg, hat⟩ := app_listsW h.1 x.v rfl (by omega) (Nat.zero_le _)
  have hbx := below_box w (.cells #[x.v] 36)
  have hk : Keeps (fun k => v.ownBlock = some k) w w' := ⟨hg.os.trans hbx.os, hg.tape.trans hbx.tape, hg.output.trans hbx.output, Nat.le_trans hbx.size hg.size, fun k hk hq => (hg.block k (Nat.lt_of_lt_of_le hk hbx.size) (fun e => hq e.symm)).trans (hbx.block k hk)⟩
  have G := Gro.keeps hz hk y (fun k _ hf => h.2 k hf)
  refine ⟨g', cap', w', hrun, _, G, ⟨by rw [show vls (l ++ [x]) = vls l ++ [x.v] by simp [vls]]; exact hw, fun k hk' => ?_⟩⟩
  have e : k = g' := by simpa [Value.ownBlock] using hk'.symm
  subst e
  rcases hat with e | e
  · exact G.tag (rowLt h.1 e) (h.2 _ e)
  · exact relab_new (by omega) (rowLt hw rfl)
end
end Go.Proofs.Ythdgndbmecnimaa
end

section
namespace Go.Proofs.Ythdgndbmecnimaa
open Go.RowKit Go.Maps

/-- The owners of what stands through the last part: I lists are kept, N are noted, r rounds are done. -/
def usedD (I N r y : Nat) : Prop := y = 0 ∨ y = 5 ∨ y = 6 ∨ y = 7 ∨ y = 10 ∨ (11 ≤ y ∧ y ≤ 17) ∨ (20 ≤ y ∧ y ≤ 22) ∨ (26 ≤ y ∧ y ≤ 28) ∨ (29 ≤ y ∧ y < 29 + r) ∨ (32 ≤ y ∧ y < 32 + r) ∨ (41 ≤ y ∧ y % 2 = 1 ∧ y < 41 + 2 * I) ∨ (40 ≤ y ∧ y % 2 = 0 ∧ y < 40 + 2 * N)
/-- The last part: the book, the lists of the rounds, and what was appended to them. -/
structure PDs (w wr : World) (lab : Nat → Nat) (n p : Nat) (ds : List (List Int)) (kv : Value) (j pk : Nat) (ins : List (List Int)) (lv : Value) (rows : List (List SV)) (pb : Nat) (nm : List (Nat × Int)) (r : Nat) (ov : Value) (os : List SV) (mv : Value) (ms : List SV) : Prop where
  c : PCs w wr lab n p ds kv j pk ins lv rows
  rn : rows.length = 3
  b : ∃ v0 v1 v2 v3 v4 v5, Bk wr lab pb v0 v1 v2 v3 v4 v5 nm
  bn : ∀ q ∈ nm, q.1 ≤ 8364
  o : OR wr lab 7 22 ov os.length (vls os)
  oe : ∀ (t : Nat) (s : SV), t < r → os[t]? = some s → s.n = ds.length ∧ OL wr lab ds.length t s.a
  m : OR wr lab 10 36 mv ms.length (vls ms)
  me : ∀ (t : Nat) (s : SV), t < r → ms[t]? = some s → s.n = 96 ∧ ML wr lab ds.length t 96 s.a
section
variable {w wr w' : World} {lab lab' : Nat → Nat} {n p : Nat} {ds : List (List Int)} {kv : Value} {j j2 pk : Nat} {ins : List (List Int)} {lv : Value} {rows : List (List SV)} {pb : Nat} {nm : List (Nat × Int)} {r : Nat} {ov mv : Value} {os ms : List SV} {X : Nat → Prop}
theorem PDs.move (h : PDs w wr lab n p ds kv j pk ins lv rows pb nm r ov os mv ms) (G : Gro lab lab' wr w' X) (hd : FD w' lab' 1 p n j2 ds) (hX : ∀ y, usedD ins.length nm.length r y → ¬ X y) : PDs w w' lab' n p ds kv j2 pk ins lv rows pb nm r ov os mv ms := by
  obtain ⟨v0, v1, v2, v3, v4, v5, hb⟩ := h.b
  have h0 : ¬ X 0 := hX 0 (.inl rfl)
  refine ⟨h.c.move G hd h0 (hX 5 (by unfold usedD; omega)) (hX 6 (by unfold usedD; omega)) (fun y y1 y2 => hX y (by unfold usedD; omega)) (fun i hi => hX _ (by have e : yK i = 41 + 2 * i := rfl; unfold usedD; omega)) (fun i hi => hX _ (by have := h.rn; have e : yA i = 26 + i := rfl; unfold usedD; omega)), h.rn, ⟨v0, v1, v2, v3, v4, v5, hb.gro G (fun y hy => hX y (by unfold usedD; omega)) (fun i hi => hX _ (by have e : yB i = 40 + 2 * i := rfl; unfold usedD; omega))⟩, h.bn, h.o.gro G (hX 7 (by unfold usedD; omega)), fun t s ht hs => ?_, h.m.gro G (hX 10 (by unfold usedD; omega)), fun t s ht hs => ?_⟩
  · obtain ⟨e1, e2⟩ := h.oe t s ht hs
    exact ⟨e1, e2.gro G h0 (hX _ (by unfold usedD; omega))⟩
  · obtain ⟨e1, e2⟩ := h.me t s ht hs
    exact ⟨e1, e2.gro G h0 (hX _ (by unfold usedD; omega)) (hX _ (by unfold usedD; omega))⟩
theorem PDs.gro (h : PDs w wr lab n p ds kv j pk ins lv rows pb nm r ov os mv ms) (G : Gro lab lab' wr w' X) (h1 : ¬ X 1) (hX : ∀ y, usedD ins.length nm.length r y → ¬ X y) : PDs w w' lab' n p ds kv j pk ins lv rows pb nm r ov os mv ms :=
  h.move G (h.c.d.gro G (by omega) h1) hX
theorem PDs.later (h : PDs w wr lab n p ds kv j pk ins lv rows pb nm r ov os mv ms) (hb : Below wr.heap.size wr w') : PDs w w' lab n p ds kv j pk ins lv rows pb nm r ov os mv ms :=
  h.gro (Gro.below h.c.g.lz hb (fun _ => False)) (fun h => h) (fun _ _ h => h)
/-- The told records of a round. -/
structure PEs (w wr : World) (lab : Nat → Nat) (n p : Nat) (ds : List (List Int)) (kv : Value) (j pk : Nat) (ins : List (List Int)) (lv : Value) (rows : List (List SV)) (pb : Nat) (nm : List (Nat × Int)) (r : Nat) (ov : Value) (os : List SV) (mv : Value) (ms : List SV) (N : Nat) (v : Value) (svs : List SV) : Prop where
  d : PDs w wr lab n p ds kv j pk ins lv rows pb nm r ov os mv ms
  t : Td wr lab (29 + r) (fun i => yB (N + i)) v ds svs
theorem PEs.later {N : Nat} {v : Value} {svs : List SV} (h : PEs w wr lab n p ds kv j pk ins lv rows pb nm r ov os mv ms N v svs) (hb : Below wr.heap.size wr w') : PEs w w' lab n p ds kv j pk ins lv rows pb nm r ov os mv ms N v svs :=
  ⟨h.d.later hb, h.t.gro (Gro.below h.d.c.g.lz hb (fun _ => False)) (fun h => h) (fun _ _ h => h)⟩
theorem PDs.open (h : PDs w wr lab n p ds kv j pk ins lv rows pb nm r ov os mv ms) (hj : j ≤ 1000) (h18 : 18 ≤ n) (h256 : n ≤ 256) (hr : r < 3) :
    Calls Try.prog 13 #[.pointer (some ⟨p, 0, none⟩), .int .i64 0, .int .i64 (n : Int)] wr fun e w' => ∃ l v lab' svs, e = .returned (.tuple #[.pointer (some ⟨l, 0, none⟩), v, .int .i64 0]) ∧ PEs w w' lab' n p ds kv (j + 1) pk ins lv rows pb nm r ov os mv ms nm.length v svs := by
  obtain ⟨X, h1, h2, h3⟩ := h.c.d
  refine (open_sv h1 (by omega) h.c.g.lz h2 hj h3 h18 h256 (29 + r) (fun i => yB (nm.length + i))).mono ?_
  rintro e w' ⟨l, v, lab', svs, X', rfl, G, hd, hF, hf, hT⟩
  refine ⟨l, v, lab', svs, rfl, h.move G ⟨X', hd, hF, hf⟩ (fun y hu hy => ?_), hT⟩
  unfold usedD at hu
  rcases hy with hy | hy | ⟨i, _, hy⟩
  · omega
  · omega
  · have hy' : y = 40 + 2 * (nm.length + i) := hy
    omega
/-- The book is whole. -/
theorem PDs.whole (h : PDs w wr lab n p ds kv j pk ins lv rows pb nm r ov os mv ms) (hN : nm.length ≤ 1000000) : Calls Try.prog 16 #[.pointer (some ⟨pb, 0, none⟩)] wr fun e w' => e = .returned (.bool true) ∧ Below wr.heap.size wr w' := by
  obtain ⟨v0, v1, v2, v3, v4, v5, hb⟩ := h.b
  exact whole_any hb h.c.g.lz (fun q hq => by have := h.bn q hq; omega) (by omega)
/-- While the told records are noted. -/
structure PNs (w wr : World) (lab : Nat → Nat) (n p : Nat) (ds : List (List Int)) (kv : Value) (j pk : Nat) (ins : List (List Int)) (lv : Value) (rows : List (List SV)) (pb : Nat) (nm : List (Nat × Int)) (r : Nat) (ov : Value) (os : List SV) (mv : Value) (ms : List SV) (N i : Nat) (v : Value) (svs : List SV) : Prop where
  d : PDs w wr lab n p ds kv j pk ins lv rows pb nm r ov os mv ms
  nn : nm.length = N + i
  t : OR wr lab (29 + r) 27 v ds.length (vls svs)
  n : svs.length = ds.length
  lo : ∀ (k : Nat) (s : SV), k < i → svs[k]? = some s → MkL wr lab r s.v
  hi : ∀ (k : Nat) (hk : k < ds.length), i ≤ k → ∃ s, svs[k]? = some s ∧ OR wr lab (yB (N + k)) 5 s.v (ds[k]).length (bs ds[k])
theorem PEs.start {N : Nat} {v : Value} {svs : List SV} (h : PEs w wr lab n p ds kv j pk ins lv rows pb nm r ov os mv ms N v svs) (hN : nm.length = N) : PNs w wr lab n p ds kv j pk ins lv rows pb nm r ov os mv ms N 0 v svs :=
  ⟨h.d, hN, h.t.r, h.t.n, fun _ _ hk => absurd hk (Nat.not_lt_zero _), fun k hk _ => h.t.o k hk⟩
/-- A told record is noted. -/
theorem PNs.note {N i : Nat} {v : Value} {svs : List SV} (h : PNs w wr lab n p ds kv j pk ins lv rows pb nm r ov os mv ms N i v svs) (hds : ∀ d ∈ ds, d.length ≤ 8364) (hi : i < ds.length) (hr : r < 3) (hN : nm.length ≤ 1000000) {s : SV} (hs : svs[i]? = some s) :
    Calls Try.prog 19 #[.pointer (some ⟨pb, 0, none⟩), s.v] wr fun e w' => e = .returned (.tuple #[]) ∧ ∃ lab' nm', PDs w w' lab' n p ds kv j pk ins lv rows pb nm' r ov os mv ms ∧ nm'.length = N + (i + 1) ∧ OR w' lab' (29 + r) 27 v ds.length (vls svs) ∧ (∀ (k : Nat) (s : SV), k < i → svs[k]? = some s → MkL w' lab' r s.v) ∧ ∀ (k : Nat) (hk : k < ds.length), i + 1 ≤ k → ∃ s, svs[k]? = some s ∧ OR w' lab' (yB (N + k)) 5 s.v (ds[k]).length (bs ds[k]) := by
  obtain ⟨v0, v1, v2, v3, v4, v5, hb⟩ := h.d.b
  obtain ⟨s', e1, ho⟩ := h.hi i hi (Nat.le_refl _)
  rw [hs] at e1
  cases e1
  have hlen := hds _ (List.getElem_mem hi)
  refine (note_any hb h.d.c.g.lz (by rw [h.nn]; exact ho) (by omega) (by omega)).mono ?_
  rintro e w' ⟨rfl, lab', x, u0, u1, u2, u3, u4, u5, G, hb'⟩
  have hnn := h.nn
  have yb : ∀ y, isN nm.length y ∨ y = 9 → (11 ≤ y ∧ y ≤ 17) ∨ y = 40 + 2 * nm.length ∨ y = 9 := fun y hy => by
    rcases hy with (hy | hy) | hy
    · exact .inl hy
    · exact .inr (.inl hy)
    · exact .inr (.inr hy)
  have hP : PDs w w' lab' n p ds kv j pk ins lv rows pb (nm ++ [((ds[i]).length, x)]) r ov os mv ms := by
    have hc := h.d.c
    have h0 : ¬ (fun y => isN nm.length y ∨ y = 9) 0 := fun hy => by have := yb _ hy; omega
    refine ⟨hc.gro G (fun hy => by have := yb _ hy; omega) h0 (fun hy => by have := yb _ hy; omega) (fun hy => by have := yb _ hy; omega) (fun y y1 y2 hy => by have := yb _ hy; omega) (fun i _ hy => by have := yb _ hy; have e : 41 + 2 * i = yK i := rfl; omega) (fun i hi hy => by have := yb _ hy; have := h.d.rn; have e : 26 + i = yA i := rfl; omega), h.d.rn, ⟨u0, u1, u2, u3, u4, u5, hb'⟩, fun q hq => ?_, h.d.o.gro G (fun hy => by have := yb _ hy; omega), fun t s ht hs => ?_, h.d.m.gro G (fun hy => by have := yb _ hy; omega), fun t s ht hs => ?_⟩
    · rcases List.mem_append.1 hq with hq | hq
      · exact h.d.bn q hq
      · rw [List.mem_singleton.1 hq]; exact hlen
    · obtain ⟨e1, e2⟩ := h.d.oe t s ht hs
      exact ⟨e1, e2.gro G h0 (fun hy => by have := yb _ hy; omega)⟩
    · obtain ⟨e1, e2⟩ := h.d.me t s ht hs
      exact ⟨e1, e2.gro G h0 (fun hy => by have := yb _ hy; omega) (fun hy => by have := yb _ hy; omega)⟩
  refine ⟨rfl, lab', _, hP, by rw [List.length_append, hnn]; rfl, h.t.gro G (fun hy => by have := yb _ hy; omega), fun k s hk hs => (h.lo k s hk hs).gro G (fun hy => by have := yb _ hy; omega), fun k hk hik => ?_⟩
  obtain ⟨s, e1, e2⟩ := h.hi k hk (by omega)
  exact ⟨s, e1, e2.gro G (fun hy => by have := yb _ hy; have e : 40 + 2 * (N + k) = yB (N + k) := rfl; omega)⟩
/-- Its place gets a mark. -/
theorem PDs.mark {N i : Nat} {v : Value} {svs : List SV} (h : PDs w wr lab n p ds kv j pk ins lv rows pb nm r ov os mv ms) (hnn : nm.length = N + (i + 1)) (ht : OR wr lab (29 + r) 27 v ds.length (vls svs)) (hn : svs.length = ds.length) (hlo : ∀ (k : Nat) (s : SV), k < i → svs[k]? = some s → MkL wr lab r s.v) (hhi : ∀ (k : Nat) (hk : k < ds.length), i + 1 ≤ k → ∃ s, svs[k]? = some s ∧ OR wr lab (yB (N + k)) 5 s.v (ds[k]).length (bs ds[k])) (hi : i < ds.length) (hr : r < 3) :
    ∃ g c, v = .slice (some ⟨g, 0, none⟩) ds.length c ∧ (∃ y0, (wr.alloc (.cells #[.int .u8 (r : Int)] 5)).cell? ⟨g, i, none⟩ = some (SV.v y0)) ∧ (wr.alloc (.cells #[.int .u8 (r : Int)] 5)).frozen? ⟨g, i, none⟩ = false ∧ ds.length ≤ c ∧ PNs w ((wr.alloc (.cells #[.int .u8 (r : Int)] 5)).setCell ⟨g, i, none⟩ (.slice (some ⟨wr.heap.size, 0, none⟩) 1 1)) lab n p ds kv j pk ins lv rows pb nm r ov os mv ms N (i + 1) v (svs.set i ⟨some ⟨wr.heap.size, 0, none⟩, 1, 1⟩) := by
  have hM := MkL.new h.c.g.lz r
  have hB := below_box wr (.cells #[.int .u8 (r : Int)] 5)
  obtain ⟨W1, hW1⟩ : ∃ W1, W1 = wr.alloc (.cells #[.int .u8 (r : Int)] 5) := ⟨_, rfl⟩
  rw [← hW1] at hM hB ⊢
  have G0 := Gro.below h.c.g.lz hB (fun _ => False)
  obtain ⟨g, c, e1, c1, f1, hc, G, hq⟩ := (ht.gro G0 (fun h => h)).putV G0.lz (i := i) (by omega) ⟨some ⟨wr.heap.size, 0, none⟩, 1, 1⟩
  have hX : ∀ y, usedD ins.length nm.length r y → ¬ y = 29 + r := fun y hu hy => by unfold usedD at hu; omega
  refine ⟨g, c, e1, ⟨_, c1⟩, f1, hc, (h.later hB).gro G (by omega) hX, hnn, hq, by simpa using hn, fun k s hk hs => ?_, fun k hk hik => ?_⟩
  · by_cases e : k = i
    · subst e
      rw [List.getElem?_set_self (by omega)] at hs
      cases hs
      exact hM.gro G (by omega)
    · rw [List.getElem?_set_ne (fun h => e h.symm)] at hs
      exact ((hlo k s (by omega) hs).gro G0 (fun h => h)).gro G (by omega)
  · obtain ⟨s, e2, e3⟩ := hhi k hk hik
    exact ⟨s, by rw [List.getElem?_set_ne (by omega)]; exact e2, (e3.gro G0 (fun h => h)).gro G (by show ¬ 40 + 2 * (N + k) = 29 + r; omega)⟩
end
end Go.Proofs.Ythdgndbmecnimaa
end

section
namespace Go.Proofs.Ythdgndbmecnimaa
open Go.RowKit Go.Maps

theorem OR.room {w : World} {lab : Nat → Nat} {y n c : Nat} {e : TypeId} {a : Option Addr} {xs : List Value} (h : OR w lab y e (.slice a n c) n xs) : c ≤ 9223372036854775807 := by
  obtain ⟨_, ⟨h0, _⟩ | ⟨g9, cap9, cur9, h9, _, _, _, h10, _, _⟩⟩ := h.1
  · cases h0
    omega
  · injection h9 with q1 q2 q3
    unfold maxLen at h10
    omega
/-- While the told list of a round is appended to. -/
structure PFs (w wr : World) (lab : Nat → Nat) (n p : Nat) (ds : List (List Int)) (kv : Value) (j pk : Nat) (ins : List (List Int)) (lv : Value) (rows : List (List SV)) (pb : Nat) (nm : List (Nat × Int)) (r : Nat) (ov : Value) (os : List SV) (mv : Value) (ms : List SV) (tv : Value) (svs : List SV) (T : Nat) (fv gv : Value) : Prop where
  d : PDs w wr lab n p ds kv j pk ins lv rows pb nm r ov os mv ms
  t : OR wr lab (29 + r) 27 tv ds.length (vls svs)
  n : svs.length = ds.length
  lo : ∀ (k : Nat) (s : SV), svs[k]? = some s → MkL wr lab r s.v
  f : ∃ fs, fs.length = T ∧ OR wr lab 35 27 fv T (vls fs) ∧ ∀ (k : Nat) (s : SV), fs[k]? = some s → MkL wr lab (200 + r) s.v
  g : ∃ gs, gs.length = T ∧ OR wr lab (32 + r) 22 gv T (vls gs) ∧ ∀ (k : Nat) (s : SV), gs[k]? = some s → GL wr lab ds.length r k s
section
variable {w wr w' : World} {lab lab' : Nat → Nat} {n p : Nat} {ds : List (List Int)} {kv : Value} {j pk : Nat} {ins : List (List Int)} {lv : Value} {rows : List (List SV)} {pb : Nat} {nm : List (Nat × Int)} {r : Nat} {ov mv tv fv gv : Value} {os ms svs : List SV} {t : Nat}
/-- The told list joins the lists of the rounds. -/
theorem PNs.push {N : Nat} {ta : Option Addr} {tc : Nat} (h : PNs w wr lab n p ds kv j pk ins lv rows pb nm r ov os mv ms N ds.length (.slice ta ds.length tc) svs) (hr : r < 3) (ho : os.length = r) : ∃ g' cap' w', (Builtin.append_ #[36, 36] 36 #[ov, .slice (some ⟨wr.heap.size, 0, none⟩) 1 1]).run Try.prog (wr.alloc (.cells #[.slice ta ds.length tc] 22)) = .ok (.slice (some ⟨g', 0, none⟩) (r + 1) cap') w' ∧ ∃ lab', PFs w w' lab' n p ds kv j pk ins lv rows pb nm r (.slice (some ⟨g', 0, none⟩) (r + 1) cap') (os ++ [⟨ta, ds.length, tc⟩]) mv ms (.slice ta ds.length tc) svs 0 (.slice none 0 0) (.slice none 0 0) := by
  obtain ⟨g', cap', w', hrun, lab', G, hq⟩ := h.d.o.pushL h.d.c.g.lz (by omega) ⟨ta, ds.length, tc⟩
  rw [ho] at hrun hq
  obtain ⟨v0, v1, v2, v3, v4, v5, hb⟩ := h.d.b
  have hc : PCs w w' lab' n p ds kv j pk ins lv rows := h.d.c.gro G (by omega) (by omega) (by omega) (by omega) (fun y y1 y2 => by omega) (fun i _ => yK_26 i 7 (by omega)) (fun i _ => by show ¬ 26 + i = 7; omega)
  refine ⟨g', cap', w', hrun, lab', ⟨hc, h.d.rn, ⟨v0, v1, v2, v3, v4, v5, hb.gro G (fun y y1 => by omega) (fun i _ => by show ¬ 40 + 2 * i = 7; omega)⟩, h.d.bn, by rw [List.length_append, ho]; exact hq, fun t s ht hs => ?_, h.d.m.gro G (by omega), fun t s ht hs => ?_⟩, h.t.gro G (by omega), h.n, fun k s hs => (h.lo k s (by rw [← h.n]; exact (List.getElem?_eq_some_iff.1 hs).1) hs).gro G (by omega), ⟨[], rfl, OR.nil _ _ _ _, fun k s hs => by simp at hs⟩, ⟨[], rfl, OR.nil _ _ _ _, fun k s hs => by simp at hs⟩⟩
  · rw [List.getElem?_append_left (by omega)] at hs
    obtain ⟨e1, e2⟩ := h.d.oe t s ht hs
    exact ⟨e1, e2.gro G (by omega) (by omega)⟩
  · obtain ⟨e1, e2⟩ := h.d.me t s ht hs
    exact ⟨e1, e2.gro G (by omega) (by omega) (by omega)⟩
/-- One more mark, and one more list. -/
theorem PFs.step (h : PFs w wr lab n p ds kv j pk ins lv rows pb nm r ov os mv ms tv svs t fv gv) (hr : r < 3) (ht : t < 96) (hK : ds.length ≤ 256) {W2 : World}
    (hW : W2 = (wr.alloc (.cells #[.int .u8 ((200 + r : Nat) : Int)] 5)).alloc (.cells #[.slice (some ⟨wr.heap.size, 0, none⟩) 1 1] 27)) :
    ∃ gf cf w3, (Builtin.append_ #[22, 22] 22 #[fv, .slice (some ⟨wr.heap.size + 1, 0, none⟩) 1 1]).run Try.prog W2 = .ok (.slice (some ⟨gf, 0, none⟩) (t + 1) cf) w3 ∧
    ∃ g2 c2 w4, (Builtin.append_ #[22, 22] 22 #[tv, .slice (some ⟨gf, 0, none⟩) (t + 1) cf]).run Try.prog w3 = .ok (.slice (some ⟨g2, 0, none⟩) (ds.length + (t + 1)) c2) w4 ∧
    ∃ g3 c3 w6, (Builtin.append_ #[36, 36] 36 #[gv, .slice (some ⟨w4.heap.size, 0, none⟩) 1 1]).run Try.prog (w4.alloc (.cells #[.slice (some ⟨g2, 0, none⟩) (ds.length + (t + 1)) c2] 22)) = .ok (.slice (some ⟨g3, 0, none⟩) (t + 1) c3) w6 ∧
    ∃ lab', PFs w w6 lab' n p ds kv j pk ins lv rows pb nm r ov os mv ms tv svs (t + 1) (.slice (some ⟨gf, 0, none⟩) (t + 1) cf) (.slice (some ⟨g3, 0, none⟩) (t + 1) c3) := by
  subst hW
  obtain ⟨fs, hfn, hf, hfm⟩ := h.f
  obtain ⟨gs, hgn, hg, hge⟩ := h.g
  have hlz := h.d.c.g.lz
  have hM := MkL.new hlz (200 + r)
  obtain ⟨W1, hW1⟩ : ∃ W1, W1 = wr.alloc (.cells #[.int .u8 ((200 + r : Nat) : Int)] 5) := ⟨_, rfl⟩
  have hB1 : Below wr.heap.size wr W1 := by rw [hW1]; exact below_box _ _
  have hs1 : W1.heap.size = wr.heap.size + 1 := by rw [hW1]; simp
  rw [← hW1] at hM ⊢
  rw [← hs1]
  have hB2 := below_box W1 (.cells #[.slice (some ⟨wr.heap.size, 0, none⟩) 1 1] 27)
  have hnew : ∀ j u, (vls [⟨some ⟨wr.heap.size, 0, none⟩, 1, 1⟩])[j]? = some u → (W1.alloc (.cells #[.slice (some ⟨wr.heap.size, 0, none⟩) 1 1] 27)).cell? ((⟨W1.heap.size, 0, none⟩ : Addr).add j) = some u := World.news_of_block (cs := #[.slice (some ⟨wr.heap.size, 0, none⟩) 1 1]) (t := 27) (fr := (0, 0)) (heap_alloc_new W1 _)
  obtain ⟨W2, hW2⟩ : ∃ W2, W2 = W1.alloc (.cells #[.slice (some ⟨wr.heap.size, 0, none⟩) 1 1] 27) := ⟨_, rfl⟩
  rw [← hW2] at hB2 hnew ⊢
  have G1 := Gro.below hlz hB1 (fun _ => False)
  have G2 := Gro.below G1.lz hB2 (fun _ => False)
  have GG := G1.join G2 (Z := fun _ => False) (fun _ h => h) (fun _ h => h)
  obtain ⟨gf, cf, w3, hrun1, lab3, G3, hf3, _⟩ := (hf.gro GG (fun h => h)).appV GG.lz ⟨W1.heap.size, 0, none⟩ 1 1 [⟨some ⟨wr.heap.size, 0, none⟩, 1, 1⟩] rfl hnew (by omega) (by omega)
  have G13 := GG.join G3 (Z := fun y => y = 35) (fun _ h => h.elim) (fun _ h => h)
  obtain ⟨fs', hfs'⟩ : ∃ fs', fs' = fs ++ [⟨some ⟨wr.heap.size, 0, none⟩, 1, 1⟩] := ⟨_, rfl⟩
  rw [← hfs'] at hf3
  have hfn' : fs'.length = t + 1 := by rw [hfs', List.length_append, hfn]; rfl
  have hfm' : ∀ (k : Nat) (s : SV), fs'[k]? = some s → MkL w3 lab3 (200 + r) s.v := fun k s hs => by
    rw [hfs'] at hs
    by_cases e : k < fs.length
    · rw [List.getElem?_append_left e] at hs
      exact (hfm k s hs).gro G13 (by omega)
    · have h1 := (List.getElem?_eq_some_iff.1 hs).1
      rw [List.length_append, List.length_singleton] at h1
      obtain rfl : k = fs.length := by omega
      rw [List.getElem?_append_right (Nat.le_refl _), Nat.sub_self] at hs
      cases hs
      exact (hM.gro G2 (fun h => h)).gro G3 (by omega)
  have hrow3 := (hf3.row (by omega))
  obtain ⟨gf', cf', ef, hrf, _, _⟩ := hrow3
  injection ef with ef1 ef2 ef3
  injection ef1 with ef4
  injection ef4 with ef5
  subst ef5
  subst ef3
  have ht3 := h.t.gro G13 (by omega)
  have hnw3 : ∀ j u, (vls fs')[j]? = some u → w3.cell? ((⟨gf, 0, none⟩ : Addr).add j) = some u := fun j u hj => by
    have := hrf.cell hj
    rw [addr_add]
    simpa using this
  obtain ⟨g2, c2, w4, hrun2, lab4, G4, ho4, ht4⟩ := ht3.appV G13.lz ⟨gf, 0, none⟩ (t + 1) cf fs' hfn' hnw3 (by omega) (by omega)
  have hge4 : ∀ (k : Nat) (s : SV), gs[k]? = some s → GL w4 lab4 ds.length r k s := fun k s hs => by
    have hk : k < t := by rw [← hgn]; exact (List.getElem?_eq_some_iff.1 hs).1
    obtain ⟨g, e, hl, hn, hc, hcc, ho⟩ := (hge k s hs).gro G13 (by omega) (by omega)
    have hlt : g < w3.heap.size := by
      obtain ⟨x, h2, _⟩ := ho 0 (by omega)
      exact World.block_lt_of_cell? _ _ h2
    refine ⟨g, e, G4.tag hlt hl, hn, hc, hcc, fun o h3 => ?_⟩
    obtain ⟨x, h4, h5⟩ := ho o h3
    rcases ht3.appCell hfn' hnw3 (by omega) (by omega) hrun2 h4 (by omega) with h6 | ⟨s', h6, h7⟩
    · exact ⟨x, h6, h5.gro G4 (by omega)⟩
    · refine ⟨_, h7, ?_⟩
      by_cases e2 : o < ds.length
      · rw [if_pos e2]
        rw [List.getElem?_append_left (by rw [h.n]; exact e2)] at h6
        exact ((h.lo o s' h6).gro G13 (by omega)).gro G4 (by omega)
      · rw [if_neg e2]
        rw [List.getElem?_append_right (by rw [h.n]; omega)] at h6
        exact (hfm' _ s' h6).gro G4 (by omega)
  have hnewG : GL w4 lab4 ds.length r t ⟨some ⟨g2, 0, none⟩, ds.length + (t + 1), c2⟩ := by
    obtain ⟨g', c', e, hr4, hl4, hc4⟩ := ho4.row (by omega)
    injection e with e1 e2 e3
    injection e1 with e4
    injection e4 with e5
    subst e5
    subst e3
    refine ⟨g2, rfl, hl4, rfl, by show ds.length + t + 1 ≤ c2; omega, OR.room ho4, fun o h3 => ?_⟩
    obtain ⟨s', hs'⟩ : ∃ s', (svs ++ fs')[o]? = some s' := ⟨_, List.getElem?_eq_getElem (by rw [List.length_append, h.n, hfn']; omega)⟩
    refine ⟨s'.v, hr4.cell (by unfold vls; rw [List.getElem?_map, hs']; rfl), ?_⟩
    by_cases e2 : o < ds.length
    · rw [if_pos e2]
      rw [List.getElem?_append_left (by rw [h.n]; exact e2)] at hs'
      exact ((h.lo o s' hs').gro G13 (by omega)).gro G4 (by omega)
    · rw [if_neg e2]
      rw [List.getElem?_append_right (by rw [h.n]; omega)] at hs'
      exact (hfm' _ s' hs').gro G4 (by omega)
  obtain ⟨g3, c3, w6, hrun3, lab6, G6, hg6⟩ := ((hg.gro G13 (by omega)).gro G4 (by omega)).pushL G4.lz (by omega) ⟨some ⟨g2, 0, none⟩, ds.length + (t + 1), c2⟩
  have hX : ∀ y, usedD ins.length nm.length r y → y ≠ 35 ∧ y ≠ 29 + r ∧ y ≠ 32 + r := fun y hu => by unfold usedD at hu; omega
  refine ⟨gf, cf, w3, by rw [hs1] at *; exact hrun1, g2, c2, w4, hrun2, g3, c3, w6, hrun3, lab6, ((h.d.gro G13 (by omega) (fun y hu => (hX y hu).1)).gro G4 (by omega) (fun y hu => (hX y hu).2.1)).gro G6 (by omega) (fun y hu => (hX y hu).2.2), ht4.gro G6 (by omega), h.n, fun k s hs => (((h.lo k s hs).gro G13 (by omega)).gro G4 (by omega)).gro G6 (by omega), ⟨fs', hfn', (hf3.gro G4 (by omega)).gro G6 (by omega), fun k s hs => ((hfm' k s hs).gro G4 (by omega)).gro G6 (by omega)⟩, ⟨gs ++ [⟨some ⟨g2, 0, none⟩, ds.length + (t + 1), c2⟩], by rw [List.length_append, hgn]; rfl, hg6, fun k s hs => ?_⟩⟩
  by_cases e : k < gs.length
  · rw [List.getElem?_append_left e] at hs
    exact (hge4 k s hs).gro G6 (by omega) (by omega)
  · have h1 := (List.getElem?_eq_some_iff.1 hs).1
    rw [List.length_append, List.length_singleton] at h1
    obtain rfl : k = gs.length := by omega
    rw [List.getElem?_append_right (Nat.le_refl _), Nat.sub_self] at hs
    cases hs
    rw [hgn]
    exact hnewG.gro G6 (by omega) (by omega)
/-- The round is done. -/
theorem PFs.finish {ta ga : Option Addr} {tc gc : Nat} {os0 : List SV} (h : PFs w wr lab n p ds kv j pk ins lv rows pb nm r ov (os0 ++ [⟨ta, ds.length, tc⟩]) mv ms (.slice ta ds.length tc) svs 96 fv (.slice ga 96 gc)) (hr : r < 3) (ho : os0.length = r) (hm : ms.length = r) : ∃ g' cap' w', (Builtin.append_ #[44, 44] 44 #[mv, .slice (some ⟨wr.heap.size, 0, none⟩) 1 1]).run Try.prog (wr.alloc (.cells #[.slice ga 96 gc] 36)) = .ok (.slice (some ⟨g', 0, none⟩) (r + 1) cap') w' ∧ ∃ lab', PDs w w' lab' n p ds kv j pk ins lv rows pb nm (r + 1) ov (os0 ++ [⟨ta, ds.length, tc⟩]) (.slice (some ⟨g', 0, none⟩) (r + 1) cap') (ms ++ [⟨ga, 96, gc⟩]) := by
  obtain ⟨g', cap', w', hrun, lab', G, hq⟩ := h.d.m.pushM h.d.c.g.lz (by omega) ⟨ga, 96, gc⟩
  rw [hm] at hrun hq
  obtain ⟨v0, v1, v2, v3, v4, v5, hb⟩ := h.d.b
  obtain ⟨gs, hgn, hg, hge⟩ := h.g
  have hc : PCs w w' lab' n p ds kv j pk ins lv rows := h.d.c.gro G (by omega) (by omega) (by omega) (by omega) (fun y y1 y2 => by omega) (fun i _ => yK_26 i 10 (by omega)) (fun i _ => by show ¬ 26 + i = 10; omega)
  refine ⟨g', cap', w', hrun, lab', ⟨hc, h.d.rn, ⟨v0, v1, v2, v3, v4, v5, hb.gro G (fun y y1 => by omega) (fun i _ => by show ¬ 40 + 2 * i = 10; omega)⟩, h.d.bn, h.d.o.gro G (by omega), fun t s ht hs => ?_, by rw [List.length_append, hm]; exact hq, fun t s ht hs => ?_⟩⟩
  · by_cases e : t < r
    · obtain ⟨e1, e2⟩ := h.d.oe t s e hs
      exact ⟨e1, e2.gro G (by omega) (by omega)⟩
    · obtain rfl : t = r := by omega
      rw [List.getElem?_append_right (by omega), ho, Nat.sub_self] at hs
      cases hs
      refine ⟨rfl, fun o h1 => ?_⟩
      obtain ⟨g, c, e1, hrow, hl, _⟩ := (h.t.gro G (by omega)).row (by omega)
      injection e1 with q1
      obtain ⟨s, hs⟩ : ∃ s, svs[o]? = some s := ⟨_, List.getElem?_eq_getElem (by rw [h.n]; exact h1)⟩
      exact ⟨g, s.v, q1, hl, hrow.cell (by unfold vls; rw [List.getElem?_map, hs]; rfl), (h.lo o s hs).gro G (by omega)⟩
  · by_cases e : t < r
    · rw [List.getElem?_append_left (by omega)] at hs
      obtain ⟨e1, e2⟩ := h.d.me t s e hs
      exact ⟨e1, e2.gro G (by omega) (by omega) (by omega)⟩
    · obtain rfl : t = r := by omega
      rw [List.getElem?_append_right (by omega), hm, Nat.sub_self] at hs
      cases hs
      refine ⟨rfl, fun k h1 => ?_⟩
      obtain ⟨g, c, e1, hrow, hl, _⟩ := (hg.gro G (by omega)).row (by omega)
      injection e1 with q1
      obtain ⟨s, hs⟩ : ∃ s, gs[k]? = some s := ⟨_, List.getElem?_eq_getElem (by omega)⟩
      exact ⟨g, s, q1, hl, hrow.cell (by unfold vls; rw [List.getElem?_map, hs]; rfl), (hge k s hs).gro G (by omega) (by omega)⟩
end
end Go.Proofs.Ythdgndbmecnimaa
end
