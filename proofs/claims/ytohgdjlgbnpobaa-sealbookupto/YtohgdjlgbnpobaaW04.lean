import Derived.Test.YtohgdjlgbnpobaaW03
import Derived.Deep.RegionHeld3
import Derived.Great.BuildSlice
section
namespace Go.Proofs.Ytohgdjlgbnpobaa
open Go.RowKit

/-- A block that may be written. -/
def Plain (w : World) (g : Nat) : Prop := ∃ cur T, w.heap[g]? = some (.cells cur T (0, 0))
theorem Plain.later {w w' : World} {g : Nat} (h : Plain w g) (hb : Below w.heap.size w w') : Plain w' g := by
  obtain ⟨cur, T, h⟩ := h
  exact ⟨cur, T, (hb.block g (Array.getElem?_eq_some_iff.1 h).1).trans h⟩
/-- v is a slice that reads as l, with no room behind it; its memory, if any, lies at B or above. -/
def Lst (w : World) (B : Nat) (v : Value) (l : List Int) : Prop := ∃ a c, v = .slice a l.length c ∧ Src w a l.length l ∧ c = l.length ∧ ∀ x, a = some x → B ≤ x.block ∧ Plain w x.block
theorem Lst.nil (w : World) (B : Nat) : Lst w B (.slice none 0 0) [] := ⟨none, 0, rfl, ⟨rfl, fun _ => rfl, fun x hx => by cases hx⟩, rfl, fun x hx => by cases hx⟩
theorem Lst.later {w w' : World} {B : Nat} {v : Value} {l : List Int} (h : Lst w B v l) (hb : Below w.heap.size w w') : Lst w' B v l := by
  obtain ⟨a, c, rfl, hs, hc, hx⟩ := h
  exact ⟨a, c, rfl, hs.later hb, hc, fun x e => ⟨(hx x e).1, (hx x e).2.later hb⟩⟩
theorem Blk.lst {w : World} {T : TypeId} {g B : Nat} {l : List Int} (h : Blk w T g l) (hg : B ≤ g) : Lst w B (.slice (some ⟨g, 0, none⟩) l.length l.length) l := by
  refine ⟨some ⟨g, 0, none⟩, l.length, rfl, ?_, rfl, fun x hx => by cases hx; exact ⟨hg, _, _, h⟩⟩
  have := h.src (o := 0) (n := l.length) (by omega)
  simpa using this

theorem heap_setCells_full {w : World} {T : TypeId} {g : Nat} : ∀ (vs pre : List Value) (cur : Array Value), w.heap[g]? = some (.cells cur T (0, 0)) → (∃ post, cur.toList = pre ++ post ∧ post.length = vs.length) →
    (w.setCells g pre.length vs).heap[g]? = some (.cells (pre ++ vs).toArray T (0, 0)) := by
  intro vs
  induction vs generalizing w with
  | nil =>
    intro pre cur hg ⟨post, he, hl⟩
    have : post = [] := List.eq_nil_of_length_eq_zero hl
    subst this
    simp only [List.append_nil] at he ⊢
    show w.heap[g]? = _
    rw [hg, ← he]
  | cons v r ih =>
    intro pre cur hg ⟨post, he, hl⟩
    cases post with
    | nil => simp at hl
    | cons u post =>
      have h1 := heap_setCell_same w g pre.length cur T v hg
      have e : (cur.setIfInBounds pre.length v).toList = (pre ++ [v]) ++ post := by
        rw [Array.toList_setIfInBounds, he, List.set_append_right _ _ (Nat.le_refl _), Nat.sub_self]
        simp
      have := ih (w := w.setCell ⟨g, pre.length, none⟩ v) (pre ++ [v]) _ h1 ⟨post, e, by simpa using hl⟩
      simp only [World.setCells]
      simpa using this
theorem blk_stored {w : World} {T : TypeId} {g : Nat} {cur : Array Value} {l : List Int} (hg : w.heap[g]? = some (.cells cur T (0, 0))) (hl : cur.size = l.length) : Blk (w.setCells g 0 (bs l)) T g l :=
  heap_setCells_full (bs l) [] cur hg ⟨cur.toList, rfl, by simp [bs, hl]⟩
end Go.Proofs.Ytohgdjlgbnpobaa
end

section
namespace Go.Proofs.Ytohgdjlgbnpobaa
open Go.RowKit Go.Maps

/-- A list with no room behind it, in memory of one owner. -/
def TL (w : World) (lab : Nat → Nat) (y : Nat) (v : Value) (l : List Int) : Prop := ∃ a, v = .slice a l.length l.length ∧ Src w a l.length l ∧ ∀ x, a = some x → lab x.block = y ∧ Plain w x.block

section
variable {w w' : World} {lab lab' : Nat → Nat} {y y' : Nat} {v : Value} {l : List Int} {X : Nat → Prop}
theorem TL.gro (h : TL w lab y v l) (g : Gro lab lab' w w' X) (hX : ¬ X y) : TL w' lab' y v l := by
  obtain ⟨a, rfl, hs, hx⟩ := h
  have lt : ∀ x, a = some x → x.block < w.heap.size := fun x e => by obtain ⟨cur, T, hb⟩ := (hx x e).2; exact (Array.getElem?_eq_some_iff.1 hb).1
  refine ⟨a, rfl, hs.past g.kp (fun z hz _ hq => hX ((hx z hz).1 ▸ hq)), fun x e => ⟨g.tag (lt x e) (hx x e).1, ?_⟩⟩
  obtain ⟨cur, T, hb⟩ := (hx x e).2
  exact ⟨cur, T, (g.block (lt x e) (hx x e).1 hX).trans hb⟩
theorem TL.sl (h : TL w lab y v l) : ∃ a, v = .slice a l.length l.length ∧ SL w lab y a l.length l := by
  obtain ⟨a, rfl, hs, hx⟩ := h
  exact ⟨a, rfl, hs, fun z hz _ => (hx z hz).1⟩
/-- What a call has made gets an owner. -/
theorem Lst.own {B : Nat} (h : Lst w' B v l) (hB : w.heap.size ≤ B) (hb : Below w.heap.size w w') (hz : LZ lab w) (y : Nat) : ∃ lab', Gro lab lab' w w' (fun x => x = y) ∧ TL w' lab' y v l ∧ ∀ k, w'.heap.size ≤ k → lab' k = 0 := by
  have G := Gro.keeps hz (Keeps.of_below (fun _ => False) hb) y (fun _ _ h => h.elim)
  obtain ⟨a, c, rfl, hs, rfl, hx⟩ := h
  refine ⟨_, G, ⟨a, rfl, hs, fun x e => ⟨?_, (hx x e).2⟩⟩, G.lz⟩
  obtain ⟨cur, T, hb'⟩ := (hx x e).2
  exact relab_new (by have := (hx x e).1; omega) (Array.getElem?_eq_some_iff.1 hb').1
/-- A byte is written. -/
theorem TL.put (h : TL w lab y v l) (hz : LZ lab w) {i : Nat} (hi : i < l.length) (m : Int) : ∃ b o, v = .slice (some ⟨b, o, none⟩) l.length l.length ∧ w.cell? ⟨b, o + i, none⟩ = some (.int .u8 (l.getD i 0)) ∧ w.frozen? ⟨b, o + i, none⟩ = false ∧ Gro lab lab w (w.setCell ⟨b, o + i, none⟩ (.int .u8 m)) (fun x => x = y) ∧ TL (w.setCell ⟨b, o + i, none⟩ (.int .u8 m)) lab y v (l.set i m) := by
  obtain ⟨a, rfl, hs, hx⟩ := h
  cases a with
  | none => have := hs.2.1 rfl; omega
  | some x =>
    obtain ⟨b, o, rfl, hc⟩ := hs.spot (by omega)
    obtain ⟨hl, cur, T, hb⟩ := hx _ rfl
    have hb2 : (w.setCell ⟨b, o + i, none⟩ (.int .u8 m)).heap[b]? = some (.cells (cur.setIfInBounds (o + i) (.int .u8 m)) T (0, 0)) := heap_setCell_same _ _ _ _ _ _ hb
    refine ⟨b, o, rfl, hc i hi, frozen_of_block hb _, Gro.plain hz (Keeps.setCell (F := fun k => k = b) w (p := ⟨b, o + i, none⟩) rfl _) (fun k _ e => by rw [e]; exact hl), ⟨some ⟨b, o, none⟩, by rw [List.length_set], ⟨by rw [List.length_set], (fun h => by cases h), fun z hz j hj => ?_⟩, fun z hz => by cases hz; exact ⟨hl, _, _, hb2⟩⟩⟩
    cases hz
    rw [List.length_set] at hj
    rw [addr_add]
    have h1 := hc j hj
    simp only [World.cell?, hb] at h1
    simp only [World.cell?, hb2]
    by_cases e : i = j
    · subst e
      have hlt : o + i < cur.size := by
        have h1' : cur[o + i]? = some (.int .u8 (l.getD i 0)) := by simpa using h1
        exact (Array.getElem?_eq_some_iff.1 h1').1
      simp [hlt, List.getD, hi]
    · rw [Array.getElem?_setIfInBounds_ne (by omega)]
      simp only [List.getD, List.getElem?_set_ne e]
      simpa [List.getD] using h1
set_option maxRecDepth 8000 in
/-- A first byte is appended: that is new memory. -/
theorem TL.app (h : TL w lab y v l) (hz : LZ lab w) (y' : Nat) (ad : Addr) (c : Nat) (x : Int) (hnw : w.cell? (ad.add 0) = some (.int .u8 x)) (hb : l.length ≤ 100000000) :
    ∃ g' cap' w', (Builtin.append_ #[25, 25] 25 #[v, .slice (some ad) 1 c]).run Try.prog w = .ok (.slice (some ⟨g', 0, none⟩) (l.length + 1) cap') w' ∧ ∃ lab', Gro lab lab' w w' (fun x => x = y') ∧ OR w' lab' y' 5 (.slice (some ⟨g', 0, none⟩) (l.length + 1) cap') (l.length + 1) (bs (l ++ [x])) ∧ Below w.heap.size w w' := by
  obtain ⟨i0, hi, hz0, hz1, hz2⟩ := info_parts infoU8
  obtain ⟨a, rfl, hs, hx⟩ := h
  have hnw' : ∀ j u, ([.int .u8 x] : List Value)[j]? = some u → w.cell? (ad.add j) = some u := by
    intro j u hu
    cases j with
    | zero => simp at hu; subst hu; exact hnw
    | succ j => simp at hu
  have key : ∃ g' cap' w', (Builtin.append_ #[25, 25] 25 #[.slice a l.length l.length, .slice (some ad) 1 c]).run Try.prog w = .ok (.slice (some ⟨g', 0, none⟩) (l.length + 1) cap') w' ∧ w'.ownsRow w.heap.size 5 1 (.slice (some ⟨g', 0, none⟩) (l.length + 1) cap') (l.length + 1) (bs (l ++ [x])) ∧ Below w.heap.size w w' := by
    by_cases h0 : a = none
    · subst h0
      have hl0 : l.length = 0 := hs.2.1 rfl
      obtain rfl : l = [] := List.eq_nil_of_length_eq_zero hl0
      have hone : ∀ u ∈ [Value.int .u8 x], u.oneCell' = true := by simp [Value.oneCell']
      obtain ⟨g', cap', w', hr, hw, hg, hat, hlt⟩ := run_append_lies (P := Try.prog) w 25 25 w.heap.size 5 i0 (.int .u8 0) 1 1 Try.underlying25 hi hz0 hz1 hz2 rfl (by decide) (.slice none 0 0) 0 [] (World.ownsRow_nil _ _ _ _) ad 1 c [.int .u8 x] rfl hnw' hone (by omega) (by unfold maxLen; omega) (by omega) (Nat.le_refl _) _ rfl
      exact ⟨g', cap', w', hr, hw, (Below.refl _ w).grown hg (Nat.le_refl _) (by intro k hk; cases hk)⟩
    · obtain ⟨z, rfl⟩ : ∃ z, a = some z := by cases a with | none => exact absurd rfl h0 | some z => exact ⟨z, rfl⟩
      have hr := run_append_grow (P := Try.prog) w 25 25 5 i0 (.int .u8 0) Try.underlying25 hi hz0 z l.length l.length (bs l) (by rw [hz1]; simp) (fun j u hu => by
        obtain ⟨hj, rfl⟩ := bs_getElem hu
        exact hs.2.2 z rfl j hj) ad 1 c [.int .u8 x] (by rw [hz1]; rfl) hnw' (by omega) (by omega) (growslice_fits (by omega) (by rw [hz2]; omega))
      have hge := grownCap_ge w (l.length + 1) l.length 5
      have hcm : grownCap w (l.length + 1) l.length 5 ≤ maxLen := grownCap_le_maxLen _ _ _ _ (by unfold maxLen; omega)
      refine ⟨_, _, _, hr, ⟨by simp, .inr ⟨_, _, _, rfl, by simp, heap_alloc_new _ _, hge, hcm, ?_, ?_⟩⟩, ⟨rfl, rfl, rfl, by simp, fun j hj => Below.heap_alloc _ _ _ hj⟩⟩
      · simp only [Array.size_append, List.size_toArray, size_zeroCells, List.length_map, List.length_singleton, Nat.mul_one]
        show l.length + 1 + (grownCap _ (l.length + 1) l.length _ - (l.length + 1)) * 1 = _
        omega
      · simp only [Array.toList_append, Nat.mul_one]
        rw [show bs (l ++ [x]) = bs l ++ [.int .u8 x] by simp [bs]]
        exact List.take_left' (by simp)
  obtain ⟨g', cap', w', hr, hw, hbl⟩ := key
  have G := Gro.keeps hz (Keeps.of_below (fun _ => False) hbl) y' (fun _ _ h => h.elim)
  have hlo := rowLow hw rfl
  have hlt := rowLt hw rfl
  refine ⟨g', cap', w', hr, _, G, ⟨?_, fun k hk => ?_⟩, hbl⟩
  · obtain ⟨e1, h2 | ⟨g2, c2, cur, e, _, h3⟩⟩ := hw
    · exact ⟨e1, .inl h2⟩
    · exact ⟨e1, .inr ⟨g2, c2, cur, e, Nat.zero_le _, h3⟩⟩
  · have e : k = g' := by simpa [Value.ownBlock] using hk.symm
    rw [e]
    exact relab_new hlo hlt
end
end Go.Proofs.Ytohgdjlgbnpobaa
end

section
namespace Go.Proofs.Ytohgdjlgbnpobaa
open Go.RowKit Go.Maps

/-- The byte at place k of the mark m. -/
def st (m k : Nat) : Int := bits BinOp.xor IntKind.u8 ((m : Int) / 2 ^ (8 * (k % 2)) % 256) (7 * ((k : Int) / 2) % 256)
set_option maxRecDepth 20000 in
set_option maxHeartbeats 1000000 in
theorem stamp_any (m k : Nat) (_hm : m ≤ 1000000000) (hk : k ≤ 1000000000) (w : World) :
    Calls Try.prog 34 #[.int .i64 (m : Int), .int .i64 (k : Int)] w fun e w' => e = .returned (.int .u8 (st m k)) ∧ w' = w := by
  go_enter Try.func34, Try.ntmps34
  go_wp2
  go_ret
  exact ⟨rfl, rfl⟩
/-- A mark, n bytes of it. -/
def rw' (m n : Nat) : List Int := (List.range n).map (st m)
theorem rw_len (m n : Nat) : (rw' m n).length = n := by simp [rw']
theorem rw_succ (m n : Nat) : rw' m (n + 1) = rw' m n ++ [st m n] := by simp [rw', List.range_succ]
theorem rw_fill {m t : Nat} {d : List Int} (ht : t < d.length) : (rw' m t ++ d.drop t).set t (st m t) = rw' m (t + 1) ++ d.drop (t + 1) := by
  rw [List.set_append_right _ _ (by rw [rw_len]; exact Nat.le_refl _), rw_len, Nat.sub_self, List.drop_eq_getElem_cons ht, List.set_cons_zero, rw_succ, List.append_assoc]
  rfl
theorem rowForm {w : World} {B m n : Nat} {e : TypeId} {v : Value} {xs : List Value} (h : w.ownsRow B e m v n xs) : ∃ a c, v = .slice a n c := by
  obtain ⟨_, ⟨rfl, h3⟩ | ⟨g, cap, cur, rfl, _⟩⟩ := h
  · exact ⟨none, 0, by rw [h3]⟩
  · exact ⟨_, _, rfl⟩

set_option maxRecDepth 20000 in
set_option maxHeartbeats 2000000 in
theorem row_any (m n : Nat) (hm : m ≤ 1000000000) (hn : n ≤ 100000000) (w : World) :
    Calls Try.prog 19 #[.int .i64 (m : Int), .int .i64 (n : Int)] w fun e w' => ∃ v, e = .returned v ∧ Own w' w.heap.size v (rw' m n) ∧ Below w.heap.size w w' := by
  obtain ⟨i0, hI, hz0, hz1, hz2⟩ := info_parts infoU8
  go_enter Try.func19, Try.ntmps19
  go_wp2
  go_loopw [5, 6] (fun b k wr => ∃ t : Nat, t ≤ n ∧ k = .int .i64 (t : Int) ∧ wr.ownsRow w.heap.size 5 1 b t (bs (rw' m t)) ∧ Below w.heap.size w wr) (fun _ k _ => n - (intOf k).toNat)
  case atStart => exact ⟨0, Nat.zero_le _, rfl, World.ownsRow_nil _ _ _ _, Below.refl _ _⟩
  case round =>
    obtain ⟨t, ht, rfl, hrow, hb⟩ := hrel
    obtain ⟨ba, bc, rfl⟩ := rowForm hrow
    by_cases hlt : t < n
    · have hlt' : (t : Int) < (n : Int) := by omega
      have hma := stamp_any m t hm (by omega) wr
      obtain ⟨x, hx⟩ : ∃ x, x = st m t := ⟨_, rfl⟩
      rw [← hx] at hma
      have hrow2 : (wr.alloc (.cells #[.int .u8 x] 5)).ownsRow w.heap.size 5 1 (.slice ba t bc) t (bs (rw' m t)) := rowAgree hrow (fun g hg => Below.heap_alloc _ _ _ (rowLt hrow hg))
      obtain ⟨g, cap, w', hr, hw, hg, hat, _⟩ := run_append_lies (P := Try.prog) (wr.alloc (.cells #[.int .u8 x] 5)) 25 25 w.heap.size 5 i0 (.int .u8 0) 1 1 Try.underlying25 hI hz0 hz1 hz2 rfl (by decide) _ t _ hrow2 ⟨wr.heap.size, 0, none⟩ 1 1 [.int .u8 x] rfl (World.news_of_block (cs := #[.int .u8 x]) (t := 5) (fr := (0, 0)) (heap_alloc_new wr _)) (by simp [Value.oneCell']) (by omega) (by unfold maxLen; omega) (by omega) (by have := hb.size; simp; omega) _ rfl
      have hb2 : Below w.heap.size w w' := (hb.alloc hb.size _).grown hg (by have := hb.size; simp; omega) (fun k hk => rowLow hrow2 hk)
      have hw2 : w'.ownsRow w.heap.size 5 1 (.slice (some ⟨g, 0, none⟩) (t + 1) cap) (t + 1) (bs (rw' m (t + 1))) := by
        have e : bs (rw' m (t + 1)) = bs (rw' m t) ++ [.int .u8 x] := by rw [rw_succ, ← hx]; simp [bs]
        rw [e]
        exact hw
      have HR := Hid.mk (And.intro hw2 hb2)
      have HA := Hid.mk hr
      clear hrow hb hrow2 hr hw hg hat hb2 hw2 hI hz0 hz1 hz2 hx
      go_wp2_with fail
      refine hma.mono ?_
      rintro e w2 ⟨rfl, rfl⟩
      clear hma
      go_wp2_with (at_builtin; refine swList_append_run rfl _ _ 25 rfl (.slice ba t bc) (.slice (some ⟨w2.heap.size, 0, none⟩) 1 1) _ rfl rfl HA.out ?_)
      go_roundw
      case rel => exact ⟨t + 1, by omega, by go_num, HR.out⟩
      case measure => simp [intOf]; omega
    · obtain rfl : t = n := by omega
      have hlt' : ¬ (t : Int) < (t : Int) := by omega
      have hO : Own wr w.heap.size (.slice ba t bc) (rw' m t) := by
        unfold Own
        rw [rw_len]
        exact hrow
      go_wp2
      go_ret
      exact ⟨_, rfl, hO, hb⟩

set_option maxRecDepth 20000 in
set_option maxHeartbeats 2000000 in
/-- A list is written over with a mark. -/
theorem fill_any {w : World} {lab : Nat → Nat} {y : Nat} {v : Value} {l : List Int} (h : TL w lab y v l) (hz : LZ lab w) (m : Nat) (hm : m ≤ 1000000000) (hn : l.length ≤ 100000000) :
    Calls Try.prog 17 #[v, .int .i64 (m : Int)] w fun e w' => e = .returned (.tuple #[]) ∧ TL w' lab y v (rw' m l.length) ∧ Gro lab lab w w' (fun x => x = y) := by
  have H := Hid.mk h
  obtain ⟨a, ha, _⟩ := h
  subst ha
  go_enter Try.func17, Try.ntmps17
  go_wp2
  go_loopw [4] (fun i wr => ∃ t : Nat, t ≤ l.length ∧ i = .int .i64 (t : Int) ∧ TL wr lab y (.slice a l.length l.length) (rw' m t ++ l.drop t) ∧ Gro lab lab w wr (fun x => x = y)) (fun i _ => l.length - (intOf i).toNat)
  case atStart => exact ⟨0, Nat.zero_le _, rfl, by simpa [rw'] using H.out, Gro.refl hz _⟩
  case round =>
    obtain ⟨t, ht, rfl, hT, hG⟩ := hrel
    by_cases hlt : t < l.length
    · have hld : (rw' m t ++ l.drop t).length = l.length := by rw [List.length_append, rw_len, List.length_drop]; omega
      obtain ⟨b, o, e1, c1, f1, G1, T1⟩ := hT.put hG.lz (i := t) (by omega) (st m t)
      rw [rw_fill hlt] at T1
      have ea : a = some ⟨b, o, none⟩ := by injection e1
      subst ea
      have hma := stamp_any m t hm (by omega) wr
      have HR := Hid.mk (And.intro T1 (hG.trans G1))
      have hlt' : (t : Int) < (l.length : Int) := by omega
      have ht0 : (0 : Int) ≤ (t : Int) := by omega
      clear hT hG e1 G1 T1 hld H
      generalize (rw' m t ++ l.drop t).getD t 0 = x0 at *
      generalize st m t = x at *
      generalize l.length = n at *
      go_wp2_with fail
      refine hma.mono ?_
      rintro e w2 ⟨rfl, rfl⟩
      clear hma
      go_wp2
      go_roundw
      case rel => exact ⟨t + 1, by omega, by go_num, HR.out⟩
      case measure => simp [intOf]; omega
    · obtain rfl : t = l.length := by omega
      have hlt' : ¬ (l.length : Int) < (l.length : Int) := by omega
      rw [List.drop_length, List.append_nil] at hT
      have HR := Hid.mk (And.intro hT hG)
      clear hT hG
      go_wp2
      exact bodyPost_end (results_none Try.results17 _ _ _) rfl ⟨rfl, HR.out⟩

set_option maxRecDepth 20000 in
set_option maxHeartbeats 4000000 in
/-- A list with bytes behind it: new memory; the list itself stays. -/
theorem grow_any {w : World} {lab : Nat → Nat} {y ym y' : Nat} {v : Value} {l more : List Int} (h : TL w lab y v l) (hz : LZ lab w) (am : Option Addr) (cm : Nat) (hs : SL w lab ym am more.length more) (h0 : 0 < more.length) (hm : more.length ≤ 100000) (hn : l.length ≤ 1000000) (hy : y' ≠ y) (hym : y' ≠ ym) :
    Calls Try.prog 18 #[v, .slice am more.length cm] w fun e w' => ∃ g c lab', e = .returned (.slice (some ⟨g, 0, none⟩) (l.length + more.length) c) ∧ Gro lab lab' w w' (fun x => x = y') ∧ OR w' lab' y' 5 (.slice (some ⟨g, 0, none⟩) (l.length + more.length) c) (l.length + more.length) (bs (l ++ more)) := by
  have H := Hid.mk h
  have HS := Hid.mk hs
  obtain ⟨a, ha, _⟩ := h
  subst ha
  obtain ⟨x, rfl⟩ : ∃ x, am = some x := by
    cases am with
    | none => have := hs.1.2.1 rfl; omega
    | some x => exact ⟨x, rfl⟩
  obtain ⟨bm, om, rfl, _⟩ := hs.1.spot h0
  clear hs
  go_enter Try.func18, Try.ntmps18
  go_wp2
  go_loopw [0, 5] (fun g i wr => ∃ (t : Nat) (L : Nat → Nat), t ≤ more.length ∧ i = .int .i64 (t : Int) ∧ ((t = 0 ∧ g = .slice a l.length l.length) ∨ (0 < t ∧ ∃ gg gc, g = .slice (some ⟨gg, 0, none⟩) (l.length + t) gc ∧ OR wr L y' 5 (.slice (some ⟨gg, 0, none⟩) (l.length + t) gc) (l.length + t) (bs (l ++ more.take t)))) ∧ Gro lab L w wr (fun x => x = y')) (fun _ i _ => more.length - (intOf i).toNat)
  case atStart => exact ⟨0, lab, Nat.zero_le _, rfl, .inl ⟨rfl, rfl⟩, Gro.refl hz _⟩
  case round =>
    obtain ⟨t, L, ht, rfl, hg, hG⟩ := hrel
    by_cases hlt : t < more.length
    · have hlt' : (t : Int) < (more.length : Int) := by omega
      have ht0 : (0 : Int) ≤ (t : Int) := by omega
      have hsr := HS.out.gro hG (fun e => hym e.symm)
      have c0 : wr.cell? ⟨bm, om + t, none⟩ = some (.int .u8 (more.getD t 0)) := by
        have := hsr.1.at hlt
        rwa [addr_add] at this
      obtain ⟨x, hx⟩ : ∃ x, x = more.getD t 0 := ⟨_, rfl⟩
      rw [← hx] at c0
      have GE := Gro.boxed hG.lz (.cells #[.int .u8 x] 5) (fun _ => False)
      have htk : more.take (t + 1) = more.take t ++ [x] := by
        rw [List.take_succ_eq_append_getElem hlt, hx]
        simp [List.getD, hlt]
      rcases hg with ⟨rfl, rfl⟩ | ⟨hp, gg, gc, rfl, hO⟩
      · rw [Nat.add_zero] at c0
        have hT := (H.out.gro hG (fun e => hy e.symm)).gro GE (fun h => h)
        obtain ⟨g', cap', w', hr, L', G2, O2, _⟩ := hT.app GE.lz y' ⟨wr.heap.size, 0, none⟩ 1 x (by
          rw [addr_add]
          exact cell_of_block (heap_alloc_new wr (.cells #[.int .u8 x] 5)) rfl) (by omega)
        have HR := Hid.mk (And.intro (show OR w' L' y' 5 (.slice (some ⟨g', 0, none⟩) (l.length + 1) cap') (l.length + 1) (bs (l ++ more.take 1)) by rw [htk]; exact O2) ((hG.join GE (Z := fun x => x = y') (fun _ h => h) (fun _ h => h.elim)).trans G2))
        have HA := Hid.mk hr
        clear hG hsr hx GE htk hT hr G2 O2 H HS ht
        generalize hnm : more.length = nm at *
        generalize l.length = n at *
        go_wp2_with (at_builtin; refine swList_append_run rfl _ _ 25 rfl (.slice a n n) (.slice (some ⟨wr.heap.size, 0, none⟩) 1 1) _ rfl rfl HA.out ?_)
        go_roundw
        case rel => exact ⟨1, L', by omega, by go_num, .inr ⟨by omega, g', cap', rfl, HR.out.1⟩, HR.out.2⟩
        case measure => simp [intOf]; omega
      · obtain ⟨g', cap', w', hr, L', G2, O2, _⟩ := (hO.gro GE (fun h => h)).app GE.lz ⟨wr.heap.size, 0, none⟩ 1 1 [x] rfl (World.news_of_block (cs := #[.int .u8 x]) (t := 5) (fr := (0, 0)) (heap_alloc_new wr _)) (by omega) (by omega)
        have HR := Hid.mk (And.intro (show OR w' L' y' 5 (.slice (some ⟨g', 0, none⟩) (l.length + (t + 1)) cap') (l.length + (t + 1)) (bs (l ++ more.take (t + 1))) by rw [htk, ← List.append_assoc]; exact O2) ((hG.join GE (Z := fun x => x = y') (fun _ h => h) (fun _ h => h.elim)).trans G2))
        have HA := Hid.mk hr
        clear hG hsr hx GE htk hO hr G2 O2 H HS ht
        generalize hnm : more.length = nm at *
        generalize hq : l.length + t = q at *
        go_wp2_with (at_builtin; refine swList_append_run rfl _ _ 25 rfl (.slice (some ⟨gg, 0, none⟩) q gc) (.slice (some ⟨wr.heap.size, 0, none⟩) 1 1) _ rfl rfl HA.out ?_)
        go_roundw
        case rel => exact ⟨t + 1, L', by omega, by go_num, .inr ⟨by omega, g', cap', by rw [← Nat.add_assoc, hq], HR.out.1⟩, HR.out.2⟩
        case measure => simp [intOf]; omega
    · obtain rfl : t = more.length := by omega
      have hlt' : ¬ (more.length : Int) < (more.length : Int) := by omega
      rcases hg with ⟨e, _⟩ | ⟨_, gg, gc, rfl, hO⟩
      · omega
      · rw [List.take_length] at hO
        have HR := Hid.mk (And.intro hG hO)
        clear hG hO H HS
        go_wp2
        go_ret
        exact ⟨gg, gc, rfl, L, by simpa only [bs, List.map_append] using HR.out⟩
end Go.Proofs.Ytohgdjlgbnpobaa
end

section
namespace Go.Proofs.Ytohgdjlgbnpobaa
open Go.RowKit Go.Maps

theorem lsame_yes (a b : Option Addr) (n c d : Nat) (l : List Int) (w : World) (hn : n ≤ 140737488355328) (h1 : Src w a n l) (h2 : Src w b n l) :
    Calls Try.prog 9 #[.slice a n c, .slice b n d] w fun e w' => e = .returned (.bool true) ∧ Below w.heap.size w w' := by
  refine (lsame_any a b n n c d l l w hn h1 h2).mono ?_
  rintro e w' ⟨rfl, hb⟩
  exact ⟨by rw [decide_eq_true rfl], hb⟩
theorem infoH : (Try.prog.info? 39).map (fun i => (i.zero, i.size, i.bytes)) = some (some (.agg #[.slice none 0 0, .slice none 0 0]), 2, 48) := by kernel_rfl
abbrev hF (x : Value × Value) : List Value := [x.1, x.2]
/-- Pairs of lists that read alike. -/
def BK (w : World) (lab : Nat → Nat) (yr : Nat) (yb : Nat → Nat) (v : Value) (ls : List (List Int)) : Prop := ∃ ys : List (Value × Value), ys.length = ls.length ∧ SQ w lab yr 39 2 hF v ys ∧ ∀ i (hi : i < ls.length), ∃ a c b d, ys[i]? = some (.slice a (ls[i]).length c, .slice b (ls[i]).length d) ∧ SL w lab (yb i) a (ls[i]).length ls[i] ∧ SL w lab 0 b (ls[i]).length ls[i]
/-- The same, of lists with no room behind them. -/
def AL (w : World) (lab : Nat → Nat) (v : Value) (ls : List (List Int)) : Prop := ∃ ys : List (Value × Value), ys.length = ls.length ∧ SQ w lab 31 39 2 hF v ys ∧ ∀ i (hi : i < ls.length), ∃ u b d, ys[i]? = some (u, .slice b (ls[i]).length d) ∧ TL w lab (yK i) u ls[i] ∧ SL w lab 0 b (ls[i]).length ls[i]

section
variable {w w' : World} {lab lab' : Nat → Nat} {yr : Nat} {yb : Nat → Nat} {v : Value} {ls : List (List Int)} {X : Nat → Prop}
theorem SQ.nil {α : Type} (w : World) (lab : Nat → Nat) (y : Nat) (e : TypeId) (m : Nat) (f : α → List Value) : SQ w lab y e m f (.slice none 0 0) [] := ⟨[], World.ownsRow_nil _ _ _ _, fun g h => by simp [Value.ownBlock] at h, fun i hi => by cases hi⟩
theorem BK.nil (w : World) (lab : Nat → Nat) (yr : Nat) (yb : Nat → Nat) : BK w lab yr yb (.slice none 0 0) [] := ⟨[], rfl, SQ.nil _ _ _ _ _ _, fun i hi => by cases hi⟩
theorem AL.nil (w : World) (lab : Nat → Nat) : AL w lab (.slice none 0 0) [] := ⟨[], rfl, SQ.nil _ _ _ _ _ _, fun i hi => by cases hi⟩
theorem BK.form (h : BK w lab yr yb v ls) : ∃ a c, v = .slice a ls.length c := by
  obtain ⟨ys, hl, hs, _⟩ := h
  obtain ⟨a, c, rfl⟩ := hs.form
  exact ⟨a, c, by rw [hl]⟩
theorem AL.bk (h : AL w lab v ls) : BK w lab 31 yK v ls := by
  obtain ⟨ys, hl, hs, he⟩ := h
  refine ⟨ys, hl, hs, fun i hi => ?_⟩
  obtain ⟨u, b, d, e1, e2, e3⟩ := he i hi
  obtain ⟨a, rfl, e4⟩ := e2.sl
  exact ⟨a, _, b, d, e1, e4, e3⟩
theorem BK.gro (h : BK w lab yr yb v ls) (g : Gro lab lab' w w' X) (h1 : ¬ X yr) (h2 : ∀ i, i < ls.length → ¬ X (yb i)) (h0 : ¬ X 0) : BK w' lab' yr yb v ls := by
  obtain ⟨ys, hl, hs, he⟩ := h
  refine ⟨ys, hl, hs.gro g h1, fun i hi => ?_⟩
  obtain ⟨a, c, b, d, e1, e2, e3⟩ := he i hi
  exact ⟨a, c, b, d, e1, e2.gro g (h2 i hi), e3.gro g h0⟩
theorem AL.gro (h : AL w lab v ls) (g : Gro lab lab' w w' X) (h1 : ¬ X 31) (h2 : ∀ i, i < ls.length → ¬ X (yK i)) (h0 : ¬ X 0) : AL w' lab' v ls := by
  obtain ⟨ys, hl, hs, he⟩ := h
  refine ⟨ys, hl, hs.gro g h1, fun i hi => ?_⟩
  obtain ⟨u, b, d, e1, e2, e3⟩ := he i hi
  exact ⟨u, b, d, e1, e2.gro g (h2 i hi), e3.gro g h0⟩
theorem BK.later (h : BK w lab yr yb v ls) (hz : LZ lab w) (hb : Below w.heap.size w w') : BK w' lab yr yb v ls := h.gro (Gro.below hz hb (fun _ => False)) (fun h => h) (fun _ _ h => h) (fun h => h)
theorem AL.later (h : AL w lab v ls) (hz : LZ lab w) (hb : Below w.heap.size w w') : AL w' lab v ls := h.gro (Gro.below hz hb (fun _ => False)) (fun h => h) (fun _ _ h => h) (fun h => h)
theorem BK.at (h : BK w lab yr yb v ls) {i : Nat} (hi : i < ls.length) : ∃ g cap a c b d, v = .slice (some ⟨g, 0, none⟩) ls.length cap ∧ w.cell? ⟨g, i * 2, none⟩ = some (.slice a (ls[i]).length c) ∧ w.cell? ⟨g, i * 2 + 1, none⟩ = some (.slice b (ls[i]).length d) ∧ SL w lab (yb i) a (ls[i]).length ls[i] ∧ SL w lab 0 b (ls[i]).length ls[i] := by
  obtain ⟨ys, hl, hs, he⟩ := h
  obtain ⟨a, c, b, d, e1, e2, e3⟩ := he i hi
  obtain ⟨g, cap, rfl, hr⟩ := hs.at (i := i) (by omega)
  have e4 : ys[i]'(by omega) = (.slice a (ls[i]).length c, .slice b (ls[i]).length d) := by
    have h1 : i < ys.length := by omega
    simpa [h1] using e1
  rw [e4] at hr
  refine ⟨g, cap, a, c, b, d, by rw [hl], ?_, hr 1 _ rfl, e2, e3⟩
  simpa using hr 0 _ rfl
/-- One more pair. -/
theorem BK.push (h : BK w lab yr yb v ls) (hz : LZ lab w) (hy : ∀ i, yr ≠ yb i) (hy0 : yr ≠ 0) {a b : Option Addr} {c d : Nat} {l : List Int} (s1 : SL w lab (yb ls.length) a l.length l) (s2 : SL w lab 0 b l.length l) (hn : ls.length ≤ 1000000000) :
    ∃ g' cap' w', (Builtin.append_ #[23, 23] 23 #[v, .slice (some ⟨w.heap.size, 0, none⟩) 1 1]).run Try.prog (w.alloc (.cells #[.slice a l.length c, .slice b l.length d] 39)) = .ok (.slice (some ⟨g', 0, none⟩) (ls.length + 1) cap') w' ∧ ∃ lab', Gro lab lab' w w' (fun z => z = yr) ∧ BK w' lab' yr yb (.slice (some ⟨g', 0, none⟩) (ls.length + 1) cap') (ls ++ [l]) := by
  obtain ⟨i0, hi, hz0, hz1, hz2⟩ := info_parts infoH
  obtain ⟨ys, hl, hs, he⟩ := h
  obtain ⟨g', cap', w', hr, lab', G, hq⟩ := hs.push hz Try.underlying23 hi hz0 hz1 hz2 rfl (by decide) (.slice a l.length c, .slice b l.length d) rfl (by simp [Value.oneCell']) (by omega) (by omega)
  rw [hl] at hr hq
  refine ⟨g', cap', w', hr, lab', G, ys ++ [(.slice a l.length c, .slice b l.length d)], by simp [hl], hq, fun i hi' => ?_⟩
  by_cases e : i < ls.length
  · obtain ⟨a2, c2, b2, d2, e1, e2, e3⟩ := he i e
    refine ⟨a2, c2, b2, d2, ?_, ?_, ?_⟩
    · rw [List.getElem?_append_left (by omega), e1, List.getElem_append_left e]
    · rw [List.getElem_append_left e]
      exact e2.gro G (fun e => hy i e.symm)
    · rw [List.getElem_append_left e]
      exact e3.gro G (fun e => hy0 e.symm)
  · have ei : i = ls.length := by simp at hi'; omega
    subst ei
    refine ⟨a, c, b, d, ?_, ?_, ?_⟩
    · rw [List.getElem?_append_right (by omega), hl]
      simp
    · simp only [List.getElem_append_right (Nat.le_refl _), Nat.sub_self, List.getElem_cons_zero]
      exact s1.gro G (fun e => hy _ e.symm)
    · simp only [List.getElem_append_right (Nat.le_refl _), Nat.sub_self, List.getElem_cons_zero]
      exact s2.gro G (fun e => hy0 e.symm)
end

set_option maxRecDepth 20000 in
set_option maxHeartbeats 4000000 in
/-- Every kept list holds what it must. -/
theorem still_any {w : World} {lab : Nat → Nat} {yr : Nat} {yb : Nat → Nat} {v : Value} {ls : List (List Int)} (h : BK w lab yr yb v ls) (hz : LZ lab w) (hm : ∀ d ∈ ls, d.length ≤ 1000000000) (hn : ls.length ≤ 1000000000) :
    Calls Try.prog 10 #[v] w fun e w' => e = .returned (.bool true) ∧ Below w.heap.size w w' := by
  obtain ⟨va, vc, rfl⟩ := h.form
  have H := Hid.mk (And.intro h (And.intro hz hm))
  clear h hz hm
  obtain ⟨N, hN⟩ : ∃ N, N = ls.length := ⟨_, rfl⟩
  rw [← hN] at hn ⊢
  have HN := Hid.mk hN
  clear hN
  go_enter Try.func10, Try.ntmps10
  go_wp2
  go_loopw [3] (fun i wr => ∃ k : Nat, k ≤ N ∧ i = .int .i64 (k : Int) ∧ Below w.heap.size w wr) (fun i _ => N - (intOf i).toNat)
  case atStart => exact ⟨0, Nat.zero_le _, rfl, Below.refl _ _⟩
  case round =>
    obtain ⟨k, hk, rfl, hb⟩ := hrel
    by_cases hlt : k < N
    · have hkl : k < ls.length := by have := HN.out; omega
      obtain ⟨g, cap, a, c, b, d, e1, e2, e3, s1, s2⟩ := (H.out.1.later H.out.2.1 hb).at hkl
      have hdl := H.out.2.2 _ (List.getElem_mem hkl)
      have ea : va = some ⟨g, 0, none⟩ := by injection e1
      subst ea
      have hdr : Below wr.heap.size wr wr.drew := (Keeps.drew (fun _ => False) wr).below (fun _ h => h.elim) (Nat.le_refl _)
      have hsm := lsame_yes a b (ls[k]).length c d ls[k] wr.drew (by omega) (s1.1.later hdr) (s2.1.later hdr)
      generalize (ls[k]).length = n at *
      have HC : Hid (∀ w', Below wr.heap.size wr w' → w'.cell? ⟨g, k * 2, none⟩ = some (.slice a n c) ∧ w'.cell? ⟨g, k * 2 + 1, none⟩ = some (.slice b n d)) := fun w' hw => ⟨cell_later hw e2, cell_later hw e3⟩
      have HDr := Hid.mk hdr
      have HB := Hid.mk hb
      have hlt' : (k : Int) < (N : Int) := by omega
      have hk0 : (0 : Int) ≤ (k : Int) := by omega
      clear hb e1 e2 e3 s1 s2 hdr hkl hk
      go_wp2
      refine wp_region_held_drew (S := (fun w' => w'.cell? ⟨g, k * 2, none⟩ = some (.slice a n c) ∧ w'.cell? ⟨g, k * 2 + 1, none⟩ = some (.slice b n d))) (by kernel_rfl) (HC.out _ HDr.out) (fun hHeld => ?_)
      refine wpAnyH_take (i := 0) (oi := { dst := some 10, op := Op.move (Operand.tmp 0), type := 23, pos := "book.go:100", after := #[], guard := none }) (v := .slice (some ⟨g, 0, none⟩) N vc) rfl (by kernel_rfl) (by kernel_rfl) (by kernel_rfl) (fun _ _ _ h => h) (Or.inl ⟨by rfl, ?_⟩) (by assumption) ?_
      · intro w hSw
        (try dsimp only at hSw)
        go_simp
      try simp only [Act.put, List.setIfInBounds_toArray, List.set_cons_zero, List.set_cons_succ]
      refine wpAnyH_take (i := 1) (oi := { dst := some 11, op := Op.move (Operand.tmp 3), type := 3, pos := "book.go:100", after := #[], guard := none }) (v := .int .i64 (k : Int)) rfl (by kernel_rfl) (by kernel_rfl) (by kernel_rfl) (fun _ _ _ h => h) (Or.inl ⟨by rfl, ?_⟩) (by assumption) ?_
      · intro w hSw
        (try dsimp only at hSw)
        go_simp
      try simp only [Act.put, List.setIfInBounds_toArray, List.set_cons_zero, List.set_cons_succ]
      refine wpAnyH_take (i := 2) (oi := { dst := some 12, op := Op.indexAddr 23 (Operand.tmp 10) (Operand.tmp 11), type := 0, pos := "book.go:100", after := #[{ on := 0, ground := Ground.data }, { on := 1, ground := Ground.data }], guard := none }) (v := .pointer (some ⟨g, k * 2, none⟩)) rfl (by kernel_rfl) (by kernel_rfl) (by kernel_rfl) (fun _ _ _ h => h) (Or.inl ⟨by rfl, ?_⟩) (by assumption) ?_
      · intro w hSw
        (try dsimp only at hSw)
        go_simp
      try simp only [Act.put, List.setIfInBounds_toArray, List.set_cons_zero, List.set_cons_succ]
      refine wpAnyH_take (i := 3) (oi := { dst := some 13, op := Op.fieldAddr 39 (Operand.tmp 12) 0, type := 0, pos := "book.go:100", after := #[{ on := 2, ground := Ground.data }], guard := none }) (v := .pointer (some ⟨g, k * 2, none⟩)) rfl (by kernel_rfl) (by kernel_rfl) (by kernel_rfl) (fun _ _ _ h => h) (Or.inl ⟨by rfl, ?_⟩) (by assumption) ?_
      · intro w hSw
        (try dsimp only at hSw)
        go_simp
      try simp only [Act.put, List.setIfInBounds_toArray, List.set_cons_zero, List.set_cons_succ]
      refine wpAnyH_take (i := 4) (oi := { dst := some 14, op := Op.load 25 (Operand.tmp 13), type := 25, pos := "book.go:100", after := #[{ on := 3, ground := Ground.data }], guard := none }) (v := .slice a n c) rfl (by kernel_rfl) (by kernel_rfl) (by kernel_rfl) (fun _ _ _ h => h) (Or.inl ⟨by rfl, ?_⟩) (by assumption) ?_
      · intro w hSw
        (try dsimp only at hSw)
        go_simp
      try simp only [Act.put, List.setIfInBounds_toArray, List.set_cons_zero, List.set_cons_succ]
      refine wpAnyH_take (i := 5) (oi := { dst := some 15, op := Op.move (Operand.tmp 0), type := 23, pos := "book.go:100", after := #[], guard := none }) (v := .slice (some ⟨g, 0, none⟩) N vc) rfl (by kernel_rfl) (by kernel_rfl) (by kernel_rfl) (fun _ _ _ h => h) (Or.inl ⟨by rfl, ?_⟩) (by assumption) ?_
      · intro w hSw
        (try dsimp only at hSw)
        go_simp
      try simp only [Act.put, List.setIfInBounds_toArray, List.set_cons_zero, List.set_cons_succ]
      refine wpAnyH_take (i := 6) (oi := { dst := some 16, op := Op.move (Operand.tmp 3), type := 3, pos := "book.go:100", after := #[], guard := none }) (v := .int .i64 (k : Int)) rfl (by kernel_rfl) (by kernel_rfl) (by kernel_rfl) (fun _ _ _ h => h) (Or.inl ⟨by rfl, ?_⟩) (by assumption) ?_
      · intro w hSw
        (try dsimp only at hSw)
        go_simp
      try simp only [Act.put, List.setIfInBounds_toArray, List.set_cons_zero, List.set_cons_succ]
      refine wpAnyH_take (i := 7) (oi := { dst := some 17, op := Op.indexAddr 23 (Operand.tmp 15) (Operand.tmp 16), type := 0, pos := "book.go:100", after := #[{ on := 5, ground := Ground.data }, { on := 6, ground := Ground.data }], guard := none }) (v := .pointer (some ⟨g, k * 2, none⟩)) rfl (by kernel_rfl) (by kernel_rfl) (by kernel_rfl) (fun _ _ _ h => h) (Or.inl ⟨by rfl, ?_⟩) (by assumption) ?_
      · intro w hSw
        (try dsimp only at hSw)
        go_simp
      try simp only [Act.put, List.setIfInBounds_toArray, List.set_cons_zero, List.set_cons_succ]
      refine wpAnyH_take (i := 8) (oi := { dst := some 18, op := Op.fieldAddr 39 (Operand.tmp 17) 1, type := 0, pos := "book.go:100", after := #[{ on := 7, ground := Ground.data }], guard := none }) (v := .pointer (some ⟨g, k * 2 + 1, none⟩)) rfl (by kernel_rfl) (by kernel_rfl) (by kernel_rfl) (fun _ _ _ h => h) (Or.inl ⟨by rfl, ?_⟩) (by assumption) ?_
      · intro w hSw
        (try dsimp only at hSw)
        go_simp
      try simp only [Act.put, List.setIfInBounds_toArray, List.set_cons_zero, List.set_cons_succ]
      refine wpAnyH_take (i := 9) (oi := { dst := some 19, op := Op.load 25 (Operand.tmp 18), type := 25, pos := "book.go:100", after := #[{ on := 8, ground := Ground.data }], guard := none }) (v := .slice b n d) rfl (by kernel_rfl) (by kernel_rfl) (by kernel_rfl) (fun _ _ _ h => h) (Or.inl ⟨by rfl, ?_⟩) (by assumption) ?_
      · intro w hSw
        (try dsimp only at hSw)
        go_simp
      try simp only [Act.put, List.setIfInBounds_toArray, List.set_cons_zero, List.set_cons_succ]
      refine wpAnyH_ready (rs := [10]) (by kernel_rfl) (by simp) ?_
      refine AllReadyH.cons (o := { dst := some 20, op := Op.call { callee := Callee.value (Operand.func 9), args := #[Operand.tmp 14, Operand.tmp 19], argTypes := #[25, 25] }, type := 4, pos := "book.go:100", after := #[{ on := 4, ground := Ground.data }, { on := 9, ground := Ground.data }], guard := none }) rfl (fun K hK => ?_) AllReadyH.nil
      go_simp
      refine hsm.mono ?_
      rintro e w5 ⟨rfl, hb5⟩
      have hb35 : Below wr.heap.size wr w5 := HDr.out.trans (hb5.mono (Nat.le_refl _))
      refine hK.out _ _ ?_ (fun hHeld => ?_)
      · exact HC.out _ hb35
      clear hK K
      try simp only [Act.put, List.setIfInBounds_toArray, List.set_cons_zero, List.set_cons_succ]
      refine wpAnyH_take (i := 11) (oi := { dst := some 21, op := Op.unOp UnOp.not 4 (Operand.tmp 20), type := 4, pos := "book.go:100", after := #[{ on := 10, ground := Ground.data }], guard := none }) (v := .bool false) rfl (by kernel_rfl) (by kernel_rfl) (by kernel_rfl) (fun _ _ _ h => h) (Or.inl ⟨by rfl, ?_⟩) (by assumption) ?_
      · intro w hSw
        (try dsimp only at hSw)
        go_simp
      try simp only [Act.put, List.setIfInBounds_toArray, List.set_cons_zero, List.set_cons_succ]
      refine wpAnyH_done (by kernel_rfl) ?_ _
      have HF := Hid.mk (HB.out.trans (hb35.mono HB.out.size))
      clear hHeld hb5 hb35 hsm HC HDr HB
      go_wp2
      go_roundw
      case rel => exact ⟨k + 1, by omega, by go_num, HF.out⟩
      case measure => simp [intOf]; omega
    · have hlt' : ¬ (k : Int) < (N : Int) := by omega
      go_wp2
      go_ret
      exact ⟨rfl, hb⟩
end Go.Proofs.Ytohgdjlgbnpobaa
end

section
namespace Go.Proofs.Ytohgdjlgbnpobaa
open Go.RowKit Go.Maps

theorem fill_one {s : Nat} (hs : 0 < s) (cells : Array Value) (v : Value) (hv : v.cells.size = s) (hc : cells.size = s) : Instr.fill (fun i => some (i * s, s)) cells [(0, v)] = some v.cells := by
  obtain ⟨r, h1, h2, h3⟩ := Great.fill_dense hs [v] 0 cells (by simpa using hv) (by simp [hc])
  have e : r = v.cells := by
    refine Array.ext_getElem? (fun k => ?_)
    rw [h3 k]
    by_cases hk : k < s
    · rw [if_pos (by simpa using hk), Nat.div_eq_of_lt hk, Nat.mod_eq_of_lt hk]
      simp
    · rw [if_neg (by simpa using hk), Array.getElem?_eq_none (by omega), Array.getElem?_eq_none (by omega)]
  subst e
  exact h1
/-- A slice of one struct is made. -/
theorem wpList_build1 {ops : Array Oper} {rest : List Oper} {o : Oper} {a : Act} {w : World} {Q : Exit → Act → World → Prop} (hg : o.guard = none) (t e : TypeId) (x : Operand) (ho : o.op = .buildSlice t 1 #[(0, x)]) (v : Value) (hv : a.eval x = v)
    (hu : Try.prog.underlying t = some (.slice e)) {ie : TypeInfo} {z : Value} {m : Nat} (hie : Try.prog.info? e = some ie) (hz : ie.zero = some z) (hs : ie.size = m) (h0 : 0 < m) (hm : m ≤ 1000) (hc : v.cells.size = m)
    (h : wpList Try.prog ops Q rest (a.put o.dst (.slice (some ⟨w.heap.size, 0, none⟩) 1 1)) (w.alloc (.cells v.cells e))) : wpList Try.prog ops Q (o :: rest) a w := by
  refine wpList_buildSlice hg t e 1 #[(0, x)] ho v.cells ie z hu hie hz (by rw [hs]; omega) (by rw [hs]; omega) ?_ h
  rw [hs]
  simp only [List.map_toArray, List.map_cons, List.map_nil, hv]
  exact fill_one h0 _ v hc (by simp)

end Go.Proofs.Ytohgdjlgbnpobaa
end

section
namespace Go.Proofs.Ytohgdjlgbnpobaa
open Go.RowKit Go.Maps

/-- The owner of the book's j-th list; of what is appended to the j-th answer. -/
abbrev yB (j : Nat) : Nat := 40 + 4 * j
abbrev yM (j : Nat) : Nat := 42 + 4 * j
theorem yB_ge (j : Nat) : 40 ≤ yB j := Nat.le_add_right _ _
theorem yB_ne {i j : Nat} (h : i ≠ j) : yB i ≠ yB j := by show 40 + 4 * i ≠ 40 + 4 * j; omega
theorem yBK (i j : Nat) : yB i ≠ yK j := by show 40 + 4 * i ≠ 41 + 2 * j; omega
theorem yMK (i j : Nat) : yM i ≠ yK j := by show 42 + 4 * i ≠ 41 + 2 * j; omega
theorem yMB (i j : Nat) : yM i ≠ yB j := by show 42 + 4 * i ≠ 40 + 4 * j; omega
theorem yM_ne {i j : Nat} (h : i ≠ j) : yM i ≠ yM j := by show 42 + 4 * i ≠ 42 + 4 * j; omega
theorem yM_ge (j : Nat) : 42 ≤ yM j := Nat.le_add_right _ _

/-- A list that a call made is nobody's. -/
theorem Own.sl0 {w w' : World} {B : Nat} {v : Value} {l : List Int} (h : Own w' B v l) {lab : Nat → Nat} (hz : LZ lab w) (hB : w.heap.size ≤ B) : ∃ a c, v = .slice a l.length c ∧ SL w' lab 0 a l.length l ∧ l.length ≤ c := by
  obtain ⟨a, c, rfl, hs, hc, hx⟩ := h.src
  exact ⟨a, c, rfl, ⟨hs, fun z hz' _ => hz _ (by have := (hx z hz').1; omega)⟩, hc⟩

/-- What kept adds. -/
def keptL (m n : Nat) : List (List Int) := [rw' m n, rw' m n ++ rw' (m + 1) 1, rw' m n ++ rw' (m + 2) 70, rw' m n ++ rw' (m + 3) 1100]
/-- The owners that kept writes to. -/
def kX (j : Nat) (y : Nat) : Prop := y = 30 ∨ y = yB j ∨ y = yB (j + 1) ∨ y = yB (j + 2) ∨ y = yB (j + 3)
theorem kX_ge {j y : Nat} (h : kX j y) : 30 ≤ y := by
  rcases h with h | h | h | h | h <;> (rw [h]; first | exact Nat.le_refl _ | exact Nat.le_trans (by omega) (yB_ge _))

set_option maxRecDepth 20000 in
set_option maxHeartbeats 16000000 in
/-- The list is marked and appended to; all of it is kept. -/
theorem kept_any {w : World} {lab : Nat → Nat} {vb u : Value} {ls : List (List Int)} {d : List Int} (hb : BK w lab 30 yB vb ls) (hl : TL w lab (yB ls.length) u d) (hz : LZ lab w) (m : Nat) (hm : m ≤ 100000000) (hd : d.length ≤ 1000) (hn : ls.length ≤ 100000000) :
    Calls Try.prog 11 #[vb, u, .int .i64 (m : Int)] w fun e w' => ∃ v' lab', e = .returned v' ∧ Gro lab lab' w w' (kX ls.length) ∧ BK w' lab' 30 yB v' (ls ++ keptL m d.length) := by
  obtain ⟨i0, hi, hz0, hz1, hz2⟩ := info_parts infoH
  obtain ⟨ba, bc, rfl⟩ := hb.form
  obtain ⟨ua, hu, _⟩ := hl.sl
  subst hu
  obtain ⟨J, hJ⟩ : ∃ J, J = ls.length := ⟨_, rfl⟩
  obtain ⟨n, hnn⟩ : ∃ n, n = d.length := ⟨_, rfl⟩
  have k0 : ¬ kX J 0 := fun h => by have := kX_ge h; omega
  have x0 : kX J 30 := .inl rfl
  have x1 : kX J (yB J) := .inr (.inl rfl)
  have x2 : kX J (yB (J + 1)) := .inr (.inr (.inl rfl))
  have x3 : kX J (yB (J + 2)) := .inr (.inr (.inr (.inl rfl)))
  have x4 : kX J (yB (J + 3)) := .inr (.inr (.inr (.inr rfl)))
  have y30 : ∀ i, (30 : Nat) ≠ yB i := fun i e => by have := yB_ge i; omega
  have y00 : ∀ i, yB i ≠ 0 := fun i e => by have := yB_ge i; omega
  have hf := fill_any hl hz m (by omega) (by omega)
  have HL : Hid (n = d.length ∧ J = ls.length) := ⟨hnn, hJ⟩
  rw [← hnn] at hf hd ⊢
  rw [← hJ] at hl hn hf ⊢
  have H := Hid.mk (And.intro hb (And.intro hl hz))
  clear hb hl hz hJ hnn
  go_enter Try.func11, Try.ntmps11
  go_wp2_with fail
  refine hf.mono ?_
  rintro e w1 ⟨rfl, T1, G1⟩
  obtain ⟨hb, hl, hz⟩ := H.out
  have B1 := hb.gro G1 (y30 J) (fun i hi' e => yB_ne (by have := HL.out.2; omega) e) (fun e => y00 J e.symm)
  have GG1 : Gro lab lab w w1 (kX J) := G1.mono (fun y e => by rw [e]; exact x1)
  have H1 := Hid.mk (And.intro B1 (And.intro T1 GG1))
  have hr1 := row_any (m + 1) 1 (by omega) (by omega) w1
  have em1 : ((m + 1 : Nat) : Int) = (m : Int) + 1 := by omega
  rw [em1] at hr1
  clear hf hb hl hz B1 T1 G1 GG1 em1 H
  go_wp2_with fail
  refine hr1.mono ?_
  rintro e w2 ⟨rv0, rfl, hO, hbl⟩
  obtain ⟨hB, hT, hG⟩ := H1.out
  have hZ : LZ lab w1 := hG.lz
  obtain ⟨ra0, rc0, hrv, hsl, _⟩ := hO.sl0 hZ (Nat.le_refl _)
  subst hrv
  have GB := Gro.below hG.lz hbl (fun _ => False)
  have hg1 := grow_any (y' := yB (J + 1)) (hT.gro GB (fun h => h)) GB.lz ra0 rc0 hsl (by rw [rw_len]; omega) (by rw [rw_len]; omega) (by rw [rw_len]; omega) (yB_ne (by omega)) (y00 _)
  rw [rw_len, rw_len] at hg1
  have H2 := Hid.mk (And.intro (hB.later hG.lz hbl) (And.intro (hT.gro GB (fun h => h)) (hG.join GB (Z := kX J) (fun _ h => h) (fun _ h => h.elim))))
  clear hB hT hG hZ hsl GB hO hbl hr1 H1
  rw [rw_len]
  go_wp2_with fail
  refine hg1.mono ?_
  rintro e w3 ⟨g1, c1, L1, rfl, G, hO0⟩
  obtain ⟨hB, hT, hG⟩ := H2.out
  have H3 := Hid.mk (And.intro (hB.gro G (y30 _) (fun i hi' e => yB_ne (by have := HL.out.2; omega) e) (fun e => y00 _ e.symm)) (And.intro (hT.gro G (fun e => yB_ne (by omega) e)) (And.intro hO0 (hG.join G (Z := kX J) (fun _ h => h) (fun y e => by rw [e]; exact x2)))))
  clear hB hT hG G hO0 hg1 H2
  have hr2 := row_any (m + 2) 70 (by omega) (by omega) w3
  have em : ((m + 2 : Nat) : Int) = (m : Int) + 2 := by omega
  rw [em] at hr2
  clear em
  go_wp2_with fail
  refine hr2.mono ?_
  rintro e w4 ⟨rv1, rfl, hO, hbl⟩
  obtain ⟨hB, hT, hO0, hG⟩ := H3.out
  have hZ : LZ L1 w3 := hG.lz
  obtain ⟨ra1, rc1, hrv, hsl, _⟩ := hO.sl0 hZ (Nat.le_refl _)
  subst hrv
  have GB := Gro.below hG.lz hbl (fun _ => False)
  have hg2 := grow_any (y' := yB (J + 2)) (hT.gro GB (fun h => h)) GB.lz ra1 rc1 hsl (by rw [rw_len]; omega) (by rw [rw_len]; omega) (by rw [rw_len]; omega) (yB_ne (by omega)) (y00 _)
  rw [rw_len, rw_len] at hg2
  have H4 := Hid.mk (And.intro (hB.later hG.lz hbl) (And.intro (hT.gro GB (fun h => h)) (And.intro (hO0.gro GB (fun h => h)) (hG.join GB (Z := kX J) (fun _ h => h) (fun _ h => h.elim)))))
  clear hB hT hO0 hG hZ hsl GB hO hbl hr2 H3
  rw [rw_len]
  go_wp2_with fail
  refine hg2.mono ?_
  rintro e w5 ⟨g2, c2, L2, rfl, G, hO1⟩
  obtain ⟨hB, hT, hP0, hG⟩ := H4.out
  have H5 := Hid.mk (And.intro (hB.gro G (y30 _) (fun i hi' e => yB_ne (by have := HL.out.2; omega) e) (fun e => y00 _ e.symm)) (And.intro (hT.gro G (fun e => yB_ne (by omega) e)) (And.intro (hP0.gro G (fun e => yB_ne (by omega) e)) (And.intro hO1 (hG.join G (Z := kX J) (fun _ h => h) (fun y e => by rw [e]; exact x3))))))
  clear hB hT hP0 hG G hO1 hg2 H4
  have hr3 := row_any (m + 3) 1100 (by omega) (by omega) w5
  have em : ((m + 3 : Nat) : Int) = (m : Int) + 3 := by omega
  rw [em] at hr3
  clear em
  go_wp2_with fail
  refine hr3.mono ?_
  rintro e w6 ⟨rv2, rfl, hO, hbl⟩
  obtain ⟨hB, hT, hO0, hO1, hG⟩ := H5.out
  have hZ : LZ L2 w5 := hG.lz
  obtain ⟨ra2, rc2, hrv, hsl, _⟩ := hO.sl0 hZ (Nat.le_refl _)
  subst hrv
  have GB := Gro.below hG.lz hbl (fun _ => False)
  have hg3 := grow_any (y' := yB (J + 3)) (hT.gro GB (fun h => h)) GB.lz ra2 rc2 hsl (by rw [rw_len]; omega) (by rw [rw_len]; omega) (by rw [rw_len]; omega) (yB_ne (by omega)) (y00 _)
  rw [rw_len, rw_len] at hg3
  have H6 := Hid.mk (And.intro (hB.later hG.lz hbl) (And.intro (hT.gro GB (fun h => h)) (And.intro (hO0.gro GB (fun h => h)) (And.intro (hO1.gro GB (fun h => h)) (hG.join GB (Z := kX J) (fun _ h => h) (fun _ h => h.elim))))))
  clear hB hT hO0 hO1 hG hZ hsl GB hO hbl hr3 H5
  rw [rw_len]
  go_wp2_with fail
  refine hg3.mono ?_
  rintro e w7 ⟨g3, c3, L3, rfl, G, hO2⟩
  obtain ⟨hB, hT, hP0, hP1, hG⟩ := H6.out
  have H7 := Hid.mk (And.intro (hB.gro G (y30 _) (fun i hi' e => yB_ne (by have := HL.out.2; omega) e) (fun e => y00 _ e.symm)) (And.intro (hT.gro G (fun e => yB_ne (by omega) e)) (And.intro (hP0.gro G (fun e => yB_ne (by omega) e)) (And.intro (hP1.gro G (fun e => yB_ne (by omega) e)) (And.intro hO2 (hG.join G (Z := kX J) (fun _ h => h) (fun y e => by rw [e]; exact x4)))))))
  clear hB hT hP0 hP1 hG G hO2 hg3 H6
  obtain ⟨hB, hT, hO0, hO1, hO2, hG⟩ := H7.out
  obtain ⟨a0, e0, s0⟩ := hT.sl
  obtain ⟨a1, d1, e1, s1, _⟩ := hO0.src
  obtain ⟨a2, d2, e2, s2, _⟩ := hO1.src
  obtain ⟨a3, d3, e3, s3, _⟩ := hO2.src
  have q0 : ua = a0 := by injection e0
  have q1 : a1 = some ⟨g1, 0, none⟩ := by injection e1 with q; exact q.symm
  have q2 : a2 = some ⟨g2, 0, none⟩ := by injection e2 with q; exact q.symm
  have q3 : a3 = some ⟨g3, 0, none⟩ := by injection e3 with q; exact q.symm
  subst q0
  subst q1
  subst q2
  subst q3
  rw [rw_len] at s0
  have H8 := Hid.mk (And.intro hB (And.intro s0 (And.intro s1 (And.intro s2 (And.intro s3 hG)))))
  clear hB hT hO0 hO1 hO2 hG e0 e1 e2 e3 H7 s0 s1 s2 s3
  have HJ : Hid (J = ls.length) := HL.out.2
  obtain ⟨hB, s0, s1, s2, s3, hG⟩ := H8.out
  have ht0 := ltwin_any ua n n (rw' m n) w7 (by omega) s0.1
  clear hB s0 s1 s2 s3 hG
  go_wp2_with fail
  refine ht0.mono ?_
  rintro e v0 ⟨tv, rfl, hO, hbl⟩
  obtain ⟨hB, s0, s1, s2, s3, hG⟩ := H8.out
  have GB := Gro.below hG.lz hbl (fun _ => False)
  obtain ⟨ta0, tc0, htv, hsl, _⟩ := hO.sl0 hG.lz (Nat.le_refl _)
  subst htv
  have hdl : (rw' m n).length = n := by simp [rw_len]
  rw [hdl] at hsl
  rw [hdl]
  have hlen : ls.length = J := HJ.out.symm
  obtain ⟨b0, p0, z0, r, M0, G, hB2⟩ := (hB.later hG.lz hbl).push GB.lz y30 (by omega) (a := ua) (b := ta0) (c := n) (d := tc0) (l := (rw' m n)) (by rw [hlen, hdl]; exact s0.gro GB (fun h => h)) (by rw [hdl]; exact hsl) (by rw [hlen]; omega)
  rw [hlen, hdl] at r
  rw [hlen] at hB2
  have HA := Hid.mk r
  have H9 := Hid.mk (And.intro (show BK z0 M0 30 yB (.slice (some ⟨b0, 0, none⟩) (J + 1) p0) (ls ++ [(rw' m n)]) by simpa using hB2) (And.intro ((s0.gro GB (fun h => h)).gro G (fun e => y30 _ e.symm)) (And.intro ((s1.gro GB (fun h => h)).gro G (fun e => y30 _ e.symm)) (And.intro ((s2.gro GB (fun h => h)).gro G (fun e => y30 _ e.symm)) (And.intro ((s3.gro GB (fun h => h)).gro G (fun e => y30 _ e.symm)) ((hG.join GB (Z := kX J) (fun _ h => h) (fun _ h => h.elim)).join G (Z := kX J) (fun _ h => h) (fun y e => by rw [e]; exact x0)))))))
  clear hB s0 s1 s2 s3 hG GB hsl hdl hlen r G hB2 ht0 hO hbl H8
  go_wp2_with (first | refine wpList_build1 rfl 23 39 _ rfl (.agg #[.slice ua n n, .slice ta0 n tc0]) rfl Try.underlying23 hi hz0 hz1 (by decide) (by decide) rfl ?_ | (at_builtin; refine swList_append_run rfl _ _ 23 rfl (.slice ba J bc) (.slice (some ⟨v0.heap.size, 0, none⟩) 1 1) _ rfl rfl HA.out ?_))
  clear HA
  obtain ⟨hB, s0, s1, s2, s3, hG⟩ := H9.out
  have ht1 := ltwin_any (some ⟨g1, 0, none⟩) (n + 1) c1 (rw' m n ++ rw' (m + 1) 1) z0 (by omega) s1.1
  clear hB s0 s1 s2 s3 hG
  go_wp2_with fail
  refine ht1.mono ?_
  rintro e v1 ⟨tv, rfl, hO, hbl⟩
  obtain ⟨hB, s0, s1, s2, s3, hG⟩ := H9.out
  have GB := Gro.below hG.lz hbl (fun _ => False)
  obtain ⟨ta1, tc1, htv, hsl, _⟩ := hO.sl0 hG.lz (Nat.le_refl _)
  subst htv
  have hdl : (rw' m n ++ rw' (m + 1) 1).length = (n + 1) := by simp [rw_len]
  rw [hdl] at hsl
  rw [hdl]
  have hlen : (ls ++ [(rw' m n)]).length = (J + 1) := by have := HJ.out; simp; omega
  obtain ⟨b1, p1, z1, r, M1, G, hB2⟩ := (hB.later hG.lz hbl).push GB.lz y30 (by omega) (a := (some ⟨g1, 0, none⟩)) (b := ta1) (c := c1) (d := tc1) (l := (rw' m n ++ rw' (m + 1) 1)) (by rw [hlen, hdl]; exact s1.gro GB (fun h => h)) (by rw [hdl]; exact hsl) (by rw [hlen]; omega)
  rw [hlen, hdl] at r
  rw [hlen] at hB2
  have HA := Hid.mk r
  have H10 := Hid.mk (And.intro (show BK z1 M1 30 yB (.slice (some ⟨b1, 0, none⟩) (J + 2) p1) (ls ++ [(rw' m n), (rw' m n ++ rw' (m + 1) 1)]) by simpa using hB2) (And.intro ((s0.gro GB (fun h => h)).gro G (fun e => y30 _ e.symm)) (And.intro ((s1.gro GB (fun h => h)).gro G (fun e => y30 _ e.symm)) (And.intro ((s2.gro GB (fun h => h)).gro G (fun e => y30 _ e.symm)) (And.intro ((s3.gro GB (fun h => h)).gro G (fun e => y30 _ e.symm)) ((hG.join GB (Z := kX J) (fun _ h => h) (fun _ h => h.elim)).join G (Z := kX J) (fun _ h => h) (fun y e => by rw [e]; exact x0)))))))
  clear hB s0 s1 s2 s3 hG GB hsl hdl hlen r G hB2 ht1 hO hbl H9
  go_wp2_with (first | refine wpList_build1 rfl 23 39 _ rfl (.agg #[.slice (some ⟨g1, 0, none⟩) (n + 1) c1, .slice ta1 (n + 1) tc1]) rfl Try.underlying23 hi hz0 hz1 (by decide) (by decide) rfl ?_ | (at_builtin; refine swList_append_run rfl _ _ 23 rfl (.slice (some ⟨b0, 0, none⟩) (J + 1) p0) (.slice (some ⟨v1.heap.size, 0, none⟩) 1 1) _ rfl rfl HA.out ?_))
  clear HA
  obtain ⟨hB, s0, s1, s2, s3, hG⟩ := H10.out
  have ht2 := ltwin_any (some ⟨g2, 0, none⟩) (n + 70) c2 (rw' m n ++ rw' (m + 2) 70) z1 (by omega) s2.1
  clear hB s0 s1 s2 s3 hG
  go_wp2_with fail
  refine ht2.mono ?_
  rintro e v2 ⟨tv, rfl, hO, hbl⟩
  obtain ⟨hB, s0, s1, s2, s3, hG⟩ := H10.out
  have GB := Gro.below hG.lz hbl (fun _ => False)
  obtain ⟨ta2, tc2, htv, hsl, _⟩ := hO.sl0 hG.lz (Nat.le_refl _)
  subst htv
  have hdl : (rw' m n ++ rw' (m + 2) 70).length = (n + 70) := by simp [rw_len]
  rw [hdl] at hsl
  rw [hdl]
  have hlen : (ls ++ [(rw' m n), (rw' m n ++ rw' (m + 1) 1)]).length = (J + 2) := by have := HJ.out; simp; omega
  obtain ⟨b2, p2, z2, r, M2, G, hB2⟩ := (hB.later hG.lz hbl).push GB.lz y30 (by omega) (a := (some ⟨g2, 0, none⟩)) (b := ta2) (c := c2) (d := tc2) (l := (rw' m n ++ rw' (m + 2) 70)) (by rw [hlen, hdl]; exact s2.gro GB (fun h => h)) (by rw [hdl]; exact hsl) (by rw [hlen]; omega)
  rw [hlen, hdl] at r
  rw [hlen] at hB2
  have HA := Hid.mk r
  have H11 := Hid.mk (And.intro (show BK z2 M2 30 yB (.slice (some ⟨b2, 0, none⟩) (J + 3) p2) (ls ++ [(rw' m n), (rw' m n ++ rw' (m + 1) 1), (rw' m n ++ rw' (m + 2) 70)]) by simpa using hB2) (And.intro ((s0.gro GB (fun h => h)).gro G (fun e => y30 _ e.symm)) (And.intro ((s1.gro GB (fun h => h)).gro G (fun e => y30 _ e.symm)) (And.intro ((s2.gro GB (fun h => h)).gro G (fun e => y30 _ e.symm)) (And.intro ((s3.gro GB (fun h => h)).gro G (fun e => y30 _ e.symm)) ((hG.join GB (Z := kX J) (fun _ h => h) (fun _ h => h.elim)).join G (Z := kX J) (fun _ h => h) (fun y e => by rw [e]; exact x0)))))))
  clear hB s0 s1 s2 s3 hG GB hsl hdl hlen r G hB2 ht2 hO hbl H10
  go_wp2_with (first | refine wpList_build1 rfl 23 39 _ rfl (.agg #[.slice (some ⟨g2, 0, none⟩) (n + 70) c2, .slice ta2 (n + 70) tc2]) rfl Try.underlying23 hi hz0 hz1 (by decide) (by decide) rfl ?_ | (at_builtin; refine swList_append_run rfl _ _ 23 rfl (.slice (some ⟨b1, 0, none⟩) (J + 2) p1) (.slice (some ⟨v2.heap.size, 0, none⟩) 1 1) _ rfl rfl HA.out ?_))
  clear HA
  obtain ⟨hB, s0, s1, s2, s3, hG⟩ := H11.out
  have ht3 := ltwin_any (some ⟨g3, 0, none⟩) (n + 1100) c3 (rw' m n ++ rw' (m + 3) 1100) z2 (by omega) s3.1
  clear hB s0 s1 s2 s3 hG
  go_wp2_with fail
  refine ht3.mono ?_
  rintro e v3 ⟨tv, rfl, hO, hbl⟩
  obtain ⟨hB, s0, s1, s2, s3, hG⟩ := H11.out
  have GB := Gro.below hG.lz hbl (fun _ => False)
  obtain ⟨ta3, tc3, htv, hsl, _⟩ := hO.sl0 hG.lz (Nat.le_refl _)
  subst htv
  have hdl : (rw' m n ++ rw' (m + 3) 1100).length = (n + 1100) := by simp [rw_len]
  rw [hdl] at hsl
  rw [hdl]
  have hlen : (ls ++ [(rw' m n), (rw' m n ++ rw' (m + 1) 1), (rw' m n ++ rw' (m + 2) 70)]).length = (J + 3) := by have := HJ.out; simp; omega
  obtain ⟨b3, p3, z3, r, M3, G, hB2⟩ := (hB.later hG.lz hbl).push GB.lz y30 (by omega) (a := (some ⟨g3, 0, none⟩)) (b := ta3) (c := c3) (d := tc3) (l := (rw' m n ++ rw' (m + 3) 1100)) (by rw [hlen, hdl]; exact s3.gro GB (fun h => h)) (by rw [hdl]; exact hsl) (by rw [hlen]; omega)
  rw [hlen, hdl] at r
  rw [hlen] at hB2
  have HA := Hid.mk r
  have H12 := Hid.mk (And.intro (show BK z3 M3 30 yB (.slice (some ⟨b3, 0, none⟩) (J + 4) p3) (ls ++ [(rw' m n), (rw' m n ++ rw' (m + 1) 1), (rw' m n ++ rw' (m + 2) 70), (rw' m n ++ rw' (m + 3) 1100)]) by simpa using hB2) (And.intro ((s0.gro GB (fun h => h)).gro G (fun e => y30 _ e.symm)) (And.intro ((s1.gro GB (fun h => h)).gro G (fun e => y30 _ e.symm)) (And.intro ((s2.gro GB (fun h => h)).gro G (fun e => y30 _ e.symm)) (And.intro ((s3.gro GB (fun h => h)).gro G (fun e => y30 _ e.symm)) ((hG.join GB (Z := kX J) (fun _ h => h) (fun _ h => h.elim)).join G (Z := kX J) (fun _ h => h) (fun y e => by rw [e]; exact x0)))))))
  clear hB s0 s1 s2 s3 hG GB hsl hdl hlen r G hB2 ht3 hO hbl H11
  go_wp2_with (first | refine wpList_build1 rfl 23 39 _ rfl (.agg #[.slice (some ⟨g3, 0, none⟩) (n + 1100) c3, .slice ta3 (n + 1100) tc3]) rfl Try.underlying23 hi hz0 hz1 (by decide) (by decide) rfl ?_ | (at_builtin; refine swList_append_run rfl _ _ 23 rfl (.slice (some ⟨b2, 0, none⟩) (J + 3) p2) (.slice (some ⟨v3.heap.size, 0, none⟩) 1 1) _ rfl rfl HA.out ?_))
  clear HA
  obtain ⟨hB, _, _, _, _, hG⟩ := H12.out
  go_ret
  exact ⟨_, M3, rfl, hG, hB⟩
end Go.Proofs.Ytohgdjlgbnpobaa
end
