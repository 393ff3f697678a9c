import Derived.Test.YtokcgifpljeoiaaGreatV01
import Derived.Test.YtokcgifpljeoiaaGreatV03
import Derived.Test.YtokcgifpljeoiaaGreatV04
import Derived.RegionTactic
section
namespace Go.Proofs.YtokcgifpljeoiaaGreat
open Go.RowKit

theorem results_cell_tmp {P : Program} {fn : Func} {p q : Tmp} {ty : TypeId} (h : fn.results = #[.cell p ty, .tmp q]) (tmps : Array Value) (w : World) (g : Nat) (cs : List Value) (d : TypeDesc) (v : Value)
    (hp : tmps.getD p undef = .pointer (some ⟨g, 0, none⟩)) (hq : tmps.getD q undef = v) (hg : w.rangeAt g 0 cs) (hu : P.underlying ty = some d) (hd : d.isRow = true) (hi : (P.info? ty).map (·.size) = some cs.length) :
    (results fn tmps).run P w = .ok (.tuple #[.agg cs.toArray, v]) w := by
  have hp' : tmps[p]?.getD undef = .pointer (some ⟨g, 0, none⟩) := by simpa using hp
  have hq' : tmps[q]?.getD undef = v := by simpa using hq
  simp [results, h, hp', hq', asAddr, run_loadVar_mid w g 0 ty cs d hg hu hd hi]
theorem src_range {w : World} {b o n : Nat} {l : List Int} (h : Src w (some ⟨b, o, none⟩) n l) : w.rangeAt b o (bs l) := by
  intro j v hv
  obtain ⟨hj, rfl⟩ := bs_getElem hv
  have := h.2.2 _ rfl j (by have := h.1; omega)
  rwa [addr_add] at this

theorem arraySec (a : Option Addr) (c : Nat) (w : World) : (Instr.arrayAt 200 (.slice a 512 c)).run Tryz.prog w = .ok (.pointer a) w := by
  simp [Instr.arrayAt, run_underlying Tryz.underlying200]
theorem zsec_one : ∀ v ∈ zsec.toList, v.oneCell' = true := bs_one (zs 512)
theorem infoSecZ : (Tryz.prog.info? 200).map (·.size) = some zsec.toList.length := infoSecL (l := zs 512) (zs_len 512)

set_option maxRecDepth 20000 in
set_option maxHeartbeats 4000000 in
theorem sectorOf_no (a : Option Addr) (n c : Nat) (w : World) (hn : n ≠ 512) :
    Calls Tryz.prog 176 #[.slice a n c] w fun e w' => e = .returned (.tuple #[.agg zsec, .bool false]) ∧ Below w.heap.size w w' := by
  have hz := zeroSec
  have h1 : (((n : Int)) != 512) = true := by rw [bne_iff_ne]; omega
  have hinfo := infoSecZ
  have hone := zsec_one
  generalize zsec = Z at *
  have hw1 : (w.alloc (.cells Z 200)).heap[w.heap.size]? = some (.cells Z 200 (0, 0)) := heap_alloc_new _ _
  have hth : (w.alloc (.cells Z 200)).there w.heap.size 0 Z.toList.length := there_of hw1 (by simp)
  have hall : Z.all Value.oneCell' = true := all_oneCell_toArray hone
  have hB1 : Below w.heap.size w (w.alloc (.cells Z 200)) := (Below.refl _ w).alloc (Nat.le_refl _) _
  go_enter Tryz.func176, Tryz.ntmps176
  go_wp2_with (refine wpList_store_mid rfl 200 _ _ rfl w.heap.size 0 Z rfl rfl ?h1 ?h2 hall ?_)
  case h1 => simpa using hth
  case h2 => simpa using hinfo
  exact bodyPost_ret (results_cell_tmp (P := Tryz.prog) rfl _ _ w.heap.size Z.toList _ _ rfl rfl (World.rangeAt_setCells_same _ w.heap.size 0 Z.toList hth) Tryz.underlying200 rfl hinfo) rfl ⟨rfl, (hB1.trans ((Keeps.setCells (F := fun j => j = w.heap.size) rfl Z.toList 0 _).below (fun j hj => by omega) hB1.size))⟩

set_option maxRecDepth 20000 in
set_option maxHeartbeats 4000000 in
theorem sectorOf_ok (b o c : Nat) (l : List Int) (w : World) (hs : Src w (some ⟨b, o, none⟩) 512 l) :
    Calls Tryz.prog 176 #[.slice (some ⟨b, o, none⟩) 512 c] w fun e w' => e = .returned (.tuple #[.agg (bs l).toArray, .bool true]) ∧ Below w.heap.size w w' := by
  have hz := zeroSec
  have harr := arraySec (some ⟨b, o, none⟩) c
  have hB1 : Below w.heap.size w (w.alloc (.cells zsec 200)) := (Below.refl _ w).alloc (Nat.le_refl _) _
  have hra := src_range (hs.later hB1)
  have hinfo := infoSecL (l := l) hs.1
  have hone := bs_one l
  have hw1 : (w.alloc (.cells zsec 200)).heap[w.heap.size]? = some (.cells zsec 200 (0, 0)) := heap_alloc_new _ _
  have hth := there_of hw1 zsec_size
  have hll : (bs l).length = 512 := by rw [bs, List.length_map, hs.1]
  generalize bs l = F at *
  rw [← hll] at hth
  have hrs := (World.rangeAt_setCells_same _ w.heap.size 0 F hth)
  have hall := all_oneCell_toArray hone
  have hB6 := (hB1.trans ((Keeps.setCells (F := fun j => j = w.heap.size) rfl F 0 _).below (fun j hj => by omega) hB1.size))
  go_enter Tryz.func176, Tryz.ntmps176
  go_wp2_with (first | refine wpList_load_mid rfl 200 _ rfl b o rfl F _ hra Tryz.underlying200 rfl hinfo ?_ | refine wpList_store_mid rfl 200 _ _ rfl w.heap.size 0 F.toArray rfl rfl ?h1 ?h2 hall ?_)
  case h1 => simpa using hth
  case h2 => simpa using hinfo
  exact bodyPost_ret (results_cell_tmp (P := Tryz.prog) rfl _ _ w.heap.size F _ _ rfl rfl hrs Tryz.underlying200 rfl hinfo) rfl ⟨rfl, hB6⟩
end Go.Proofs.YtokcgifpljeoiaaGreat
end

section
namespace Go.Proofs.YtokcgifpljeoiaaGreat
open Go.RowKit

/-- v is a slice that reads as l; its memory, if any, lies at B or above. -/
def Lst (w : World) (B : Nat) (v : Value) (l : List Int) : Prop := ∃ a c, v = .slice a l.length c ∧ Src w a l.length l ∧ l.length ≤ c ∧ ∀ x, a = some x → B ≤ x.block
theorem Lst.nil (w : World) (B : Nat) : Lst w B (.slice none 0 0) [] := ⟨none, 0, rfl, ⟨rfl, fun _ => rfl, fun x hx => by cases hx⟩, Nat.le_refl _, fun x hx => by cases hx⟩
theorem Lst.later {w w' : World} {B : Nat} {v : Value} {l : List Int} (h : Lst w B v l) (hb : Below w.heap.size w w') : Lst w' B v l := by
  obtain ⟨a, c, rfl, hs, hc, hx⟩ := h
  exact ⟨a, c, rfl, hs.later hb, hc, hx⟩
theorem Blk.lst {w : World} {T : TypeId} {g B : Nat} {l : List Int} (h : Blk w T g l) (hg : B ≤ g) : Lst w B (.slice (some ⟨g, 0, none⟩) l.length l.length) l := by
  refine ⟨some ⟨g, 0, none⟩, l.length, rfl, ?_, Nat.le_refl _, fun x hx => by cases hx; exact hg⟩
  have := h.src (o := 0) (n := l.length) (by omega)
  simpa using this

theorem heap_setCells_full {w : World} {T : TypeId} {g : Nat} : ∀ (vs pre : List Value) (cur : Array Value), w.heap[g]? = some (.cells cur T (0, 0)) → (∃ post, cur.toList = pre ++ post ∧ post.length = vs.length) →
    (w.setCells g pre.length vs).heap[g]? = some (.cells (pre ++ vs).toArray T (0, 0)) := by
  intro vs
  induction vs generalizing w with
  | nil =>
    intro pre cur hg ⟨post, he, hl⟩
    have : post = [] := List.eq_nil_of_length_eq_zero hl
    subst this
    simp only [List.append_nil] at he ⊢
    show w.heap[g]? = _
    rw [hg, ← he]
  | cons v r ih =>
    intro pre cur hg ⟨post, he, hl⟩
    cases post with
    | nil => simp at hl
    | cons u post =>
      have e : (cur.setIfInBounds pre.length v).toList = (pre ++ [v]) ++ post := by
        rw [Array.toList_setIfInBounds, he, List.set_append_right _ _ (Nat.le_refl _), Nat.sub_self]
        simp
      have := ih (w := w.setCell ⟨g, pre.length, none⟩ v) (pre ++ [v]) _ (heap_setCell_same w g pre.length cur T v hg) ⟨post, e, by simpa using hl⟩
      simp only [World.setCells]
      simpa using this
theorem blk_stored {w : World} {T : TypeId} {g : Nat} {cur : Array Value} {l : List Int} (hg : w.heap[g]? = some (.cells cur T (0, 0))) (hl : cur.size = l.length) : Blk (w.setCells g 0 (bs l)) T g l :=
  heap_setCells_full (bs l) [] cur hg ⟨cur.toList, rfl, by simp [bs, hl]⟩
end Go.Proofs.YtokcgifpljeoiaaGreat
end

section
namespace Go.Proofs.YtokcgifpljeoiaaGreat
open Go.RowKit

end Go.Proofs.YtokcgifpljeoiaaGreat
end

section
namespace Go.Proofs.YtokcgifpljeoiaaGreat
open Go.RowKit

end Go.Proofs.YtokcgifpljeoiaaGreat
end

section
namespace Go.Proofs.YtokcgifpljeoiaaGreat
open Go.RowKit Go.Maps

end Go.Proofs.YtokcgifpljeoiaaGreat
end

section
namespace Go.Proofs.YtokcgifpljeoiaaGreat
open Go.RowKit Go.Maps

theorem infoConL {l : List Int} (h : l.length = 512) : (Tryz.prog.info? 118).map (·.size) = some (bs l).length := by
  obtain ⟨i, hi, he⟩ := Option.map_eq_some_iff.1 infoCon
  simp only [Prod.mk.injEq] at he
  rw [hi, bs, List.length_map, h, ← he.2]; rfl
/-- A content in a box of its own. -/
theorem con_stored (w : World) {c : List Int} (hc : c.length = 512) : Blk ((w.alloc (.cells zsec 118)).setCells w.heap.size 0 (bs c)) 118 w.heap.size c ∧ Below w.heap.size w ((w.alloc (.cells zsec 118)).setCells w.heap.size 0 (bs c)) ∧ (w.alloc (.cells zsec 118)).there w.heap.size 0 (bs c).length := by
  have hw1 : (w.alloc (.cells zsec 118)).heap[w.heap.size]? = some (.cells zsec 118 (0, 0)) := heap_alloc_new _ _
  have hB1 : Below w.heap.size w (w.alloc (.cells zsec 118)) := (Below.refl _ w).alloc (Nat.le_refl _) _
  refine ⟨blk_stored (l := c) hw1 (by rw [zsec_size, hc]), hB1.trans ((Keeps.setCells (F := fun j => j = w.heap.size) rfl (bs c) 0 _).below (fun j hj => by omega) hB1.size), ?_⟩
  rw [bs, List.length_map, hc]
  exact (there_of hw1 zsec_size)
theorem Blk.news {w : World} {T : TypeId} {g : Nat} {l : List Int} (h : Blk w T g l) : ∀ j u, (bs l)[j]? = some u → w.cell? ((⟨g, 0, none⟩ : Addr).add j) = some u := fun j u hu => by
  obtain ⟨hj, rfl⟩ := bs_getElem hu
  rw [addr_add, Nat.zero_add]
  exact h.cell hj
theorem owns_agreeS {W W' : World} {B : Nat} {e : TypeId} {v : Value} {n : Nat} {xs : List Value} (h : W.ownsRow B e 1 v n xs) (hb : ∀ g, v.ownBlock = some g → W'.heap[g]? = W.heap[g]?) : W'.ownsRow B e 1 v n xs := by
  obtain ⟨hl, ⟨e, h3⟩ | ⟨g, cap, cur, rfl, hg, hbk, h4⟩⟩ := h
  · exact ⟨hl, .inl ⟨e, h3⟩⟩
  · exact ⟨hl, .inr ⟨g, cap, cur, rfl, hg, (hb g rfl).trans hbk, h4⟩⟩
theorem keys_at {ms : CM} {j : Nat} (hj : j < ms.length) : (is_ (CM.keys ms))[j]? = some (.int .i64 ((ms[j]).1 : Int)) := by
  simp [is_, CM.keys, hj]

end Go.Proofs.YtokcgifpljeoiaaGreat
end

section
namespace Go.Proofs.YtokcgifpljeoiaaGreat
open Go.RowKit Go.Maps

end Go.Proofs.YtokcgifpljeoiaaGreat
end

section
namespace Go.Proofs.YtokcgifpljeoiaaGreat
open Go.RowKit Go.Maps

abbrev P3 := Int × Int × Int

/-- What is told of a list of picks. -/
def PSrc (w : World) (a : Option Addr) (n : Nat) (l : List P3) : Prop :=
  l.length = n ∧ (a = none → n = 0) ∧ (∀ x, a = some x → ∀ i (hi : i < l.length), ∃ b o, x = ⟨b, o, none⟩ ∧ w.cell? ⟨b, o + i * 3, none⟩ = some (.int .i64 l[i].1) ∧ w.cell? ⟨b, o + i * 3 + 1, none⟩ = some (.int .i64 l[i].2.1) ∧ w.cell? ⟨b, o + i * 3 + 2, none⟩ = some (.int .i64 l[i].2.2)) ∧
    ∀ q ∈ l, q.1 ≤ 9223372036854775807 ∧ q.2.1 ≤ 9223372036854775807 ∧ q.2.2 ≤ 9223372036854775807

/-- The pick that the i-th sector takes. -/
def pickN (l : List P3) (i : Nat) : P3 := if h : 0 < l.length then l[i % l.length]'(Nat.mod_lt _ h) else (0, 0, 0)

def tornBy (S : DS) (k : Nat) (q : P3) : List Int := tornOf S k (max q.1 0).toNat (max q.2.1 0).toNat (max q.2.2 0).toNat

/-- What a sector holds behind the cut. -/
def cutOf (S : DS) (l : List P3) (k : Nat) : List Int := if pendOf S.puts k = [] then dsec S.im k else tornBy S k (pickN l (keysOf S k).length)

def DS.crash (S : DS) (s : Nat) (l : List P3) : DS := { S with im := imOf s (cutOf S l), puts := [], fuse := -1, life := wrap64 (S.life + 1) }

theorem keysOf_succ (S : DS) (s : Nat) : keysOf S (s + 1) = keysOf S s ++ (if pendOf S.puts s = [] then [] else [s]) := by
  unfold keysOf
  rw [List.range_succ, List.filter_append]
  congr 1
  by_cases h : pendOf S.puts s = [] <;> simp [h]

theorem keysOf_idx (S : DS) : ∀ (s j k : Nat), (keysOf S s)[j]? = some k → (keysOf S k).length = j
  | 0, j, k, h => by simp [keysOf] at h
  | s + 1, j, k, h => by
    rw [keysOf_succ] at h
    by_cases hj : j < (keysOf S s).length
    · rw [List.getElem?_append_left hj] at h
      exact keysOf_idx S s j k h
    · rw [List.getElem?_append_right (by omega)] at h
      split at h
      · simp at h
      · have hj0 : j - (keysOf S s).length = 0 := by
          have := (List.getElem?_eq_some_iff.1 h).1
          simp at this
          omega
        rw [hj0] at h
        simp at h
        subst h
        omega

theorem torn_len {S : DS} {s : Nat} (h : S.Ok s) {k : Nat} (hk : k < s) (A B C : Nat) : (tornOf S k A B C).length = 512 := by
  unfold tornOf
  rw [List.length_append, List.length_take, List.length_drop, (DS.cand_len h hk (j := A % ((pendOf S.puts k).length + 1)) (Nat.le_of_lt_succ (Nat.mod_lt _ (by omega)))), (DS.cand_len h hk (j := B % ((pendOf S.puts k).length + 1)) (Nat.le_of_lt_succ (Nat.mod_lt _ (by omega))))]
  omega

theorem cut_len {S : DS} {s : Nat} (h : S.Ok s) (l : List P3) : ∀ k, k < s → (cutOf S l k).length = 512 := fun k hk => by
  unfold cutOf
  split
  · exact dsec_len h.len hk
  · exact torn_len h hk _ _ _

/-- A sector that has not been torn yet. -/
theorem torn_im (S : DS) (im : List Int) (k A B C : Nat) (h : dsec im k = dsec S.im k) : tornOf { S with im := im } k A B C = tornOf S k A B C := by
  have e : ∀ j, DS.cand { S with im := im } k j = S.cand k j := fun j => by
    unfold DS.cand
    split
    · exact h
    · rfl
  unfold tornOf
  rw [e, e]

theorem mem_take_succ {ks : List Nat} {j k0 : Nat} (h : ks[j]? = some k0) (k : Nat) : k ∈ ks.take (j + 1) ↔ k ∈ ks.take j ∨ k = k0 := by
  rw [List.take_add_one, h]
  simp

theorem not_mem_take {ks : List Nat} (hn : ks.Nodup) {j k0 : Nat} (h : ks[j]? = some k0) : k0 ∉ ks.take j := by
  obtain ⟨hj, e⟩ := List.getElem?_eq_some_iff.1 h
  intro hm
  obtain ⟨i, hi, e2⟩ := List.mem_iff_getElem.1 hm
  rw [List.getElem_take] at e2
  have := List.getElem_inj (h₀ := by simp at hi; omega) (h₁ := hj) hn |>.1 (e2.trans e.symm)
  simp at hi
  omega

/-- One round of a power cut. -/
theorem crash_step {S : DS} {s : Nat} (hok : S.Ok s) (l : List P3) {im : List Int} {j k : Nat} (him : im.length = s * 512) (hk : (keysOf S s)[j]? = some k)
    (hs : ∀ i, i < s → dsec im i = if i ∈ (keysOf S s).take j then cutOf S l i else dsec S.im i) :
    k < s ∧ pendOf S.puts k ≠ [] ∧ tornBy { S with im := im } k (pickN l j) = cutOf S l k ∧ ∀ i, i < s → dsec (splice im (k * 512) (cutOf S l k)) i = if i ∈ (keysOf S s).take (j + 1) then cutOf S l i else dsec S.im i := by
  obtain ⟨hks, hp⟩ := mem_keysOf.1 (List.mem_of_getElem? hk)
  have hnd : (keysOf S s).Nodup := List.Pairwise.filter _ List.nodup_range
  have hsk := hs k hks
  rw [if_neg (not_mem_take hnd hk)] at hsk
  have e : tornBy { S with im := im } k (pickN l j) = cutOf S l k := by
    unfold tornBy cutOf
    rw [if_neg hp, keysOf_idx S s j k hk, torn_im S im k _ _ _ hsk]
    rfl
  refine ⟨hks, hp, e, fun i hi => ?_⟩
  rw [sec_splice him (cut_len hok l k hks) hks]
  by_cases ei : i = k
  · subst ei
    rw [if_pos rfl, if_pos ((mem_take_succ hk i).2 (.inr rfl))]
  · rw [if_neg ei, hs i hi]
    by_cases hm : i ∈ (keysOf S s).take j
    · rw [if_pos hm, if_pos ((mem_take_succ hk i).2 (.inl hm))]
    · rw [if_neg hm, if_neg (fun h => by rcases (mem_take_succ hk i).1 h with h | h; exact hm h; exact ei h)]

theorem crash_all {S : DS} {s : Nat} (hok : S.Ok s) (l : List P3) {im : List Int} (him : im.length = s * 512) (hs : ∀ i, i < s → dsec im i = if i ∈ (keysOf S s).take (keysOf S s).length then cutOf S l i else dsec S.im i) : im = imOf s (cutOf S l) := by
  refine im_ext s him (imOf_len s _ (cut_len hok l)) (fun k hk => ?_)
  rw [hs k hk, sec_imOf s _ (cut_len hok l) k hk, List.take_length]
  by_cases hp : pendOf S.puts k = []
  · rw [if_neg (fun h => (mem_keysOf.1 h).2 hp)]
    simp [cutOf, hp]
  · rw [if_pos (mem_keysOf.2 ⟨hk, hp⟩)]

theorem PSrc.keeps {w w' : World} {a : Option Addr} {n : Nat} {l : List P3} {F : Nat → Prop} (h : PSrc w a n l) (hk : Keeps F w w') (hF : ∀ x, a = some x → ¬ F x.block) : PSrc w' a n l := by
  refine ⟨h.1, h.2.1, fun x hx i hi => ?_, h.2.2.2⟩
  obtain ⟨b, o, rfl, h1, h2, h3⟩ := h.2.2.1 x hx i hi
  have e := hk.block b (World.block_lt_of_cell? _ _ h1) (hF _ hx)
  exact ⟨b, o, rfl, (World.cell?_of_block (w := w) (a := ⟨b, _, none⟩) e).trans h1, (World.cell?_of_block (w := w) (a := ⟨b, _, none⟩) e).trans h2, (World.cell?_of_block (w := w) (a := ⟨b, _, none⟩) e).trans h3⟩

theorem crash_end {w wr w3 : World} {F : Nat → Prop} {p s : Nat} {S : DS} {gi ci m : Nat} {D : DataW Value} {gr cr : Nat → Nat} {im : List Int} {l : List P3} (h : DiskRaw w F p s S gi ci m D gr cr) (hd : DiskRaw wr F p s { S with im := im } gi ci m D gr cr)
    (he : im = imOf s (cutOf S l)) (hk : Keeps F w wr) (hm3 : w3.ownsMap Tryz.prog 3 Rs m 0 (.map [])) (hk3 : Keeps (fun k => k = m) wr w3) :
    w3.cell? ⟨p, 2, none⟩ = some (.int .i64 S.fuse) ∧ w3.frozen? ⟨p, 2, none⟩ = false ∧ w3.cell? ⟨p, 3, none⟩ = some (.int .i64 S.life) ∧ w3.frozen? ⟨p, 3, none⟩ = false ∧
    DiskAt ((w3.setCell ⟨p, 2, none⟩ (.int .i64 (-1))).setCell ⟨p, 3, none⟩ (.int .i64 (wrap64 (S.life + 1)))) F p s (S.crash s l) ∧ Keeps F w ((w3.setCell ⟨p, 2, none⟩ (.int .i64 (-1))).setCell ⟨p, 3, none⟩ (.int .i64 (wrap64 (S.life + 1)))) := by
  subst he
  have hd3 := hd.cleared hm3 hk3
  have hd4 : DiskRaw (w3.setCell ⟨p, 2, none⟩ (.int .i64 (-1))) F p s { S with im := imOf s (cutOf S l), puts := [], fuse := -1 } gi ci m (.map []) gr cr :=
    hd3.turn (hd3.set 2 _).2 ((hd3.set 2 _).1.trans (by simp [dkCells])) rfl rfl (by simp)
  have hd5 : DiskRaw ((w3.setCell ⟨p, 2, none⟩ (.int .i64 (-1))).setCell ⟨p, 3, none⟩ (.int .i64 (wrap64 (S.life + 1)))) F p s (S.crash s l) gi ci m (.map []) gr cr :=
    hd4.turn (hd4.set 3 _).2 ((hd4.set 3 _).1.trans (by simp [dkCells, DS.crash])) rfl rfl (by simp [DS.crash])
  refine ⟨cell_of_block hd3.blk (j := 2) rfl, frozen_of_block hd3.blk 2, cell_of_block hd3.blk (j := 3) rfl, frozen_of_block hd3.blk 3, ⟨gi, ci, m, _, gr, cr, hd5⟩, ?_⟩
  exact ((hk.trans hk3 (fun j hj => .inl (hj ▸ h.fm))).trans (Keeps.setCell (F := fun k => k = p) w3 (p := ⟨p, 2, none⟩) rfl _) (fun j hj => .inl (hj ▸ h.fp))).trans (Keeps.setCell (F := fun k => k = p) _ (p := ⟨p, 3, none⟩) rfl _) (fun j hj => .inl (hj ▸ h.fp))

/-- The round's tear, whichever pick it is. -/
theorem crash_tear {wr wx : World} {F : Nat → Prop} {p s : Nat} {S : DS} {gi ci m : Nat} {D : DataW Value} {gr cr : Nat → Nat} {im : List Int} {l : List P3} (hbig : S.puts.length + 1 ≤ 5000000000000) (hd : DiskRaw wr F p s { S with im := im } gi ci m D gr cr)
    (hb : Below wr.heap.size wr wx) {j k : Nat} (hks : k < s) (hto : tornBy { S with im := im } k (pickN l j) = cutOf S l k) (A B C : Int) (hq : pickN l j = (A, B, C)) (hA : A ≤ 9223372036854775807) (hB : B ≤ 9223372036854775807) (hC : C ≤ 9223372036854775807) :
    Calls Tryz.prog 53 #[.pointer (some ⟨p, 0, none⟩), .int .i64 (k : Int), .agg #[.int .i64 A, .int .i64 B, .int .i64 C]] wx fun e w' => e = .returned (.tuple #[]) ∧ DiskRaw w' F p s { S with im := splice im (k * 512) (cutOf S l k) } gi ci m D gr cr ∧ Keeps F wr w' := by
  refine (tear_ok (hd.agree hb.size (fun i hi => hb.block i (hd.lt i hi))) k hks hbig A B C (max A 0).toNat (max B 0).toNat (max C 0).toNat (by omega) (by omega) (by omega) hA hB hC).mono ?_
  rintro e w' ⟨rfl, h1, h2⟩
  refine ⟨rfl, ?_, (Keeps.of_below F hb).trans h2 (fun i hi => .inl hi)⟩
  rw [← hto, hq]
  exact h1

set_option maxHeartbeats 4000000 in
set_option maxRecDepth 100000 in
theorem crash_ok (sorts : SortSaid) (sortn : SortNil) {w : World} {F : Nat → Prop} {p s : Nat} {S : DS} (hd : DiskAt w F p s S) (hbig : S.puts.length + 1 ≤ 5000000000000) (a : Option Addr) (n c : Nat) (l : List P3) (hps : PSrc w a n l) (hn : n ≤ 140737488355328) (hF : ∀ x, a = some x → ¬ F x.block) :
    Calls Tryz.prog 16 #[.pointer (some ⟨p, 0, none⟩), .slice a n c] w fun e w' => e = .returned (.tuple #[]) ∧ DiskAt w' F p s (S.crash s l) ∧ Keeps F w w' := by
  obtain ⟨gi, ci, m, D, gr, cr, h⟩ := hd
  have hun := unfl_ok sorts sortn h hbig
  have hkl : (keysOf S s).length ≤ 2048 := by
    have := List.length_filter_le (fun k => !(pendOf S.puts k).isEmpty) (List.range s)
    rw [List.length_range] at this
    exact Nat.le_trans this h.ok.hi
  have H := h
  have HP := hps
  clear h hps
  go_enter Tryz.func16, Tryz.ntmps16
  go_wp2_with (go_at_call 52; refine hun.mono ?_; rintro e w1 ⟨ak, ck, rfl, hrow, hb1⟩)
  have Hrow := hrow
  have hd1 := H.agree hb1.size (fun j hj => hb1.block j (H.lt j hj))
  have hk1 := Keeps.of_below F hb1
  clear hun hrow
  go_loopw [4, 5, 6, 10] (fun _ _ _ i wr => ∃ j : Nat, j ≤ (keysOf S s).length ∧ i = .int .i64 (j : Int) ∧ ∃ im, DiskRaw wr F p s { S with im := im } gi ci m D gr cr ∧ (∀ i, i < s → dsec im i = if i ∈ (keysOf S s).take j then cutOf S l i else dsec S.im i) ∧ Keeps F w wr ∧
      (keysOf S s ≠ [] → ∃ g, ak = some ⟨g, 0, none⟩ ∧ RowAt wr 3 g ck (is_ (keysOf S s)) ∧ w.heap.size ≤ g)) (fun _ _ _ i _ => (keysOf S s).length - (intOf i).toNat)
  case atStart => exact ⟨0, Nat.zero_le _, rfl, S.im, hd1, fun i _ => by simp, hk1, fun h => by obtain ⟨g, e, hg, hr⟩ := Hrow h; exact ⟨g, e, hr, hg⟩⟩
  case round =>
    clear hd1 hk1 Hrow
    obtain ⟨j, hj, rfl, im, hd, hse, hk, hrow⟩ := hrel
    have Hd := hd
    have Hse := hse
    clear hd hse
    by_cases hlt : j < (keysOf S s).length
    · have hlt' : (j : Int) < ((keysOf S s).length : Int) := by omega
      obtain ⟨g, rfl, hr, hg⟩ := hrow (by intro e; rw [e] at hlt; simp at hlt)
      obtain ⟨k0, hk0⟩ : ∃ k, (keysOf S s)[j]? = some k := ⟨_, List.getElem?_eq_getElem hlt⟩
      have hc0 : wr.cell? ⟨g, j, none⟩ = some (.int .i64 (k0 : Int)) := hr.cell (by simp [is_, hk0])
      obtain ⟨hks, hp, hto, hse2⟩ := crash_step H.ok l Hd.ok.len hk0 Hse
      have Hr := hr
      have Hse2 := hse2
      clear hr hse2
      by_cases hn0 : n = 0
      · subst hn0
        have hq : pickN l j = (0, 0, 0) := by simp [pickN, HP.1]
        have hte := fun o => crash_tear hbig Hd ((Below.refl wr.heap.size wr).alloc (Nat.le_refl _) o) hks hto 0 0 0 hq (by omega) (by omega) (by omega)
        go_wp2_with (go_at_call 53; refine (hte _).mono ?_; rintro e w5 ⟨rfl, hd5, hk5⟩)
        have hr5 := Hr.agree (hk5.block g Hr.lt (fun hf => by have := H.lt g hf; omega))
        have Hd5 := hd5
        have hk6 := hk.trans hk5 (fun i hi => .inl hi)
        clear hd5 hk5 hte hc0
        go_roundw
        case rel => exact ⟨j + 1, by omega, by go_num, _, Hd5, Hse2, hk6, fun _ => ⟨g, rfl, hr5, hg⟩⟩
        case measure => simp [intOf]; omega
      · obtain ⟨x, rfl⟩ : ∃ x, a = some x := by
          cases a with
          | none => exact absurd (HP.2.1 rfl) hn0
          | some x => exact ⟨x, rfl⟩
        have hll := HP.1
        have hlp : 0 < l.length := by omega
        obtain ⟨q, hq⟩ : ∃ q, q = j % n := ⟨_, rfl⟩
        have hqn : q < n := by rw [hq]; exact Nat.mod_lt _ (by omega)
        have hql : q < l.length := by omega
        have hPr := HP.keeps hk hF
        obtain ⟨b, o, rfl, p0, p1, p2⟩ := hPr.2.2.1 x rfl q hql
        have hpk : pickN l j = (l[q].1, l[q].2.1, l[q].2.2) := by
          have e1 : j % l.length = q := by rw [hll, hq]
          simp only [pickN, hlp, dif_pos, e1]
        obtain ⟨b1, b2, b3⟩ := hPr.2.2.2 l[q] (List.getElem_mem hql)
        have hte := fun wx hx => crash_tear (wx := wx) hbig Hd hx hks hto _ _ _ hpk b1 b2 b3
        have hmo : (j : Int) % (n : Int) = (q : Int) := by rw [hq]; push_cast; rfl
        have hq1 : (q : Int) < (n : Int) := by omega
        have hbw := World.block_lt_of_cell? _ _ p0
        have Hte := hte
        clear hte hpk hPr hq hto
        generalize l[q].1 = qa at *
        generalize l[q].2.1 = qb at *
        generalize l[q].2.2 = qc at *
        go_wp2_with fail
        refine (Hte _ ((Below.refl wr.heap.size wr).alloc (Nat.le_refl _) _)).mono ?_
        rintro e w5 ⟨rfl, hd5, hk5⟩
        have hr5 := Hr.agree (hk5.block g Hr.lt (fun hf => by have := H.lt g hf; omega))
        have Hd5 := hd5
        have hk6 := hk.trans hk5 (fun i hi => .inl hi)
        clear hd5 hk5 Hte hc0 p0 p1 p2
        go_wp2
        go_roundw
        case rel => exact ⟨j + 1, by omega, by go_num, _, Hd5, Hse2, hk6, fun _ => ⟨g, rfl, hr5, hg⟩⟩
        case measure => simp [intOf]; omega
    · have hlt' : ¬ (j : Int) < ((keysOf S s).length : Int) := by omega
      obtain ⟨w3, hrun3, hm3, hk3, _⟩ := clear_run Hd.map
      have c1 := cell_of_block Hd.blk (j := 1) rfl
      have ej : j = (keysOf S s).length := by omega
      rw [ej] at Hse
      have hall := crash_all H.ok l Hd.ok.len Hse
      clear ej
      obtain ⟨c2, f2, c3, f3, hd5, hk5⟩ := crash_end H Hd hall hk hm3 hk3
      have Hq := (And.intro hd5 hk5)
      clear hd5 hk5 hall hm3 hk3 Hd Hse H hk hrow
      go_wp2
      go_end0
      exact ⟨rfl, Hq⟩
end Go.Proofs.YtokcgifpljeoiaaGreat
end

section
namespace Go.Proofs.YtokcgifpljeoiaaGreat
open Go.RowKit Go.Maps

theorem infoPick : (Tryz.prog.info? 111).map (fun i => (i.zero, i.size, i.bytes)) = some (some (.agg #[.int .i64 0, .int .i64 0, .int .i64 0]), 3, 24) := by kernel_rfl
def p3 (l : List P3) : List Value := l.flatMap (fun q => [.int .i64 q.1, .int .i64 q.2.1, .int .i64 q.2.2])

theorem p3_len : ∀ l : List P3, (p3 l).length = l.length * 3
  | [] => rfl
  | q :: l => by have := p3_len l; simp only [p3, List.flatMap_cons, List.length_append, List.length_cons, List.length_nil] at this ⊢; omega

theorem p3_one (l : List P3) : ∀ v ∈ p3 l, v.oneCell' = true := by
  intro v hv
  simp only [p3, List.mem_flatMap] at hv
  obtain ⟨q, _, h⟩ := hv
  simp at h
  rcases h with rfl | rfl | rfl <;> rfl

theorem p3_at : ∀ (l : List P3) (i : Nat) (hi : i < l.length), (p3 l)[i * 3]? = some (.int .i64 l[i].1) ∧ (p3 l)[i * 3 + 1]? = some (.int .i64 l[i].2.1) ∧ (p3 l)[i * 3 + 2]? = some (.int .i64 l[i].2.2)
  | q :: l, 0, _ => by simp [p3]
  | q :: l, i + 1, hi => by
    have := p3_at l i (by simpa using hi)
    have e : p3 (q :: l) = [.int .i64 q.1, .int .i64 q.2.1, .int .i64 q.2.2] ++ p3 l := rfl
    rw [e, List.getElem?_append_right (by simp; omega), List.getElem?_append_right (by simp; omega), List.getElem?_append_right (by simp; omega)]
    simp only [List.length_cons, List.length_nil, List.getElem_cons_succ]
    rw [show (i + 1) * 3 - (0 + 1 + 1 + 1) = i * 3 by omega, show (i + 1) * 3 + 1 - (0 + 1 + 1 + 1) = i * 3 + 1 by omega, show (i + 1) * 3 + 2 - (0 + 1 + 1 + 1) = i * 3 + 2 by omega]
    exact this

theorem p3_src {w : World} {b o n : Nat} {l : List P3} (h : PSrc w (some ⟨b, o, none⟩) n l) (j : Nat) (v : Value) (hv : (p3 l)[j]? = some v) : w.cell? ((⟨b, o, none⟩ : Addr).add j) = some v := by
  rw [addr_add]
  have hj := (List.getElem?_eq_some_iff.1 hv).1
  rw [p3_len] at hj
  obtain ⟨i, t, ht, rfl⟩ : ∃ i t, t < 3 ∧ j = i * 3 + t := ⟨j / 3, j % 3, by omega, by omega⟩
  have hi : i < l.length := by omega
  obtain ⟨e0, e1, e2⟩ := p3_at l i hi
  obtain ⟨b', o', hx, c0, c1, c2⟩ := h.2.2.1 _ rfl i hi
  cases hx
  rw [← Nat.add_assoc]
  match t, ht with
  | 0, _ => rw [Nat.add_zero] at hv ⊢; rw [e0] at hv; rw [c0]; exact hv
  | 1, _ => rw [e1] at hv; rw [c1]; exact hv
  | 2, _ => rw [e2] at hv; rw [c2]; exact hv

theorem p3_to {w : World} {g n : Nat} {l : List P3} (hn : l.length = n) (hb : ∀ q ∈ l, q.1 ≤ 9223372036854775807 ∧ q.2.1 ≤ 9223372036854775807 ∧ q.2.2 ≤ 9223372036854775807) (h : w.heap[g]? = some (.cells (p3 l).toArray 111 (0, 0))) : PSrc w (some ⟨g, 0, none⟩) n l := by
  refine ⟨hn, (fun h => by cases h), fun x hx i hi => ?_, hb⟩
  cases hx
  obtain ⟨e0, e1, e2⟩ := p3_at l i hi
  refine ⟨g, 0, rfl, ?_, ?_, ?_⟩ <;> (simp only [World.cell?, h, Nat.zero_add]; simpa using ‹_›)

/-- copy of elements of three cells. -/
theorem copy3_run (w : World) (ty : TypeId) (g n : Nat) (a : Option Addr) (c d : Nat) (cur : Array Value) (l : List P3) (hg : w.heap[g]? = some (.cells cur 111 (0, 0))) (hcur : cur.size = n * 3) (hs : PSrc w a n l) :
    ∃ w2, (Builtin.copy_ #[41, 41] ty #[.slice (some ⟨g, 0, none⟩) n d, .slice a n c]).run Tryz.prog w = .ok (goInt n) w2 ∧
      w2.heap[g]? = some (.cells (p3 l).toArray 111 (0, 0)) ∧ Keeps (fun k => k = g) w w2 ∧ w2.heap.size = w.heap.size := by
  have hl := hs.1
  have hmm : Nat.min n n = n := Nat.min_self n
  obtain ⟨i0, hq, _, hi, _⟩ := info_parts infoPick
  by_cases h0 : n = 0
  · subst h0
    obtain rfl : l = [] := List.eq_nil_of_length_eq_zero hl
    have hcz : cur = #[] := Array.eq_empty_of_size_eq_zero (by omega)
    subst hcz
    have hlc := fun x => by simpa using run_loadCells_list (P := Tryz.prog) w x [] (by simp)
    refine ⟨w, ?_, hg, Keeps.refl _ _, rfl⟩
    cases a <;> simp [Builtin.copy_, run_underlying Tryz.underlying41, Builtin.lenOf, Builtin.firstCells, sizeOf, typeInfo, hq, storeCells, hlc]
  · obtain ⟨x, rfl⟩ : ∃ x, a = some x := by
      cases a with
      | none => exact absurd (hs.2.1 rfl) h0
      | some x => exact ⟨x, rfl⟩
    obtain ⟨b, o, rfl, _⟩ := hs.2.2.1 x rfl 0 (by omega)
    have hlc := run_loadCells_list (P := Tryz.prog) w ⟨b, o, none⟩ (p3 l) (p3_src hs)
    rw [p3_len, hl] at hlc
    have hst := run_storeCells_at Tryz.prog g 0 111 (p3 l) 0 cur w hg (by rw [p3_len]; omega) (p3_one l)
    have e : (List.take (0 + 0) cur.toList ++ p3 l ++ List.drop (0 + 0 + (p3 l).length) cur.toList).toArray = (p3 l).toArray := by
      rw [p3_len, List.drop_of_length_le (by simp; omega)]; simp
    rw [e] at hst
    refine ⟨w.setRow g (p3 l).toArray, ?_, ?_, ⟨rfl, rfl, rfl, by simp, fun k _ hk => setRow_other w g k _ hk⟩, by simp⟩
    · simp [Builtin.copy_, run_underlying Tryz.underlying41, Builtin.lenOf, Builtin.firstCells, sizeOf, typeInfo, hq, hi, hmm, hlc, hst]
    · exact setRow_heap w g _ _ 111 _ hg

theorem PSrc.later {w w' : World} {a : Option Addr} {n : Nat} {l : List P3} (h : PSrc w a n l) (hb : Below w.heap.size w w') : PSrc w' a n l := h.keeps (Keeps.of_below (fun _ => False) hb) (fun _ _ h => h)

set_option maxHeartbeats 2000000 in
theorem twinp_any (a : Option Addr) (n c : Nat) (l : List P3) (w : World) (hn : 24 * n ≤ 140737488355328) (hs : PSrc w a n l) :
    Calls Tryz.prog 17 #[.slice a n c] w fun e w' => ∃ g, e = .returned (.slice (some ⟨g, 0, none⟩) n n) ∧ w.heap.size ≤ g ∧ PSrc w' (some ⟨g, 0, none⟩) n l ∧ Below w.heap.size w w' := by
  obtain ⟨i0, hi, hz0, hz1, hz2⟩ := info_parts infoPick
  go_enter Tryz.func17, Tryz.ntmps17
  go_wp2_with (at_make; refine wpList_make_full _ rfl _ _ 41 rfl w.heap.size 111 i0 _ 3 Tryz.underlying41 hi hz0 hz1 _ _ _ _ n rfl rfl ?c1 ?c2 ?c3 ?c4 ?c5 ?_)
  case c1 => rfl
  case c2 => rfl
  case c3 => rw [hz2]; omega
  case c4 => unfold maxLen; omega
  case c5 => exact Nat.le_refl _
  intro w1 hown hgrow
  have hb := (Below.refl _ w).grown hgrow (Nat.le_refl _) (by intro k hk; cases hk)
  have hs1 := hs.later hb
  obtain ⟨_, ⟨hv, _⟩ | ⟨g', cap, cur, hv, _, hg, _, _, hcs, _⟩⟩ := hown
  · cases hv
  cases hv
  obtain ⟨w2, hrun, hh, hk, _⟩ := copy3_run w1 3 w.heap.size n a c n cur l hg hcs hs1
  go_wp2
  go_ret
  exact ⟨w.heap.size, rfl, Nat.le_refl _, (p3_to (n := n) hs.1 hs1.2.2.2 hh), (hb.trans (hk.below (fun k h => by omega) hb.size))⟩
end Go.Proofs.YtokcgifpljeoiaaGreat
end

section
namespace Go.Proofs.YtokcgifpljeoiaaGreat
open Go.RowKit Go.Maps

def DS.wr (S : DS) (s : Nat) (x : Int) (n : Nat) (l : List Int) : Int × DS :=
  if S.fuse = 0 then (3, S) else if x < 0 ∨ (s : Int) ≤ x then (11, S.refuse) else if n ≠ 512 then (2, S.refuse) else (0, (S.put x.toNat l).wrote.spend)
def DS.rd (S : DS) (s : Nat) (x : Int) : Int × DS × List Int :=
  if S.fuse = 0 then (3, S, []) else if x < 0 ∨ (s : Int) ≤ x then (11, S.refuse, []) else (0, S.read, S.now x.toNat)
def DS.fl (S : DS) (s : Nat) : Int × DS := if S.fuse = 0 then (3, S) else (0, (S.flush s).spend)

theorem DiskAt.more {w w' : World} {F : Nat → Prop} {p s : Nat} {S : DS} (h : DiskAt w' F p s S) : DiskAt w' (more F w w') p s S :=
  h.mono (fun _ hk => .inl hk) (fun k hk => by rcases hk with hk | hk; exact h.lt k hk; exact hk.2)

theorem write_all {w : World} {F : Nat → Prop} {p s : Nat} {S : DS} (h : DiskAt w F p s S) (x : Int) (a : Option Addr) (n c : Nat) (l : List Int) (hs : Src w a n l) (hbig : S.puts.length + 1 ≤ 4000000000000) :
    Calls Tryz.prog 78 #[.pointer (some ⟨p, 0, none⟩), .int .i64 x, .slice a n c] w fun e w' => e = .returned (.int .i64 (S.wr s x n l).1) ∧ DiskAt w' (more F w w') p s (S.wr s x n l).2 ∧ Keeps F w w' := by
  by_cases hf : S.fuse = 0
  · simp only [DS.wr, hf, if_true]
    refine (write_dead h x a n c hf).mono ?_
    rintro e w' ⟨rfl, rfl⟩
    exact ⟨rfl, h.more, Keeps.refl _ _⟩
  · by_cases hx : x < 0 ∨ (s : Int) ≤ x
    · simp only [DS.wr, hf, if_false, hx, if_true]
      refine (write_range h x a n c hf hx).mono ?_
      rintro e w' ⟨rfl, h1, h2⟩
      exact ⟨rfl, h1.more, h2⟩
    · obtain ⟨k, rfl⟩ : ∃ k : Nat, x = (k : Int) := ⟨x.toNat, by omega⟩
      have hk : k < s := by omega
      by_cases hn : n = 512
      · subst hn
        simp only [DS.wr, hf, if_false, hx, ne_eq, not_true_eq_false, Int.toNat_natCast]
        obtain ⟨y, rfl⟩ : ∃ y, a = some y := by
          cases a with
          | none => have := hs.2.1 rfl; omega
          | some y => exact ⟨y, rfl⟩
        exact write_ok h k hk hf (by omega) y c l hs
      · simp only [DS.wr, hf, if_false, hx, ne_eq, hn, not_false_eq_true, if_true]
        refine (write_length h k a n c hf hk hn).mono ?_
        rintro e w' ⟨rfl, h1, h2⟩
        exact ⟨rfl, h1.more, h2⟩

/-- What a Read hands out. -/
def Out (lo : Nat) (w : World) (l : List Int) (v : Value) : Prop := ∃ a c, v = .slice a l.length c ∧ Src w a l.length l ∧ ∀ x, a = some x → lo ≤ x.block

theorem Out.nil (lo : Nat) (w : World) : Out lo w [] (.slice none 0 0) := ⟨none, 0, rfl, ⟨rfl, fun _ => rfl, fun x hx => by cases hx⟩, fun x hx => by cases hx⟩
theorem Out.row {lo : Nat} {w : World} {g c : Nat} {l : List Int} (h : RowAt w 5 g c (bs l)) (hg : lo ≤ g) : Out lo w l (.slice (some ⟨g, 0, none⟩) l.length c) := ⟨_, c, rfl, h.src, fun x hx => by cases hx; exact hg⟩

theorem read_all {w : World} {F : Nat → Prop} {p s : Nat} {S : DS} (h : DiskAt w F p s S) (x : Int) (hbig : S.puts.length + 1 ≤ 4000000000000) :
    Calls Tryz.prog 80 #[.pointer (some ⟨p, 0, none⟩), .int .i64 x] w fun e w' => ∃ v, e = .returned (.tuple #[v, .int .i64 (S.rd s x).1]) ∧ Out w.heap.size w' (S.rd s x).2.2 v ∧ DiskAt w' F p s (S.rd s x).2.1 ∧ Keeps F w w' := by
  by_cases hf : S.fuse = 0
  · simp only [DS.rd, hf, if_true]
    refine (read_dead h x hf).mono ?_
    rintro e w' ⟨rfl, rfl⟩
    exact ⟨_, rfl, Out.nil _ _, h, Keeps.refl _ _⟩
  · by_cases hx : x < 0 ∨ (s : Int) ≤ x
    · simp only [DS.rd, hf, if_false, hx, if_true]
      refine (read_range h x hf hx).mono ?_
      rintro e w' ⟨rfl, h1, h2⟩
      exact ⟨_, rfl, Out.nil _ _, h1, h2⟩
    · obtain ⟨k, rfl⟩ : ∃ k : Nat, x = (k : Int) := ⟨x.toNat, by omega⟩
      have hk : k < s := by omega
      simp only [DS.rd, hf, if_false, hx, Int.toNat_natCast]
      refine (read_ok h k hf hk (by omega)).mono ?_
      rintro e w' ⟨g, c, rfl, hg, hr, h1, h2⟩
      have := Out.row hr hg
      rw [now_len h.ok k hk] at this
      exact ⟨_, rfl, this, h1, h2⟩

theorem flush_all {w : World} {F : Nat → Prop} {p s : Nat} {S : DS} (h : DiskAt w F p s S) (hbig : S.puts.length + 1 ≤ 4000000000000) :
    Calls Tryz.prog 79 #[.pointer (some ⟨p, 0, none⟩)] w fun e w' => e = .returned (.int .i64 (S.fl s).1) ∧ DiskAt w' F p s (S.fl s).2 ∧ Keeps F w w' := by
  by_cases hf : S.fuse = 0
  · simp only [DS.fl, hf, if_true]
    refine (flush_dead h hf).mono ?_
    rintro e w' ⟨rfl, rfl⟩
    exact ⟨rfl, h, Keeps.refl _ _⟩
  · simp only [DS.fl, hf, if_false]
    exact flush_ok h hf (by omega)

theorem Out.keeps {lo : Nat} {w w' : World} {l : List Int} {v : Value} {F : Nat → Prop} (h : Out lo w l v) (hk : Keeps F w w') (hF : ∀ k, F k → k < lo) : Out lo w' l v := by
  obtain ⟨a, c, rfl, hs, hl⟩ := h
  refine ⟨a, c, rfl, ⟨hs.1, hs.2.1, fun x hx i hi => ?_⟩, hl⟩
  have h1 := hs.2.2 x hx i hi
  have hb := World.block_lt_of_cell? _ _ h1
  rw [blockOf_add] at hb
  exact (World.cell?_of_block (w := w) (by rw [blockOf_add]; exact hk.block _ hb (fun hf => by have := hF _ hf; have := hl x hx; omega))).trans h1
theorem wr_puts (S : DS) (s : Nat) (x : Int) (n : Nat) (l : List Int) : (S.wr s x n l).2.puts.length ≤ S.puts.length + 1 := by
  unfold DS.wr
  split
  · simp
  · split
    · simp [DS.refuse]
    · split
      · simp [DS.refuse]
      · simp [DS.put, DS.wrote, DS.spend]
theorem fl_puts (S : DS) (s : Nat) : (S.fl s).2.puts.length ≤ S.puts.length + 1 := by
  unfold DS.fl
  split
  · simp
  · simp [DS.flush, DS.spend]
theorem below_box (w : World) (o : Obj) : Below w.heap.size w (w.alloc o) := (Below.refl _ _).alloc (Nat.le_refl _) _

end Go.Proofs.YtokcgifpljeoiaaGreat
end

section
namespace Go.Proofs.YtokcgifpljeoiaaGreat
open Go.RowKit

/-- An area as a value. -/
abbrev areaV (p : Nat) (f n : Int) : Value := .agg #[.pointer (some ⟨p, 0, none⟩), .int .i64 f, .int .i64 n]

set_option maxRecDepth 20000 in
set_option maxHeartbeats 2000000 in
theorem aend_any (p : Nat) (f n : Int) (w : World) (hf : 0 ≤ f) (hf2 : f ≤ 100000) (hn : 0 ≤ n) (hn2 : n ≤ 100000) :
    Calls Tryz.prog 117 #[areaV p f n] w fun e w' => e = .returned (.int .i64 (f + 2 + n)) ∧ Below w.heap.size w w' := by
  go_enter Tryz.func117, Tryz.ntmps117
  go_wp2
  go_ret
  exact ⟨rfl, ((Below.refl w.heap.size w).alloc (Nat.le_refl _) (.cells #[.pointer (some ⟨p, 0, none⟩), .int .i64 f, .int .i64 n] 134))⟩

set_option maxRecDepth 20000 in
set_option maxHeartbeats 2000000 in
theorem aat_any (p : Nat) (f n x : Int) (w : World) (hf : 0 ≤ f) (hf2 : f ≤ 100000) (hn : 1 ≤ n) (hn2 : n ≤ 100000) (hx : 0 ≤ x) :
    Calls Tryz.prog 143 #[areaV p f n, .int .i64 x] w fun e w' => e = .returned (.int .i64 (f + 2 + x % n)) ∧ Below w.heap.size w w' := by
  have h1 : 0 ≤ x % n := Int.emod_nonneg _ (by omega)
  have h2 : x % n < n := Int.emod_lt_of_pos _ (by omega)
  have h3 : x.tmod n = x % n := Int.tmod_eq_emod_of_nonneg hx
  generalize x % n = y at *
  go_enter Tryz.func143, Tryz.ntmps143
  go_wp2
  go_region
  go_wp2
  go_ret
  exact ⟨rfl, below_drew ((Below.refl w.heap.size w).alloc (Nat.le_refl _) (.cells #[.pointer (some ⟨p, 0, none⟩), .int .i64 f, .int .i64 n] 134))⟩

/-- Why no log can lie there. -/
def lrefuse (S : DS) (s : Nat) (f n : Int) : Int :=
  if S.fuse = 0 then 3 else if f < 0 ∨ (s : Int) ≤ f then 11 else if n < 18 ∨ 256 < n then 1 else if (s : Int) < f + 2 + n then 11 else 0

theorem DiskAt.boxed {w : World} {F : Nat → Prop} {p s : Nat} {S : DS} (h : DiskAt w F p s S) (o : Obj) : DiskAt (w.alloc o) F p s S :=
  h.keep (Keeps.of_below (fun _ => False) ((Below.refl w.heap.size w).alloc (Nat.le_refl _) o)) (fun _ _ h => h)

set_option maxRecDepth 20000 in
set_option maxHeartbeats 4000000 in
theorem refusal_any {w : World} {F : Nat → Prop} {p s : Nat} {S : DS} (h : DiskAt w F p s S) (f n : Int) (hs : s ≤ 2048) :
    Calls Tryz.prog 83 #[areaV p f n] w fun e w' => e = .returned (.int .i64 (lrefuse S s f n)) ∧ Below w.heap.size w w' := by
  have hB := (Below.refl w.heap.size w).alloc (Nat.le_refl _) (.cells #[.pointer (some ⟨p, 0, none⟩), .int .i64 f, .int .i64 n] 134)
  have h1 := sectors_at (h.boxed (.cells #[.pointer (some ⟨p, 0, none⟩), .int .i64 f, .int .i64 n] 134))
  have h2 := burnt_at (h.boxed (.cells #[.pointer (some ⟨p, 0, none⟩), .int .i64 f, .int .i64 n] 134))
  have h3 := aend_any p f n (w.alloc (.cells #[.pointer (some ⟨p, 0, none⟩), .int .i64 f, .int .i64 n] 134))
  unfold lrefuse
  go_enter Tryz.func83, Tryz.ntmps83
  by_cases c1 : S.fuse = 0
  · rw [show (S.fuse == 0) = true by simp [c1]] at h2
    rw [if_pos c1]
    go_wp2_with (first | (go_at_call 20; refine h1.mono ?_; rintro e w' ⟨rfl, hw⟩; subst hw) | (go_at_call 51; refine h2.mono ?_; rintro e w' ⟨rfl, hw⟩; subst hw))
    go_ret
    exact ⟨rfl, hB⟩
  · rw [show (S.fuse == 0) = false by simp [c1]] at h2
    rw [if_neg c1]
    by_cases c2 : f < 0 ∨ (s : Int) ≤ f
    · rw [if_pos c2]
      by_cases c3 : f < 0
      · clear c2
        go_wp2_with (first | (go_at_call 20; refine h1.mono ?_; rintro e w' ⟨rfl, hw⟩; subst hw) | (go_at_call 51; refine h2.mono ?_; rintro e w' ⟨rfl, hw⟩; subst hw))
        go_ret
        exact ⟨rfl, hB⟩
      · have c4 : (s : Int) ≤ f := by omega
        go_wp2_with (first | (go_at_call 20; refine h1.mono ?_; rintro e w' ⟨rfl, hw⟩; subst hw) | (go_at_call 51; refine h2.mono ?_; rintro e w' ⟨rfl, hw⟩; subst hw))
        go_ret
        exact ⟨rfl, hB⟩
    · rw [if_neg c2]
      have c3 : ¬ f < 0 := by omega
      have c4 : ¬ (s : Int) ≤ f := by omega
      by_cases c5 : n < 18 ∨ 256 < n
      · rw [if_pos c5]
        by_cases c6 : n < 18
        · clear c5
          go_wp2_with (first | (go_at_call 20; refine h1.mono ?_; rintro e w' ⟨rfl, hw⟩; subst hw) | (go_at_call 51; refine h2.mono ?_; rintro e w' ⟨rfl, hw⟩; subst hw))
          go_ret
          exact ⟨rfl, hB⟩
        · have c7 : 256 < n := by omega
          go_wp2_with (first | (go_at_call 20; refine h1.mono ?_; rintro e w' ⟨rfl, hw⟩; subst hw) | (go_at_call 51; refine h2.mono ?_; rintro e w' ⟨rfl, hw⟩; subst hw))
          go_ret
          exact ⟨rfl, hB⟩
      · rw [if_neg c5]
        have c6 : ¬ n < 18 := by omega
        have c7 : ¬ 256 < n := by omega
        have h3 := h3 (by omega) (by omega) (by omega) (by omega)
        by_cases c8 : (s : Int) < f + 2 + n
        · rw [if_pos c8]
          go_wp2_with (first | (go_at_call 20; refine h1.mono ?_; rintro e w' ⟨rfl, hw⟩; subst hw) | (go_at_call 51; refine h2.mono ?_; rintro e w' ⟨rfl, hw⟩; subst hw))
          refine h3.mono ?_
          rintro e w2 ⟨rfl, hb⟩
          go_wp2
          go_ret
          exact ⟨rfl, (hB.trans (hb.mono hB.size))⟩
        · rw [if_neg c8]
          go_wp2_with (first | (go_at_call 20; refine h1.mono ?_; rintro e w' ⟨rfl, hw⟩; subst hw) | (go_at_call 51; refine h2.mono ?_; rintro e w' ⟨rfl, hw⟩; subst hw))
          refine h3.mono ?_
          rintro e w2 ⟨rfl, hb⟩
          go_wp2
          go_ret
          exact ⟨rfl, (hB.trans (hb.mono hB.size))⟩
end Go.Proofs.YtokcgifpljeoiaaGreat
end

section
namespace Go.Proofs.YtokcgifpljeoiaaGreat
open Go.RowKit

end Go.Proofs.YtokcgifpljeoiaaGreat
end

section
namespace Go.Proofs.YtokcgifpljeoiaaGreat
open Go.RowKit

end Go.Proofs.YtokcgifpljeoiaaGreat
end

section
namespace Go.Proofs.YtokcgifpljeoiaaGreat
open Go.RowKit

theorem src_spot {w : World} {a : Option Addr} {n : Nat} {l : List Int} (h : Src w a n l) (hn : 0 < n) : ∃ b o, a = some ⟨b, o, none⟩ := by
  cases a with
  | none => have := h.2.1 rfl; omega
  | some x =>
    obtain ⟨b, o, rfl, _⟩ := h.spot hn
    exact ⟨b, o, rfl⟩

end Go.Proofs.YtokcgifpljeoiaaGreat
end

section
namespace Go.Proofs.YtokcgifpljeoiaaGreat
open Go.RowKit

end Go.Proofs.YtokcgifpljeoiaaGreat
end

section
namespace Go.Proofs.YtokcgifpljeoiaaGreat
open Go.RowKit

theorem sopens_no1 {s : List Int} (h : s.length ≠ 512) : sopens s = ([], 2) := by unfold sopens; rw [if_pos h]
theorem sopens_none {s : List Int} (h : s.length = 512) (h2 : sopen s = none) : sopens s = ([], 30) := by unfold sopens; rw [if_neg (by omega), h2]
theorem sopens_some {s b : List Int} (h : s.length = 512) (h2 : sopen s = some b) : sopens s = (b, 0) := by unfold sopens; rw [if_neg (by omega), h2]
theorem sopen_yes {s : List Int} (h1 : slen s ≤ 504) (h2 : s.getD 0 0 ≤ 2) (h3 : sform (s.getD 0 0) (sbody s) = s) : sopen s = some (sbody s) := by unfold sopen; rw [if_pos ⟨h1, h2, h3⟩]
theorem sopen_no {s : List Int} (h : ¬ (slen s ≤ 504 ∧ s.getD 0 0 ≤ 2 ∧ sform (s.getD 0 0) (sbody s) = s)) : sopen s = none := by unfold sopen; rw [if_neg h]
theorem slen_eq {s : List Int} (h : Bytes s) : ((slen s : Nat) : Int) = s.getD 1 0 + 256 * s.getD 2 0 := by
  have h1 := h.getD 1
  have h2 := h.getD 2
  unfold slen
  omega

end Go.Proofs.YtokcgifpljeoiaaGreat
end

section
namespace Go.Proofs.YtokcgifpljeoiaaGreat
open Go.RowKit

theorem le2 {a b : Int} (ha : 0 ≤ a) (hb : 0 ≤ b) : ((le [a, b] : Nat) : Int) = a + 256 * b := by
  simp only [le]
  omega
theorem take2 {s : List Int} (h : s.length = 512) : (s.drop 1).take 2 = [s.getD 1 0, s.getD 2 0] := by
  match s, h with
  | a :: b :: c :: r, _ => rfl
theorem src_part {w : World} {b o n : Nat} {l : List Int} (h : Src w (some ⟨b, o, none⟩) n l) {i m : Nat} (hm : i + m ≤ n) : Src w (some ⟨b, o + i, none⟩) m ((l.drop i).take m) :=
  ⟨by have := h.1; simp; omega, (fun e => by cases e), fun x hx j hj => by
    cases hx
    have := h.2.2 _ rfl (i + j) (by omega)
    rw [addr_add] at this ⊢
    rw [Nat.add_assoc, this]
    simp [List.getD, hj]⟩

set_option maxRecDepth 20000 in
set_option maxHeartbeats 4000000 in
theorem open_no (g o : Nat) (s : List Int) (w : World) (hs : Src w (some ⟨g, o, none⟩) 512 s) (hb : Bytes s) (hbad : 504 < slen s ∨ 2 < s.getD 0 0) :
    Calls Tryz.prog 188 #[.pointer (some ⟨g, o, none⟩)] w fun e w' => e = .returned (.tuple #[.slice none 0 0, .bool false]) ∧ w' = w := by
  have hp := src_part hs (i := 1) (m := 2) (by omega)
  have h2 := taken_any g (o + 1) 2 2 ((s.drop 1).take 2) w ((hb.drop _).take _) hp.1 (by omega) (fun i hi => by have := hp.2.2 _ rfl i hi; rwa [addr_add] at this)
  rw [take2 hs.1, le2 (hb.getD 1).1 (hb.getD 2).1, ← (slen_eq hb)] at h2
  have c0 := hs.2.2 _ rfl 0 (by omega)
  rw [addr_add, Nat.add_zero] at c0
  have g0 := hb.getD 0
  have h00 := g0.1
  have h01 := g0.2
  generalize s.getD 0 0 = x at *
  generalize slen s = N at *
  clear hs hp g0
  go_enter Tryz.func188, Tryz.ntmps188
  go_wp2_with fail
  refine (cut_any g o 1 3 w (by omega) (by omega)).mono ?_
  rintro e w' ⟨rfl, hw⟩
  have hw' := hw.symm
  subst hw'
  clear hw
  go_wp2_with fail
  refine h2.mono ?_
  rintro e w' ⟨rfl, hw⟩
  have hw' := hw.symm
  subst hw'
  clear hw h2
  by_cases hx : 2 < x
  · have hx' : 3 ≤ x := by omega
    go_wp2
    go_ret2
    exact ⟨rfl, rfl⟩
  · have hx' : ¬ 3 ≤ x := by omega
    have hN : 504 < (N : Int) := by omega
    go_wp2
    go_ret2
    exact ⟨rfl, rfl⟩

theorem quiet_load_mid {P : Program} {C : World → Prop} {a : Act} {op : Oper} {K : Act → Prop} (ty : TypeId) (x : Operand) (ho : op.op = .load ty x)
    (b o : Nat) (hx : a.eval x = .pointer (some ⟨b, o, none⟩)) (cs : List Value) (d : TypeDesc) (hc : ∀ w, C w → w.rangeAt b o cs)
    (hu : P.underlying ty = some d) (hd : d.isRow = true) (hi : (P.info? ty).map (·.size) = some cs.length) (hk : K (a.put op.dst (.agg cs.toArray))) : op.quiet P a C K :=
  ⟨_, fun w hw => by
    unfold Oper.quietAt execOp
    simp only [ho, hx, Instr.loadAt, Instr.sureAddr, Sem.run_bind, Sem.run_pure, Result.andThen_ok, run_loadVar_mid w b o ty cs d (hc w hw) hu hd hi]
    exact ⟨rfl, rfl⟩, hk⟩
theorem quiet_eq_sec {C : World → Prop} {a : Act} {op : Oper} {K : Act → Prop} (x y : Operand) (T : TypeId) (ho : op.op = .binOp .eql 200 x y T)
    (l m : List Int) (hx : a.eval x = .agg (bs l).toArray) (hy : a.eval y = .agg (bs m).toArray) (hl : l.length = 512) (hm : m.length = 512) (hk : K (a.put op.dst (.bool (decide (l = m))))) : op.quiet Tryz.prog a C K :=
  ⟨_, fun w _ => by
    unfold Oper.quietAt execOp
    simp only [ho, hx, hy]
    have := eqop_sec l m hl hm w x y
    rw [Sem.run_bind, this]
    exact ⟨rfl, rfl⟩, hk⟩

set_option maxRecDepth 20000 in
set_option maxHeartbeats 4000000 in
theorem open_yes (g o : Nat) (s : List Int) (w : World) (hs : Src w (some ⟨g, o, none⟩) 512 s) (hb : Bytes s) (hN : slen s ≤ 504) (hx : s.getD 0 0 ≤ 2) :
    Calls Tryz.prog 188 #[.pointer (some ⟨g, o, none⟩)] w fun e w' => ∃ k, e = .returned (.tuple #[.slice (some ⟨g, k, none⟩) (slen s) (slen s), .bool (decide (sform (s.getD 0 0) (sbody s) = s))]) ∧ (0 < slen s → k = o + 7) ∧ Below w.heap.size w w' := by
  have hp := src_part hs (i := 1) (m := 2) (by omega)
  have h2 := taken_any g (o + 1) 2 2 ((s.drop 1).take 2) w ((hb.drop _).take _) hp.1 (by omega) (fun i hi => by have := hp.2.2 _ rfl i hi; rwa [addr_add] at this)
  rw [take2 hs.1, le2 (hb.getD 1).1 (hb.getD 2).1, ← (slen_eq hb)] at h2
  have c0 := hs.2.2 _ rfl 0 (by omega)
  rw [addr_add, Nat.add_zero] at c0
  have g0 := hb.getD 0
  have hbody : ∃ k, Src w (some ⟨g, k, none⟩) (slen s) (sbody s) ∧ (0 < slen s → k = o + 7) ∧ Calls Tryz.prog 179 #[.pointer (some ⟨g, o, none⟩), .int .i64 7, .int .i64 (7 + (slen s : Int))] w fun e w' => e = .returned (.slice (some ⟨g, k, none⟩) (slen s) (slen s)) ∧ w' = w := by
    by_cases h0 : slen s = 0
    · have hcn := cut_none g o 7 w (by omega)
      refine ⟨o, ⟨by rw [sbody_len hN hs.1], (fun e => by cases e), fun x hx i hi => by omega⟩, fun h => by omega, ?_⟩
      rw [h0]
      exact hcn
    · have hc := cut_any g o 7 (7 + slen s) w (by omega) (by omega)
      refine ⟨o + 7, src_part hs (i := 7) (m := slen s) (by omega), fun _ => rfl, ?_⟩
      have e1 : 7 + slen s - 7 = slen s := by omega
      rw [e1] at hc
      have e2 : ((7 + slen s : Nat) : Int) = 7 + (slen s : Int) := by omega
      rw [e2] at hc
      exact hc
  obtain ⟨k, hk, hkk, hc⟩ := hbody
  obtain ⟨t, ht⟩ : ∃ t : Nat, s.getD 0 0 = (t : Int) := ⟨(s.getD 0 0).toNat, by omega⟩
  have hbb : Bytes (sbody s) := (hb.drop _).take _
  rw [ht] at c0 hx ⊢
  have p1 : (∀ q : Later w, Calls Tryz.prog 152 #[.int .u8 (t : Int), .slice (some ⟨g, k, none⟩) (slen s) (slen s)] q.to fun e w' => e = .returned (.agg (bs (sform t (sbody s))).toArray) ∧ Below q.to.heap.size q.to w') :=
    fun q => sealed_any t (some ⟨g, k, none⟩) (slen s) (slen s) (sbody s) q.to (by omega) (hk.later q.h) hN hbb
  have hfl : (sform t (sbody s)).length = 512 := sform_len (by rw [(sbody_len hN hs.1)]; exact hN)
  have hra : ∀ w', (∃ q : Later w, w' = q.to) → w'.rangeAt g o (bs s) := fun w' ⟨q, e⟩ => by rw [e]; exact src_range (hs.later q.h)
  have c0q : ∀ q : Later w, q.to.cell? ⟨g, o, none⟩ = some (.int .u8 (t : Int)) := fun q => cell_later q.h c0
  have Hkk := hkk
  have Hra := hra
  have Hfl := hfl
  have Hsl := hs.1
  have Hinfo := infoSecL (l := s) hs.1
  clear hs hp g0 hk hkk hbb hfl hra
  obtain ⟨R, hR⟩ : ∃ R, R = sform t (sbody s) := ⟨_, rfl⟩
  rw [← hR] at p1 Hfl ⊢
  clear hR
  generalize slen s = N at *
  have hx3 : ¬ 3 ≤ (t : Int) := by omega
  go_enter Tryz.func188, Tryz.ntmps188
  go_wp2_with fail
  refine (cut_any g o 1 3 w (by omega) (by omega)).mono ?_
  rintro e w' ⟨rfl, hw⟩
  have hw' := hw.symm
  subst hw'
  clear hw
  go_wp2_with fail
  refine h2.mono ?_
  rintro e w' ⟨rfl, hw⟩
  have hw' := hw.symm
  subst hw'
  clear hw h2
  go_wp2_with fail
  refine hc.mono ?_
  rintro e w' ⟨rfl, hw⟩
  have hw' := hw.symm
  subst hw'
  clear hw hc
  go_wp2_with fail
  have hne := Later.some w
  refine wp_region_later (by kernel_rfl) (by kernel_rfl) ?_
  repeat (first | go_big_quiet_skip | (go_big_quiet_want; go_big_quiet_op; first | go_big_quiet_on | (apply Exists.intro; refine ⟨fun q => ?_, ?_⟩; exact Calls.later_of (p1 q); go_big_quiet_on)))
  go_big_quiet_want
  refine quiet_load_mid 200 _ rfl g o rfl (bs s) _ Hra Tryz.underlying200 rfl Hinfo ?_
  simp only [Act.put, List.setIfInBounds_toArray, List.set_cons_succ, List.set_cons_zero]
  go_big_quiet_on
  go_big_quiet_want
  refine quiet_eq_sec _ _ _ rfl R s rfl rfl Hfl Hsl ?_
  simp only [Act.put, List.setIfInBounds_toArray, List.set_cons_succ, List.set_cons_zero]
  go_big_quiet_on
  repeat (go_big_quiet_want; go_big_quiet_op; go_big_quiet_on)
  refine wpQuiet_nil ?_
  rintro _ ⟨q, rfl⟩
  go_wp2
  go_ret2
  exact ⟨k, rfl, Hkk, q.h⟩
end Go.Proofs.YtokcgifpljeoiaaGreat
end

section
namespace Go.Proofs.YtokcgifpljeoiaaGreat
open Go.RowKit

set_option maxRecDepth 20000 in
set_option maxHeartbeats 4000000 in
theorem sopen_no1 (a : Option Addr) (n c : Nat) (w : World) (hn : n ≠ 512) :
    Calls Tryz.prog 173 #[.slice a n c] w fun e w' => e = .returned (.tuple #[.slice none 0 0, .int .i64 2]) ∧ Below w.heap.size w w' := by
  have hz := zeroSec
  have hs := sectorOf_no a n c w hn
  have hinfo := infoSecZ
  have hone := zsec_one
  generalize zsec = Z at *
  have hall : Z.all Value.oneCell' = true := all_oneCell_toArray hone
  go_enter Tryz.func173, Tryz.ntmps173
  go_wp2_with fail
  refine hs.mono ?_
  rintro e w1 ⟨rfl, hb1⟩
  have hw1 : (w1.alloc (.cells Z 200)).heap[w1.heap.size]? = some (.cells Z 200 (0, 0)) := heap_alloc_new _ _
  have hth : (w1.alloc (.cells Z 200)).there w1.heap.size 0 Z.toList.length := there_of hw1 (by simp)
  have hB1 : Below w.heap.size w (w1.alloc (.cells Z 200)) := hb1.alloc hb1.size _
  have hsz := hb1.size
  have hB6 := (hB1.trans ((Keeps.setCells (F := fun j => j = w1.heap.size) rfl Z.toList 0 _).below (fun j hj => by omega) hB1.size))
  go_wp2_with (refine wpList_store_mid rfl 200 _ _ rfl w1.heap.size 0 Z rfl rfl ?h1 ?h2 hall ?_)
  case h1 => simpa using hth
  case h2 => simpa using hinfo
  go_ret2
  exact ⟨rfl, hB6⟩

set_option maxRecDepth 20000 in
set_option maxHeartbeats 4000000 in
theorem sopen_all (b o c : Nat) (s : List Int) (w : World) (hs : Src w (some ⟨b, o, none⟩) 512 s) (hbs : Bytes s) :
    Calls Tryz.prog 173 #[.slice (some ⟨b, o, none⟩) 512 c] w fun e w' => ∃ v, e = .returned (.tuple #[v, .int .i64 (((sopens s).2 : Nat) : Int)]) ∧ Lst w' w.heap.size v (sopens s).1 ∧ Below w.heap.size w w' := by
  have hz := zeroSec
  have hs1 := sectorOf_ok b o c s w hs
  have hinfo := infoSecL (l := s) hs.1
  have hone := bs_one s
  have hll : (bs s).length = 512 := by rw [bs, List.length_map, hs.1]
  have hsl := hs.1
  have hall := all_oneCell_toArray hone
  obtain ⟨F, hF⟩ : ∃ F, F = bs s := ⟨_, rfl⟩
  rw [← hF] at hs1 hinfo hone hll hall
  have HF := Hid.mk hF
  clear hone hs hF
  go_enter Tryz.func173, Tryz.ntmps173
  go_wp2_with fail
  refine hs1.mono ?_
  rintro e w1 ⟨rfl, hb1⟩
  have hw1 : (w1.alloc (.cells zsec 200)).heap[w1.heap.size]? = some (.cells zsec 200 (0, 0)) := heap_alloc_new _ _
  have hth := there_of hw1 zsec_size
  rw [← hll] at hth
  have hB1 : Below w.heap.size w (w1.alloc (.cells zsec 200)) := hb1.alloc hb1.size _
  have hsz := hb1.size
  have hB2 := hB1.trans ((Keeps.setCells (F := fun j => j = w1.heap.size) rfl F 0 _).below (fun j hj => by omega) hB1.size)
  have hblk := blk_stored (l := s) hw1 (by rw [zsec_size, hsl])
  rw [← HF.out] at hblk
  obtain ⟨w2, hw2⟩ : ∃ w2, w2 = (w1.alloc (.cells zsec 200)).setCells w1.heap.size 0 F := ⟨_, rfl⟩
  rw [← hw2] at hblk hB2
  have hsrc : Src w2 (some ⟨w1.heap.size, 0, none⟩) 512 s := by
    have := hblk.src (o := 0) (n := 512) (by omega)
    rwa [List.drop_zero, List.take_of_length_le (by omega)] at this
  have HB2 := Hid.mk hB2
  have Hsrc := Hid.mk hsrc
  clear hs1 hw1 hB1 hb1 hblk hB2 hsrc
  go_wp2_with (refine wpList_store_mid rfl 200 _ _ rfl w1.heap.size 0 F.toArray rfl rfl ?h1 ?h2 hall ?_)
  case h1 => simpa using hth
  case h2 => simpa using hinfo
  rw [← hw2]
  clear hw2 hth hinfo hall
  by_cases hbad : 504 < slen s ∨ 2 < s.getD 0 0
  · have hno := sopens_none hsl (sopen_no (fun h => by omega))
    have Hno := Hid.mk hno
    refine (open_no w1.heap.size 0 s w2 Hsrc.out hbs hbad).mono ?_
    rintro e w' ⟨rfl, hw⟩
    have hw' := hw.symm
    subst hw'
    clear hw hno hbad
    go_wp2
    go_ret2
    exact ⟨_, by rw [Hno.out]; rfl, by rw [Hno.out]; exact Lst.nil _ _, HB2.out⟩
  · refine (open_yes w1.heap.size 0 s w2 Hsrc.out hbs (by omega) (by omega)).mono ?_
    rintro e w3 ⟨k, rfl, hk, hb3⟩
    have hsb : Src w3 (some ⟨w1.heap.size, k, none⟩) (slen s) (sbody s) := by
      by_cases h0 : slen s = 0
      · exact ⟨sbody_len (by omega) hsl, (fun e => by cases e), fun x hx i hi => by omega⟩
      · rw [hk (by omega)]
        exact src_part (Hsrc.out.later hb3) (i := 7) (m := slen s) (by omega)
    have HB3 := Hid.mk (HB2.out.trans (hb3.mono HB2.out.size))
    have hbl := sbody_len (s := s) (by omega) hsl
    have hlst : Lst w3 w.heap.size (.slice (some ⟨w1.heap.size, k, none⟩) (slen s) (slen s)) (sbody s) := ⟨some ⟨w1.heap.size, k, none⟩, slen s, by rw [hbl], by rw [hbl]; exact hsb, by omega, fun x hx => by cases hx; exact hsz⟩
    have Hlst := Hid.mk hlst
    clear hsb hlst hk hb3 hbl
    by_cases heq : sform (s.getD 0 0) (sbody s) = s
    · have hy := sopens_some hsl (sopen_yes (by omega) (by omega) heq)
      have Hy := Hid.mk hy
      rw [decide_eq_true heq]
      clear heq hy
      go_wp2
      go_ret2
      exact ⟨_, by rw [Hy.out]; rfl, by rw [Hy.out]; exact Hlst.out, HB3.out⟩
    · have hy := sopens_none hsl (sopen_no (fun h => heq h.2.2))
      have Hy := Hid.mk hy
      rw [decide_eq_false heq]
      clear heq hy
      go_wp2
      go_ret2
      exact ⟨_, by rw [Hy.out]; rfl, by rw [Hy.out]; exact Lst.nil _ _, HB3.out⟩

theorem sopen_any (a : Option Addr) (n c : Nat) (s : List Int) (w : World) (hs : Src w a n s) (hb : Bytes s) :
    Calls Tryz.prog 173 #[.slice a n c] w fun e w' => ∃ v, e = .returned (.tuple #[v, .int .i64 (((sopens s).2 : Nat) : Int)]) ∧ Lst w' w.heap.size v (sopens s).1 ∧ Below w.heap.size w w' := by
  by_cases hn : n = 512
  · subst hn
    obtain ⟨b, o, rfl⟩ := src_spot hs (by omega)
    exact sopen_all b o c s w hs hb
  · refine (sopen_no1 a n c w hn).mono ?_
    rintro e w' ⟨rfl, hbel⟩
    rw [sopens_no1 (by rw [hs.1]; exact hn)]
    exact ⟨_, rfl, Lst.nil _ _, hbel⟩
end Go.Proofs.YtokcgifpljeoiaaGreat
end
