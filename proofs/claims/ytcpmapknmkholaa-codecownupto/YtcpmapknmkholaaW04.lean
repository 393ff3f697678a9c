import Derived.Test.YtcpmapknmkholaaW03
import Derived.Deep.Light
import Derived.Deep.MidRow
import Derived.OwnWalk
import Derived.Deep.RegionLaw
import Derived.Laws.StructEq
section
namespace Go.Proofs.Ytcpmapknmkholaa
open Go.RowKit

/-- The table. -/
def tab : List Value := (List.range 16).map (fun j => Value.int .u32 ((cbs 4 j : Nat) : Int))
theorem tab_len : tab.length = 16 := by simp [tab]
theorem tab_one : ∀ v ∈ tab, v.oneCell' = true := by
  intro v hv
  obtain ⟨j, _, rfl⟩ := List.mem_map.1 hv
  rfl
theorem infoTab : (Try.prog.info? 89).map (·.size) = some tab.length := by rw [tab_len]; kernel_rfl

theorem bit1 (r : Nat) (hr : r < 4294967296) : bits .and .u32 (r : Int) 1 = ((r % 2 : Nat) : Int) := by
  have := u32_and_nat r 1 hr (by omega)
  rw [Nat.and_one_is_mod] at this
  exact this
theorem cb_bits (r : Nat) (hr : r < 4294967296) : bits .xor .u32 ((r : Int) / 2) (2197175160 * ((r : Int) % 2)) = ((cb r : Nat) : Int) := by
  have e1 : ((r : Int) / 2) = ((r / 2 : Nat) : Int) := by omega
  have e2 : (2197175160 * ((r : Int) % 2)) = (((if r % 2 = 1 then 2197175160 else 0) : Nat) : Int) := by
    split <;> omega
  rw [e1, e2, u32_xor_nat _ _ (by omega) (by split <;> omega)]
  rfl

theorem Keeps.setCells {F : Nat → Prop} {b : Nat} (hb : F b) : ∀ (vs : List Value) (o : Nat) (w : World), Keeps F w (w.setCells b o vs)
  | [], _, w => Keeps.refl F w
  | v :: r, o, w => (Keeps.setCell (p := ⟨b, o, none⟩) w hb v).trans (Keeps.setCells hb r (o + 1) _) (fun _ h => .inl h)
theorem size_setCells {b : Nat} : ∀ (vs : List Value) (o : Nat) (w : World), (w.setCells b o vs).heap.size = w.heap.size
  | [], _, _ => rfl
  | v :: r, o, w => by simp only [World.setCells]; rw [size_setCells r]; simp [World.setCell]

theorem results_cell_mid {P : Program} {fn : Func} {p : Tmp} {ty : TypeId} (h : fn.results = #[.cell p ty]) (tmps : Array Value) (w : World) (g : Nat) (cs : List Value) (d : TypeDesc)
    (hp : tmps.getD p undef = .pointer (some ⟨g, 0, none⟩)) (hg : w.rangeAt g 0 cs) (hu : P.underlying ty = some d) (hd : d.isRow = true) (hi : (P.info? ty).map (·.size) = some cs.length) :
    (results fn tmps).run P w = .ok (.agg cs.toArray) w := by
  have hp' : tmps[p]?.getD undef = .pointer (some ⟨g, 0, none⟩) := by simpa using hp
  simp [results, h, hp', asAddr, run_loadVar_mid w g 0 ty cs d hg hu hd hi]

/-- What halves' outer loop keeps. -/
def Half (w wr : World) (k : Nat) : Prop :=
  Below w.heap.size w wr ∧ wr.heap.size = w.heap.size + 2 ∧ (∃ cur : Array Value, cur.size = 16 ∧ wr.heap[w.heap.size]? = some (.cells cur 89 (0, 0))) ∧
    ∃ cs : List Int, cs.length = 16 ∧ wr.heap[w.heap.size + 1]? = some (.cells (cs.map (Value.int .u32)).toArray 89 (0, 0)) ∧ ∀ j, j < k → cs[j]? = some ((cbs 4 j : Nat) : Int)

theorem Half.next {w wr : World} {k : Nat} (h : Half w wr k) (hk : k < 16) : (∃ v, wr.cell? ⟨w.heap.size + 1, k, none⟩ = some (.int .u32 v)) ∧ wr.frozen? ⟨w.heap.size + 1, k, none⟩ = false ∧
    Half w (wr.setCell ⟨w.heap.size + 1, k, none⟩ (.int .u32 ((cbs 4 k : Nat) : Int))) (k + 1) := by
  obtain ⟨hb, hs, ⟨cur, hc, hcb⟩, cs, hl, hblk, hcs⟩ := h
  have hkl : k < cs.length := by omega
  refine ⟨⟨cs[k], cell_of_block hblk (by simp [hkl])⟩, frozen_of_block hblk k, ?_, ?_, ⟨cur, hc, ?_⟩, cs.set k ((cbs 4 k : Nat) : Int), by simp [hl], ?_, ?_⟩
  · exact hb.trans ((Keeps.setCell (F := fun j => j = w.heap.size + 1) (p := ⟨w.heap.size + 1, k, none⟩) wr rfl _).below (fun j hj => by omega) (by omega))
  · simpa [World.setCell] using hs
  · rw [Below.heap_setCell _ _ _ _ (by simp)]; exact hcb
  · rw [heap_setCell_same _ _ _ _ _ _ hblk]
    congr 2
    apply Array.ext'
    simp [List.map_set]
  · intro j hj
    by_cases e : j = k
    · subst e; simp [hkl]
    · rw [List.getElem?_set_ne (by omega)]; exact hcs j (by omega)

theorem Half.done {w wr : World} (h : Half w wr 16) : wr.rangeAt (w.heap.size + 1) 0 tab ∧ wr.there w.heap.size 0 tab.length := by
  obtain ⟨hb, hs, ⟨cur, hc, hcb⟩, cs, hl, hblk, hcs⟩ := h
  constructor
  · intro j v hv
    have hj : j < 16 := by
      have := (List.getElem?_eq_some_iff.1 hv).1
      rwa [tab_len] at this
    rw [Nat.zero_add]
    refine cell_of_block hblk ?_
    rw [← hv]
    simp [tab, hcs j hj, hj]
  · intro j hj
    rw [tab_len] at hj
    rw [Nat.zero_add]
    exact ⟨by rw [cell_of_block hcb (j := j) (u := cur[j]'(by omega)) (by simp [show j < cur.size by omega])]; rfl, frozen_of_block hcb j⟩

set_option maxHeartbeats 2000000 in
theorem halves_any (w : World) :
    Calls Try.prog 49 #[] w fun e w' => e = .returned (.agg tab.toArray) ∧ Below w.heap.size w w' := by
  go_enter Try.func49, Try.ntmps49
  go_wp2
  go_loopw [5] (fun i wr => ∃ k : Nat, k ≤ 16 ∧ i = .int .i64 k ∧ Half w wr k) (fun i _ => 16 - (intOf i).toNat)
  case atStart =>
    refine ⟨0, Nat.zero_le _, rfl, Below.alloc (Below.alloc (Below.refl _ _) (Nat.le_refl _) _) (by simp) _, by simp, ⟨_, ?_, heap_alloc2_old _ _ _⟩, List.replicate 16 0, by simp, ?_, fun j hj => by omega⟩
    · rfl
    · rw [heap_alloc2_new]; rfl
  case round =>
    obtain ⟨k, hk, rfl, hhalf⟩ := hrel
    by_cases hlt : k < 16
    · have hlt' : (k : Int) < 16 := by omega
      obtain ⟨⟨v0, hc⟩, hf, hnext⟩ := hhalf.next hlt
      have HN := Hid.mk hnext
      clear hnext hhalf
      go_wp2
      go_loopw [3, 10] (fun r i wx => ∃ m : Nat, m ≤ 4 ∧ i = .int .i64 m ∧ wx = wr ∧ r = .int .u32 ((cbs m k : Nat) : Int)) (fun _ i _ => 4 - (intOf i).toNat)
      case atStart => exact ⟨0, Nat.zero_le _, rfl, rfl, rfl⟩
      case round =>
        obtain ⟨m, hm, rfl, rfl, rfl⟩ := hrel
        have hr : cbs m k < 4294967296 := cbs_lt m (by omega)
        by_cases hlm : m < 4
        · have hlm' : (m : Int) < 4 := by omega
          have hb1 := bit1 (cbs m k) hr
          have hb2 := Hid.mk (cb_bits (cbs m k) hr)
          have hb3 : cb (cbs m k) = cbs (m + 1) k := by rw [cbs_add]; rfl
          have Hb3 := Hid.mk hb3
          clear hb3
          go_wp2
          go_roundw
          case rel => exact ⟨m + 1, by omega, by go_num, trivial, by rw [← Hb3.out, ← hb2.out]⟩
          case measure => simp [intOf]; omega
        · have hlm' : ¬ (m : Int) < 4 := by omega
          have hm4 : m = 4 := by omega
          subst hm4
          go_wp2
          go_roundw
          case rel => exact ⟨k + 1, by omega, by go_num, HN.out⟩
          case measure => simp [intOf]; omega
    · have hlt' : ¬ (k : Int) < 16 := by omega
      have hk16 : k = 16 := by omega
      subst hk16
      obtain ⟨hra, hth⟩ := hhalf.done
      have hbel := hhalf.1
      have hrs := Hid.mk (World.rangeAt_setCells_same wr w.heap.size 0 tab hth)
      have hall := all_oneCell_toArray tab_one
      have hb2 : Hid (Below w.heap.size w (wr.setCells w.heap.size 0 tab)) := hbel.trans ((Keeps.setCells (F := fun j => j = w.heap.size) rfl tab 0 wr).below (fun j hj => by omega) hbel.size)
      clear hhalf
      go_wp2_with (first | refine wpList_load_mid rfl 89 _ rfl (w.heap.size + 1) 0 rfl tab _ hra Try.underlying89 rfl infoTab ?_ | refine wpList_store_mid rfl 89 _ _ rfl w.heap.size 0 tab.toArray rfl rfl ?h1 ?h2 hall ?_)
      case h2 => exact Option.map_eq_some_iff.1 infoTab
      exact bodyPost_ret (results_cell_mid (P := Try.prog) rfl _ _ w.heap.size tab _ rfl hrs.out Try.underlying89 rfl infoTab) rfl ⟨rfl, hb2.out⟩

theorem tab_at {w : World} {g : Nat} (hg : w.heap[g]? = some (.cells tab.toArray 89 (0, 0))) (i : Nat) (hi : i < 16) : w.cell? ⟨g, i, none⟩ = some (.int .u32 ((cbs 4 i : Nat) : Int)) :=
  cell_of_block hg (by simp [tab, hi])
theorem and15 (r : Nat) (hr : r < 4294967296) : bits .and .u32 (r : Int) 15 = ((r % 16 : Nat) : Int) := by
  have := u32_and_nat r 15 hr (by omega)
  rw [show (15 : Nat) = 2 ^ 4 - 1 from rfl, Nat.and_two_pow_sub_one_eq_mod] at this
  exact this
theorem nib_bits (r : Nat) (hr : r < 4294967296) : bits .xor .u32 ((r : Int) / 16) ((cbs 4 (r % 16) : Nat) : Int) = ((cbs 4 r : Nat) : Int) := by
  have e1 : ((r : Int) / 16) = ((r / 16 : Nat) : Int) := by omega
  rw [e1, u32_xor_nat _ _ (by omega) (cbs_lt 4 (by omega)), ← cbs_nib]

set_option maxHeartbeats 2000000 in
theorem through_low (b o n c : Nat) (l : List Int) (w : World) (hb : Bytes l) (hl : l.length = n) (hn : n ≤ 140737488355328) (hs : ∀ i, i < n → w.cell? ⟨b, o + i, none⟩ = some (.int .u8 (l.getD i 0))) :
    Calls Try.prog 48 #[.agg tab.toArray, .int .u32 4294967295, .slice (some ⟨b, o, none⟩) n c] w fun e w' => e = .returned (.int .u32 ((crc 4294967295 l : Nat) : Int)) ∧ Below w.heap.size w w' := by
  have Hs := Hid.mk hs
  clear hs
  go_enter Try.func48, Try.ntmps48
  go_wp2
  go_loopw [1, 11] (fun r i wr => ∃ k : Nat, k ≤ n ∧ i = .int .i64 k ∧ wr = w.alloc (.cells tab.toArray 89) ∧ r = .int .u32 ((crc 4294967295 (l.take k) : Nat) : Int)) (fun _ i _ => n - (intOf i).toNat)
  case atStart => exact ⟨0, Nat.zero_le _, rfl, rfl, by simp [crc_nil]⟩
  case round =>
    obtain ⟨k, hk, rfl, rfl, rfl⟩ := hrel
    by_cases hlt : k < n
    · have hlt' : (k : Int) < (n : Int) := by omega
      have hc : (w.alloc (.cells tab.toArray 89)).cell? ⟨b, o + k, none⟩ = some (.int .u8 (l.getD k 0)) := Lib.cell?_alloc_some _ (Hs.out k hlt)
      have hcb : b < w.heap.size := World.block_lt_of_cell? _ _ (Hs.out k hlt)
      have htab : (w.alloc (.cells tab.toArray 89)).heap[w.heap.size]? = some (.cells tab.toArray 89 (0, 0)) := heap_alloc_new _ _
      have hkl : k < l.length := by omega
      obtain ⟨x, hx, hx1⟩ : ∃ x : Nat, l.getD k 0 = (x : Int) ∧ x < 256 := by
        have := hb l[k] (List.getElem_mem hkl)
        refine ⟨(l.getD k 0).toNat, ?_, ?_⟩ <;> simp [List.getD, hkl] <;> omega
      have htk : Bytes (l.take k) := fun y hy => hb y (List.mem_of_mem_take hy)
      have hr : crc 4294967295 (l.take k) < 4294967296 := crc_lt (by omega) htk
      have hsn : crc 4294967295 (l.take (k + 1)) = cbs 8 (crc 4294967295 (l.take k) ^^^ x) := by
        rw [List.take_succ_eq_append_getElem hkl, crc_snoc _ _ htk]
        congr 2
        have : l.getD k 0 = l[k] := by simp [List.getD, hkl]
        rw [← this, hx]; simp
      have Hsn := Hid.mk hsn
      rw [hx] at hc
      generalize hR : crc 4294967295 (l.take k) = R at *
      have hq : R ^^^ x < 4294967296 := by
        have : R ^^^ x < 2 ^ 32 := Nat.xor_lt_two_pow (by omega) (by omega)
        omega
      have e1 : bits .xor .u32 (R : Int) (x : Int) = ((R ^^^ x : Nat) : Int) := u32_xor_nat _ _ hr (by omega)
      have t1 := tab_at htab ((R ^^^ x) % 16) (by omega)
      have e2 := and15 (R ^^^ x) hq
      have e3 := nib_bits (R ^^^ x) hq
      have hq2 : cbs 4 (R ^^^ x) < 4294967296 := cbs_lt 4 hq
      have t2 := tab_at htab (cbs 4 (R ^^^ x) % 16) (by omega)
      have e4 := and15 (cbs 4 (R ^^^ x)) hq2
      have e5 := nib_bits (cbs 4 (R ^^^ x)) hq2
      have e6 : cbs 4 (cbs 4 (R ^^^ x)) = cbs 8 (R ^^^ x) := (cbs_add 4 4 _).symm
      have hxw : IntKind.u32.wrap (x : Int) = (x : Int) := by rw [IntKind.wrap_u32]; omega
      have i1 : (R ^^^ x) % 16 < 16 := by omega
      have i2 : cbs 4 (R ^^^ x) % 16 < 16 := by omega
      clear htab hsn hR htk hq hr hq2 hx
      go_wp2
      go_roundw
      case rel => exact ⟨k + 1, by omega, by go_num, trivial, by rw [Hsn.out]⟩
      case measure => simp [intOf]; omega
    · have hlt' : ¬ (k : Int) < (n : Int) := by omega
      have hkn : l.take k = l := List.take_of_length_le (by omega)
      have HB : Hid (Below w.heap.size w (w.alloc (.cells tab.toArray 89))) := (Below.refl _ w).alloc (Nat.le_refl _) _
      rw [hkn] at *
      go_wp2
      go_ret
      exact ⟨rfl, HB.out⟩

set_option maxHeartbeats 1000000 in
theorem through_none (a : Option Addr) (c : Nat) (w : World) :
    Calls Try.prog 48 #[.agg tab.toArray, .int .u32 4294967295, .slice a 0 c] w fun e w' => e = .returned (.int .u32 ((crc 4294967295 [] : Nat) : Int)) ∧ Below w.heap.size w w' := by
  have HB : Hid (Below w.heap.size w (w.alloc (.cells tab.toArray 89))) := (Below.refl _ w).alloc (Nat.le_refl _) _
  rw [crc_nil]
  go_enter Try.func48, Try.ntmps48
  go_wp2
  refine wp_loop_rounds 1 ?_; rw [rounds_succ]; go_wp2
  go_ret
  exact ⟨rfl, HB.out⟩

theorem through_any (a : Option Addr) (n c : Nat) (l : List Int) (w : World) (hb : Bytes l) (hn : n ≤ 140737488355328) (hs : Src w a n l) :
    Calls Try.prog 48 #[.agg tab.toArray, .int .u32 4294967295, .slice a n c] w fun e w' => e = .returned (.int .u32 ((crc 4294967295 l : Nat) : Int)) ∧ Below w.heap.size w w' := by
  by_cases h0 : n = 0
  · subst h0
    have : l = [] := List.eq_nil_of_length_eq_zero hs.1
    subst this
    exact through_none a c w
  · cases a with
    | none => exact absurd (hs.2.1 rfl) h0
    | some x =>
      obtain ⟨b, o, rfl, k⟩ := hs.spot (by omega)
      exact through_low b o n c l w hb hs.1 hn k

theorem not_bits (r : Nat) (hr : r < 4294967296) : bits .xor .u32 IntKind.u32.max (r : Int) = ((r ^^^ 4294967295 : Nat) : Int) := by
  have e : IntKind.u32.max = ((4294967295 : Nat) : Int) := by decide
  rw [e, u32_xor_nat _ _ (by omega) hr, Nat.xor_comm]

set_option maxHeartbeats 1000000 in
theorem sum_any (a : Option Addr) (n c : Nat) (l : List Int) (w : World) (hb : Bytes l) (hn : n ≤ 140737488355328) (hs : Src w a n l) :
    Calls Try.prog 40 #[.slice a n c] w fun e w' => e = .returned (.int .i64 ((sumOf l : Nat) : Int)) ∧ Below w.heap.size w w' := by
  have hh := halves_any w
  have Hs := Hid.mk hs
  have hr := crc_lt (r := 4294967295) (by omega) hb
  have hnb := not_bits _ hr
  have hq0 : crc 4294967295 l ^^^ 4294967295 < 4294967296 := sumOf_lt hb
  have hq : wrap64 ((crc 4294967295 l ^^^ 4294967295 : Nat) : Int) = ((crc 4294967295 l ^^^ 4294967295 : Nat) : Int) := by unfold wrap64; omega
  clear hs
  unfold sumOf
  go_enter Try.func40, Try.ntmps40
  go_wp2_with fail
  refine hh.mono ?_
  rintro e w1 ⟨rfl, hb1⟩
  have ht := through_any a n c l w1 hb hn (Hs.out.later hb1)
  have HB := Hid.mk hb1
  clear hh hb1
  go_wp2_with fail
  refine ht.mono ?_
  rintro e w2 ⟨rfl, hb2⟩
  have HB2 : Hid (Below w.heap.size w w2) := HB.out.trans (hb2.mono HB.out.size)
  clear ht hb2
  go_wp2
  go_ret
  exact ⟨rfl, HB2.out⟩
end Go.Proofs.Ytcpmapknmkholaa
end

section
namespace Go.Proofs.Ytcpmapknmkholaa
open Go.RowKit

/-- The bytes of a number, the lowest first. -/
def leb : Nat → Nat → List Int
  | 0, _ => []
  | k + 1, m => ((m % 256 : Nat) : Int) :: leb k (m / 256)
theorem leb_len : ∀ k m, (leb k m).length = k
  | 0, _ => rfl
  | k + 1, m => by simp [leb, leb_len k]
theorem leb_snoc : ∀ k m, leb (k + 1) m = leb k m ++ [((m / 256 ^ k % 256 : Nat) : Int)]
  | 0, m => by simp [leb]
  | k + 1, m => by
    rw [leb, leb_snoc k (m / 256), leb]
    simp [Nat.div_div_eq_div_mul, Nat.pow_succ, Nat.mul_comm]
theorem leb_bytes : ∀ k m, Bytes (leb k m)
  | 0, _ => by intro x hx; cases hx
  | k + 1, m => by
    intro x hx
    rcases List.mem_cons.1 hx with rfl | hx
    · omega
    · exact leb_bytes k _ x hx

/-- A writer at p that holds the bytes l; it, and its bytes, lie at B or above. -/
def WAt (w : World) (B p : Nat) (l : List Int) : Prop :=
  B ≤ p ∧ B ≤ w.heap.size ∧ ∃ v, w.heap[p]? = some (.cells #[v] 59 (0, 0)) ∧ w.ownsRow B 5 1 v l.length (bs l) ∧ v.ownBlock ≠ some p

theorem WAt.lt {w : World} {B p : Nat} {l : List Int} (h : WAt w B p l) : p < w.heap.size := by
  obtain ⟨_, _, v, hp, _⟩ := h
  exact (Array.getElem?_eq_some_iff.1 hp).1

theorem RowAt.ne {w : World} {e e' : TypeId} {g c q : Nat} {xs : List Value} {cur : Array Value} {fz : Nat × Nat} (h : RowAt w e g c xs) (hq : w.heap[q]? = some (.cells cur e' fz)) (he : e' ≠ e) : g ≠ q := by
  intro e1
  obtain ⟨cur', hb, _⟩ := h
  rw [e1, hq] at hb
  simp at hb
  exact he hb.2.1
/-- What is appended is stored back. -/
theorem WAt.put {w w1 : World} {B p : Nat} {l' : List Int} {v : Value} {g c : Nat} (hB : B ≤ p) (hz : B ≤ w.heap.size) (hp : w.heap[p]? = some (.cells #[v] 59 (0, 0))) (hn : v.ownBlock ≠ some p) (hlt : ∀ k, v.ownBlock = some k → B ≤ k)
    (hgrow : w.grownBy w1 v.ownBlock) (hown : w1.ownsRow B 5 1 (.slice (some ⟨g, 0, none⟩) l'.length c) l'.length (bs l')) :
    w1.cell? ⟨p, 0, none⟩ = some v ∧ w1.frozen? ⟨p, 0, none⟩ = false ∧ WAt (w1.setCell ⟨p, 0, none⟩ (.slice (some ⟨g, 0, none⟩) l'.length c)) B p l' ∧ Below B w (w1.setCell ⟨p, 0, none⟩ (.slice (some ⟨g, 0, none⟩) l'.length c)) := by
  have hpl : p < w.heap.size := (Array.getElem?_eq_some_iff.1 hp).1
  have hp1 : w1.heap[p]? = some (.cells #[v] 59 (0, 0)) := (hgrow.block p hpl (fun e => hn e.symm)).trans hp
  have hg : g ≠ p := by
    obtain ⟨g', c', hv, _, hr, _⟩ := RowAt.of_owns hown (by simp)
    cases hv
    exact hr.ne hp1 (by decide)
  have hb1 : Below B w w1 := (Below.refl _ w).grown hgrow hz (fun k e => hlt k e)
  refine ⟨cell_of_block hp1 rfl, frozen_of_block hp1 0, ⟨hB, ?_, _, heap_setCell_same _ _ _ _ _ _ hp1, ?_, ?_⟩, ?_⟩
  · simp [World.setCell]; exact Nat.le_trans hz hgrow.size
  · exact hown.kept (grown_setCell w1 ⟨p, 0, none⟩ _) (.inr (by simpa [Value.ownBlock] using hg))
  · simpa [Value.ownBlock] using hg
  · exact hb1.trans ((Keeps.setCell (F := fun j => j = p) (p := ⟨p, 0, none⟩) w1 rfl _).below (fun j hj => by omega) (Nat.le_trans hz hgrow.size))

set_option maxHeartbeats 4000000 in
theorem wnumber_any (p B : Nat) (l : List Int) (m width : Nat) (w : World) (h : WAt w B p l) (hl : l.length + width ≤ 100000) (hm : m ≤ 9223372036854775807) :
    Calls Try.prog 23 #[.pointer (some ⟨p, 0, none⟩), .int .i64 (m : Int), .int .i64 (width : Int)] w fun e w' => e = .returned (.tuple #[]) ∧ WAt w' B p (l ++ leb width m) ∧ Below B w w' := by
  obtain ⟨i0, hi, hz0, hz1, hz2⟩ := info_parts infoU8
  have H := Hid.mk h
  clear h
  go_enter Try.func23, Try.ntmps23
  go_wp2
  go_loopw [1, 7] (fun r i wr => ∃ k : Nat, k ≤ width ∧ i = .int .i64 k ∧ r = .int .i64 ((m / 256 ^ k : Nat) : Int) ∧ WAt wr B p (l ++ leb k m) ∧ Below B w wr) (fun _ i _ => width - (intOf i).toNat)
  case atStart => exact ⟨0, Nat.zero_le _, rfl, by simp, by simpa [leb] using H.out, Below.refl _ _⟩
  case round =>
    obtain ⟨k, hk, rfl, rfl, hat, hbr⟩ := hrel
    by_cases hlt : k < width
    · have hlt' : (k : Int) < (width : Int) := by omega
      obtain ⟨hB, hz, v, hp, hown, hn⟩ := hat
      have hcell := cell_of_block hp (j := 0) rfl
      have hlen : (l ++ leb k m).length = l.length + k := by simp [leb_len]
      rw [hlen] at hown
      have hM : m / 256 ^ k ≤ 9223372036854775807 := Nat.le_trans (Nat.div_le_self _ _) hm
      have e1 : m / 256 ^ (k + 1) = m / 256 ^ k / 256 := by rw [Nat.div_div_eq_div_mul, Nat.pow_succ]
      have e2 := leb_snoc k m
      generalize hQ : m / 256 ^ k = Q at *
      have Hown := Hid.mk hown
      have Hp := Hid.mk hp
      have HB := Hid.mk hbr
      have Hn := Hid.mk hn
      have He1 := Hid.mk e1
      have He2 := Hid.mk e2
      clear hown hp hbr hn hQ e1 e2
      go_wp2_with (at_builtin; refine wpList_append_own _ rfl _ _ 36 rfl B 5 i0 (.int .u8 0) 1 1 Try.underlying36 hi hz0 hz1 hz2 rfl (by decide) _ _ _ rfl (Hown.out.alloc _) ⟨wr.heap.size, 0, none⟩ 1 1 [.int .u8 ((Q : Int) % 256)] rfl rfl ?n1 ?n2 ?n3 ?n4 ?n5 ?_)
      case n1 => exact cell_one_new _ _ _
      case n2 => intro u hu; simp at hu; subst hu; rfl
      case n3 => unfold maxLen; omega
      case n4 => omega
      case n5 => simp; omega
      intro v' w1 hown' hgrow' hnil
      obtain ⟨g, c, rfl, hg, hr, hlr⟩ := RowAt.of_owns hown' hnil
      have eN : List.map (Value.int .u8) l ++ (List.map (Value.int .u8) (leb k m) ++ [.int .u8 ((Q : Int) % 256)]) = bs (l ++ leb (k + 1) m) := by
        rw [He2.out]
        simp [bs]
      have eL : l.length + k + 1 = (l ++ leb (k + 1) m).length := by simp [leb_len]; omega
      rw [eN, eL] at hown'
      have hz' : B ≤ (wr.alloc (.cells #[.int .u8 ((Q : Int) % 256)] 5)).heap.size := by simp; omega
      have hpl : p < wr.heap.size := (Array.getElem?_eq_some_iff.1 Hp.out).1
      obtain ⟨k1, k2, k3, k4⟩ := WAt.put hB hz' ((Below.heap_alloc _ _ _ hpl).trans Hp.out) Hn.out (fun k e => (Hown.out.lt k e).1) hgrow' hown'
      rw [← eL] at k3 k4
      have HK := Hid.mk (And.intro k3 (((HB.out.alloc hz _).trans k4)))
      clear hown' hgrow' hnil hr hg eN eL k3 k4 Hown Hp HB Hn He2
      go_wp2
      go_roundw
      case rel => exact ⟨k + 1, by omega, by go_num, by rw [He1.out]; simp, HK.out⟩
      case measure => simp [intOf]; omega
    · have hlt' : ¬ (k : Int) < (width : Int) := by omega
      have hkw : k = width := by omega
      subst hkw
      have HH := Hid.mk (And.intro hat hbr)
      clear hat hbr
      go_wp2
      go_end0
      exact ⟨rfl, HH.out⟩

/-- A text's bytes. -/
def txt (s : ByteArray) : List Int := s.data.toList.map (fun b => (b.toNat : Int))
theorem txt_len (s : ByteArray) : (txt s).length = s.size := by simp [txt]
theorem txt_cells (s : ByteArray) : Lib.strCells s = bs (txt s) := by simp [Lib.strCells, bs, txt]
theorem txt_bytes (s : ByteArray) : Bytes (txt s) := by
  intro x hx
  obtain ⟨b, _, rfl⟩ := List.mem_map.1 hx
  have := b.toNat_lt
  omega

set_option maxHeartbeats 4000000 in
theorem wtext_any (p B : Nat) (l : List Int) (s : ByteArray) (w : World) (h : WAt w B p l) (hs : 0 < s.size) (hl : l.length + s.size ≤ 100000) :
    Calls Try.prog 27 #[.pointer (some ⟨p, 0, none⟩), .string s] w fun e w' => e = .returned (.tuple #[]) ∧ WAt w' B p (l ++ txt s) ∧ Below B w w' := by
  obtain ⟨i0, hi, hz0, hz1, hz2⟩ := info_parts infoU8
  obtain ⟨hB, hz, v, hp, hown, hn⟩ := h
  have hcell := cell_of_block hp (j := 0) rfl
  have Hown := Hid.mk hown
  have Hp := Hid.mk hp
  have Hn := Hid.mk hn
  clear hown hp hn
  go_enter Try.func27, Try.ntmps27
  go_wp2_with (at_builtin; refine Lib.wpList_append_own_string _ rfl _ _ 36 9 rfl B 5 i0 Try.underlying36 Try.underlying9 hi hz0 hz1 hz2 _ _ _ rfl Hown.out s rfl ?n3 ?n4 ?n5 ?_)
  case n3 => unfold maxLen; omega
  case n4 => omega
  case n5 => exact hz
  intro v' w1 hown' hgrow' hnil
  have hv : v' ≠ .slice none 0 0 := by rintro rfl; rcases hown'.2 with ⟨_, h⟩ | ⟨_, _, _, h, _⟩; omega; cases h
  obtain ⟨g, c, rfl, hg, hr, hlr⟩ := RowAt.of_owns hown' hv
  rw [txt_cells] at hown'
  have eN : bs l ++ bs (txt s) = bs (l ++ txt s) := by simp [bs]
  have eL : l.length + s.size = (l ++ txt s).length := by simp [txt_len]
  rw [eN, eL] at hown'
  obtain ⟨k1, k2, k3, k4⟩ := WAt.put hB hz Hp.out Hn.out (fun k e => (Hown.out.lt k e).1) hgrow' hown'
  rw [← eL] at k3 k4
  have HK := Hid.mk (And.intro k3 k4)
  clear hown' hgrow' hnil hr hg eN eL k3 k4 Hown Hp Hn hv hlr
  go_wp2
  go_end0
  exact ⟨rfl, HK.out⟩

/-- append(b, make([]byte, n)...) as a step of a region that draws. -/
theorem step_zeros {ops : Array Oper} {o : Oper} {a : Act} {w : World} {K : Act → World → Prop} {Q : Exit → Act → World → Prop} {E : Prop}
    (hg : o.guard = none) (s x : Operand) (hop : o.op = Op.call { callee := Callee.builtin Builtin.append, args := #[s, x], argTypes := #[36, 3] })
    (base : Nat) (v : Value) (n : Nat) (l : List Int) (m : Nat) (hs : a.eval s = v) (hx : a.eval x = .int .i64 (m : Int)) (hown : w.ownsRow base 5 1 v n (bs l)) (hm : n + m ≤ 1000000) (hbase : base ≤ w.heap.size) (hpos : 0 < n + m)
    (hK : ∀ g c w', w'.ownsRow base 5 1 (.slice (some ⟨g, 0, none⟩) (n + m) c) (n + m) (bs (l ++ List.replicate m 0)) → w.grownBy w' v.ownBlock → K (a.put o.dst (.slice (some ⟨g, 0, none⟩) (n + m) c)) w') :
    if Region.wanted o (yielded ops a.tmps) = true then Oper.wp Try.prog o a w K Q else E := by
  have hw : Region.wanted o (yielded ops a.tmps) = true := by simp [Region.wanted, hg]
  rw [if_pos hw]
  obtain ⟨g, c, w', hrun, r1, r2⟩ := append_zeros w base o.type v n l m hown hm hbase hpos
  unfold Oper.wp
  simp [execOp, hop, resolve, invoke, builtin, hs, hx, hrun, Result.andThen]
  exact hK g c w' r1 r2

set_option maxHeartbeats 4000000 in
theorem wzeros_any (p B : Nat) (l : List Int) (m : Nat) (w : World) (h : WAt w B p l) (hl0 : 0 < l.length) (hl : l.length + m ≤ 100000) :
    Calls Try.prog 24 #[.pointer (some ⟨p, 0, none⟩), .int .i64 ((l.length + m : Nat) : Int)] w fun e w' => e = .returned (.tuple #[]) ∧ WAt w' B p (l ++ List.replicate m 0) ∧ Below B w w' := by
  obtain ⟨hB, hz, v, hp, hown, hn⟩ := h
  obtain ⟨g, c, hv, hgB, hr, _⟩ := RowAt.of_owns hown (by rintro rfl; rcases hown.2 with ⟨_, h⟩ | ⟨_, _, _, h, _⟩; omega; cases h)
  subst hv
  have hcell := cell_of_block hp (j := 0) rfl
  have hdr : w.drew.ownsRow B 5 1 (.slice (some ⟨g, 0, none⟩) l.length c) l.length (bs l) := hown
  have Hown := Hid.mk hdr
  have Hp := Hid.mk hp
  have Hn := Hid.mk hn
  have hlt := Hid.mk (fun k e => (hown.lt k e).1)
  have esub : ((l.length + m : Nat) : Int) - (l.length : Int) = (m : Int) := by omega
  have keyz : ∀ {g2 c2 : Nat} {w2 : World}, w2.ownsRow B 5 1 (.slice (some ⟨g2, 0, none⟩) (l.length + m) c2) (l.length + m) (bs (l ++ List.replicate m 0)) → w.drew.grownBy w2 (Value.ownBlock (.slice (some ⟨g, 0, none⟩) l.length c)) →
      w2.cell? ⟨p, 0, none⟩ = some (.slice (some ⟨g, 0, none⟩) l.length c) ∧ w2.frozen? ⟨p, 0, none⟩ = false ∧ Hid (WAt (w2.setCell ⟨p, 0, none⟩ (.slice (some ⟨g2, 0, none⟩) (l.length + m) c2)) B p (l ++ List.replicate m 0) ∧ Below B w (w2.setCell ⟨p, 0, none⟩ (.slice (some ⟨g2, 0, none⟩) (l.length + m) c2))) := by
    intro g2 c2 w2 hown2 hgrow2
    have eL : l.length + m = (l ++ List.replicate m (0 : Int)).length := by simp
    rw [eL] at hown2
    obtain ⟨k1, k2, k3, k4⟩ := WAt.put (w := w.drew) hB hz hp hn (fun k e => (hown.lt k e).1) hgrow2 hown2
    rw [← eL] at k3 k4
    exact ⟨k1, k2, k3, ⟨k4.os, k4.tape, k4.output, k4.size, k4.block⟩⟩
  have hwm : IntKind.i64.wrap (m : Int) = (m : Int) := by rw [IntKind.wrap_i64]; omega
  generalize hN : l.length + m = N at *
  clear hown hp hn hr hdr
  go_enter Try.func24, Try.ntmps24
  go_wp2
  go_region_law
    (first
      | (refine step_zeros (by rfl) _ _ (by rfl) B (.slice (some ⟨g, 0, none⟩) l.length c) l.length l m (by rfl) (by rfl) Hown.out (by omega) hz (by omega) ?_; intro g2 c2 w2 hown2 hgrow2; obtain ⟨k1, k2, k3⟩ := keyz (hN ▸ hown2) hgrow2))
  all_goals
    go_end0
    exact ⟨rfl, k3.out⟩
end Go.Proofs.Ytcpmapknmkholaa
end

section
namespace Go.Proofs.Ytcpmapknmkholaa
open Go.RowKit

/-- A right geometry. -/
def Geo (s l n : Int) : Prop := (18 ≤ l ∧ l ≤ 256) ∧ (4 ≤ n ∧ n ≤ 1024) ∧ n % 4 = 0 ∧ (l + n / 4 + 6 ≤ s ∧ s ≤ 2048)
/-- What Plan answers. -/
def planOut (s l n : Int) (v : Value) (x : Int) : Prop :=
  (Geo s l n ∧ v = .agg #[.int .i64 l, .int .i64 (3 + l), .int .i64 (s - (3 + l)), .int .i64 n, .int .i64 (2 + n / 4)] ∧ x = 0) ∨ (¬ Geo s l n ∧ v = .agg #[.int .i64 0, .int .i64 0, .int .i64 0, .int .i64 0, .int .i64 0] ∧ x = 22)

theorem below_two (w : World) (a b : Obj) : Below w.heap.size w ((w.alloc a).alloc b) := Below.alloc (Below.alloc (Below.refl _ _) (Nat.le_refl _) _) (by simp) _

set_option maxHeartbeats 1000000 in
theorem plan_good (s l n : Int) (w : World) (l1 : 18 ≤ l) (l2 : l ≤ 256) (n1 : 4 ≤ n) (n2 : n ≤ 1024) (h3 : n % 4 = 0) (s1 : l + n / 4 + 6 ≤ s) (s2 : s ≤ 2048) :
    Calls Try.prog 34 #[.agg #[.int .i64 s, .int .i64 l, .int .i64 n]] w fun e w' => e = .returned (.tuple #[.agg #[.int .i64 l, .int .i64 (3 + l), .int .i64 (s - (3 + l)), .int .i64 n, .int .i64 (2 + n / 4)], .int .i64 0]) ∧ Below w.heap.size w w' := by
  have hm : n.tmod 4 = n % 4 := Int.tmod_eq_emod_of_nonneg (by omega)
  have hd : n.tdiv 4 = n / 4 := Int.tdiv_eq_ediv_of_nonneg (by omega)
  have h3' : (n % 4 != 0) = false := by simp [h3]
  have s3 : 3 + l + (2 + n / 4) + 1 ≤ s := by omega
  clear h3
  go_enter Try.func34, Try.ntmps34
  go_wp2
  refine bodyPost_ret (v := .tuple #[.agg #[.int .i64 l, .int .i64 (3 + l), .int .i64 (s - (3 + l)), .int .i64 n, .int .i64 (2 + n / 4)], .int .i64 0]) (by simp [results, Try.results34, go_sem]) rfl ⟨rfl, below_two w _ _⟩

set_option maxHeartbeats 1000000 in
theorem plan_badl (s l n : Int) (w : World) (h : ¬ (18 ≤ l ∧ l ≤ 256)) :
    Calls Try.prog 34 #[.agg #[.int .i64 s, .int .i64 l, .int .i64 n]] w fun e w' => e = .returned (.tuple #[.agg #[.int .i64 0, .int .i64 0, .int .i64 0, .int .i64 0, .int .i64 0], .int .i64 22]) ∧ Below w.heap.size w w' := by
  by_cases h1 : 18 ≤ l
  · have h2 : ¬ l ≤ 256 := by omega
    have h3 : ¬ l < 18 := by omega
    have h4 : 256 < l := by omega
    clear h
    go_enter Try.func34, Try.ntmps34
    go_wp2
    exact bodyPost_ret (v := .tuple #[.agg #[.int .i64 0, .int .i64 0, .int .i64 0, .int .i64 0, .int .i64 0], .int .i64 22]) (by simp [results, Try.results34, go_sem]) rfl ⟨rfl, below_two w _ _⟩
  · have h3 : l < 18 := by omega
    clear h
    go_enter Try.func34, Try.ntmps34
    go_wp2
    exact bodyPost_ret (v := .tuple #[.agg #[.int .i64 0, .int .i64 0, .int .i64 0, .int .i64 0, .int .i64 0], .int .i64 22]) (by simp [results, Try.results34, go_sem]) rfl ⟨rfl, below_two w _ _⟩

set_option maxHeartbeats 1000000 in
theorem plan_badn (s l n : Int) (w : World) (l1 : 18 ≤ l) (l2 : l ≤ 256) (h : ¬ (4 ≤ n ∧ n ≤ 1024)) :
    Calls Try.prog 34 #[.agg #[.int .i64 s, .int .i64 l, .int .i64 n]] w fun e w' => e = .returned (.tuple #[.agg #[.int .i64 0, .int .i64 0, .int .i64 0, .int .i64 0, .int .i64 0], .int .i64 22]) ∧ Below w.heap.size w w' := by
  have l3 : ¬ l < 18 := by omega
  have l4 : ¬ 256 < l := by omega
  by_cases h1 : 4 ≤ n
  · have h2 : ¬ n ≤ 1024 := by omega
    have h3 : ¬ n < 4 := by omega
    have h4 : 1024 < n := by omega
    clear h
    go_enter Try.func34, Try.ntmps34
    go_wp2
    exact bodyPost_ret (v := .tuple #[.agg #[.int .i64 0, .int .i64 0, .int .i64 0, .int .i64 0, .int .i64 0], .int .i64 22]) (by simp [results, Try.results34, go_sem]) rfl ⟨rfl, below_two w _ _⟩
  · have h3 : n < 4 := by omega
    clear h
    go_enter Try.func34, Try.ntmps34
    go_wp2
    exact bodyPost_ret (v := .tuple #[.agg #[.int .i64 0, .int .i64 0, .int .i64 0, .int .i64 0, .int .i64 0], .int .i64 22]) (by simp [results, Try.results34, go_sem]) rfl ⟨rfl, below_two w _ _⟩

set_option maxHeartbeats 1000000 in
theorem plan_badm (s l n : Int) (w : World) (l1 : 18 ≤ l) (l2 : l ≤ 256) (n1 : 4 ≤ n) (n2 : n ≤ 1024) (h : ¬ n % 4 = 0) :
    Calls Try.prog 34 #[.agg #[.int .i64 s, .int .i64 l, .int .i64 n]] w fun e w' => e = .returned (.tuple #[.agg #[.int .i64 0, .int .i64 0, .int .i64 0, .int .i64 0, .int .i64 0], .int .i64 22]) ∧ Below w.heap.size w w' := by
  have l3 : ¬ l < 18 := by omega
  have l4 : ¬ 256 < l := by omega
  have n3 : ¬ n < 4 := by omega
  have n4 : ¬ 1024 < n := by omega
  have hm : n.tmod 4 = n % 4 := Int.tmod_eq_emod_of_nonneg (by omega)
  have h3' : (n % 4 != 0) = true := by rw [bne_iff_ne]; exact h
  clear h
  go_enter Try.func34, Try.ntmps34
  go_wp2
  exact bodyPost_ret (v := .tuple #[.agg #[.int .i64 0, .int .i64 0, .int .i64 0, .int .i64 0, .int .i64 0], .int .i64 22]) (by simp [results, Try.results34, go_sem]) rfl ⟨rfl, below_two w _ _⟩

set_option maxHeartbeats 1000000 in
theorem plan_bads (s l n : Int) (w : World) (l1 : 18 ≤ l) (l2 : l ≤ 256) (n1 : 4 ≤ n) (n2 : n ≤ 1024) (h3 : n % 4 = 0) (h : ¬ (l + n / 4 + 6 ≤ s ∧ s ≤ 2048)) :
    Calls Try.prog 34 #[.agg #[.int .i64 s, .int .i64 l, .int .i64 n]] w fun e w' => e = .returned (.tuple #[.agg #[.int .i64 0, .int .i64 0, .int .i64 0, .int .i64 0, .int .i64 0], .int .i64 22]) ∧ Below w.heap.size w w' := by
  have l3 : ¬ l < 18 := by omega
  have l4 : ¬ 256 < l := by omega
  have n3 : ¬ n < 4 := by omega
  have n4 : ¬ 1024 < n := by omega
  have hm : n.tmod 4 = n % 4 := Int.tmod_eq_emod_of_nonneg (by omega)
  have hd : n.tdiv 4 = n / 4 := Int.tdiv_eq_ediv_of_nonneg (by omega)
  have h3' : (n % 4 != 0) = false := by simp [h3]
  clear h3
  by_cases h1 : 3 + l + (2 + n / 4) + 1 ≤ s
  · have h2 : ¬ s ≤ 2048 := by omega
    have h4 : 2048 < s := by omega
    clear h
    go_enter Try.func34, Try.ntmps34
    go_wp2
    exact bodyPost_ret (v := .tuple #[.agg #[.int .i64 0, .int .i64 0, .int .i64 0, .int .i64 0, .int .i64 0], .int .i64 22]) (by simp [results, Try.results34, go_sem]) rfl ⟨rfl, below_two w _ _⟩
  · have h4 : s < 3 + l + (2 + n / 4) + 1 := by omega
    by_cases h2 : 2048 < s
    · omega
    · clear h
      go_enter Try.func34, Try.ntmps34
      go_wp2
      exact bodyPost_ret (v := .tuple #[.agg #[.int .i64 0, .int .i64 0, .int .i64 0, .int .i64 0, .int .i64 0], .int .i64 22]) (by simp [results, Try.results34, go_sem]) rfl ⟨rfl, below_two w _ _⟩

theorem plan_any (s l n : Int) (w : World) :
    Calls Try.prog 34 #[.agg #[.int .i64 s, .int .i64 l, .int .i64 n]] w fun e w' => ∃ v x, e = .returned (.tuple #[v, .int .i64 x]) ∧ planOut s l n v x ∧ Below w.heap.size w w' := by
  have bad : ¬ Geo s l n → ∀ (e : Ending) (w' : World), (e = .returned (.tuple #[.agg #[.int .i64 0, .int .i64 0, .int .i64 0, .int .i64 0, .int .i64 0], .int .i64 22]) ∧ Below w.heap.size w w') → ∃ v x, e = .returned (.tuple #[v, .int .i64 x]) ∧ planOut s l n v x ∧ Below w.heap.size w w' :=
    fun hn e w' h => ⟨_, _, h.1, .inr ⟨hn, rfl, rfl⟩, h.2⟩
  by_cases h1 : 18 ≤ l ∧ l ≤ 256
  · by_cases h2 : 4 ≤ n ∧ n ≤ 1024
    · by_cases h3 : n % 4 = 0
      · by_cases h4 : l + n / 4 + 6 ≤ s ∧ s ≤ 2048
        · exact (plan_good s l n w h1.1 h1.2 h2.1 h2.2 h3 h4.1 h4.2).mono (fun e w' h => ⟨_, _, h.1, .inl ⟨⟨h1, h2, h3, h4⟩, rfl, rfl⟩, h.2⟩)
        · exact (plan_bads s l n w h1.1 h1.2 h2.1 h2.2 h3 h4).mono (bad (fun g => h4 g.2.2.2))
      · exact (plan_badm s l n w h1.1 h1.2 h2.1 h2.2 h3).mono (bad (fun g => h3 g.2.2.1))
    · exact (plan_badn s l n w h1.1 h1.2 h2).mono (bad (fun g => h2 g.2.1))
  · exact (plan_badl s l n w h1).mono (bad (fun g => h1 g.1))

end Go.Proofs.Ytcpmapknmkholaa
end

section
namespace Go.Proofs.Ytcpmapknmkholaa
open Go.RowKit

theorem WAt.far {w w' : World} {B p : Nat} {l : List Int} (h : WAt w B p l) (hb : Below w.heap.size w w') : WAt w' B p l := by
  obtain ⟨hB, hz, v, hp, hown, hn⟩ := h
  have hpl : p < w.heap.size := (Array.getElem?_eq_some_iff.1 hp).1
  exact ⟨hB, Nat.le_trans hz hb.size, v, (hb.block p hpl).trans hp, hown.kept (row := none) ⟨hb.os, hb.tape, hb.output, hb.size, fun k hk _ => hb.block k hk⟩ (by cases hv : v.ownBlock <;> simp), hn⟩
theorem WAt.new (w : World) : WAt (w.alloc (.cells #[.slice none 0 0] 59)) w.heap.size w.heap.size [] :=
  ⟨Nat.le_refl _, by simp, _, heap_alloc_new w _, World.ownsRow_nil _ _ _ _, by simp [Value.ownBlock]⟩
/-- The writer's bytes, as a row. -/
theorem WAt.row {w : World} {B p : Nat} {l : List Int} (h : WAt w B p l) (h0 : 0 < l.length) : ∃ g c, w.cell? ⟨p, 0, none⟩ = some (.slice (some ⟨g, 0, none⟩) l.length c) ∧ B ≤ g ∧ RowAt w 5 g c (bs l) := by
  obtain ⟨hB, hz, v, hp, hown, hn⟩ := h
  obtain ⟨g, c, hv, hgB, hr, _⟩ := RowAt.of_owns hown (by rintro rfl; rcases hown.2 with ⟨_, h⟩ | ⟨_, _, _, h, _⟩; omega; cases h)
  subst hv
  exact ⟨g, c, cell_of_block hp rfl, hgB, hr⟩

/-- The bytes with their sum behind them. -/
def sealed (l : List Int) : List Int := l ++ leb 4 (sumOf l)
theorem sealed_len (l : List Int) : (sealed l).length = l.length + 4 := by simp [sealed, leb_len]

set_option maxHeartbeats 2000000 in
theorem wsummed_any (p B : Nat) (l : List Int) (w : World) (h : WAt w B p l) (h0 : 0 < l.length) (hl : l.length + 4 ≤ 100000) (hb : Bytes l) :
    Calls Try.prog 25 #[.pointer (some ⟨p, 0, none⟩)] w fun e w' => ∃ g c, e = .returned (.slice (some ⟨g, 0, none⟩) (l.length + 4) c) ∧ B ≤ g ∧ RowAt w' 5 g c (bs (sealed l)) ∧ Below B w w' := by
  obtain ⟨g, c, hcell, hg, hr⟩ := h.row h0
  have hz := h.2.1
  have hsum := sum_any (some ⟨g, 0, none⟩) l.length c l w hb (by omega) hr.src
  have hs := sumOf_lt hb
  have H := Hid.mk h
  have hS := Hid.mk (show sealed l = l ++ leb 4 (sumOf l) from rfl)
  clear h hr
  generalize sumOf l = S at *
  go_enter Try.func25, Try.ntmps25
  go_wp2_with fail
  refine hsum.mono ?_
  rintro e w1 ⟨rfl, hb1⟩
  have hnum : Calls Try.prog 23 #[.pointer (some ⟨p, 0, none⟩), .int .i64 (S : Int), .int .i64 4] w1 fun e w' => e = .returned (.tuple #[]) ∧ WAt w' B p (l ++ leb 4 S) ∧ Below B w1 w' := wnumber_any p B l S 4 w1 (H.out.far hb1) hl (by omega)
  have HB1 : Below B w w1 := hb1.mono hz
  clear hsum hb1 hcell
  go_wp2_with fail
  refine hnum.mono ?_
  rintro e w2 ⟨rfl, hat2, hb2⟩
  obtain ⟨g2, c2, hcell2, hg2, hr2⟩ := hat2.row (by simp [leb_len])
  have eL : (l ++ leb 4 S).length = l.length + 4 := by simp [leb_len]
  rw [eL] at hcell2
  have HF : Hid (B ≤ g2 ∧ RowAt w2 5 g2 c2 (bs (sealed l)) ∧ Below B w w2) := ⟨hg2, by rw [hS.out]; exact hr2, HB1.trans hb2⟩
  clear hnum hat2 hb2 hr2 hg2 eL HB1 H hS
  go_wp2
  go_ret
  exact ⟨g2, c2, rfl, HF.out⟩

/-- The superblock's head. -/
def headB : ByteArray := ⟨#[118, 101, 108, 108, 117, 109, 0, 1]⟩
def headL : List Int := [118, 101, 108, 108, 117, 109, 0, 1]
theorem head_txt : txt headB = headL := by decide +kernel
/-- What a superblock holds ahead of its sum. -/
def supBody (s l n : Nat) : List Int := headL ++ leb 4 s ++ leb 4 l ++ leb 4 n ++ List.replicate 488 0
theorem supBody_len (s l n : Nat) : (supBody s l n).length = 508 := by simp only [supBody, headL, List.length_append, leb_len, List.length_replicate, List.length_cons, List.length_nil]
theorem supBody_bytes (s l n : Nat) : Bytes (supBody s l n) := by
  intro x hx
  simp only [supBody, List.mem_append] at hx
  rcases hx with (((h | h) | h) | h) | h
  · simp [headL] at h; omega
  · exact leb_bytes _ _ x h
  · exact leb_bytes _ _ x h
  · exact leb_bytes _ _ x h
  · have := List.eq_of_mem_replicate h; omega

/-- What is answered: a new row. -/
def Made (w w' : World) (v : Value) (l : List Int) : Prop := ∃ g c, v = .slice (some ⟨g, 0, none⟩) l.length c ∧ w.heap.size ≤ g ∧ RowAt w' 5 g c (bs l) ∧ Below w.heap.size w w'

set_option maxHeartbeats 4000000 in
theorem encsuper_ok (s l n : Nat) (w : World) (hg : Geo s l n) :
    Calls Try.prog 16 #[.agg #[.int .i64 (s : Int), .int .i64 (l : Int), .int .i64 (n : Int)]] w fun e w' => ∃ v, e = .returned (.tuple #[v, .int .i64 0]) ∧ Made w w' v (sealed (supBody s l n)) := by
  obtain ⟨⟨l1, l2⟩, ⟨n1, n2⟩, h3, s1, s2⟩ := hg
  have hp := fun w => plan_good s l n w l1 l2 n1 n2 h3 s1 s2
  clear h3
  go_enter Try.func16, Try.ntmps16
  go_wp2_with fail
  refine (hp _).mono ?_
  rintro e w1 ⟨rfl, hb1⟩
  have hB1 : Below w.heap.size w w1 := ((Below.refl _ w).alloc (Nat.le_refl _) _).trans (hb1.mono (by simp))
  have hq : w1.heap[w.heap.size]? = some (.cells #[.int .i64 (s : Int), .int .i64 (l : Int), .int .i64 (n : Int)] 31 (0, 0)) := (hb1.block _ (by simp)).trans (heap_alloc_new _ _)
  have hql : w.heap.size < w1.heap.size := (Array.getElem?_eq_some_iff.1 hq).1
  have hnew : ∀ o, WAt ((w1.alloc o).alloc (.cells #[.slice none 0 0] 59)) (w1.heap.size + 1) (w1.heap.size + 1) [] := fun o => by have := WAt.new (w1.alloc o); simpa using this
  have hold : ∀ o, Below w.heap.size w ((w1.alloc o).alloc (.cells #[.slice none 0 0] 59)) ∧ ((w1.alloc o).alloc (.cells #[.slice none 0 0] 59)).heap[w.heap.size]? = some (.cells #[.int .i64 (s : Int), .int .i64 (l : Int), .int .i64 (n : Int)] 31 (0, 0)) := fun o =>
    ⟨(hB1.alloc (by omega) _).alloc (by simp; omega) _, (Below.heap_alloc _ _ _ (by simp; omega)).trans ((Below.heap_alloc _ _ _ hql).trans hq)⟩
  have htx := fun o => wtext_any (w1.heap.size + 1) (w1.heap.size + 1) [] headB _ (hnew o) (by decide) (by decide)
  have Hold := Hid.mk hold
  have hne : ¬ w.heap.size = w1.heap.size + 1 := by omega
  have hlt : w.heap.size < w1.heap.size + 1 := by omega
  clear hp hb1 hB1 hq hnew hold
  go_wp2_with fail
  refine (htx _).mono ?_
  rintro e w2 ⟨rfl, hat2, hb2⟩
  obtain ⟨hB2, hq2⟩ : Below w.heap.size w w2 ∧ w2.heap[w.heap.size]? = some (.cells #[.int .i64 (s : Int), .int .i64 (l : Int), .int .i64 (n : Int)] 31 (0, 0)) := ⟨(Hold.out _).1.trans (hb2.mono (by omega)), (hb2.block _ hlt).trans (Hold.out _).2⟩
  rw [head_txt, List.nil_append] at hat2
  have c2 := cell_of_block hq2 (j := 0) rfl
  have hn2 : Calls Try.prog 23 #[.pointer (some ⟨w1.heap.size + 1, 0, none⟩), .int .i64 (s : Int), .int .i64 4] w2 fun e w' => e = .returned (.tuple #[]) ∧ WAt w' (w1.heap.size + 1) (w1.heap.size + 1) (headL ++ leb 4 s) ∧ Below (w1.heap.size + 1) w2 w' := wnumber_any _ _ _ s 4 w2 hat2 (by decide) (by omega)
  have HB2 := Hid.mk hB2
  have HQ2 := Hid.mk hq2
  clear htx hat2 hb2 hB2 hq2 Hold
  go_wp2_with fail
  refine hn2.mono ?_
  rintro e w3 ⟨rfl, hat3, hb3⟩
  obtain ⟨hB3, hq3⟩ : Below w.heap.size w w3 ∧ w3.heap[w.heap.size]? = some (.cells #[.int .i64 (s : Int), .int .i64 (l : Int), .int .i64 (n : Int)] 31 (0, 0)) := ⟨HB2.out.trans (hb3.mono (by omega)), (hb3.block _ hlt).trans HQ2.out⟩
  have c3 := cell_of_block hq3 (j := 1) rfl
  have hn3 : Calls Try.prog 23 #[.pointer (some ⟨w1.heap.size + 1, 0, none⟩), .int .i64 (l : Int), .int .i64 4] w3 fun e w' => e = .returned (.tuple #[]) ∧ WAt w' (w1.heap.size + 1) (w1.heap.size + 1) (headL ++ leb 4 s ++ leb 4 l) ∧ Below (w1.heap.size + 1) w3 w' := wnumber_any _ _ _ l 4 w3 hat3 (by rw [List.length_append, leb_len]; decide) (by omega)
  have HB3 := Hid.mk hB3
  have HQ3 := Hid.mk hq3
  clear hn2 hat3 hb3 hB3 hq3 HB2 HQ2 c2
  go_wp2_with fail
  refine hn3.mono ?_
  rintro e w4 ⟨rfl, hat4, hb4⟩
  obtain ⟨hB4, hq4⟩ : Below w.heap.size w w4 ∧ w4.heap[w.heap.size]? = some (.cells #[.int .i64 (s : Int), .int .i64 (l : Int), .int .i64 (n : Int)] 31 (0, 0)) := ⟨HB3.out.trans (hb4.mono (by omega)), (hb4.block _ hlt).trans HQ3.out⟩
  have c4 := cell_of_block hq4 (j := 2) rfl
  have hn4 : Calls Try.prog 23 #[.pointer (some ⟨w1.heap.size + 1, 0, none⟩), .int .i64 (n : Int), .int .i64 4] w4 fun e w' => e = .returned (.tuple #[]) ∧ WAt w' (w1.heap.size + 1) (w1.heap.size + 1) (headL ++ leb 4 s ++ leb 4 l ++ leb 4 n) ∧ Below (w1.heap.size + 1) w4 w' := wnumber_any _ _ _ n 4 w4 hat4 (by rw [List.length_append, List.length_append, leb_len, leb_len]; decide) (by omega)
  have HB4 := Hid.mk hB4
  clear hn3 hat4 hb4 hB4 hq4 HB3 HQ3 c3
  go_wp2_with fail
  refine hn4.mono ?_
  rintro e w5 ⟨rfl, hat5, hb5⟩
  have hB5 : Below w.heap.size w w5 := HB4.out.trans (hb5.mono (by omega))
  have e20 : (headL ++ leb 4 s ++ leb 4 l ++ leb 4 n).length = 20 := by rw [List.length_append, List.length_append, List.length_append, leb_len, leb_len, leb_len]; rfl
  have hn5 : Calls Try.prog 24 #[.pointer (some ⟨w1.heap.size + 1, 0, none⟩), .int .i64 508] w5 fun e w' => e = .returned (.tuple #[]) ∧ WAt w' (w1.heap.size + 1) (w1.heap.size + 1) (supBody s l n) ∧ Below (w1.heap.size + 1) w5 w' := by
    have := wzeros_any _ _ _ 488 w5 hat5 (by rw [e20]; decide) (by rw [e20]; decide)
    rw [e20] at this
    exact this
  have HB5 := Hid.mk hB5
  clear hn4 hat5 hb5 hB5 HB4 c4 e20
  go_wp2_with fail
  refine hn5.mono ?_
  rintro e w6 ⟨rfl, hat6, hb6⟩
  have hB6 : Below w.heap.size w w6 := HB5.out.trans (hb6.mono (by omega))
  have hn6 := wsummed_any _ _ _ w6 hat6 (by rw [supBody_len]; decide) (by rw [supBody_len]; decide) (supBody_bytes s l n)
  rw [supBody_len] at hn6
  have HB6 := Hid.mk hB6
  clear hn5 hat6 hb6 hB6 HB5
  go_wp2_with fail
  refine hn6.mono ?_
  rintro e w7 ⟨g, c, rfl, hg, hr, hb7⟩
  have HF : Hid (Made w w7 (.slice (some ⟨g, 0, none⟩) 512 c) (sealed (supBody s l n))) := ⟨g, c, by rw [sealed_len, supBody_len], by omega, hr, HB6.out.trans (hb7.mono (by omega))⟩
  clear hn6 hr hb7 HB6
  go_wp2
  go_ret2
  exact ⟨_, rfl, HF.out⟩

set_option maxHeartbeats 2000000 in
theorem encsuper_bad (s l n : Int) (w : World) (hg : ¬ Geo s l n) :
    Calls Try.prog 16 #[.agg #[.int .i64 s, .int .i64 l, .int .i64 n]] w fun e w' => e = .returned (.tuple #[.slice none 0 0, .int .i64 22]) ∧ Below w.heap.size w w' := by
  have hp : ∀ w, Calls Try.prog 34 #[.agg #[.int .i64 s, .int .i64 l, .int .i64 n]] w fun e w' => e = .returned (.tuple #[.agg #[.int .i64 0, .int .i64 0, .int .i64 0, .int .i64 0, .int .i64 0], .int .i64 22]) ∧ Below w.heap.size w w' := fun w => by
    refine (plan_any s l n w).mono ?_
    rintro e w' ⟨v, x, rfl, ⟨h, _⟩ | ⟨_, rfl, rfl⟩, hb⟩
    · exact absurd h hg
    · exact ⟨rfl, hb⟩
  clear hg
  go_enter Try.func16, Try.ntmps16
  go_wp2_with fail
  refine (hp _).mono ?_
  rintro e w1 ⟨rfl, hb1⟩
  have hB1 : Below w.heap.size w w1 := ((Below.refl _ w).alloc (Nat.le_refl _) _).trans (hb1.mono (by simp))
  have HB := Hid.mk (fun o => hB1.alloc hB1.size o)
  clear hp hb1 hB1
  go_wp2
  go_ret2
  exact ⟨rfl, HB.out _⟩
end Go.Proofs.Ytcpmapknmkholaa
end

section
namespace Go.Proofs.Ytcpmapknmkholaa
open Go.RowKit

/-- A node's cells: five numbers and twelve pointers. -/
abbrev ndc (k l p s o : Int) (d : Nat → Int) : Array Value := #[.int .i64 k, .int .i64 l, .int .i64 p, .int .i64 s, .int .i64 o, .int .i64 (d 0), .int .i64 (d 1), .int .i64 (d 2), .int .i64 (d 3), .int .i64 (d 4), .int .i64 (d 5), .int .i64 (d 6), .int .i64 (d 7), .int .i64 (d 8), .int .i64 (d 9), .int .i64 (d 10), .int .i64 (d 11)]
abbrev nd (k l p s o : Int) (d : Nat → Int) : Value := .agg (ndc k l p s o d)
/-- The ten pointers. -/
abbrev ten (d : Nat → Int) : Array Value := #[.int .i64 (d 0), .int .i64 (d 1), .int .i64 (d 2), .int .i64 (d 3), .int .i64 (d 4), .int .i64 (d 5), .int .i64 (d 6), .int .i64 (d 7), .int .i64 (d 8), .int .i64 (d 9)]
theorem ten_at (d : Nat → Int) (k : Nat) (h : k < 10) (w : World) : (Instr.index 25 (.agg (ten d)) (.int .i64 (k : Int))).run Try.prog w = .ok (.int .i64 (d k)) w := by
  match k, h with
  | 0, _ => simp [Instr.index, go_sem]
  | 1, _ => simp [Instr.index, go_sem]
  | 2, _ => simp [Instr.index, go_sem]
  | 3, _ => simp [Instr.index, go_sem]
  | 4, _ => simp [Instr.index, go_sem]
  | 5, _ => simp [Instr.index, go_sem]
  | 6, _ => simp [Instr.index, go_sem]
  | 7, _ => simp [Instr.index, go_sem]
  | 8, _ => simp [Instr.index, go_sem]
  | 9, _ => simp [Instr.index, go_sem]
/-- A call answers whether P. -/
def Says (P : Prop) (e : Ending) : Prop := ∃ b, e = .returned (.bool b) ∧ (b = true ↔ P)
theorem Says.yes {P : Prop} (h : P) : Says P (.returned (.bool true)) := ⟨true, rfl, ⟨fun _ => h, fun _ => rfl⟩⟩
theorem Says.no {P : Prop} (h : ¬ P) : Says P (.returned (.bool false)) := ⟨false, rfl, ⟨fun h => (by cases h), fun h' => absurd h' h⟩⟩
/-- A pointer fits. -/
def pfB (x : Int) : Bool := decide (0 ≤ x ∧ x ≤ 2047)
def PF (x : Int) : Prop := pfB x = true
theorem pf_iff (x : Int) : PF x ↔ 0 ≤ x ∧ x ≤ 2047 := by unfold PF pfB; exact decide_eq_true_iff
theorem pf_t {x : Int} (h : PF x) : pfB x = true := h
theorem pf_f {x : Int} (h : ¬ PF x) : pfB x = false := Bool.eq_false_iff.2 h

set_option maxRecDepth 20000 in
set_option maxHeartbeats 2000000 in
theorem pone (x : Int) (w : World) : Calls Try.prog 47 #[.int .i64 x] w fun e w' => e = .returned (.bool (pfB x)) ∧ w' = w := by
  by_cases h : 0 ≤ x
  · by_cases h' : x ≤ 2047
    · rw [pf_t ((pf_iff x).2 ⟨h, h'⟩)]
      go_enter Try.func47, Try.ntmps47
      go_wp2_with (go_at_call 37; go_in)
      go_ret
      exact ⟨rfl, rfl⟩
    · rw [pf_f (fun hh => h' ((pf_iff x).1 hh).2)]
      go_enter Try.func47, Try.ntmps47
      go_wp2_with (go_at_call 37; go_in)
      go_ret
      exact ⟨rfl, rfl⟩
  · rw [pf_f (fun hh => h ((pf_iff x).1 hh).1)]
    go_enter Try.func47, Try.ntmps47
    go_wp2_with (go_at_call 37; go_in)
    go_ret
    exact ⟨rfl, rfl⟩

set_option maxRecDepth 20000 in
set_option maxHeartbeats 2000000 in
theorem pfit_any (k l p s o : Int) (d : Nat → Int) (w : World) :
    Calls Try.prog 39 #[nd k l p s o d] w fun e w' => Says (∀ i, i < 12 → PF (d i)) e ∧ Below w.heap.size w w' := by
  have hp := fun x wx => pone x wx
  obtain ⟨w1, hw1⟩ : ∃ w1, w1 = w.alloc (.cells (ndc k l p s o d) 27) := ⟨_, rfl⟩
  have hB1 : Below w.heap.size w w1 := by rw [hw1]; exact (Below.refl _ w).alloc (Nat.le_refl _) _
  have hq1 : w1.heap[w.heap.size]? = some (.cells (ndc k l p s o d) 27 (0, 0)) := by rw [hw1]; exact heap_alloc_new _ _
  have cx := cell_of_block hq1 (j := 15) rfl
  have cy := cell_of_block hq1 (j := 16) rfl
  have HB := Hid.mk hB1
  clear hB1 hq1
  go_enter Try.func39, Try.ntmps39
  go_wp2
  rw [← hw1]
  clear hw1
  go_loopw [7] (fun i wr => ∃ k : Nat, k ≤ 10 ∧ i = .int .i64 k ∧ wr = w1 ∧ ∀ j, j < k → PF (d j)) (fun i _ => 10 - (intOf i).toNat)
  case atStart => exact ⟨0, Nat.zero_le _, rfl, rfl, fun j hj => by omega⟩
  case round =>
    obtain ⟨k, hk, rfl, hwr, hj⟩ := hrel
    subst hwr
    have HJ := Hid.mk hj
    clear hj
    by_cases hlt : k < 10
    · have hlt' : (k : Int) < 10 := by omega
      have hix := ten_at d k hlt wr
      have hpk := hp (d k) wr
      clear hp
      by_cases hf : PF (d k)
      · have HF := Hid.mk hf
        rw [pf_t hf] at hpk
        clear hf
        go_wp2_with fail
        refine hpk.mono ?_
        rintro e w' ⟨rfl, rfl⟩
        go_wp2
        go_roundw
        case rel =>
          refine ⟨k + 1, by omega, by go_num, trivial, fun j hj => ?_⟩
          by_cases e : j = k
          · rw [e]; exact HF.out
          · exact HJ.out j (by omega)
        case measure => simp [intOf]; omega
      · have HF : Hid (¬ ∀ i, i < 12 → PF (d i)) := fun h => hf (h k (by omega))
        rw [pf_f hf] at hpk
        clear hf
        go_wp2_with fail
        refine hpk.mono ?_
        rintro e w' ⟨rfl, rfl⟩
        go_wp2
        go_ret
        exact ⟨Says.no HF.out, HB.out⟩
    · have hlt' : ¬ (k : Int) < 10 := by omega
      have h10 := hp (d 10) wr
      have h11 := hp (d 11) wr
      have HX : Hid (∀ i, i < 12 → i ≠ 10 → i ≠ 11 → PF (d i)) := fun i hi h1 h2 => HJ.out i (by omega)
      clear hp HJ
      by_cases hf : PF (d 10)
      · rw [pf_t hf] at h10
        by_cases hg : PF (d 11)
        · rw [pf_t hg] at h11
          have HF : Hid (∀ i, i < 12 → PF (d i)) := fun i hi => by
            by_cases e : i = 10
            · rw [e]; exact hf
            · by_cases e' : i = 11
              · rw [e']; exact hg
              · exact HX.out i hi e e'
          clear hf hg
          go_wp2_with (first | (refine h10.mono ?_; rintro e w' ⟨rfl, rfl⟩) | (refine h11.mono ?_; rintro e w' ⟨rfl, rfl⟩))
          go_ret
          exact ⟨Says.yes HF.out, HB.out⟩
        · rw [pf_f hg] at h11
          have HF : Hid (¬ ∀ i, i < 12 → PF (d i)) := fun h => hg (h 11 (by omega))
          clear hf hg
          go_wp2_with (first | (refine h10.mono ?_; rintro e w' ⟨rfl, rfl⟩) | (refine h11.mono ?_; rintro e w' ⟨rfl, rfl⟩))
          go_ret
          exact ⟨Says.no HF.out, HB.out⟩
      · rw [pf_f hf] at h10
        have HF : Hid (¬ ∀ i, i < 12 → PF (d i)) := fun h => hf (h 10 (by omega))
        clear hf
        go_wp2_with (first | (refine h10.mono ?_; rintro e w' ⟨rfl, rfl⟩) | (refine h11.mono ?_; rintro e w' ⟨rfl, rfl⟩))
        go_ret
        exact ⟨Says.no HF.out, HB.out⟩
end Go.Proofs.Ytcpmapknmkholaa
end

section
namespace Go.Proofs.Ytcpmapknmkholaa
open Go.RowKit

/-- A node's parent fits. -/
def ParF (k p : Int) : Prop := (k = 2 ∧ 1 ≤ p ∧ p ≤ 1024) ∨ (k ≠ 2 ∧ p = 0)
def parB (k p : Int) : Bool := decide (k = 2 ∧ 1 ≤ p ∧ p ≤ 1024) || decide (k ≠ 2 ∧ p = 0)
theorem par_iff (k p : Int) : parB k p = true ↔ ParF k p := by unfold parB ParF; rw [Bool.or_eq_true, decide_eq_true_iff, decide_eq_true_iff]
/-- A node's fields fit (of one that is not empty). -/
def NFits (k l p s o : Int) (d : Nat → Int) : Prop := (1 ≤ k ∧ k ≤ 3) ∧ (0 ≤ l ∧ l ≤ 64) ∧ ParF k p ∧ (0 ≤ s ∧ s ≤ 8459264) ∧ (0 ≤ o ∧ o ≤ 2048) ∧ ∀ i, i < 12 → PF (d i)

set_option maxRecDepth 20000 in
set_option maxHeartbeats 2000000 in
theorem parf_any (k l p s o : Int) (d : Nat → Int) (w : World) :
    Calls Try.prog 38 #[nd k l p s o d] w fun e w' => e = .returned (.bool (parB k p)) ∧ Below w.heap.size w w' := by
  have HB := Hid.mk (fun o => (Below.refl _ w).alloc (Nat.le_refl _) o)
  by_cases h2 : k = 2
  · subst h2
    by_cases h : 1 ≤ p
    · by_cases h' : p ≤ 1024
      · rw [(par_iff 2 p).2 (.inl ⟨rfl, h, h'⟩)]
        go_enter Try.func38, Try.ntmps38
        go_wp2_with (go_at_call 37; go_in)
        go_ret
        exact ⟨rfl, HB.out _⟩
      · rw [Bool.eq_false_iff.2 (fun hh => by rcases (par_iff 2 p).1 hh with hh | hh <;> omega : parB 2 p ≠ true)]
        go_enter Try.func38, Try.ntmps38
        go_wp2_with (go_at_call 37; go_in)
        go_ret
        exact ⟨rfl, HB.out _⟩
    · rw [Bool.eq_false_iff.2 (fun hh => by rcases (par_iff 2 p).1 hh with hh | hh <;> omega : parB 2 p ≠ true)]
      go_enter Try.func38, Try.ntmps38
      go_wp2_with (go_at_call 37; go_in)
      go_ret
      exact ⟨rfl, HB.out _⟩
  · have h2' : (k == 2) = false := by rw [Bool.eq_false_iff, ne_eq, beq_iff_eq]; exact h2
    have e : parB k p = (p == 0) := by
      by_cases h0 : p = 0
      · rw [(par_iff k p).2 (.inr ⟨h2, h0⟩), h0]; rfl
      · rw [Bool.eq_false_iff.2 (fun hh => by rcases (par_iff k p).1 hh with hh | hh <;> omega : parB k p ≠ true)]
        symm
        rw [Bool.eq_false_iff, ne_eq, beq_iff_eq]
        exact h0
    rw [e]
    clear h2 e
    go_enter Try.func38, Try.ntmps38
    go_wp2
    go_ret
    exact ⟨rfl, HB.out _⟩

theorem infoNode : (Try.prog.info? 27).map (·.size) = some 17 := by kernel_rfl
/-- A node's cells, as a list. -/
abbrev ndl (k l p s o : Int) (d : Nat → Int) : List Value := [.int .i64 k, .int .i64 l, .int .i64 p, .int .i64 s, .int .i64 o, .int .i64 (d 0), .int .i64 (d 1), .int .i64 (d 2), .int .i64 (d 3), .int .i64 (d 4), .int .i64 (d 5), .int .i64 (d 6), .int .i64 (d 7), .int .i64 (d 8), .int .i64 (d 9), .int .i64 (d 10), .int .i64 (d 11)]
theorem range_of {w : World} {g : Nat} {cs : List Value} {t : TypeId} (h : w.heap[g]? = some (.cells cs.toArray t (0, 0))) : w.rangeAt g 0 cs := fun j v hv => by
  rw [Nat.zero_add]
  exact cell_of_block h (by simpa using hv)
/-- A guarded load of a whole struct, in a plain region. -/
theorem wpList_load_guard {P : Program} {ops : Array Oper} {rest : List Oper} {op : Oper} {a : Act} {w : World} {Q : Exit → Act → World → Prop} (hgd : Region.wanted op (yielded ops a.tmps) = true) (ty : TypeId) (x : Operand) (ho : op.op = .load ty x)
    (b o : Nat) (hx : a.eval x = .pointer (some ⟨b, o, none⟩)) (cs : List Value) (d : TypeDesc) (hc : w.rangeAt b o cs)
    (hu : P.underlying ty = some d) (hd : d.isRow = true) (hi : (P.info? ty).map (·.size) = some cs.length)
    (h : wpList P ops Q rest (a.put op.dst (.agg cs.toArray)) w) : wpList P ops Q (op :: rest) a w :=
  wpList_step fun K hK => by
    rw [if_pos hgd]
    exact wp_load_mid ty x ho b o hx cs d hc hu hd hi (hK _ _ h)

set_option maxRecDepth 20000 in
set_option maxHeartbeats 4000000 in
theorem nfit_low (k l p s o : Int) (d : Nat → Int) (w : World) (b1 b2 b3 b4 b5 : Bool)
    (h1 : ∀ wx, Calls Try.prog 37 #[.int .i64 k, .int .i64 1, .int .i64 3] wx fun e w' => e = .returned (.bool b1) ∧ w' = wx)
    (h2 : ∀ wx, Calls Try.prog 37 #[.int .i64 l, .int .i64 0, .int .i64 64] wx fun e w' => e = .returned (.bool b2) ∧ w' = wx)
    (h3 : ∀ wx, Calls Try.prog 38 #[nd k l p s o d] wx fun e w' => e = .returned (.bool b3) ∧ Below wx.heap.size wx w')
    (h4 : ∀ wx, Calls Try.prog 37 #[.int .i64 s, .int .i64 0, .int .i64 8459264] wx fun e w' => e = .returned (.bool b4) ∧ w' = wx)
    (h5 : ∀ wx, Calls Try.prog 37 #[.int .i64 o, .int .i64 0, .int .i64 2048] wx fun e w' => e = .returned (.bool b5) ∧ w' = wx) :
    Calls Try.prog 22 #[nd k l p s o d] w fun e w' => Says (((((b1 = true ∧ b2 = true) ∧ b3 = true) ∧ b4 = true) ∧ b5 = true) ∧ ∀ i, i < 12 → PF (d i)) e ∧ Below w.heap.size w w' := by
  obtain ⟨w1, hw1⟩ : ∃ w1, w1 = w.alloc (.cells (ndc k l p s o d) 27) := ⟨_, rfl⟩
  have hB1 : Below w.heap.size w w1 := by rw [hw1]; exact (Below.refl _ w).alloc (Nat.le_refl _) _
  have hq1 : w1.heap[w.heap.size]? = some (.cells (ndc k l p s o d) 27 (0, 0)) := by rw [hw1]; exact heap_alloc_new _ _
  have c1 := cell_of_block hq1 (j := 1) rfl
  have hl1 := Hid.mk (range_of (cs := ndl k l p s o d) hq1)
  have hpf := Hid.mk (pfit_any k l p s o d)
  have HQ := Hid.mk (And.intro hq1 hB1)
  have H2 := Hid.mk h2
  have H3 := Hid.mk h3
  have H4 := Hid.mk h4
  have H5 := Hid.mk h5
  clear hB1 hq1 h2 h3 h4 h5
  go_enter Try.func22, Try.ntmps22
  go_wp2_with fail
  rw [← hw1]
  clear hw1
  refine (h1 _).mono ?_
  rintro e w' ⟨rfl, rfl⟩
  clear h1
  cases b1
  · go_wp2
    go_ret
    exact ⟨Says.no (fun h => by simp at h), HQ.out.2⟩
  go_wp2_with fail
  refine (H2.out _).mono ?_
  rintro e w' ⟨rfl, rfl⟩
  clear H2
  cases b2
  · go_wp2
    go_ret
    exact ⟨Says.no (fun h => by simp at h), HQ.out.2⟩
  go_wp2_with (refine wpList_load_guard rfl 27 _ rfl w.heap.size 0 rfl (ndl k l p s o d) _ hl1.out Try.underlying27 rfl infoNode ?_)
  refine (H3.out _).mono ?_
  rintro e w2 ⟨rfl, hb2⟩
  have hq2 := (hb2.block _ (Array.getElem?_eq_some_iff.1 HQ.out.1).1).trans HQ.out.1
  have HB2 : Hid (Below w.heap.size w w2) := HQ.out.2.trans (hb2.mono HQ.out.2.size)
  clear H3 HQ hb2 c1 hl1
  cases b3
  · go_wp2
    go_ret
    exact ⟨Says.no (fun h => by simp at h), HB2.out⟩
  have c3 := cell_of_block hq2 (j := 3) rfl
  have hl2 := Hid.mk (range_of (cs := ndl k l p s o d) hq2)
  have c4 := cell_of_block hq2 (j := 4) rfl
  go_wp2_with fail
  refine (H4.out _).mono ?_
  rintro e w' ⟨rfl, rfl⟩
  clear H4
  cases b4
  · go_wp2
    go_ret
    exact ⟨Says.no (fun h => by simp at h), HB2.out⟩
  go_wp2_with fail
  refine (H5.out _).mono ?_
  rintro e w' ⟨rfl, rfl⟩
  clear H5
  cases b5
  · go_wp2
    go_ret
    exact ⟨Says.no (fun h => by simp at h), HB2.out⟩
  go_wp2_with (refine wpList_load_guard rfl 27 _ rfl w.heap.size 0 rfl (ndl k l p s o d) _ hl2.out Try.underlying27 rfl infoNode ?_)
  refine (hpf.out _).mono ?_
  rintro e w3 ⟨⟨b, rfl, hb⟩, hb3⟩
  have HB3 : Hid (Below w.heap.size w w3) := HB2.out.trans (hb3.mono HB2.out.size)
  have HS := Hid.mk hb
  clear hpf hq2 hb3 HB2 hb c3 c4 hl2
  go_wp2
  go_ret
  exact ⟨⟨b, rfl, by simpa using HS.out⟩, HB3.out⟩
end Go.Proofs.Ytcpmapknmkholaa
end
