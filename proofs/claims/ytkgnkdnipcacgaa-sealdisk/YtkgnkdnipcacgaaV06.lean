import Derived.Test.YtkgnkdnipcacgaaV05
import Derived.Deep.Light
import Derived.Deep.MidRow
import Derived.Deep.Quiet
import Derived.BigQuiet
import Derived.OwnWalk
import Derived.RegionTactic
import Derived.BigRegion
import Derived.Deep.RegionLaw
import Derived.ChangeKeysEq
section
namespace Go.Proofs.Ytkgnkdnipcacgaa
open Go.RowKit

/-- The table. -/
def tab : List Value := (List.range 16).map (fun j => Value.int .u32 ((cbs 4 j : Nat) : Int))
theorem tab_len : tab.length = 16 := by simp [tab]
theorem tab_one : ∀ v ∈ tab, v.oneCell' = true := by
  intro v hv
  obtain ⟨j, _, rfl⟩ := List.mem_map.1 hv
  rfl
theorem infoTab : (Try.prog.info? 166).map (·.size) = some tab.length := by rw [tab_len]; kernel_rfl

theorem bit1 (r : Nat) (hr : r < 4294967296) : bits .and .u32 (r : Int) 1 = ((r % 2 : Nat) : Int) := by
  have := u32_and_nat r 1 hr (by omega)
  rw [Nat.and_one_is_mod] at this
  exact this
theorem cb_bits (r : Nat) (hr : r < 4294967296) : bits .xor .u32 ((r : Int) / 2) (2197175160 * ((r : Int) % 2)) = ((cb r : Nat) : Int) := by
  have e1 : ((r : Int) / 2) = ((r / 2 : Nat) : Int) := by omega
  have e2 : (2197175160 * ((r : Int) % 2)) = (((if r % 2 = 1 then 2197175160 else 0) : Nat) : Int) := by
    split <;> omega
  rw [e1, e2, u32_xor_nat _ _ (by omega) (by split <;> omega)]
  rfl

theorem Keeps.setCells {F : Nat → Prop} {b : Nat} (hb : F b) : ∀ (vs : List Value) (o : Nat) (w : World), Keeps F w (w.setCells b o vs)
  | [], _, w => Keeps.refl F w
  | v :: r, o, w => (Keeps.setCell (p := ⟨b, o, none⟩) w hb v).trans (Keeps.setCells hb r (o + 1) _) (fun _ h => .inl h)
theorem size_setCells {b : Nat} : ∀ (vs : List Value) (o : Nat) (w : World), (w.setCells b o vs).heap.size = w.heap.size
  | [], _, _ => rfl
  | v :: r, o, w => by simp only [World.setCells]; rw [size_setCells r]; simp [World.setCell]

theorem results_cell_mid {P : Program} {fn : Func} {p : Tmp} {ty : TypeId} (h : fn.results = #[.cell p ty]) (tmps : Array Value) (w : World) (g : Nat) (cs : List Value) (d : TypeDesc)
    (hp : tmps.getD p undef = .pointer (some ⟨g, 0, none⟩)) (hg : w.rangeAt g 0 cs) (hu : P.underlying ty = some d) (hd : d.isRow = true) (hi : (P.info? ty).map (·.size) = some cs.length) :
    (results fn tmps).run P w = .ok (.agg cs.toArray) w := by
  have hp' : tmps[p]?.getD undef = .pointer (some ⟨g, 0, none⟩) := by simpa using hp
  simp [results, h, hp', asAddr, run_loadVar_mid w g 0 ty cs d hg hu hd hi]

/-- What halves' outer loop keeps. -/
def Half (w wr : World) (k : Nat) : Prop :=
  Below w.heap.size w wr ∧ wr.heap.size = w.heap.size + 2 ∧ (∃ cur : Array Value, cur.size = 16 ∧ wr.heap[w.heap.size]? = some (.cells cur 166 (0, 0))) ∧
    ∃ cs : List Int, cs.length = 16 ∧ wr.heap[w.heap.size + 1]? = some (.cells (cs.map (Value.int .u32)).toArray 166 (0, 0)) ∧ ∀ j, j < k → cs[j]? = some ((cbs 4 j : Nat) : Int)

theorem Half.next {w wr : World} {k : Nat} (h : Half w wr k) (hk : k < 16) : (∃ v, wr.cell? ⟨w.heap.size + 1, k, none⟩ = some (.int .u32 v)) ∧ wr.frozen? ⟨w.heap.size + 1, k, none⟩ = false ∧
    Half w (wr.setCell ⟨w.heap.size + 1, k, none⟩ (.int .u32 ((cbs 4 k : Nat) : Int))) (k + 1) := by
  obtain ⟨hb, hs, ⟨cur, hc, hcb⟩, cs, hl, hblk, hcs⟩ := h
  have hkl : k < cs.length := by omega
  refine ⟨⟨cs[k], cell_of_block hblk (by simp [hkl])⟩, frozen_of_block hblk k, ?_, ?_, ⟨cur, hc, ?_⟩, cs.set k ((cbs 4 k : Nat) : Int), by simp [hl], ?_, ?_⟩
  · exact hb.trans ((Keeps.setCell (F := fun j => j = w.heap.size + 1) (p := ⟨w.heap.size + 1, k, none⟩) wr rfl _).below (fun j hj => by omega) (by omega))
  · simpa [World.setCell] using hs
  · rw [Below.heap_setCell _ _ _ _ (by simp)]; exact hcb
  · rw [heap_setCell_same _ _ _ _ _ _ hblk]
    congr 2
    apply Array.ext'
    simp [List.map_set]
  · intro j hj
    by_cases e : j = k
    · subst e; simp [hkl]
    · rw [List.getElem?_set_ne (by omega)]; exact hcs j (by omega)

theorem Half.done {w wr : World} (h : Half w wr 16) : wr.rangeAt (w.heap.size + 1) 0 tab ∧ wr.there w.heap.size 0 tab.length := by
  obtain ⟨hb, hs, ⟨cur, hc, hcb⟩, cs, hl, hblk, hcs⟩ := h
  constructor
  · intro j v hv
    have hj : j < 16 := by
      have := (List.getElem?_eq_some_iff.1 hv).1
      rwa [tab_len] at this
    rw [Nat.zero_add]
    refine cell_of_block hblk ?_
    rw [← hv]
    simp [tab, hcs j hj, hj]
  · intro j hj
    rw [tab_len] at hj
    rw [Nat.zero_add]
    exact ⟨by rw [cell_of_block hcb (j := j) (u := cur[j]'(by omega)) (by simp [show j < cur.size by omega])]; rfl, frozen_of_block hcb j⟩

set_option maxHeartbeats 2000000 in
theorem halves_any (w : World) :
    Calls Try.prog 122 #[] w fun e w' => e = .returned (.agg tab.toArray) ∧ Below w.heap.size w w' := by
  go_enter Try.func122, Try.ntmps122
  go_wp2
  go_loopw [5] (fun i wr => ∃ k : Nat, k ≤ 16 ∧ i = .int .i64 k ∧ Half w wr k) (fun i _ => 16 - (intOf i).toNat)
  case atStart =>
    refine ⟨0, Nat.zero_le _, rfl, Below.alloc (Below.alloc (Below.refl _ _) (Nat.le_refl _) _) (by simp) _, by simp, ⟨_, ?_, heap_alloc2_old _ _ _⟩, List.replicate 16 0, by simp, ?_, fun j hj => by omega⟩
    · rfl
    · rw [heap_alloc2_new]; rfl
  case round =>
    obtain ⟨k, hk, rfl, hhalf⟩ := hrel
    by_cases hlt : k < 16
    · have hlt' : (k : Int) < 16 := by omega
      obtain ⟨⟨v0, hc⟩, hf, hnext⟩ := hhalf.next hlt
      have HN := Hid.mk hnext
      clear hnext hhalf
      go_wp2
      go_loopw [3, 10] (fun r i wx => ∃ m : Nat, m ≤ 4 ∧ i = .int .i64 m ∧ wx = wr ∧ r = .int .u32 ((cbs m k : Nat) : Int)) (fun _ i _ => 4 - (intOf i).toNat)
      case atStart => exact ⟨0, Nat.zero_le _, rfl, rfl, rfl⟩
      case round =>
        obtain ⟨m, hm, rfl, rfl, rfl⟩ := hrel
        have hr : cbs m k < 4294967296 := cbs_lt m (by omega)
        by_cases hlm : m < 4
        · have hlm' : (m : Int) < 4 := by omega
          have hb1 := bit1 (cbs m k) hr
          have hb2 := Hid.mk (cb_bits (cbs m k) hr)
          have hb3 : cb (cbs m k) = cbs (m + 1) k := by rw [cbs_add]; rfl
          have Hb3 := Hid.mk hb3
          clear hb3
          go_wp2
          go_roundw
          case rel => exact ⟨m + 1, by omega, by go_num, trivial, by rw [← Hb3.out, ← hb2.out]⟩
          case measure => simp [intOf]; omega
        · have hlm' : ¬ (m : Int) < 4 := by omega
          have hm4 : m = 4 := by omega
          subst hm4
          go_wp2
          go_roundw
          case rel => exact ⟨k + 1, by omega, by go_num, HN.out⟩
          case measure => simp [intOf]; omega
    · have hlt' : ¬ (k : Int) < 16 := by omega
      have hk16 : k = 16 := by omega
      subst hk16
      obtain ⟨hra, hth⟩ := hhalf.done
      have hbel := hhalf.1
      have hrs := Hid.mk (World.rangeAt_setCells_same wr w.heap.size 0 tab hth)
      have hall := all_oneCell_toArray tab_one
      have hb2 : Hid (Below w.heap.size w (wr.setCells w.heap.size 0 tab)) := hbel.trans ((Keeps.setCells (F := fun j => j = w.heap.size) rfl tab 0 wr).below (fun j hj => by omega) hbel.size)
      clear hhalf
      go_wp2_with (first | refine wpList_load_mid rfl 166 _ rfl (w.heap.size + 1) 0 rfl tab _ hra Try.underlying166 rfl infoTab ?_ | refine wpList_store_mid rfl 166 _ _ rfl w.heap.size 0 tab.toArray rfl rfl ?h1 ?h2 hall ?_)
      case h2 => exact Option.map_eq_some_iff.1 infoTab
      exact bodyPost_ret (results_cell_mid (P := Try.prog) rfl _ _ w.heap.size tab _ rfl hrs.out Try.underlying166 rfl infoTab) rfl ⟨rfl, hb2.out⟩

theorem tab_at {w : World} {g : Nat} (hg : w.heap[g]? = some (.cells tab.toArray 166 (0, 0))) (i : Nat) (hi : i < 16) : w.cell? ⟨g, i, none⟩ = some (.int .u32 ((cbs 4 i : Nat) : Int)) :=
  cell_of_block hg (by simp [tab, hi])
theorem and15 (r : Nat) (hr : r < 4294967296) : bits .and .u32 (r : Int) 15 = ((r % 16 : Nat) : Int) := by
  have := u32_and_nat r 15 hr (by omega)
  rw [show (15 : Nat) = 2 ^ 4 - 1 from rfl, Nat.and_two_pow_sub_one_eq_mod] at this
  exact this
theorem nib_bits (r : Nat) (hr : r < 4294967296) : bits .xor .u32 ((r : Int) / 16) ((cbs 4 (r % 16) : Nat) : Int) = ((cbs 4 r : Nat) : Int) := by
  have e1 : ((r : Int) / 16) = ((r / 16 : Nat) : Int) := by omega
  rw [e1, u32_xor_nat _ _ (by omega) (cbs_lt 4 (by omega)), ← cbs_nib]

set_option maxHeartbeats 2000000 in
theorem through_low (b o n c : Nat) (l : List Int) (w : World) (hb : Bytes l) (hl : l.length = n) (hn : n ≤ 140737488355328) (hs : ∀ i, i < n → w.cell? ⟨b, o + i, none⟩ = some (.int .u8 (l.getD i 0))) :
    Calls Try.prog 121 #[.agg tab.toArray, .int .u32 4294967295, .slice (some ⟨b, o, none⟩) n c] w fun e w' => e = .returned (.int .u32 ((crc 4294967295 l : Nat) : Int)) ∧ Below w.heap.size w w' := by
  have Hs := Hid.mk hs
  clear hs
  go_enter Try.func121, Try.ntmps121
  go_wp2
  go_loopw [1, 11] (fun r i wr => ∃ k : Nat, k ≤ n ∧ i = .int .i64 k ∧ wr = w.alloc (.cells tab.toArray 166) ∧ r = .int .u32 ((crc 4294967295 (l.take k) : Nat) : Int)) (fun _ i _ => n - (intOf i).toNat)
  case atStart => exact ⟨0, Nat.zero_le _, rfl, rfl, by simp [crc_nil]⟩
  case round =>
    obtain ⟨k, hk, rfl, rfl, rfl⟩ := hrel
    by_cases hlt : k < n
    · have hlt' : (k : Int) < (n : Int) := by omega
      have hc : (w.alloc (.cells tab.toArray 166)).cell? ⟨b, o + k, none⟩ = some (.int .u8 (l.getD k 0)) := Lib.cell?_alloc_some _ (Hs.out k hlt)
      have hcb : b < w.heap.size := World.block_lt_of_cell? _ _ (Hs.out k hlt)
      have htab : (w.alloc (.cells tab.toArray 166)).heap[w.heap.size]? = some (.cells tab.toArray 166 (0, 0)) := heap_alloc_new _ _
      have hkl : k < l.length := by omega
      obtain ⟨x, hx, hx1⟩ : ∃ x : Nat, l.getD k 0 = (x : Int) ∧ x < 256 := by
        have := hb l[k] (List.getElem_mem hkl)
        refine ⟨(l.getD k 0).toNat, ?_, ?_⟩ <;> simp [List.getD, hkl] <;> omega
      have htk : Bytes (l.take k) := fun y hy => hb y (List.mem_of_mem_take hy)
      have hr : crc 4294967295 (l.take k) < 4294967296 := crc_lt (by omega) htk
      have hsn : crc 4294967295 (l.take (k + 1)) = cbs 8 (crc 4294967295 (l.take k) ^^^ x) := by
        rw [List.take_succ_eq_append_getElem hkl, crc_snoc _ _ htk]
        congr 2
        have : l.getD k 0 = l[k] := by simp [List.getD, hkl]
        rw [← this, hx]; simp
      have Hsn := Hid.mk hsn
      rw [hx] at hc
      generalize hR : crc 4294967295 (l.take k) = R at *
      have hq : R ^^^ x < 4294967296 := by
        have : R ^^^ x < 2 ^ 32 := Nat.xor_lt_two_pow (by omega) (by omega)
        omega
      have e1 : bits .xor .u32 (R : Int) (x : Int) = ((R ^^^ x : Nat) : Int) := u32_xor_nat _ _ hr (by omega)
      have t1 := tab_at htab ((R ^^^ x) % 16) (by omega)
      have e2 := and15 (R ^^^ x) hq
      have e3 := nib_bits (R ^^^ x) hq
      have hq2 : cbs 4 (R ^^^ x) < 4294967296 := cbs_lt 4 hq
      have t2 := tab_at htab (cbs 4 (R ^^^ x) % 16) (by omega)
      have e4 := and15 (cbs 4 (R ^^^ x)) hq2
      have e5 := nib_bits (cbs 4 (R ^^^ x)) hq2
      have e6 : cbs 4 (cbs 4 (R ^^^ x)) = cbs 8 (R ^^^ x) := (cbs_add 4 4 _).symm
      have hxw : IntKind.u32.wrap (x : Int) = (x : Int) := by rw [IntKind.wrap_u32]; omega
      have i1 : (R ^^^ x) % 16 < 16 := by omega
      have i2 : cbs 4 (R ^^^ x) % 16 < 16 := by omega
      clear htab hsn hR htk hq hr hq2 hx
      go_wp2
      go_roundw
      case rel => exact ⟨k + 1, by omega, by go_num, trivial, by rw [Hsn.out]⟩
      case measure => simp [intOf]; omega
    · have hlt' : ¬ (k : Int) < (n : Int) := by omega
      have hkn : l.take k = l := List.take_of_length_le (by omega)
      have HB : Hid (Below w.heap.size w (w.alloc (.cells tab.toArray 166))) := (Below.refl _ w).alloc (Nat.le_refl _) _
      rw [hkn] at *
      go_wp2
      go_ret
      exact ⟨rfl, HB.out⟩

set_option maxHeartbeats 1000000 in
theorem through_none (a : Option Addr) (c : Nat) (w : World) :
    Calls Try.prog 121 #[.agg tab.toArray, .int .u32 4294967295, .slice a 0 c] w fun e w' => e = .returned (.int .u32 ((crc 4294967295 [] : Nat) : Int)) ∧ Below w.heap.size w w' := by
  have HB : Hid (Below w.heap.size w (w.alloc (.cells tab.toArray 166))) := (Below.refl _ w).alloc (Nat.le_refl _) _
  rw [crc_nil]
  go_enter Try.func121, Try.ntmps121
  go_wp2
  refine wp_loop_rounds 1 ?_; rw [rounds_succ]; go_wp2
  go_ret
  exact ⟨rfl, HB.out⟩

theorem through_any (a : Option Addr) (n c : Nat) (l : List Int) (w : World) (hb : Bytes l) (hn : n ≤ 140737488355328) (hs : Src w a n l) :
    Calls Try.prog 121 #[.agg tab.toArray, .int .u32 4294967295, .slice a n c] w fun e w' => e = .returned (.int .u32 ((crc 4294967295 l : Nat) : Int)) ∧ Below w.heap.size w w' := by
  by_cases h0 : n = 0
  · subst h0
    have : l = [] := List.eq_nil_of_length_eq_zero hs.1
    subst this
    exact through_none a c w
  · cases a with
    | none => exact absurd (hs.2.1 rfl) h0
    | some x =>
      obtain ⟨b, o, rfl, k⟩ := hs.spot (by omega)
      exact through_low b o n c l w hb hs.1 hn k

theorem not_bits (r : Nat) (hr : r < 4294967296) : bits .xor .u32 IntKind.u32.max (r : Int) = ((r ^^^ 4294967295 : Nat) : Int) := by
  have e : IntKind.u32.max = ((4294967295 : Nat) : Int) := by decide
  rw [e, u32_xor_nat _ _ (by omega) hr, Nat.xor_comm]

set_option maxHeartbeats 1000000 in
theorem sum_any (a : Option Addr) (n c : Nat) (l : List Int) (w : World) (hb : Bytes l) (hn : n ≤ 140737488355328) (hs : Src w a n l) :
    Calls Try.prog 112 #[.slice a n c] w fun e w' => e = .returned (.int .i64 ((sumOf l : Nat) : Int)) ∧ Below w.heap.size w w' := by
  have hh := halves_any w
  have Hs := Hid.mk hs
  have hr := crc_lt (r := 4294967295) (by omega) hb
  have hnb := not_bits _ hr
  have hq0 : crc 4294967295 l ^^^ 4294967295 < 4294967296 := sumOf_lt hb
  have hq : wrap64 ((crc 4294967295 l ^^^ 4294967295 : Nat) : Int) = ((crc 4294967295 l ^^^ 4294967295 : Nat) : Int) := by unfold wrap64; omega
  clear hs
  unfold sumOf
  go_enter Try.func112, Try.ntmps112
  go_wp2_with fail
  refine hh.mono ?_
  rintro e w1 ⟨rfl, hb1⟩
  have ht := through_any a n c l w1 hb hn (Hs.out.later hb1)
  have HB := Hid.mk hb1
  clear hh hb1
  go_wp2_with fail
  refine ht.mono ?_
  rintro e w2 ⟨rfl, hb2⟩
  have HB2 : Hid (Below w.heap.size w w2) := HB.out.trans (hb2.mono HB.out.size)
  clear ht hb2
  go_wp2
  go_ret
  exact ⟨rfl, HB2.out⟩
end Go.Proofs.Ytkgnkdnipcacgaa
end

section
namespace Go.Proofs.Ytkgnkdnipcacgaa
open Go.RowKit

/-- A world that is the first but for what is new. -/
structure Later (w : World) where
  to : World
  h : Below w.heap.size w to

theorem below_drew {B : Nat} {a w : World} (h : Below B a w) : Below B a w.drew := ⟨h.os, h.tape, h.output, h.size, h.block⟩

theorem Later.some (w : World) : Nonempty (Later w) := ⟨⟨w, Below.refl _ _⟩⟩

/-- A region that draws its order, whose callees make memory but change none. -/
theorem wp_region_later {P : Program} {id : Nat} {Q : Exit → Act → World → Prop} {a : Act} {w : World} {l : List Oper} (hm : P.follows .mixedOrders = true) (hB : Region.lexB .any l.toArray = true)
    (h : wpQuiet P l.toArray (fun w' => ∃ q : Later w, w' = q.to) (fun a' => ∀ w', (∃ q : Later w, w' = q.to) → Q .normal a' w') l a) : (Code.region id l.toArray true).wp P Q a w :=
  wp_region_quiet (C := fun w' => ∃ q : Later w, w' = q.to) hm hB ⟨⟨w.drew, below_drew (Below.refl _ _)⟩, rfl⟩ (by simpa using h)

/-- A callee's contract, met in a later world. -/
theorem Calls.later_of {P : Program} {f : FuncId} {args : Array Value} {w : World} {q : Later w} {v : Value}
    (h : Calls P f args q.to fun e w' => e = .returned v ∧ Below q.to.heap.size q.to w') : Calls P f args q.to fun e w'' => e = .returned v ∧ ∃ q' : Later w, w'' = q'.to :=
  h.mono fun _ w' ⟨he, hm⟩ => ⟨he, ⟨w', q.h.trans (hm.mono q.h.size)⟩, rfl⟩
end Go.Proofs.Ytkgnkdnipcacgaa
end

section
namespace Go.Proofs.Ytkgnkdnipcacgaa
open Go.RowKit

/-- A list that a call made: v is a slice of l, its memory (if any) at B or above. -/
def Own (w : World) (B : Nat) (v : Value) (l : List Int) : Prop := w.ownsRow B 5 1 v l.length (bs l)
theorem Own.nil (w : World) (B : Nat) : Own w B (.slice none 0 0) [] := ⟨by simp, .inl ⟨rfl, rfl⟩⟩
theorem Own.src {w : World} {B : Nat} {v : Value} {l : List Int} (h : Own w B v l) : ∃ a c, v = .slice a l.length c ∧ Src w a l.length l ∧ l.length ≤ c ∧ (∀ x, a = some x → B ≤ x.block ∧ x.off = 0) := by
  by_cases hv : v = .slice none 0 0
  · subst hv
    have h0 : l.length = 0 := by
      obtain ⟨_, ⟨_, hn⟩ | ⟨g, c, cur, e, _⟩⟩ := h
      · exact hn
      · cases e
    obtain rfl := List.eq_nil_of_length_eq_zero h0
    exact ⟨none, 0, rfl, ⟨rfl, fun _ => rfl, fun x hx => by cases hx⟩, Nat.le_refl _, fun x hx => by cases hx⟩
  · obtain ⟨g, c, rfl, hg, hr, _⟩ := RowAt.of_owns h hv
    refine ⟨some ⟨g, 0, none⟩, c, rfl, hr.src, ?_, fun x hx => by cases hx; exact ⟨hg, rfl⟩⟩
    have := hr.le
    simpa [bs] using this
theorem Own.row {w : World} {B : Nat} {a : Option Addr} {n c : Nat} {l : List Int} (h : Own w B (.slice a n c) l) (h0 : 0 < l.length) : ∃ g, a = some ⟨g, 0, none⟩ ∧ n = l.length ∧ B ≤ g ∧ RowAt w 5 g c (bs l) := by
  obtain ⟨g, c', e, hg, hr, _⟩ := RowAt.of_owns h (by
    intro e
    cases e
    obtain ⟨_, ⟨_, hn⟩ | ⟨g, c, cur, e, _⟩⟩ := h
    · omega
    · cases e)
  cases e
  exact ⟨g, rfl, rfl, hg, hr⟩
theorem Own.later {w w' : World} {B : Nat} {v : Value} {l : List Int} (h : Own w B v l) (hb : Below w.heap.size w w') : Own w' B v l := by
  by_cases hv : v = .slice none 0 0
  · subst hv
    obtain ⟨h1, ⟨_, hn⟩ | ⟨g, c, cur, e, _⟩⟩ := h
    · exact ⟨h1, .inl ⟨rfl, hn⟩⟩
    · cases e
  · obtain ⟨g, c, rfl, hg, hr, hl⟩ := RowAt.of_owns h hv
    have hr' := hr.agree (hb.block g hr.lt)
    have hle := hr'.le
    obtain ⟨cur, hb', hc, ht, hm⟩ := hr'
    have hl' : (bs l).length = l.length := by simp [bs]
    exact ⟨by simp [bs], .inr ⟨g, c, cur, rfl, hg, hb', by omega, hm, by simpa using hc, by rw [hl'] at ht; simpa using ht⟩⟩
theorem Own.down {w : World} {B B' : Nat} {v : Value} {l : List Int} (h : Own w B v l) (hB : B' ≤ B) : Own w B' v l := by
  obtain ⟨h1, h2 | ⟨g, c, cur, e, hg, h3⟩⟩ := h
  · exact ⟨h1, .inl h2⟩
  · exact ⟨h1, .inr ⟨g, c, cur, e, by omega, h3⟩⟩

theorem bs_append (a b : List Int) : bs (a ++ b) = bs a ++ bs b := List.map_append
theorem bs_snoc (a : List Int) (x : Int) : bs a ++ [.int .u8 x] = bs (a ++ [x]) := by rw [bs_append]; rfl
theorem take_snoc (l : List Int) (k : Nat) (h : k < l.length) : l.take k ++ [l.getD k 0] = l.take (k + 1) := by
  rw [List.take_succ_eq_append_getElem h]
  simp [List.getD, h]
theorem bs_take_succ (l : List Int) (k : Nat) (h : k < l.length) : bs (l.take k) ++ [.int .u8 (l.getD k 0)] = bs (l.take (k + 1)) := by
  rw [bs_snoc, take_snoc l k h]

set_option maxHeartbeats 4000000 in
theorem ltwin_low (b o n c : Nat) (l : List Int) (w : World) (hl : l.length = n) (hn : n ≤ 140737488355328) (hs : ∀ i, i < n → w.cell? ⟨b, o + i, none⟩ = some (.int .u8 (l.getD i 0))) :
    Calls Try.prog 92 #[.slice (some ⟨b, o, none⟩) n c] w fun e w' => ∃ v, e = .returned v ∧ Own w' w.heap.size v l ∧ Below w.heap.size w w' := by
  obtain ⟨i0, hi, hz0, hz1, hz2⟩ := info_parts infoU8
  have H := Hid.mk hs
  clear hs
  go_enter Try.func92, Try.ntmps92
  go_wp2
  go_loopw [3, 4] (fun v i wr => ∃ k : Nat, k ≤ n ∧ i = .int .i64 k ∧ wr.ownsRow w.heap.size 5 1 v k (bs (l.take k)) ∧ Below w.heap.size w wr) (fun _ i _ => n - (intOf i).toNat)
  case atStart => exact ⟨0, Nat.zero_le _, rfl, ⟨by simp, .inl ⟨rfl, rfl⟩⟩, Below.refl _ _⟩
  case round =>
    obtain ⟨k, hk, rfl, hown, hbr⟩ := hrel
    by_cases hlt : k < n
    · have hlt' : (k : Int) < (n : Int) := by omega
      have hc := cell_later hbr (H.out k hlt)
      have hz := hbr.size
      have eN := bs_take_succ l k (by omega)
      obtain ⟨X, hX⟩ : ∃ X, X = bs (l.take k) := ⟨_, rfl⟩
      rw [← hX] at hown eN
      have Hown := Hid.mk hown
      have HB := Hid.mk hbr
      have HeN := Hid.mk eN
      clear hown hbr eN hX
      generalize hx : l.getD k 0 = x at *
      go_wp2_with (at_builtin; refine wpList_append_own _ rfl _ _ 22 rfl w.heap.size 5 i0 (.int .u8 0) 1 1 Try.underlying22 hi hz0 hz1 hz2 rfl (by decide) _ _ _ rfl (Hown.out.alloc _) ⟨wr.heap.size, 0, none⟩ 1 1 [.int .u8 x] rfl rfl ?n1 ?n2 ?n3 ?n4 ?n5 ?_)
      case n1 => exact cell_one_new _ _ _
      case n2 => intro u hu; simp at hu; subst hu; rfl
      case n3 => unfold maxLen; omega
      case n4 => omega
      case n5 => simp; omega
      intro v' w1 hown' hgrow' hnil
      have HO : Hid (w1.ownsRow w.heap.size 5 1 v' (k + 1) (bs (l.take (k + 1)))) := by rw [← HeN.out]; exact hown'
      have HB1 : Hid (Below w.heap.size w w1) := (HB.out.alloc hz _).grown hgrow' (by simp; omega) (fun q e => (Hown.out.lt q e).1)
      clear hown' hgrow' hnil HeN Hown HB
      go_wp2
      go_roundw
      case rel => exact ⟨k + 1, by omega, by go_num, HO.out, HB1.out⟩
      case measure => simp [intOf]; omega
    · have hlt' : ¬ (k : Int) < (n : Int) := by omega
      have e : l.take k = l := List.take_of_length_le (by omega)
      have e2 : k = l.length := by omega
      rw [e, e2] at hown
      have Hown : Hid (Own wr w.heap.size _ l) := hown
      clear hown
      go_wp2
      go_ret
      exact ⟨_, rfl, Hown.out, hbr⟩
set_option maxHeartbeats 1000000 in
theorem ltwin_none (a : Option Addr) (c : Nat) (w : World) :
    Calls Try.prog 92 #[.slice a 0 c] w fun e w' => e = .returned (.slice none 0 0) ∧ Below w.heap.size w w' := by
  have HB := Hid.mk (Below.refl w.heap.size w)
  go_enter Try.func92, Try.ntmps92
  go_wp2
  refine wp_loop_rounds 1 ?_; rw [rounds_succ]; go_wp2
  go_ret
  exact ⟨rfl, HB.out⟩
theorem ltwin_any (a : Option Addr) (n c : Nat) (l : List Int) (w : World) (hn : n ≤ 140737488355328) (hs : Src w a n l) :
    Calls Try.prog 92 #[.slice a n c] w fun e w' => ∃ v, e = .returned v ∧ Own w' w.heap.size v l ∧ Below w.heap.size w w' := by
  by_cases h0 : n = 0
  · subst h0
    have : l = [] := List.eq_nil_of_length_eq_zero hs.1
    subst this
    refine (ltwin_none a c w).mono ?_
    rintro e w' ⟨rfl, hb⟩
    exact ⟨_, rfl, Own.nil _ _, hb⟩
  · cases a with
    | none => exact absurd (hs.2.1 rfl) h0
    | some x =>
      obtain ⟨b, o, rfl, k⟩ := hs.spot (by omega)
      exact ltwin_low b o n c l w hs.1 hn k
end Go.Proofs.Ytkgnkdnipcacgaa
end

section
namespace Go.Proofs.Ytkgnkdnipcacgaa
open Go.RowKit

theorem take_eq_next {l l' : List Int} {k : Nat} (h : l.take k = l'.take k) (h1 : k < l.length) (h2 : k < l'.length) (e : l.getD k 0 = l'.getD k 0) : l.take (k + 1) = l'.take (k + 1) := by
  rw [List.take_succ_eq_append_getElem h1, List.take_succ_eq_append_getElem h2, h]
  simp [List.getD, h1, h2] at e
  rw [e]
theorem ne_of_getD {l l' : List Int} {k : Nat} (e : l.getD k 0 ≠ l'.getD k 0) : l ≠ l' := fun h => e (by rw [h])

set_option maxRecDepth 20000 in
set_option maxHeartbeats 2000000 in
theorem lsame_ne (a b : Option Addr) (n m c d : Nat) (w : World) (h : n ≠ m) :
    Calls Try.prog 75 #[.slice a n c, .slice b m d] w fun e w' => e = .returned (.bool false) ∧ w' = w := by
  have h' : (((n : Int)) != (m : Int)) = true := by rw [bne_iff_ne]; omega
  go_enter Try.func75, Try.ntmps75
  go_wp2
  go_ret
  exact ⟨rfl, rfl⟩
set_option maxRecDepth 20000 in
set_option maxHeartbeats 2000000 in
theorem lsame_low (b o b' o' : Nat) (n c d : Nat) (l l' : List Int) (w : World) (hn : n ≤ 140737488355328) (hl : l.length = n) (hl' : l'.length = n) (h1 : ∀ i, i < n → w.cell? ⟨b, o + i, none⟩ = some (.int .u8 (l.getD i 0))) (h2 : ∀ i, i < n → w.cell? ⟨b', o' + i, none⟩ = some (.int .u8 (l'.getD i 0))) :
    Calls Try.prog 75 #[.slice (some ⟨b, o, none⟩) n c, .slice (some ⟨b', o', none⟩) n d] w fun e w' => e = .returned (.bool (decide (l = l'))) ∧ Below w.heap.size w w' := by
  have h' : (((n : Int)) != (n : Int)) = false := by simp
  have H1 := Hid.mk h1
  have H2 := Hid.mk h2
  clear h1 h2
  go_enter Try.func75, Try.ntmps75
  go_wp2
  go_loopw [5] (fun i wr => ∃ k : Nat, k ≤ n ∧ i = .int .i64 k ∧ l.take k = l'.take k ∧ Below w.heap.size w wr) (fun i _ => n - (intOf i).toNat)
  case atStart => exact ⟨0, Nat.zero_le _, rfl, by simp, Below.refl _ _⟩
  case round =>
    obtain ⟨k, hk, rfl, htk, hb⟩ := hrel
    have Htk := Hid.mk htk
    clear htk
    by_cases hlt : k < n
    · have c1 := cell_later hb (H1.out k hlt)
      have c2 := cell_later hb (H2.out k hlt)
      have hlt' : (k : Int) < (n : Int) := by omega
      by_cases hx : l.getD k 0 = l'.getD k 0
      · have Hnx := Hid.mk (take_eq_next Htk.out (by omega) (by omega) hx)
        have hb2 := Hid.mk (fun j => below_drewN hb j)
        rw [hx] at c1
        generalize l'.getD k 0 = x at *
        clear hx
        go_wp2
        go_quiet (fail)
        go_wp2
        go_roundw
        case rel => exact ⟨k + 1, by omega, by go_num, Hnx.out, below_drewN hb _⟩
        case measure => simp [intOf]; omega
      · have hne : l ≠ l' := ne_of_getD hx
        have hd : Hid (decide (l = l') = false) := by show decide (l = l') = false; simp [hne]
        have hxx : ((l.getD k 0) != (l'.getD k 0)) = true := by rw [bne_iff_ne]; exact hx
        generalize l'.getD k 0 = x at *
        generalize l.getD k 0 = y at *
        clear hx hne
        go_wp2
        go_quiet (fail)
        go_wp2
        go_ret
        exact ⟨by rw [hd.out]; rfl, below_drewN hb _⟩
    · have hlt' : ¬ (k : Int) < (n : Int) := by omega
      have hd : Hid (decide (l = l') = true) := by
        have := Htk.out
        rw [List.take_of_length_le (by omega), List.take_of_length_le (by omega)] at this
        show decide (l = l') = true
        simp [this]
      go_wp2
      go_ret
      exact ⟨by rw [hd.out]; rfl, hb⟩
set_option maxRecDepth 20000 in
set_option maxHeartbeats 1000000 in
theorem lsame_zero (a b : Option Addr) (c d : Nat) (w : World) :
    Calls Try.prog 75 #[.slice a 0 c, .slice b 0 d] w fun e w' => e = .returned (.bool true) ∧ w' = w := by
  go_enter Try.func75, Try.ntmps75
  go_wp2
  refine wp_loop_rounds 1 ?_; rw [rounds_succ]; go_wp2
  go_ret
  exact ⟨rfl, rfl⟩
theorem lsame_any (a b : Option Addr) (n m c d : Nat) (l l' : List Int) (w : World) (hn : n ≤ 140737488355328) (h1 : Src w a n l) (h2 : Src w b m l') :
    Calls Try.prog 75 #[.slice a n c, .slice b m d] w fun e w' => e = .returned (.bool (decide (l = l'))) ∧ Below w.heap.size w w' := by
  by_cases hnm : n = m
  · subst hnm
    by_cases h0 : n = 0
    · subst h0
      have e1 := List.eq_nil_of_length_eq_zero h1.1
      have e2 := List.eq_nil_of_length_eq_zero h2.1
      subst e1 e2
      exact (lsame_zero a b c d w).mono (by rintro e w' ⟨rfl, rfl⟩; exact ⟨rfl, Below.refl _ _⟩)
    · cases a with
      | none => exact absurd (h1.2.1 rfl) h0
      | some x =>
        cases b with
        | none => exact absurd (h2.2.1 rfl) h0
        | some y =>
          obtain ⟨b1, o1, rfl, k1⟩ := h1.spot (by omega)
          obtain ⟨b2, o2, rfl, k2⟩ := h2.spot (by omega)
          exact lsame_low b1 o1 b2 o2 n c d l l' w hn h1.1 h2.1 k1 k2
  · have hd : decide (l = l') = false := by
      have : l ≠ l' := fun e => hnm (by rw [← h1.1, ← h2.1, e])
      simp [this]
    rw [hd]
    exact (lsame_ne a b n m c d w hnm).mono (by rintro e w' ⟨rfl, rfl⟩; exact ⟨rfl, Below.refl _ _⟩)

/-- The list made 512 bytes long. -/
def sec (l : List Int) : List Int := (List.range 512).map (fun i => l.getD i 0)
theorem sec_len (l : List Int) : (sec l).length = 512 := by simp [sec]
theorem sec_bytes {l : List Int} (h : Bytes l) : Bytes (sec l) := by
  intro x hx
  obtain ⟨j, _, rfl⟩ := List.mem_map.1 hx
  exact h.getD _
theorem sec_getD (l : List Int) {i : Nat} (h : i < 512) : (sec l).getD i 0 = l.getD i 0 := by simp [sec, List.getD, h]
theorem sec_self {l : List Int} (h : l.length = 512) : sec l = l := by
  apply List.ext_getElem?
  intro i
  by_cases hi : i < 512
  · simp [sec, hi, List.getD, List.getElem?_eq_getElem (show i < l.length by omega)]
  · rw [List.getElem?_eq_none (by rw [sec_len]; omega), List.getElem?_eq_none (by omega)]

theorem own_of {w : World} {B k : Nat} {v : Value} {l m : List Int} (h : w.ownsRow B 5 1 v k (bs l)) (hk : m.length = k) (e : m = l) : Own w B v m := by
  subst e; subst hk; exact h

set_option maxHeartbeats 4000000 in
theorem lsector_any (a : Option Addr) (n c : Nat) (l : List Int) (w : World) (hn : n ≤ 140737488355328) (hs : Src w a n l) :
    Calls Try.prog 73 #[.slice a n c] w fun e w' => ∃ v, e = .returned v ∧ Own w' w.heap.size v (sec l) ∧ Below w.heap.size w w' := by
  obtain ⟨i0, hi, hz0, hz1, hz2⟩ := info_parts infoU8
  have H := Hid.mk hs
  have hl := hs.1
  clear hs
  go_enter Try.func73, Try.ntmps73
  go_wp2
  go_loopw [3, 4] (fun v i wr => ∃ k : Nat, k ≤ 512 ∧ i = .int .i64 k ∧ wr.ownsRow w.heap.size 5 1 v k (bs ((List.range k).map (fun i => l.getD i 0))) ∧ Below w.heap.size w wr) (fun _ i _ => 512 - (intOf i).toNat)
  case atStart => exact ⟨0, Nat.zero_le _, rfl, ⟨by simp, .inl ⟨rfl, rfl⟩⟩, Below.refl _ _⟩
  case round =>
    obtain ⟨k, hk, rfl, hown, hbr⟩ := hrel
    by_cases hlt : k < 512
    · have hlt' : (k : Int) < 512 := by omega
      have hz := hbr.size
      have Hown := Hid.mk hown
      have HB := Hid.mk hbr
      have eN : bs ((List.range k).map (fun i => l.getD i 0)) ++ [.int .u8 (l.getD k 0)] = bs ((List.range (k + 1)).map (fun i => l.getD i 0)) := by
        rw [List.range_succ]; simp [bs]
      obtain ⟨X, hX⟩ : ∃ X, X = bs ((List.range k).map (fun i => l.getD i 0)) := ⟨_, rfl⟩
      rw [← hX] at Hown eN
      have HeN := Hid.mk eN
      clear hown hbr eN hX
      by_cases hkn : k < n
      · have hkn' : (k : Int) < (n : Int) := by omega
        obtain ⟨x0, rfl⟩ : ∃ x, a = some x := by
          cases a with
          | none => have := H.out.2.1 rfl; omega
          | some x => exact ⟨x, rfl⟩
        obtain ⟨b, o, rfl, hcell⟩ := H.out.spot (by omega)
        have hc := cell_later HB.out (hcell k hkn)
        clear hcell
        generalize hx : l.getD k 0 = x at *
        go_wp2_with (at_builtin; refine wpList_append_own _ rfl _ _ 22 rfl w.heap.size 5 i0 (.int .u8 0) 1 1 Try.underlying22 hi hz0 hz1 hz2 rfl (by decide) _ _ _ rfl (Hown.out.alloc _) ⟨wr.heap.size, 0, none⟩ 1 1 [.int .u8 x] rfl rfl ?n1 ?n2 ?n3 ?n4 ?n5 ?_)
        case n1 => exact cell_one_new _ _ _
        case n2 => first | rfl | (intro u hu; simp at hu; subst hu; rfl)
        case n3 => unfold maxLen; omega
        case n4 => omega
        case n5 => first | omega | (simp; omega)
        intro v' w1 hown' hgrow' hnil
        have HO : Hid (w1.ownsRow w.heap.size 5 1 v' (k + 1) (bs ((List.range (k + 1)).map (fun i => l.getD i 0)))) := by rw [← HeN.out]; exact hown'
        have HB1 : Hid (Below w.heap.size w w1) := (HB.out.alloc hz _).grown hgrow' (by simp; omega) (fun q e => (Hown.out.lt q e).1)
        clear hown' hgrow' hnil HeN Hown HB
        go_wp2
        go_roundw
        case rel => exact ⟨k + 1, by omega, by go_num, HO.out, HB1.out⟩
        case measure => simp [intOf]; omega
      · have hkn' : ¬ (k : Int) < (n : Int) := by omega
        have hx : l.getD k 0 = 0 := by simp [List.getD, List.getElem?_eq_none (show l.length ≤ k by omega)]
        rw [hx] at HeN
        clear hx
        go_wp2_with (at_builtin; refine wpList_append_own _ rfl _ _ 22 rfl w.heap.size 5 i0 (.int .u8 0) 1 1 Try.underlying22 hi hz0 hz1 hz2 rfl (by decide) _ _ _ rfl (Hown.out.alloc _) ⟨wr.heap.size, 0, none⟩ 1 1 [.int .u8 0] rfl rfl ?n1 ?n2 ?n3 ?n4 ?n5 ?_)
        case n2 => first | rfl | (intro u hu; simp at hu; subst hu; rfl)
        case n3 => unfold maxLen; omega
        case n4 => omega
        case n5 => first | omega | (simp; omega)
        intro v' w1 hown' hgrow' hnil
        have HO : Hid (w1.ownsRow w.heap.size 5 1 v' (k + 1) (bs ((List.range (k + 1)).map (fun i => l.getD i 0)))) := by rw [← HeN.out]; exact hown'
        have HB1 : Hid (Below w.heap.size w w1) := (HB.out.alloc hz _).grown hgrow' (by simp; omega) (fun q e => (Hown.out.lt q e).1)
        clear hown' hgrow' hnil HeN Hown HB
        go_wp2
        go_roundw
        case rel => exact ⟨k + 1, by omega, by go_num, HO.out, HB1.out⟩
        case measure => simp [intOf]; omega
    · have hlt' : ¬ (k : Int) < 512 := by omega
      have e2 : k = 512 := by omega
      subst e2
      have Hown := Hid.mk (own_of (m := sec l) hown (sec_len l) rfl)
      clear hown
      go_wp2
      go_ret
      exact ⟨_, rfl, Hown.out, hbr⟩
end Go.Proofs.Ytkgnkdnipcacgaa
end

section
namespace Go.Proofs.Ytkgnkdnipcacgaa
open Go.RowKit

theorem i64_xor_nat (a b : Nat) (ha : a < 4294967296) (hb : b < 4294967296) : bits .xor .i64 (a : Int) (b : Int) = ((a ^^^ b : Nat) : Int) := by
  have hx : a ^^^ b < 2 ^ 32 := Nat.xor_lt_two_pow (by omega) (by omega)
  have ea : (BitVec.ofInt 64 (a : Int)).toNat = a := by rw [BitVec.ofInt_natCast, BitVec.toNat_ofNat]; exact Nat.mod_eq_of_lt (by omega)
  have eb : (BitVec.ofInt 64 (b : Int)).toNat = b := by rw [BitVec.ofInt_natCast, BitVec.toNat_ofNat]; exact Nat.mod_eq_of_lt (by omega)
  show IntKind.i64.wrap ((BitVec.ofInt 64 (a : Int) ^^^ BitVec.ofInt 64 (b : Int)).toNat : Int) = _
  rw [BitVec.toNat_xor, ea, eb, IntKind.wrap_i64]
  omega

theorem i64_and1 (a : Nat) (ha : a < 4294967296) : bits .and .i64 (a : Int) 1 = ((a % 2 : Nat) : Int) := by
  have ea : (BitVec.ofInt 64 (a : Int)).toNat = a := by rw [BitVec.ofInt_natCast, BitVec.toNat_ofNat]; exact Nat.mod_eq_of_lt (by omega)
  have eb : (BitVec.ofInt 64 (1 : Int)).toNat = 1 := by decide
  show IntKind.i64.wrap ((BitVec.ofInt 64 (a : Int) &&& BitVec.ofInt 64 (1 : Int)).toNat : Int) = _
  rw [BitVec.toNat_and, ea, eb, IntKind.wrap_i64, Nat.and_one_is_mod]
  omega

end Go.Proofs.Ytkgnkdnipcacgaa
end

section
namespace Go.Proofs.Ytkgnkdnipcacgaa
open Go.RowKit

theorem eq_u8 (n : Nat) (a b : Int) (w : World) : (Op.equalIn (n + 1) 5 (.int .u8 a) (.int .u8 b)).run Try.prog w = .ok (a == b) w := by
  simp [Op.equalIn, go_sem]
theorem part_u8 (xs : Array Value) (off : Nat) (v : Value) (w : World) (h : xs[off]? = some v) : (part 5 xs off).run Try.prog w = .ok v w := run_part_plain (P := Try.prog) w (by kernel_rfl) h
theorem eqStep_u8 (n : Nat) (w : World) (xs ys : Array Value) (j : Nat) (a b : Int) (js : List Nat) (h1 : xs[j]? = some (.int .u8 a)) (h2 : ys[j]? = some (.int .u8 b)) :
    (Op.eqItems (n + 1) 5 1 xs ys (j :: js)).run Try.prog w = if a = b then (Op.eqItems (n + 1) 5 1 xs ys js).run Try.prog w else .ok false w := by
  simp only [Op.eqItems, Nat.mul_one, Sem.run_bind, part_u8 xs j _ w h1, part_u8 ys j _ w h2, Result.andThen_ok, eq_u8]
  by_cases h : a = b
  · simp [h]
  · simp [h]
theorem eqItems_u8 (n : Nat) (l m : List Int) (w : World) : ∀ js : List Nat, (∀ j ∈ js, j < l.length ∧ j < m.length) →
    (Op.eqItems (n + 1) 5 1 (bs l).toArray (bs m).toArray js).run Try.prog w = .ok (decide (∀ j ∈ js, l.getD j 0 = m.getD j 0)) w
  | [], _ => by simp [Op.eqItems]
  | j :: js, h => by
    obtain ⟨h1, h2⟩ := h j (by simp)
    have e1 : (bs l).toArray[j]? = some (.int .u8 (l.getD j 0)) := by simp [bs, List.getD, h1]
    have e2 : (bs m).toArray[j]? = some (.int .u8 (m.getD j 0)) := by simp [bs, List.getD, h2]
    have ih := eqItems_u8 n l m w js (fun i hi => h i (by simp [hi]))
    rw [eqStep_u8 n w _ _ j _ _ js e1 e2]
    by_cases hx : l.getD j 0 = m.getD j 0
    · rw [if_pos hx, ih]
      refine congrArg (fun b => Result.ok b w) ?_
      rw [decide_eq_decide]
      exact ⟨fun k i hi => by rcases List.mem_cons.1 hi with rfl | hi; exact hx; exact k i hi, fun k i hi => k i (by simp [hi])⟩
    · rw [if_neg hx]
      refine congrArg (fun b => Result.ok b w) ?_
      symm
      rw [decide_eq_false_iff_not]
      exact fun k => hx (k j (by simp))
theorem getD_ext {l m : List Int} (hl : l.length = m.length) (h : ∀ i, i < l.length → l.getD i 0 = m.getD i 0) : l = m := by
  apply List.ext_getElem?
  intro i
  by_cases hi : i < l.length
  · have := h i hi
    simp only [List.getD, List.getElem?_eq_getElem hi, List.getElem?_eq_getElem (show i < m.length by omega), Option.getD_some] at this
    rw [List.getElem?_eq_getElem hi, List.getElem?_eq_getElem (show i < m.length by omega), this]
  · rw [List.getElem?_eq_none (by omega), List.getElem?_eq_none (by omega)]
theorem eq_row (N n : Nat) (T : TypeId) (l m : List Int) (hl : l.length = N) (hm : m.length = N) (w : World) (hu : Try.prog.underlying T = some (.array N 5)) :
    (Op.equalIn (n + 2) T (.agg (bs l).toArray) (.agg (bs m).toArray)).run Try.prog w = .ok (decide (l = m)) w := by
  obtain ⟨i0, hi⟩ := info_of_underlying (P := Try.prog) Try.underlying5
  rw [run_equalIn_array (P := Try.prog) w (n + 1) _ _ hu hi]
  have hce : Try.prog.cellsOf 5 = 1 := by kernel_rfl
  rw [hce, eqItems_u8 n l m w _ (fun j hj => by rw [List.mem_range] at hj; omega)]
  refine congrArg (fun b => Result.ok b w) ?_
  rw [decide_eq_decide]
  constructor
  · intro h
    exact getD_ext (by omega) (fun i hi => h i (List.mem_range.2 (by omega)))
  · rintro rfl _ _; rfl
theorem eq_sec (n : Nat) (l m : List Int) (hl : l.length = 512) (hm : m.length = 512) (w : World) :
    (Op.equalIn (n + 2) 119 (.agg (bs l).toArray) (.agg (bs m).toArray)).run Try.prog w = .ok (decide (l = m)) w :=
  eq_row 512 n 119 l m hl hm w Try.underlying119
theorem guardSec : Try.prog.eqGuardType Try.prog.depth 119 = false := by kernel_rfl
theorem eqop_sec (l m : List Int) (hl : l.length = 512) (hm : m.length = 512) (w : World) (x y : Operand) :
    (do eqGuard .eql 119 x y (.agg (bs l).toArray) (.agg (bs m).toArray); binOp .eql 119 (.agg (bs l).toArray) (.agg (bs m).toArray)).run Try.prog w = .ok (.bool (decide (l = m))) w := by
  have hb := eq_sec 9998 l m hl hm w
  rw [Sem.run_bind, run_eqGuard_agg (P := Try.prog) w .eql 119 x y _ _ guardSec, Result.andThen_ok]
  show (binOp .eql 119 (.agg (bs l).toArray) (.agg (bs m).toArray)).run Try.prog w = _
  unfold binOp Op.equal Op.maxDepth
  rw [Sem.run_bind, hb, Result.andThen_ok, Sem.run_pure]
/-- Two sectors are compared, in a plain region. -/
theorem wpList_eq_sec {ops : Array Oper} {rest : List Oper} {op : Oper} {a : Act} {w : World} {Q : Exit → Act → World → Prop} (hgd : op.guard = none) (x y : Operand) (T : TypeId) (ho : op.op = .binOp .eql 119 x y T)
    (l m : List Int) (hx : a.eval x = .agg (bs l).toArray) (hy : a.eval y = .agg (bs m).toArray) (hl : l.length = 512) (hm : m.length = 512)
    (h : wpList Try.prog ops Q rest (a.put op.dst (.bool (decide (l = m)))) w) : wpList Try.prog ops Q (op :: rest) a w :=
  wpList_plain hgd fun K hK => by
    unfold Oper.wp execOp
    simp only [ho, hx, hy]
    have := eqop_sec l m hl hm w x y
    rw [Sem.run_bind, this]
    exact hK _ _ h
end Go.Proofs.Ytkgnkdnipcacgaa
end
