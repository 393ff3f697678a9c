import Derived.Test.YtokcgifpljeoiaaGreatV01
import Derived.Test.YtokcgifpljeoiaaGreatV02
import Derived.ProofKit
import Derived.OpenShut
import Derived.ShutString
import Derived.ChangeOld
import Derived.SizedLaws
import Derived.Deep.Slices
import Derived.Deep.Light
import Derived.Deep.MidRow
import Derived.Deep.Quiet
import Derived.BigQuiet
import Derived.OwnWalk
import Derived.RegionTactic
import Derived.BigRegion
import Derived.Deep.RegionLaw
import Derived.ChangeKeysEq
import Derived.ArgAppend
section
namespace Go.Proofs.YtokcgifpljeoiaaGreat
open Go.ChangeShapes Go.WideShapes Go.ChangeAt Go.RowKit Go.Deep

theorem ownKnobs : ownKnob Tryz.prog.godebug = none := by kernel_rfl
theorem laidOut : laidOutB Tryz.prog = true := by kernel_rfl
theorem bytesU8 : Tryz.prog.bytesOf 5 = 1 := by kernel_rfl
theorem cellsU8 : Tryz.prog.cellsOf 5 = 1 := by kernel_rfl
theorem cellsInt : Tryz.prog.cellsOf 3 = 1 := by kernel_rfl
/-- An int's bounds. -/
def I64 (n : Int) : Prop := -9223372036854775808 ≤ n ∧ n ≤ 9223372036854775807
theorem int_wf {n : Int} (h : (Lit.int .i64 n).wf = true) : I64 n := by
  have := h
  simp [Lit.wf, IntKind.min, IntKind.max, IntKind.bits, IntKind.signed] at this
  unfold I64
  omega
theorem u8_wf {n : Int} (h : (Lit.int .u8 n).wf = true) : 0 ≤ n ∧ n < 256 := by
  have := h
  simp [Lit.wf, IntKind.min, IntKind.max, IntKind.bits, IntKind.signed] at this
  omega

section
variable {H : Type} {enc : TypeId × Value → H} {W : World} {base : Nat} {spare : Nat → Bool} {held : Bool}

theorem weightsAll_mem {P : Program} {e : TypeId} {n : Nat} : ∀ {ds : List (DataW H)} {d : DataW H}, d ∈ ds → n ∈ d.weights P e → n ∈ DataW.weightsAll P e ds
  | d :: r, d', hd, hn => by
    rw [DataW.weightsAll]
    rcases List.mem_cons.1 hd with rfl | h
    · exact List.mem_append_left _ hn
    · exact List.mem_append_right _ (weightsAll_mem h hn)

theorem trod3 {P : Program} {e : TypeId} {f0 f1 f2 : Field} {n : Nat} {cs : List Value} {x : DataW H × List MemPlace} (he : P.underlying e = some (.struct #[f0, f1, f2])) (ce : P.cellsOf e = 3) (o0 : f0.offset = 0) (o1 : f1.offset = 1) (o2 : f2.offset = 2)
    (c0 : P.cellsOf f0.type = 1) (c1 : P.cellsOf f1.type = 1) (c2 : P.cellsOf f2.type = 1) (h : DataW.trod enc P W base spare held n e cs = some x) :
    ∃ v0 v1 v2 y0 y1 y2 k, cs = [v0, v1, v2] ∧ x.1 = .agg [y0.1, y1.1, y2.1] ∧ DataW.trod enc P W base spare held k f0.type [v0] = some y0 ∧ DataW.trod enc P W base spare held k f1.type [v1] = some y1 ∧ DataW.trod enc P W base spare held k f2.type [v2] = some y2 := by
  obtain ⟨xs, k, _, hxy, hlen, hxl, hf⟩ := DataW.trod_struct he h
  rw [ce] at hlen
  match xs, hxl, cs, hlen with
  | [y0, y1, y2], _, [v0, v1, v2], _ =>
    have g0 := hf 0 f0 rfl
    have g1 := hf 1 f1 rfl
    have g2 := hf 2 f2 rfl
    simp [o0, o1, o2, c0, c1, c2] at g0 g1 g2
    exact ⟨v0, v1, v2, y0, y1, y2, k, rfl, by rw [hxy]; rfl, g0, g1, g2⟩

theorem open_bytes {fuel : Nat} {v : Value} {d : DataW H} {pl : List MemPlace} (h : DataW.trod enc Tryz.prog W base spare held fuel 22 [v] = some (d, pl)) (hw : ∀ n ∈ d.weights Tryz.prog 22, n ≤ reachBytes) :
    ∃ a n c l, v = .slice a n c ∧ Src W a n l ∧ Bytes l ∧ n ≤ c ∧ n ≤ 140737488355328 := by
  rcases open_ints Tryz.underlying22 Tryz.underlying5 cellsU8 h with ⟨hcs, _⟩ | ⟨x, l, c, zs, hcs, _, hl, hm, hz, hd, hcell, hwz⟩
  · simp only [List.cons.injEq, and_true] at hcs
    exact ⟨none, 0, 0, [], hcs, ⟨rfl, fun _ => rfl, fun x hx => by cases hx⟩, (fun x hx => by cases hx), Nat.le_refl _, Nat.zero_le _⟩
  · simp only [List.cons.injEq, and_true] at hcs
    simp only [Prod.mk.injEq] at hd
    obtain ⟨rfl, rfl⟩ := hd
    have hzl : l ≤ zs.length := by rw [hz]; split <;> omega
    have h1 := hw ((((lits IntKind.u8 (zs.take l) : List (DataW H))).length + ((lits IntKind.u8 (zs.drop l) : List (DataW H))).length) * Tryz.prog.bytesOf 5) (by simp [DataW.weights, Tryz.underlying22])
    rw [bytesU8] at h1
    simp only [lits, List.length_map, List.length_take, List.length_drop, reachBytes] at h1
    refine ⟨some x, l, c, zs.take l, hcs, ⟨by simp; omega, (fun h => by cases h), fun y hy i hi => ?_⟩, fun z hz => u8_wf (hwz z (List.mem_of_mem_take hz)), hl, by omega⟩
    cases hy
    rw [hcell i (by omega)]
    simp [List.getD, hi]
end
end Go.Proofs.YtokcgifpljeoiaaGreat
end

section
namespace Go.Proofs.YtokcgifpljeoiaaGreat
open Go.RowKit

/-- The table. -/
def tab : List Value := (List.range 16).map (fun j => Value.int .u32 ((cbs 4 j : Nat) : Int))
theorem tab_len : tab.length = 16 := by simp [tab]
theorem tab_one : ∀ v ∈ tab, v.oneCell' = true := by
  intro v hv
  obtain ⟨j, _, rfl⟩ := List.mem_map.1 hv
  rfl
theorem infoTab : (Tryz.prog.info? 227).map (·.size) = some tab.length := by rw [tab_len]; kernel_rfl

theorem bit1 (r : Nat) (hr : r < 4294967296) : bits .and .u32 (r : Int) 1 = ((r % 2 : Nat) : Int) := by
  have := u32_and_nat r 1 hr (by omega)
  rw [Nat.and_one_is_mod] at this
  exact this
theorem cb_bits (r : Nat) (hr : r < 4294967296) : bits .xor .u32 ((r : Int) / 2) (2197175160 * ((r : Int) % 2)) = ((cb r : Nat) : Int) := by
  have e1 : ((r : Int) / 2) = ((r / 2 : Nat) : Int) := by omega
  have e2 : (2197175160 * ((r : Int) % 2)) = (((if r % 2 = 1 then 2197175160 else 0) : Nat) : Int) := by
    split <;> omega
  rw [e1, e2, u32_xor_nat _ _ (by omega) (by split <;> omega)]
  rfl

theorem Keeps.setCells {F : Nat → Prop} {b : Nat} (hb : F b) : ∀ (vs : List Value) (o : Nat) (w : World), Keeps F w (w.setCells b o vs)
  | [], _, w => Keeps.refl F w
  | v :: r, o, w => (Keeps.setCell (p := ⟨b, o, none⟩) w hb v).trans (Keeps.setCells hb r (o + 1) _) (fun _ h => .inl h)
theorem size_setCells {b : Nat} : ∀ (vs : List Value) (o : Nat) (w : World), (w.setCells b o vs).heap.size = w.heap.size
  | [], _, _ => rfl
  | v :: r, o, w => by simp only [World.setCells]; rw [size_setCells r]; simp [World.setCell]

theorem results_cell_mid {P : Program} {fn : Func} {p : Tmp} {ty : TypeId} (h : fn.results = #[.cell p ty]) (tmps : Array Value) (w : World) (g : Nat) (cs : List Value) (d : TypeDesc)
    (hp : tmps.getD p undef = .pointer (some ⟨g, 0, none⟩)) (hg : w.rangeAt g 0 cs) (hu : P.underlying ty = some d) (hd : d.isRow = true) (hi : (P.info? ty).map (·.size) = some cs.length) :
    (results fn tmps).run P w = .ok (.agg cs.toArray) w := by
  have hp' : tmps[p]?.getD undef = .pointer (some ⟨g, 0, none⟩) := by simpa using hp
  simp [results, h, hp', asAddr, run_loadVar_mid w g 0 ty cs d hg hu hd hi]

/-- What halves' outer loop keeps. -/
def Half (w wr : World) (k : Nat) : Prop :=
  Below w.heap.size w wr ∧ wr.heap.size = w.heap.size + 2 ∧ (∃ cur : Array Value, cur.size = 16 ∧ wr.heap[w.heap.size]? = some (.cells cur 227 (0, 0))) ∧
    ∃ cs : List Int, cs.length = 16 ∧ wr.heap[w.heap.size + 1]? = some (.cells (cs.map (Value.int .u32)).toArray 227 (0, 0)) ∧ ∀ j, j < k → cs[j]? = some ((cbs 4 j : Nat) : Int)

theorem Half.next {w wr : World} {k : Nat} (h : Half w wr k) (hk : k < 16) : (∃ v, wr.cell? ⟨w.heap.size + 1, k, none⟩ = some (.int .u32 v)) ∧ wr.frozen? ⟨w.heap.size + 1, k, none⟩ = false ∧
    Half w (wr.setCell ⟨w.heap.size + 1, k, none⟩ (.int .u32 ((cbs 4 k : Nat) : Int))) (k + 1) := by
  obtain ⟨hb, hs, ⟨cur, hc, hcb⟩, cs, hl, hblk, hcs⟩ := h
  have hkl : k < cs.length := by omega
  refine ⟨⟨cs[k], cell_of_block hblk (by simp [hkl])⟩, frozen_of_block hblk k, ?_, ?_, ⟨cur, hc, ?_⟩, cs.set k ((cbs 4 k : Nat) : Int), by simp [hl], ?_, ?_⟩
  · exact hb.trans ((Keeps.setCell (F := fun j => j = w.heap.size + 1) (p := ⟨w.heap.size + 1, k, none⟩) wr rfl _).below (fun j hj => by omega) (by omega))
  · simpa [World.setCell] using hs
  · rw [Below.heap_setCell _ _ _ _ (by simp)]; exact hcb
  · rw [heap_setCell_same _ _ _ _ _ _ hblk]
    congr 2
    apply Array.ext'
    simp [List.map_set]
  · intro j hj
    by_cases e : j = k
    · subst e; simp [hkl]
    · rw [List.getElem?_set_ne (by omega)]; exact hcs j (by omega)

theorem Half.done {w wr : World} (h : Half w wr 16) : wr.rangeAt (w.heap.size + 1) 0 tab ∧ wr.there w.heap.size 0 tab.length := by
  obtain ⟨hb, hs, ⟨cur, hc, hcb⟩, cs, hl, hblk, hcs⟩ := h
  constructor
  · intro j v hv
    have hj : j < 16 := by
      have := (List.getElem?_eq_some_iff.1 hv).1
      rwa [tab_len] at this
    rw [Nat.zero_add]
    refine cell_of_block hblk ?_
    rw [← hv]
    simp [tab, hcs j hj, hj]
  · intro j hj
    rw [tab_len] at hj
    rw [Nat.zero_add]
    exact ⟨by rw [cell_of_block hcb (j := j) (u := cur[j]'(by omega)) (by simp [show j < cur.size by omega])]; rfl, frozen_of_block hcb j⟩

set_option maxHeartbeats 2000000 in
theorem halves_any (w : World) :
    Calls Tryz.prog 170 #[] w fun e w' => e = .returned (.agg tab.toArray) ∧ Below w.heap.size w w' := by
  go_enter Tryz.func170, Tryz.ntmps170
  go_wp2
  go_loopw [5] (fun i wr => ∃ k : Nat, k ≤ 16 ∧ i = .int .i64 k ∧ Half w wr k) (fun i _ => 16 - (intOf i).toNat)
  case atStart =>
    refine ⟨0, Nat.zero_le _, rfl, Below.alloc (Below.alloc (Below.refl _ _) (Nat.le_refl _) _) (by simp) _, by simp, ⟨_, ?_, heap_alloc2_old _ _ _⟩, List.replicate 16 0, by simp, ?_, fun j hj => by omega⟩
    · rfl
    · rw [heap_alloc2_new]; rfl
  case round =>
    obtain ⟨k, hk, rfl, hhalf⟩ := hrel
    by_cases hlt : k < 16
    · have hlt' : (k : Int) < 16 := by omega
      obtain ⟨⟨v0, hc⟩, hf, hnext⟩ := hhalf.next hlt
      go_wp2
      go_loopw [3, 10] (fun r i wx => ∃ m : Nat, m ≤ 4 ∧ i = .int .i64 m ∧ wx = wr ∧ r = .int .u32 ((cbs m k : Nat) : Int)) (fun _ i _ => 4 - (intOf i).toNat)
      case atStart => exact ⟨0, Nat.zero_le _, rfl, rfl, rfl⟩
      case round =>
        obtain ⟨m, hm, rfl, rfl, rfl⟩ := hrel
        have hr : cbs m k < 4294967296 := cbs_lt m (by omega)
        by_cases hlm : m < 4
        · have hlm' : (m : Int) < 4 := by omega
          have hb1 := bit1 (cbs m k) hr
          have hb3 : cb (cbs m k) = cbs (m + 1) k := by rw [cbs_add]; rfl
          go_wp2
          go_roundw
          case rel => exact ⟨m + 1, by omega, by go_num, trivial, by rw [← hb3, ← (cb_bits (cbs m k) hr)]⟩
          case measure => simp [intOf]; omega
        · have hlm' : ¬ (m : Int) < 4 := by omega
          have hm4 : m = 4 := by omega
          subst hm4
          go_wp2
          go_roundw
          case rel => exact ⟨k + 1, by omega, by go_num, hnext⟩
          case measure => simp [intOf]; omega
    · have hlt' : ¬ (k : Int) < 16 := by omega
      have hk16 : k = 16 := by omega
      subst hk16
      obtain ⟨hra, hth⟩ := hhalf.done
      have hbel := hhalf.1
      have hall := all_oneCell_toArray tab_one
      go_wp2_with (first | refine wpList_load_mid rfl 227 _ rfl (w.heap.size + 1) 0 rfl tab _ hra Tryz.underlying227 rfl infoTab ?_ | refine wpList_store_mid rfl 227 _ _ rfl w.heap.size 0 tab.toArray rfl rfl ?h1 ?h2 hall ?_)
      case h2 => exact Option.map_eq_some_iff.1 infoTab
      exact bodyPost_ret (results_cell_mid (P := Tryz.prog) rfl _ _ w.heap.size tab _ rfl (World.rangeAt_setCells_same wr w.heap.size 0 tab hth) Tryz.underlying227 rfl infoTab) rfl ⟨rfl, (hbel.trans ((Keeps.setCells (F := fun j => j = w.heap.size) rfl tab 0 wr).below (fun j hj => by omega) hbel.size))⟩

theorem tab_at {w : World} {g : Nat} (hg : w.heap[g]? = some (.cells tab.toArray 227 (0, 0))) (i : Nat) (hi : i < 16) : w.cell? ⟨g, i, none⟩ = some (.int .u32 ((cbs 4 i : Nat) : Int)) :=
  cell_of_block hg (by simp [tab, hi])
theorem and15 (r : Nat) (hr : r < 4294967296) : bits .and .u32 (r : Int) 15 = ((r % 16 : Nat) : Int) := by
  have := u32_and_nat r 15 hr (by omega)
  rw [show (15 : Nat) = 2 ^ 4 - 1 from rfl, Nat.and_two_pow_sub_one_eq_mod] at this
  exact this
theorem nib_bits (r : Nat) (hr : r < 4294967296) : bits .xor .u32 ((r : Int) / 16) ((cbs 4 (r % 16) : Nat) : Int) = ((cbs 4 r : Nat) : Int) := by
  have e1 : ((r : Int) / 16) = ((r / 16 : Nat) : Int) := by omega
  rw [e1, u32_xor_nat _ _ (by omega) (cbs_lt 4 (by omega)), ← cbs_nib]

set_option maxHeartbeats 2000000 in
theorem through_low (b o n c : Nat) (l : List Int) (w : World) (hb : Bytes l) (hl : l.length = n) (hn : n ≤ 140737488355328) (hs : ∀ i, i < n → w.cell? ⟨b, o + i, none⟩ = some (.int .u8 (l.getD i 0))) :
    Calls Tryz.prog 169 #[.agg tab.toArray, .int .u32 4294967295, .slice (some ⟨b, o, none⟩) n c] w fun e w' => e = .returned (.int .u32 ((crc 4294967295 l : Nat) : Int)) ∧ Below w.heap.size w w' := by
  go_enter Tryz.func169, Tryz.ntmps169
  go_wp2
  go_loopw [1, 11] (fun r i wr => ∃ k : Nat, k ≤ n ∧ i = .int .i64 k ∧ wr = w.alloc (.cells tab.toArray 227) ∧ r = .int .u32 ((crc 4294967295 (l.take k) : Nat) : Int)) (fun _ i _ => n - (intOf i).toNat)
  case atStart => exact ⟨0, Nat.zero_le _, rfl, rfl, by simp [crc_nil]⟩
  case round =>
    obtain ⟨k, hk, rfl, rfl, rfl⟩ := hrel
    by_cases hlt : k < n
    · have hlt' : (k : Int) < (n : Int) := by omega
      have hc : (w.alloc (.cells tab.toArray 227)).cell? ⟨b, o + k, none⟩ = some (.int .u8 (l.getD k 0)) := Lib.cell?_alloc_some _ (hs k hlt)
      have htab : (w.alloc (.cells tab.toArray 227)).heap[w.heap.size]? = some (.cells tab.toArray 227 (0, 0)) := heap_alloc_new _ _
      have hkl : k < l.length := by omega
      obtain ⟨x, hx, hx1⟩ : ∃ x : Nat, l.getD k 0 = (x : Int) ∧ x < 256 := by
        have := hb l[k] (List.getElem_mem hkl)
        refine ⟨(l.getD k 0).toNat, ?_, ?_⟩ <;> simp [List.getD, hkl] <;> omega
      have htk : Bytes (l.take k) := fun y hy => hb y (List.mem_of_mem_take hy)
      have hr : crc 4294967295 (l.take k) < 4294967296 := crc_lt (by omega) htk
      have hsn : crc 4294967295 (l.take (k + 1)) = cbs 8 (crc 4294967295 (l.take k) ^^^ x) := by
        rw [List.take_succ_eq_append_getElem hkl, crc_snoc _ _ htk]
        congr 2
        have : l.getD k 0 = l[k] := by simp [List.getD, hkl]
        rw [← this, hx]; simp
      rw [hx] at hc
      generalize hR : crc 4294967295 (l.take k) = R at *
      have hq : R ^^^ x < 4294967296 := by
        have : R ^^^ x < 2 ^ 32 := Nat.xor_lt_two_pow (by omega) (by omega)
        omega
      have e1 : bits .xor .u32 (R : Int) (x : Int) = ((R ^^^ x : Nat) : Int) := u32_xor_nat _ _ hr (by omega)
      have t1 := tab_at htab ((R ^^^ x) % 16) (by omega)
      have e2 := and15 (R ^^^ x) hq
      have e3 := nib_bits (R ^^^ x) hq
      have hq2 := cbs_lt 4 hq
      have t2 := tab_at htab (cbs 4 (R ^^^ x) % 16) (by omega)
      have e4 := and15 (cbs 4 (R ^^^ x)) hq2
      have e5 := nib_bits (cbs 4 (R ^^^ x)) hq2
      have e6 : cbs 4 (cbs 4 (R ^^^ x)) = cbs 8 (R ^^^ x) := (cbs_add 4 4 _).symm
      have hxw : IntKind.u32.wrap (x : Int) = (x : Int) := by rw [IntKind.wrap_u32]; omega
      go_wp2
      go_roundw
      case rel => exact ⟨k + 1, by omega, by go_num, trivial, by rw [hsn]⟩
      case measure => simp [intOf]; omega
    · have hlt' : ¬ (k : Int) < (n : Int) := by omega
      have hkn : l.take k = l := List.take_of_length_le (by omega)
      have HB : (Below w.heap.size w (w.alloc (.cells tab.toArray 227))) := (Below.refl _ w).alloc (Nat.le_refl _) _
      rw [hkn] at *
      go_wp2
      go_ret
      exact ⟨rfl, HB⟩

set_option maxHeartbeats 1000000 in
theorem through_none (a : Option Addr) (c : Nat) (w : World) :
    Calls Tryz.prog 169 #[.agg tab.toArray, .int .u32 4294967295, .slice a 0 c] w fun e w' => e = .returned (.int .u32 ((crc 4294967295 [] : Nat) : Int)) ∧ Below w.heap.size w w' := by
  have HB : (Below w.heap.size w (w.alloc (.cells tab.toArray 227))) := (Below.refl _ w).alloc (Nat.le_refl _) _
  rw [crc_nil]
  go_enter Tryz.func169, Tryz.ntmps169
  go_wp2
  refine wp_loop_rounds 1 ?_; rw [rounds_succ]; go_wp2
  go_ret
  exact ⟨rfl, HB⟩

theorem through_any (a : Option Addr) (n c : Nat) (l : List Int) (w : World) (hb : Bytes l) (hn : n ≤ 140737488355328) (hs : Src w a n l) :
    Calls Tryz.prog 169 #[.agg tab.toArray, .int .u32 4294967295, .slice a n c] w fun e w' => e = .returned (.int .u32 ((crc 4294967295 l : Nat) : Int)) ∧ Below w.heap.size w w' := by
  by_cases h0 : n = 0
  · subst h0
    have : l = [] := List.eq_nil_of_length_eq_zero hs.1
    subst this
    exact through_none a c w
  · cases a with
    | none => exact absurd (hs.2.1 rfl) h0
    | some x =>
      obtain ⟨b, o, rfl, k⟩ := hs.spot (by omega)
      exact through_low b o n c l w hb hs.1 hn k

theorem not_bits (r : Nat) (hr : r < 4294967296) : bits .xor .u32 IntKind.u32.max (r : Int) = ((r ^^^ 4294967295 : Nat) : Int) := by
  have e : IntKind.u32.max = ((4294967295 : Nat) : Int) := by decide
  rw [e, u32_xor_nat _ _ (by omega) hr, Nat.xor_comm]

set_option maxHeartbeats 1000000 in
theorem sum_any (a : Option Addr) (n c : Nat) (l : List Int) (w : World) (hb : Bytes l) (hn : n ≤ 140737488355328) (hs : Src w a n l) :
    Calls Tryz.prog 137 #[.slice a n c] w fun e w' => e = .returned (.int .i64 ((sumOf l : Nat) : Int)) ∧ Below w.heap.size w w' := by
  have hnb := not_bits _ (crc_lt (r := 4294967295) (by omega) hb)
  have hq0 : crc 4294967295 l ^^^ 4294967295 < 4294967296 := sumOf_lt hb
  have hq : wrap64 ((crc 4294967295 l ^^^ 4294967295 : Nat) : Int) = ((crc 4294967295 l ^^^ 4294967295 : Nat) : Int) := by unfold wrap64; omega
  unfold sumOf
  go_enter Tryz.func137, Tryz.ntmps137
  go_wp2_with fail
  refine (halves_any w).mono ?_
  rintro e w1 ⟨rfl, hb1⟩
  go_wp2_with fail
  refine (through_any a n c l w1 hb hn (hs.later hb1)).mono ?_
  rintro e w2 ⟨rfl, hb2⟩
  go_wp2
  go_ret
  exact ⟨rfl, (hb1.trans (hb2.mono hb1.size))⟩
end Go.Proofs.YtokcgifpljeoiaaGreat
end

section
namespace Go.Proofs.YtokcgifpljeoiaaGreat
open Go.RowKit

/-- A world that is the first but for what is new. -/
structure Later (w : World) where
  to : World
  h : Below w.heap.size w to

theorem below_drew {B : Nat} {a w : World} (h : Below B a w) : Below B a w.drew := ⟨h.os, h.tape, h.output, h.size, h.block⟩

theorem Later.some (w : World) : Nonempty (Later w) := ⟨⟨w, Below.refl _ _⟩⟩

/-- A region that draws its order, whose callees make memory but change none. -/
theorem wp_region_later {P : Program} {id : Nat} {Q : Exit → Act → World → Prop} {a : Act} {w : World} {l : List Oper} (hm : P.follows .mixedOrders = true) (hB : Region.lexB .any l.toArray = true)
    (h : wpQuiet P l.toArray (fun w' => ∃ q : Later w, w' = q.to) (fun a' => ∀ w', (∃ q : Later w, w' = q.to) → Q .normal a' w') l a) : (Code.region id l.toArray true).wp P Q a w :=
  wp_region_quiet (C := fun w' => ∃ q : Later w, w' = q.to) hm hB ⟨⟨w.drew, below_drew (Below.refl _ _)⟩, rfl⟩ (by simpa using h)

/-- A callee's contract, met in a later world. -/
theorem Calls.later_of {P : Program} {f : FuncId} {args : Array Value} {w : World} {q : Later w} {v : Value}
    (h : Calls P f args q.to fun e w' => e = .returned v ∧ Below q.to.heap.size q.to w') : Calls P f args q.to fun e w'' => e = .returned v ∧ ∃ q' : Later w, w'' = q'.to :=
  h.mono fun _ w' ⟨he, hm⟩ => ⟨he, ⟨w', q.h.trans (hm.mono q.h.size)⟩, rfl⟩
end Go.Proofs.YtokcgifpljeoiaaGreat
end

section
namespace Go.Proofs.YtokcgifpljeoiaaGreat
open Go.RowKit

/-- A list that a call made: v is a slice of l, its memory (if any) at B or above. -/
def Own (w : World) (B : Nat) (v : Value) (l : List Int) : Prop := w.ownsRow B 5 1 v l.length (bs l)
theorem Own.nil (w : World) (B : Nat) : Own w B (.slice none 0 0) [] := ⟨by simp, .inl ⟨rfl, rfl⟩⟩
theorem Own.src {w : World} {B : Nat} {v : Value} {l : List Int} (h : Own w B v l) : ∃ a c, v = .slice a l.length c ∧ Src w a l.length l ∧ l.length ≤ c ∧ (∀ x, a = some x → B ≤ x.block ∧ x.off = 0) := by
  by_cases hv : v = .slice none 0 0
  · subst hv
    have h0 : l.length = 0 := by
      obtain ⟨_, ⟨_, hn⟩ | ⟨g, c, cur, e, _⟩⟩ := h
      · exact hn
      · cases e
    obtain rfl := List.eq_nil_of_length_eq_zero h0
    exact ⟨none, 0, rfl, ⟨rfl, fun _ => rfl, fun x hx => by cases hx⟩, Nat.le_refl _, fun x hx => by cases hx⟩
  · obtain ⟨g, c, rfl, hg, hr, _⟩ := RowAt.of_owns h hv
    refine ⟨some ⟨g, 0, none⟩, c, rfl, hr.src, ?_, fun x hx => by cases hx; exact ⟨hg, rfl⟩⟩
    have := hr.le
    simpa [bs] using this
theorem Own.row {w : World} {B : Nat} {a : Option Addr} {n c : Nat} {l : List Int} (h : Own w B (.slice a n c) l) (h0 : 0 < l.length) : ∃ g, a = some ⟨g, 0, none⟩ ∧ n = l.length ∧ B ≤ g ∧ RowAt w 5 g c (bs l) := by
  obtain ⟨g, c', e, hg, hr, _⟩ := RowAt.of_owns h (by
    intro e
    cases e
    obtain ⟨_, ⟨_, hn⟩ | ⟨g, c, cur, e, _⟩⟩ := h
    · omega
    · cases e)
  cases e
  exact ⟨g, rfl, rfl, hg, hr⟩
theorem bs_append (a b : List Int) : bs (a ++ b) = bs a ++ bs b := List.map_append
end Go.Proofs.YtokcgifpljeoiaaGreat
end

section
namespace Go.Proofs.YtokcgifpljeoiaaGreat
open Go.RowKit

theorem own_of {w : World} {B k : Nat} {v : Value} {l m : List Int} (h : w.ownsRow B 5 1 v k (bs l)) (hk : m.length = k) (e : m = l) : Own w B v m := by
  subst e; subst hk; exact h

end Go.Proofs.YtokcgifpljeoiaaGreat
end

section
namespace Go.Proofs.YtokcgifpljeoiaaGreat
open Go.RowKit

end Go.Proofs.YtokcgifpljeoiaaGreat
end

section
namespace Go.Proofs.YtokcgifpljeoiaaGreat
open Go.RowKit

theorem eq_u8 (n : Nat) (a b : Int) (w : World) : (Op.equalIn (n + 1) 5 (.int .u8 a) (.int .u8 b)).run Tryz.prog w = .ok (a == b) w := by
  simp [Op.equalIn, go_sem]
theorem part_u8 (xs : Array Value) (off : Nat) (v : Value) (w : World) (h : xs[off]? = some v) : (part 5 xs off).run Tryz.prog w = .ok v w := run_part_plain (P := Tryz.prog) w (by kernel_rfl) h
theorem eqStep_u8 (n : Nat) (w : World) (xs ys : Array Value) (j : Nat) (a b : Int) (js : List Nat) (h1 : xs[j]? = some (.int .u8 a)) (h2 : ys[j]? = some (.int .u8 b)) :
    (Op.eqItems (n + 1) 5 1 xs ys (j :: js)).run Tryz.prog w = if a = b then (Op.eqItems (n + 1) 5 1 xs ys js).run Tryz.prog w else .ok false w := by
  simp only [Op.eqItems, Nat.mul_one, Sem.run_bind, part_u8 xs j _ w h1, part_u8 ys j _ w h2, Result.andThen_ok, eq_u8]
  by_cases h : a = b
  · simp [h]
  · simp [h]
theorem eqItems_u8 (n : Nat) (l m : List Int) (w : World) : ∀ js : List Nat, (∀ j ∈ js, j < l.length ∧ j < m.length) →
    (Op.eqItems (n + 1) 5 1 (bs l).toArray (bs m).toArray js).run Tryz.prog w = .ok (decide (∀ j ∈ js, l.getD j 0 = m.getD j 0)) w
  | [], _ => by simp [Op.eqItems]
  | j :: js, h => by
    obtain ⟨h1, h2⟩ := h j (by simp)
    have e1 : (bs l).toArray[j]? = some (.int .u8 (l.getD j 0)) := by simp [bs, List.getD, h1]
    have e2 : (bs m).toArray[j]? = some (.int .u8 (m.getD j 0)) := by simp [bs, List.getD, h2]
    rw [eqStep_u8 n w _ _ j _ _ js e1 e2]
    by_cases hx : l.getD j 0 = m.getD j 0
    · rw [if_pos hx, (eqItems_u8 n l m w js (fun i hi => h i (by simp [hi])))]
      refine congrArg (fun b => Result.ok b w) ?_
      rw [decide_eq_decide]
      exact ⟨fun k i hi => by rcases List.mem_cons.1 hi with rfl | hi; exact hx; exact k i hi, fun k i hi => k i (by simp [hi])⟩
    · rw [if_neg hx]
      refine congrArg (fun b => Result.ok b w) ?_
      symm
      rw [decide_eq_false_iff_not]
      exact fun k => hx (k j (by simp))
theorem getD_ext {l m : List Int} (hl : l.length = m.length) (h : ∀ i, i < l.length → l.getD i 0 = m.getD i 0) : l = m := by
  apply List.ext_getElem?
  intro i
  by_cases hi : i < l.length
  · have := h i hi
    simp only [List.getD, List.getElem?_eq_getElem hi, List.getElem?_eq_getElem (show i < m.length by omega), Option.getD_some] at this
    rw [List.getElem?_eq_getElem hi, List.getElem?_eq_getElem (show i < m.length by omega), this]
  · rw [List.getElem?_eq_none (by omega), List.getElem?_eq_none (by omega)]
theorem eq_row (N n : Nat) (T : TypeId) (l m : List Int) (hl : l.length = N) (hm : m.length = N) (w : World) (hu : Tryz.prog.underlying T = some (.array N 5)) :
    (Op.equalIn (n + 2) T (.agg (bs l).toArray) (.agg (bs m).toArray)).run Tryz.prog w = .ok (decide (l = m)) w := by
  obtain ⟨i0, hi⟩ := info_of_underlying (P := Tryz.prog) Tryz.underlying5
  rw [run_equalIn_array (P := Tryz.prog) w (n + 1) _ _ hu hi]
  have hce : Tryz.prog.cellsOf 5 = 1 := by kernel_rfl
  rw [hce, eqItems_u8 n l m w _ (fun j hj => by rw [List.mem_range] at hj; omega)]
  refine congrArg (fun b => Result.ok b w) ?_
  rw [decide_eq_decide]
  constructor
  · intro h
    exact getD_ext (by omega) (fun i hi => h i (List.mem_range.2 (by omega)))
  · rintro rfl _ _; rfl
theorem eq_sec (n : Nat) (l m : List Int) (hl : l.length = 512) (hm : m.length = 512) (w : World) :
    (Op.equalIn (n + 2) 200 (.agg (bs l).toArray) (.agg (bs m).toArray)).run Tryz.prog w = .ok (decide (l = m)) w :=
  eq_row 512 n 200 l m hl hm w Tryz.underlying200
theorem guardSec : Tryz.prog.eqGuardType Tryz.prog.depth 200 = false := by kernel_rfl
theorem eqop_sec (l m : List Int) (hl : l.length = 512) (hm : m.length = 512) (w : World) (x y : Operand) :
    (do eqGuard .eql 200 x y (.agg (bs l).toArray) (.agg (bs m).toArray); binOp .eql 200 (.agg (bs l).toArray) (.agg (bs m).toArray)).run Tryz.prog w = .ok (.bool (decide (l = m))) w := by
  rw [Sem.run_bind, run_eqGuard_agg (P := Tryz.prog) w .eql 200 x y _ _ guardSec, Result.andThen_ok]
  show (binOp .eql 200 (.agg (bs l).toArray) (.agg (bs m).toArray)).run Tryz.prog w = _
  unfold binOp Op.equal Op.maxDepth
  rw [Sem.run_bind, (eq_sec 9998 l m hl hm w), Result.andThen_ok, Sem.run_pure]
end Go.Proofs.YtokcgifpljeoiaaGreat
end

section
namespace Go.Proofs.YtokcgifpljeoiaaGreat
open Go.RowKit

set_option maxRecDepth 20000 in
set_option maxHeartbeats 2000000 in
theorem cut_any (g o i j : Nat) (w : World) (hij : i < j) (hj : j ≤ 512) :
    Calls Tryz.prog 179 #[.pointer (some ⟨g, o, none⟩), .int .i64 (i : Int), .int .i64 (j : Int)] w fun e w' => e = .returned (.slice (some ⟨g, o + i, none⟩) (j - i) (j - i)) ∧ w' = w := by
  have h1 : (i : Int) ≤ (j : Int) := by omega
  have h2 : (j : Int) ≤ 512 := by omega
  have h3 : ¬ j = i := by omega
  go_enter Tryz.func179, Tryz.ntmps179
  go_wp2
  go_ret
  exact ⟨rfl, rfl⟩
set_option maxRecDepth 20000 in
set_option maxHeartbeats 2000000 in
theorem cut_none (g o i : Nat) (w : World) (hj : i ≤ 512) :
    Calls Tryz.prog 179 #[.pointer (some ⟨g, o, none⟩), .int .i64 (i : Int), .int .i64 (i : Int)] w fun e w' => e = .returned (.slice (some ⟨g, o, none⟩) 0 0) ∧ w' = w := by
  have h2 : (i : Int) ≤ 512 := by omega
  go_enter Tryz.func179, Tryz.ntmps179
  go_wp2
  go_ret
  exact ⟨rfl, rfl⟩

/-- The bytes of a number, the lowest first. -/
def leb : Nat → Nat → List Int
  | 0, _ => []
  | k + 1, m => ((m % 256 : Nat) : Int) :: leb k (m / 256)
theorem leb_len : ∀ k m, (leb k m).length = k
  | 0, _ => rfl
  | k + 1, m => by simp [leb, leb_len k]
theorem leb_snoc : ∀ k m, leb (k + 1) m = leb k m ++ [((m / 2 ^ (8 * k) % 256 : Nat) : Int)]
  | 0, m => by simp [leb]
  | k + 1, m => by
    rw [leb, leb_snoc k (m / 256), leb]
    have : m / 256 / 2 ^ (8 * k) = m / 2 ^ (8 * (k + 1)) := by
      rw [Nat.div_div_eq_div_mul, show 8 * (k + 1) = 8 + 8 * k by omega, Nat.pow_add]
    simp [this]
theorem leb_bytes : ∀ k m, Bytes (leb k m)
  | 0, _ => by intro x hx; cases hx
  | k + 1, m => .cons (by omega) (leb_bytes k _)
/-- Bytes laid over others. -/
def put (l : List Int) (o : Nat) (xs : List Int) : List Int := l.take o ++ (xs ++ l.drop (o + xs.length))
theorem put_len {l xs : List Int} {o : Nat} (h : o + xs.length ≤ l.length) : (put l o xs).length = l.length := by simp [put]; omega
theorem put_nil (l : List Int) (o : Nat) : put l o [] = l := by simp [put]
theorem put_snoc {l xs : List Int} {o : Nat} (h : o + xs.length < l.length) (x : Int) : (put l o xs).set (o + xs.length) x = put l o (xs ++ [x]) := by
  unfold put
  have h1 : (l.take o).length = o := by simp; omega
  rw [List.set_append_right _ _ (by omega), h1, List.set_append_right _ _ (by omega), show o + xs.length - o - xs.length = 0 by omega]
  have : l.drop (o + xs.length) = l[o + xs.length] :: l.drop (o + xs.length + 1) := List.drop_eq_getElem_cons h
  rw [this, List.set_cons_zero]
  simp [Nat.add_assoc]

/-- Block g is just these bytes. -/
def Blk (w : World) (T : TypeId) (g : Nat) (l : List Int) : Prop := w.heap[g]? = some (.cells (bs l).toArray T (0, 0))
theorem Blk.lt {w : World} {T : TypeId} {g : Nat} {l : List Int} (h : Blk w T g l) : g < w.heap.size := (Array.getElem?_eq_some_iff.1 h).1
theorem Blk.cell {w : World} {T : TypeId} {g : Nat} {l : List Int} (h : Blk w T g l) {i : Nat} (hi : i < l.length) : w.cell? ⟨g, i, none⟩ = some (.int .u8 (l.getD i 0)) :=
  cell_of_block h (by simp [bs, List.getD, hi])
theorem Blk.frozen {w : World} {T : TypeId} {g : Nat} {l : List Int} (h : Blk w T g l) (i : Nat) : w.frozen? ⟨g, i, none⟩ = false := frozen_of_block h i
theorem Blk.set {w : World} {T : TypeId} {g : Nat} {l : List Int} (h : Blk w T g l) (i : Nat) (x : Int) : Blk (w.setCell ⟨g, i, none⟩ (.int .u8 x)) T g (l.set i x) := by
  unfold Blk
  rw [heap_setCell_same _ _ _ _ _ _ h]
  congr 2
  apply Array.ext'
  simp [bs, List.map_set]
theorem Blk.keep {w w' : World} {T : TypeId} {g : Nat} {l : List Int} (h : Blk w T g l) (hb : w'.heap[g]? = w.heap[g]?) : Blk w' T g l := hb.trans h
theorem Blk.src {w : World} {T : TypeId} {g : Nat} {l : List Int} (h : Blk w T g l) {o n : Nat} (hn : o + n ≤ l.length) : Src w (some ⟨g, o, none⟩) n ((l.drop o).take n) :=
  ⟨by simp; omega, (fun e => by cases e), fun x hx i hi => by
    cases hx
    rw [addr_add, h.cell (by omega)]
    simp [List.getD, hi]⟩

set_option maxRecDepth 20000 in
set_option maxHeartbeats 4000000 in
theorem lay_any (g o k c N : Nat) (T : TypeId) (l : List Int) (w : World) (hb : Blk w T g l) (hk : k ≤ 8) (ho : o + k ≤ l.length) :
    Calls Tryz.prog 178 #[.slice (some ⟨g, o, none⟩) k c, .int .u64 (N : Int)] w fun e w' => e = .returned (.tuple #[]) ∧ Blk w' T g (put l o (leb k N)) ∧ Keeps (fun j => j = g) w w' ∧ w'.heap.size = w.heap.size := by
  go_enter Tryz.func178, Tryz.ntmps178
  go_wp2
  go_loopw [7] (fun i wr => ∃ j : Nat, j ≤ k ∧ i = .int .i64 j ∧ Blk wr T g (put l o (leb j N)) ∧ Keeps (fun j => j = g) w wr ∧ wr.heap.size = w.heap.size) (fun i _ => k - (intOf i).toNat)
  case atStart => exact ⟨0, Nat.zero_le _, rfl, by rw [leb, put_nil]; exact hb, Keeps.refl _ _, rfl⟩
  case round =>
    obtain ⟨j, hj, rfl, hblk, hkeep, hsz⟩ := hrel
    by_cases hlt : j < k
    · have hlt' : (j : Int) < (k : Int) := by omega
      have hlen := leb_len j N
      have hpl := put_len (l := l) (xs := leb j N) (o := o) (by omega)
      have hc := hblk.cell (i := o + j) (by omega)
      have hf := hblk.frozen (o + j)
      have hset := hblk.set (o + j) ((N / 2 ^ (8 * j) % 256 : Nat) : Int)
      have e := put_snoc (l := l) (xs := leb j N) (o := o) (by omega) ((N / 2 ^ (8 * j) % 256 : Nat) : Int)
      rw [hlen] at e
      rw [e, ← leb_snoc] at hset
      have HK := (hkeep.trans (Keeps.setCell (F := fun j => j = g) (p := ⟨g, o + j, none⟩) wr rfl (.int .u8 ((N / 2 ^ (8 * j) % 256 : Nat) : Int))) (fun _ h => .inl h))
      go_wp2
      go_roundw
      case rel => exact ⟨j + 1, by omega, by go_num, hset, HK, by simpa [World.setCell] using hsz⟩
      case measure => simp [intOf]; omega
    · have hlt' : ¬ (j : Int) < (k : Int) := by omega
      obtain rfl : j = k := by omega
      go_wp2
      go_end0
      exact ⟨rfl, hblk, hkeep, hsz⟩
end Go.Proofs.YtokcgifpljeoiaaGreat
end

section
namespace Go.Proofs.YtokcgifpljeoiaaGreat
open Go.RowKit

theorem or_u64 (i A X : Nat) (hA : A < 2 ^ i) (h : A + 2 ^ i * X < 18446744073709551616) :
    bits .or .u64 (A : Int) ((2 ^ i * X : Nat) : Int) = ((A + 2 ^ i * X : Nat) : Int) := by
  have q : ∀ z : Nat, z < 18446744073709551616 → (BitVec.ofInt 64 (z : Int)).toNat = z := by
    intro z hz
    rw [BitVec.toNat_ofInt]
    omega
  have h1 : A < 18446744073709551616 := by omega
  have h2 : 2 ^ i * X < 18446744073709551616 := by omega
  show IntKind.u64.wrap ((BitVec.ofInt 64 (A : Int) ||| BitVec.ofInt 64 ((2 ^ i * X : Nat) : Int)).toNat : Int) = _
  rw [BitVec.toNat_or, q A h1, q _ h2, Nat.or_comm, ← Nat.two_pow_add_eq_or_of_lt hA X, Nat.add_comm]
  generalize A + 2 ^ i * X = Z at *
  simp only [IntKind.wrap, IntKind.bits, IntKind.signed]
  simp
  omega
theorem shl_pow (x : Int) (k : Nat) (hk : k < 8) : (x * 2 ^ min ((8 * (k : Int)).toNat) 64) = x * 2 ^ (8 * k) := by
  congr 2
  omega
theorem le_take_succ {l : List Int} {k : Nat} (hk : k < l.length) : le (l.take (k + 1)) = le (l.take k) + 2 ^ (8 * k) * (l.getD k 0).toNat := by
  rw [List.take_succ_eq_append_getElem hk, le_append]
  have : (l.take k).length = k := by simp; omega
  rw [this]
  simp [le, List.getD, hk]
theorem le_small {l : List Int} (hb : Bytes l) (h : l.length ≤ 8) : le l < 18446744073709551616 := by
  have := le_lt hb
  exact Nat.lt_of_lt_of_le this (by have := Nat.pow_le_pow_right (show 0 < 2 by omega) (show 8 * l.length ≤ 64 by omega); simpa using this)

set_option maxHeartbeats 4000000 in
theorem taken_any (b o n c : Nat) (l : List Int) (w : World) (hb : Bytes l) (hl : l.length = n) (hn : n ≤ 8) (hs : ∀ i, i < n → w.cell? ⟨b, o + i, none⟩ = some (.int .u8 (l.getD i 0))) :
    Calls Tryz.prog 189 #[.slice (some ⟨b, o, none⟩) n c] w fun e w' => e = .returned (.int .u64 ((le l : Nat) : Int)) ∧ w' = w := by
  have Hs := Hid.mk hs
  clear hs
  go_enter Tryz.func189, Tryz.ntmps189
  go_wp2
  go_loopw [3, 8] (fun r i wr => ∃ j : Nat, j ≤ n ∧ i = .int .i64 j ∧ wr = w ∧ r = .int .u64 ((le (l.take j) : Nat) : Int)) (fun _ i _ => n - (intOf i).toNat)
  case atStart => exact ⟨0, Nat.zero_le _, rfl, rfl, by simp [le]⟩
  case round =>
    obtain ⟨j, hj, rfl, rfl, rfl⟩ := hrel
    by_cases hlt : j < n
    · have hlt' : (j : Int) < (n : Int) := by omega
      have hc := Hs.out j hlt
      obtain ⟨x, hx, hx1⟩ : ∃ x : Nat, l.getD j 0 = (x : Int) ∧ x < 256 := by
        have := hb.getD j
        exact ⟨(l.getD j 0).toNat, by omega, by omega⟩
      have hsucc := le_take_succ (l := l) (k := j) (by omega)
      have hA : le (l.take j) < 2 ^ (8 * j) := by
        have := le_lt (hb.take j)
        have e : (l.take j).length = j := by simp; omega
        rwa [e] at this
      have hB : le (l.take (j + 1)) < 18446744073709551616 := le_small (hb.take _) (by simp; omega)
      rw [hx] at hc hsucc
      simp only [Int.toNat_natCast] at hsucc
      rw [hsucc] at hB
      have hor := or_u64 (8 * j) _ x hA hB
      rw [← hsucc] at hor
      have hsh2 : ((x : Int) * 2 ^ (8 * j)) = ((2 ^ (8 * j) * x : Nat) : Int) := by rw [Int.natCast_mul, Int.natCast_pow, Int.mul_comm]; rfl
      have hlt2 : ((2 ^ (8 * j) * x : Nat) : Int) % 18446744073709551616 = ((2 ^ (8 * j) * x : Nat) : Int) := by omega
      generalize 2 ^ (8 * j) * x = Y at *
      generalize le (l.take j) = A at *
      clear hA hB hsucc
      go_wp2
      go_roundw
      case rel => exact ⟨j + 1, by omega, by go_num, trivial, by rw [← (Hid.mk hor).out]⟩
      case measure => simp [intOf]; omega
    · have hlt' : ¬ (j : Int) < (n : Int) := by omega
      have ej : l.take j = l := List.take_of_length_le (by omega)
      rw [ej] at *
      go_wp2
      go_ret
      exact ⟨rfl, rfl⟩

set_option maxHeartbeats 4000000 in
theorem nextTurn_any (g o : Nat) (a b : Int) (w : World) (ha : w.cell? ⟨g, o, none⟩ = some (.int .u8 a)) (hb : w.cell? ⟨g, o + 511, none⟩ = some (.int .u8 b)) :
    Calls Tryz.prog 153 #[.pointer (some ⟨g, o, none⟩)] w fun e w' => e = .returned (.int .u8 ((turnOf a b : Nat) : Int)) ∧ w' = w := by
  have hle := turnOf_le a b
  have hmin : ∀ k : Nat, k < turnOf a b → (k : Int) = a ∨ (k : Int) = b := by
    intro k hk
    unfold turnOf at hk
    split at hk
    · omega
    · split at hk
      · next h1 h2 => omega
      · next h1 h2 => omega
  have hne := turnOf_ne a b
  generalize turnOf a b = t at *
  go_enter Tryz.func153, Tryz.ntmps153
  go_wp2
  go_loopw [3] (fun i wr => ∃ k : Nat, k ≤ t ∧ i = .int .u8 k ∧ wr = w) (fun i _ => t - (intOf i).toNat)
  case atStart => exact ⟨0, Nat.zero_le _, rfl, rfl⟩
  case round =>
    obtain ⟨k, hk, rfl, rfl⟩ := hrel
    by_cases hlt : k < t
    · by_cases h1 : (k : Int) = a
      · have q1 : ((k : Int) == a) = true := by simpa using h1
        go_wp2
        go_roundw
        case rel => exact ⟨k + 1, by omega, by go_num, trivial⟩
        case measure => simp [intOf]; omega
      · have h2 := (hmin k hlt).resolve_left h1
        have q1 : ((k : Int) == a) = false := by simpa using h1
        have q2 : ((k : Int) == b) = true := by simpa using h2
        go_wp2
        go_roundw
        case rel => exact ⟨k + 1, by omega, by go_num, trivial⟩
        case measure => simp [intOf]; omega
    · obtain rfl : k = t := by omega
      have q1 : ((k : Int) == a) = false := by simpa using hne.1
      have q2 : ((k : Int) == b) = false := by simpa using hne.2
      go_wp2
      go_ret
      exact ⟨rfl, rfl⟩

set_option maxRecDepth 20000 in
set_option maxHeartbeats 4000000 in
theorem ssum_any (g : Nat) (T : TypeId) (l : List Int) (w : World) (hb : Blk w T g l) (hl : l.length = 512) (hby : Bytes l) :
    Calls Tryz.prog 180 #[.pointer (some ⟨g, 0, none⟩)] w fun e w' => e = .returned (.int .i64 ((sumOf (stextOf l) : Nat) : Int)) ∧ Below w.heap.size w w' := by
  obtain ⟨i0, hi, hz0, hz1, hz2⟩ := info_parts infoU8
  have s1 := hb.src (o := 1) (n := 2) (by omega)
  have s2 := hb.src (o := 7) (n := 504) (by omega)
  have b1 : Bytes ((l.drop 1).take 2) := (hby.drop _).take _
  have b2 : Bytes ((l.drop 7).take 504) := (hby.drop _).take _
  unfold stextOf
  generalize (l.drop 1).take 2 = X at *
  generalize (l.drop 7).take 504 = Y at *
  go_enter Tryz.func180, Tryz.ntmps180
  go_wp2_with fail
  refine (cut_any g 0 1 3 w (by omega) (by omega)).mono ?_
  rintro e w1 ⟨rfl, hw⟩
  have hw' := hw.symm
  subst hw'
  go_wp2_with fail
  refine (cut_any g 0 7 511 w (by omega) (by omega)).mono ?_
  rintro e w1 ⟨rfl, hw⟩
  have hw' := hw.symm
  subst hw'
  go_wp2_with (at_builtin; refine wpList_append_grows _ rfl _ _ 22 rfl 5 i0 (.int .u8 0) 1 1 Tryz.underlying22 hi hz0 hz1 hz2 rfl (by decide) (some ⟨g, 1, none⟩) 2 2 (bs X) rfl ?m0 ?m1 ?m2 ⟨g, 7, none⟩ 504 504 (bs Y) rfl ?m3 ?m4 ?m5 ?m6 ?m7 ?m8 ?_)
  case m0 => intro h; cases h
  case m1 => have := s1.1; simpa [bs] using this
  case m2 =>
    intro b hb j u hj
    cases hb
    obtain ⟨hj1, rfl⟩ := bs_getElem hj
    have := s1.1
    exact s1.2.2 _ rfl j (by omega)
  case m3 => have := s2.1; simpa [bs] using this
  case m4 =>
    intro j u hj
    obtain ⟨hj1, rfl⟩ := bs_getElem hj
    have := s2.1
    exact s2.2.2 _ rfl j (by omega)
  case m5 => exact bs_one _
  case m6 => omega
  case m7 => unfold maxLen; omega
  case m8 => omega
  intro v' w1 hown hgrow
  have hO := own_of (l := X ++ Y) (by rw [bs_append]; exact hown) (by have := s1.1; have := s2.1; simp; omega) rfl
  obtain ⟨a, c, rfl, hsrc, _, _⟩ := hO.src
  have hs := sum_any a (X ++ Y).length c (X ++ Y) w1 (b1.append b2) (by have := s1.1; have := s2.1; simp; omega) hsrc
  have HB := (Below.refl _ w).grown hgrow (Nat.le_refl _) (by intro k hk; cases hk)
  generalize (X ++ Y).length = N at *
  obtain ⟨E, hE⟩ : ∃ E, E = sumOf (X ++ Y) := ⟨_, rfl⟩
  rw [← hE] at hs
  go_wp2_with fail
  refine hs.mono ?_
  rintro e w2 ⟨rfl, hb2⟩
  go_wp2
  go_ret
  exact ⟨by rw [← hE]; rfl, (HB.trans (hb2.mono HB.size))⟩
end Go.Proofs.YtokcgifpljeoiaaGreat
end

section
namespace Go.Proofs.YtokcgifpljeoiaaGreat
open Go.RowKit

/-- Zeros. -/
def zs (n : Nat) : List Int := List.replicate n 0
theorem zs_len (n : Nat) : (zs n).length = n := List.length_replicate
theorem zs_succ (n : Nat) : zs (n + 1) = 0 :: zs n := List.replicate_succ
theorem zs_add (n m : Nat) : zs (n + m) = zs n ++ zs m := by unfold zs; rw [List.replicate_append_replicate]
def zsec : Array Value := (bs (zs 512)).toArray
theorem infoSec : (Tryz.prog.info? 200).map (fun i => (i.zero, i.size)) = some (some (.agg zsec), 512) := by kernel_rfl
theorem zeroSec (w : World) : (zeroValue 200).run Tryz.prog w = .ok (.agg zsec) w := by
  obtain ⟨i, hi, he⟩ := Option.map_eq_some_iff.1 infoSec
  simp only [Prod.mk.injEq] at he
  simp [zeroValue, typeInfo, hi, he.1]
theorem sizeSec : (Tryz.prog.info? 200).map (·.size) = some 512 := by
  obtain ⟨i, hi, he⟩ := Option.map_eq_some_iff.1 infoSec
  simp only [Prod.mk.injEq] at he
  rw [hi, ← he.2]; rfl

theorem leb2 (n : Nat) (h : n < 65536) : leb 2 n = [((n % 256 : Nat) : Int), ((n / 256 : Nat) : Int)] := by
  simp only [leb]
  congr 3
  omega
theorem leb4 (s : Nat) : leb 4 s = bytes4 s := by
  simp only [leb, bytes4, Nat.div_div_eq_div_mul]
theorem set_last (l : List Int) (x y : Int) : (l ++ [x]).set l.length y = l ++ [y] := by
  rw [List.set_append_right _ _ (Nat.le_refl _), Nat.sub_self]; rfl
/-- The empty sector with its turns. -/
def s1 (t : Int) : List Int := t :: (zs 510 ++ [t])
theorem s1_len (t : Int) : (s1 t).length = 512 := by simp only [s1, List.length_cons, List.length_append, zs_len, List.length_nil]
def s2 (t : Int) (n : Nat) : List Int := t :: ((n % 256 : Nat) : Int) :: ((n / 256 : Nat) : Int) :: (zs 508 ++ [t])
theorem s2_len (t : Int) (n : Nat) : (s2 t n).length = 512 := by simp only [s2, List.length_cons, List.length_append, zs_len, List.length_nil]
theorem s2_of (t : Int) (n : Nat) (h : n < 65536) : put (s1 t) 1 (leb 2 n) = s2 t n := by
  rw [leb2 n h]
  unfold s1 s2
  rw [zs_succ 509, zs_succ 508]
  simp only [put, List.take_succ_cons, List.take_zero, List.length_cons, List.length_nil, List.cons_append, List.nil_append, List.drop_succ_cons, List.drop_zero]
def s3 (t : Int) (body : List Int) : List Int := t :: ((body.length % 256 : Nat) : Int) :: ((body.length / 256 : Nat) : Int) :: 0 :: 0 :: 0 :: 0 :: (body ++ (List.replicate (504 - body.length) 0 ++ [t]))
theorem s3_len (t : Int) {body : List Int} (h : body.length ≤ 504) : (s3 t body).length = 512 := by simp [s3]; omega
theorem s3_of (t : Int) (body : List Int) (h : body.length ≤ 504) : put (s2 t body.length) 7 body = s3 t body := by
  unfold s2 s3
  have e : (zs 508 ++ [t]) = 0 :: 0 :: 0 :: 0 :: (zs body.length ++ (zs (504 - body.length) ++ [t])) := by
    rw [← List.append_assoc, ← zs_add, show body.length + (504 - body.length) = 504 by omega, zs_succ 507, zs_succ 506, zs_succ 505, zs_succ 504]
    rfl
  rw [e]
  simp only [put, List.take_succ_cons, List.take_zero, List.cons_append, List.nil_append]
  rw [show 7 + body.length = body.length + 7 by omega]
  simp only [List.drop_succ_cons]
  rw [List.drop_left' (zs_len _)]
  rfl
theorem s3_bytes {t : Int} {body : List Int} (ht : 0 ≤ t ∧ t < 256) (hb : Bytes body) (h : body.length ≤ 504) : Bytes (s3 t body) :=
  .cons ht (.cons (by omega) (.cons (by omega) (.cons (by omega) (.cons (by omega) (.cons (by omega) (.cons (by omega) (hb.append ((Bytes.zeros _).append (.cons ht .nil)))))))))
theorem s3_text (t : Int) (body : List Int) (h : body.length ≤ 504) : stextOf (s3 t body) = stext body := by
  unfold stextOf s3 stext
  simp only [List.drop_succ_cons, List.drop_zero, List.take_succ_cons, List.take_zero, List.cons_append, List.nil_append]
  rw [← List.append_assoc, List.take_left' (by simp; omega)]
theorem s4_of (t : Int) (body : List Int) : put (s3 t body) 3 (leb 4 (sumOf (stext body))) = sform t body := by
  rw [leb4]
  unfold s3 sform
  simp only [put, List.take_succ_cons, List.take_zero, bytes4_len, List.cons_append, List.nil_append, List.drop_succ_cons, List.drop_zero]

theorem bs_put (l xs : List Int) (o : Nat) : splice (bs l) o (bs xs) = bs (put l o xs) := by
  simp [splice, bs, put, List.map_take, List.map_drop]
/-- copy of bytes into a part of a block of bytes. -/
theorem copy_blk (w : World) (ty T : TypeId) (g off dLen dCap : Nat) (a : Option Addr) (sLen sCap : Nat) (cur l : List Int) (hg : Blk w T g cur)
    (hs : Src w a sLen l) (hle : sLen ≤ dLen) (hfit : off + dLen ≤ cur.length) :
    ∃ w2, (Builtin.copy_ #[22, 22] ty #[.slice (some ⟨g, off, none⟩) dLen dCap, .slice a sLen sCap]).run Tryz.prog w = .ok (goInt sLen) w2 ∧
      Blk w2 T g (put cur off l) ∧ Keeps (fun k => k = g) w w2 ∧ w2.heap.size = w.heap.size := by
  have hl := hs.1
  by_cases h0 : sLen = 0
  · refine ⟨w, ?_, ?_, Keeps.refl _ _, rfl⟩
    · have := run_copy_none (P := Tryz.prog) w 22 22 ty 5 (some ⟨g, off, none⟩) a dLen dCap sLen sCap Tryz.underlying22 sizeU8 (by rw [h0]; exact Nat.zero_min _)
      rw [h0] at this ⊢
      exact this
    · have : l = [] := List.eq_nil_of_length_eq_zero (by omega)
      rw [this, put_nil]; exact hg
  · cases a with
    | none => have := hs.2.1 rfl; omega
    | some x =>
      have hlen : (bs l).length = Nat.min sLen dLen := by
        have e : Nat.min sLen dLen = sLen := Nat.min_eq_left hle
        simp only [bs, List.length_map, e]; omega
      have hrun := run_copy_row (P := Tryz.prog) w 22 22 ty 5 g off dLen dCap x sLen sCap (bs cur).toArray T (bs l) Tryz.underlying22 sizeU8 hg hlen
        (fun j v hj => by
          obtain ⟨hj', rfl⟩ := bs_getElem hj
          rw [hs.2.2 x rfl j (by omega)]) (by simp only [List.size_toArray]; simp [bs]; omega) (bs_one _)
      have e : (bs l).length = sLen := by simp only [bs, List.length_map]; omega
      rw [e] at hrun
      refine ⟨_, hrun, ?_, ⟨rfl, rfl, rfl, by simp, fun k _ hk => setRow_other w g k _ hk⟩, by simp⟩
      unfold Blk
      rw [setRow_heap w g _ _ T _ hg, ← bs_put]
      simp only [splice, List.append_assoc, e]
theorem s1_of (t : Int) : (zsec.setIfInBounds 0 (Value.int .u8 t)).setIfInBounds 511 (Value.int .u8 t) = (bs (s1 t)).toArray := by
  apply Array.ext'
  rw [Array.toList_setIfInBounds, Array.toList_setIfInBounds]
  unfold zsec s1
  show ((bs (zs 512)).set 0 (Value.int .u8 t)).set 511 (Value.int .u8 t) = bs (t :: (zs 510 ++ [t]))
  rw [bs, bs, ← List.map_set, ← List.map_set, zs_succ 511, List.set_cons_zero, List.set_cons_succ, zs_add 510 1]
  have := set_last (zs 510) 0 t
  rw [zs_len] at this
  have e : zs 1 = [0] := rfl
  rw [e, this]
end Go.Proofs.YtokcgifpljeoiaaGreat
end

section
namespace Go.Proofs.YtokcgifpljeoiaaGreat
open Go.RowKit Go.Maps
open Go.ChangeMaps (setBlock heap_setBlock_same heap_setBlock_other)

/-- A map's elements: blocks' contents, as they are. -/
def Ra (v : Value) : Option (DataW Value × List MemPlace) :=
  match v with
  | .agg _ => some (.held v, [])
  | _ => none
theorem Ra_inv {v : Value} {d : DataW Value} {ps : List MemPlace} (h : Ra v = some (d, ps)) : d = .held v ∧ ps = [] := by
  unfold Ra at h
  split at h
  · simp only [Option.some.injEq, Prod.mk.injEq] at h
    exact ⟨h.1.symm, h.2.symm⟩
  · cases h
abbrev cV (c : List Int) : Value := .agg (bs c).toArray
/-- What a map tells of a block. -/
def conV : Option (List Int) → Value
  | some c => cV c
  | none => .agg zsec
theorem held_inj {a b : Value} (h : (DataW.held a : DataW Value) = .held b) : a = b := by injection h
theorem tuple_same {a b : Value} (x : Bool) (w : World) (h : a = b) : (Result.ok (Value.tuple #[a, .bool x]) w : Result Value) = .ok (.tuple #[b, .bool x]) w := by rw [h]
theorem infoCon : (Tryz.prog.info? 118).map (fun i => (i.zero, i.size)) = some (some (.agg zsec), 512) := by kernel_rfl
theorem zeroCon (w : World) : (zeroValue 118).run Tryz.prog w = .ok (.agg zsec) w := by
  obtain ⟨i, hi, he⟩ := Option.map_eq_some_iff.1 infoCon
  simp only [Prod.mk.injEq] at he
  simp [zeroValue, typeInfo, hi, he.1]

/-- New contents of blocks as they lie in memory, in block m. -/
structure ChAt (w : World) (m : Nat) (ms : CM) (D : DataW Value) : Prop where
  own : w.ownsMap Tryz.prog 3 Ra m ms.length D
  siz : Maps.size D = ms.length
  key : ∀ kl, Maps.has D kl = true → ∃ k : Nat, kl = kk k ∧ (CM.get ms k).isSome = true
  at' : ∀ k c, CM.get ms k = some c → Maps.has D (kk k) = true ∧ ∀ z, D.atKey (kk k) z = .held (cV c)
  no : ∀ k, CM.get ms k = none → Maps.has D (kk k) = false ∧ ∀ z, D.atKey (kk k) z = z
  ok : CM.Ok ms
  len : ∀ q ∈ ms, q.1 < 2048 ∧ q.2.length = 512 ∧ Bytes q.2
def Ch (w : World) (m : Nat) (ms : CM) : Prop := ∃ D, ChAt w m ms D

section
variable {w w' : World} {m : Nat} {ms : CM} {D : DataW Value}
theorem kk_inj {a b : Nat} (h : kk a = kk b) : a = b := by
  unfold kk at h
  injection h with _ h
  omega
theorem ownsMapA_agree {n : Nat} (h : w.ownsMap Tryz.prog 3 Ra m n D) (hb : w'.heap[m]? = w.heap[m]?) : w'.ownsMap Tryz.prog 3 Ra m n D := by
  obtain ⟨es, clock, h1, h2⟩ := h
  exact ⟨es, clock, hb.trans h1, h2⟩
theorem ChAt.agree (h : ChAt w m ms D) (hb : w'.heap[m]? = w.heap[m]?) : ChAt w' m ms D := ⟨ownsMapA_agree h.own hb, h.siz, h.key, h.at', h.no, h.ok, h.len⟩
theorem ChAt.lt (h : ChAt w m ms D) : m < w.heap.size := h.own.lt
theorem Ch.lt (h : Ch w m ms) : m < w.heap.size := by obtain ⟨D, h⟩ := h; exact h.lt
theorem Ch.ok (h : Ch w m ms) : CM.Ok ms := by obtain ⟨D, h⟩ := h; exact h.ok
theorem Ch.len (h : Ch w m ms) : ∀ q ∈ ms, q.1 < 2048 ∧ q.2.length = 512 ∧ Bytes q.2 := by obtain ⟨D, h⟩ := h; exact h.len
theorem Ch.agree (h : Ch w m ms) (hb : w'.heap[m]? = w.heap[m]?) : Ch w' m ms := by obtain ⟨D, h⟩ := h; exact ⟨D, h.agree hb⟩
theorem Ch.keep {G : Nat → Prop} (h : Ch w m ms) (hk : Keeps G w w') (hn : ¬ G m) : Ch w' m ms := h.agree (hk.block m h.lt hn)
theorem Ch.later (h : Ch w m ms) (hb : Below w.heap.size w w') : Ch w' m ms := h.agree (hb.block m h.lt)
/-- A new one. -/
theorem Ch.made (w : World) : Ch (w.alloc (.map #[] 0)) w.heap.size [] :=
  ⟨.map [], World.ownsMap_made w _ _ _, rfl, (fun kl h => by simp [Maps.has] at h), (fun k c h => by cases h), (fun k _ => ⟨rfl, fun z => rfl⟩), List.Pairwise.nil, (fun q hq => by cases hq)⟩
/-- It has no more keys than there are blocks. -/
theorem CM.length_le : ∀ {ms : CM} {n : Nat}, CM.Ok ms → (∀ q ∈ ms, q.1 < n) → (∀ a, (∀ q ∈ ms, a ≤ q.1) → ms.length + a ≤ n ∨ ms = [])
  | [], _, _, _, _, _ => .inr rfl
  | q :: qs, n, ho, hl, a, ha => by
    have p := List.pairwise_cons.1 ho
    have h1 := hl q List.mem_cons_self
    have h2 := ha q List.mem_cons_self
    rcases CM.length_le (n := n) p.2 (fun x hx => hl x (List.mem_cons_of_mem _ hx)) (q.1 + 1) (fun x hx => p.1 x hx) with h | h
    · left
      rw [List.length_cons]
      omega
    · left
      rw [h]
      simp only [List.length_cons, List.length_nil]
      omega
theorem Ch.small (h : Ch w m ms) : ms.length ≤ 2048 := by
  rcases CM.length_le h.ok (fun q hq => (h.len q hq).1) 0 (fun _ _ => Nat.zero_le _) with h1 | h1
  · omega
  · rw [h1]; exact Nat.zero_le _

/-- v, ok := m[k] -/
theorem Ch.look (h : Ch w m ms) (k : Nat) (hk : k < 2048) :
    (Instr.lookup 102 (.map (some m)) (.int .i64 (k : Int)) true).run Tryz.prog w = .ok (.tuple #[conV (CM.get ms k), .bool (CM.get ms k).isSome]) w := by
  obtain ⟨D, h⟩ := h
  obtain ⟨v, ps, hrun, hv⟩ := h.own.look_ok keyInt Tryz.underlying102 (zeroCon w) (zd := .held (.agg zsec)) (zp := []) rfl (keyOf_nat k hk)
  rw [hrun]
  cases hg : CM.get ms k with
  | none =>
    obtain ⟨h1, h2⟩ := h.no k hg
    rw [h2] at hv
    obtain ⟨h3, _⟩ := Ra_inv hv
    rw [h1]
    exact tuple_same _ _ (held_inj h3).symm
  | some c =>
    obtain ⟨h1, h2⟩ := h.at' k c hg
    rw [h2] at hv
    obtain ⟨h3, _⟩ := Ra_inv hv
    rw [h1]
    exact tuple_same _ _ (held_inj h3).symm
/-- m[k], a key that is there -/
theorem Ch.read (h : Ch w m ms) (k : Nat) {c : List Int} (hc : CM.get ms k = some c) :
    (Instr.lookup 102 (.map (some m)) (.int .i64 (k : Int)) false).run Tryz.prog w = .ok (cV c) w := by
  obtain ⟨D, h⟩ := h
  obtain ⟨v, ps, hrun, hv⟩ := h.own.lookup keyInt Tryz.underlying102 (zeroCon w) (zd := .held (.agg zsec)) (zp := []) rfl (keyOf_nat k ((h.len _ (CM.get_mem hc)).1))
  rw [hrun]
  rw [(h.at' k c hc).2] at hv
  obtain ⟨h3, _⟩ := Ra_inv hv
  exact congrArg (fun z => Result.ok z w) (held_inj h3).symm
/-- m[k] = c -/
theorem Ch.store (h : Ch w m ms) (k : Nat) (hk : k < 2048) (c : List Int) (hc : c.length = 512) (hb : Bytes c) :
    ∃ w', (Instr.mapUpdate 102 (.map (some m)) (.int .i64 (k : Int)) (cV c)).run Tryz.prog w = .ok () w' ∧ Ch w' m (CM.put ms k c) ∧ Keeps (fun b => b = m) w w' ∧ w'.heap.size = w.heap.size := by
  have hsm := h.small
  obtain ⟨D, h⟩ := h
  obtain ⟨w', hrun, hm, hg⟩ := h.own.store keyInt Tryz.underlying102 (by unfold maxLen; omega) (keyOf_nat k hk) (show Ra (cV c) = some (.held (cV c), []) from rfl)
  have hD := h.own.isMap
  have hkey : WideAt.IsKeyLit (kk k) := trivial
  have hgr := hg.grown
  have hsz : Maps.size (D.put (kk k) (.held (cV c))) = (CM.put ms k c).length := by
    rw [size_put (h.own.tidy keyInt), CM.put_length h.ok, h.siz]
    cases hgk : CM.get ms k with
    | none => rw [(h.no k hgk).1]; rfl
    | some x => rw [(h.at' k x hgk).1]; rfl
  refine ⟨w', hrun, ⟨D.put (kk k) (.held (cV c)), ?_, hsz, fun kl hkl => ?_, fun j x hj => ?_, fun j hj => ?_, CM.put_ok h.ok _ _, fun q hq => ?_⟩, ⟨hgr.os, hgr.tape, hgr.output, hgr.size, fun b hb' hn => hgr.block b hb' (fun e => hn (by injection e))⟩, ?_⟩
  · obtain ⟨es, clock, h1, h2, h3, h4⟩ := hm
    refine ⟨es, clock, h1, h2, ?_, h4⟩
    rw [← hsz, h4]
    simp [Maps.size, length_sorted]
  · by_cases he : kl = kk k
    · exact ⟨k, he, by rw [CM.get_put _ _ _ _ h.ok, if_pos rfl]; rfl⟩
    · rw [has_put_other he] at hkl
      obtain ⟨j, rfl, hj⟩ := h.key kl hkl
      refine ⟨j, rfl, ?_⟩
      rw [CM.get_put _ _ _ _ h.ok, if_neg (fun e => he (by rw [e]))]
      exact hj
  · rw [CM.get_put _ _ _ _ h.ok] at hj
    by_cases e : j = k
    · rw [if_pos e] at hj
      cases hj
      subst e
      exact ⟨has_put_same hD hkey _, fun z => atKey_put_same hD hkey _ z⟩
    · rw [if_neg e] at hj
      have hne : kk j ≠ kk k := fun e' => e (kk_inj e')
      exact ⟨by rw [has_put_other hne]; exact (h.at' j x hj).1, fun z => by rw [atKey_put_other hne]; exact (h.at' j x hj).2 z⟩
  · rw [CM.get_put _ _ _ _ h.ok] at hj
    by_cases e : j = k
    · rw [if_pos e] at hj; cases hj
    · rw [if_neg e] at hj
      have hne : kk j ≠ kk k := fun e' => e (kk_inj e')
      exact ⟨by rw [has_put_other hne]; exact (h.no j hj).1, fun z => by rw [atKey_put_other hne]; exact (h.no j hj).2 z⟩
  · rcases CM.put_key hq with rfl | hq
    · exact ⟨hk, hc, hb⟩
    · exact h.len q hq
  · obtain ⟨es, clock, es', clock', _, e⟩ := hg
    rw [e]
    simp [setBlock]
/-- len(m) -/
theorem Ch.length (h : Ch w m ms) (ty : TypeId) : (Builtin.len_ #[102] ty #[.map (some m)]).run Tryz.prog w = .ok (.int .i64 (ms.length : Int)) w := by
  obtain ⟨D, h⟩ := h
  rw [h.own.len Tryz.underlying102 ty, h.siz]
/-- clear(m) -/
theorem Ch.cleared (h : Ch w m ms) : ∃ w', (∀ ty, (Builtin.clear_ #[102] ty #[.map (some m)]).run Tryz.prog w = .ok (.tuple #[]) w') ∧ Ch w' m [] ∧ Keeps (fun k => k = m) w w' ∧ w'.heap.size = w.heap.size := by
  obtain ⟨D, h⟩ := h
  obtain ⟨es, clock, hb, F, _, _⟩ := h.own
  refine ⟨setBlock w m (.map #[] clock), ?_, ⟨.map [], ⟨#[], clock, heap_setBlock_same hb _, ⟨by simp, ?_, by simp⟩, by simp, by simp⟩, rfl, (fun kl h => by simp [Maps.has] at h), (fun k c h => by cases h), (fun k _ => ⟨rfl, fun z => rfl⟩), List.Pairwise.nil, (fun q hq => by cases hq)⟩, ⟨rfl, rfl, rfl, by simp [setBlock], fun k _ hk => heap_setBlock_other hb _ hk⟩, by simp [setBlock]⟩
  · intro ty
    simp [Builtin.clear_, go_sem, MapKept.run_getObj_map hb, MapKept.run_setObj_map _ hb, setBlock]
  · exact MapKept.stamped_empty _
end
end Go.Proofs.YtokcgifpljeoiaaGreat
end
