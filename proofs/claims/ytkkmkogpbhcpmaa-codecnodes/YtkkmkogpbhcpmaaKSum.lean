import Derived.Test.YtkkmkogpbhcpmaaKBase
import Derived.Deep.Light
import Derived.Deep.MidRow
namespace Go.Proofs.Ytkkmkogpbhcpmaa
open Go.RowKit

/-- The table. -/
def tab : List Value := (List.range 16).map (fun j => Value.int .u32 ((cbs 4 j : Nat) : Int))
theorem tab_len : tab.length = 16 := by simp [tab]
theorem tab_one : ∀ v ∈ tab, v.oneCell' = true := by
  intro v hv
  obtain ⟨j, _, rfl⟩ := List.mem_map.1 hv
  rfl
theorem infoTab : (Try.prog.info? 154).map (·.size) = some tab.length := by rw [tab_len]; kernel_rfl

theorem bit1 (r : Nat) (hr : r < 4294967296) : bits .and .u32 (r : Int) 1 = ((r % 2 : Nat) : Int) := by
  have := u32_and_nat r 1 hr (by omega)
  rw [Nat.and_one_is_mod] at this
  exact this
theorem cb_bits (r : Nat) (hr : r < 4294967296) : bits .xor .u32 ((r : Int) / 2) (2197175160 * ((r : Int) % 2)) = ((cb r : Nat) : Int) := by
  have e1 : ((r : Int) / 2) = ((r / 2 : Nat) : Int) := by omega
  have e2 : (2197175160 * ((r : Int) % 2)) = (((if r % 2 = 1 then 2197175160 else 0) : Nat) : Int) := by
    split <;> omega
  rw [e1, e2, u32_xor_nat _ _ (by omega) (by split <;> omega)]
  rfl

theorem Keeps.setCells {F : Nat → Prop} {b : Nat} (hb : F b) : ∀ (vs : List Value) (o : Nat) (w : World), Keeps F w (w.setCells b o vs)
  | [], _, w => Keeps.refl F w
  | v :: r, o, w => (Keeps.setCell (p := ⟨b, o, none⟩) w hb v).trans (Keeps.setCells hb r (o + 1) _) (fun _ h => .inl h)
theorem size_setCells {b : Nat} : ∀ (vs : List Value) (o : Nat) (w : World), (w.setCells b o vs).heap.size = w.heap.size
  | [], _, _ => rfl
  | v :: r, o, w => by simp only [World.setCells]; rw [size_setCells r]; simp [World.setCell]

theorem results_cell_mid {P : Program} {fn : Func} {p : Tmp} {ty : TypeId} (h : fn.results = #[.cell p ty]) (tmps : Array Value) (w : World) (g : Nat) (cs : List Value) (d : TypeDesc)
    (hp : tmps.getD p undef = .pointer (some ⟨g, 0, none⟩)) (hg : w.rangeAt g 0 cs) (hu : P.underlying ty = some d) (hd : d.isRow = true) (hi : (P.info? ty).map (·.size) = some cs.length) :
    (results fn tmps).run P w = .ok (.agg cs.toArray) w := by
  have hp' : tmps[p]?.getD undef = .pointer (some ⟨g, 0, none⟩) := by simpa using hp
  simp [results, h, hp', asAddr, run_loadVar_mid w g 0 ty cs d hg hu hd hi]

/-- What halves' outer loop keeps. -/
def Half (w wr : World) (k : Nat) : Prop :=
  Below w.heap.size w wr ∧ wr.heap.size = w.heap.size + 2 ∧ (∃ cur : Array Value, cur.size = 16 ∧ wr.heap[w.heap.size]? = some (.cells cur 154 (0, 0))) ∧
    ∃ cs : List Int, cs.length = 16 ∧ wr.heap[w.heap.size + 1]? = some (.cells (cs.map (Value.int .u32)).toArray 154 (0, 0)) ∧ ∀ j, j < k → cs[j]? = some ((cbs 4 j : Nat) : Int)

theorem Half.next {w wr : World} {k : Nat} (h : Half w wr k) (hk : k < 16) : (∃ v, wr.cell? ⟨w.heap.size + 1, k, none⟩ = some (.int .u32 v)) ∧ wr.frozen? ⟨w.heap.size + 1, k, none⟩ = false ∧
    Half w (wr.setCell ⟨w.heap.size + 1, k, none⟩ (.int .u32 ((cbs 4 k : Nat) : Int))) (k + 1) := by
  obtain ⟨hb, hs, ⟨cur, hc, hcb⟩, cs, hl, hblk, hcs⟩ := h
  have hkl : k < cs.length := by omega
  refine ⟨⟨cs[k], cell_of_block hblk (by simp [hkl])⟩, frozen_of_block hblk k, ?_, ?_, ⟨cur, hc, ?_⟩, cs.set k ((cbs 4 k : Nat) : Int), by simp [hl], ?_, ?_⟩
  · exact hb.trans ((Keeps.setCell (F := fun j => j = w.heap.size + 1) (p := ⟨w.heap.size + 1, k, none⟩) wr rfl _).below (fun j hj => by omega) (by omega))
  · simpa [World.setCell] using hs
  · rw [Below.heap_setCell _ _ _ _ (by simp)]; exact hcb
  · rw [heap_setCell_same _ _ _ _ _ _ hblk]
    congr 2
    apply Array.ext'
    simp [List.map_set]
  · intro j hj
    by_cases e : j = k
    · subst e; simp [hkl]
    · rw [List.getElem?_set_ne (by omega)]; exact hcs j (by omega)

theorem Half.done {w wr : World} (h : Half w wr 16) : wr.rangeAt (w.heap.size + 1) 0 tab ∧ wr.there w.heap.size 0 tab.length := by
  obtain ⟨hb, hs, ⟨cur, hc, hcb⟩, cs, hl, hblk, hcs⟩ := h
  constructor
  · intro j v hv
    have hj : j < 16 := by
      have := (List.getElem?_eq_some_iff.1 hv).1
      rwa [tab_len] at this
    rw [Nat.zero_add]
    refine cell_of_block hblk ?_
    rw [← hv]
    simp [tab, hcs j hj, hj]
  · intro j hj
    rw [tab_len] at hj
    rw [Nat.zero_add]
    exact ⟨by rw [cell_of_block hcb (j := j) (u := cur[j]'(by omega)) (by simp [show j < cur.size by omega])]; rfl, frozen_of_block hcb j⟩

set_option maxHeartbeats 2000000 in
theorem halves_any (w : World) :
    Calls Try.prog 123 #[] w fun e w' => e = .returned (.agg tab.toArray) ∧ Below w.heap.size w w' := by
  go_enter Try.func123, Try.ntmps123
  go_wp2
  go_loopw [5] (fun i wr => ∃ k : Nat, k ≤ 16 ∧ i = .int .i64 k ∧ Half w wr k) (fun i _ => 16 - (intOf i).toNat)
  case atStart =>
    refine ⟨0, Nat.zero_le _, rfl, Below.alloc (Below.alloc (Below.refl _ _) (Nat.le_refl _) _) (by simp) _, by simp, ⟨_, ?_, heap_alloc2_old _ _ _⟩, List.replicate 16 0, by simp, ?_, fun j hj => by omega⟩
    · rfl
    · rw [heap_alloc2_new]; rfl
  case round =>
    obtain ⟨k, hk, rfl, hhalf⟩ := hrel
    by_cases hlt : k < 16
    · have hlt' : (k : Int) < 16 := by omega
      obtain ⟨⟨v0, hc⟩, hf, hnext⟩ := hhalf.next hlt
      have HN := Hid.mk hnext
      clear hnext hhalf
      go_wp2
      go_loopw [3, 10] (fun r i wx => ∃ m : Nat, m ≤ 4 ∧ i = .int .i64 m ∧ wx = wr ∧ r = .int .u32 ((cbs m k : Nat) : Int)) (fun _ i _ => 4 - (intOf i).toNat)
      case atStart => exact ⟨0, Nat.zero_le _, rfl, rfl, rfl⟩
      case round =>
        obtain ⟨m, hm, rfl, rfl, rfl⟩ := hrel
        have hr : cbs m k < 4294967296 := cbs_lt m (by omega)
        by_cases hlm : m < 4
        · have hlm' : (m : Int) < 4 := by omega
          have hb1 := bit1 (cbs m k) hr
          have hb2 := Hid.mk (cb_bits (cbs m k) hr)
          have hb3 : cb (cbs m k) = cbs (m + 1) k := by rw [cbs_add]; rfl
          have Hb3 := Hid.mk hb3
          clear hb3
          go_wp2
          go_roundw
          case rel => exact ⟨m + 1, by omega, by go_num, trivial, by rw [← Hb3.out, ← hb2.out]⟩
          case measure => simp [intOf]; omega
        · have hlm' : ¬ (m : Int) < 4 := by omega
          have hm4 : m = 4 := by omega
          subst hm4
          go_wp2
          go_roundw
          case rel => exact ⟨k + 1, by omega, by go_num, HN.out⟩
          case measure => simp [intOf]; omega
    · have hlt' : ¬ (k : Int) < 16 := by omega
      have hk16 : k = 16 := by omega
      subst hk16
      obtain ⟨hra, hth⟩ := hhalf.done
      have hbel := hhalf.1
      have hrs := Hid.mk (World.rangeAt_setCells_same wr w.heap.size 0 tab hth)
      have hall := all_oneCell_toArray tab_one
      have hb2 : Hid (Below w.heap.size w (wr.setCells w.heap.size 0 tab)) := hbel.trans ((Keeps.setCells (F := fun j => j = w.heap.size) rfl tab 0 wr).below (fun j hj => by omega) hbel.size)
      clear hhalf
      go_wp2_with (first | refine wpList_load_mid rfl 154 _ rfl (w.heap.size + 1) 0 rfl tab _ hra Try.underlying154 rfl infoTab ?_ | refine wpList_store_mid rfl 154 _ _ rfl w.heap.size 0 tab.toArray rfl rfl ?h1 ?h2 hall ?_)
      case h2 => exact Option.map_eq_some_iff.1 infoTab
      exact bodyPost_ret (results_cell_mid (P := Try.prog) rfl _ _ w.heap.size tab _ rfl hrs.out Try.underlying154 rfl infoTab) rfl ⟨rfl, hb2.out⟩

theorem tab_at {w : World} {g : Nat} (hg : w.heap[g]? = some (.cells tab.toArray 154 (0, 0))) (i : Nat) (hi : i < 16) : w.cell? ⟨g, i, none⟩ = some (.int .u32 ((cbs 4 i : Nat) : Int)) :=
  cell_of_block hg (by simp [tab, hi])
theorem and15 (r : Nat) (hr : r < 4294967296) : bits .and .u32 (r : Int) 15 = ((r % 16 : Nat) : Int) := by
  have := u32_and_nat r 15 hr (by omega)
  rw [show (15 : Nat) = 2 ^ 4 - 1 from rfl, Nat.and_two_pow_sub_one_eq_mod] at this
  exact this
theorem nib_bits (r : Nat) (hr : r < 4294967296) : bits .xor .u32 ((r : Int) / 16) ((cbs 4 (r % 16) : Nat) : Int) = ((cbs 4 r : Nat) : Int) := by
  have e1 : ((r : Int) / 16) = ((r / 16 : Nat) : Int) := by omega
  rw [e1, u32_xor_nat _ _ (by omega) (cbs_lt 4 (by omega)), ← cbs_nib]

set_option maxHeartbeats 2000000 in
theorem through_low (b o n c : Nat) (l : List Int) (w : World) (hb : Bytes l) (hl : l.length = n) (hn : n ≤ 140737488355328) (hs : ∀ i, i < n → w.cell? ⟨b, o + i, none⟩ = some (.int .u8 (l.getD i 0))) :
    Calls Try.prog 122 #[.agg tab.toArray, .int .u32 4294967295, .slice (some ⟨b, o, none⟩) n c] w fun e w' => e = .returned (.int .u32 ((crc 4294967295 l : Nat) : Int)) ∧ Below w.heap.size w w' := by
  have Hs := Hid.mk hs
  clear hs
  go_enter Try.func122, Try.ntmps122
  go_wp2
  go_loopw [1, 11] (fun r i wr => ∃ k : Nat, k ≤ n ∧ i = .int .i64 k ∧ wr = w.alloc (.cells tab.toArray 154) ∧ r = .int .u32 ((crc 4294967295 (l.take k) : Nat) : Int)) (fun _ i _ => n - (intOf i).toNat)
  case atStart => exact ⟨0, Nat.zero_le _, rfl, rfl, by simp [crc_nil]⟩
  case round =>
    obtain ⟨k, hk, rfl, rfl, rfl⟩ := hrel
    by_cases hlt : k < n
    · have hlt' : (k : Int) < (n : Int) := by omega
      have hc : (w.alloc (.cells tab.toArray 154)).cell? ⟨b, o + k, none⟩ = some (.int .u8 (l.getD k 0)) := Lib.cell?_alloc_some _ (Hs.out k hlt)
      have hcb : b < w.heap.size := World.block_lt_of_cell? _ _ (Hs.out k hlt)
      have htab : (w.alloc (.cells tab.toArray 154)).heap[w.heap.size]? = some (.cells tab.toArray 154 (0, 0)) := heap_alloc_new _ _
      have hkl : k < l.length := by omega
      obtain ⟨x, hx, hx1⟩ : ∃ x : Nat, l.getD k 0 = (x : Int) ∧ x < 256 := by
        have := hb l[k] (List.getElem_mem hkl)
        refine ⟨(l.getD k 0).toNat, ?_, ?_⟩ <;> simp [List.getD, hkl] <;> omega
      have htk : Bytes (l.take k) := fun y hy => hb y (List.mem_of_mem_take hy)
      have hr : crc 4294967295 (l.take k) < 4294967296 := crc_lt (by omega) htk
      have hsn : crc 4294967295 (l.take (k + 1)) = cbs 8 (crc 4294967295 (l.take k) ^^^ x) := by
        rw [List.take_succ_eq_append_getElem hkl, crc_snoc _ _ htk]
        congr 2
        have : l.getD k 0 = l[k] := by simp [List.getD, hkl]
        rw [← this, hx]; simp
      have Hsn := Hid.mk hsn
      rw [hx] at hc
      generalize hR : crc 4294967295 (l.take k) = R at *
      have hq : R ^^^ x < 4294967296 := by
        have : R ^^^ x < 2 ^ 32 := Nat.xor_lt_two_pow (by omega) (by omega)
        omega
      have e1 : bits .xor .u32 (R : Int) (x : Int) = ((R ^^^ x : Nat) : Int) := u32_xor_nat _ _ hr (by omega)
      have t1 := tab_at htab ((R ^^^ x) % 16) (by omega)
      have e2 := and15 (R ^^^ x) hq
      have e3 := nib_bits (R ^^^ x) hq
      have hq2 : cbs 4 (R ^^^ x) < 4294967296 := cbs_lt 4 hq
      have t2 := tab_at htab (cbs 4 (R ^^^ x) % 16) (by omega)
      have e4 := and15 (cbs 4 (R ^^^ x)) hq2
      have e5 := nib_bits (cbs 4 (R ^^^ x)) hq2
      have e6 : cbs 4 (cbs 4 (R ^^^ x)) = cbs 8 (R ^^^ x) := (cbs_add 4 4 _).symm
      have hxw : IntKind.u32.wrap (x : Int) = (x : Int) := by rw [IntKind.wrap_u32]; omega
      have i1 : (R ^^^ x) % 16 < 16 := by omega
      have i2 : cbs 4 (R ^^^ x) % 16 < 16 := by omega
      clear htab hsn hR htk hq hr hq2 hx
      go_wp2
      go_roundw
      case rel => exact ⟨k + 1, by omega, by go_num, trivial, by rw [Hsn.out]⟩
      case measure => simp [intOf]; omega
    · have hlt' : ¬ (k : Int) < (n : Int) := by omega
      have hkn : l.take k = l := List.take_of_length_le (by omega)
      have HB : Hid (Below w.heap.size w (w.alloc (.cells tab.toArray 154))) := (Below.refl _ w).alloc (Nat.le_refl _) _
      rw [hkn] at *
      go_wp2
      go_ret
      exact ⟨rfl, HB.out⟩

set_option maxHeartbeats 1000000 in
theorem through_none (a : Option Addr) (c : Nat) (w : World) :
    Calls Try.prog 122 #[.agg tab.toArray, .int .u32 4294967295, .slice a 0 c] w fun e w' => e = .returned (.int .u32 ((crc 4294967295 [] : Nat) : Int)) ∧ Below w.heap.size w w' := by
  have HB : Hid (Below w.heap.size w (w.alloc (.cells tab.toArray 154))) := (Below.refl _ w).alloc (Nat.le_refl _) _
  rw [crc_nil]
  go_enter Try.func122, Try.ntmps122
  go_wp2
  refine wp_loop_rounds 1 ?_; rw [rounds_succ]; go_wp2
  go_ret
  exact ⟨rfl, HB.out⟩

theorem through_any (a : Option Addr) (n c : Nat) (l : List Int) (w : World) (hb : Bytes l) (hn : n ≤ 140737488355328) (hs : Src w a n l) :
    Calls Try.prog 122 #[.agg tab.toArray, .int .u32 4294967295, .slice a n c] w fun e w' => e = .returned (.int .u32 ((crc 4294967295 l : Nat) : Int)) ∧ Below w.heap.size w w' := by
  by_cases h0 : n = 0
  · subst h0
    have : l = [] := List.eq_nil_of_length_eq_zero hs.1
    subst this
    exact through_none a c w
  · cases a with
    | none => exact absurd (hs.2.1 rfl) h0
    | some x =>
      obtain ⟨b, o, rfl, k⟩ := hs.spot (by omega)
      exact through_low b o n c l w hb hs.1 hn k

theorem not_bits (r : Nat) (hr : r < 4294967296) : bits .xor .u32 IntKind.u32.max (r : Int) = ((r ^^^ 4294967295 : Nat) : Int) := by
  have e : IntKind.u32.max = ((4294967295 : Nat) : Int) := by decide
  rw [e, u32_xor_nat _ _ (by omega) hr, Nat.xor_comm]

set_option maxHeartbeats 1000000 in
theorem sum_any (a : Option Addr) (n c : Nat) (l : List Int) (w : World) (hb : Bytes l) (hn : n ≤ 140737488355328) (hs : Src w a n l) :
    Calls Try.prog 113 #[.slice a n c] w fun e w' => e = .returned (.int .i64 ((sumOf l : Nat) : Int)) ∧ Below w.heap.size w w' := by
  have hh := halves_any w
  have Hs := Hid.mk hs
  have hr := crc_lt (r := 4294967295) (by omega) hb
  have hnb := not_bits _ hr
  have hq0 : crc 4294967295 l ^^^ 4294967295 < 4294967296 := sumOf_lt hb
  have hq : wrap64 ((crc 4294967295 l ^^^ 4294967295 : Nat) : Int) = ((crc 4294967295 l ^^^ 4294967295 : Nat) : Int) := by unfold wrap64; omega
  clear hs
  unfold sumOf
  go_enter Try.func113, Try.ntmps113
  go_wp2_with fail
  refine hh.mono ?_
  rintro e w1 ⟨rfl, hb1⟩
  have ht := through_any a n c l w1 hb hn (Hs.out.later hb1)
  have HB := Hid.mk hb1
  clear hh hb1
  go_wp2_with fail
  refine ht.mono ?_
  rintro e w2 ⟨rfl, hb2⟩
  have HB2 : Hid (Below w.heap.size w w2) := HB.out.trans (hb2.mono HB.out.size)
  clear ht hb2
  go_wp2
  go_ret
  exact ⟨rfl, HB2.out⟩
end Go.Proofs.Ytkkmkogpbhcpmaa
