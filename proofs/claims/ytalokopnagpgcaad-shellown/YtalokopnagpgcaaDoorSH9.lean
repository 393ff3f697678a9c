import Derived.Test.YtalokopnagpgcaaDoorSH8
import Derived.WalkMore
namespace Go.Proofs.YtalokopnagpgcaaDoor
open Go.RowKit Go.Maps

/-- Where the quote stands that ends a quoted word (b: whether a backslash went ahead). -/
def clos : Bool → List UInt8 → Option Nat
  | _, [] => none
  | true, _ :: t => (clos false t).map (· + 1)
  | false, c :: t => if c = 92 then (clos true t).map (· + 1) else if c = 34 then some 0 else (clos false t).map (· + 1)
def closV (o : Option Nat) : Int := match o with
  | none => -1
  | some k => (k : Int)
theorem clos_low {p : List UInt8} (hp : ∀ x ∈ p, 128 ≤ x.toNat) (t : List UInt8) : clos false (p ++ t) = (clos false t).map (· + p.length) := by
  induction p with
  | nil => simp
  | cons x p ih =>
    have hx := hp x (by simp)
    have n1 : x ≠ 92 := fun e => by subst e; exact absurd hx (by decide)
    have n2 : x ≠ 34 := fun e => by subst e; exact absurd hx (by decide)
    rw [List.cons_append, clos, if_neg n1, if_neg n2, ih (fun y hy => hp y (by simp [hy])), Option.map_map]
    congr 1
theorem clos_high {p : List UInt8} (hp : ∀ x ∈ p, 128 ≤ x.toNat) (h0 : p ≠ []) (b : Bool) (t : List UInt8) : clos b (p ++ t) = (clos false t).map (· + p.length) := by
  cases b with
  | false => exact clos_low hp t
  | true =>
    match p, h0 with
    | x :: p', _ =>
      rw [List.cons_append, clos, clos_low (fun y hy => hp y (by simp [hy])), Option.map_map]
      congr 1
set_option maxHeartbeats 1000000 in
/-- A letter of more than one byte. -/
theorem rune_high (s : ByteArray) (i : Nat) (h : i < s.size) (h8 : 128 ≤ (s.get! i).toNat) :
    128 ≤ (Utf8.decode s i).1 ∧ (Utf8.decode s i).1 < 1114112 ∧ 1 ≤ (Utf8.decode s i).2 ∧ i + (Utf8.decode s i).2 ≤ s.size ∧ ∀ j, i ≤ j → j < i + (Utf8.decode s i).2 → 128 ≤ (s.get! j).toNat := by
  rw [Lib.decode_at]
  have h256 := (s.get! i).toNat_lt
  generalize e0 : (s.get! i).toNat = b0 at *
  generalize e1 : (s.get! (i + 1)).toNat = b1
  generalize e2 : (s.get! (i + 2)).toNat = b2
  generalize e3 : (s.get! (i + 3)).toNat = b3
  generalize hn : s.size - i = n
  have key : ∀ k : Nat, (k ≤ 1 ∨ (b1 / 64 = 2 ∧ (k ≤ 2 ∨ (b2 / 64 = 2 ∧ (k ≤ 3 ∨ (b3 / 64 = 2 ∧ k ≤ 4)))))) → ∀ j, i ≤ j → j < i + k → 128 ≤ (s.get! j).toNat := by
    intro k hk j h1 h2
    have hj : j = i ∨ j = i + 1 ∨ j = i + 2 ∨ j = i + 3 := by omega
    rcases hj with rfl | rfl | rfl | rfl
    · omega
    · omega
    · omega
    · omega
  unfold Lib.decodeN
  repeat' split
  all_goals refine ⟨by simp only; omega, by simp only; omega, by simp only; omega, by simp only; omega, key _ (by simp only; omega)⟩
theorem rune_low (s : ByteArray) (i : Nat) (h : i < s.size) (h8 : (s.get! i).toNat < 128) : Utf8.decode s i = ((s.get! i).toNat, 1) := by
  have e := byte_at s h
  rw [e] at h8 ⊢
  rw [decode_ascii s i h (by omega)]
/-- What stands from a place on, a letter taken off. -/
theorem drop_part (s : ByteArray) (i d : Nat) : s.data.toList.drop i = (s.data.toList.drop i).take d ++ s.data.toList.drop (i + d) := by
  rw [← List.drop_drop, List.take_append_drop]
theorem drop_one (s : ByteArray) {i : Nat} (h : i < s.size) : s.data.toList.drop i = s.get! i :: s.data.toList.drop (i + 1) := by
  have hl := len_size s
  rw [List.drop_eq_getElem_cons (by omega)]
  congr 1
  have := getb s h
  rw [List.getElem?_eq_getElem (by omega)] at this
  exact Option.some.inj this
theorem part_high (s : ByteArray) {i d : Nat} (h : i + d ≤ s.size) (hj : ∀ j, i ≤ j → j < i + d → 128 ≤ (s.get! j).toNat) : ∀ x ∈ (s.data.toList.drop i).take d, 128 ≤ x.toNat := by
  intro x hx
  have hl := len_size s
  obtain ⟨k, hk, e⟩ := List.mem_iff_getElem.1 hx
  simp only [List.length_take, List.length_drop] at hk
  rw [List.getElem_take, List.getElem_drop] at e
  have h2 := getb s (i := i + k) (by omega)
  rw [List.getElem?_eq_getElem (by omega)] at h2
  have h3 := hj (i + k) (by omega) (by omega)
  rw [← Option.some.inj h2, e] at h3
  exact h3

/-- What closing answers. -/
theorem closV_add {o o' : Option Nat} {k : Nat} (h : o = o'.map (· + k)) : o.isSome = o'.isSome := by rw [h]; cases o' <;> rfl
set_option maxRecDepth 20000 in
set_option maxHeartbeats 4000000 in
theorem closing_any (s : ByteArray) (w : World) (hs : s.size ≤ 100000000) :
    Calls Tryd.prog 30 #[.string s] w fun e w' => e = .returned (.int .i64 (closV (clos false s.data.toList))) ∧ Below w.heap.size w w' := by
  have Hs := Hid.mk hs
  clear hs
  go_enter Tryd.func30, Tryd.ntmps30
  go_wp2
  go_step3
  go_wp2
  go_step3
  go_wp2
  go_loopw [3, 4] (fun ev bv wr => ∃ (pos : Nat) (b : Bool), ev = .int .i64 (-1) ∧ bv = .bool b ∧ wr.heap[w.heap.size]? = some (.stringIter s pos) ∧ pos ≤ s.size ∧ Below w.heap.size w wr ∧ clos false s.data.toList = (clos b (s.data.toList.drop pos)).map (· + pos)) (fun _ _ wr => s.size - wr.iterPos w.heap.size)
  case atStart =>
    refine ⟨0, false, rfl, rfl, heap_alloc_new w _, Nat.zero_le _, (Below.refl _ _).alloc (Nat.le_refl _) _, ?_⟩
    simp
  case round =>
    obtain ⟨pos, b, rfl, rfl, hit, hpS, hbel, hcl⟩ := hrel
    by_cases hp : pos < s.size
    · have hnx : ∀ ty, (Instr.next (.pointer (some ⟨w.heap.size, 0, none⟩)) true ty).run Tryd.prog wr = _ := fun ty => Lib.run_next_any_at wr w.heap.size s pos ty hit hp
      have hi0 : wr.iterPos w.heap.size = pos := iterPos_of hit
      by_cases h8 : (s.get! pos).toNat < 128
      · rw [rune_low s pos hp h8] at hnx
        have hi1 := Lib.iterAt_heap wr w.heap.size s pos (pos + 1) hit
        have hb1 : Below w.heap.size w (wr.iterAt w.heap.size s (pos + 1)) := Lib.below_iterAt hbel (Nat.le_refl _) s (pos + 1)
        have hip : (wr.iterAt w.heap.size s (pos + 1)).iterPos w.heap.size = pos + 1 := iterPos_of hi1
        have hd1 := drop_one s hp
        rw [hd1] at hcl
        have HI := Hid.mk (And.intro hi1 (And.intro hb1 (And.intro hip (And.intro hi0 hcl))))
        clear hi1 hb1 hip hcl hd1 hbel hit hi0
        generalize wr.iterAt w.heap.size s (pos + 1) = wi at *
        generalize hx : s.get! pos = x at *
        have hmap : ∀ o : Option Nat, (o.map (· + 1)).map (· + pos) = o.map (· + (pos + 1)) := fun o => by
          rw [Option.map_map]
          congr 1
          funext k
          simp only [Function.comp]
          omega
        cases b with
        | true =>
          have HC : Hid (clos false s.data.toList = (clos false (s.data.toList.drop (pos + 1))).map (· + (pos + 1))) := Hid.mk (by rw [HI.out.2.2.2.2, clos, hmap])
          go_wp2
          go_roundw
          case rel => exact ⟨pos + 1, false, rfl, rfl, HI.out.1, by omega, HI.out.2.1, HC.out⟩
          case measure =>
            have h1 := HI.out.2.2.1
            have h2 := HI.out.2.2.2.1
            rw [h1, h2]
            omega
        | false =>
          by_cases h92 : x = 92
          · have HC : Hid (clos false s.data.toList = (clos true (s.data.toList.drop (pos + 1))).map (· + (pos + 1))) := Hid.mk (by rw [HI.out.2.2.2.2, clos, if_pos h92, hmap])
            have hx92 : (x.toNat : Int) = 92 := by rw [h92]; rfl
            rw [hx92] at hnx
            go_wp2
            go_roundw
            case rel => exact ⟨pos + 1, true, rfl, rfl, HI.out.1, by omega, HI.out.2.1, HC.out⟩
            case measure =>
              have h1 := HI.out.2.2.1
              have h2 := HI.out.2.2.2.1
              rw [h1, h2]
              omega
          · have hx92 : ((x.toNat : Int) == 92) = false := ne_lit (k := 92) h92
            by_cases h34 : x = 34
            · have hfin : clos false s.data.toList = some pos := by
                rw [HI.out.2.2.2.2, clos, if_neg h92, if_pos h34]
                simp
              have HF := Hid.mk (And.intro hfin HI.out.2.1)
              have hx34 : (x.toNat : Int) = 34 := by rw [h34]; rfl
              rw [hx34] at hnx
              clear hfin HI
              go_wp2
              rw [Exit.noGoto_ret]
              go_ret
              exact ⟨by rw [HF.out.1]; rfl, HF.out.2⟩
            · have hx34 : ((x.toNat : Int) == 34) = false := ne_lit (k := 34) h34
              have HC : Hid (clos false s.data.toList = (clos false (s.data.toList.drop (pos + 1))).map (· + (pos + 1))) := Hid.mk (by rw [HI.out.2.2.2.2, clos, if_neg h92, if_neg h34, hmap])
              go_wp2
              go_roundw
              case rel => exact ⟨pos + 1, false, rfl, rfl, HI.out.1, by omega, HI.out.2.1, HC.out⟩
              case measure =>
                have h1 := HI.out.2.2.1
                have h2 := HI.out.2.2.2.1
                rw [h1, h2]
                omega
      · obtain ⟨hr1, hr2, hr3, hr4, hr5⟩ := rune_high s pos hp (by omega)
        have hi1 := Lib.iterAt_heap wr w.heap.size s pos (pos + (Utf8.decode s pos).2) hit
        generalize Utf8.decode s pos = D at *
        obtain ⟨r, d⟩ := D
        simp only at hr1 hr2 hr3 hr4 hr5 hi1
        have hb1 : Below w.heap.size w (wr.iterAt w.heap.size s (pos + d)) := Lib.below_iterAt hbel (Nat.le_refl _) s (pos + d)
        have hip : (wr.iterAt w.heap.size s (pos + d)).iterPos w.heap.size = pos + d := iterPos_of hi1
        have hcn : clos false s.data.toList = (clos false (s.data.toList.drop (pos + d))).map (· + (pos + d)) := by
          have hl := len_size s
          have hlen : ((s.data.toList.drop pos).take d).length = d := by
            simp only [List.length_take, List.length_drop]
            omega
          rw [hcl, drop_part s pos d, clos_high (part_high s hr4 hr5) (fun e => by rw [e] at hlen; simp at hlen; omega) b, Option.map_map, hlen]
          congr 1
          funext k
          simp only [Function.comp]
          omega
        have HC := Hid.mk hcn
        have HI := Hid.mk (And.intro hi1 (And.intro hb1 (And.intro hip hi0)))
        have n92 : ((r : Int) == 92) = false := by rw [beq_eq_false_iff_ne]; omega
        have n34 : ((r : Int) == 34) = false := by rw [beq_eq_false_iff_ne]; omega
        clear hi1 hb1 hip hcl hcn hbel hit hi0 hr5
        generalize wr.iterAt w.heap.size s (pos + d) = wi at *
        cases b
        all_goals
          go_wp2
          go_roundw
          case rel => exact ⟨pos + d, false, rfl, rfl, HI.out.1, hr4, HI.out.2.1, HC.out⟩
          case measure =>
            have h1 := HI.out.2.2.1
            have h2 := HI.out.2.2.2
            rw [h1, h2]
            omega
    · have hnx : ∀ ty, (Instr.next (.pointer (some ⟨w.heap.size, 0, none⟩)) true ty).run Tryd.prog wr = _ := fun ty => Lib.run_next_end_at wr w.heap.size s pos ty hit hp
      have hend : clos false s.data.toList = none := by
        rw [hcl, List.drop_eq_nil_of_le (by rw [len_size]; omega)]
        cases b <;> rfl
      have HE := Hid.mk (And.intro hend hbel)
      clear hend hbel hcl
      go_wp2
      rw [Exit.noGoto_ret]
      go_ret
      exact ⟨by rw [HE.out.1]; rfl, HE.out.2⟩
end Go.Proofs.YtalokopnagpgcaaDoor
