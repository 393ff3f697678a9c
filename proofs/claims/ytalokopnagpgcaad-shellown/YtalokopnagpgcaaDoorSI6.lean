import Derived.Test.YtalokopnagpgcaaDoorSI5
namespace Go.Proofs.YtalokopnagpgcaaDoor
open Go.RowKit Go.Maps

/-- A bare word and what follows. -/
def bar (l : List UInt8) : Option (List UInt8 × List UInt8) := if (l.takeWhile (fun c => !blank c)).all plainB then some (l.takeWhile (fun c => !blank c), l.dropWhile (fun c => !blank c)) else none
def okB (c : UInt8) : Prop := blank c = false ∧ plainB c = true
theorem tw_app {p r : List UInt8} (hp : ∀ x ∈ p, blank x = false) : (p ++ r).takeWhile (fun c => !blank c) = p ++ r.takeWhile (fun c => !blank c) ∧ (p ++ r).dropWhile (fun c => !blank c) = r.dropWhile (fun c => !blank c) := by
  induction p with
  | nil => exact ⟨rfl, rfl⟩
  | cons x p ih =>
    have hx := hp x (by simp)
    have ih' := ih (fun y hy => hp y (by simp [hy]))
    simp only [List.cons_append, List.takeWhile_cons, List.dropWhile_cons, hx, Bool.not_false, if_true, ih'.1, ih'.2, and_self]
theorem bar_at {p r : List UInt8} (hp : ∀ x ∈ p, okB x) (hr : endsB r = true) : bar (p ++ r) = some (p, r) := by
  have h := tw_app (r := r) (fun x hx => (hp x hx).1)
  have h2 : r.takeWhile (fun c => !blank c) = [] ∧ r.dropWhile (fun c => !blank c) = r := by
    cases r with
    | nil => exact ⟨rfl, rfl⟩
    | cons c t =>
      have hc : blank c = true := hr
      simp [hc]
  unfold bar
  rw [h.1, h.2, h2.1, h2.2, List.append_nil, if_pos]
  exact List.all_eq_true.2 (fun x hx => (hp x hx).2)
theorem bar_no {p t : List UInt8} {c : UInt8} (hp : ∀ x ∈ p, okB x) (hb : blank c = false) (hc : plainB c = false) : bar (p ++ c :: t) = none := by
  have h := tw_app (r := c :: t) (fun x hx => (hp x hx).1)
  unfold bar
  rw [h.1, if_neg]
  simp [hb, hc]
theorem high_ok {c : UInt8} (h : 128 ≤ c.toNat) : okB c := by
  have n1 : c ≠ 32 := fun e => by subst e; exact absurd h (by decide)
  have n2 : c ≠ 9 := fun e => by subst e; exact absurd h (by decide)
  refine ⟨by simp [blank, n1, n2], ?_⟩
  have e92 : ((c.toNat : Int) == 92) = false := by rw [beq_eq_false_iff_ne]; omega
  have e34 : ((c.toNat : Int) == 34) = false := by rw [beq_eq_false_iff_ne]; omega
  have e127 : ((c.toNat : Int) == 127) = false := by rw [beq_eq_false_iff_ne]; omega
  have e32 : decide ((32 : Int) ≤ (c.toNat : Int)) = true := by simp; omega
  unfold plainB plainR
  rw [e92, e34, e127, e32]
  rfl
theorem high_plain {r : Int} (h : 128 ≤ r) : plainR r = true := by
  have e92 : (r == 92) = false := by rw [beq_eq_false_iff_ne]; omega
  have e34 : (r == 34) = false := by rw [beq_eq_false_iff_ne]; omega
  have e127 : (r == 127) = false := by rw [beq_eq_false_iff_ne]; omega
  have e32 : decide ((32 : Int) ≤ r) = true := by simp; omega
  unfold plainR
  rw [e92, e34, e127, e32]
  rfl
/-- What bare answers. -/
def barV (o : Option (List UInt8 × List UInt8)) : Value := match o with
  | none => .tuple #[.string ⟨#[]⟩, .string ⟨#[]⟩, .bool false]
  | some (p, r) => .tuple #[.string ⟨p.toArray⟩, .string ⟨r.toArray⟩, .bool true]
set_option maxRecDepth 20000 in
set_option maxHeartbeats 4000000 in
theorem bare_any (s : ByteArray) (w : World) (hs : s.size ≤ 100000000) :
    Calls Tryd.prog 20 #[.string s] w fun e w' => e = .returned (barV (bar s.data.toList)) ∧ Below w.heap.size w w' := by
  have Hs := Hid.mk hs
  have hclow := contains_low
  have hchi := contains_high
  have hpl := isPlain_any
  clear hs
  go_enter Tryd.func20, Tryd.ntmps20
  go_wp2
  go_step3
  go_wp2
  go_step3
  go_wp2
  go_loopw [5] (fun ev wr => ∃ pos : Nat, ev = .int .i64 (s.size : Int) ∧ wr.heap[w.heap.size]? = some (.stringIter s pos) ∧ pos ≤ s.size ∧ Below w.heap.size w wr ∧ ∀ x ∈ s.data.toList.take pos, okB x) (fun _ wr => s.size - wr.iterPos w.heap.size)
  case atStart => exact ⟨0, rfl, heap_alloc_new w _, Nat.zero_le _, (Below.refl _ _).alloc (Nat.le_refl _) _, fun x hx => by simp at hx⟩
  case round =>
    obtain ⟨pos, rfl, hit, hpS, hbel, hok⟩ := hrel
    have hsplit : s.data.toList.take pos ++ s.data.toList.drop pos = s.data.toList := List.take_append_drop _ _
    have e1 := ext_from s pos
    have e2 := ext_to s pos
    have hlen := len_size s
    by_cases hp : pos < s.size
    · have hnx : ∀ ty, (Instr.next (.pointer (some ⟨w.heap.size, 0, none⟩)) true ty).run Tryd.prog wr = _ := fun ty => Lib.run_next_any_at wr w.heap.size s pos ty hit hp
      have hi0 : wr.iterPos w.heap.size = pos := iterPos_of hit
      by_cases h8 : (s.get! pos).toNat < 128
      · rw [rune_low s pos hp h8] at hnx
        have hi1 := Lib.iterAt_heap wr w.heap.size s pos (pos + 1) hit
        have hb1 : Below w.heap.size w (wr.iterAt w.heap.size s (pos + 1)) := Lib.below_iterAt hbel (Nat.le_refl _) s (pos + 1)
        have hip : (wr.iterAt w.heap.size s (pos + 1)).iterPos w.heap.size = pos + 1 := iterPos_of hi1
        have hd1 := drop_one s hp
        have hgb := getb s hp
        have hc1 := hclow (s.get! pos) h8
        have hp1 := hpl ((s.get! pos).toNat : Int)
        have htk := take_next hgb
        have HI := Hid.mk (And.intro hi1 (And.intro hb1 (And.intro hip (And.intro hi0 (And.intro hok (And.intro hsplit (And.intro hd1 htk)))))))
        clear hi1 hb1 hip hd1 hbel hit hi0 hok hsplit hgb htk hclow hchi hpl h8
        generalize wr.iterAt w.heap.size s (pos + 1) = wi at *
        generalize hx : s.get! pos = x at *
        rw [show plainR (x.toNat : Int) = plainB x from rfl] at hp1
        have lp : (pos : Int) ≤ (s.size : Int) := by omega
        have lp0 : (0 : Int) ≤ (pos : Int) := by omega
        cases hb : blank x with
        | true =>
          rw [hb] at hc1
          have hfin : bar s.data.toList = some (s.data.toList.take pos, s.data.toList.drop pos) := by
            have h9 := bar_at (p := s.data.toList.take pos) (r := s.data.toList.drop pos) HI.out.2.2.2.2.1 (by rw [HI.out.2.2.2.2.2.2.1]; exact hb)
            rw [HI.out.2.2.2.2.2.1] at h9
            exact h9
          have HF := Hid.mk (And.intro hfin HI.out.2.1)
          clear hfin HI hp1 hlen
          go_wp2_with fail
          refine (hc1 _).mono ?_
          rintro e w2 ⟨rfl, hw⟩
          subst hw
          go_wp2
          go_region
          go_wp2
          rw [Exit.noGoto_ret]
          go_ret3
          exact ⟨by rw [HF.out.1]; rfl, below_drew HF.out.2⟩
        | false =>
          rw [hb] at hc1
          cases hpb : plainB x with
          | false =>
            rw [hpb] at hp1
            have hfin : bar s.data.toList = none := by
              have h9 := bar_no (p := s.data.toList.take pos) (t := s.data.toList.drop (pos + 1)) HI.out.2.2.2.2.1 hb hpb
              rw [← HI.out.2.2.2.2.2.2.1, HI.out.2.2.2.2.2.1] at h9
              exact h9
            have HF := Hid.mk (And.intro hfin HI.out.2.1)
            clear hfin HI hlen
            go_wp2_with fail
            refine (hc1 _).mono ?_
            rintro e w2 ⟨rfl, hw⟩
            subst hw
            go_wp2_with fail
            refine (hp1 _).mono ?_
            rintro e w3 ⟨rfl, hw⟩
            subst hw
            go_wp2
            rw [Exit.noGoto_ret]
            go_ret3
            exact ⟨by rw [HF.out.1]; rfl, HF.out.2⟩
          | true =>
            rw [hpb] at hp1
            have hok' : ∀ y ∈ s.data.toList.take (pos + 1), okB y := fun y hy => by
              rw [HI.out.2.2.2.2.2.2.2, List.mem_append] at hy
              rcases hy with hy | hy
              · exact HI.out.2.2.2.2.1 y hy
              · rw [List.mem_singleton.1 hy]
                exact ⟨hb, hpb⟩
            have HO := Hid.mk hok'
            clear hok' hlen
            go_wp2_with fail
            refine (hc1 _).mono ?_
            rintro e w2 ⟨rfl, hw⟩
            subst hw
            go_wp2_with fail
            refine (hp1 _).mono ?_
            rintro e w3 ⟨rfl, hw⟩
            subst hw
            go_wp2
            go_roundw
            case rel => exact ⟨pos + 1, rfl, HI.out.1, by omega, HI.out.2.1, HO.out⟩
            case measure =>
              have h1 := HI.out.2.2.1
              have h2 := HI.out.2.2.2.1
              rw [h1, h2]
              omega
      · obtain ⟨hr1, hr2, hr3, hr4, hr5⟩ := rune_high s pos hp (by omega)
        have hi1 := Lib.iterAt_heap wr w.heap.size s pos (pos + (Utf8.decode s pos).2) hit
        generalize Utf8.decode s pos = D at *
        obtain ⟨r, d⟩ := D
        simp only at hr1 hr2 hr3 hr4 hr5 hi1
        have hb1 : Below w.heap.size w (wr.iterAt w.heap.size s (pos + d)) := Lib.below_iterAt hbel (Nat.le_refl _) s (pos + d)
        have hph := part_high s hr4 hr5
        have htk : s.data.toList.take (pos + d) = s.data.toList.take pos ++ (s.data.toList.drop pos).take d := List.take_add
        have hok' : ∀ y ∈ s.data.toList.take (pos + d), okB y := fun y hy => by
          rw [htk, List.mem_append] at hy
          rcases hy with hy | hy
          · exact hok y hy
          · exact high_ok (hph y hy)
        have hc1 := hchi (r : Int)
        have hp1 := hpl (r : Int)
        rw [high_plain (by omega)] at hp1
        have HI := Hid.mk (And.intro hi1 (And.intro hb1 (And.intro hi0 hok')))
        clear hi1 hb1 hbel hit hi0 hok hsplit hr5 hclow hchi hpl hph htk hok' hlen
        generalize wr.iterAt w.heap.size s (pos + d) = wi at *
        have hz := HI.out.2.1.size
        go_wp2_with fail
        refine (hc1 _ (by omega) (by omega)).mono ?_
        rintro e w2 ⟨rfl, hb2⟩
        have hit2 : w2.heap[w.heap.size]? = some (.stringIter s (pos + d)) := by
          rw [hb2.block _ (Array.getElem?_eq_some_iff.1 HI.out.1).1]
          exact HI.out.1
        have hip2 : w2.iterPos w.heap.size = pos + d := iterPos_of hit2
        have HJ := Hid.mk (And.intro hit2 (And.intro (HI.out.2.1.trans (hb2.mono hz)) hip2))
        clear hb2 hit2 hip2
        go_wp2_with fail
        refine (hp1 _).mono ?_
        rintro e w3 ⟨rfl, hw⟩
        subst hw
        go_wp2
        go_roundw
        case rel => exact ⟨pos + d, rfl, HJ.out.1, hr4, HJ.out.2.1, HI.out.2.2.2⟩
        case measure =>
          have h1 := HJ.out.2.2
          have h2 := HI.out.2.2.1
          rw [h1, h2]
          omega
    · have hnx : ∀ ty, (Instr.next (.pointer (some ⟨w.heap.size, 0, none⟩)) true ty).run Tryd.prog wr = _ := fun ty => Lib.run_next_end_at wr w.heap.size s pos ty hit hp
      have hpe : pos = s.size := by omega
      subst hpe
      have hdn : s.data.toList.drop s.size = [] := List.drop_eq_nil_of_le (by omega)
      have hfin : bar s.data.toList = some (s.data.toList.take s.size, []) := by
        have h9 := bar_at (p := s.data.toList.take s.size) (r := s.data.toList.drop s.size) hok (by rw [hdn]; rfl)
        rw [hsplit, hdn] at h9
        exact h9
      have HE := Hid.mk (And.intro hfin hbel)
      have lp : (s.size : Int) ≤ (s.size : Int) := by omega
      have lp0 : (0 : Int) ≤ (s.size : Int) := by omega
      clear hfin hbel hok hsplit hdn hlen
      go_wp2
      go_region
      go_wp2
      rw [Exit.noGoto_ret]
      go_ret3
      exact ⟨by rw [HE.out.1]; rfl, below_drew HE.out.2⟩
end Go.Proofs.YtalokopnagpgcaaDoor
