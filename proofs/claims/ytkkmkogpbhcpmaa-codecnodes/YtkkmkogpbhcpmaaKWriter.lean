import Derived.Test.YtkkmkogpbhcpmaaKZero
import Derived.Test.YtkkmkogpbhcpmaaKSum
import Derived.OwnWalk
import Derived.Deep.RegionLaw
namespace Go.Proofs.Ytkkmkogpbhcpmaa
open Go.RowKit

/-- The bytes of a number, the lowest first. -/
def leb : Nat → Nat → List Int
  | 0, _ => []
  | k + 1, m => ((m % 256 : Nat) : Int) :: leb k (m / 256)
theorem leb_len : ∀ k m, (leb k m).length = k
  | 0, _ => rfl
  | k + 1, m => by simp [leb, leb_len k]
theorem leb_snoc : ∀ k m, leb (k + 1) m = leb k m ++ [((m / 256 ^ k % 256 : Nat) : Int)]
  | 0, m => by simp [leb]
  | k + 1, m => by
    rw [leb, leb_snoc k (m / 256), leb]
    simp [Nat.div_div_eq_div_mul, Nat.pow_succ, Nat.mul_comm]
theorem leb_bytes : ∀ k m, Bytes (leb k m)
  | 0, _ => by intro x hx; cases hx
  | k + 1, m => by
    intro x hx
    rcases List.mem_cons.1 hx with rfl | hx
    · omega
    · exact leb_bytes k _ x hx

/-- A writer at p that holds the bytes l; it, and its bytes, lie at B or above. -/
def WAt (w : World) (B p : Nat) (l : List Int) : Prop :=
  B ≤ p ∧ B ≤ w.heap.size ∧ ∃ v, w.heap[p]? = some (.cells #[v] 125 (0, 0)) ∧ w.ownsRow B 5 1 v l.length (bs l) ∧ v.ownBlock ≠ some p

theorem WAt.lt {w : World} {B p : Nat} {l : List Int} (h : WAt w B p l) : p < w.heap.size := by
  obtain ⟨_, _, v, hp, _⟩ := h
  exact (Array.getElem?_eq_some_iff.1 hp).1

theorem RowAt.ne {w : World} {e e' : TypeId} {g c q : Nat} {xs : List Value} {cur : Array Value} {fz : Nat × Nat} (h : RowAt w e g c xs) (hq : w.heap[q]? = some (.cells cur e' fz)) (he : e' ≠ e) : g ≠ q := by
  intro e1
  obtain ⟨cur', hb, _⟩ := h
  rw [e1, hq] at hb
  simp at hb
  exact he hb.2.1
/-- What is appended is stored back. -/
theorem WAt.put {w w1 : World} {B p : Nat} {l' : List Int} {v : Value} {g c : Nat} (hB : B ≤ p) (hz : B ≤ w.heap.size) (hp : w.heap[p]? = some (.cells #[v] 125 (0, 0))) (hn : v.ownBlock ≠ some p) (hlt : ∀ k, v.ownBlock = some k → B ≤ k)
    (hgrow : w.grownBy w1 v.ownBlock) (hown : w1.ownsRow B 5 1 (.slice (some ⟨g, 0, none⟩) l'.length c) l'.length (bs l')) :
    w1.cell? ⟨p, 0, none⟩ = some v ∧ w1.frozen? ⟨p, 0, none⟩ = false ∧ WAt (w1.setCell ⟨p, 0, none⟩ (.slice (some ⟨g, 0, none⟩) l'.length c)) B p l' ∧ Below B w (w1.setCell ⟨p, 0, none⟩ (.slice (some ⟨g, 0, none⟩) l'.length c)) := by
  have hpl : p < w.heap.size := (Array.getElem?_eq_some_iff.1 hp).1
  have hp1 : w1.heap[p]? = some (.cells #[v] 125 (0, 0)) := (hgrow.block p hpl (fun e => hn e.symm)).trans hp
  have hg : g ≠ p := by
    obtain ⟨g', c', hv, _, hr, _⟩ := RowAt.of_owns hown (by simp)
    cases hv
    exact hr.ne hp1 (by decide)
  have hb1 : Below B w w1 := (Below.refl _ w).grown hgrow hz (fun k e => hlt k e)
  refine ⟨cell_of_block hp1 rfl, frozen_of_block hp1 0, ⟨hB, ?_, _, heap_setCell_same _ _ _ _ _ _ hp1, ?_, ?_⟩, ?_⟩
  · simp [World.setCell]; exact Nat.le_trans hz hgrow.size
  · exact hown.kept (grown_setCell w1 ⟨p, 0, none⟩ _) (.inr (by simpa [Value.ownBlock] using hg))
  · simpa [Value.ownBlock] using hg
  · exact hb1.trans ((Keeps.setCell (F := fun j => j = p) (p := ⟨p, 0, none⟩) w1 rfl _).below (fun j hj => by omega) (Nat.le_trans hz hgrow.size))

set_option maxHeartbeats 4000000 in
theorem wnumber_any (p B : Nat) (l : List Int) (m width : Nat) (w : World) (h : WAt w B p l) (hl : l.length + width ≤ 100000) (hm : m ≤ 9223372036854775807) :
    Calls Try.prog 87 #[.pointer (some ⟨p, 0, none⟩), .int .i64 (m : Int), .int .i64 (width : Int)] w fun e w' => e = .returned (.tuple #[]) ∧ WAt w' B p (l ++ leb width m) ∧ Below B w w' := by
  obtain ⟨i0, hi, hz0, hz1, hz2⟩ := info_parts infoU8
  have H := Hid.mk h
  clear h
  go_enter Try.func87, Try.ntmps87
  go_wp2
  go_loopw [1, 7] (fun r i wr => ∃ k : Nat, k ≤ width ∧ i = .int .i64 k ∧ r = .int .i64 ((m / 256 ^ k : Nat) : Int) ∧ WAt wr B p (l ++ leb k m) ∧ Below B w wr) (fun _ i _ => width - (intOf i).toNat)
  case atStart => exact ⟨0, Nat.zero_le _, rfl, by simp, by simpa [leb] using H.out, Below.refl _ _⟩
  case round =>
    obtain ⟨k, hk, rfl, rfl, hat, hbr⟩ := hrel
    by_cases hlt : k < width
    · have hlt' : (k : Int) < (width : Int) := by omega
      obtain ⟨hB, hz, v, hp, hown, hn⟩ := hat
      have hcell := cell_of_block hp (j := 0) rfl
      have hlen : (l ++ leb k m).length = l.length + k := by simp [leb_len]
      rw [hlen] at hown
      have hM : m / 256 ^ k ≤ 9223372036854775807 := Nat.le_trans (Nat.div_le_self _ _) hm
      have e1 : m / 256 ^ (k + 1) = m / 256 ^ k / 256 := by rw [Nat.div_div_eq_div_mul, Nat.pow_succ]
      have e2 := leb_snoc k m
      generalize hQ : m / 256 ^ k = Q at *
      have Hown := Hid.mk hown
      have Hp := Hid.mk hp
      have HB := Hid.mk hbr
      have Hn := Hid.mk hn
      have He1 := Hid.mk e1
      have He2 := Hid.mk e2
      clear hown hp hbr hn hQ e1 e2
      go_wp2_with (at_builtin; refine wpList_append_own _ rfl _ _ 27 rfl B 5 i0 (.int .u8 0) 1 1 Try.underlying27 hi hz0 hz1 hz2 rfl (by decide) _ _ _ rfl (Hown.out.alloc _) ⟨wr.heap.size, 0, none⟩ 1 1 [.int .u8 ((Q : Int) % 256)] rfl rfl ?n1 ?n2 ?n3 ?n4 ?n5 ?_)
      case n1 => exact cell_one_new _ _ _
      case n2 => intro u hu; simp at hu; subst hu; rfl
      case n3 => unfold maxLen; omega
      case n4 => omega
      case n5 => simp; omega
      intro v' w1 hown' hgrow' hnil
      obtain ⟨g, c, rfl, hg, hr, hlr⟩ := RowAt.of_owns hown' hnil
      have eN : List.map (Value.int .u8) l ++ (List.map (Value.int .u8) (leb k m) ++ [.int .u8 ((Q : Int) % 256)]) = bs (l ++ leb (k + 1) m) := by
        rw [He2.out]
        simp [bs]
      have eL : l.length + k + 1 = (l ++ leb (k + 1) m).length := by simp [leb_len]; omega
      rw [eN, eL] at hown'
      have hz' : B ≤ (wr.alloc (.cells #[.int .u8 ((Q : Int) % 256)] 5)).heap.size := by simp; omega
      have hpl : p < wr.heap.size := (Array.getElem?_eq_some_iff.1 Hp.out).1
      obtain ⟨k1, k2, k3, k4⟩ := WAt.put hB hz' ((Below.heap_alloc _ _ _ hpl).trans Hp.out) Hn.out (fun k e => (Hown.out.lt k e).1) hgrow' hown'
      rw [← eL] at k3 k4
      have HK := Hid.mk (And.intro k3 (((HB.out.alloc hz _).trans k4)))
      clear hown' hgrow' hnil hr hg eN eL k3 k4 Hown Hp HB Hn He2
      go_wp2
      go_roundw
      case rel => exact ⟨k + 1, by omega, by go_num, by rw [He1.out]; simp, HK.out⟩
      case measure => simp [intOf]; omega
    · have hlt' : ¬ (k : Int) < (width : Int) := by omega
      have hkw : k = width := by omega
      subst hkw
      have HH := Hid.mk (And.intro hat hbr)
      clear hat hbr
      go_wp2
      go_end0
      exact ⟨rfl, HH.out⟩

/-- A text's bytes. -/
def txt (s : ByteArray) : List Int := s.data.toList.map (fun b => (b.toNat : Int))
theorem txt_len (s : ByteArray) : (txt s).length = s.size := by simp [txt]
theorem txt_cells (s : ByteArray) : Lib.strCells s = bs (txt s) := by simp [Lib.strCells, bs, txt]
theorem txt_bytes (s : ByteArray) : Bytes (txt s) := by
  intro x hx
  obtain ⟨b, _, rfl⟩ := List.mem_map.1 hx
  have := b.toNat_lt
  omega

set_option maxHeartbeats 4000000 in
theorem wtext_any (p B : Nat) (l : List Int) (s : ByteArray) (w : World) (h : WAt w B p l) (hs : 0 < s.size) (hl : l.length + s.size ≤ 100000) :
    Calls Try.prog 101 #[.pointer (some ⟨p, 0, none⟩), .string s] w fun e w' => e = .returned (.tuple #[]) ∧ WAt w' B p (l ++ txt s) ∧ Below B w w' := by
  obtain ⟨i0, hi, hz0, hz1, hz2⟩ := info_parts infoU8
  obtain ⟨hB, hz, v, hp, hown, hn⟩ := h
  have hcell := cell_of_block hp (j := 0) rfl
  have Hown := Hid.mk hown
  have Hp := Hid.mk hp
  have Hn := Hid.mk hn
  clear hown hp hn
  go_enter Try.func101, Try.ntmps101
  go_wp2_with (at_builtin; refine Lib.wpList_append_own_string _ rfl _ _ 27 9 rfl B 5 i0 Try.underlying27 Try.underlying9 hi hz0 hz1 hz2 _ _ _ rfl Hown.out s rfl ?n3 ?n4 ?n5 ?_)
  case n3 => unfold maxLen; omega
  case n4 => omega
  case n5 => exact hz
  intro v' w1 hown' hgrow' hnil
  have hv : v' ≠ .slice none 0 0 := by rintro rfl; rcases hown'.2 with ⟨_, h⟩ | ⟨_, _, _, h, _⟩; omega; cases h
  obtain ⟨g, c, rfl, hg, hr, hlr⟩ := RowAt.of_owns hown' hv
  rw [txt_cells] at hown'
  have eN : bs l ++ bs (txt s) = bs (l ++ txt s) := by simp [bs]
  have eL : l.length + s.size = (l ++ txt s).length := by simp [txt_len]
  rw [eN, eL] at hown'
  obtain ⟨k1, k2, k3, k4⟩ := WAt.put hB hz Hp.out Hn.out (fun k e => (Hown.out.lt k e).1) hgrow' hown'
  rw [← eL] at k3 k4
  have HK := Hid.mk (And.intro k3 k4)
  clear hown' hgrow' hnil hr hg eN eL k3 k4 Hown Hp Hn hv hlr
  go_wp2
  go_end0
  exact ⟨rfl, HK.out⟩

/-- append(b, make([]byte, n)...) as a step of a region that draws. -/
theorem step_zeros {ops : Array Oper} {o : Oper} {a : Act} {w : World} {K : Act → World → Prop} {Q : Exit → Act → World → Prop} {E : Prop}
    (hg : o.guard = none) (s x : Operand) (hop : o.op = Op.call { callee := Callee.builtin Builtin.append, args := #[s, x], argTypes := #[27, 3] })
    (base : Nat) (v : Value) (n : Nat) (l : List Int) (m : Nat) (hs : a.eval s = v) (hx : a.eval x = .int .i64 (m : Int)) (hown : w.ownsRow base 5 1 v n (bs l)) (hm : n + m ≤ 1000000) (hbase : base ≤ w.heap.size) (hpos : 0 < n + m)
    (hK : ∀ g c w', w'.ownsRow base 5 1 (.slice (some ⟨g, 0, none⟩) (n + m) c) (n + m) (bs (l ++ List.replicate m 0)) → w.grownBy w' v.ownBlock → K (a.put o.dst (.slice (some ⟨g, 0, none⟩) (n + m) c)) w') :
    if Region.wanted o (yielded ops a.tmps) = true then Oper.wp Try.prog o a w K Q else E := by
  have hw : Region.wanted o (yielded ops a.tmps) = true := by simp [Region.wanted, hg]
  rw [if_pos hw]
  obtain ⟨g, c, w', hrun, r1, r2⟩ := append_zeros w base o.type v n l m hown hm hbase hpos
  unfold Oper.wp
  simp [execOp, hop, resolve, invoke, builtin, hs, hx, hrun, Result.andThen]
  exact hK g c w' r1 r2

set_option maxHeartbeats 4000000 in
theorem wzeros_any (p B : Nat) (l : List Int) (m : Nat) (w : World) (h : WAt w B p l) (hl0 : 0 < l.length) (hl : l.length + m ≤ 100000) :
    Calls Try.prog 88 #[.pointer (some ⟨p, 0, none⟩), .int .i64 ((l.length + m : Nat) : Int)] w fun e w' => e = .returned (.tuple #[]) ∧ WAt w' B p (l ++ List.replicate m 0) ∧ Below B w w' := by
  obtain ⟨hB, hz, v, hp, hown, hn⟩ := h
  obtain ⟨g, c, hv, hgB, hr, _⟩ := RowAt.of_owns hown (by rintro rfl; rcases hown.2 with ⟨_, h⟩ | ⟨_, _, _, h, _⟩; omega; cases h)
  subst hv
  have hcell := cell_of_block hp (j := 0) rfl
  have hdr : w.drew.ownsRow B 5 1 (.slice (some ⟨g, 0, none⟩) l.length c) l.length (bs l) := hown
  have Hown := Hid.mk hdr
  have Hp := Hid.mk hp
  have Hn := Hid.mk hn
  have hlt := Hid.mk (fun k e => (hown.lt k e).1)
  have esub : ((l.length + m : Nat) : Int) - (l.length : Int) = (m : Int) := by omega
  have keyz : ∀ {g2 c2 : Nat} {w2 : World}, w2.ownsRow B 5 1 (.slice (some ⟨g2, 0, none⟩) (l.length + m) c2) (l.length + m) (bs (l ++ List.replicate m 0)) → w.drew.grownBy w2 (Value.ownBlock (.slice (some ⟨g, 0, none⟩) l.length c)) →
      w2.cell? ⟨p, 0, none⟩ = some (.slice (some ⟨g, 0, none⟩) l.length c) ∧ w2.frozen? ⟨p, 0, none⟩ = false ∧ Hid (WAt (w2.setCell ⟨p, 0, none⟩ (.slice (some ⟨g2, 0, none⟩) (l.length + m) c2)) B p (l ++ List.replicate m 0) ∧ Below B w (w2.setCell ⟨p, 0, none⟩ (.slice (some ⟨g2, 0, none⟩) (l.length + m) c2))) := by
    intro g2 c2 w2 hown2 hgrow2
    have eL : l.length + m = (l ++ List.replicate m (0 : Int)).length := by simp
    rw [eL] at hown2
    obtain ⟨k1, k2, k3, k4⟩ := WAt.put (w := w.drew) hB hz hp hn (fun k e => (hown.lt k e).1) hgrow2 hown2
    rw [← eL] at k3 k4
    exact ⟨k1, k2, k3, ⟨k4.os, k4.tape, k4.output, k4.size, k4.block⟩⟩
  have hwm : IntKind.i64.wrap (m : Int) = (m : Int) := by rw [IntKind.wrap_i64]; omega
  generalize hN : l.length + m = N at *
  clear hown hp hn hr hdr
  go_enter Try.func88, Try.ntmps88
  go_wp2
  go_region_law
    (first
      | (refine step_zeros (by rfl) _ _ (by rfl) B (.slice (some ⟨g, 0, none⟩) l.length c) l.length l m (by rfl) (by rfl) Hown.out (by omega) hz (by omega) ?_; intro g2 c2 w2 hown2 hgrow2; obtain ⟨k1, k2, k3⟩ := keyz (hN ▸ hown2) hgrow2))
  all_goals
    go_end0
    exact ⟨rfl, k3.out⟩
end Go.Proofs.Ytkkmkogpbhcpmaa
