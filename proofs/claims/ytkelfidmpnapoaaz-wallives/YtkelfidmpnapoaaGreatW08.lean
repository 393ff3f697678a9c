import Derived.Test.YtkelfidmpnapoaaGreatW07
section
namespace Go.Proofs.YtkelfidmpnapoaaGreat
open Go.RowKit

set_option maxRecDepth 20000 in
set_option maxHeartbeats 4000000 in
theorem seal_no1 (a : Option Addr) (n c : Nat) (a2 : Option Addr) (m c2 : Nat) (w : World) (hn : n ≠ 512) :
    Calls Tryz.prog 39 #[.slice a n c, .slice a2 m c2] w fun e w' => e = .returned (.tuple #[.slice none 0 0, .int .i64 2]) ∧ Below w.heap.size w w' := by
  have hz := zeroSec
  have hs := sectorOf_no a n c w hn
  have hinfo := infoSecZ
  have hone := zsec_one
  generalize zsec = Z at *
  have hall : Z.all Value.oneCell' = true := all_oneCell_toArray hone
  clear hone
  go_enter Tryz.func39, Tryz.ntmps39
  go_wp2_with fail
  refine hs.mono ?_
  rintro e w1 ⟨rfl, hb1⟩
  have hw1 : (w1.alloc (.cells Z 103)).heap[w1.heap.size]? = some (.cells Z 103 (0, 0)) := heap_alloc_new _ _
  have hth : (w1.alloc (.cells Z 103)).there w1.heap.size 0 Z.toList.length := there_of hw1 (by simp)
  have hB1 : Below w.heap.size w (w1.alloc (.cells Z 103)) := hb1.alloc hb1.size _
  have hsz := hb1.size
  have hB6 := Hid.mk (hB1.trans ((Keeps.setCells (F := fun j => j = w1.heap.size) rfl Z.toList 0 _).below (fun j hj => by omega) hB1.size))
  clear hs hw1 hB1 hb1
  go_wp2_with (refine wpList_store_mid rfl 103 _ _ rfl w1.heap.size 0 Z rfl rfl ?h1 ?h2 hall ?_)
  case h1 => simpa using hth
  case h2 => simpa using hinfo
  go_ret2
  exact ⟨rfl, hB6.out⟩

set_option maxRecDepth 20000 in
set_option maxHeartbeats 4000000 in
theorem seal_no2 (b o c : Nat) (old : List Int) (a2 : Option Addr) (m c2 : Nat) (w : World) (hs : Src w (some ⟨b, o, none⟩) 512 old) (hm : 504 < m) :
    Calls Tryz.prog 39 #[.slice (some ⟨b, o, none⟩) 512 c, .slice a2 m c2] w fun e w' => e = .returned (.tuple #[.slice none 0 0, .int .i64 7]) ∧ Below w.heap.size w w' := by
  have hz := zeroSec
  have hm' : 504 < (m : Int) := by omega
  have hs1 := sectorOf_ok b o c old w hs
  have hinfo := infoSecL (l := old) hs.1
  have hone := bs_one old
  have hll : (bs old).length = 512 := by rw [bs, List.length_map, hs.1]
  generalize bs old = F at *
  have hall := all_oneCell_toArray hone
  clear hone hs
  go_enter Tryz.func39, Tryz.ntmps39
  go_wp2_with fail
  refine hs1.mono ?_
  rintro e w1 ⟨rfl, hb1⟩
  have hw1 : (w1.alloc (.cells zsec 103)).heap[w1.heap.size]? = some (.cells zsec 103 (0, 0)) := heap_alloc_new _ _
  have hth := there_of hw1 zsec_size
  rw [← hll] at hth
  have hB1 : Below w.heap.size w (w1.alloc (.cells zsec 103)) := hb1.alloc hb1.size _
  have hsz := hb1.size
  have hB6 := Hid.mk (hB1.trans ((Keeps.setCells (F := fun j => j = w1.heap.size) rfl F 0 _).below (fun j hj => by omega) hB1.size))
  clear hs1 hw1 hB1 hb1
  go_wp2_with (refine wpList_store_mid rfl 103 _ _ rfl w1.heap.size 0 F.toArray rfl rfl ?h1 ?h2 hall ?_)
  case h1 => simpa using hth
  case h2 => simpa using hinfo
  go_ret2
  exact ⟨rfl, hB6.out⟩

set_option maxRecDepth 20000 in
set_option maxHeartbeats 4000000 in
theorem seal_ok (b o c : Nat) (old : List Int) (a2 : Option Addr) (m c2 : Nat) (body : List Int) (w : World) (hs : Src w (some ⟨b, o, none⟩) 512 old) (hs2 : Src w a2 m body) (hm : m ≤ 504) (hb : Bytes body) :
    Calls Tryz.prog 39 #[.slice (some ⟨b, o, none⟩) 512 c, .slice a2 m c2] w fun e w' => ∃ g, e = .returned (.tuple #[.slice (some ⟨g, 0, none⟩) 512 512, .int .i64 0]) ∧ Blk w' 103 g (sform (turnOf (old.getD 0 0) (old.getD 511 0)) body) ∧ w.heap.size ≤ g ∧ Below w.heap.size w w' := by
  have hz := zeroSec
  have hm' : ¬ 504 < (m : Int) := by omega
  have hs1 := sectorOf_ok b o c old w hs
  have hinfo := infoSecL (l := old) hs.1
  have hone := bs_one old
  have hll : (bs old).length = 512 := by rw [bs, List.length_map, hs.1]
  have holdl := hs.1
  have hall := all_oneCell_toArray hone
  have H2 := Hid.mk hs2
  have hlb := hs2.1
  have ht := turnOf_le (old.getD 0 0) (old.getD 511 0)
  obtain ⟨t, hteq⟩ : ∃ t, t = turnOf (old.getD 0 0) (old.getD 511 0) := ⟨_, rfl⟩
  rw [← hteq] at ht
  obtain ⟨F, hF⟩ : ∃ F, F = bs old := ⟨_, rfl⟩
  rw [← hF] at hs1 hinfo hone hll hall
  clear hone hs hs2
  go_enter Tryz.func39, Tryz.ntmps39
  go_wp2_with fail
  refine hs1.mono ?_
  rintro e w1 ⟨rfl, hb1⟩
  have hw1 : (w1.alloc (.cells zsec 103)).heap[w1.heap.size]? = some (.cells zsec 103 (0, 0)) := heap_alloc_new _ _
  have hth := there_of hw1 zsec_size
  rw [← hll] at hth
  have hB1 : Below w.heap.size w (w1.alloc (.cells zsec 103)) := hb1.alloc hb1.size _
  have hsz := hb1.size
  have hB2 := hB1.trans ((Keeps.setCells (F := fun j => j = w1.heap.size) rfl F 0 _).below (fun j hj => by omega) hB1.size)
  have hblk := blk_stored (l := old) hw1 (by rw [zsec_size, holdl])
  rw [← hF] at hblk
  have hnt := nextTurn_any w1.heap.size 0 (old.getD 0 0) (old.getD 511 0) _ (hblk.cell (by omega)) (hblk.cell (i := 511) (by omega))
  rw [← hteq] at hnt
  have hsd := sealed_any t a2 m c2 body _ (by omega) (H2.out.later hB2) hm hb
  obtain ⟨w2, hw2⟩ : ∃ w2, w2 = (w1.alloc (.cells zsec 103)).setCells w1.heap.size 0 F := ⟨_, rfl⟩
  rw [← hw2] at hnt hsd hB2
  have HB2 := Hid.mk hB2
  have Hteq := Hid.mk hteq
  clear hs1 hw1 hB1 hb1 hblk hB2 hteq hF H2
  go_wp2_with (refine wpList_store_mid rfl 103 _ _ rfl w1.heap.size 0 F.toArray rfl rfl ?h1 ?h2 hall ?_)
  case h1 => simpa using hth
  case h2 => simpa using hinfo
  rw [← hw2]
  refine hnt.mono ?_
  rintro e w' ⟨rfl, hw⟩
  have hw' := hw.symm
  subst hw'
  clear hw hnt hth hw2 hall hinfo
  have hfl : (sform t body).length = 512 := sform_len (by omega)
  have hinfo := infoSecL (l := sform t body) hfl
  have hall := all_oneCell_toArray (bs_one (sform t body))
  have hll2 : (bs (sform t body)).length = 512 := by rw [bs, List.length_map, hfl]
  obtain ⟨G, hG⟩ : ∃ G, G = bs (sform t body) := ⟨_, rfl⟩
  rw [← hG] at hsd hinfo hall hll2
  have HG := Hid.mk hG
  clear hG
  go_wp2_with fail
  refine hsd.mono ?_
  rintro e w3 ⟨rfl, hb3⟩
  have hB3 : Below w.heap.size w w3 := HB2.out.trans (hb3.mono HB2.out.size)
  have hw3 : (w3.alloc (.cells zsec 103)).heap[w3.heap.size]? = some (.cells zsec 103 (0, 0)) := heap_alloc_new _ _
  have hth := there_of hw3 zsec_size
  rw [← hll2] at hth
  have hblk := blk_stored (l := sform t body) hw3 (by rw [zsec_size, hfl])
  rw [← HG.out] at hblk
  have hsz3 := hB3.size
  have hB4 : Below w.heap.size w (w3.alloc (.cells zsec 103)) := hB3.alloc hB3.size _
  have hB5 := hB4.trans ((Keeps.setCells (F := fun j => j = w3.heap.size) rfl G 0 _).below (fun j hj => by omega) hB4.size)
  rw [Hteq.out] at hblk
  have HH := Hid.mk (And.intro hblk (And.intro hB3.size hB5))
  clear hsd hB3 hw3 hblk hB4 hB5 hb3 HB2
  go_wp2_with (refine wpList_store_mid rfl 103 _ _ rfl w3.heap.size 0 G.toArray rfl rfl ?h1 ?h2 hall ?_)
  case h1 => simpa using hth
  case h2 => simpa using hinfo
  go_ret2
  exact ⟨w3.heap.size, rfl, HH.out⟩
end Go.Proofs.YtkelfidmpnapoaaGreat
end

section
namespace Go.Proofs.YtkelfidmpnapoaaGreat
open Go.RowKit

/-- One byte appended to a list of one's own. -/
theorem wpList_app1 {ops : Array Oper} {rest : List Oper} {o : Oper} {a : Act} {Q : Exit → Act → World → Prop} {w : World} (hgd : o.guard = none) (s x : Operand)
    (hop : o.op = Op.call { callee := Callee.builtin Builtin.append, args := #[s, x], argTypes := #[29, 29] })
    (B : Nat) (v : Value) (l : List Int) (y : Int) (hs : a.eval s = v) (hx : a.eval x = .slice (some ⟨w.heap.size, 0, none⟩) 1 1) (hown : Own w B v l) (hlen : l.length ≤ 140737488355327) (hB : B ≤ w.heap.size)
    (hK : ∀ v' w', Own w' B v' (l ++ [y]) → Below B w w' → wpList Tryz.prog ops Q rest (a.put o.dst v') w') :
    wpList Tryz.prog ops Q (o :: rest) a (w.alloc (.cells #[.int .u8 y] 5)) := by
  obtain ⟨i0, hi, hz0, hz1, hz2⟩ := info_parts infoU8
  have ho : w.ownsRow B 5 1 v l.length (bs l) := hown
  refine wpList_append_own _ hgd s x 29 hop B 5 i0 (.int .u8 0) 1 1 Tryz.underlying29 hi hz0 hz1 hz2 rfl (by decide) v l.length (bs l) hs (ho.alloc _) ⟨w.heap.size, 0, none⟩ 1 1 [.int .u8 y] hx rfl (cell_one_new _ _ _) (by intro u hu; simp at hu; subst hu; rfl) (by unfold maxLen; omega) (by omega) (by simp; omega) ?_
  intro v' w1 hown' hgrow' _
  refine hK v' w1 ?_ (((Below.refl _ w).alloc hB _).grown hgrow' (by simp; omega) (fun q e => (ho.lt q e).1))
  rw [bs_snoc] at hown'
  exact own_of hown' (by simp) rfl
/-- How long a slice is. -/
def lenV : Value → Nat
  | .slice _ n _ => n
  | _ => 0
theorem Own.row' {w : World} {B : Nat} {v : Value} {l : List Int} (h : Own w B v l) (h0 : 0 < l.length) : ∃ g c, v = .slice (some ⟨g, 0, none⟩) l.length c ∧ B ≤ g ∧ RowAt w 5 g c (bs l) := by
  obtain ⟨a, c, rfl, _, _, _⟩ := h.src
  obtain ⟨g, rfl, _, hg, hr⟩ := h.row h0
  exact ⟨g, c, rfl, hg, hr⟩
theorem RowAt.get {w : World} {e : TypeId} {g c : Nat} {l : List Int} (h : RowAt w e g c (bs l)) {i : Nat} (hi : i < l.length) : w.cell? ⟨g, i, none⟩ = some (.int .u8 (l.getD i 0)) := by
  have := h.byte hi
  rwa [addr_add, Nat.zero_add] at this
end Go.Proofs.YtkelfidmpnapoaaGreat
end

section
namespace Go.Proofs.YtkelfidmpnapoaaGreat
open Go.RowKit

theorem append_assoc3 (a b : List Int) (x : Int) : a ++ b ++ [x] = a ++ (b ++ [x]) := List.append_assoc _ _ _
theorem zs_snoc (k : Nat) : zs k ++ [0] = zs (k + 1) := by rw [zs_add]; rfl
theorem getD_app {a b : List Int} {i : Nat} (h : a.length ≤ i) : (a ++ b).getD i 0 = b.getD (i - a.length) 0 := by
  simp only [List.getD, List.getElem?_append_right h]

end Go.Proofs.YtkelfidmpnapoaaGreat
end

section
namespace Go.Proofs.YtkelfidmpnapoaaGreat
open Go.RowKit

theorem turn_least {a b : Int} : ∀ k : Nat, k < turnOf a b → (k : Int) = a ∨ (k : Int) = b := by
  intro k hk
  unfold turnOf at hk
  split at hk
  · omega
  · split at hk
    · next h1 h2 => omega
    · next h1 h2 => omega

end Go.Proofs.YtkelfidmpnapoaaGreat
end

section
namespace Go.Proofs.YtkelfidmpnapoaaGreat
open Go.RowKit

theorem src_spot {w : World} {a : Option Addr} {n : Nat} {l : List Int} (h : Src w a n l) (hn : 0 < n) : ∃ b o, a = some ⟨b, o, none⟩ := by
  cases a with
  | none => have := h.2.1 rfl; omega
  | some x =>
    obtain ⟨b, o, rfl, _⟩ := h.spot hn
    exact ⟨b, o, rfl⟩

theorem seal_any (a : Option Addr) (n c : Nat) (old : List Int) (a2 : Option Addr) (m c2 : Nat) (body : List Int) (w : World) (hs : Src w a n old) (hs2 : Src w a2 m body) (hb : Bytes body) :
    Calls Tryz.prog 39 #[.slice a n c, .slice a2 m c2] w fun e w' => ∃ v, e = .returned (.tuple #[v, .int .i64 (((sseal old body).2 : Nat) : Int)]) ∧ Lst w' w.heap.size v (sseal old body).1 ∧ Below w.heap.size w w' := by
  have h1 := hs.1
  have h2 := hs2.1
  by_cases hn : n = 512
  · subst hn
    obtain ⟨b, o, rfl⟩ := src_spot hs (by omega)
    by_cases hm : 504 < m
    · refine (seal_no2 b o c old a2 m c2 w hs hm).mono ?_
      rintro e w' ⟨rfl, hbel⟩
      have e : sseal old body = ([], 7) := by unfold sseal; rw [if_neg (by omega), if_pos (by omega)]
      rw [e]
      exact ⟨_, rfl, Lst.nil _ _, hbel⟩
    · refine (seal_ok b o c old a2 m c2 body w hs hs2 (by omega) hb).mono ?_
      rintro e w' ⟨g, rfl, hblk, hg, hbel⟩
      have e : sseal old body = (sform (turnOf (old.getD 0 0) (old.getD 511 0)) body, 0) := by unfold sseal; rw [if_neg (by omega), if_neg (by omega)]
      rw [e]
      have hl : (sform (turnOf (old.getD 0 0) (old.getD 511 0)) body).length = 512 := sform_len (by omega)
      have := hblk.lst hg
      rw [hl] at this
      exact ⟨_, rfl, this, hbel⟩
  · refine (seal_no1 a n c a2 m c2 w hn).mono ?_
    rintro e w' ⟨rfl, hbel⟩
    have e : sseal old body = ([], 2) := by unfold sseal; rw [if_pos (by omega)]
    rw [e]
    exact ⟨_, rfl, Lst.nil _ _, hbel⟩
end Go.Proofs.YtkelfidmpnapoaaGreat
end

section
namespace Go.Proofs.YtkelfidmpnapoaaGreat
open Go.RowKit

end Go.Proofs.YtkelfidmpnapoaaGreat
end

section
namespace Go.Proofs.YtkelfidmpnapoaaGreat
open Go.RowKit

theorem sopens_no1 {s : List Int} (h : s.length ≠ 512) : sopens s = ([], 2) := by unfold sopens; rw [if_pos h]
theorem sopens_none {s : List Int} (h : s.length = 512) (h2 : sopen s = none) : sopens s = ([], 30) := by unfold sopens; rw [if_neg (by omega), h2]
theorem sopens_some {s b : List Int} (h : s.length = 512) (h2 : sopen s = some b) : sopens s = (b, 0) := by unfold sopens; rw [if_neg (by omega), h2]
theorem sopen_yes {s : List Int} (h1 : slen s ≤ 504) (h2 : s.getD 0 0 ≤ 2) (h3 : sform (s.getD 0 0) (sbody s) = s) : sopen s = some (sbody s) := by unfold sopen; rw [if_pos ⟨h1, h2, h3⟩]
theorem sopen_no {s : List Int} (h : ¬ (slen s ≤ 504 ∧ s.getD 0 0 ≤ 2 ∧ sform (s.getD 0 0) (sbody s) = s)) : sopen s = none := by unfold sopen; rw [if_neg h]
theorem slen_eq {s : List Int} (h : Bytes s) : ((slen s : Nat) : Int) = s.getD 1 0 + 256 * s.getD 2 0 := by
  have h1 := h.getD 1
  have h2 := h.getD 2
  unfold slen
  omega

end Go.Proofs.YtkelfidmpnapoaaGreat
end

section
namespace Go.Proofs.YtkelfidmpnapoaaGreat
open Go.RowKit

theorem le2 {a b : Int} (ha : 0 ≤ a) (hb : 0 ≤ b) : ((le [a, b] : Nat) : Int) = a + 256 * b := by
  simp only [le]
  omega
theorem take2 {s : List Int} (h : s.length = 512) : (s.drop 1).take 2 = [s.getD 1 0, s.getD 2 0] := by
  match s, h with
  | a :: b :: c :: r, _ => rfl
theorem src_part {w : World} {b o n : Nat} {l : List Int} (h : Src w (some ⟨b, o, none⟩) n l) {i m : Nat} (hm : i + m ≤ n) : Src w (some ⟨b, o + i, none⟩) m ((l.drop i).take m) :=
  ⟨by have := h.1; simp; omega, (fun e => by cases e), fun x hx j hj => by
    cases hx
    have := h.2.2 _ rfl (i + j) (by omega)
    rw [addr_add] at this ⊢
    rw [Nat.add_assoc, this]
    simp [List.getD, hj]⟩

set_option maxRecDepth 20000 in
set_option maxHeartbeats 4000000 in
theorem open_no (g o : Nat) (s : List Int) (w : World) (hs : Src w (some ⟨g, o, none⟩) 512 s) (hb : Bytes s) (hbad : 504 < slen s ∨ 2 < s.getD 0 0) :
    Calls Tryz.prog 93 #[.pointer (some ⟨g, o, none⟩)] w fun e w' => e = .returned (.tuple #[.slice none 0 0, .bool false]) ∧ w' = w := by
  have h1 := cut_any g o 1 3 w (by omega) (by omega)
  have hp := src_part hs (i := 1) (m := 2) (by omega)
  have h2 := taken_any g (o + 1) 2 2 ((s.drop 1).take 2) w ((hb.drop _).take _) hp.1 (by omega) (fun i hi => by have := hp.2.2 _ rfl i hi; rwa [addr_add] at this)
  have hle := slen_eq hb
  have g1 := hb.getD 1
  have g2 := hb.getD 2
  rw [take2 hs.1, le2 g1.1 g2.1, ← hle] at h2
  have c0 := hs.2.2 _ rfl 0 (by omega)
  rw [addr_add, Nat.add_zero] at c0
  have g0 := hb.getD 0
  have h00 := g0.1
  have h01 := g0.2
  generalize s.getD 0 0 = x at *
  generalize slen s = N at *
  clear hs hp hle g0 g1 g2
  go_enter Tryz.func93, Tryz.ntmps93
  go_wp2_with fail
  refine h1.mono ?_
  rintro e w' ⟨rfl, hw⟩
  have hw' := hw.symm
  subst hw'
  clear hw h1
  go_wp2_with fail
  refine h2.mono ?_
  rintro e w' ⟨rfl, hw⟩
  have hw' := hw.symm
  subst hw'
  clear hw h2
  by_cases hx : 2 < x
  · have hx' : 3 ≤ x := by omega
    go_wp2
    go_ret2
    exact ⟨rfl, rfl⟩
  · have hx' : ¬ 3 ≤ x := by omega
    have hN : 504 < (N : Int) := by omega
    go_wp2
    go_ret2
    exact ⟨rfl, rfl⟩

theorem quiet_load_mid {P : Program} {C : World → Prop} {a : Act} {op : Oper} {K : Act → Prop} (ty : TypeId) (x : Operand) (ho : op.op = .load ty x)
    (b o : Nat) (hx : a.eval x = .pointer (some ⟨b, o, none⟩)) (cs : List Value) (d : TypeDesc) (hc : ∀ w, C w → w.rangeAt b o cs)
    (hu : P.underlying ty = some d) (hd : d.isRow = true) (hi : (P.info? ty).map (·.size) = some cs.length) (hk : K (a.put op.dst (.agg cs.toArray))) : op.quiet P a C K :=
  ⟨_, fun w hw => by
    unfold Oper.quietAt execOp
    simp only [ho, hx, Instr.loadAt, Instr.sureAddr, Sem.run_bind, Sem.run_pure, Result.andThen_ok, run_loadVar_mid w b o ty cs d (hc w hw) hu hd hi]
    exact ⟨rfl, rfl⟩, hk⟩
theorem quiet_eq_sec {C : World → Prop} {a : Act} {op : Oper} {K : Act → Prop} (x y : Operand) (T : TypeId) (ho : op.op = .binOp .eql 103 x y T)
    (l m : List Int) (hx : a.eval x = .agg (bs l).toArray) (hy : a.eval y = .agg (bs m).toArray) (hl : l.length = 512) (hm : m.length = 512) (hk : K (a.put op.dst (.bool (decide (l = m))))) : op.quiet Tryz.prog a C K :=
  ⟨_, fun w _ => by
    unfold Oper.quietAt execOp
    simp only [ho, hx, hy]
    have := eqop_sec l m hl hm w x y
    rw [Sem.run_bind, this]
    exact ⟨rfl, rfl⟩, hk⟩

set_option maxRecDepth 20000 in
set_option maxHeartbeats 4000000 in
theorem open_yes (g o : Nat) (s : List Int) (w : World) (hs : Src w (some ⟨g, o, none⟩) 512 s) (hb : Bytes s) (hN : slen s ≤ 504) (hx : s.getD 0 0 ≤ 2) :
    Calls Tryz.prog 93 #[.pointer (some ⟨g, o, none⟩)] w fun e w' => ∃ k, e = .returned (.tuple #[.slice (some ⟨g, k, none⟩) (slen s) (slen s), .bool (decide (sform (s.getD 0 0) (sbody s) = s))]) ∧ (0 < slen s → k = o + 7) ∧ Below w.heap.size w w' := by
  have h1 := cut_any g o 1 3 w (by omega) (by omega)
  have hp := src_part hs (i := 1) (m := 2) (by omega)
  have h2 := taken_any g (o + 1) 2 2 ((s.drop 1).take 2) w ((hb.drop _).take _) hp.1 (by omega) (fun i hi => by have := hp.2.2 _ rfl i hi; rwa [addr_add] at this)
  have hle := slen_eq hb
  have g1 := hb.getD 1
  have g2 := hb.getD 2
  rw [take2 hs.1, le2 g1.1 g2.1, ← hle] at h2
  have c0 := hs.2.2 _ rfl 0 (by omega)
  rw [addr_add, Nat.add_zero] at c0
  have g0 := hb.getD 0
  have hbody : ∃ k, Src w (some ⟨g, k, none⟩) (slen s) (sbody s) ∧ (0 < slen s → k = o + 7) ∧ Calls Tryz.prog 75 #[.pointer (some ⟨g, o, none⟩), .int .i64 7, .int .i64 (7 + (slen s : Int))] w fun e w' => e = .returned (.slice (some ⟨g, k, none⟩) (slen s) (slen s)) ∧ w' = w := by
    by_cases h0 : slen s = 0
    · have hcn := cut_none g o 7 w (by omega)
      refine ⟨o, ⟨by rw [sbody_len hN hs.1], (fun e => by cases e), fun x hx i hi => by omega⟩, fun h => by omega, ?_⟩
      rw [h0]
      exact hcn
    · have hc := cut_any g o 7 (7 + slen s) w (by omega) (by omega)
      refine ⟨o + 7, src_part hs (i := 7) (m := slen s) (by omega), fun _ => rfl, ?_⟩
      have e1 : 7 + slen s - 7 = slen s := by omega
      rw [e1] at hc
      have e2 : ((7 + slen s : Nat) : Int) = 7 + (slen s : Int) := by omega
      rw [e2] at hc
      exact hc
  obtain ⟨k, hk, hkk, hc⟩ := hbody
  obtain ⟨t, ht⟩ : ∃ t : Nat, s.getD 0 0 = (t : Int) := ⟨(s.getD 0 0).toNat, by omega⟩
  have hbl := sbody_len hN hs.1
  have hbb : Bytes (sbody s) := (hb.drop _).take _
  rw [ht] at c0 hx ⊢
  have p1 : Hid (∀ q : Later w, Calls Tryz.prog 60 #[.int .u8 (t : Int), .slice (some ⟨g, k, none⟩) (slen s) (slen s)] q.to fun e w' => e = .returned (.agg (bs (sform t (sbody s))).toArray) ∧ Below q.to.heap.size q.to w') :=
    fun q => sealed_any t (some ⟨g, k, none⟩) (slen s) (slen s) (sbody s) q.to (by omega) (hk.later q.h) hN hbb
  have hinfo := infoSecL (l := s) hs.1
  have hfl : (sform t (sbody s)).length = 512 := sform_len (by rw [hbl]; exact hN)
  have hra : ∀ w', (∃ q : Later w, w' = q.to) → w'.rangeAt g o (bs s) := fun w' ⟨q, e⟩ => by rw [e]; exact src_range (hs.later q.h)
  have hsl := hs.1
  have c0q : ∀ q : Later w, q.to.cell? ⟨g, o, none⟩ = some (.int .u8 (t : Int)) := fun q => cell_later q.h c0
  have hNN : ¬ 504 < ((slen s : Nat) : Int) := by omega
  have Hkk := Hid.mk hkk
  have Hra := Hid.mk hra
  have Hfl := Hid.mk hfl
  have Hsl := Hid.mk hsl
  have Hinfo := Hid.mk hinfo
  clear hs hp hle g0 g1 g2 hk hkk hbl hbb hfl hinfo hra hsl
  obtain ⟨R, hR⟩ : ∃ R, R = sform t (sbody s) := ⟨_, rfl⟩
  rw [← hR] at p1 Hfl ⊢
  clear hR
  generalize slen s = N at *
  have hx3 : ¬ 3 ≤ (t : Int) := by omega
  go_enter Tryz.func93, Tryz.ntmps93
  go_wp2_with fail
  refine h1.mono ?_
  rintro e w' ⟨rfl, hw⟩
  have hw' := hw.symm
  subst hw'
  clear hw h1
  go_wp2_with fail
  refine h2.mono ?_
  rintro e w' ⟨rfl, hw⟩
  have hw' := hw.symm
  subst hw'
  clear hw h2
  go_wp2_with fail
  refine hc.mono ?_
  rintro e w' ⟨rfl, hw⟩
  have hw' := hw.symm
  subst hw'
  clear hw hc
  go_wp2_with fail
  have hne := Later.some w
  refine wp_region_later (by kernel_rfl) (by kernel_rfl) ?_
  repeat (first | go_big_quiet_skip | (go_big_quiet_want; go_big_quiet_op; first | go_big_quiet_on | (apply Exists.intro; refine ⟨fun q => ?_, ?_⟩; exact Calls.later_of (p1.out q); go_big_quiet_on)))
  go_big_quiet_want
  refine quiet_load_mid 103 _ rfl g o rfl (bs s) _ Hra.out Tryz.underlying103 rfl Hinfo.out ?_
  simp only [Act.put, List.setIfInBounds_toArray, List.set_cons_succ, List.set_cons_zero]
  go_big_quiet_on
  go_big_quiet_want
  refine quiet_eq_sec _ _ _ rfl R s rfl rfl Hfl.out Hsl.out ?_
  simp only [Act.put, List.setIfInBounds_toArray, List.set_cons_succ, List.set_cons_zero]
  go_big_quiet_on
  repeat (go_big_quiet_want; go_big_quiet_op; go_big_quiet_on)
  refine wpQuiet_nil ?_
  rintro _ ⟨q, rfl⟩
  go_wp2
  go_ret2
  exact ⟨k, rfl, Hkk.out, q.h⟩
end Go.Proofs.YtkelfidmpnapoaaGreat
end

section
namespace Go.Proofs.YtkelfidmpnapoaaGreat
open Go.RowKit

set_option maxRecDepth 20000 in
set_option maxHeartbeats 4000000 in
theorem sopen_no1 (a : Option Addr) (n c : Nat) (w : World) (hn : n ≠ 512) :
    Calls Tryz.prog 77 #[.slice a n c] w fun e w' => e = .returned (.tuple #[.slice none 0 0, .int .i64 2]) ∧ Below w.heap.size w w' := by
  have hz := zeroSec
  have hs := sectorOf_no a n c w hn
  have hinfo := infoSecZ
  have hone := zsec_one
  generalize zsec = Z at *
  have hall : Z.all Value.oneCell' = true := all_oneCell_toArray hone
  clear hone
  go_enter Tryz.func77, Tryz.ntmps77
  go_wp2_with fail
  refine hs.mono ?_
  rintro e w1 ⟨rfl, hb1⟩
  have hw1 : (w1.alloc (.cells Z 103)).heap[w1.heap.size]? = some (.cells Z 103 (0, 0)) := heap_alloc_new _ _
  have hth : (w1.alloc (.cells Z 103)).there w1.heap.size 0 Z.toList.length := there_of hw1 (by simp)
  have hB1 : Below w.heap.size w (w1.alloc (.cells Z 103)) := hb1.alloc hb1.size _
  have hsz := hb1.size
  have hB6 := Hid.mk (hB1.trans ((Keeps.setCells (F := fun j => j = w1.heap.size) rfl Z.toList 0 _).below (fun j hj => by omega) hB1.size))
  clear hs hw1 hB1 hb1
  go_wp2_with (refine wpList_store_mid rfl 103 _ _ rfl w1.heap.size 0 Z rfl rfl ?h1 ?h2 hall ?_)
  case h1 => simpa using hth
  case h2 => simpa using hinfo
  go_ret2
  exact ⟨rfl, hB6.out⟩

set_option maxRecDepth 20000 in
set_option maxHeartbeats 4000000 in
theorem sopen_all (b o c : Nat) (s : List Int) (w : World) (hs : Src w (some ⟨b, o, none⟩) 512 s) (hbs : Bytes s) :
    Calls Tryz.prog 77 #[.slice (some ⟨b, o, none⟩) 512 c] w fun e w' => ∃ v, e = .returned (.tuple #[v, .int .i64 (((sopens s).2 : Nat) : Int)]) ∧ Lst w' w.heap.size v (sopens s).1 ∧ Below w.heap.size w w' := by
  have hz := zeroSec
  have hs1 := sectorOf_ok b o c s w hs
  have hinfo := infoSecL (l := s) hs.1
  have hone := bs_one s
  have hll : (bs s).length = 512 := by rw [bs, List.length_map, hs.1]
  have hsl := hs.1
  have hall := all_oneCell_toArray hone
  obtain ⟨F, hF⟩ : ∃ F, F = bs s := ⟨_, rfl⟩
  rw [← hF] at hs1 hinfo hone hll hall
  have HF := Hid.mk hF
  clear hone hs hF
  go_enter Tryz.func77, Tryz.ntmps77
  go_wp2_with fail
  refine hs1.mono ?_
  rintro e w1 ⟨rfl, hb1⟩
  have hw1 : (w1.alloc (.cells zsec 103)).heap[w1.heap.size]? = some (.cells zsec 103 (0, 0)) := heap_alloc_new _ _
  have hth := there_of hw1 zsec_size
  rw [← hll] at hth
  have hB1 : Below w.heap.size w (w1.alloc (.cells zsec 103)) := hb1.alloc hb1.size _
  have hsz := hb1.size
  have hB2 := hB1.trans ((Keeps.setCells (F := fun j => j = w1.heap.size) rfl F 0 _).below (fun j hj => by omega) hB1.size)
  have hblk := blk_stored (l := s) hw1 (by rw [zsec_size, hsl])
  rw [← HF.out] at hblk
  obtain ⟨w2, hw2⟩ : ∃ w2, w2 = (w1.alloc (.cells zsec 103)).setCells w1.heap.size 0 F := ⟨_, rfl⟩
  rw [← hw2] at hblk hB2
  have hsrc : Src w2 (some ⟨w1.heap.size, 0, none⟩) 512 s := by
    have := hblk.src (o := 0) (n := 512) (by omega)
    rwa [List.drop_zero, List.take_of_length_le (by omega)] at this
  have HB2 := Hid.mk hB2
  have Hsrc := Hid.mk hsrc
  clear hs1 hw1 hB1 hb1 hblk hB2 hsrc
  go_wp2_with (refine wpList_store_mid rfl 103 _ _ rfl w1.heap.size 0 F.toArray rfl rfl ?h1 ?h2 hall ?_)
  case h1 => simpa using hth
  case h2 => simpa using hinfo
  rw [← hw2]
  clear hw2 hth hinfo hall
  by_cases hbad : 504 < slen s ∨ 2 < s.getD 0 0
  · have hno : sopens s = ([], 30) := sopens_none hsl (sopen_no (fun h => by omega))
    have Hno := Hid.mk hno
    refine (open_no w1.heap.size 0 s w2 Hsrc.out hbs hbad).mono ?_
    rintro e w' ⟨rfl, hw⟩
    have hw' := hw.symm
    subst hw'
    clear hw hno hbad
    go_wp2
    go_ret2
    exact ⟨_, by rw [Hno.out]; rfl, by rw [Hno.out]; exact Lst.nil _ _, HB2.out⟩
  · refine (open_yes w1.heap.size 0 s w2 Hsrc.out hbs (by omega) (by omega)).mono ?_
    rintro e w3 ⟨k, rfl, hk, hb3⟩
    have hB3 := HB2.out.trans (hb3.mono HB2.out.size)
    have hsb : Src w3 (some ⟨w1.heap.size, k, none⟩) (slen s) (sbody s) := by
      by_cases h0 : slen s = 0
      · exact ⟨sbody_len (by omega) hsl, (fun e => by cases e), fun x hx i hi => by omega⟩
      · rw [hk (by omega)]
        exact src_part (Hsrc.out.later hb3) (i := 7) (m := slen s) (by omega)
    have HB3 := Hid.mk hB3
    have hbl := sbody_len (s := s) (by omega) hsl
    have hlst : Lst w3 w.heap.size (.slice (some ⟨w1.heap.size, k, none⟩) (slen s) (slen s)) (sbody s) := ⟨some ⟨w1.heap.size, k, none⟩, slen s, by rw [hbl], by rw [hbl]; exact hsb, by omega, fun x hx => by cases hx; exact hsz⟩
    have Hlst := Hid.mk hlst
    clear hB3 hsb hlst hk hb3 hbl
    by_cases heq : sform (s.getD 0 0) (sbody s) = s
    · have hy : sopens s = (sbody s, 0) := sopens_some hsl (sopen_yes (by omega) (by omega) heq)
      have Hy := Hid.mk hy
      rw [decide_eq_true heq]
      clear heq hy
      go_wp2
      go_ret2
      exact ⟨_, by rw [Hy.out]; rfl, by rw [Hy.out]; exact Hlst.out, HB3.out⟩
    · have hy : sopens s = ([], 30) := sopens_none hsl (sopen_no (fun h => heq h.2.2))
      have Hy := Hid.mk hy
      rw [decide_eq_false heq]
      clear heq hy
      go_wp2
      go_ret2
      exact ⟨_, by rw [Hy.out]; rfl, by rw [Hy.out]; exact Lst.nil _ _, HB3.out⟩

theorem sopen_any (a : Option Addr) (n c : Nat) (s : List Int) (w : World) (hs : Src w a n s) (hb : Bytes s) :
    Calls Tryz.prog 77 #[.slice a n c] w fun e w' => ∃ v, e = .returned (.tuple #[v, .int .i64 (((sopens s).2 : Nat) : Int)]) ∧ Lst w' w.heap.size v (sopens s).1 ∧ Below w.heap.size w w' := by
  by_cases hn : n = 512
  · subst hn
    obtain ⟨b, o, rfl⟩ := src_spot hs (by omega)
    exact sopen_all b o c s w hs hb
  · refine (sopen_no1 a n c w hn).mono ?_
    rintro e w' ⟨rfl, hbel⟩
    rw [sopens_no1 (by rw [hs.1]; exact hn)]
    exact ⟨_, rfl, Lst.nil _ _, hbel⟩
theorem sopens_len (s : List Int) : (sopens s).1.length ≤ 512 := by
  unfold sopens
  split
  · simp
  · next h =>
    have hl : s.length = 512 := by omega
    cases h2 : sopen s with
    | none => simp
    | some b => have := sopen_len h2 hl; simp only; omega
theorem sseal_ok {old body : List Int} (h1 : old.length = 512) (h2 : body.length ≤ 504) : sseal old body = (sform (turnOf (old.getD 0 0) (old.getD 511 0)) body, 0) := by
  unfold sseal; rw [if_neg (by omega), if_neg (by omega)]
theorem Own.full {w : World} {B : Nat} {v : Value} {l : List Int} (h : Own w B v l) (h0 : 0 < l.length) : ∃ g c, v = .slice (some ⟨g, 0, none⟩) l.length c ∧ B ≤ g ∧ RowAt w 5 g c (bs l) := h.row' h0
theorem RowAt.setByte {w : World} {g c : Nat} {l : List Int} (h : RowAt w 5 g c (bs l)) (i : Nat) (x : Int) : RowAt (w.setCell ⟨g, i, none⟩ (.int .u8 x)) 5 g c (bs (l.set i x)) := by
  obtain ⟨cur, hb, hc, ht, hm⟩ := h
  refine ⟨cur.setIfInBounds i (.int .u8 x), heap_setCell_same _ _ _ _ _ _ hb, by simpa using hc, ?_, hm⟩
  have e : (bs (l.set i x)).length = (bs l).length := by simp [bs]
  rw [e, Array.toList_setIfInBounds, List.take_set, ht, bs, bs, List.map_set]
theorem RowAt.spare {w : World} {e : TypeId} {g c : Nat} {l : List Int} (h : RowAt w e g c (bs l)) : l.length ≤ c := by have := h.le; simpa [bs] using this

theorem setByte_bytes {l : List Int} (h : Bytes l) (i : Nat) (x : Int) (hx : 0 ≤ x ∧ x < 256) : Bytes (l.set i x) := by
  intro y hy
  rcases List.mem_or_eq_of_mem_set hy with h1 | h1
  · exact h y h1
  · subst h1; exact hx

end Go.Proofs.YtkelfidmpnapoaaGreat
end

section
namespace Go.Proofs.YtkelfidmpnapoaaGreat
open Go.RowKit

/-- What sectorOf makes of a list. -/
def secOf (l : List Int) : List Int := if l.length = 512 then l else zs 512
theorem secOf_len (l : List Int) : (secOf l).length = 512 := by unfold secOf; split; assumption; exact zs_len 512
theorem secOf_self {l : List Int} (h : l.length = 512) : secOf l = l := by unfold secOf; rw [if_pos h]
theorem sectorOf_any (a : Option Addr) (n c : Nat) (l : List Int) (w : World) (hs : Src w a n l) :
    Calls Tryz.prog 59 #[.slice a n c] w fun e w' => e = .returned (.tuple #[.agg (bs (secOf l)).toArray, .bool (decide (n = 512))]) ∧ Below w.heap.size w w' := by
  by_cases hn : n = 512
  · subst hn
    cases a with
    | none => have := hs.2.1 rfl; omega
    | some x =>
      obtain ⟨b, o, rfl, _⟩ := hs.spot (by omega)
      rw [secOf_self hs.1]
      exact sectorOf_ok b o c l w hs
  · have e : secOf l = zs 512 := by unfold secOf; rw [if_neg (by rw [hs.1]; exact hn)]
    rw [e, decide_eq_false hn]
    exact sectorOf_no a n c w hn

def zpair : Array Value := (bs (zs 1024)).toArray
theorem infoPair : (Tryz.prog.info? 117).map (fun i => (i.zero, i.size)) = some (some (.agg zpair), 1024) := by kernel_rfl
theorem zeroPair (w : World) : (zeroValue 117).run Tryz.prog w = .ok (.agg zpair) w := by
  obtain ⟨i, hi, he⟩ := Option.map_eq_some_iff.1 infoPair
  simp only [Prod.mk.injEq] at he
  simp [zeroValue, typeInfo, hi, he.1]
theorem sizePair : (Tryz.prog.info? 117).map (·.size) = some 1024 := by
  obtain ⟨i, hi, he⟩ := Option.map_eq_some_iff.1 infoPair
  simp only [Prod.mk.injEq] at he
  rw [hi, ← he.2]; rfl
theorem zpair_size : zpair.size = 1024 := by unfold zpair; simp only [List.size_toArray, bs, List.length_map, zs_len]

theorem foldl_put : ∀ (vs : List Value) (k off : Nat) (cells : Array Value), off + k + vs.length ≤ cells.size →
    ((vs.zipIdx k).foldl (fun cs (x : Value × Nat) => cs.setIfInBounds (off + x.2) x.1) cells).toList = cells.toList.take (off + k) ++ vs ++ cells.toList.drop (off + k + vs.length)
  | [], k, off, cells, h => by simp
  | v :: r, k, off, cells, h => by
    have h1 : off + k < cells.toList.length := by simp at h ⊢; omega
    rw [List.zipIdx_cons, List.foldl_cons, foldl_put r (k + 1) off _ (by simp at h ⊢; omega)]
    simp only [Array.toList_setIfInBounds]
    rw [show off + (k + 1) = off + k + 1 by omega, List.take_set, List.drop_set]
    rw [if_pos (by omega), List.take_succ_eq_append_getElem h1, List.set_append_right _ _ (by simp; omega)]
    have : (off + k) - (cells.toList.take (off + k)).length = 0 := by simp; omega
    rw [this, List.set_cons_zero]
    simp only [List.length_cons, List.append_assoc, List.cons_append, List.nil_append]
    congr 4
    omega
theorem fold_cells (F cells : Array Value) (off : Nat) (h : off + F.size ≤ cells.size) :
    (F.zipIdx.foldl (fun cs (x : Value × Nat) => cs.setIfInBounds (off + x.2) x.1) cells).toList = cells.toList.take off ++ F.toList ++ cells.toList.drop (off + F.size) := by
  rw [← Array.foldl_toList, Array.toList_zipIdx]
  have := foldl_put F.toList 0 off cells (by simpa using h)
  simpa using this
theorem build_pair (F G : Array Value) (hF : F.size = 512) (hG : G.size = 512) (w : World) :
    (Instr.build 117 #[(0, .agg F), (1, .agg G)]).run Tryz.prog w = .ok (.agg (F ++ G)) w := by
  obtain ⟨i, hi, he⟩ := Option.map_eq_some_iff.1 sizeSec
  have hz := zpair_size
  have e1 := fold_cells F zpair (0 * 512) (by omega)
  have s1 : (F.zipIdx.foldl (fun cs (x : Value × Nat) => cs.setIfInBounds (0 * 512 + x.2) x.1) zpair).size = 1024 := by
    rw [← Array.length_toList, e1]; simp; omega
  have e2 := fold_cells G (F.zipIdx.foldl (fun cs (x : Value × Nat) => cs.setIfInBounds (0 * 512 + x.2) x.1) zpair) (1 * 512) (by omega)
  have key : Instr.fill (fun i => some (i * 512, 512)) zpair [(0, .agg F), (1, .agg G)] = some (F ++ G) := by
    have c1 : (Value.agg F).cells = F := rfl
    have c2 : (Value.agg G).cells = G := rfl
    simp only [Instr.fill, c1, c2, hF, hG, hz]
    rw [if_neg (by simp), if_neg (by simp only [ne_eq, not_true, decide_false, Bool.false_or, decide_eq_true_eq]; omega)]
    refine congrArg some ?_
    apply Array.ext'
    rw [e2, e1]
    have hFl : F.toList.length = 512 := by simpa using hF
    have hGl : G.toList.length = 512 := by simpa using hG
    have hzl : zpair.toList.length = 1024 := by simpa using hz
    simp only [Nat.zero_mul, List.take_zero, List.nil_append, Nat.zero_add, Nat.one_mul, hF, hG]
    rw [List.take_left' hFl, List.drop_eq_nil_of_le (by simp; omega)]
    simp
  have c3 : (Value.agg zpair).cells = zpair := rfl
  simp only [Instr.build, Sem.run_bind, zeroPair, Result.andThen_ok, run_underlying Tryz.underlying117, c3]
  have hsz : (sizeOf 103).run Tryz.prog w = .ok 512 w := by simp [sizeOf, typeInfo, hi, he]
  rw [hsz, Result.andThen_ok, key]
  rfl
end Go.Proofs.YtkelfidmpnapoaaGreat
end
