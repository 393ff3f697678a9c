import Derived.Test.YtllkjmbcjlbmbaaGreatW07
section
namespace Go.Proofs.YtllkjmbcjlbmbaaGreat
open Go.RowKit

/-- v is a slice that reads as l; its memory, if any, lies at B or above. -/
def Lst (w : World) (B : Nat) (v : Value) (l : List Int) : Prop := ∃ a c, v = .slice a l.length c ∧ Src w a l.length l ∧ l.length ≤ c ∧ ∀ x, a = some x → B ≤ x.block
theorem Lst.nil (w : World) (B : Nat) : Lst w B (.slice none 0 0) [] := ⟨none, 0, rfl, ⟨rfl, fun _ => rfl, fun x hx => by cases hx⟩, Nat.le_refl _, fun x hx => by cases hx⟩
theorem Lst.later {w w' : World} {B : Nat} {v : Value} {l : List Int} (h : Lst w B v l) (hb : Below w.heap.size w w') : Lst w' B v l := by
  obtain ⟨a, c, rfl, hs, hc, hx⟩ := h
  exact ⟨a, c, rfl, hs.later hb, hc, hx⟩
theorem Own.lst {w : World} {B : Nat} {v : Value} {l : List Int} (h : Own w B v l) : Lst w B v l := by
  obtain ⟨a, c, rfl, hs, hc, hx⟩ := h.src
  exact ⟨a, c, rfl, hs, hc, fun x e => (hx x e).1⟩
theorem Blk.lst {w : World} {T : TypeId} {g B : Nat} {l : List Int} (h : Blk w T g l) (hg : B ≤ g) : Lst w B (.slice (some ⟨g, 0, none⟩) l.length l.length) l := by
  refine ⟨some ⟨g, 0, none⟩, l.length, rfl, ?_, Nat.le_refl _, fun x hx => by cases hx; exact hg⟩
  have := h.src (o := 0) (n := l.length) (by omega)
  simpa using this

theorem heap_setCells_full {w : World} {T : TypeId} {g : Nat} : ∀ (vs pre : List Value) (cur : Array Value), w.heap[g]? = some (.cells cur T (0, 0)) → (∃ post, cur.toList = pre ++ post ∧ post.length = vs.length) →
    (w.setCells g pre.length vs).heap[g]? = some (.cells (pre ++ vs).toArray T (0, 0)) := by
  intro vs
  induction vs generalizing w with
  | nil =>
    intro pre cur hg ⟨post, he, hl⟩
    have : post = [] := List.eq_nil_of_length_eq_zero hl
    subst this
    simp only [List.append_nil] at he ⊢
    show w.heap[g]? = _
    rw [hg, ← he]
  | cons v r ih =>
    intro pre cur hg ⟨post, he, hl⟩
    cases post with
    | nil => simp at hl
    | cons u post =>
      have h1 := heap_setCell_same w g pre.length cur T v hg
      have e : (cur.setIfInBounds pre.length v).toList = (pre ++ [v]) ++ post := by
        rw [Array.toList_setIfInBounds, he, List.set_append_right _ _ (Nat.le_refl _), Nat.sub_self]
        simp
      have := ih (w := w.setCell ⟨g, pre.length, none⟩ v) (pre ++ [v]) _ h1 ⟨post, e, by simpa using hl⟩
      simp only [World.setCells]
      simpa using this
theorem blk_stored {w : World} {T : TypeId} {g : Nat} {cur : Array Value} {l : List Int} (hg : w.heap[g]? = some (.cells cur T (0, 0))) (hl : cur.size = l.length) : Blk (w.setCells g 0 (bs l)) T g l :=
  heap_setCells_full (bs l) [] cur hg ⟨cur.toList, rfl, by simp [bs, hl]⟩
end Go.Proofs.YtllkjmbcjlbmbaaGreat
end

section
namespace Go.Proofs.YtllkjmbcjlbmbaaGreat
open Go.RowKit

set_option maxRecDepth 20000 in
set_option maxHeartbeats 4000000 in
theorem seal_no1 (a : Option Addr) (n c : Nat) (a2 : Option Addr) (m c2 : Nat) (w : World) (hn : n ≠ 512) :
    Calls Tryz.prog 52 #[.slice a n c, .slice a2 m c2] w fun e w' => e = .returned (.tuple #[.slice none 0 0, .int .i64 2]) ∧ Below w.heap.size w w' := by
  have hz := zeroSec
  have hs := sectorOf_no a n c w hn
  have hinfo := infoSecZ
  have hone := zsec_one
  generalize zsec = Z at *
  have hall : Z.all Value.oneCell' = true := all_oneCell_toArray hone
  clear hone
  go_enter Tryz.func52, Tryz.ntmps52
  go_wp2_with fail
  refine hs.mono ?_
  rintro e w1 ⟨rfl, hb1⟩
  have hw1 : (w1.alloc (.cells Z 119)).heap[w1.heap.size]? = some (.cells Z 119 (0, 0)) := heap_alloc_new _ _
  have hth : (w1.alloc (.cells Z 119)).there w1.heap.size 0 Z.toList.length := there_of hw1 (by simp)
  have hB1 : Below w.heap.size w (w1.alloc (.cells Z 119)) := hb1.alloc hb1.size _
  have hsz := hb1.size
  have hB6 := Hid.mk (hB1.trans ((Keeps.setCells (F := fun j => j = w1.heap.size) rfl Z.toList 0 _).below (fun j hj => by omega) hB1.size))
  clear hs hw1 hB1 hb1
  go_wp2_with (refine wpList_store_mid rfl 119 _ _ rfl w1.heap.size 0 Z rfl rfl ?h1 ?h2 hall ?_)
  case h1 => simpa using hth
  case h2 => simpa using hinfo
  go_ret2
  exact ⟨rfl, hB6.out⟩

set_option maxRecDepth 20000 in
set_option maxHeartbeats 4000000 in
theorem seal_no2 (b o c : Nat) (old : List Int) (a2 : Option Addr) (m c2 : Nat) (w : World) (hs : Src w (some ⟨b, o, none⟩) 512 old) (hm : 504 < m) :
    Calls Tryz.prog 52 #[.slice (some ⟨b, o, none⟩) 512 c, .slice a2 m c2] w fun e w' => e = .returned (.tuple #[.slice none 0 0, .int .i64 7]) ∧ Below w.heap.size w w' := by
  have hz := zeroSec
  have hm' : 504 < (m : Int) := by omega
  have hs1 := sectorOf_ok b o c old w hs
  have hinfo := infoSecL (l := old) hs.1
  have hone := bs_one old
  have hll : (bs old).length = 512 := by rw [bs, List.length_map, hs.1]
  generalize bs old = F at *
  have hall := all_oneCell_toArray hone
  clear hone hs
  go_enter Tryz.func52, Tryz.ntmps52
  go_wp2_with fail
  refine hs1.mono ?_
  rintro e w1 ⟨rfl, hb1⟩
  have hw1 : (w1.alloc (.cells zsec 119)).heap[w1.heap.size]? = some (.cells zsec 119 (0, 0)) := heap_alloc_new _ _
  have hth := there_of hw1 zsec_size
  rw [← hll] at hth
  have hB1 : Below w.heap.size w (w1.alloc (.cells zsec 119)) := hb1.alloc hb1.size _
  have hsz := hb1.size
  have hB6 := Hid.mk (hB1.trans ((Keeps.setCells (F := fun j => j = w1.heap.size) rfl F 0 _).below (fun j hj => by omega) hB1.size))
  clear hs1 hw1 hB1 hb1
  go_wp2_with (refine wpList_store_mid rfl 119 _ _ rfl w1.heap.size 0 F.toArray rfl rfl ?h1 ?h2 hall ?_)
  case h1 => simpa using hth
  case h2 => simpa using hinfo
  go_ret2
  exact ⟨rfl, hB6.out⟩

set_option maxRecDepth 20000 in
set_option maxHeartbeats 4000000 in
theorem seal_ok (b o c : Nat) (old : List Int) (a2 : Option Addr) (m c2 : Nat) (body : List Int) (w : World) (hs : Src w (some ⟨b, o, none⟩) 512 old) (hs2 : Src w a2 m body) (hm : m ≤ 504) (hb : Bytes body) :
    Calls Tryz.prog 52 #[.slice (some ⟨b, o, none⟩) 512 c, .slice a2 m c2] w fun e w' => ∃ g, e = .returned (.tuple #[.slice (some ⟨g, 0, none⟩) 512 512, .int .i64 0]) ∧ Blk w' 119 g (sform (turnOf (old.getD 0 0) (old.getD 511 0)) body) ∧ w.heap.size ≤ g ∧ Below w.heap.size w w' := by
  have hz := zeroSec
  have hm' : ¬ 504 < (m : Int) := by omega
  have hs1 := sectorOf_ok b o c old w hs
  have hinfo := infoSecL (l := old) hs.1
  have hone := bs_one old
  have hll : (bs old).length = 512 := by rw [bs, List.length_map, hs.1]
  have holdl := hs.1
  have hall := all_oneCell_toArray hone
  have H2 := Hid.mk hs2
  have hlb := hs2.1
  have ht := turnOf_le (old.getD 0 0) (old.getD 511 0)
  obtain ⟨t, hteq⟩ : ∃ t, t = turnOf (old.getD 0 0) (old.getD 511 0) := ⟨_, rfl⟩
  rw [← hteq] at ht
  obtain ⟨F, hF⟩ : ∃ F, F = bs old := ⟨_, rfl⟩
  rw [← hF] at hs1 hinfo hone hll hall
  clear hone hs hs2
  go_enter Tryz.func52, Tryz.ntmps52
  go_wp2_with fail
  refine hs1.mono ?_
  rintro e w1 ⟨rfl, hb1⟩
  have hw1 : (w1.alloc (.cells zsec 119)).heap[w1.heap.size]? = some (.cells zsec 119 (0, 0)) := heap_alloc_new _ _
  have hth := there_of hw1 zsec_size
  rw [← hll] at hth
  have hB1 : Below w.heap.size w (w1.alloc (.cells zsec 119)) := hb1.alloc hb1.size _
  have hsz := hb1.size
  have hB2 := hB1.trans ((Keeps.setCells (F := fun j => j = w1.heap.size) rfl F 0 _).below (fun j hj => by omega) hB1.size)
  have hblk := blk_stored (l := old) hw1 (by rw [zsec_size, holdl])
  rw [← hF] at hblk
  have hnt := nextTurn_any w1.heap.size 0 (old.getD 0 0) (old.getD 511 0) _ (hblk.cell (by omega)) (hblk.cell (i := 511) (by omega))
  rw [← hteq] at hnt
  have hsd := sealed_any t a2 m c2 body _ (by omega) (H2.out.later hB2) hm hb
  obtain ⟨w2, hw2⟩ : ∃ w2, w2 = (w1.alloc (.cells zsec 119)).setCells w1.heap.size 0 F := ⟨_, rfl⟩
  rw [← hw2] at hnt hsd hB2
  have HB2 := Hid.mk hB2
  have Hteq := Hid.mk hteq
  clear hs1 hw1 hB1 hb1 hblk hB2 hteq hF H2
  go_wp2_with (refine wpList_store_mid rfl 119 _ _ rfl w1.heap.size 0 F.toArray rfl rfl ?h1 ?h2 hall ?_)
  case h1 => simpa using hth
  case h2 => simpa using hinfo
  rw [← hw2]
  refine hnt.mono ?_
  rintro e w' ⟨rfl, hw⟩
  have hw' := hw.symm
  subst hw'
  clear hw hnt hth hw2 hall hinfo
  have hfl : (sform t body).length = 512 := sform_len (by omega)
  have hinfo := infoSecL (l := sform t body) hfl
  have hall := all_oneCell_toArray (bs_one (sform t body))
  have hll2 : (bs (sform t body)).length = 512 := by rw [bs, List.length_map, hfl]
  obtain ⟨G, hG⟩ : ∃ G, G = bs (sform t body) := ⟨_, rfl⟩
  rw [← hG] at hsd hinfo hall hll2
  have HG := Hid.mk hG
  clear hG
  go_wp2_with fail
  refine hsd.mono ?_
  rintro e w3 ⟨rfl, hb3⟩
  have hB3 : Below w.heap.size w w3 := HB2.out.trans (hb3.mono HB2.out.size)
  have hw3 : (w3.alloc (.cells zsec 119)).heap[w3.heap.size]? = some (.cells zsec 119 (0, 0)) := heap_alloc_new _ _
  have hth := there_of hw3 zsec_size
  rw [← hll2] at hth
  have hblk := blk_stored (l := sform t body) hw3 (by rw [zsec_size, hfl])
  rw [← HG.out] at hblk
  have hsz3 := hB3.size
  have hB4 : Below w.heap.size w (w3.alloc (.cells zsec 119)) := hB3.alloc hB3.size _
  have hB5 := hB4.trans ((Keeps.setCells (F := fun j => j = w3.heap.size) rfl G 0 _).below (fun j hj => by omega) hB4.size)
  rw [Hteq.out] at hblk
  have HH := Hid.mk (And.intro hblk (And.intro hB3.size hB5))
  clear hsd hB3 hw3 hblk hB4 hB5 hb3 HB2
  go_wp2_with (refine wpList_store_mid rfl 119 _ _ rfl w3.heap.size 0 G.toArray rfl rfl ?h1 ?h2 hall ?_)
  case h1 => simpa using hth
  case h2 => simpa using hinfo
  go_ret2
  exact ⟨w3.heap.size, rfl, HH.out⟩
end Go.Proofs.YtllkjmbcjlbmbaaGreat
end

section
namespace Go.Proofs.YtllkjmbcjlbmbaaGreat
open Go.RowKit

/-- One byte appended to a list of one's own. -/
theorem wpList_app1 {ops : Array Oper} {rest : List Oper} {o : Oper} {a : Act} {Q : Exit → Act → World → Prop} {w : World} (hgd : o.guard = none) (s x : Operand)
    (hop : o.op = Op.call { callee := Callee.builtin Builtin.append, args := #[s, x], argTypes := #[35, 35] })
    (B : Nat) (v : Value) (l : List Int) (y : Int) (hs : a.eval s = v) (hx : a.eval x = .slice (some ⟨w.heap.size, 0, none⟩) 1 1) (hown : Own w B v l) (hlen : l.length ≤ 140737488355327) (hB : B ≤ w.heap.size)
    (hK : ∀ v' w', Own w' B v' (l ++ [y]) → Below B w w' → wpList Tryz.prog ops Q rest (a.put o.dst v') w') :
    wpList Tryz.prog ops Q (o :: rest) a (w.alloc (.cells #[.int .u8 y] 5)) := by
  obtain ⟨i0, hi, hz0, hz1, hz2⟩ := info_parts infoU8
  have ho : w.ownsRow B 5 1 v l.length (bs l) := hown
  refine wpList_append_own _ hgd s x 35 hop B 5 i0 (.int .u8 0) 1 1 Tryz.underlying35 hi hz0 hz1 hz2 rfl (by decide) v l.length (bs l) hs (ho.alloc _) ⟨w.heap.size, 0, none⟩ 1 1 [.int .u8 y] hx rfl (cell_one_new _ _ _) (by intro u hu; simp at hu; subst hu; rfl) (by unfold maxLen; omega) (by omega) (by simp; omega) ?_
  intro v' w1 hown' hgrow' _
  refine hK v' w1 ?_ (((Below.refl _ w).alloc hB _).grown hgrow' (by simp; omega) (fun q e => (ho.lt q e).1))
  rw [bs_snoc] at hown'
  exact own_of hown' (by simp) rfl
/-- How long a slice is. -/
def lenV : Value → Nat
  | .slice _ n _ => n
  | _ => 0
theorem Own.row' {w : World} {B : Nat} {v : Value} {l : List Int} (h : Own w B v l) (h0 : 0 < l.length) : ∃ g c, v = .slice (some ⟨g, 0, none⟩) l.length c ∧ B ≤ g ∧ RowAt w 5 g c (bs l) := by
  obtain ⟨a, c, rfl, _, _, _⟩ := h.src
  obtain ⟨g, rfl, _, hg, hr⟩ := h.row h0
  exact ⟨g, c, rfl, hg, hr⟩
theorem RowAt.get {w : World} {e : TypeId} {g c : Nat} {l : List Int} (h : RowAt w e g c (bs l)) {i : Nat} (hi : i < l.length) : w.cell? ⟨g, i, none⟩ = some (.int .u8 (l.getD i 0)) := by
  have := h.byte hi
  rwa [addr_add, Nat.zero_add] at this
end Go.Proofs.YtllkjmbcjlbmbaaGreat
end

section
namespace Go.Proofs.YtllkjmbcjlbmbaaGreat
open Go.RowKit

theorem append_assoc3 (a b : List Int) (x : Int) : a ++ b ++ [x] = a ++ (b ++ [x]) := List.append_assoc _ _ _
theorem zs_snoc (k : Nat) : zs k ++ [0] = zs (k + 1) := by rw [zs_add]; rfl
theorem getD_app {a b : List Int} {i : Nat} (h : a.length ≤ i) : (a ++ b).getD i 0 = b.getD (i - a.length) 0 := by
  simp only [List.getD, List.getElem?_append_right h]

set_option maxRecDepth 20000 in
set_option maxHeartbeats 8000000 in
theorem rform_any (t : Nat) (a : Option Addr) (n c : Nat) (body : List Int) (w : World) (ht : t < 256) (hs : Src w a n body) (hn : n ≤ 504) (hb : Bytes body) :
    Calls Tryz.prog 63 #[.int .i64 (t : Int), .slice a n c] w fun e w' => ∃ v, e = .returned v ∧ Own w' w.heap.size v (sform t body) ∧ Below w.heap.size w w' := by
  have H := Hid.mk hs
  have hlb := hs.1
  have q1 : ((n : Int)).tmod 256 = ((n % 256 : Nat) : Int) := by rw [Int.tmod_eq_emod_of_nonneg (by omega)]; omega
  have q2 : ((n : Int)).tdiv 256 = ((n / 256 : Nat) : Int) := by rw [Int.tdiv_eq_ediv_of_nonneg (by omega)]; omega
  clear hs
  go_enter Tryz.func63, Tryz.ntmps63
  go_wp2_with (at_builtin; refine wpList_app1 rfl _ _ rfl w.heap.size _ [] _ rfl rfl (Own.nil w _) ?b1 ?b2 ?_)
  case b1 => simp
  case b2 => exact Nat.le_refl _
  intro v1 w1 ho1 hb1
  have hz1 := hb1.size
  have Ho1 := Hid.mk ho1
  have HB1 := Hid.mk hb1
  clear ho1 hb1
  go_wp2_with (at_builtin; refine wpList_app1 rfl _ _ rfl w.heap.size v1 _ _ rfl rfl Ho1.out ?b1 ?b2 ?_)
  case b1 => simp
  case b2 => exact hz1
  intro v2 w2 ho2 hb2
  have hB2 := HB1.out.trans (hb2.mono (Nat.le_refl _))
  have ho2' : Own w2 w.heap.size v2 ([((n % 256 : Nat) : Int), ((n / 256 : Nat) : Int)] ++ body.take 0) := ho2
  have Ho2 := Hid.mk ho2'
  have HB2 := Hid.mk hB2
  obtain ⟨hd, hhd⟩ : ∃ hd, hd = [((n % 256 : Nat) : Int), ((n / 256 : Nat) : Int)] := ⟨_, rfl⟩
  have hdl : hd.length = 2 := by rw [hhd]; rfl
  rw [← hhd] at Ho2
  have Hhd := Hid.mk hhd
  clear ho2 ho2' hb2 hB2 hhd Ho1 HB1 hz1 q1 q2
  go_wp2
  go_loopw [5, 6] (fun v i wr => ∃ k : Nat, k ≤ n ∧ i = .int .i64 k ∧ Own wr w.heap.size v (hd ++ body.take k) ∧ Below w.heap.size w wr) (fun _ i _ => n - (intOf i).toNat)
  case atStart => exact ⟨0, Nat.zero_le _, rfl, Ho2.out, HB2.out⟩
  case round =>
    clear Ho2 HB2
    obtain ⟨k, hk, rfl, hown, hbr⟩ := hrel
    have Hown := Hid.mk hown
    have HB := Hid.mk hbr
    have hz := hbr.size
    clear hown hbr
    by_cases hlt : k < n
    · have hlt' : (k : Int) < (n : Int) := by omega
      obtain ⟨x0, rfl⟩ : ∃ x, a = some x := by
        cases a with
        | none => have := H.out.2.1 rfl; omega
        | some x => exact ⟨x, rfl⟩
      obtain ⟨b, o, rfl, hcell⟩ := H.out.spot (by omega)
      have hc := cell_later HB.out (hcell k hlt)
      have eN := take_snoc body k (by omega)
      have HeN := Hid.mk eN
      clear hcell eN
      generalize body.getD k 0 = x at *
      go_wp2_with (at_builtin; refine wpList_app1 rfl _ _ rfl w.heap.size u5 _ x rfl rfl Hown.out ?b1 ?b2 ?_)
      case b1 => simp; omega
      case b2 => exact hz
      intro v' w' ho hb'
      have HO : Hid (Own w' w.heap.size v' (hd ++ body.take (k + 1))) := by rw [← HeN.out]; exact ho
      have HB' := Hid.mk (HB.out.trans (hb'.mono (Nat.le_refl _)))
      clear ho hb' Hown HB HeN
      go_wp2
      go_roundw
      case rel => exact ⟨k + 1, by omega, by go_num, HO.out, HB'.out⟩
      case measure => simp [intOf]; omega
    · have hlt' : ¬ (k : Int) < (n : Int) := by omega
      have e : body.take k = body := List.take_of_length_le (by omega)
      rw [e] at Hown
      clear e
      have Hown2 : Hid (Own wr w.heap.size u5 (hd ++ body ++ zs 0)) := by show Own wr w.heap.size u5 (hd ++ body ++ []); rw [List.append_nil]; exact Hown.out
      obtain ⟨T, hT⟩ : ∃ T, T = hd ++ body := ⟨_, rfl⟩
      have hTl : T.length = 2 + n := by rw [hT]; simp; omega
      rw [← hT] at Hown2
      have HT := Hid.mk hT
      clear hT Hown
      go_wp2
      go_loopw [5] (fun v wr => ∃ k : Nat, k ≤ 504 - n ∧ Own wr w.heap.size v (T ++ zs k) ∧ Below w.heap.size w wr) (fun v _ => 506 - lenV v)
      case atStart => exact ⟨0, Nat.zero_le _, Hown2.out, HB.out⟩
      case round =>
        clear Hown2 HB hz
        obtain ⟨j, hj, hown, hbr⟩ := hrel
        obtain ⟨at', ct', rfl, _, _, _⟩ := hown.src
        have hlen : (T ++ zs j).length = 2 + n + j := by rw [List.length_append, zs_len, hTl]
        rw [hlen] at hown
        have Hown := Hid.mk hown
        have HB := Hid.mk hbr
        have hz := hbr.size
        clear hown hbr
        rw [hlen]
        by_cases hlj : j < 504 - n
        · have hlj' : ((2 + n + j : Nat) : Int) < 506 := by omega
          obtain ⟨N, hN⟩ : ∃ N, N = 2 + n + j := ⟨_, rfl⟩
          rw [← hN] at hlj' hlen Hown ⊢
          have HN := Hid.mk hN
          clear hN
          go_wp2_with (at_builtin; refine wpList_app1 rfl _ _ rfl w.heap.size (.slice at' N ct') _ 0 rfl rfl Hown.out ?b1 ?b2 ?_)
          case b1 => omega
          case b2 => exact hz
          intro v' w' ho hb'
          have HO : Hid (Own w' w.heap.size v' (T ++ zs (j + 1))) := by rw [← zs_snoc, ← append_assoc3]; first | exact ho | (rw [List.append_assoc]; exact ho)
          have HB' := Hid.mk (HB.out.trans (hb'.mono (Nat.le_refl _)))
          clear ho hb' Hown HB
          go_wp2
          go_roundw
          case rel => exact ⟨j + 1, by omega, HO.out, HB'.out⟩
          case measure =>
            obtain ⟨a1, c1, rfl, _, _, _⟩ := HO.out.src
            have : (T ++ zs (j + 1)).length = 2 + n + (j + 1) := by rw [List.length_append, zs_len, hTl]
            have hN := HN.out
            simp only [lenV, this]
            omega
        · obtain rfl : j = 504 - n := by omega
          have e6 : 2 + n + (504 - n) = 506 := by omega
          rw [e6] at Hown hlen ⊢
          have eT : T ++ zs (504 - n) = stext body := by
            rw [HT.out, Hhd.out, ← hlb]
            simp [stext, zs]
          rw [eT] at Hown hlen
          have htb : Bytes (stext body) := stext_bytes hb (by omega)
          have hEl := sumOf_lt htb
          obtain ⟨E, hE⟩ : ∃ E, E = sumOf (stext body) := ⟨_, rfl⟩
          obtain ⟨X, hX⟩ : ∃ X, X = stext body := ⟨_, rfl⟩
          have hdrop : X.drop 2 = body ++ zs (504 - n) := by rw [hX, ← hlb]; simp [stext, zs]
          have hx0 : X.getD 0 0 = ((n % 256 : Nat) : Int) := by rw [hX, ← hlb]; rfl
          have hx1 : X.getD 1 0 = ((n / 256 : Nat) : Int) := by rw [hX, ← hlb]; rfl
          have hfin : sform t body = [(t : Int), X.getD 0 0, X.getD 1 0] ++ leb 4 E ++ X.drop 2 ++ [(t : Int)] := by
            rw [hdrop, hx0, hx1, hE, leb4, ← hlb]
            simp [sform, zs]
          rw [← hX] at Hown hlen htb
          rw [← hE] at hEl
          have Hfin := Hid.mk hfin
          have hsumE : E = sumOf X := by rw [hE, hX]
          clear hfin hdrop hx0 hx1 hE hX eT e6 HT Hhd
          have hown6 := Hown.out
          rw [← hlen] at hown6
          obtain ⟨g, ct, hge, hgB, hrow⟩ := Own.row' (l := X) hown6 (by omega)
          have hae : at' = some ⟨g, 0, none⟩ := by cases hge; rfl
          have hce : ct' = ct := by cases hge; rfl
          subst hae
          subst hce
          have hq := qsum_any (some ⟨g, 0, none⟩) 506 ct' X wr htb (by omega) (by have := hrow.src; rw [hlen] at this; exact this)
          rw [← hsumE] at hq
          have Hrow := Hid.mk hrow
          clear hown6 hge hrow Hown hsumE htb hlj
          go_wp2_with fail
          refine hq.mono ?_
          rintro e w3 ⟨rfl, hb3⟩
          have hrow3 := Hrow.out.agree (hb3.block g Hrow.out.lt)
          have hB3 : Below w.heap.size w w3 := HB.out.trans (hb3.mono HB.out.size)
          have hz3 := hB3.size
          have c0 := hrow3.get (i := 0) (by omega)
          have c1 := hrow3.get (i := 1) (by omega)
          have Hrow3 := Hid.mk hrow3
          have HB3 := Hid.mk hB3
          have hz' := hz
          clear hq hb3 hrow3 hB3 Hrow HB hz
          obtain ⟨x0, hx0⟩ : ∃ x0, x0 = X.getD 0 0 := ⟨_, rfl⟩
          obtain ⟨x1, hx1⟩ : ∃ x1, x1 = X.getD 1 0 := ⟨_, rfl⟩
          rw [← hx0] at c0
          rw [← hx1] at c1
          rw [← hx0, ← hx1] at Hfin
          clear hx0 hx1
          have hgl := Hrow3.out.lt
          have hz3r := Nat.le_refl w3.heap.size
          go_wp2_with (at_builtin; refine wpList_app1 rfl _ _ rfl w3.heap.size (.slice none 0 0) [] (t : Int) rfl rfl (Own.nil w3 _) ?b1 ?b2 ?_)
          case b1 => simp
          case b2 => exact hz3r
          intro v4 w4 ho4 hb4
          have Ho4 := Hid.mk ho4
          have HB4 := Hid.mk hb4
          have hz4 := hb4.size
          have d0 : w4.cell? ⟨g, 0, none⟩ = some (.int .u8 x0) := cell_later hb4 c0
          have d1 : w4.cell? ⟨g, 1, none⟩ = some (.int .u8 x1) := cell_later hb4 c1
          clear ho4 hb4 c0 c1
          go_wp2_with (at_builtin; refine wpList_app1 rfl _ _ rfl w3.heap.size v4 _ x0 rfl rfl Ho4.out ?b1 ?b2 ?_)
          case b1 => simp
          case b2 => exact hz4
          intro v5 w5 ho5 hb5
          have Ho5 := Hid.mk ho5
          have HB5 := Hid.mk (HB4.out.trans (hb5.mono (Nat.le_refl _)))
          have hz5 := HB5.out.size
          have d1' : w5.cell? ⟨g, 1, none⟩ = some (.int .u8 x1) := (World.cell?_of_block (hb5.block g hgl)).trans d1
          clear ho5 hb5 d0 d1 Ho4 HB4 hz4
          go_wp2_with (at_builtin; refine wpList_app1 rfl _ _ rfl w3.heap.size v5 _ x1 rfl rfl Ho5.out ?b1 ?b2 ?_)
          case b1 => simp
          case b2 => exact hz5
          intro v6 w6 ho6 hb6
          have Ho6 : Hid (Own w6 w3.heap.size v6 ([(t : Int), x0, x1] ++ leb 0 E)) := ho6
          have HB6 := Hid.mk (HB5.out.trans (hb6.mono (Nat.le_refl _)))
          clear ho6 hb6 d1' Ho5 HB5 hz5
          obtain ⟨P, hP⟩ : ∃ P, P = [(t : Int), x0, x1] := ⟨_, rfl⟩
          have hPl : P.length = 3 := by rw [hP]; rfl
          rw [← hP] at Ho6 Hfin
          clear hP
          go_wp2
          go_loopw [7, 8, 9] (fun s v i wx => ∃ m : Nat, m ≤ 4 ∧ i = .int .i64 m ∧ s = .int .i64 ((E / 256 ^ m : Nat) : Int) ∧ Own wx w3.heap.size v (P ++ leb m E) ∧ Below w3.heap.size w3 wx) (fun _ _ i _ => 4 - (intOf i).toNat)
          case atStart => exact ⟨0, Nat.zero_le _, rfl, by simp, Ho6.out, HB6.out⟩
          case round =>
            clear Ho6 HB6
            obtain ⟨m, hm, rfl, rfl, hown, hbx⟩ := hrel
            have Hown := Hid.mk hown
            have HB := Hid.mk hbx
            have hz := hbx.size
            clear hown hbx
            by_cases hlm : m < 4
            · have hlm' : (m : Int) < 4 := by omega
              have e1 : E / 256 ^ (m + 1) = E / 256 ^ m / 256 := by rw [Nat.div_div_eq_div_mul, Nat.pow_succ]
              have e2 := leb_snoc m E
              rw [show (2 : Nat) ^ (8 * m) = 256 ^ m by rw [Nat.pow_mul]] at e2
              have hQ : E / 256 ^ m < 4294967296 := Nat.lt_of_le_of_lt (Nat.div_le_self _ _) hEl
              generalize E / 256 ^ m = Q at *
              have q1 : ((Q : Int)).tmod 256 = ((Q % 256 : Nat) : Int) := by rw [Int.tmod_eq_emod_of_nonneg (by omega)]; omega
              have q2 : ((Q : Int)).tdiv 256 = ((Q / 256 : Nat) : Int) := by rw [Int.tdiv_eq_ediv_of_nonneg (by omega)]; omega
              have He1 := Hid.mk e1
              have He2 := Hid.mk e2
              have hll : (P ++ leb m E).length = 3 + m := by rw [List.length_append, hPl, leb_len]
              clear e1 e2
              go_wp2_with (at_builtin; refine wpList_app1 rfl _ _ rfl w3.heap.size u8 _ _ rfl rfl Hown.out ?b1 ?b2 ?_)
              case b1 => omega
              case b2 => exact hz
              intro v' w' ho hb'
              have HO : Hid (Own w' w3.heap.size v' (P ++ leb (m + 1) E)) := by rw [He2.out]; first | exact ho | (rw [← List.append_assoc]; exact ho)
              have HB' := Hid.mk (HB.out.trans (hb'.mono (Nat.le_refl _)))
              clear ho hb' Hown HB He2
              go_wp2
              go_roundw
              case rel => exact ⟨m + 1, by omega, by go_num, by rw [He1.out]; simp, HO.out, HB'.out⟩
              case measure => simp [intOf]; omega
            · have hlm' : ¬ (m : Int) < 4 := by omega
              obtain rfl : m = 4 := by omega
              obtain ⟨R, hR⟩ : ∃ R, R = P ++ leb 4 E := ⟨_, rfl⟩
              have hRl : R.length = 7 := by rw [hR, List.length_append, hPl, leb_len]
              rw [← hR] at Hown Hfin
              have Hown2 : Hid (Own wr w3.heap.size u8 (R ++ (X.drop 2).take 0)) := by show Own wr w3.heap.size u8 (R ++ []); rw [List.append_nil]; exact Hown.out
              clear hR Hown hm
              go_wp2
              go_loopw [8, 10] (fun v i wx => ∃ m : Nat, m ≤ 504 ∧ i = .int .i64 ((m + 2 : Nat) : Int) ∧ Own wx w3.heap.size v (R ++ (X.drop 2).take m) ∧ Below w3.heap.size w3 wx) (fun _ i _ => 506 - (intOf i).toNat)
              case atStart => exact ⟨0, Nat.zero_le _, rfl, Hown2.out, HB.out⟩
              case round =>
                clear Hown2 HB hz
                obtain ⟨m, hm, rfl, hown, hbx⟩ := hrel
                have Hown := Hid.mk hown
                have HB := Hid.mk hbx
                have hz := hbx.size
                clear hown hbx
                have hdl2 : (X.drop 2).length = 504 := by simp; omega
                have hll : (R ++ (X.drop 2).take m).length = 7 + m := by rw [List.length_append, hRl, List.length_take]; omega
                by_cases hlm : m < 504
                · have hlm' : ((m + 2 : Nat) : Int) < 506 := by omega
                  have hcx : wr.cell? ⟨g, m + 2, none⟩ = some (.int .u8 (X.getD (m + 2) 0)) := cell_later HB.out (Hrow3.out.get (i := m + 2) (by omega))
                  have eN := take_snoc (X.drop 2) m (by omega)
                  have eX : (X.drop 2).getD m 0 = X.getD (m + 2) 0 := by simp [List.getD, Nat.add_comm]
                  rw [eX] at eN
                  have HeN := Hid.mk eN
                  clear eN eX
                  generalize X.getD (m + 2) 0 = x at *
                  generalize hM : m + 2 = M at *
                  have HM := Hid.mk hM
                  clear hM
                  go_wp2_with (at_builtin; refine wpList_app1 rfl _ _ rfl w3.heap.size u8 _ x rfl rfl Hown.out ?b1 ?b2 ?_)
                  case b1 => omega
                  case b2 => exact hz
                  intro v' w' ho hb'
                  have HO : Hid (Own w' w3.heap.size v' (R ++ (X.drop 2).take (m + 1))) := by rw [← HeN.out]; first | exact ho | (rw [← List.append_assoc]; exact ho)
                  have HB' := Hid.mk (HB.out.trans (hb'.mono (Nat.le_refl _)))
                  clear ho hb' Hown HB HeN
                  go_wp2
                  go_roundw
                  case rel => exact ⟨m + 1, by omega, by have := HM.out; subst this; go_num, HO.out, HB'.out⟩
                  case measure => have := HM.out; simp [intOf]; omega
                · obtain rfl : m = 504 := by omega
                  have e5 : (X.drop 2).take 504 = X.drop 2 := List.take_of_length_le (by omega)
                  rw [e5] at Hown hll
                  obtain ⟨Y, hY⟩ : ∃ Y, Y = R ++ X.drop 2 := ⟨_, rfl⟩
                  rw [← hY] at Hown hll Hfin
                  clear hY e5
                  go_wp2_with (at_builtin; refine wpList_app1 rfl _ _ rfl w3.heap.size u8 _ (t : Int) rfl rfl Hown.out ?b1 ?b2 ?_)
                  case b1 => omega
                  case b2 => exact hz
                  intro v' w' ho hb'
                  have HO : Hid (Own w' w.heap.size v' (sform t body)) := by rw [Hfin.out]; exact Own.down ho hz3
                  have HB' : Hid (Below w.heap.size w w') := HB3.out.trans ((HB.out.trans (hb'.mono (Nat.le_refl _))).mono hz3)
                  clear ho hb' Hown HB
                  go_wp2
                  go_ret
                  exact ⟨_, rfl, HO.out, HB'.out⟩
end Go.Proofs.YtllkjmbcjlbmbaaGreat
end

section
namespace Go.Proofs.YtllkjmbcjlbmbaaGreat
open Go.RowKit

theorem turn_least {a b : Int} : ∀ k : Nat, k < turnOf a b → (k : Int) = a ∨ (k : Int) = b := by
  intro k hk
  unfold turnOf at hk
  split at hk
  · omega
  · split at hk
    · next h1 h2 => omega
    · next h1 h2 => omega

end Go.Proofs.YtllkjmbcjlbmbaaGreat
end

section
namespace Go.Proofs.YtllkjmbcjlbmbaaGreat
open Go.RowKit

theorem src_spot {w : World} {a : Option Addr} {n : Nat} {l : List Int} (h : Src w a n l) (hn : 0 < n) : ∃ b o, a = some ⟨b, o, none⟩ := by
  cases a with
  | none => have := h.2.1 rfl; omega
  | some x =>
    obtain ⟨b, o, rfl, _⟩ := h.spot hn
    exact ⟨b, o, rfl⟩

theorem seal_any (a : Option Addr) (n c : Nat) (old : List Int) (a2 : Option Addr) (m c2 : Nat) (body : List Int) (w : World) (hs : Src w a n old) (hs2 : Src w a2 m body) (hb : Bytes body) :
    Calls Tryz.prog 52 #[.slice a n c, .slice a2 m c2] w fun e w' => ∃ v, e = .returned (.tuple #[v, .int .i64 (((sseal old body).2 : Nat) : Int)]) ∧ Lst w' w.heap.size v (sseal old body).1 ∧ Below w.heap.size w w' := by
  have h1 := hs.1
  have h2 := hs2.1
  by_cases hn : n = 512
  · subst hn
    obtain ⟨b, o, rfl⟩ := src_spot hs (by omega)
    by_cases hm : 504 < m
    · refine (seal_no2 b o c old a2 m c2 w hs hm).mono ?_
      rintro e w' ⟨rfl, hbel⟩
      have e : sseal old body = ([], 7) := by unfold sseal; rw [if_neg (by omega), if_pos (by omega)]
      rw [e]
      exact ⟨_, rfl, Lst.nil _ _, hbel⟩
    · refine (seal_ok b o c old a2 m c2 body w hs hs2 (by omega) hb).mono ?_
      rintro e w' ⟨g, rfl, hblk, hg, hbel⟩
      have e : sseal old body = (sform (turnOf (old.getD 0 0) (old.getD 511 0)) body, 0) := by unfold sseal; rw [if_neg (by omega), if_neg (by omega)]
      rw [e]
      have hl : (sform (turnOf (old.getD 0 0) (old.getD 511 0)) body).length = 512 := sform_len (by omega)
      have := hblk.lst hg
      rw [hl] at this
      exact ⟨_, rfl, this, hbel⟩
  · refine (seal_no1 a n c a2 m c2 w hn).mono ?_
    rintro e w' ⟨rfl, hbel⟩
    have e : sseal old body = ([], 2) := by unfold sseal; rw [if_pos (by omega)]
    rw [e]
    exact ⟨_, rfl, Lst.nil _ _, hbel⟩
end Go.Proofs.YtllkjmbcjlbmbaaGreat
end

section
namespace Go.Proofs.YtllkjmbcjlbmbaaGreat
open Go.RowKit

set_option maxRecDepth 20000 in
set_option maxHeartbeats 2000000 in
theorem rsame_ne (a b : Option Addr) (n m c d : Nat) (w : World) (h : n ≠ m) :
    Calls Tryz.prog 64 #[.slice a n c, .slice b m d] w fun e w' => e = .returned (.bool false) ∧ w' = w := by
  have h' : (((n : Int)) != (m : Int)) = true := by rw [bne_iff_ne]; omega
  go_enter Tryz.func64, Tryz.ntmps64
  go_wp2
  go_ret
  exact ⟨rfl, rfl⟩
set_option maxRecDepth 20000 in
set_option maxHeartbeats 2000000 in
theorem rsame_low (b o b' o' : Nat) (n c d : Nat) (l l' : List Int) (w : World) (hn : n ≤ 140737488355328) (hl : l.length = n) (hl' : l'.length = n) (h1 : ∀ i, i < n → w.cell? ⟨b, o + i, none⟩ = some (.int .u8 (l.getD i 0))) (h2 : ∀ i, i < n → w.cell? ⟨b', o' + i, none⟩ = some (.int .u8 (l'.getD i 0))) :
    Calls Tryz.prog 64 #[.slice (some ⟨b, o, none⟩) n c, .slice (some ⟨b', o', none⟩) n d] w fun e w' => e = .returned (.bool (decide (l = l'))) ∧ Below w.heap.size w w' := by
  have h' : (((n : Int)) != (n : Int)) = false := by simp
  have H1 := Hid.mk h1
  have H2 := Hid.mk h2
  clear h1 h2
  go_enter Tryz.func64, Tryz.ntmps64
  go_wp2
  go_loopw [5] (fun i wr => ∃ k : Nat, k ≤ n ∧ i = .int .i64 k ∧ l.take k = l'.take k ∧ Below w.heap.size w wr) (fun i _ => n - (intOf i).toNat)
  case atStart => exact ⟨0, Nat.zero_le _, rfl, by simp, Below.refl _ _⟩
  case round =>
    obtain ⟨k, hk, rfl, htk, hb⟩ := hrel
    have Htk := Hid.mk htk
    clear htk
    by_cases hlt : k < n
    · have c1 := cell_later hb (H1.out k hlt)
      have c2 := cell_later hb (H2.out k hlt)
      have hlt' : (k : Int) < (n : Int) := by omega
      by_cases hx : l.getD k 0 = l'.getD k 0
      · have Hnx := Hid.mk (take_eq_next Htk.out (by omega) (by omega) hx)
        have hb2 := Hid.mk (fun j => below_drewN hb j)
        rw [hx] at c1
        generalize l'.getD k 0 = x at *
        clear hx
        go_wp2
        go_quiet (fail)
        go_wp2
        go_roundw
        case rel => exact ⟨k + 1, by omega, by go_num, Hnx.out, below_drewN hb _⟩
        case measure => simp [intOf]; omega
      · have hne : l ≠ l' := ne_of_getD hx
        have hd : Hid (decide (l = l') = false) := by show decide (l = l') = false; simp [hne]
        have hxx : ((l.getD k 0) != (l'.getD k 0)) = true := by rw [bne_iff_ne]; exact hx
        generalize l'.getD k 0 = x at *
        generalize l.getD k 0 = y at *
        clear hx hne
        go_wp2
        go_quiet (fail)
        go_wp2
        go_ret
        exact ⟨by rw [hd.out]; rfl, below_drewN hb _⟩
    · have hlt' : ¬ (k : Int) < (n : Int) := by omega
      have hd : Hid (decide (l = l') = true) := by
        have := Htk.out
        rw [List.take_of_length_le (by omega), List.take_of_length_le (by omega)] at this
        show decide (l = l') = true
        simp [this]
      go_wp2
      go_ret
      exact ⟨by rw [hd.out]; rfl, hb⟩
set_option maxRecDepth 20000 in
set_option maxHeartbeats 1000000 in
theorem rsame_zero (a b : Option Addr) (c d : Nat) (w : World) :
    Calls Tryz.prog 64 #[.slice a 0 c, .slice b 0 d] w fun e w' => e = .returned (.bool true) ∧ w' = w := by
  go_enter Tryz.func64, Tryz.ntmps64
  go_wp2
  refine wp_loop_rounds 1 ?_; rw [rounds_succ]; go_wp2
  go_ret
  exact ⟨rfl, rfl⟩
theorem rsame_any (a b : Option Addr) (n m c d : Nat) (l l' : List Int) (w : World) (hn : n ≤ 140737488355328) (h1 : Src w a n l) (h2 : Src w b m l') :
    Calls Tryz.prog 64 #[.slice a n c, .slice b m d] w fun e w' => e = .returned (.bool (decide (l = l'))) ∧ Below w.heap.size w w' := by
  by_cases hnm : n = m
  · subst hnm
    by_cases h0 : n = 0
    · subst h0
      have e1 := List.eq_nil_of_length_eq_zero h1.1
      have e2 := List.eq_nil_of_length_eq_zero h2.1
      subst e1 e2
      exact (rsame_zero a b c d w).mono (by rintro e w' ⟨rfl, rfl⟩; exact ⟨rfl, Below.refl _ _⟩)
    · cases a with
      | none => exact absurd (h1.2.1 rfl) h0
      | some x =>
        cases b with
        | none => exact absurd (h2.2.1 rfl) h0
        | some y =>
          obtain ⟨b1, o1, rfl, k1⟩ := h1.spot (by omega)
          obtain ⟨b2, o2, rfl, k2⟩ := h2.spot (by omega)
          exact rsame_low b1 o1 b2 o2 n c d l l' w hn h1.1 h2.1 k1 k2
  · have hd : decide (l = l') = false := by
      have : l ≠ l' := fun e => hnm (by rw [← h1.1, ← h2.1, e])
      simp [this]
    rw [hd]
    exact (rsame_ne a b n m c d w hnm).mono (by rintro e w' ⟨rfl, rfl⟩; exact ⟨rfl, Below.refl _ _⟩)

end Go.Proofs.YtllkjmbcjlbmbaaGreat
end

section
namespace Go.Proofs.YtllkjmbcjlbmbaaGreat
open Go.RowKit

theorem sopens_no1 {s : List Int} (h : s.length ≠ 512) : sopens s = ([], 2) := by unfold sopens; rw [if_pos h]
theorem sopens_none {s : List Int} (h : s.length = 512) (h2 : sopen s = none) : sopens s = ([], 30) := by unfold sopens; rw [if_neg (by omega), h2]
theorem sopens_some {s b : List Int} (h : s.length = 512) (h2 : sopen s = some b) : sopens s = (b, 0) := by unfold sopens; rw [if_neg (by omega), h2]
theorem sopen_yes {s : List Int} (h1 : slen s ≤ 504) (h2 : s.getD 0 0 ≤ 2) (h3 : sform (s.getD 0 0) (sbody s) = s) : sopen s = some (sbody s) := by unfold sopen; rw [if_pos ⟨h1, h2, h3⟩]
theorem sopen_no {s : List Int} (h : ¬ (slen s ≤ 504 ∧ s.getD 0 0 ≤ 2 ∧ sform (s.getD 0 0) (sbody s) = s)) : sopen s = none := by unfold sopen; rw [if_neg h]
theorem slen_eq {s : List Int} (h : Bytes s) : ((slen s : Nat) : Int) = s.getD 1 0 + 256 * s.getD 2 0 := by
  have h1 := h.getD 1
  have h2 := h.getD 2
  unfold slen
  omega

set_option maxRecDepth 20000 in
set_option maxHeartbeats 4000000 in
theorem ropen_no1 (a : Option Addr) (n c : Nat) (w : World) (hn : n ≠ 512) :
    Calls Tryz.prog 41 #[.slice a n c] w fun e w' => e = .returned (.tuple #[.slice none 0 0, .int .i64 2]) ∧ Below w.heap.size w w' := by
  have h1 : (((n : Int)) != 512) = true := by rw [bne_iff_ne]; omega
  have HB := Hid.mk (Below.refl w.heap.size w)
  go_enter Tryz.func41, Tryz.ntmps41
  go_wp2
  go_ret2
  exact ⟨rfl, HB.out⟩

set_option maxRecDepth 20000 in
set_option maxHeartbeats 4000000 in
theorem ropen_all (b o c : Nat) (s : List Int) (w : World) (hs : Src w (some ⟨b, o, none⟩) 512 s) (hb : Bytes s) :
    Calls Tryz.prog 41 #[.slice (some ⟨b, o, none⟩) 512 c] w fun e w' => ∃ v, e = .returned (.tuple #[v, .int .i64 (((sopens s).2 : Nat) : Int)]) ∧ Own w' w.heap.size v (sopens s).1 ∧ Below w.heap.size w w' := by
  have hls := hs.1
  have cell : ∀ i, i < 512 → w.cell? ⟨b, o + i, none⟩ = some (.int .u8 (s.getD i 0)) := fun i hi => by have := hs.2.2 _ rfl i hi; rwa [addr_add] at this
  have c0 := cell 0 (by omega)
  rw [Nat.add_zero] at c0
  have c1 := cell 1 (by omega)
  have c2 := cell 2 (by omega)
  have hB0 : Below w.heap.size w w := Below.refl _ w
  have hle := slen_eq hb
  have g0 := hb.getD 0
  have g1 := hb.getD 1
  have g2 := hb.getD 2
  obtain ⟨x0, hx0⟩ : ∃ x0, x0 = s.getD 0 0 := ⟨_, rfl⟩
  obtain ⟨x1, hx1⟩ : ∃ x1, x1 = s.getD 1 0 := ⟨_, rfl⟩
  obtain ⟨x2, hx2⟩ : ∃ x2, x2 = s.getD 2 0 := ⟨_, rfl⟩
  obtain ⟨N, hN⟩ : ∃ N, N = slen s := ⟨_, rfl⟩
  rw [← hx1, ← hx2, ← hN] at hle
  rw [← hx0] at c0 g0
  rw [← hx1] at c1 g1
  rw [← hx2] at c2 g2
  have h00 := g0.1
  have h01 := g0.2
  have h10 := g1.1
  have h11 := g1.2
  have h20 := g2.1
  have h21 := g2.2
  have Hc := Hid.mk cell
  have HB := Hid.mk (fun j => below_drewN hB0 j)
  have Hx0 := Hid.mk hx0
  have HN := Hid.mk hN
  have HS := Hid.mk hs
  clear cell hx0 hx1 hx2 hN hs hB0 g0 g1 g2
  by_cases hbad : 504 < N ∨ 2 < x0
  · have hno : sopens s = ([], 30) := sopens_none hls (sopen_no (fun h => by rw [← HN.out, ← Hx0.out] at h; omega))
    have Hno := Hid.mk hno
    clear hno
    by_cases hb1 : 504 < N
    · have hb1' : 504 < x1 + 256 * x2 := by omega
      go_enter Tryz.func41, Tryz.ntmps41
      go_wp2
      go_quiet (fail)
      go_wp2
      go_ret2
      exact ⟨_, by rw [Hno.out]; rfl, by rw [Hno.out]; exact Own.nil _ _, HB.out _⟩
    · have hb1' : ¬ 504 < x1 + 256 * x2 := by omega
      have hb2 : 2 < x0 := by omega
      go_enter Tryz.func41, Tryz.ntmps41
      go_wp2
      go_quiet (fail)
      go_wp2
      go_ret2
      exact ⟨_, by rw [Hno.out]; rfl, by rw [Hno.out]; exact Own.nil _ _, HB.out _⟩
  · have hb1' : ¬ 504 < x1 + 256 * x2 := by omega
    have hb2 : ¬ 2 < x0 := by omega
    go_enter Tryz.func41, Tryz.ntmps41
    go_wp2
    go_quiet (fail)
    go_wp2
    go_loopw [5, 6] (fun v i wr => ∃ k : Nat, k ≤ N ∧ i = .int .i64 k ∧ Own wr w.heap.size v ((s.drop 7).take k) ∧ Below w.heap.size w wr) (fun _ i _ => N - (intOf i).toNat)
    case atStart => exact ⟨0, Nat.zero_le _, rfl, Own.nil _ _, HB.out _⟩
    case round =>
      clear c0 c1 c2
      obtain ⟨k, hk, rfl, hown, hbr⟩ := hrel
      have Hown := Hid.mk hown
      have HBr := Hid.mk hbr
      have hz := hbr.size
      clear hown hbr
      have hdl : (s.drop 7).length = 505 := by simp; omega
      by_cases hlt : k < N
      · have hlt' : (k : Int) < x1 + 256 * x2 := by omega
        have hc := cell_later HBr.out (Hc.out (7 + k) (by omega))
        have eN := take_snoc (s.drop 7) k (by omega)
        have eX : (s.drop 7).getD k 0 = s.getD (7 + k) 0 := by simp [List.getD]
        rw [eX] at eN
        have HeN := Hid.mk eN
        have hll : ((s.drop 7).take k).length ≤ 505 := by rw [List.length_take]; omega
        clear eN eX
        generalize s.getD (7 + k) 0 = x at *
        go_wp2_with (at_builtin; refine wpList_app1 rfl _ _ rfl w.heap.size u5 _ x rfl rfl Hown.out ?b1 ?b2 ?_)
        case b1 => omega
        case b2 => exact hz
        intro v' w' ho hb'
        have HO : Hid (Own w' w.heap.size v' ((s.drop 7).take (k + 1))) := by rw [← HeN.out]; exact ho
        have HB' := Hid.mk (HBr.out.trans (hb'.mono (Nat.le_refl _)))
        clear ho hb' Hown HBr HeN
        go_wp2
        go_roundw
        case rel => exact ⟨k + 1, by omega, by go_num, HO.out, HB'.out⟩
        case measure => simp [intOf]; omega
      · obtain rfl : k = N := by omega
        have hlt' : ¬ (k : Int) < x1 + 256 * x2 := by omega
        have eb : (s.drop 7).take k = sbody s := by unfold sbody; rw [← HN.out]
        rw [eb] at Hown
        have hbl : (sbody s).length = k := by rw [← eb, List.length_take]; omega
        have hbb : Bytes (sbody s) := (hb.drop _).take _
        have Hbl := Hid.mk hbl
        obtain ⟨ab, cb', rfl, hsb, _, _⟩ := Hown.out.src
        rw [hbl] at hsb Hown ⊢
        clear hbl
        have c0 := cell_later HBr.out (Hc.out 0 (by omega))
        rw [Nat.add_zero, ← Hx0.out] at c0
        obtain ⟨t, rfl⟩ : ∃ t : Nat, x0 = (t : Int) := ⟨x0.toNat, by omega⟩
        have hf := rform_any t ab k cb' (sbody s) wr (by omega) hsb (by omega) hbb
        clear eb hsb
        go_wp2_with fail
        refine hf.mono ?_
        rintro e w2 ⟨v2, rfl, ho2, hb2⟩
        have hfl : (sform t (sbody s)).length = 512 := sform_len (by rw [Hbl.out]; omega)
        obtain ⟨p2, d2, rfl, hs2, _, _⟩ := ho2.src
        rw [hfl] at *
        have hB2 := HBr.out.trans (hb2.mono HBr.out.size)
        have hsm := rsame_any p2 (some ⟨b, o, none⟩) 512 512 d2 c (sform t (sbody s)) s w2 (by omega) hs2 (HS.out.later hB2)
        have HB2 := Hid.mk hB2
        have Hown2 := Hid.mk (Own.later Hown.out hb2)
        clear hf ho2 hb2 hs2 hB2 Hown HBr
        by_cases heq : sform t (sbody s) = s
        · rw [decide_eq_true heq] at hsm
          have hy : sopens s = (sbody s, 0) := sopens_some hls (sopen_yes (by rw [← HN.out]; omega) (by rw [← Hx0.out]; omega) (by rw [← Hx0.out]; exact heq))
          have Hy := Hid.mk hy
          clear heq hy
          go_wp2_with fail
          refine hsm.mono ?_
          rintro e w3 ⟨rfl, hb3⟩
          have HB3 := Hid.mk (HB2.out.trans (hb3.mono HB2.out.size))
          have Hown3 := Hid.mk (Own.later Hown2.out hb3)
          clear hsm hb3
          go_wp2
          go_ret2
          exact ⟨_, by rw [Hy.out]; rfl, by rw [Hy.out]; exact Hown3.out, HB3.out⟩
        · rw [decide_eq_false heq] at hsm
          have hy : sopens s = ([], 30) := sopens_none hls (sopen_no (fun h => heq (by have := h.2.2; rwa [← Hx0.out] at this)))
          have Hy := Hid.mk hy
          clear heq hy
          go_wp2_with fail
          refine hsm.mono ?_
          rintro e w3 ⟨rfl, hb3⟩
          have HB3 := Hid.mk (HB2.out.trans (hb3.mono HB2.out.size))
          clear hsm hb3
          go_wp2
          go_ret2
          exact ⟨_, by rw [Hy.out]; rfl, by rw [Hy.out]; exact Own.nil _ _, HB3.out⟩

theorem ropen_any (a : Option Addr) (n c : Nat) (s : List Int) (w : World) (hs : Src w a n s) (hb : Bytes s) :
    Calls Tryz.prog 41 #[.slice a n c] w fun e w' => ∃ v, e = .returned (.tuple #[v, .int .i64 (((sopens s).2 : Nat) : Int)]) ∧ Own w' w.heap.size v (sopens s).1 ∧ Below w.heap.size w w' := by
  by_cases hn : n = 512
  · subst hn
    obtain ⟨b, o, rfl⟩ := src_spot hs (by omega)
    exact ropen_all b o c s w hs hb
  · refine (ropen_no1 a n c w hn).mono ?_
    rintro e w' ⟨rfl, hbel⟩
    rw [sopens_no1 (by rw [hs.1]; exact hn)]
    exact ⟨_, rfl, Own.nil _ _, hbel⟩
end Go.Proofs.YtllkjmbcjlbmbaaGreat
end
