import Derived.Test.YtllkjmbcjlbmbaaGreatW14
import Derived.RangeFuncNested
import Derived.RangeFuncBound
import Derived.RangeFuncCalls
import Derived.RangeFuncLeaves
import Derived.Shelf.Abstract
import Derived.Shelf.RegionOpen
import Derived.OwnWalkIn
import Derived.TacticsInMore
import Derived.LoopNIn
import Derived.LoopIn
section
namespace Go.Proofs.YtllkjmbcjlbmbaaGreat
open Go.RowKit

/-- What ring hands out. -/
def RingOut (lo : Nat) (w : World) (n : Nat) (R : Nat → PC) (v : Value) : Prop := ∃ g B, v = .slice (some ⟨g, 0, none⟩) n n ∧ lo ≤ g ∧ g < B ∧ RingTo w B g n n R

set_option maxRecDepth 20000 in
set_option maxHeartbeats 8000000 in
theorem ring_any {w : World} {F : Nat → Prop} {p s : Nat} {S : DS} (h : DiskR w F p s S) (hby : S.Byt) (f n : Nat) (hfn : f + 2 + n ≤ s) (hn1 : 1 ≤ n) (hn : n ≤ 256) (hf : S.fuse ≠ 0) (hbig : S.puts.length + 1 ≤ 4000000000000) :
    Calls Tryz.prog 68 #[areaV p f n] w fun e w' => ∃ v, e = .returned (.tuple #[v, .int .i64 0]) ∧ RingOut w.heap.size w' n (fun i => pcOf (S.now (f + 2 + i))) v ∧ DiskR w' F p s S ∧ Keeps F w w' := by
  obtain ⟨i0, hi, hz0, hz1, hz2⟩ := info_parts infoPiece3
  have hs := h.ok.hi
  have HL := Hid.mk h.lt
  have HB := Hid.mk (below_box w (.cells #[.pointer (some ⟨p, 0, none⟩), .int .i64 f, .int .i64 n] 63))
  have HD0 := Hid.mk (h.boxed (.cells #[.pointer (some ⟨p, 0, none⟩), .int .i64 f, .int .i64 n] 63))
  have HBY := Hid.mk hby
  clear h hby
  go_enter Tryz.func68, Tryz.ntmps68
  go_wp2_with (at_make; refine wpList_make_full _ rfl _ _ 112 rfl (w.heap.size + 1) 74 i0 _ 5 Tryz.underlying112 hi hz0 hz1 _ _ _ _ n rfl rfl ?c1 ?c2 ?c3 ?c4 ?c5 ?_)
  case c1 => rfl
  case c2 => rfl
  case c3 => rw [hz2]; omega
  case c4 => unfold maxLen; omega
  case c5 => simp
  intro w1 hown hgrow
  have hb1 : Below (w.heap.size + 1) (w.alloc (.cells #[.pointer (some ⟨p, 0, none⟩), .int .i64 f, .int .i64 n] 63)) w1 := (Below.refl _ _).grown hgrow (by simp) (by intro k hk; cases hk)
  obtain ⟨_, ⟨hv, _⟩ | ⟨g', cap, cur, hv, hg0, hg, _, _, hcs, _⟩⟩ := hown
  · cases hv
  cases hv
  have hbox : w1.heap[w.heap.size]? = some (.cells #[.pointer (some ⟨p, 0, none⟩), .int .i64 f, .int .i64 n] 63 (0, 0)) := (hb1.block _ (by omega)).trans (heap_alloc_new _ _)
  have HB1 := Hid.mk (HB.out.trans (hb1.mono (by omega)))
  have hlt : w.heap.size + 1 < w1.heap.size := lt_there hg
  have HR0 : Hid (RingTo w1 w1.heap.size (w.heap.size + 1) n 0 (fun i => pcOf (S.now (f + 2 + i)))) := ⟨⟨cur, hg, hcs⟩, fun i hi => by omega⟩
  have HD1 := Hid.mk (HD0.out.later (by rw [World.size_alloc]; exact hb1))
  have HX := Hid.mk hbox
  have HF : Hid (¬ F w.heap.size ∧ ¬ F (w.heap.size + 1)) := ⟨fun h => by have := HL.out _ h; omega, fun h => by have := HL.out _ h; omega⟩
  obtain ⟨R, hR⟩ : ∃ R, R = (fun i => pcOf (S.now (f + 2 + i))) := ⟨_, rfl⟩
  rw [← hR] at HR0
  have HRR := Hid.mk hR
  clear hgrow hb1 hbox hg hg0 hcs hR
  go_wp2
  go_loopw [13] (fun i wr => ∃ k : Nat, k ≤ n ∧ i = .int .i64 k ∧ RingTo wr w1.heap.size (w.heap.size + 1) n k R ∧ DiskR wr F p s S ∧ Keeps (fun j => F j ∨ j = w.heap.size + 1) w1 wr) (fun i _ => n - (intOf i).toNat)
  case atStart => exact ⟨0, Nat.zero_le _, rfl, HR0.out, HD1.out, Keeps.refl _ _⟩
  case round =>
    obtain ⟨k, hk, rfl, hring, hd, hkp⟩ := hrel
    by_cases q : k < n
    · have q' : (k : Int) < (n : Int) := by omega
      have hbox := box_after HX.out hkp (fun h => by rcases h with h | h; exact HF.out.1 h; omega)
      have c0 := cell_of_block hbox (j := 0) rfl
      have c1 := cell_of_block hbox (j := 1) rfl
      have c2 := cell_of_block hbox (j := 2) rfl
      have h1 := fun wx => aat_any p f n k wx (by omega) (by omega) (by omega) (by omega) (by omega)
      rw [show (f : Int) + 2 + (k : Int) % (n : Int) = ((f + 2 + k : Nat) : Int) by rw [Int.emod_eq_of_lt (by omega) (by omega)]; omega] at h1
      have H1 := Hid.mk h1
      have HRg := Hid.mk hring
      have HDr := Hid.mk hd
      have HKr := Hid.mk hkp
      have HXr := Hid.mk hbox
      clear h1 hring hd hkp hbox
      go_wp2_with fail
      go_region_held3 (fun w' => w'.cell? ⟨w.heap.size, 0, none⟩ = some (.pointer (some ⟨p, 0, none⟩)) ∧ w'.cell? ⟨w.heap.size, 1, none⟩ = some (.int .i64 (f : Int)) ∧ w'.cell? ⟨w.heap.size, 2, none⟩ = some (.int .i64 (n : Int)))
        (first | exact ⟨c0, c1, c2⟩ | exact ⟨cell_of_block hx2 (j := 0) rfl, cell_of_block hx2 (j := 1) rfl, cell_of_block hx2 (j := 2) rfl⟩ | exact ⟨cell_of_block hx3 (j := 0) rfl, cell_of_block hx3 (j := 1) rfl, cell_of_block hx3 (j := 2) rfl⟩)
        (first
          | (go_at_call 51; refine (H1.out _).mono ?_; rintro e w2 ⟨rfl, hb2⟩; have hb3 := (below_drew (Below.refl wr.heap.size wr)).trans hb2; have hx2 := (hb3.block _ (lt_there HXr.out)).trans HXr.out; have hd2 := HDr.out.later hb3)
          | (go_at_call 37; refine (dread_ok hd2 (f + 2 + k) (by omega) hbig hf).mono ?_; rintro e w3 ⟨v, rfl, ho, hd3, hk3⟩; have hx3 := box_after hx2 hk3 HF.out.1))
      obtain ⟨av, cv, rfl, hsv, hlov⟩ := ho
      have hz3 := hb3.size
      have hk4 : Keeps (fun j => F j ∨ j = w.heap.size + 1) w1 w3 := (HKr.out.trans (Keeps.of_below (fun _ => False) hb3) (fun _ h => h.elim)).trans hk3 (fun _ h => .inl (.inl h))
      have hring3 := ((HRg.out.keep (Keeps.of_below (fun _ => False) hb3) (fun h => h) (fun _ h => h.elim)).keep hk3 HF.out.2 (fun j hj => by have := HL.out j hj; omega))
      have hp := pieceOf_any av _ cv (S.now (f + 2 + k)) w3 hsv (HBY.out.now _)
      rw [show pcOf (S.now (f + 2 + k)) = R k by rw [HRR.out]] at hp
      have HR3 := Hid.mk hring3
      have HD3 := Hid.mk hd3
      have HK4 := Hid.mk hk4
      clear hb2 hb3 hx2 hx3 hd2 hd3 hk3 hk4 hring3 hsv hlov c0 c1 c2
      go_wp2_with fail
      refine hp.mono ?_
      rintro e w4 ⟨a4, k4, rfl, hs4, hlo4, hb4⟩
      have hr4 := HR3.out.keep (Keeps.of_below (fun _ => False) hb4) (fun h => h) (fun _ h => h.elim)
      have hz4 := HK4.out.size
      have hth : w4.there (w.heap.size + 1) (k * 5) (pieceC ((R k).e : Int) ((R k).p : Int) ((R k).i : Int) ((R k).c : Int) a4 (R k).d.length k4).size := fun j hj => by
        obtain ⟨v, e⟩ := hr4.spot q j hj
        exact ⟨by rw [e]; rfl, hr4.fz _⟩
      have HTh := Hid.mk hth
      have hsn := hr4.snoc q (by omega) a4 k4 hs4 (fun y hy => by have := hlo4 y hy; omega)
      have hks := keeps_set5at w4 (w.heap.size + 1) (k * 5) (.int .i64 ((R k).e : Int)) (.int .i64 ((R k).p : Int)) (.int .i64 ((R k).i : Int)) (.int .i64 ((R k).c : Int)) (.slice a4 (R k).d.length k4)
      have hk5 := (HK4.out.trans (Keeps.of_below (fun _ => False) hb4) (fun _ h => h.elim)).trans hks (fun _ h => .inl (.inr h))
      have hd5 := (HD3.out.later hb4).keep hks (fun j hj e => HF.out.2 (e ▸ hj))
      have HS := Hid.mk (And.intro hsn (And.intro hd5 hk5))
      have hkn : (0 : Int) ≤ (k : Int) := by omega
      clear hr4 hsn hks hk5 hd5 hs4 hlo4 hb4 hp hth
      go_wp2_with (refine wpList_store_mid rfl 74 _ _ rfl (w.heap.size + 1) (k * 5) (pieceC ((R k).e : Int) ((R k).p : Int) ((R k).i : Int) ((R k).c : Int) a4 (R k).d.length k4) rfl rfl ?s1 ?s2 ?s3 ?_)
      case s1 => exact HTh.out
      case s2 => exact infoPiece
      case s3 => simp [Value.oneCell']
      go_roundw
      case rel => exact ⟨k + 1, by omega, by go_num, HS.out⟩
      case measure => simp [intOf]; omega
    · have q' : ¬ (k : Int) < (n : Int) := by omega
      obtain rfl : k = n := by omega
      have HZ := Hid.mk (And.intro hring (And.intro hd hkp))
      clear hring hd hkp
      go_wp2
      go_ret2
      refine ⟨_, rfl, ⟨w.heap.size + 1, w1.heap.size, rfl, by omega, by omega, HRR.out ▸ HZ.out.1⟩, HZ.out.2.1, ?_⟩
      exact (Keeps.of_below F HB1.out).trans HZ.out.2.2 (fun j hj => by
        rcases hj with hj | hj
        · exact .inl hj
        · exact .inr (by omega))

/-- A piece's cells in a row. -/
theorem PieceAt.range {w : World} {B g i : Nat} {q : PC} (h : PieceAt w B g i q) : ∃ a k, w.rangeAt g (i * 5) (pieceC (q.e : Int) (q.p : Int) (q.i : Int) (q.c : Int) a q.d.length k).toList ∧ Src w a q.d.length q.d ∧ ∀ y, a = some y → B ≤ y.block := by
  obtain ⟨a, k, h0, h1, h2, h3, h4, h5, h6⟩ := h
  refine ⟨a, k, fun j v hv => ?_, h5, h6⟩
  match j, hv with
  | 0, hv => cases hv; exact h0
  | 1, hv => cases hv; exact h1
  | 2, hv => cases hv; exact h2
  | 3, hv => cases hv; exact h3
  | 4, hv => cases hv; exact h4
  | j + 5, hv => simp at hv

set_option maxRecDepth 20000 in
set_option maxHeartbeats 4000000 in
theorem top_any {w : World} {B g n : Nat} {R : Nat → PC} (h : RingTo w B g n n R) (hn : n ≤ 256) :
    Calls Tryz.prog 69 #[.slice (some ⟨g, 0, none⟩) n n] w fun e w' => e = .returned (.int .i64 ((rtop R n : Nat) : Int)) ∧ Below w.heap.size w w' := by
  have H := Hid.mk h
  clear h
  go_enter Tryz.func69, Tryz.ntmps69
  go_wp2
  go_loopw [3, 8] (fun r i wr => ∃ k : Nat, k ≤ n ∧ i = .int .i64 k ∧ r = .int .i64 ((rtop R k : Nat) : Int) ∧ Below w.heap.size w wr) (fun _ i _ => n - (intOf i).toNat)
  case atStart => exact ⟨0, Nat.zero_le _, rfl, rfl, Below.refl _ _⟩
  case round =>
    obtain ⟨k, hk, rfl, rfl, hb⟩ := hrel
    by_cases q : k < n
    · have q' : (k : Int) < (n : Int) := by omega
      have q0 : (0 : Int) ≤ (k : Int) := by omega
      obtain ⟨a, c, hrg, _, _⟩ := ((H.out.2 k q).later hb).range
      have HRg := Hid.mk hrg
      clear hrg
      have hle := rtop_le R k
      have HB := Hid.mk (fun o => hb.trans ((below_box wr o).mono hb.size))
      clear hb
      by_cases m : (R k).e ≤ 1073741824
      · have m' : ((R k).e : Int) ≤ 1073741824 := by omega
        have hr : Hid (rtop R (k + 1) = max (rtop R k) (R k).e) := by rw [rtop, if_pos m]; exact rfl
        go_wp2_with (refine wpList_load_mid rfl 74 _ rfl g (k * 5) rfl (pieceC ((R k).e : Int) ((R k).p : Int) ((R k).i : Int) ((R k).c : Int) a (R k).d.length c).toList _ HRg.out Tryz.underlying74 rfl infoPiece ?_)
        go_roundw
        case rel => exact ⟨k + 1, by omega, by go_num, by rw [hr.out]; congr 1; omega, HB.out _⟩
        case measure => simp [intOf]; omega
      · have m' : ¬ ((R k).e : Int) ≤ 1073741824 := by omega
        have hr : Hid (rtop R (k + 1) = rtop R k) := by rw [rtop, if_neg m]; exact rfl
        go_wp2_with (refine wpList_load_mid rfl 74 _ rfl g (k * 5) rfl (pieceC ((R k).e : Int) ((R k).p : Int) ((R k).i : Int) ((R k).c : Int) a (R k).d.length c).toList _ HRg.out Tryz.underlying74 rfl infoPiece ?_)
        go_roundw
        case rel => exact ⟨k + 1, by omega, by go_num, by rw [hr.out], HB.out _⟩
        case measure => simp [intOf]; omega
    · have q' : ¬ (k : Int) < (n : Int) := by omega
      obtain rfl : k = n := by omega
      have HB := Hid.mk hb
      clear hb
      go_wp2
      go_ret
      exact ⟨rfl, HB.out⟩
end Go.Proofs.YtllkjmbcjlbmbaaGreat
end

section
namespace Go.Proofs.YtllkjmbcjlbmbaaGreat

/-- Whether a piece is the one that is due. -/
def isB (q : PC) (E P i c : Nat) : Bool := decide (q.e = E ∧ q.p = P ∧ q.i = i ∧ q.c = c ∧ 0 < q.d.length ∧ (i + 1 ≠ c → q.d.length = 492) ∧ 1 ≤ c ∧ c ≤ 17)
theorem isB_iff {q : PC} {E P i c : Nat} : isB q E P i c = true ↔ q.ok E P i c ∧ 1 ≤ c ∧ c ≤ 17 := by
  unfold isB PC.ok
  rw [decide_eq_true_iff]
  constructor
  · rintro ⟨h1, h2, h3, h4, h5, h6, h7, h8⟩; exact ⟨⟨h1, h2, h3, h4, h5, h6⟩, h7, h8⟩
  · rintro ⟨⟨h1, h2, h3, h4, h5, h6⟩, h7, h8⟩; exact ⟨h1, h2, h3, h4, h5, h6, h7, h8⟩

/-- The state of the program's scan. -/
structure SS where
  rs : List (List Int)
  rc : List Int
  hd : Nat
  ps : Nat
  j : Nat
  c : Nat

section
variable (R : Nat → PC) (E T n : Nat)
def SS.due (st : SS) (x : Nat) : Nat := if st.j = 0 then (R ((T + x) % n)).c else st.c
def SS.goes (st : SS) (x : Nat) : Bool := isB (R ((T + x) % n)) E (T + x) st.j (st.due R T n x)
def SS.next (st : SS) (x : Nat) : SS :=
  if (R ((T + x) % n)).i + 1 = (R ((T + x) % n)).c then ⟨st.rs ++ [st.rc ++ (R ((T + x) % n)).d], [], T + x + 1, T + x, 0, st.due R T n x⟩
  else ⟨st.rs, st.rc ++ (R ((T + x) % n)).d, st.hd, T + x, st.j + 1, st.due R T n x⟩
def SS.start : SS := ⟨[], [], T, 0, 0, 0⟩
def srun : List Nat → SS → Option SS
  | [], st => some st
  | x :: xs, st => if st.goes R E T n x = true then srun xs (st.next R T n x) else none
end

theorem srun_snoc (R : Nat → PC) (E T n : Nat) : ∀ (xs : List Nat) (st st' : SS) (x : Nat), srun R E T n xs st = some st' → st'.goes R E T n x = true → srun R E T n (xs ++ [x]) st = some (st'.next R T n x)
  | [], st, st', x, h, hg => by
    cases h
    show (if _ then _ else _) = _
    rw [if_pos hg]
    rfl
  | y :: ys, st, st', x, h, hg => by
    show (if st.goes R E T n y = true then srun R E T n (ys ++ [x]) (st.next R T n y) else none) = _
    unfold srun at h
    split at h
    · rename_i h1
      rw [if_pos h1]
      exact srun_snoc R E T n ys _ st' x h hg
    · cases h
theorem srun_split (R : Nat → PC) (E T n : Nat) : ∀ (xs : List Nat) (st st' : SS) (x : Nat), srun R E T n (xs ++ [x]) st = some st' → ∃ s1, srun R E T n xs st = some s1 ∧ s1.goes R E T n x = true ∧ st' = s1.next R T n x
  | [], st, st', x, h => by
    have h : (if st.goes R E T n x = true then srun R E T n [] (st.next R T n x) else none) = some st' := h
    split at h
    · rename_i h1
      cases h
      exact ⟨st, rfl, h1, rfl⟩
    · cases h
  | y :: ys, st, st', x, h => by
    have h : (if st.goes R E T n y = true then srun R E T n (ys ++ [x]) (st.next R T n y) else none) = some st' := h
    split at h
    · rename_i h1
      obtain ⟨s1, h2, h3, h4⟩ := srun_split R E T n ys _ st' x h
      refine ⟨s1, ?_, h3, h4⟩
      show (if _ then _ else _) = _
      rw [if_pos h1]
      exact h2
    · cases h

theorem srun_small (R : Nat → PC) (E T n : Nat) (hd : ∀ i, (R i).d.length ≤ 492) (hc : ∀ i, (R i).c ≤ 65536) : ∀ (k : Nat) (xs : List Nat) (st : SS), xs.length = k → srun R E T n xs (SS.start T) = some st → st.rs.length ≤ k ∧ st.rc.length ≤ 492 * k ∧ st.j ≤ k ∧ st.c ≤ 65536
  | 0, xs, st, hl, h => by
    obtain rfl := List.eq_nil_of_length_eq_zero hl
    cases h
    exact ⟨Nat.le_refl _, Nat.le_refl _, Nat.le_refl _, Nat.zero_le _⟩
  | k + 1, xs, st, hl, h => by
    obtain ⟨ys, x, rfl⟩ : ∃ ys x, xs = ys ++ [x] := by
      have hne : xs ≠ [] := by intro e; rw [e] at hl; cases hl
      exact ⟨xs.dropLast, xs.getLast hne, (List.dropLast_concat_getLast hne).symm⟩
    obtain ⟨s1, h1, h2, rfl⟩ := srun_split R E T n ys _ st x h
    have ih := srun_small R E T n hd hc k ys s1 (by simpa using hl) h1
    have h3 := hd ((T + x) % n)
    have h4 := hc ((T + x) % n)
    have h5 : s1.due R T n x ≤ 65536 := by unfold SS.due; split <;> omega
    unfold SS.next
    split
    · refine ⟨?_, ?_, ?_, h5⟩
      · simp; omega
      · simp
      · simp
    · refine ⟨?_, ?_, ?_, h5⟩
      · show s1.rs.length ≤ _; omega
      · show (s1.rc ++ _).length ≤ _; rw [List.length_append]; omega
      · show s1.j + 1 ≤ _; omega

/-- What the pieces say, by position. -/
def Rp (R : Nat → PC) (n : Nat) (P : Nat) : PC := R (P % n)
theorem Rp_round (R : Nat → PC) (n : Nat) (q : Nat) : Rp R n (q + n) = Rp R n q := by unfold Rp; rw [Nat.add_mod_right]
theorem SS.due_eq (R : Nat → PC) (T n : Nat) {st : SS} {k : Nat} (hk : st.hd + st.j = T + k) : st.due R T n k = dueC (Rp R n) st.hd st.j st.c := by
  unfold SS.due dueC
  split
  · rename_i h
    rw [show T + k = st.hd by omega]
    rfl
  · rfl
theorem srun_scan (R : Nat → PC) (E T n : Nat) : ∀ (k : Nat) (st : SS), srun R E T n (List.range k) (SS.start T) = some st → Scan (Rp R n) E T st.rs st.hd st.j st.c st.rc ∧ st.hd + st.j = T + k
  | 0, st, h => by
    cases h
    exact ⟨Scan.start _ _ _ _, rfl⟩
  | k + 1, st, h => by
    rw [List.range_succ] at h
    obtain ⟨s1, h1, h2, rfl⟩ := srun_split R E T n _ _ st k h
    obtain ⟨hs, hp⟩ := srun_scan R E T n k s1 h1
    have hd := SS.due_eq R T n hp
    unfold SS.goes at h2
    rw [isB_iff, hd, ← hp] at h2
    have hq : R ((s1.hd + s1.j) % n) = Rp R n (s1.hd + s1.j) := rfl
    rw [hq] at h2
    have hi := h2.1.2.2.1
    have hc := h2.1.2.2.2.1
    unfold SS.next
    rw [hd, ← hp, hq, hi, hc]
    split
    · rename_i h3
      refine ⟨hs.full h2.1 h2.2.2 h3 _, by show s1.hd + s1.j + 1 + 0 = _; omega⟩
    · rename_i h3
      have hlt : s1.j < dueC (Rp R n) s1.hd s1.j s1.c := by
        by_cases e : s1.j = 0
        · rw [e] at h2 ⊢; omega
        · have := (hs.c (by omega)).2.2
          unfold dueC
          rw [if_neg e]
          exact this
      refine ⟨hs.grow h2.1 h2.2.1 h2.2.2 h3 hlt, by show s1.hd + (s1.j + 1) = _; omega⟩
/-- The scan's end, where a piece is not the one that is due. -/
theorem scan_stop (R : Nat → PC) (E T n k : Nat) (st : SS) (h : srun R E T n (List.range k) (SS.start T) = some st) (hg : st.goes R E T n k = false) : Tells (Rp R n) E T st.rs st.hd ∧ ∀ c d, ¬ Rec (Rp R n) E st.hd c d := by
  obtain ⟨hs, hp⟩ := srun_scan R E T n k st h
  refine ⟨hs.t, hs.ends (fun hk => ?_)⟩
  have hd := SS.due_eq R T n hp
  unfold SS.goes at hg
  rw [hd, ← hp] at hg
  have := (isB_iff (q := Rp R n (st.hd + st.j))).2 hk
  rw [show R ((st.hd + st.j) % n) = Rp R n (st.hd + st.j) from rfl, this] at hg
  cases hg
/-- The scan's end, once around. -/
theorem scan_done (R : Nat → PC) (E T n : Nat) (hn : 1 ≤ n) (st : SS) (h : srun R E T n (List.range n) (SS.start T) = some st) : Tells (Rp R n) E T st.rs st.hd ∧ ∀ c d, ¬ Rec (Rp R n) E st.hd c d := by
  obtain ⟨hs, hp⟩ := srun_scan R E T n n st h
  exact ⟨hs.t, hs.round hn (Rp_round R n) hp⟩
end Go.Proofs.YtllkjmbcjlbmbaaGreat
end

section
namespace Go.Proofs.YtllkjmbcjlbmbaaGreat
open Go.RowKit

theorem infoMark : (Tryz.prog.info? 68).map (·.size) = some 4 := by kernel_rfl
abbrev markV (e q i c : Int) : Value := .agg #[.int .i64 e, .int .i64 q, .int .i64 i, .int .i64 c]

set_option maxRecDepth 20000 in
set_option maxHeartbeats 4000000 in
theorem last_any (e q i c : Nat) (w : World) (hc : c ≤ 100000) :
    Calls Tryz.prog 88 #[markV e q i c] w fun r w' => r = .returned (.bool (decide (i + 1 = c))) ∧ Below w.heap.size w w' := by
  have HB := Hid.mk (below_box w (.cells #[.int .i64 (e : Int), .int .i64 (q : Int), .int .i64 (i : Int), .int .i64 (c : Int)] 68))
  have hd : decide (i + 1 = c) = ((i : Int) == (c : Int) - 1) := by
    rw [Bool.eq_iff_iff]
    simp only [decide_eq_true_eq, beq_iff_eq]
    omega
  rw [hd]
  clear hd
  go_enter Tryz.func88, Tryz.ntmps88
  go_wp2
  go_ret
  exact ⟨rfl, HB.out⟩

set_option maxRecDepth 20000 in
set_option maxHeartbeats 4000000 in
theorem next_any (e q i c : Nat) (w : World) (h1 : q ≤ 4294967296) (h2 : i ≤ 4294967296) :
    Calls Tryz.prog 33 #[markV e q i c] w fun r w' => r = .returned (markV e ((q + 1 : Nat) : Int) ((i + 1 : Nat) : Int) c) ∧ Below w.heap.size w w' := by
  have e1 : ((q + 1 : Nat) : Int) = (q : Int) + 1 := by omega
  have e2 : ((i + 1 : Nat) : Int) = (i : Int) + 1 := by omega
  rw [e1, e2]
  clear e1 e2
  go_enter Tryz.func33, Tryz.ntmps33
  go_wp2
  exact bodyPost_ret (results_cell_row (P := Tryz.prog) rfl _ _ (w.heap.size + 1) 68 #[.int .i64 (e : Int), .int .i64 ((q : Int) + 1), .int .i64 ((i : Int) + 1), .int .i64 (c : Int)] (0, 0) _ rfl (by have := heap_alloc_new (w.alloc (.cells #[.int .i64 (e : Int), .int .i64 ((q : Int) + 1), .int .i64 ((i : Int) + 1), .int .i64 (c : Int)] 68)) (.cells #[.int .i64 (e : Int), .int .i64 ((q : Int) + 1), .int .i64 ((i : Int) + 1), .int .i64 (c : Int)] 68); rwa [World.size_alloc] at this) Tryz.underlying68 rfl infoMark) rfl ⟨rfl, below_two _ _ _⟩

set_option maxRecDepth 20000 in
set_option maxHeartbeats 4000000 in
theorem is_no (q : PC) (a : Option Addr) (n k : Nat) (E P i c : Nat) (w : World) (h : ¬ (q.e = E ∧ q.p = P ∧ q.i = i ∧ q.c = c)) :
    Calls Tryz.prog 87 #[pieceV q.e q.p q.i q.c a n k, markV E P i c] w fun r w' => r = .returned (.bool false) ∧ Below w.heap.size w w' := by
  go_enter Tryz.func87, Tryz.ntmps87
  go_wp2
  all_goals first | (go_ret; exact ⟨rfl, below_two _ _ _⟩) | (exfalso; omega)

set_option maxRecDepth 20000 in
set_option maxHeartbeats 4000000 in
theorem is_yes (e p i c : Nat) (d : List Int) (a : Option Addr) (k : Nat) (w : World) :
    Calls Tryz.prog 87 #[pieceV e p i c a d.length k, markV e p i c] w fun r w' => r = .returned (.bool (isB ⟨e, p, i, c, d⟩ e p i c)) ∧ Below w.heap.size w w' := by
  by_cases h1 : c < 1
  · have h1' : (c : Int) < 1 := by omega
    rw [show isB ⟨e, p, i, c, d⟩ e p i c = false by unfold isB; rw [decide_eq_false_iff_not]; omega]
    go_enter Tryz.func87, Tryz.ntmps87
    go_wp2
    go_ret
    exact ⟨rfl, below_two _ _ _⟩
  · have h1' : ¬ (c : Int) < 1 := by omega
    by_cases h2 : 17 < c
    · have h2' : 17 < (c : Int) := by omega
      rw [show isB ⟨e, p, i, c, d⟩ e p i c = false by unfold isB; rw [decide_eq_false_iff_not]; omega]
      go_enter Tryz.func87, Tryz.ntmps87
      go_wp2
      go_ret
      exact ⟨rfl, below_two _ _ _⟩
    · have h2' : ¬ 17 < (c : Int) := by omega
      have hl := fun wx => last_any e p i c wx (by omega)
      have HB := Hid.mk (below_two w (.cells (pieceC e p i c a d.length k) 74) (.cells #[.int .i64 (e : Int), .int .i64 (p : Int), .int .i64 (i : Int), .int .i64 (c : Int)] 68))
      have hx0 : ((w.alloc (.cells (pieceC e p i c a d.length k) 74)).alloc (.cells #[.int .i64 (e : Int), .int .i64 (p : Int), .int .i64 (i : Int), .int .i64 (c : Int)] 68)).heap[w.heap.size]? = some (.cells (pieceC e p i c a d.length k) 74 (0, 0)) := (Below.heap_alloc _ _ _ (by simp)).trans (heap_alloc_new _ _)
      have HX := Hid.mk hx0
      clear hx0
      by_cases h3 : i + 1 = c
      · rw [show isB ⟨e, p, i, c, d⟩ e p i c = decide (0 < d.length) by unfold isB; rw [decide_eq_decide]; constructor; (intro h; exact h.2.2.2.2.1); (intro h; exact ⟨rfl, rfl, rfl, rfl, h, fun h' => absurd h3 h', by omega, by omega⟩)]
        rw [show decide (i + 1 = c) = true by rw [decide_eq_true_eq]; exact h3] at hl
        go_enter Tryz.func87, Tryz.ntmps87
        go_wp2_with fail
        refine (hl _).mono ?_
        rintro r w1 ⟨rfl, hb1⟩
        have c4 : w1.cell? ⟨w.heap.size, 4, none⟩ = some (.slice a d.length k) := cell_of_block ((hb1.block _ (by simp; omega)).trans HX.out) (j := 4) rfl
        have HB1 := Hid.mk (HB.out.trans (hb1.mono HB.out.size))
        clear hb1 hl
        go_wp2
        go_ret
        exact ⟨rfl, HB1.out⟩
      · rw [show isB ⟨e, p, i, c, d⟩ e p i c = ((d.length : Int) == 492) by unfold isB; rw [Bool.eq_iff_iff]; rw [decide_eq_true_iff, beq_iff_eq]; constructor; (intro h; have : d.length = 492 := h.2.2.2.2.2.1 h3; omega); (intro h; exact ⟨rfl, rfl, rfl, rfl, by show 0 < d.length; omega, fun _ => by show d.length = 492; omega, by omega, by omega⟩)]
        rw [show decide (i + 1 = c) = false by rw [decide_eq_false_iff_not]; exact h3] at hl
        go_enter Tryz.func87, Tryz.ntmps87
        go_wp2_with fail
        refine (hl _).mono ?_
        rintro r w1 ⟨rfl, hb1⟩
        have c4 : w1.cell? ⟨w.heap.size, 4, none⟩ = some (.slice a d.length k) := cell_of_block ((hb1.block _ (by simp; omega)).trans HX.out) (j := 4) rfl
        have HB1 := Hid.mk (HB.out.trans (hb1.mono HB.out.size))
        clear hb1 hl
        go_wp2
        go_ret
        exact ⟨rfl, HB1.out⟩

theorem is_any (q : PC) (a : Option Addr) (k : Nat) (E P i c : Nat) (w : World) :
    Calls Tryz.prog 87 #[pieceV q.e q.p q.i q.c a q.d.length k, markV E P i c] w fun r w' => r = .returned (.bool (isB q E P i c)) ∧ Below w.heap.size w w' := by
  by_cases h : q.e = E ∧ q.p = P ∧ q.i = i ∧ q.c = c
  · obtain ⟨rfl, rfl, rfl, rfl⟩ := h
    exact is_yes q.e q.p q.i q.c q.d a k w
  · rw [show isB q E P i c = false by unfold isB; rw [decide_eq_false_iff_not]; exact fun h' => h ⟨h'.1, h'.2.1, h'.2.2.1, h'.2.2.2.1⟩]
    exact is_no q a q.d.length k E P i c w h
end Go.Proofs.YtllkjmbcjlbmbaaGreat
end

section
namespace Go.Proofs.YtllkjmbcjlbmbaaGreat
open Go.RowKit Go.Shelf

attribute [local go_sem] Oper.semAt_some

/-- What a round keeps: what lay below n₀, and the iterator's own boxes. -/
def KpB (n₀ b c : Nat) (W W' : World) : Prop := Below n₀ W W' ∧ W'.heap[b]? = W.heap[b]? ∧ W'.heap[c]? = W.heap[c]?
theorem KpB.t {n₀ b c : Nat} {A B C : World} (h : KpB n₀ b c A B) (k : KpB n₀ b c B C) : KpB n₀ b c A C := ⟨h.1.trans k.1, k.2.1.trans h.2.1, k.2.2.trans h.2.2⟩
theorem KpB.b {n₀ b c : Nat} {w : World} (hn : n₀ ≤ w.heap.size) (hb : b < w.heap.size) (hc : c < w.heap.size) (W : World) (l : Nat) (o o' : Obj) (hl : w.heap.size ≤ l) (h : W.heap[l]? = some o) (h1 : o.isCells = false) (h2 : o.isWalk = false) : KpB n₀ b c W (W.putObj l o') :=
  ⟨belowK_b hn W l o o' hl h h1 h2, World.putObj_heap_other (by omega), World.putObj_heap_other (by omega)⟩
theorem KpB.refl (n₀ b c : Nat) (W : World) : KpB n₀ b c W W := ⟨Below.refl _ _, rfl, rfl⟩

/-- The pieces of a ring, as they lie: where their data are. -/
structure RingV (w : World) (n₀ g n : Nat) (R : Nat → PC) (A : Nat → Option Addr) (C : Nat → Nat) : Prop where
  lt : g < n₀
  p : ∀ i, i < n → w.rangeAt g (i * 5) (pieceC ((R i).e : Int) ((R i).p : Int) ((R i).i : Int) ((R i).c : Int) (A i) (R i).d.length (C i)).toList
theorem RingV.below {w w' : World} {n₀ g n : Nat} {R : Nat → PC} {A : Nat → Option Addr} {C : Nat → Nat} (h : RingV w n₀ g n R A C) (hb : Below n₀ w w') : RingV w' n₀ g n R A C :=
  ⟨h.lt, fun i hi j v hv => (hb.cell (p := ⟨g, i * 5 + j, none⟩) h.lt).trans (h.p i hi j v hv)⟩

set_option maxRecDepth 20000 in
set_option maxHeartbeats 4000000 in
theorem from_any (g n T : Nat) (w : World) :
    Calls Tryz.prog 86 #[.slice (some ⟨g, 0, none⟩) n n, .int .i64 (T : Int)] w fun e w' => e = .returned (.func (.func 106) #[] #[.pointer (some ⟨w.heap.size, 0, none⟩), .pointer (some ⟨w.heap.size + 1, 0, none⟩)]) ∧ w' = (w.alloc (.cells #[.slice (some ⟨g, 0, none⟩) n n] 112)).alloc (.cells #[.int .i64 (T : Int)] 3) := by
  go_enter Tryz.func86, Tryz.ntmps86
  go_wp2
  go_ret
  exact ⟨rfl, rfl⟩

/-- What is handed to the loop's body. -/
def encR (n T : Nat) (R : Nat → PC) (A : Nat → Option Addr) (C : Nat → Nat) (x : Fin n) : Array Value :=
  #[.int .i64 ((T : Int) + (x.1 : Int)), pieceV ((R ((T + x.1) % n)).e : Int) ((R ((T + x.1) % n)).p : Int) ((R ((T + x.1) % n)).i : Int) ((R ((T + x.1) % n)).c : Int) (A ((T + x.1) % n)) (R ((T + x.1) % n)).d.length (C ((T + x.1) % n))]

/-- The first k, in their order. -/
def InO {n : Nat} (xs : List (Fin n)) (k : Nat) : Prop := xs.map Fin.val = List.range k
theorem InO.nil {n : Nat} : InO ([] : List (Fin n)) 0 := rfl
theorem InO.length {n : Nat} {xs : List (Fin n)} {k : Nat} (h : InO xs k) : xs.length = k := by have := congrArg List.length h; simpa using this
theorem InO.snoc {n : Nat} {xs : List (Fin n)} {k : Nat} (h : InO xs k) (hk : k < n) : InO (xs ++ [⟨k, hk⟩]) (k + 1) := by
  unfold InO at *
  rw [List.map_append, h, List.range_succ]
  rfl
theorem round_bool {F : Fence} {n : Nat} {P : Program} {l f : Nat} {tmps : Array Value} {assign body : Code} {w : World} {A B : World → Prop}
    (h : RoundIn F n P l f tmps assign body w fun e W' => (e = .returned (.bool true) ∧ A W') ∨ (e = .returned (.bool false) ∧ B W')) :
    RoundIn F n P l f tmps assign body w fun e W' => ∃ r, e = .returned (.bool r) ∧ (r = true → A W') ∧ (r = false → B W') :=
  h.mono fun e W' h => by
    rcases h with ⟨rfl, h⟩ | ⟨rfl, h⟩
    · exact ⟨true, rfl, fun _ => h, fun e => by cases e⟩
    · exact ⟨false, rfl, fun e => (by cases e), fun _ => h⟩

set_option maxRecDepth 100000 in
set_option maxHeartbeats 4000000 in
theorem from1_in (m : Nat) (hm : 1 ≤ m) (l Bs Bp n₀ g n T : Nat) (R : Nat → PC) (A : Nat → Option Addr) (C : Nat → Nat) (hn : 1 ≤ n) (hn2 : n ≤ 256) (hT : T ≤ 1073741824) (J Jx : List (Fin n) → World → Prop)
    (hY : ∀ pre (x : Fin n) W, J pre W → pre.length < n → YieldAt Fence.wide (m - 1) Tryz.prog l (encR n T R A C x) W fun e W' =>
      (e = .returned (.bool true) ∧ J (pre ++ [x]) W' ∧ KpB n₀ Bs Bp W W') ∨ (e = .returned (.bool false) ∧ Jx (pre ++ [x]) W'))
    (W : World) (hBs : W.heap[Bs]? = some (.cells #[.slice (some ⟨g, 0, none⟩) n n] 112 (0, 0))) (hBp : W.heap[Bp]? = some (.cells #[.int .i64 (T : Int)] 3 (0, 0))) (hR : RingV W n₀ g n R A C) (hJ : AbidesFrom W.heap.size J) (h0 : J [] W) :
    CallsIn Fence.wide m Tryz.prog 106 #[.func (.yield l) #[] #[], .pointer (some ⟨Bs, 0, none⟩), .pointer (some ⟨Bp, 0, none⟩)] W fun e W' => (∃ v, e = .returned v) ∧
      ((∃ ys, InO ys n ∧ J ys W') ∨ (∃ pre, (∃ k, k < n ∧ InO pre (k + 1)) ∧ Jx pre W')) := by
  have hs0 := cell_of_block hBs (j := 0) rfl
  refine callsIn_of_wp Tryz.func106 rfl trivial ?_ rfl
  simp only [Tryz.ntmps106, List.size_toArray, List.length_cons, List.length_nil, Nat.reduceAdd, Nat.reduceSub, Array.replicate_succ, Array.replicate_zero, List.push_toArray, List.append_toArray, List.nil_append, List.cons_append]
  gi_wp2
  gi_loopw [8] (fun i wr => ∃ (k : Nat) (pre : List (Fin n)), k ≤ n ∧ i = .int .i64 k ∧ InO pre k ∧ J pre wr ∧ KpB n₀ Bs Bp W wr)
    (fun i _ => n - (intOf i).toNat)
  case atStart => exact ⟨0, [], Nat.zero_le _, rfl, InO.nil, h0, KpB.refl _ _ _ _⟩
  case round =>
    obtain ⟨k, pre, hk, rfl, hpre, hJs, hkp⟩ := hrel
    have hlen : pre.length = k := hpre.length
    by_cases hlt : k < n
    · have hs1 := cell_of_block (hkp.2.1.trans hBs) (j := 0) rfl
      have hp1 := cell_of_block (hkp.2.2.trans hBp) (j := 0) rfl
      have hJd : J pre wr.drew := hJ pre wr wr.drew none hJs ⟨rfl, rfl, rfl, Nat.le_refl _, fun _ _ _ => rfl⟩ (fun r e => by cases e)
      obtain ⟨fn, tmps, assign, body, hy, hRo⟩ := hY pre ⟨k, hlt⟩ wr.drew hJd (by omega)
      have hmx : Tryz.prog.follows .mixedOrders = true := by kernel_rfl
      have hlt' : (k : Int) < (n : Int) := by omega
      have hrg := (hR.below hkp.1).p ((T + k) % n) (Nat.mod_lt _ hn)
      have hxn := Nat.mod_lt (T + k) hn
      have hx : ((T : Int) + (k : Int)).tmod (n : Int) = (((T + k) % n : Nat) : Int) := by rw [Int.tmod_eq_emod_of_nonneg (by omega), ← Int.natCast_add, ← Int.natCast_emod]
      have hx2 : ((T : Int) + (k : Int)) % (n : Int) = (((T + k) % n : Nat) : Int) := by rw [← Int.natCast_add, ← Int.natCast_emod]
      have hz : ((n : Int) == 0) = false := by rw [Bool.eq_false_iff, ne_eq, beq_iff_eq]; omega
      dsimp only [encR] at hy
      generalize (T + k) % n = x at *
      have e0 := hrg 0 _ rfl
      have e1 := hrg 1 _ rfl
      have e2 := hrg 2 _ rfl
      have e3 := hrg 3 _ rfl
      have e4 := hrg 4 _ rfl
      rw [Nat.add_zero] at e0
      have hxn' : (x : Int) < (n : Int) := by omega
      have hx0 : (0 : Int) ≤ (x : Int) := by omega
      have hRo' := round_bool hRo
      have HK := Hid.mk hkp
      have HJ := Hid.mk hJ
      have HR := Hid.mk hR
      have HPre := Hid.mk hpre
      clear hrg hRo hY hJs hJd hkp hJ hR hpre
      gi_wp2
      gi_region_with_o ((refine hRo'.mono ?_; rintro e W3 ⟨r, rfl, hr1, hr2⟩; have HR1 := Hid.mk hr1; have HR2 := Hid.mk hr2; clear hr1 hr2))
      all_goals
        cases r
        · gi_wp2
          refine bodyPost_ret (results_none rfl _ _ _) rfl ?_
          exact ⟨⟨_, rfl⟩, .inr ⟨_, ⟨k, hlt, HPre.out.snoc hlt⟩, HR2.out (by simp)⟩⟩
        · gi_wp2
          go_roundw
          case rel => exact ⟨k + 1, _, by omega, by go_num, HPre.out.snoc hlt, (HR1.out (by simp)).1, HK.out.t (KpB.t (B := wr.drew) ⟨below_drew (Below.refl _ _), rfl, rfl⟩ (HR1.out (by simp)).2)⟩
          case measure => simp [intOf]; omega
    · obtain rfl : k = n := by omega
      gi_wp2
      go_end0
      exact ⟨⟨_, rfl⟩, .inl ⟨pre, hpre, hJs⟩⟩

theorem from_stops (m : Nat) (hm : 1 ≤ m) (Bs Bp n₀ g n T : Nat) (R : Nat → PC) (A : Nat → Option Addr) (C : Nat → Nat) (hn : 1 ≤ n) (hn2 : n ≤ 256) (hT : T ≤ 1073741824) (w : World) (hn0 : n₀ ≤ w.heap.size)
    (hBs : w.heap[Bs]? = some (.cells #[.slice (some ⟨g, 0, none⟩) n n] 112 (0, 0))) (hBp : w.heap[Bp]? = some (.cells #[.int .i64 (T : Int)] 3 (0, 0))) (hR : RingV w n₀ g n R A C) :
    SeqStopsK Fence.wide m Tryz.prog 106 #[.pointer (some ⟨Bs, 0, none⟩), .pointer (some ⟨Bp, 0, none⟩)] (encR n T R A C) (KpB n₀ Bs Bp) (fun ys => InO ys n) (fun pre => ∃ k, k < n ∧ InO pre (k + 1)) n w :=
  fun l J Jx W hW hJ _ hY h0 => from1_in m hm l Bs Bp n₀ g n T R A C hn hn2 hT J Jx hY W ((hW.block _ (lt_there hBs)).trans hBs) ((hW.block _ (lt_there hBp)).trans hBp) (hR.below (hW.mono hn0)) hJ h0
end Go.Proofs.YtllkjmbcjlbmbaaGreat
end
