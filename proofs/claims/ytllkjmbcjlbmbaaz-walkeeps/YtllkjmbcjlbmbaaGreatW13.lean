import Derived.Test.YtllkjmbcjlbmbaaGreatW12
import Derived.Deep.RegionHeld3
section
namespace Go.Proofs.YtllkjmbcjlbmbaaGreat
open Go.RowKit

/-- A walk of steps that ends at the first error. -/
def stepsTo (S : DS) (g : Nat → DS → Int × DS) : Nat → Int × DS
  | 0 => (0, S)
  | k + 1 => if (stepsTo S g k).1 ≠ 0 then stepsTo S g k else g k (stepsTo S g k).2
theorem stepsTo_err {S : DS} {g : Nat → DS → Int × DS} {k : Nat} (h : (stepsTo S g k).1 ≠ 0) : ∀ m, k ≤ m → stepsTo S g m = stepsTo S g k
  | 0, hm => by rw [show k = 0 by omega]
  | m + 1, hm => by
    by_cases e : k = m + 1
    · rw [e]
    · have := stepsTo_err h m (by omega)
      show (if (stepsTo S g m).1 ≠ 0 then stepsTo S g m else g m (stepsTo S g m).2) = _
      rw [this, if_pos h]
theorem stepsTo_ok {S : DS} {g : Nat → DS → Int × DS} {k : Nat} (h : (stepsTo S g k).1 = 0) : stepsTo S g (k + 1) = g k (stepsTo S g k).2 := by
  rw [stepsTo, if_neg (by omega)]
theorem stepsTo_puts {S : DS} {g : Nat → DS → Int × DS} (hg : ∀ k T, (g k T).2.puts.length ≤ T.puts.length + 1) : ∀ k, (stepsTo S g k).2.puts.length ≤ S.puts.length + k
  | 0 => Nat.le_refl _
  | k + 1 => by
    have := stepsTo_puts hg k (S := S)
    have := hg k (stepsTo S g k).2
    unfold stepsTo
    split <;> omega

/-- The wiping of the first k sectors. -/
def wipeTo (S : DS) (s f k : Nat) : Int × DS := stepsTo S (fun j T => T.wr s ((f + j : Nat) : Int) 512 (zs 512)) k
def awipe (S : DS) (s f n : Nat) : Int × DS := if (wipeTo S s f (n + 2)).1 ≠ 0 then wipeTo S s f (n + 2) else (wipeTo S s f (n + 2)).2.fl s
theorem wipeTo_puts (S : DS) (s f k : Nat) : (wipeTo S s f k).2.puts.length ≤ S.puts.length + k := stepsTo_puts (fun _ _ => wr_puts _ _ _ _ _) k

theorem more_more {F : Nat → Prop} {w w1 w2 : World} (h1 : w.heap.size ≤ w1.heap.size) (h2 : w1.heap.size ≤ w2.heap.size) : ∀ k, more (more F w w1) w1 w2 k → more F w w2 k := fun k hk => by
  rcases hk with (hk | hk) | hk
  · exact .inl hk
  · exact .inr ⟨hk.1, by omega⟩
  · exact .inr ⟨by omega, hk.2⟩
theorem more_lt {F : Nat → Prop} {w w2 : World} (hl : ∀ k, F k → k < w.heap.size) (h2 : w.heap.size ≤ w2.heap.size) : ∀ k, more F w w2 k → k < w2.heap.size := fun k hk => by
  rcases hk with hk | hk
  · have := hl k hk; omega
  · exact hk.2
/-- A disk that has grown, told from an earlier world on. -/
theorem DiskR.from {w w1 w2 : World} {F : Nat → Prop} {p s : Nat} {S : DS} (h : DiskR w2 (Go.Proofs.YtllkjmbcjlbmbaaGreat.more F w1 w2) p s S) (hl : ∀ k, F k → k < w.heap.size) (h1 : w.heap.size ≤ w1.heap.size) (h2 : w1.heap.size ≤ w2.heap.size) : DiskR w2 (Go.Proofs.YtllkjmbcjlbmbaaGreat.more F w w2) p s S :=
  h.mono (fun k hk => by rcases hk with hk | hk; exact .inl hk; exact .inr ⟨by omega, hk.2⟩) (more_lt hl (by omega))
theorem DiskR.join {w w1 w2 : World} {F : Nat → Prop} {p s : Nat} {S : DS} (h : DiskR w2 (Go.Proofs.YtllkjmbcjlbmbaaGreat.more (Go.Proofs.YtllkjmbcjlbmbaaGreat.more F w w1) w1 w2) p s S) (hl : ∀ k, F k → k < w.heap.size) (h1 : w.heap.size ≤ w1.heap.size) (h2 : w1.heap.size ≤ w2.heap.size) : DiskR w2 (Go.Proofs.YtllkjmbcjlbmbaaGreat.more F w w2) p s S :=
  h.mono (more_more h1 h2) (more_lt hl (by omega))
theorem Keeps.join {w w1 w2 : World} {F : Nat → Prop} (h1 : Keeps F w w1) (h2 : Keeps (more F w w1) w1 w2) : Keeps F w w2 :=
  h1.trans h2 (fun j hj => by rcases hj with hj | hj; exact .inl hj; exact .inr hj.1)
/-- Widened by what is new. -/
theorem DiskR.wide {w w1 w2 : World} {F : Nat → Prop} {p s : Nat} {S : DS} (h : DiskR w2 (Go.Proofs.YtllkjmbcjlbmbaaGreat.more F w w1) p s S) (hl : ∀ k, F k → k < w.heap.size) (h1 : w.heap.size ≤ w1.heap.size) (h2 : w1.heap.size ≤ w2.heap.size) : DiskR w2 (Go.Proofs.YtllkjmbcjlbmbaaGreat.more F w w2) p s S :=
  h.mono (fun k hk => by rcases hk with hk | hk; exact .inl hk; exact .inr ⟨hk.1, by omega⟩) (more_lt hl (by omega))

set_option maxRecDepth 20000 in
set_option maxHeartbeats 8000000 in
theorem wipe_any {w : World} {F : Nat → Prop} {p s : Nat} {S : DS} (h : DiskR w F p s S) (f n : Nat) (hfn : f + 2 + n ≤ s) (hn : n ≤ 256) (hbig : S.puts.length + 400 ≤ 4000000000000) :
    Calls Tryz.prog 47 #[areaV p f n] w fun e w' => e = .returned (.int .i64 (awipe S s f n).1) ∧ DiskR w' (more F w w') p s (awipe S s f n).2 ∧ Keeps F w w' := by
  have hs := h.ok.hi
  have HL := Hid.mk h.lt
  have hB := (Below.refl w.heap.size w).alloc (Nat.le_refl _) (.cells #[.pointer (some ⟨p, 0, none⟩), .int .i64 f, .int .i64 n] 63)
  have HD0 := Hid.mk (h.boxed (.cells #[.pointer (some ⟨p, 0, none⟩), .int .i64 f, .int .i64 n] 63))
  have HB := Hid.mk hB
  clear h hB
  go_enter Tryz.func47, Tryz.ntmps47
  go_wp2_with (at_make; refine wpList_make_part _ rfl _ _ rfl _ 512 512 rfl rfl ?c1 ?c2 ?c3 ?_)
  case c1 => rfl
  case c2 => omega
  case c3 => omega
  intro w1 hblk hb1
  have hd1 := HD0.out.later (by rw [World.size_alloc]; exact hb1)
  have hbox : w1.heap[w.heap.size]? = some (.cells #[.pointer (some ⟨p, 0, none⟩), .int .i64 f, .int .i64 n] 63 (0, 0)) := (hb1.block _ (by simp)).trans (heap_alloc_new _ _)
  have hz1 : w.heap.size + 1 ≤ w1.heap.size := by have := hb1.size; simpa using this
  have hsz : w.heap.size + 1 < w1.heap.size := hblk.lt
  have HX := Hid.mk hbox
  have HZ := Hid.mk hblk
  have HD1 := Hid.mk hd1
  have HB1 := Hid.mk (HB.out.trans (hb1.mono (by simp)))
  have HF : Hid (¬ F w.heap.size ∧ ¬ F (w.heap.size + 1)) := ⟨fun h => by have := HL.out _ h; omega, fun h => by have := HL.out _ h; omega⟩
  have c1 := cell_of_block hbox (j := 1) rfl
  clear hblk hb1 hd1 hbox
  go_wp2
  clear c1
  go_loopw [4] (fun i wr => ∃ k : Nat, k ≤ n + 2 ∧ i = .int .i64 ((f + k : Nat) : Int) ∧ (wipeTo S s f k).1 = 0 ∧ DiskR wr (more F w1 wr) p s (wipeTo S s f k).2 ∧ Keeps F w1 wr) (fun i _ => f + n + 2 - (intOf i).toNat)
  case atStart => exact ⟨0, Nat.zero_le _, by simp, rfl, HD1.out.more, Keeps.refl _ _⟩
  case round =>
    obtain ⟨k, hk, rfl, he, hd, hkp⟩ := hrel
    have hbox : wr.heap[w.heap.size]? = some (.cells #[.pointer (some ⟨p, 0, none⟩), .int .i64 f, .int .i64 n] 63 (0, 0)) := (hkp.block _ (by omega) HF.out.1).trans HX.out
    have hzr : Blk wr 5 (w.heap.size + 1) (zs 512) := (hkp.block _ (by omega) HF.out.2).trans HZ.out
    have c0 := cell_of_block hbox (j := 0) rfl
    have c1 := cell_of_block hbox (j := 1) rfl
    have c2 := cell_of_block hbox (j := 2) rfl
    have hx := aend_any p f n wr (by omega) (by omega) (by omega) (by omega)
    have HE := Hid.mk he
    have HDr := Hid.mk hd
    have HKr := Hid.mk hkp
    have HBX := Hid.mk hbox
    have HZr := Hid.mk hzr
    clear he hd hkp hbox hzr
    go_wp2_with fail
    refine hx.mono ?_
    rintro e w2 ⟨rfl, hb2⟩
    have hbox : w2.heap[w.heap.size]? = some (.cells #[.pointer (some ⟨p, 0, none⟩), .int .i64 f, .int .i64 n] 63 (0, 0)) := (hb2.block _ (lt_there HBX.out)).trans HBX.out
    have hzr : Blk w2 5 (w.heap.size + 1) (zs 512) := (hb2.block _ (lt_there HZr.out)).trans HZr.out
    have hd2 := HDr.out.later hb2
    have HK2 := Hid.mk (HKr.out.trans (Keeps.of_below (fun _ => False) hb2) (fun _ h => h.elim))
    have hz2 := hb2.size
    have hz3 := HKr.out.size
    have hp2 := wipeTo_puts S s f k
    clear hx hb2 c0 c1 c2
    have c0 := cell_of_block hbox (j := 0) rfl
    by_cases q : k < n + 2
    · have hlt : ((f + k : Nat) : Int) < (f : Int) + 2 + (n : Int) := by omega
      have hsrc := hzr.src (o := 0) (n := 512) (by rw [zs_len]; omega)
      rw [List.drop_zero, List.take_of_length_le (by rw [zs_len]; omega)] at hsrc
      have hw := dwrite hd2 ((f + k : Nat) : Int) (some ⟨w.heap.size + 1, 0, none⟩) 512 512 (zs 512) hsrc (by omega)
      have e1 : wipeTo S s f (k + 1) = (wipeTo S s f k).2.wr s ((f + k : Nat) : Int) 512 (zs 512) := stepsTo_ok HE.out
      rw [← e1] at hw
      clear hsrc e1 hbox hzr hd2
      go_wp2_with fail
      refine hw.mono ?_
      rintro e w3 ⟨rfl, hd3, hk3⟩
      have hj := (hd3.mono (fun k hk => by rcases hk with (hk | hk) | hk; exact .inl hk; exact .inr ⟨hk.1, by have := hk3.size; omega⟩; exact .inr ⟨by omega, hk.2⟩) (more_lt (F := F) (w := w1) (fun k hk => by have := HL.out k hk; omega) (by have := hk3.size; omega)) : DiskR w3 (more F w1 w3) p s (wipeTo S s f (k + 1)).2)
      have hkj : Keeps F w1 w3 := HK2.out.trans hk3 (fun j hj => by rcases hj with hj | hj; exact .inl hj; exact .inr hj.1)
      have HDj := Hid.mk hj
      have HKj := Hid.mk hkj
      clear hd3 hk3 hw hj hkj
      by_cases q2 : (wipeTo S s f (k + 1)).1 = 0
      · have d : ((wipeTo S s f (k + 1)).1 == 0) = true := by rw [beq_iff_eq]; exact q2
        have HQ := Hid.mk q2
        clear q2
        go_wp2
        go_roundw
        case rel => exact ⟨k + 1, by omega, by go_num, HQ.out, HDj.out, HKj.out⟩
        case measure => simp [intOf]; omega
      · have d : ((wipeTo S s f (k + 1)).1 == 0) = false := by rw [beq_eq_false_iff_ne]; exact q2
        have e2 : awipe S s f n = wipeTo S s f (k + 1) := by
          have : wipeTo S s f (n + 2) = wipeTo S s f (k + 1) := stepsTo_err q2 (n + 2) (by omega)
          unfold awipe
          rw [this, if_pos q2]
        clear q2
        go_wp2
        go_ret
        rw [e2]
        exact ⟨rfl, HDj.out.from (w := w) HL.out (by omega) HKj.out.size, (Keeps.of_below F HB1.out).trans HKj.out (fun _ h => .inl h)⟩
    · have hlt : ¬ ((f + k : Nat) : Int) < (f : Int) + 2 + (n : Int) := by omega
      obtain rfl : k = n + 2 := by omega
      have hw := dflush hd2 (by omega)
      have e2 : awipe S s f n = (wipeTo S s f (n + 2)).2.fl s := by
        unfold awipe
        rw [if_neg (by have := HE.out; omega)]
      have HE2 := Hid.mk e2
      clear e2 hbox hzr hd2
      go_wp2_with fail
      refine hw.mono ?_
      rintro e w3 ⟨rfl, hd3, hk3⟩
      have HDj := Hid.mk ((hd3.wide (fun k hk => by have := HL.out k hk; omega) hz3 (by have := hk3.size; omega) : DiskR w3 (more F w1 w3) p s ((wipeTo S s f (n + 2)).2.fl s).2))
      have HKj := Hid.mk (HK2.out.trans hk3 (fun j hj => by rcases hj with hj | hj; exact .inl hj; exact .inr hj.1) : Keeps F w1 w3)
      clear hd3 hk3 hw
      go_wp2
      go_ret
      rw [HE2.out]
      exact ⟨rfl, HDj.out.from (w := w) HL.out (by omega) HKj.out.size, (Keeps.of_below F HB1.out).trans HKj.out (fun _ h => .inl h)⟩
end Go.Proofs.YtllkjmbcjlbmbaaGreat
end

section
namespace Go.Proofs.YtllkjmbcjlbmbaaGreat
open Go.RowKit

/-- All that a disk holds are bytes. -/
def DS.Byt (S : DS) : Prop := Bytes S.im ∧ ∀ q ∈ S.puts, Bytes q.2
theorem dsec_bytes {im : List Int} (h : Bytes im) (k : Nat) : Bytes (dsec im k) := (h.drop _).take _
theorem pend_bytes {S : DS} (h : S.Byt) (k j : Nat) : Bytes ((pendOf S.puts k).getD j []) := by
  rcases Nat.lt_or_ge j (pendOf S.puts k).length with hj | hj
  · rw [List.getD, List.getElem?_eq_getElem hj, Option.getD_some]
    have hm := List.getElem_mem hj
    unfold pendOf at hm
    obtain ⟨q, hq, e⟩ := List.mem_map.1 hm
    have := h.2 q (List.mem_filter.1 hq).1
    unfold pendOf
    rw [← e]
    exact this
  · rw [List.getD, List.getElem?_eq_none hj]
    exact Bytes.nil
theorem cand_bytes {S : DS} (h : S.Byt) (k j : Nat) : Bytes (S.cand k j) := by
  unfold DS.cand
  split
  · exact dsec_bytes h.1 k
  · exact pend_bytes h k _
theorem DS.Byt.now {S : DS} (h : S.Byt) (k : Nat) : Bytes (S.now k) := cand_bytes h k _
theorem imOf_bytes {s : Nat} {f : Nat → List Int} (h : ∀ k, Bytes (f k)) : Bytes (imOf s f) := by
  intro x hx
  obtain ⟨k, _, hk⟩ := List.mem_flatMap.1 hx
  exact h k x hk
theorem DS.Byt.wr {S : DS} (h : S.Byt) (s : Nat) (x : Int) (n : Nat) {l : List Int} (hl : Bytes l) : (S.wr s x n l).2.Byt := by
  unfold DS.wr
  split
  · exact h
  · split
    · exact h
    · split
      · exact h
      · refine ⟨h.1, fun q hq => ?_⟩
        rcases List.mem_append.1 hq with hq | hq
        · exact h.2 q hq
        · rw [List.mem_singleton.1 hq]; exact hl
theorem DS.Byt.fl {S : DS} (h : S.Byt) (s : Nat) : (S.fl s).2.Byt := by
  unfold DS.fl
  split
  · exact h
  · exact ⟨imOf_bytes h.now, fun q hq => by cases hq⟩
theorem DS.Byt.take {S : DS} (h : S.Byt) : S.take.Byt := h
theorem DS.Byt.lay {S : DS} (h : S.Byt) (x : Int) : (S.lay x).Byt := by
  unfold DS.lay
  split
  · exact h
  · exact h
theorem torn_bytes {S : DS} (h : S.Byt) (k A B C : Nat) : Bytes (tornOf S k A B C) := by
  unfold tornOf
  exact ((cand_bytes h k _).take _).append ((cand_bytes h k _).drop _)
theorem DS.Byt.crash {S : DS} (h : S.Byt) (s : Nat) (l : List P3) : (S.crash s l).Byt := by
  refine ⟨imOf_bytes (fun k => ?_), fun q hq => by cases hq⟩
  unfold cutOf
  split
  · exact dsec_bytes h.1 k
  · exact torn_bytes h k _ _ _
theorem stepsTo_byt {S : DS} {g : Nat → DS → Int × DS} (h : S.Byt) (hg : ∀ k T, T.Byt → (g k T).2.Byt) : ∀ k, (stepsTo S g k).2.Byt
  | 0 => h
  | k + 1 => by
    have := stepsTo_byt h hg k
    unfold stepsTo
    split
    · exact this
    · exact hg k _ this
theorem zs_bytes (n : Nat) : Bytes (zs n) := by unfold zs; exact Bytes.zeros n
theorem DS.Byt.wipe {S : DS} (h : S.Byt) (s f n : Nat) : (awipe S s f n).2.Byt := by
  have h1 : ∀ k, (wipeTo S s f k).2.Byt := stepsTo_byt h (fun k T hT => hT.wr s _ _ (zs_bytes _))
  unfold awipe
  split
  · exact h1 _
  · exact (h1 _).fl s
theorem srenew_bytes {l r : List Int} (num : Int) {dt : List Int} (hd : Bytes dt) : Bytes (srenew l r num dt).2.1 := by
  have hf : ∀ (a b : Int), dt.length ≤ 496 → Bytes (sform (turnOf a b) (bytes8 num.toNat ++ dt)) := fun a b h => sform_bytes ((bytes8_bytes _).append hd) (by rw [List.length_append, bytes8_len]; omega) ⟨by omega, by have := turnOf_le a b; omega⟩
  unfold srenew
  split
  · exact Bytes.nil
  · split
    · exact Bytes.nil
    · split
      · exact Bytes.nil
      · dsimp only
        split
        · exact Bytes.nil
        · split
          · exact hf _ _ (by omega)
          · exact hf _ _ (by omega)
theorem DS.Byt.anew {S : DS} (h : S.Byt) (s f : Nat) (num : Int) : (anew S s f num).2.Byt := by
  have h1 := h.wr s ((f : Int) + ((srenew (S.now f) (S.now (f + 1)) num []).1 : Int)) 512 (srenew_bytes (l := S.now f) (r := S.now (f + 1)) num Bytes.nil)
  unfold Go.Proofs.YtllkjmbcjlbmbaaGreat.anew
  split
  · exact h
  · split
    · exact h
    · split
      · exact h1
      · exact h1.fl s
theorem sseal_bytes {old body : List Int} (hb : Bytes body) : Bytes (sseal old body).1 := by
  unfold sseal
  split
  · exact Bytes.nil
  · split
    · exact Bytes.nil
    · exact sform_bytes hb (by omega) ⟨by omega, by have := turnOf_le (old.getD 0 0) (old.getD 511 0); omega⟩
theorem anew_puts (S : DS) (s f : Nat) (num : Int) : (anew S s f num).2.puts.length ≤ S.puts.length + 2 := by
  have h1 := wr_puts S s ((f : Int) + ((srenew (S.now f) (S.now (f + 1)) num []).1 : Int)) 512 (srenew (S.now f) (S.now (f + 1)) num []).2.1
  have h2 := fl_puts (S.wr s ((f : Int) + ((srenew (S.now f) (S.now (f + 1)) num []).1 : Int)) 512 (srenew (S.now f) (S.now (f + 1)) num []).2.1).2 s
  unfold anew
  split
  · simp
  · split
    · simp
    · split <;> omega
theorem awipe_puts (S : DS) (s f n : Nat) : (awipe S s f n).2.puts.length ≤ S.puts.length + n + 3 := by
  have h1 := wipeTo_puts S s f (n + 2)
  have h2 := fl_puts (wipeTo S s f (n + 2)).2 s
  unfold awipe
  split <;> omega
end Go.Proofs.YtllkjmbcjlbmbaaGreat
end

section
namespace Go.Proofs.YtllkjmbcjlbmbaaGreat
open Go.RowKit

/-- What Format does. -/
def lformat (S : DS) (s : Nat) (f n : Int) : Int × DS :=
  if lrefuse S s f n ≠ 0 then (lrefuse S s f n, S) else
  if (awipe S.take s f.toNat n.toNat).1 ≠ 0 then awipe S.take s f.toNat n.toNat else anew (awipe S.take s f.toNat n.toNat).2 s f.toNat 4294967296

theorem lrefuse_zero {S : DS} {s : Nat} {f n : Int} (h : lrefuse S s f n = 0) : S.fuse ≠ 0 ∧ ∃ a b : Nat, f = (a : Int) ∧ n = (b : Int) ∧ a + 2 + b ≤ s ∧ 18 ≤ b ∧ b ≤ 256 := by
  unfold lrefuse at h
  split at h
  · omega
  · rename_i h1
    split at h
    · omega
    · split at h
      · omega
      · split at h
        · omega
        · exact ⟨h1, f.toNat, n.toNat, by omega, by omega, by omega, by omega, by omega⟩

/-- The area in its box, behind a call that leaves it. -/
theorem box_after {w w1 : World} {b : Nat} {o : Obj} {G : Nat → Prop} (h : w.heap[b]? = some o) (hk : Keeps G w w1) (hn : ¬ G b) : w1.heap[b]? = some o := (hk.block b (lt_there h) hn).trans h

set_option maxRecDepth 20000 in
set_option maxHeartbeats 8000000 in
theorem Format_any {w : World} {F : Nat → Prop} {p s : Nat} {S : DS} (h : DiskR w F p s S) (hby : S.Byt) (f n : Int) (hbig : S.puts.length + 500 ≤ 4000000000000) :
    Calls Tryz.prog 21 #[.pointer (some ⟨p, 0, none⟩), .int .i64 f, .int .i64 n] w fun e w' => e = .returned (.int .i64 (lformat S s f n).1) ∧ DiskR w' (more F w w') p s (lformat S s f n).2 ∧ Keeps F w w' := by
  have HL := Hid.mk h.lt
  have hFb : ¬ F w.heap.size := fun h1 => by have := h.lt _ h1; omega
  have HB := Hid.mk (below_box w (.cells #[.pointer (some ⟨p, 0, none⟩), .int .i64 f, .int .i64 n] 63))
  have hx0 : (w.alloc (.cells #[.pointer (some ⟨p, 0, none⟩), .int .i64 f, .int .i64 n] 63)).heap[w.heap.size]? = some (.cells #[.pointer (some ⟨p, 0, none⟩), .int .i64 f, .int .i64 n] 63 (0, 0)) := heap_alloc_new _ _
  have hd0 := h.boxed (.cells #[.pointer (some ⟨p, 0, none⟩), .int .i64 f, .int .i64 n] 63)
  have h1 := drefusal hd0 f n
  have HX := Hid.mk hx0
  have HD := Hid.mk hd0
  have HFb := Hid.mk hFb
  clear hx0 hd0 hFb
  unfold lformat
  by_cases q : lrefuse S s f n = 0
  · rw [if_neg (by omega)]
    obtain ⟨hf0, a, b, rfl, rfl, hab, hb1, hb2⟩ := lrefuse_zero q
    rw [q] at h1
    simp only [Int.toNat_natCast]
    have hs := h.ok.hi
    have hpt := awipe_puts S.take s a b
    have hpt2 : S.take.puts.length = S.puts.length := rfl
    have HBW := Hid.mk ((hby.take).wipe s a b)
    have H3 := Hid.mk (fun w2 (hd2 : DiskR w2 F p s S.take) => wipe_any hd2 a b hab hb2 (by simpa [DS.take] using (show S.puts.length + 400 ≤ 4000000000000 by omega)))
    clear q h
    generalize awipe S.take s a b = Y at *
    by_cases k : Y.1 = 0
    · rw [if_neg (fun h => h k)]
      have d : (Y.1 == 0) = true := by rw [beq_iff_eq]; exact k
      clear k
      go_enter Tryz.func21, Tryz.ntmps21
      go_wp2_with fail
      refine h1.mono ?_
      rintro e w1 ⟨rfl, hb⟩
      have hx1 : w1.heap[w.heap.size]? = _ := (hb.block _ (by simp)).trans HX.out
      have h2 := dtake (HD.out.later hb)
      have HB1 := Hid.mk (HB.out.trans (hb.mono (by simp)))
      have HX1 := Hid.mk hx1
      clear h1 hb hx1
      go_wp2_with fail
      refine h2.mono ?_
      rintro e w2 ⟨rfl, hd2, hk2⟩
      have hx2 := box_after HX1.out hk2 HFb.out
      have c0 := cell_of_block hx2 (j := 0) rfl
      have c1 := cell_of_block hx2 (j := 1) rfl
      have c2 := cell_of_block hx2 (j := 2) rfl
      have h3 := H3.out w2 hd2
      have HK2 := Hid.mk ((Keeps.of_below F HB1.out).trans hk2 (fun _ h => .inl h))
      have HX2 := Hid.mk hx2
      clear h2 hd2 hk2 hx2
      go_wp2_with fail
      refine h3.mono ?_
      rintro e w3 ⟨rfl, hd3, hk3⟩
      have hx3 := box_after HX2.out hk3 HFb.out
      have c0 := cell_of_block hx3 (j := 0) rfl
      have c1 := cell_of_block hx3 (j := 1) rfl
      have c2 := cell_of_block hx3 (j := 2) rfl
      have HK3 := Hid.mk (HK2.out.trans hk3 (fun _ h => .inl h))
      have hz2 := HK2.out.size
      have hz3 := hk3.size
      have h4 := drenew hd3 a b 1 0 (by omega) (by omega) (by omega) (by omega) (HBW.out.now a) (HBW.out.now (a + 1))
      rw [show ((1 : Nat) : Int) * 4294967296 + ((0 : Nat) : Int) = 4294967296 by decide] at h4
      clear h3 hd3 hk3 hx3
      go_wp2_with fail
      refine h4.mono ?_
      rintro e w4 ⟨rfl, hd4, hk4⟩
      have hz4 := hk4.size
      have HZ := Hid.mk (And.intro ((hd4.mono (fun k hk => by
        rcases hk with (hk | hk) | hk
        · exact .inl hk
        · exact .inr ⟨by omega, by omega⟩
        · exact .inr ⟨by omega, hk.2⟩) (more_lt (F := F) (w := w) HL.out (by omega)) : DiskR w4 (more F w w4) p s _)) (HK3.out.trans hk4 (fun j hj => by
        rcases hj with hj | hj
        · exact .inl hj
        · exact .inr (by omega))))
      clear h4 hd4 hk4
      go_wp2
      go_ret
      exact ⟨rfl, HZ.out⟩
    · rw [if_pos k]
      have d : (Y.1 == 0) = false := by rw [beq_eq_false_iff_ne]; exact k
      clear k
      go_enter Tryz.func21, Tryz.ntmps21
      go_wp2_with fail
      refine h1.mono ?_
      rintro e w1 ⟨rfl, hb⟩
      have hx1 : w1.heap[w.heap.size]? = _ := (hb.block _ (by simp)).trans HX.out
      have h2 := dtake (HD.out.later hb)
      have HB1 := Hid.mk (HB.out.trans (hb.mono (by simp)))
      have HX1 := Hid.mk hx1
      clear h1 hb hx1
      go_wp2_with fail
      refine h2.mono ?_
      rintro e w2 ⟨rfl, hd2, hk2⟩
      have hx2 := box_after HX1.out hk2 HFb.out
      have c0 := cell_of_block hx2 (j := 0) rfl
      have c1 := cell_of_block hx2 (j := 1) rfl
      have c2 := cell_of_block hx2 (j := 2) rfl
      have h3 := H3.out w2 hd2
      have HK2 := Hid.mk ((Keeps.of_below F HB1.out).trans hk2 (fun _ h => .inl h))
      have HX2 := Hid.mk hx2
      clear h2 hd2 hk2 hx2
      go_wp2_with fail
      refine h3.mono ?_
      rintro e w3 ⟨rfl, hd3, hk3⟩
      have hx3 := box_after HX2.out hk3 HFb.out
      have c0 := cell_of_block hx3 (j := 0) rfl
      have c1 := cell_of_block hx3 (j := 1) rfl
      have c2 := cell_of_block hx3 (j := 2) rfl
      have HK3 := Hid.mk (HK2.out.trans hk3 (fun _ h => .inl h))
      have hz2 := HK2.out.size
      have hz3 := hk3.size
      have HZ := Hid.mk (And.intro ((hd3.from HL.out hz2 hz3 : DiskR w3 (more F w w3) p s Y.2)) HK3.out)
      clear h3 hd3 hk3 hx3
      go_wp2
      go_ret
      exact ⟨rfl, HZ.out⟩
  · rw [if_pos q]
    have d : (lrefuse S s f n == 0) = false := by rw [beq_eq_false_iff_ne]; exact q
    generalize lrefuse S s f n = U at *
    clear q h
    go_enter Tryz.func21, Tryz.ntmps21
    go_wp2_with fail
    refine h1.mono ?_
    rintro e w1 ⟨rfl, hb⟩
    have HZ := Hid.mk (And.intro ((HD.out.later hb).more (w := w)) (Keeps.of_below F (HB.out.trans (hb.mono (by simp)))))
    clear h1 hb
    go_wp2
    go_ret
    exact ⟨rfl, HZ.out⟩
end Go.Proofs.YtllkjmbcjlbmbaaGreat
end

section
namespace Go.Proofs.YtllkjmbcjlbmbaaGreat
open Go.RowKit

/-- What Start does. -/
def LG.start (L : LG) (S : DS) (s : Nat) : Int × DS × LG :=
  if L.dead S = true then (3, S, L) else if L.begun = true then (5, S, L) else
  if (anew S s L.f (((L.top + 1 : Nat) : Int) * 4294967296 + ((0 : Nat) : Int))).1 ≠ 0 then ((anew S s L.f (((L.top + 1 : Nat) : Int) * 4294967296 + ((0 : Nat) : Int))).1, (anew S s L.f (((L.top + 1 : Nat) : Int) * 4294967296 + ((0 : Nat) : Int))).2, L)
  else (0, (anew S s L.f (((L.top + 1 : Nat) : Int) * 4294967296 + ((0 : Nat) : Int))).2, { L with begun := true, ep := L.top + 1, tail := 0, head := 0 })
/-- What Trim does. -/
def LG.trim (L : LG) (S : DS) (s : Nat) : Int × DS × LG :=
  if (L.sync S s).1 ≠ 0 then ((L.sync S s).1, (L.sync S s).2, L) else if L.tail = L.head then (0, (L.sync S s).2, L) else
  if (anew (L.sync S s).2 s L.f ((L.ep : Int) * 4294967296 + (L.head : Int))).1 ≠ 0 then ((anew (L.sync S s).2 s L.f ((L.ep : Int) * 4294967296 + (L.head : Int))).1, (anew (L.sync S s).2 s L.f ((L.ep : Int) * 4294967296 + (L.head : Int))).2, L)
  else (0, (anew (L.sync S s).2 s L.f ((L.ep : Int) * 4294967296 + (L.head : Int))).2, { L with tail := L.head })

theorem LogP.started {w : World} {l p : Nat} {L : LG} (h : LogP w l p L) (E : Int) (n : Nat) (hE : E = (n : Int)) :
    LogP ((((w.setCell ⟨l, 4, none⟩ (.bool true)).setCell ⟨l, 5, none⟩ (.int .i64 E)).setCell ⟨l, 6, none⟩ (.int .i64 0)).setCell ⟨l, 7, none⟩ (.int .i64 0)) l p { L with begun := true, ep := n, tail := 0, head := 0 } := by
  subst hE
  have h1 := heap_setCell_same _ _ 4 _ _ (.bool true) h
  have h2 := heap_setCell_same _ _ 5 _ _ (.int .i64 (n : Int)) h1
  have h3 := heap_setCell_same _ _ 6 _ _ (.int .i64 0) h2
  have h4 := heap_setCell_same _ _ 7 _ _ (.int .i64 0) h3
  exact h4.trans (by simp [lgC])
theorem LogP.trimmed {w : World} {l p : Nat} {L : LG} (h : LogP w l p L) : LogP (w.setCell ⟨l, 6, none⟩ (.int .i64 (L.head : Int))) l p { L with tail := L.head } :=
  (heap_setCell_same _ _ 6 _ _ (.int .i64 (L.head : Int)) h).trans (by simp [lgC])
theorem keeps_set {F : Nat → Prop} (w : World) {l : Nat} (hF : F l) (j : Nat) (v : Value) : Keeps F w (w.setCell ⟨l, j, none⟩ v) := Keeps.setCell (F := F) w (p := ⟨l, j, none⟩) hF v

section
variable {w : World} {F : Nat → Prop} {p s l : Nat} {S : DS} {L : LG}

set_option maxRecDepth 20000 in
set_option maxHeartbeats 8000000 in
theorem Start_any (h : DiskR w F p s S) (hl : LogP w l p L) (hk : L.Ok s) (hF : ¬ F l) (hby : S.Byt) (hbig : S.puts.length + 2 ≤ 4000000000000) :
    Calls Tryz.prog 19 #[.pointer (some ⟨l, 0, none⟩)] w fun e w' => e = .returned (.int .i64 (L.start S s).1) ∧ DiskR w' (more F w w') p s (L.start S s).2.1 ∧ LogP w' l p (L.start S s).2.2 ∧ Keeps (fun k => F k ∨ k = l) w w' := by
  have h1 := dead_any h hl
  have HL := Hid.mk hl
  have HD := Hid.mk h
  have hlt := hl.lt
  have hs := hk.s
  have htop := hk.top
  unfold LG.start
  have H3 := Hid.mk (fun w2 (hd2 : DiskR w2 F p s S) => drenew hd2 L.f L.n (L.top + 1) 0 (by omega) (by omega) hbig (by have := hk.n1; omega) (hby.now _) (hby.now _))
  clear h hl hk hby
  cases hd : L.dead S
  · rw [hd] at h1
    rw [if_neg (by decide)]
    clear hd
    cases hb : L.begun
    · rw [if_neg (by decide)]
      generalize hY : anew S s L.f (((L.top + 1 : Nat) : Int) * 4294967296 + ((0 : Nat) : Int)) = Y at *
      clear hY
      by_cases k : Y.1 = 0
      · rw [if_neg (fun h => h k)]
        have d : (Y.1 == 0) = true := by rw [beq_iff_eq]; exact k
        clear k
        go_enter Tryz.func19, Tryz.ntmps19
        go_wp2_with fail
        refine h1.mono ?_
        rintro e w1 ⟨rfl, hb1⟩
        have hl1 := HL.out.later hb1
        have c0 := hl1.c0
        have c1 := hl1.c1
        have c2 := hl1.c2
        have c4 := hl1.c4
        have c8 := hl1.c8
        rw [hb] at c4
        have h3 := H3.out w1 (HD.out.later hb1)
        rw [show ((L.top + 1 : Nat) : Int) = (L.top : Int) + 1 by omega, show (((0 : Nat) : Int)) = 0 from rfl] at h3
        have HB1 := Hid.mk hb1
        have HL1 := Hid.mk hl1
        clear h1 hb1 hl1
        go_wp2_with fail
        refine h3.mono ?_
        rintro e w2 ⟨rfl, hd2, hk2⟩
        have hl2 := HL1.out.keep hk2 hF
        have f4 := hl2.fz 4
        have f5 := hl2.fz 5
        have f6 := hl2.fz 6
        have f7 := hl2.fz 7
        have c4 := hl2.c4
        have c5 := hl2.c5
        have c6 := hl2.c6
        have c7 := hl2.c7
        have hz1 := HB1.out.size
        have hz2 := hk2.size
        have hK : Keeps (fun k => F k ∨ k = l) w ((((w2.setCell ⟨l, 4, none⟩ (.bool true)).setCell ⟨l, 5, none⟩ (.int .i64 ((L.top : Int) + 1))).setCell ⟨l, 6, none⟩ (.int .i64 0)).setCell ⟨l, 7, none⟩ (.int .i64 0)) :=
          (((((Keeps.of_below (fun k => F k ∨ k = l) HB1.out).trans hk2 (fun _ h => .inl (.inl h))).trans (keeps_set (F := fun k => k = l) w2 rfl 4 _) (fun _ h => .inl (.inr h))).trans (keeps_set (F := fun k => k = l) _ rfl 5 _) (fun _ h => .inl (.inr h))).trans (keeps_set (F := fun k => k = l) _ rfl 6 _) (fun _ h => .inl (.inr h))).trans (keeps_set (F := fun k => k = l) _ rfl 7 _) (fun _ h => .inl (.inr h))
        have hD4 : DiskR ((((w2.setCell ⟨l, 4, none⟩ (.bool true)).setCell ⟨l, 5, none⟩ (.int .i64 ((L.top : Int) + 1))).setCell ⟨l, 6, none⟩ (.int .i64 0)).setCell ⟨l, 7, none⟩ (.int .i64 0)) (more F w1 w2) p s Y.2 := by
          have hne : ∀ k, more F w1 w2 k → ¬ k = l := fun k hk e => by
            subst e
            rcases hk with hk | hk
            · exact hF hk
            · omega
          exact (((hd2.keep (keeps_set (F := fun k => k = l) w2 rfl 4 _) hne).keep (keeps_set (F := fun k => k = l) _ rfl 5 _) hne).keep (keeps_set (F := fun k => k = l) _ rfl 6 _) hne).keep (keeps_set (F := fun k => k = l) _ rfl 7 _) hne
        have hsz : ((((w2.setCell ⟨l, 4, none⟩ (.bool true)).setCell ⟨l, 5, none⟩ (.int .i64 ((L.top : Int) + 1))).setCell ⟨l, 6, none⟩ (.int .i64 0)).setCell ⟨l, 7, none⟩ (.int .i64 0)).heap.size = w2.heap.size := by simp [World.setCell]
        have HZ := Hid.mk (And.intro ((hD4.mono (G := more F w ((((w2.setCell ⟨l, 4, none⟩ (.bool true)).setCell ⟨l, 5, none⟩ (.int .i64 ((L.top : Int) + 1))).setCell ⟨l, 6, none⟩ (.int .i64 0)).setCell ⟨l, 7, none⟩ (.int .i64 0))) (fun k hk => by
            rcases hk with hk | hk
            · exact .inl hk
            · exact .inr ⟨by omega, by rw [hsz]; exact hk.2⟩) (more_lt (F := F) (w := w) HD.out.lt (by rw [hsz]; omega)))) (And.intro (hl2.started ((L.top : Int) + 1) (L.top + 1) (by omega)) hK))
        clear h3 hd2 hk2 hl2 hK hD4 hsz
        go_wp2
        go_ret
        exact ⟨rfl, HZ.out⟩
      · rw [if_pos k]
        have d : (Y.1 == 0) = false := by rw [beq_eq_false_iff_ne]; exact k
        clear k
        go_enter Tryz.func19, Tryz.ntmps19
        go_wp2_with fail
        refine h1.mono ?_
        rintro e w1 ⟨rfl, hb1⟩
        have hl1 := HL.out.later hb1
        have c0 := hl1.c0
        have c1 := hl1.c1
        have c2 := hl1.c2
        have c4 := hl1.c4
        have c8 := hl1.c8
        rw [hb] at c4
        have h3 := H3.out w1 (HD.out.later hb1)
        rw [show ((L.top + 1 : Nat) : Int) = (L.top : Int) + 1 by omega, show (((0 : Nat) : Int)) = 0 from rfl] at h3
        have HB1 := Hid.mk hb1
        have HL1 := Hid.mk hl1
        clear h1 hb1 hl1
        go_wp2_with fail
        refine h3.mono ?_
        rintro e w2 ⟨rfl, hd2, hk2⟩
        have HZ := Hid.mk (And.intro (hd2.from HD.out.lt HB1.out.size hk2.size) (And.intro (HL1.out.keep hk2 hF) ((Keeps.of_below (fun k => F k ∨ k = l) HB1.out).trans hk2 (fun _ h => .inl (.inl h)))))
        clear h3 hd2 hk2
        go_wp2
        go_ret
        exact ⟨rfl, HZ.out⟩
    · rw [if_pos rfl]
      go_enter Tryz.func19, Tryz.ntmps19
      go_wp2_with fail
      refine h1.mono ?_
      rintro e w1 ⟨rfl, hb1⟩
      have c4 := (HL.out.later hb1).c4
      rw [hb] at c4
      have HZ := Hid.mk (And.intro ((HD.out.later hb1).more (w := w)) (And.intro (HL.out.later hb1) (Keeps.of_below (fun k => F k ∨ k = l) hb1)))
      clear h1 hb1
      go_wp2
      go_ret
      exact ⟨rfl, HZ.out⟩
  · rw [hd] at h1
    rw [if_pos rfl]
    go_enter Tryz.func19, Tryz.ntmps19
    go_wp2_with fail
    refine h1.mono ?_
    rintro e w1 ⟨rfl, hb1⟩
    have HZ := Hid.mk (And.intro ((HD.out.later hb1).more (w := w)) (And.intro (HL.out.later hb1) (Keeps.of_below (fun k => F k ∨ k = l) hb1)))
    clear h1 hb1
    go_wp2
    go_ret
    exact ⟨rfl, HZ.out⟩
end
end Go.Proofs.YtllkjmbcjlbmbaaGreat
end

section
namespace Go.Proofs.YtllkjmbcjlbmbaaGreat
open Go.RowKit

theorem sync_puts (L : LG) (S : DS) (s : Nat) : (L.sync S s).2.puts.length ≤ S.puts.length + 1 := by
  unfold LG.sync
  split
  · simp
  · exact fl_puts S s
theorem sync_byt {S : DS} (h : S.Byt) (L : LG) (s : Nat) : (L.sync S s).2.Byt := by
  unfold LG.sync
  split
  · exact h
  · exact h.fl s

theorem sync_begun {L : LG} {S : DS} {s : Nat} (h : (L.sync S s).1 = 0) : L.begun = true := by
  unfold LG.sync at h
  split at h
  · rename_i h1; exact absurd h h1
  · rename_i h1
    unfold LG.unready at h1
    split at h1
    · omega
    · split at h1
      · assumption
      · omega

section
variable {w : World} {F : Nat → Prop} {p s l : Nat} {S : DS} {L : LG}

set_option maxRecDepth 20000 in
set_option maxHeartbeats 8000000 in
theorem Trim_any (h : DiskR w F p s S) (hl : LogP w l p L) (hk : L.Ok s) (hF : ¬ F l) (hby : S.Byt) (hbig : S.puts.length + 3 ≤ 4000000000000) :
    Calls Tryz.prog 11 #[.pointer (some ⟨l, 0, none⟩)] w fun e w' => e = .returned (.int .i64 (L.trim S s).1) ∧ DiskR w' (more F w w') p s (L.trim S s).2.1 ∧ LogP w' l p (L.trim S s).2.2 ∧ Keeps (fun k => F k ∨ k = l) w w' := by
  have h1 := Sync_any h hl hF (by omega)
  have HLt := Hid.mk h.lt
  have hlt := hl.lt
  have hs := hk.s
  have hn1 := hk.n1
  have hhb := fun (hb : (L.sync S s).1 = 0) => hk.hb (sync_begun hb)
  have hep := hk.ep
  have hp := sync_puts L S s
  have hby2 := sync_byt hby L s
  unfold LG.trim
  generalize L.sync S s = Z at *
  have H3 := Hid.mk (fun (hz : Z.1 = 0) w2 (hd2 : DiskR w2 F p s Z.2) => drenew hd2 L.f L.n L.ep L.head hep (hhb hz) (by omega) (by omega) (hby2.now _) (hby2.now _))
  clear h hl hk hby hby2
  by_cases k0 : Z.1 = 0
  · rw [if_neg (fun h => h k0)]
    have d0 : (Z.1 == 0) = true := by rw [beq_iff_eq]; exact k0
    have H4 := Hid.mk (H3.out k0)
    clear k0 H3 hhb
    by_cases k1 : L.tail = L.head
    · rw [if_pos k1]
      have d1 : ((L.tail : Int) == (L.head : Int)) = true := by rw [beq_iff_eq]; omega
      clear k1
      go_enter Tryz.func11, Tryz.ntmps11
      go_wp2_with fail
      refine h1.mono ?_
      rintro e w1 ⟨rfl, hd1, hl1, hk1⟩
      have c6 := hl1.c6
      have c7 := hl1.c7
      have HZ := Hid.mk (fun j => And.intro ((hd1.later (below_drewN (Below.refl _ _) j)).more (w := w)) (And.intro (hl1.later (below_drewN (Below.refl _ _) j)) ((hk1.mono (fun _ h => .inl h)).trans (Keeps.of_below (fun _ => False) (below_drewN (Below.refl w1.heap.size w1) j)) (fun _ h => h.elim) : Keeps (fun k => F k ∨ k = l) w (w1.drewN j))))
      clear h1 hd1 hl1 hk1
      go_wp2_with fail
      go_quiet (fail)
      go_wp2
      go_ret
      exact ⟨rfl, HZ.out _⟩
    · rw [if_neg k1]
      have d1 : ((L.tail : Int) == (L.head : Int)) = false := by rw [beq_eq_false_iff_ne]; omega
      clear k1
      generalize hY : anew Z.2 s L.f ((L.ep : Int) * 4294967296 + (L.head : Int)) = Y at *
      clear hY
      by_cases k : Y.1 = 0
      · rw [if_neg (fun h => h k)]
        have d : (Y.1 == 0) = true := by rw [beq_iff_eq]; exact k
        clear k
        go_enter Tryz.func11, Tryz.ntmps11
        go_wp2_with fail
        refine h1.mono ?_
        rintro e w1 ⟨rfl, hd1, hl1, hk1⟩
        have c6 := hl1.c6
        have c7 := hl1.c7
        have c0 := hl1.c0
        have c1 := hl1.c1
        have c2 := hl1.c2
        have c5 := hl1.c5
        have HD1 := Hid.mk hd1
        have HL1 := Hid.mk hl1
        have HK1 := Hid.mk hk1
        clear h1 hd1 hl1 hk1
        go_wp2_with fail
        go_quiet (fail)
        go_wp2_with fail
        go_region_held3 (fun w' => w'.cell? ⟨l, 0, none⟩ = some (.pointer (some ⟨p, 0, none⟩)) ∧ w'.cell? ⟨l, 1, none⟩ = some (.int .i64 (L.f : Int)) ∧ w'.cell? ⟨l, 2, none⟩ = some (.int .i64 (L.n : Int)) ∧ w'.cell? ⟨l, 5, none⟩ = some (.int .i64 (L.ep : Int)) ∧ w'.cell? ⟨l, 7, none⟩ = some (.int .i64 (L.head : Int)))
          (first | exact ⟨c0, c1, c2, c5, c7⟩ | exact ⟨hl4.c0, hl4.c1, hl4.c2, hl4.c5, hl4.c7⟩)
          ((go_at_call 35; refine (H4.out _ (HD1.out.later (below_drewN (Below.refl _ _) (nq + 1)))).mono ?_; rintro e w2 ⟨rfl, hd2, hk2⟩; have hk3 := HK1.out.trans (Keeps.of_below (fun _ => False) (below_drewN (Below.refl w1.heap.size w1) (nq + 1))) (fun _ h => h.elim); have hl3 := HL1.out.later (below_drewN (Below.refl w1.heap.size w1) (nq + 1)); have hl4 := hl3.keep hk2 hF))
        generalize w1.drewN (nq + 1) = w3 at *
        have hz3 := hk3.size
        have hz2 := hk2.size
        have f6 := hl4.fz 6
        have c6' := hl4.c6
        have c7' := hl4.c7
        have hne : ∀ k, more F w3 w2 k → ¬ k = l := fun k hk e => by
          subst e
          rcases hk with hk | hk
          · exact hF hk
          · omega
        have hsz : (w2.setCell ⟨l, 6, none⟩ (.int .i64 (L.head : Int))).heap.size = w2.heap.size := by simp [World.setCell]
        have HZ := Hid.mk (And.intro (((hd2.keep (keeps_set (F := fun k => k = l) w2 rfl 6 (.int .i64 (L.head : Int))) hne).mono (G := more F w (w2.setCell ⟨l, 6, none⟩ (.int .i64 (L.head : Int)))) (fun k hk => by
            rcases hk with hk | hk
            · exact .inl hk
            · exact .inr ⟨by omega, by rw [hsz]; exact hk.2⟩) (more_lt (F := F) (w := w) HLt.out (by rw [hsz]; omega)))) (And.intro hl4.trimmed (((hk3.mono (fun _ h => .inl h) : Keeps (fun k => F k ∨ k = l) w w3).trans hk2 (fun _ h => .inl (.inl h))).trans (keeps_set (F := fun k => k = l) w2 rfl 6 (.int .i64 (L.head : Int))) (fun _ h => .inl (.inr h)))))
        clear hd2 hk2 hl4 hk3 hl3 hsz hne
        go_wp2
        go_ret
        exact ⟨rfl, HZ.out⟩
      · rw [if_pos k]
        have d : (Y.1 == 0) = false := by rw [beq_eq_false_iff_ne]; exact k
        clear k
        go_enter Tryz.func11, Tryz.ntmps11
        go_wp2_with fail
        refine h1.mono ?_
        rintro e w1 ⟨rfl, hd1, hl1, hk1⟩
        have c6 := hl1.c6
        have c7 := hl1.c7
        have c0 := hl1.c0
        have c1 := hl1.c1
        have c2 := hl1.c2
        have c5 := hl1.c5
        have HD1 := Hid.mk hd1
        have HL1 := Hid.mk hl1
        have HK1 := Hid.mk hk1
        clear h1 hd1 hl1 hk1
        go_wp2_with fail
        go_quiet (fail)
        go_wp2_with fail
        go_region_held3 (fun w' => w'.cell? ⟨l, 0, none⟩ = some (.pointer (some ⟨p, 0, none⟩)) ∧ w'.cell? ⟨l, 1, none⟩ = some (.int .i64 (L.f : Int)) ∧ w'.cell? ⟨l, 2, none⟩ = some (.int .i64 (L.n : Int)) ∧ w'.cell? ⟨l, 5, none⟩ = some (.int .i64 (L.ep : Int)) ∧ w'.cell? ⟨l, 7, none⟩ = some (.int .i64 (L.head : Int)))
          (first | exact ⟨c0, c1, c2, c5, c7⟩ | exact ⟨hl4.c0, hl4.c1, hl4.c2, hl4.c5, hl4.c7⟩)
          ((go_at_call 35; refine (H4.out _ (HD1.out.later (below_drewN (Below.refl _ _) (nq + 1)))).mono ?_; rintro e w2 ⟨rfl, hd2, hk2⟩; have hk3 := HK1.out.trans (Keeps.of_below (fun _ => False) (below_drewN (Below.refl w1.heap.size w1) (nq + 1))) (fun _ h => h.elim); have hl3 := HL1.out.later (below_drewN (Below.refl w1.heap.size w1) (nq + 1)); have hl4 := hl3.keep hk2 hF))
        generalize w1.drewN (nq + 1) = w3 at *
        have hz3 := hk3.size
        have hz2 := hk2.size
        have HZ := Hid.mk (And.intro (hd2.from HLt.out hz3 hz2) (And.intro hl4 ((hk3.mono (fun _ h => .inl h) : Keeps (fun k => F k ∨ k = l) w w3).trans hk2 (fun _ h => .inl (.inl h)))))
        clear hd2 hk2 hl4 hk3 hl3
        go_wp2
        go_ret
        exact ⟨rfl, HZ.out⟩
  · rw [if_pos k0]
    have d0 : (Z.1 == 0) = false := by rw [beq_eq_false_iff_ne]; exact k0
    clear k0
    go_enter Tryz.func11, Tryz.ntmps11
    go_wp2_with fail
    refine h1.mono ?_
    rintro e w1 ⟨rfl, hd1, hl1, hk1⟩
    have HZ := Hid.mk (And.intro (hd1.more (w := w)) (And.intro hl1 (hk1.mono (fun _ h => .inl h) : Keeps (fun k => F k ∨ k = l) w w1)))
    clear h1 hd1 hl1 hk1
    go_wp2
    go_ret
    exact ⟨rfl, HZ.out⟩
end
end Go.Proofs.YtllkjmbcjlbmbaaGreat
end
