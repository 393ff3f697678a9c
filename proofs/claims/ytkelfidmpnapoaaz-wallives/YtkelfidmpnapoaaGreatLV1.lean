import Derived.Test.YtkelfidmpnapoaaGreatW22
import Derived.Test.YtkelfidmpnapoaaGreatW22
namespace Go.Proofs.YtkelfidmpnapoaaGreat
open Go.RowKit

theorem and3 (how : Int) : ∃ x : Nat, x ≤ 3 ∧ bits .and .i64 how 3 = (x : Int) := by
  have eb : (BitVec.ofInt 64 (3 : Int)).toNat = 3 := by decide
  have hle : (BitVec.ofInt 64 how &&& BitVec.ofInt 64 (3 : Int)).toNat ≤ 3 := by
    rw [BitVec.toNat_and, eb]
    exact Nat.and_le_right
  refine ⟨(BitVec.ofInt 64 how &&& BitVec.ofInt 64 (3 : Int)).toNat, hle, ?_⟩
  show IntKind.i64.wrap ((BitVec.ofInt 64 how &&& BitVec.ofInt 64 (3 : Int)).toNat : Int) = _
  rw [IntKind.wrap_i64]
  omega

/-- A list of lists of bytes that is only read. -/
def Recs (w : World) (B : Nat) (a : Option Addr) (n : Nat) : Prop :=
  (a = none → n = 0) ∧ ∀ x, a = some x → ∀ i, i < n → ∃ b o, x = ⟨b, o, none⟩ ∧ b < B ∧ ∃ a' n' c' l, w.cell? ⟨b, o + i, none⟩ = some (.slice a' n' c') ∧ Src w a' n' l ∧ Bytes l ∧ (∀ y, a' = some y → 0 < n' → y.block < B) ∧ n' ≤ 140737488355328
theorem Recs.far {w w' : World} {B : Nat} {a : Option Addr} {n : Nat} (h : Recs w B a n) (hb : Below B w w') : Recs w' B a n :=
  ⟨h.1, fun x hx i hi => by
    obtain ⟨b, o, rfl, h0, a', n', c', l, h1, h2, h3, h4, h5⟩ := h.2 x hx i hi
    exact ⟨b, o, rfl, h0, a', n', c', l, (World.cell?_of_block (w := w) (a := ⟨b, _, none⟩) (hb.block b h0)).trans h1, h2.far hb h4, h3, h4, h5⟩⟩

/-- A log that is over. -/
structure Over (w wr : World) (F : Nat → Prop) (p l n : Nat) (S : DS) (L : LG) : Prop where
  d : DiskR wr F p (n + 2) S
  lp : LogP wr l p L
  nf : ¬ F l
  fF : ∀ k, F k → w.heap.size ≤ k
  lo : w.heap.size ≤ l
  b : Below w.heap.size w wr
  k : L.Ok (n + 2)
  y : S.Byt
  p6 : S.puts.length ≤ 600
  f : S.fuse = -1
  o : L.dead S = true

section
variable {w wr w' : World} {F : Nat → Prop} {p l n : Nat} {S S' : DS} {L L' : LG}
theorem Over.next (h : Over w wr F p l n S L) (hd : DiskR w' (more F wr w') p (n + 2) S) (hl : LogP w' l p L) (hk : Keeps (fun k => F k ∨ k = l) wr w') : Over w w' (more F wr w') p l n S L := by
  have hz := h.b.size
  refine ⟨hd, hl, fun hm => ?_, fun k hk => ?_, h.lo, h.b.trans (hk.below (fun k hk => ?_) hz), h.k, h.y, h.p6, h.f, h.o⟩
  · rcases hm with hm | hm
    · exact h.nf hm
    · have := h.lp.lt; omega
  · rcases hk with hk | hk
    · exact h.fF k hk
    · omega
  · rcases hk with hk | hk
    · exact h.fF k hk
    · rw [hk]; exact h.lo
theorem Over.later (h : Over w wr F p l n S L) (hb : Below wr.heap.size wr w') : Over w w' F p l n S L :=
  ⟨h.d.later hb, h.lp.later hb, h.nf, h.fF, h.lo, h.b.trans (hb.mono h.b.size), h.k, h.y, h.p6, h.f, h.o⟩
theorem more_old : ∀ k, more F wr w' k → F k ∨ wr.heap.size ≤ k := fun k hk => by
  rcases hk with hk | hk
  · exact .inl hk
  · exact .inr hk.1
theorem over_unready (h : L.dead S = true) : L.unready S = 3 := by
  unfold LG.unready
  rw [if_pos h]
theorem over_start (h : Over w wr F p l n S L) : Calls Tryz.prog 16 #[.pointer (some ⟨l, 0, none⟩)] wr fun e w' => e = .returned (.int .i64 3) ∧ ∃ F', Over w w' F' p l n S L ∧ (∀ k, F' k → F k ∨ wr.heap.size ≤ k) ∧ Keeps (fun k => F k ∨ k = l) wr w' := by
  have e1 : L.start S (n + 2) = (3, S, L) := by unfold LG.start; rw [if_pos h.o]
  have h1 := Start_any h.d h.lp h.k h.nf h.y (by have := h.p6; omega)
  rw [e1] at h1
  refine h1.mono ?_
  rintro e w' ⟨rfl, h2, h3, h4⟩
  exact ⟨rfl, _, h.next h2 h3 h4, more_old, h4⟩
theorem over_append (h : Over w wr F p l n S L) (a : Option Addr) (x k : Nat) (d : List Int) (hs : Src wr a x d) (hF : ∀ y, a = some y → 0 < x → ¬ F y.block) (hd : Bytes d) (hxk : x ≤ k) (hx : x ≤ 140737488355328) : Calls Tryz.prog 5 #[.pointer (some ⟨l, 0, none⟩), .slice a x k] wr fun e w' => e = .returned (.int .i64 3) ∧ ∃ F', Over w w' F' p l n S L ∧ (∀ k, F' k → F k ∨ wr.heap.size ≤ k) ∧ Keeps (fun k => F k ∨ k = l) wr w' := by
  have e0 : L.refuses S d.length = 3 := by unfold LG.refuses; rw [over_unready h.o, if_pos (by omega)]
  have e1 : L.append S (n + 2) d = (3, S, L) := by unfold LG.append; rw [e0, if_pos (by omega)]
  have h1 := Append_any h.d h.lp h.k h.nf a x k d hs hF hd hxk hx (by have := h.p6; omega)
  rw [e1] at h1
  refine h1.mono ?_
  rintro e w' ⟨rfl, h2, h3, h4⟩
  exact ⟨rfl, _, h.next h2 h3 h4, more_old, h4⟩
theorem over_sync (h : Over w wr F p l n S L) : Calls Tryz.prog 7 #[.pointer (some ⟨l, 0, none⟩)] wr fun e w' => e = .returned (.int .i64 3) ∧ ∃ F', Over w w' F' p l n S L ∧ (∀ k, F' k → F k ∨ wr.heap.size ≤ k) ∧ Keeps (fun k => F k ∨ k = l) wr w' := by
  have e1 : L.sync S (n + 2) = (3, S) := by unfold LG.sync; rw [over_unready h.o, if_pos (by omega)]
  have h1 := Sync_any h.d h.lp h.nf (by have := h.p6; omega)
  rw [e1] at h1
  refine h1.mono ?_
  rintro e w' ⟨rfl, h2, h3, h4⟩
  exact ⟨rfl, _, h.next h2.more h3 (h4.mono (fun _ h => .inl h)), more_old, h4.mono (fun _ h => .inl h)⟩
theorem over_trim (h : Over w wr F p l n S L) : Calls Tryz.prog 30 #[.pointer (some ⟨l, 0, none⟩)] wr fun e w' => e = .returned (.int .i64 3) ∧ ∃ F', Over w w' F' p l n S L ∧ (∀ k, F' k → F k ∨ wr.heap.size ≤ k) ∧ Keeps (fun k => F k ∨ k = l) wr w' := by
  have e0 : L.sync S (n + 2) = (3, S) := by unfold LG.sync; rw [over_unready h.o, if_pos (by omega)]
  have e1 : L.trim S (n + 2) = (3, S, L) := by unfold LG.trim; rw [e0, if_pos (by show (3 : Int) ≠ 0; omega)]
  have h1 := Trim_any h.d h.lp h.k h.nf h.y (by have := h.p6; omega)
  rw [e1] at h1
  refine h1.mono ?_
  rintro e w' ⟨rfl, h2, h3, h4⟩
  exact ⟨rfl, _, h.next h2 h3 h4, more_old, h4⟩
theorem over_room (h : Over w wr F p l n S L) : Calls Tryz.prog 31 #[.pointer (some ⟨l, 0, none⟩)] wr fun e w' => e = .returned (.tuple #[.int .i64 0, .int .i64 3]) ∧ Over w w' F p l n S L ∧ Below wr.heap.size wr w' := by
  refine (Room_any h.d h.lp h.k).mono ?_
  rintro e w' ⟨rfl, hb⟩
  refine ⟨?_, h.later hb, hb⟩
  unfold LG.room
  rw [over_unready h.o, if_pos (by omega)]
theorem over_marks (h : Over w wr F p l n S L) : Calls Tryz.prog 32 #[.pointer (some ⟨l, 0, none⟩)] wr fun e w' => e = .returned (.tuple #[.int .i64 0, .int .i64 0, .int .i64 0, .int .i64 3]) ∧ Over w w' F p l n S L ∧ Below wr.heap.size wr w' := by
  refine (Marks_any h.d h.lp).mono ?_
  rintro e w' ⟨rfl, hb⟩
  exact ⟨by rw [if_pos h.o], h.later hb, hb⟩

/-- What a row of calls of a log that is over keeps. -/
structure Held (wr w' : World) (F F' : Nat → Prop) (l : Nat) : Prop where
  o : ∀ k, F' k → F k ∨ wr.heap.size ≤ k
  k : Keeps (fun k => F k ∨ k = l) wr w'
theorem Held.trans {w1 : World} {F1 F2 : Nat → Prop} (h : Held wr w1 F F1 l) (h2 : Held w1 w' F1 F2 l) : Held wr w' F F2 l := by
  have hz := h.k.size
  refine ⟨fun k hk => ?_, h.k.trans h2.k (fun j hj => ?_)⟩
  · rcases h2.o k hk with h3 | h3
    · exact h.o k h3
    · exact .inr (by omega)
  · rcases hj with h3 | h3
    · rcases h.o j h3 with h4 | h4
      · exact .inl (.inl h4)
      · exact .inr h4
    · exact .inl (.inr h3)
theorem Held.later (hb : Below wr.heap.size wr w') : Held wr w' F F l := ⟨fun _ h => .inl h, Keeps.of_below _ hb⟩

set_option maxRecDepth 20000 in
set_option maxHeartbeats 4000000 in
theorem refused_any (h : Over w wr F p l n S L) : Calls Tryz.prog 13 #[.pointer (some ⟨l, 0, none⟩)] wr fun e w' => e = .returned (.bool true) ∧ ∃ F', Over w w' F' p l n S L ∧ Held wr w' F F' l := by
  have h1 := over_start h
  clear h
  go_enter Tryz.func13, Tryz.ntmps13
  go_wp2_with fail
  refine h1.mono ?_
  rintro e w1 ⟨rfl, F1, h, g1, g2⟩
  have HK1 : Hid (Held wr w1 F F1 l) := ⟨g1, g2⟩
  have hb2 := below_box w1 (.cells #[.int .u8 1] 5)
  have hs2 : Src (w1.alloc (.cells #[.int .u8 1] 5)) (some ⟨w1.heap.size, 0, none⟩) 1 [1] := by
    have hn : (w1.alloc (.cells #[.int .u8 1] 5)).heap[w1.heap.size]? = some (.cells #[.int .u8 1] 5 (0, 0)) := heap_alloc_new _ _
    refine ⟨rfl, fun e => (by cases e), fun x hx i hi => ?_⟩
    cases hx
    obtain rfl : i = 0 := by omega
    exact cell_of_block hn (j := 0) rfl
  have hFs : ¬ F1 w1.heap.size := fun hf => by have := h.d.lt _ hf; omega
  have h2 := over_append (h.later hb2) (some ⟨w1.heap.size, 0, none⟩) 1 1 [1] hs2 (fun y e _ => by cases e; exact hFs) (fun x hx => by simp at hx; omega) (Nat.le_refl _) (by omega)
  have HKb : Hid (Held wr (w1.alloc (.cells #[.int .u8 1] 5)) F F1 l) := HK1.out.trans (Held.later hb2)
  clear h1 h hb2 hs2 hFs g1 g2 HK1
  go_wp2_with fail
  refine h2.mono ?_
  rintro e w2 ⟨rfl, F2, h, g1, g2⟩
  have HK2 : Hid (Held wr w2 F F2 l) := HKb.out.trans ⟨g1, g2⟩
  have h3 := over_sync h
  clear h2 h g1 g2 HKb
  go_wp2_with fail
  refine h3.mono ?_
  rintro e w3 ⟨rfl, F3, h, g1, g2⟩
  have HK3 : Hid (Held wr w3 F F3 l) := HK2.out.trans ⟨g1, g2⟩
  have h4 := over_trim h
  clear h3 h g1 g2 HK2
  go_wp2_with fail
  refine h4.mono ?_
  rintro e w4 ⟨rfl, F4, h, g1, g2⟩
  have HK4 : Hid (Held wr w4 F F4 l) := HK3.out.trans ⟨g1, g2⟩
  have h5 := over_room h
  clear h4 h g1 g2 HK3
  go_wp2_with fail
  refine h5.mono ?_
  rintro e w5 ⟨rfl, h, hb5⟩
  have h6 := over_marks h
  have HK5 : Hid (Held wr w5 F F4 l) := HK4.out.trans (Held.later hb5)
  clear h5 h hb5 HK4
  go_wp2_with fail
  refine h6.mono ?_
  rintro e w6 ⟨rfl, h, hb6⟩
  have HF : Hid (Over w w6 F4 p l n S L ∧ Held wr w6 F F4 l) := ⟨h, HK5.out.trans (Held.later hb6)⟩
  clear h6 h hb6
  go_wp2
  go_ret
  exact ⟨rfl, _, HF.out⟩
/-- Any append to a log that lives. -/
theorem live_append_any (h : Live w wr F p l n S L) (hs : Snd S 0 n (2 * 4294967296) 2) (a : Option Addr) (x k : Nat) (d : List Int) (hsr : Src wr a x d) (hF : ∀ y, a = some y → 0 < x → ¬ F y.block) (hd : Bytes d) (hxk : x ≤ k) (hx : x ≤ 140737488355328) :
    Calls Tryz.prog 5 #[.pointer (some ⟨l, 0, none⟩), .slice a x k] wr fun e w' => ∃ c, e = .returned (.int .i64 c) ∧ ∃ F' S' L', Live w w' F' p l n S' L' ∧ Snd S' 0 n (2 * 4294967296) 2 := by
  obtain ⟨z1, z2, c, z3, z4⟩ := append_safe (i := 0) h.i rfl h.f d
  have hs' : Snd S L.f L.n (2 * 4294967296) 2 := by rw [h.f0, h.n']; exact hs
  have z5 := hs'.append (i := 0) h.i rfl h.f (by rw [h.e]; exact Nat.le_refl _) d
  rw [h.f0, h.n'] at z5
  refine (Append_any h.d h.lp (h.i.at (i := 0) rfl).1 h.nf a x k d hsr hF hd hxk hx (by have := h.i.p6; omega)).mono ?_
  rintro e w' ⟨rfl, h5, h6, h7⟩
  have hI := h.i.append (i := 0) (d := d) rfl hd h5.ok
  rw [z3] at h6 hI
  exact ⟨_, rfl, _, _, _, h.next h5 h6 h7 hI z1 z2 rfl h.g h.e rfl rfl, z5⟩
end

theorem RecsAt.beside {w w' : World} {B : Nat} {v : Value} {rs : List (List Int)} {F : Nat → Prop} (h : RecsAt w B v rs (fun _ => False)) (hk : Keeps F w w') (hF : ∀ k, F k → k < B) : RecsAt w' B v rs (fun _ => False) := by
  obtain ⟨vs, h1, h2⟩ := h
  refine ⟨vs, owns_agree h1 (fun g hg => ?_), fun i hi => ?_⟩
  · obtain ⟨cur, hc⟩ := owns_block h1 hg
    exact hk.block g (lt_there hc) (fun hf => by have := own_lo h1 hg; have := hF _ hf; omega)
  · obtain ⟨g, c, e, hr, hb, hx⟩ := h2 i hi
    exact ⟨g, c, e, hr.agree (hk.block g hr.lt (fun hf => by have := hF _ hf; omega)), hb, hx⟩
theorem records_small {S : DS} {a b : Nat} (hby : S.Byt) (hb1 : 1 ≤ b) (hb2 : b ≤ 256) {E T hd : Nat} {rr : List (List Int)} (ht : Tells (Rp (oRing S a) b) E T rr hd) : rr.length ≤ 1000000 ∧ ∀ i (hi : i < rr.length), (rr[i]).length ≤ 1000000 := by
  have h1 := Tells.round hb1 (Rp_round (oRing S a) b) ht
  have h2 := Tells.length ht
  refine ⟨by omega, fun i hi => ?_⟩
  have := Tells.small (fun q => (pcOf_small (hby.now (a + 2 + q % b))).2.2.2.2.1) ht rr[i] (List.getElem_mem hi)
  omega
/-- What holds between the records. -/
def LivesRun (w wr : World) (p l n : Nat) : Prop := ∃ F S L, Live w wr F p l n S L ∧ Snd S 0 n (2 * 4294967296) 2
theorem dead_later {S : DS} {L : LG} (h : S.life ≠ L.life) : L.dead S = true := by
  unfold LG.dead
  rw [Bool.or_eq_true]
  exact .inr (by rw [bne_iff_ne]; exact h)

set_option maxRecDepth 20000 in
set_option maxHeartbeats 8000000 in
theorem walLives_2 (N : Nat) (hN1 : 18 ≤ N) (hN2 : N ≤ 256) (ra : Option Addr) (rn rc : Nat) (how : Int) (w : World) (hrs : Recs w w.heap.size ra rn) (hrn : rn ≤ 140737488355328) (hx : bits .and .i64 how 3 = 2) :
    Calls Tryz.prog 3 #[.int .i64 (N : Int), .slice ra rn rc, .int .i64 how] w fun e w' => e = .returned (.bool true) ∧ Below w.heap.size w w' := by
  have h1 := freshN_any (n := N) hN1 hN2 w
  have HT := Hid.mk hrs
  have dn1 : ¬ (N : Int) < 18 := by omega
  have dn2 : ¬ (256 : Int) < (N : Int) := by omega
  clear hrs
  go_enter Tryz.func3, Tryz.ntmps3
  go_wp2_with fail
  refine h1.mono ?_
  rintro e w1 ⟨F, p, l, S, L, rfl, hlv, ht0, hh0, hsnd⟩
  have HR : Hid (LivesRun w w1 p l N) := ⟨F, S, L, hlv, hsnd⟩
  clear h1 hlv ht0 hh0 hsnd
  go_wp2
  go_loopw [9] (fun i wr => ∃ j : Nat, j ≤ rn ∧ i = .int .i64 (j : Int) ∧ LivesRun w wr p l N) (fun i _ => rn - (intOf i).toNat)
  case atStart => exact ⟨0, Nat.zero_le _, rfl, HR.out⟩
  case round =>
    clear HR
    obtain ⟨j, hj, rfl, F, S, L, hlv, hsnd⟩ := hrel
    by_cases hlt : j < rn
    · have hlt' : (j : Int) < (rn : Int) := by omega
      obtain ⟨z, rfl⟩ : ∃ z, ra = some z := by
        cases ra with
        | none => have := HT.out.1 rfl; omega
        | some z => exact ⟨z, rfl⟩
      obtain ⟨b, o, rfl, hbB, a', n', c', d, c0, hsr, hby, hbl, hn'⟩ := (HT.out.far hlv.b).2 z rfl j hlt
      have HLv := Hid.mk hlv
      have HSn := Hid.mk hsnd
      have h2 := twin_any a' n' c' d wr hn' hsr
      have hdl := hsr.1
      clear hlv hsnd hsr
      go_wp2_with fail
      refine h2.mono ?_
      rintro e w2 ⟨g, rfl, hg, hr2, hb2⟩
      have hs2 := hr2.src
      rw [hdl] at hs2
      have hFn : ¬ F g := fun hf => by have := HLv.out.d.lt _ hf; omega
      have h3 := live_append_any (HLv.out.later hb2) HSn.out (some ⟨g, 0, none⟩) n' n' d hs2 (fun y e _ => by cases e; exact hFn) hby (Nat.le_refl _) hn'
      clear h2 hr2 hb2 hs2 hFn c0
      go_wp2_with fail
      refine h3.mono ?_
      rintro e w3 ⟨c, rfl, F3, S3, L3, hlv3, hsn3⟩
      have HZ : Hid (LivesRun w w3 p l N) := ⟨F3, S3, L3, hlv3, hsn3⟩
      clear h3 hlv3 hsn3
      go_wp2
      go_roundw
      case rel => exact ⟨j + 1, by omega, by go_num, HZ.out⟩
      case measure => simp [intOf]; omega
    · obtain rfl : j = rn := by omega
      have hge : ¬ (j : Int) < (j : Int) := by omega
      have h2 := live_sync hlv
      have hsn2 := hsnd.fl (s := N + 2) hlv.d.ok (by omega)
      have hpz : (S.fl (N + 2)).2.puts = [] := fl_zero (sync_calm (s := N + 2) hlv.f hlv.a hlv.g).2
      clear hlv hsnd
      generalize (S.fl (N + 2)).2 = S3 at *
      go_wp2_with fail
      refine h2.mono ?_
      rintro e w3 ⟨rfl, F3, hlv3⟩
      have HSn := Hid.mk hsn2
      have HPz := Hid.mk hpz
      have HLv := Hid.mk hlv3
      clear h2 hsn2 hpz hlv3
      have h4 := dtake HLv.out.d
      have hI4 := HLv.out.i.take (by omega)
      have hf4 : S3.take.fuse = -1 := HLv.out.f
      have hlf4 : S3.take.life = S3.life + 1 := wrap_life HLv.out.i.l0 HLv.out.i.lt (by omega)
      have HOp : Hid ((lopen S3.take (N + 2) 0 (N : Int)).1 = 0) := (open_sound (f := 0) (n := N) (E := 2) HSn.out.take (by omega) (by omega) hI4.ok hf4 (by omega) hN1 hN2).1
      generalize S3.take = S4 at *
      go_wp2_with fail
      refine h4.mono ?_
      rintro e w4 ⟨rfl, hd4, hk4⟩
      have hov : Over w w4 F3 p l N S4 L := by
        refine ⟨hd4, HLv.out.lp.keep hk4 HLv.out.nf, HLv.out.nf, HLv.out.fF, HLv.out.lo, HLv.out.b.trans (hk4.below HLv.out.fF HLv.out.b.size), (HLv.out.i.at (i := 0) rfl).1, hI4.byt, hI4.p6, hf4, dead_later (by rw [hlf4, HLv.out.a]; omega)⟩
      obtain ⟨F4, hF4⟩ : ∃ F4, F4 = F3 := ⟨_, rfl⟩
      rw [← hF4] at hov
      clear hF4
      clear h4 hd4 hk4 hI4 hf4 hlf4
      have HOv := Hid.mk hov
      have h8 := dcounts hov.d (by have := hov.p6; omega)
      clear hov
      go_wp2_with fail
      refine h8.mono ?_
      rintro e w5 ⟨r5, rfl, hb5⟩
      have hb6 := below_box w5 (.cells (cnCells r5 S4.writes S4.flushes S4.refused S4.puts.length) 38)
      have hn6 : (w5.alloc (.cells (cnCells r5 S4.writes S4.flushes S4.refused S4.puts.length) 38)).heap[w5.heap.size]? = some (.cells (cnCells r5 S4.writes S4.flushes S4.refused S4.puts.length) 38 (0, 0)) := heap_alloc_new _ _
      have hb45 : Below w4.heap.size w4 (w5.alloc (.cells (cnCells r5 S4.writes S4.flushes S4.refused S4.puts.length) 38)) := hb5.trans (hb6.mono hb5.size)
      have hov6 := HOv.out.later hb45
      have h9 := refused_any hov6
      have HN6 := Hid.mk hn6
      have HB45 := Hid.mk hb45
      have hz5 := hb5.size
      have HOv6 := Hid.mk hov6
      clear h8 hb5 hb6 hn6 hb45 hov6
      go_wp2_with fail
      refine h9.mono ?_
      rintro e w7 ⟨rfl, F7, hov7, hhe7⟩
      have h10 := dcounts hov7.d (by have := hov7.p6; omega)
      have HOv7 := Hid.mk hov7
      have HHe := Hid.mk hhe7
      have hne : ¬ (F4 w5.heap.size ∨ w5.heap.size = l) := fun h => by
        rcases h with h | h
        · have := HOv.out.d.lt _ h; omega
        · have := HOv.out.lp.lt; omega
      have hn7 := (hhe7.k.block w5.heap.size (lt_there HN6.out) hne).trans HN6.out
      have HN7 := Hid.mk hn7
      clear h9 hov7 hhe7 hn7 HN6
      go_wp2_with fail
      refine h10.mono ?_
      rintro e w8 ⟨r8, rfl, hb8⟩
      have hb9 := below_box w8 (.cells (cnCells r8 S4.writes S4.flushes S4.refused S4.puts.length) 38)
      have hn9 := (hb9.block w5.heap.size (Nat.lt_of_lt_of_le (lt_there HN7.out) hb8.size)).trans ((hb8.block w5.heap.size (lt_there HN7.out)).trans HN7.out)
      have hm9 : (w8.alloc (.cells (cnCells r8 S4.writes S4.flushes S4.refused S4.puts.length) 38)).heap[w8.heap.size]? = some (.cells (cnCells r8 S4.writes S4.flushes S4.refused S4.puts.length) 38 (0, 0)) := heap_alloc_new _ _
      have a1 := cell_of_block hn9 (j := 1) rfl
      have a2 := cell_of_block hn9 (j := 2) rfl
      have a4 := cell_of_block hn9 (j := 4) rfl
      have b1 := cell_of_block hm9 (j := 1) rfl
      have b2 := cell_of_block hm9 (j := 2) rfl
      have b4 := cell_of_block hm9 (j := 4) rfl
      have hb79 : Below w7.heap.size w7 (w8.alloc (.cells (cnCells r8 S4.writes S4.flushes S4.refused S4.puts.length) 38)) := hb8.trans (hb9.mono hb8.size)
      have hov9 := HOv7.out.later hb79
      have h11 := open_yesF hov9.d hov9.y 0 (N : Int) hov9.p6 HOp.out
      have HOv9 := Hid.mk hov9
      have HB79 := Hid.mk hb79
      clear h10 hb8 hb9 hn9 hm9 hb79 hov9 HN7
      go_wp2_with fail
      refine h11.mono ?_
      rintro e w10 ⟨l2, v2, rs2, hd2, rfl, ⟨hl2, htold⟩, hd10, hk10⟩
      have HB10 : Hid (Below w.heap.size w w10) := HOv9.out.b.trans (hk10.below HOv9.out.fF HOv9.out.b.size)
      clear h11 htold hd10 hk10 a1 a2 a4 b1 b2 b4
      go_wp2
      go_ret
      exact ⟨rfl, HB10.out⟩

set_option maxRecDepth 20000 in
set_option maxHeartbeats 8000000 in
theorem walLives_3 (N : Nat) (hN1 : 18 ≤ N) (hN2 : N ≤ 256) (ra : Option Addr) (rn rc : Nat) (how : Int) (w : World) (hrs : Recs w w.heap.size ra rn) (hrn : rn ≤ 140737488355328) (hx : bits .and .i64 how 3 = 3) :
    Calls Tryz.prog 3 #[.int .i64 (N : Int), .slice ra rn rc, .int .i64 how] w fun e w' => e = .returned (.bool true) ∧ Below w.heap.size w w' := by
  have h1 := freshN_any (n := N) hN1 hN2 w
  have HT := Hid.mk hrs
  have dn1 : ¬ (N : Int) < 18 := by omega
  have dn2 : ¬ (256 : Int) < (N : Int) := by omega
  clear hrs
  go_enter Tryz.func3, Tryz.ntmps3
  go_wp2_with fail
  refine h1.mono ?_
  rintro e w1 ⟨F, p, l, S, L, rfl, hlv, ht0, hh0, hsnd⟩
  have HR : Hid (LivesRun w w1 p l N) := ⟨F, S, L, hlv, hsnd⟩
  clear h1 hlv ht0 hh0 hsnd
  go_wp2
  go_loopw [9] (fun i wr => ∃ j : Nat, j ≤ rn ∧ i = .int .i64 (j : Int) ∧ LivesRun w wr p l N) (fun i _ => rn - (intOf i).toNat)
  case atStart => exact ⟨0, Nat.zero_le _, rfl, HR.out⟩
  case round =>
    clear HR
    obtain ⟨j, hj, rfl, F, S, L, hlv, hsnd⟩ := hrel
    by_cases hlt : j < rn
    · have hlt' : (j : Int) < (rn : Int) := by omega
      obtain ⟨z, rfl⟩ : ∃ z, ra = some z := by
        cases ra with
        | none => have := HT.out.1 rfl; omega
        | some z => exact ⟨z, rfl⟩
      obtain ⟨b, o, rfl, hbB, a', n', c', d, c0, hsr, hby, hbl, hn'⟩ := (HT.out.far hlv.b).2 z rfl j hlt
      have HLv := Hid.mk hlv
      have HSn := Hid.mk hsnd
      have h2 := twin_any a' n' c' d wr hn' hsr
      have hdl := hsr.1
      clear hlv hsnd hsr
      go_wp2_with fail
      refine h2.mono ?_
      rintro e w2 ⟨g, rfl, hg, hr2, hb2⟩
      have hs2 := hr2.src
      rw [hdl] at hs2
      have hFn : ¬ F g := fun hf => by have := HLv.out.d.lt _ hf; omega
      have h3 := live_append_any (HLv.out.later hb2) HSn.out (some ⟨g, 0, none⟩) n' n' d hs2 (fun y e _ => by cases e; exact hFn) hby (Nat.le_refl _) hn'
      clear h2 hr2 hb2 hs2 hFn c0
      go_wp2_with fail
      refine h3.mono ?_
      rintro e w3 ⟨c, rfl, F3, S3, L3, hlv3, hsn3⟩
      have HZ : Hid (LivesRun w w3 p l N) := ⟨F3, S3, L3, hlv3, hsn3⟩
      clear h3 hlv3 hsn3
      go_wp2
      go_roundw
      case rel => exact ⟨j + 1, by omega, by go_num, HZ.out⟩
      case measure => simp [intOf]; omega
    · obtain rfl : j = rn := by omega
      have hge : ¬ (j : Int) < (j : Int) := by omega
      have h2 := live_sync hlv
      have hsn2 := hsnd.fl (s := N + 2) hlv.d.ok (by omega)
      have hpz : (S.fl (N + 2)).2.puts = [] := fl_zero (sync_calm (s := N + 2) hlv.f hlv.a hlv.g).2
      clear hlv hsnd
      generalize (S.fl (N + 2)).2 = S3 at *
      go_wp2_with fail
      refine h2.mono ?_
      rintro e w3 ⟨rfl, F3, hlv3⟩
      have HSn := Hid.mk hsn2
      have HPz := Hid.mk hpz
      have HLv := Hid.mk hlv3
      clear h2 hsn2 hpz hlv3
      have h4 := dcrash HLv.out.d (by have := HLv.out.i.p6; omega) none 0 0 [] ⟨rfl, fun _ => rfl, (fun x hx => by cases hx), fun q hq => by cases hq⟩ (by omega) (fun x e => by cases e)
      have hlf4 : (S3.crash (N + 2) []).life = S3.life + 1 := wrap_life HLv.out.i.l0 HLv.out.i.lt (by omega)
      have hf4 : (S3.crash (N + 2) []).fuse = -1 := rfl
      have HSc := Hid.mk (HSn.out.crash HLv.out.d.ok (by omega) HPz.out ([] : List P3))
      have HIc := Hid.mk (fun ok => HLv.out.i.crash (by omega) ([] : List P3) ok)
      generalize S3.crash (N + 2) [] = S4 at *
      go_wp2_with fail
      refine h4.mono ?_
      rintro e w4 ⟨rfl, hd4, hk4⟩
      have hI4 := HIc.out hd4.ok
      have HOp : Hid ((lopen S4 (N + 2) 0 (N : Int)).1 = 0) := (open_sound (f := 0) (n := N) (E := 2) HSc.out (by omega) (by omega) hI4.ok hf4 (by omega) hN1 hN2).1
      have hov : Over w w4 F3 p l N S4 L := by
        refine ⟨hd4, HLv.out.lp.keep hk4 HLv.out.nf, HLv.out.nf, HLv.out.fF, HLv.out.lo, HLv.out.b.trans (hk4.below HLv.out.fF HLv.out.b.size), (HLv.out.i.at (i := 0) rfl).1, hI4.byt, hI4.p6, hf4, dead_later (by rw [hlf4, HLv.out.a]; omega)⟩
      obtain ⟨F4, hF4⟩ : ∃ F4, F4 = F3 := ⟨_, rfl⟩
      rw [← hF4] at hov
      clear hF4 h4 hd4 hk4 hI4 hf4 hlf4
      have HOv := Hid.mk hov
      have h8 := dcounts hov.d (by have := hov.p6; omega)
      clear hov
      go_wp2_with fail
      refine h8.mono ?_
      rintro e w5 ⟨r5, rfl, hb5⟩
      have hb6 := below_box w5 (.cells (cnCells r5 S4.writes S4.flushes S4.refused S4.puts.length) 38)
      have hn6 : (w5.alloc (.cells (cnCells r5 S4.writes S4.flushes S4.refused S4.puts.length) 38)).heap[w5.heap.size]? = some (.cells (cnCells r5 S4.writes S4.flushes S4.refused S4.puts.length) 38 (0, 0)) := heap_alloc_new _ _
      have hb45 : Below w4.heap.size w4 (w5.alloc (.cells (cnCells r5 S4.writes S4.flushes S4.refused S4.puts.length) 38)) := hb5.trans (hb6.mono hb5.size)
      have hov6 := HOv.out.later hb45
      have h9 := refused_any hov6
      have HN6 := Hid.mk hn6
      have HB45 := Hid.mk hb45
      have hz5 := hb5.size
      have HOv6 := Hid.mk hov6
      clear h8 hb5 hb6 hn6 hb45 hov6
      go_wp2_with fail
      refine h9.mono ?_
      rintro e w7 ⟨rfl, F7, hov7, hhe7⟩
      have h10 := dcounts hov7.d (by have := hov7.p6; omega)
      have HOv7 := Hid.mk hov7
      have HHe := Hid.mk hhe7
      have hne : ¬ (F4 w5.heap.size ∨ w5.heap.size = l) := fun h => by
        rcases h with h | h
        · have := HOv.out.d.lt _ h; omega
        · have := HOv.out.lp.lt; omega
      have hn7 := (hhe7.k.block w5.heap.size (lt_there HN6.out) hne).trans HN6.out
      have HN7 := Hid.mk hn7
      clear h9 hov7 hhe7 hn7 HN6
      go_wp2_with fail
      refine h10.mono ?_
      rintro e w8 ⟨r8, rfl, hb8⟩
      have hb9 := below_box w8 (.cells (cnCells r8 S4.writes S4.flushes S4.refused S4.puts.length) 38)
      have hn9 := (hb9.block w5.heap.size (Nat.lt_of_lt_of_le (lt_there HN7.out) hb8.size)).trans ((hb8.block w5.heap.size (lt_there HN7.out)).trans HN7.out)
      have hm9 : (w8.alloc (.cells (cnCells r8 S4.writes S4.flushes S4.refused S4.puts.length) 38)).heap[w8.heap.size]? = some (.cells (cnCells r8 S4.writes S4.flushes S4.refused S4.puts.length) 38 (0, 0)) := heap_alloc_new _ _
      have a1 := cell_of_block hn9 (j := 1) rfl
      have a2 := cell_of_block hn9 (j := 2) rfl
      have a4 := cell_of_block hn9 (j := 4) rfl
      have b1 := cell_of_block hm9 (j := 1) rfl
      have b2 := cell_of_block hm9 (j := 2) rfl
      have b4 := cell_of_block hm9 (j := 4) rfl
      have hb79 : Below w7.heap.size w7 (w8.alloc (.cells (cnCells r8 S4.writes S4.flushes S4.refused S4.puts.length) 38)) := hb8.trans (hb9.mono hb8.size)
      have hov9 := HOv7.out.later hb79
      have h11 := open_yesF hov9.d hov9.y 0 (N : Int) hov9.p6 HOp.out
      have HOv9 := Hid.mk hov9
      have HB79 := Hid.mk hb79
      clear h10 hb8 hb9 hn9 hm9 hb79 hov9 HN7
      go_wp2_with fail
      refine h11.mono ?_
      rintro e w10 ⟨l2, v2, rs2, hd2, rfl, ⟨hl2, htold⟩, hd10, hk10⟩
      have HB10 : Hid (Below w.heap.size w w10) := HOv9.out.b.trans (hk10.below HOv9.out.fF HOv9.out.b.size)
      clear h11 htold hd10 hk10 a1 a2 a4 b1 b2 b4
      go_wp2
      go_ret
      exact ⟨rfl, HB10.out⟩

set_option maxRecDepth 20000 in
set_option maxHeartbeats 8000000 in
theorem walLives_1 (N : Nat) (hN1 : 18 ≤ N) (hN2 : N ≤ 256) (ra : Option Addr) (rn rc : Nat) (how : Int) (w : World) (hrs : Recs w w.heap.size ra rn) (hrn : rn ≤ 140737488355328) (hx : bits .and .i64 how 3 = 1) :
    Calls Tryz.prog 3 #[.int .i64 (N : Int), .slice ra rn rc, .int .i64 how] w fun e w' => e = .returned (.bool true) ∧ Below w.heap.size w w' := by
  have h1 := freshN_any (n := N) hN1 hN2 w
  have HT := Hid.mk hrs
  have dn1 : ¬ (N : Int) < 18 := by omega
  have dn2 : ¬ (256 : Int) < (N : Int) := by omega
  clear hrs
  go_enter Tryz.func3, Tryz.ntmps3
  go_wp2_with fail
  refine h1.mono ?_
  rintro e w1 ⟨F, p, l, S, L, rfl, hlv, ht0, hh0, hsnd⟩
  have HR : Hid (LivesRun w w1 p l N) := ⟨F, S, L, hlv, hsnd⟩
  clear h1 hlv ht0 hh0 hsnd
  go_wp2
  go_loopw [9] (fun i wr => ∃ j : Nat, j ≤ rn ∧ i = .int .i64 (j : Int) ∧ LivesRun w wr p l N) (fun i _ => rn - (intOf i).toNat)
  case atStart => exact ⟨0, Nat.zero_le _, rfl, HR.out⟩
  case round =>
    clear HR
    obtain ⟨j, hj, rfl, F, S, L, hlv, hsnd⟩ := hrel
    by_cases hlt : j < rn
    · have hlt' : (j : Int) < (rn : Int) := by omega
      obtain ⟨z, rfl⟩ : ∃ z, ra = some z := by
        cases ra with
        | none => have := HT.out.1 rfl; omega
        | some z => exact ⟨z, rfl⟩
      obtain ⟨b, o, rfl, hbB, a', n', c', d, c0, hsr, hby, hbl, hn'⟩ := (HT.out.far hlv.b).2 z rfl j hlt
      have HLv := Hid.mk hlv
      have HSn := Hid.mk hsnd
      have h2 := twin_any a' n' c' d wr hn' hsr
      have hdl := hsr.1
      clear hlv hsnd hsr
      go_wp2_with fail
      refine h2.mono ?_
      rintro e w2 ⟨g, rfl, hg, hr2, hb2⟩
      have hs2 := hr2.src
      rw [hdl] at hs2
      have hFn : ¬ F g := fun hf => by have := HLv.out.d.lt _ hf; omega
      have h3 := live_append_any (HLv.out.later hb2) HSn.out (some ⟨g, 0, none⟩) n' n' d hs2 (fun y e _ => by cases e; exact hFn) hby (Nat.le_refl _) hn'
      clear h2 hr2 hb2 hs2 hFn c0
      go_wp2_with fail
      refine h3.mono ?_
      rintro e w3 ⟨c, rfl, F3, S3, L3, hlv3, hsn3⟩
      have HZ : Hid (LivesRun w w3 p l N) := ⟨F3, S3, L3, hlv3, hsn3⟩
      clear h3 hlv3 hsn3
      go_wp2
      go_roundw
      case rel => exact ⟨j + 1, by omega, by go_num, HZ.out⟩
      case measure => simp [intOf]; omega
    · obtain rfl : j = rn := by omega
      have hge : ¬ (j : Int) < (j : Int) := by omega
      have h2 := live_sync hlv
      have hsn2 := hsnd.fl (s := N + 2) hlv.d.ok (by omega)
      have hpz : (S.fl (N + 2)).2.puts = [] := fl_zero (sync_calm (s := N + 2) hlv.f hlv.a hlv.g).2
      clear hlv hsnd
      generalize (S.fl (N + 2)).2 = S3 at *
      go_wp2_with fail
      refine h2.mono ?_
      rintro e w3 ⟨rfl, F3, hlv3⟩
      have HSn := Hid.mk hsn2
      have HPz := Hid.mk hpz
      have HLv := Hid.mk hlv3
      clear h2 hsn2 hpz hlv3
      obtain ⟨z1, z2, z3, z4⟩ := format_calm (a := 0) (b := N) HLv.out.i (by omega) HLv.out.f (by omega) hN1 hN2
      rw [show ((0 : Nat) : Int) = 0 from rfl] at z1 z2 z3 z4
      have h4 := Format_any HLv.out.d HLv.out.i.byt 0 (N : Int) (by have := HLv.out.i.p6; omega)
      have hll := lives_format HLv.out.i (by omega) 0 (N : Int)
      rw [z1] at h4 hll
      have hlf4 : (lformat S3 (N + 2) 0 (N : Int)).2.life ≠ S3.life := by
        unfold LivesOk at hll
        rcases hll with ⟨_, h | h | ⟨h, _⟩⟩ | ⟨h, _⟩
        · omega
        · omega
        · omega
        · exact h
      have HIf := Hid.mk (fun ok => HLv.out.i.format (by omega) 0 (N : Int) ok)
      have HZ := Hid.mk (And.intro z3 z4)
      clear z1 z3 z4 hll
      generalize (lformat S3 (N + 2) 0 (N : Int)).2 = S4 at *
      go_wp2_with fail
      refine h4.mono ?_
      rintro e w4 ⟨rfl, hd4, hk4⟩
      have hI4 := HIf.out hd4.ok
      have hoc := open_calm (a := 0) (b := N) hd4.ok z2 (by omega) hN1 hN2 HZ.out.1 HZ.out.2
      have HOp : Hid ((lopen S4 (N + 2) 0 (N : Int)).1 = 0) := hoc.1
      have HNo := Hid.mk hoc.2.2.2.1
      have hov : Over w w4 (more F3 w3 w4) p l N S4 L := by
        refine ⟨hd4, HLv.out.lp.keep hk4 HLv.out.nf, fun hm => ?_, fun k hk => ?_, HLv.out.lo, HLv.out.b.trans (hk4.below HLv.out.fF HLv.out.b.size), (HLv.out.i.at (i := 0) rfl).1, hI4.byt, hI4.p6, z2, dead_later (by rw [HLv.out.a]; exact hlf4)⟩
        · rcases hm with hm | hm
          · exact HLv.out.nf hm
          · have := HLv.out.lp.lt; omega
        · rcases hk with hk | hk
          · exact HLv.out.fF k hk
          · have := HLv.out.b.size; omega
      clear h4 hd4 hk4 hI4 hlf4 z2 hoc
      generalize more F3 w3 w4 = F4 at *
      have HOv := Hid.mk hov
      have h8 := dcounts hov.d (by have := hov.p6; omega)
      clear hov
      go_wp2_with fail
      refine h8.mono ?_
      rintro e w5 ⟨r5, rfl, hb5⟩
      have hb6 := below_box w5 (.cells (cnCells r5 S4.writes S4.flushes S4.refused S4.puts.length) 38)
      have hn6 : (w5.alloc (.cells (cnCells r5 S4.writes S4.flushes S4.refused S4.puts.length) 38)).heap[w5.heap.size]? = some (.cells (cnCells r5 S4.writes S4.flushes S4.refused S4.puts.length) 38 (0, 0)) := heap_alloc_new _ _
      have hb45 : Below w4.heap.size w4 (w5.alloc (.cells (cnCells r5 S4.writes S4.flushes S4.refused S4.puts.length) 38)) := hb5.trans (hb6.mono hb5.size)
      have hov6 := HOv.out.later hb45
      have h9 := refused_any hov6
      have HN6 := Hid.mk hn6
      have HB45 := Hid.mk hb45
      have hz5 := hb5.size
      have HOv6 := Hid.mk hov6
      clear h8 hb5 hb6 hn6 hb45 hov6
      go_wp2_with fail
      refine h9.mono ?_
      rintro e w7 ⟨rfl, F7, hov7, hhe7⟩
      have h10 := dcounts hov7.d (by have := hov7.p6; omega)
      have HOv7 := Hid.mk hov7
      have HHe := Hid.mk hhe7
      have hne : ¬ (F4 w5.heap.size ∨ w5.heap.size = l) := fun h => by
        rcases h with h | h
        · have := HOv.out.d.lt _ h; omega
        · have := HOv.out.lp.lt; omega
      have hn7 := (hhe7.k.block w5.heap.size (lt_there HN6.out) hne).trans HN6.out
      have HN7 := Hid.mk hn7
      clear h9 hov7 hhe7 hn7 HN6
      go_wp2_with fail
      refine h10.mono ?_
      rintro e w8 ⟨r8, rfl, hb8⟩
      have hb9 := below_box w8 (.cells (cnCells r8 S4.writes S4.flushes S4.refused S4.puts.length) 38)
      have hn9 := (hb9.block w5.heap.size (Nat.lt_of_lt_of_le (lt_there HN7.out) hb8.size)).trans ((hb8.block w5.heap.size (lt_there HN7.out)).trans HN7.out)
      have hm9 : (w8.alloc (.cells (cnCells r8 S4.writes S4.flushes S4.refused S4.puts.length) 38)).heap[w8.heap.size]? = some (.cells (cnCells r8 S4.writes S4.flushes S4.refused S4.puts.length) 38 (0, 0)) := heap_alloc_new _ _
      have a1 := cell_of_block hn9 (j := 1) rfl
      have a2 := cell_of_block hn9 (j := 2) rfl
      have a4 := cell_of_block hn9 (j := 4) rfl
      have b1 := cell_of_block hm9 (j := 1) rfl
      have b2 := cell_of_block hm9 (j := 2) rfl
      have b4 := cell_of_block hm9 (j := 4) rfl
      have hb79 : Below w7.heap.size w7 (w8.alloc (.cells (cnCells r8 S4.writes S4.flushes S4.refused S4.puts.length) 38)) := hb8.trans (hb9.mono hb8.size)
      have hov9 := HOv7.out.later hb79
      have h11 := open_yesF hov9.d hov9.y 0 (N : Int) hov9.p6 HOp.out
      have HOv9 := Hid.mk hov9
      have HB79 := Hid.mk hb79
      clear h10 hb8 hb9 hn9 hm9 hb79 hov9 HN7
      go_wp2_with fail
      refine h11.mono ?_
      rintro e w10 ⟨l2, v2, rs2, hd2, rfl, ⟨hl2, htold⟩, hd10, hk10⟩
      have HB10 : Hid (Below w.heap.size w w10) := HOv9.out.b.trans (hk10.below HOv9.out.fF HOv9.out.b.size)
      obtain ⟨rfl, _⟩ := HNo.out rs2 hd2 htold.t
      obtain ⟨a10, c10, rfl⟩ := htold.r.nil_form
      clear h11 htold hd10 hk10 a1 a2 a4 b1 b2 b4
      go_wp2
      go_ret
      exact ⟨by simp, HB10.out⟩

set_option maxRecDepth 20000 in
set_option maxHeartbeats 8000000 in
theorem walLives_0 (N : Nat) (hN1 : 18 ≤ N) (hN2 : N ≤ 256) (ra : Option Addr) (rn rc : Nat) (how : Int) (w : World) (hrs : Recs w w.heap.size ra rn) (hrn : rn ≤ 140737488355328) (hx : bits .and .i64 how 3 = 0) :
    Calls Tryz.prog 3 #[.int .i64 (N : Int), .slice ra rn rc, .int .i64 how] w fun e w' => e = .returned (.bool true) ∧ Below w.heap.size w w' := by
  have h1 := freshN_any (n := N) hN1 hN2 w
  have HT := Hid.mk hrs
  have dn1 : ¬ (N : Int) < 18 := by omega
  have dn2 : ¬ (256 : Int) < (N : Int) := by omega
  clear hrs
  go_enter Tryz.func3, Tryz.ntmps3
  go_wp2_with fail
  refine h1.mono ?_
  rintro e w1 ⟨F, p, l, S, L, rfl, hlv, ht0, hh0, hsnd⟩
  have HR : Hid (LivesRun w w1 p l N) := ⟨F, S, L, hlv, hsnd⟩
  clear h1 hlv ht0 hh0 hsnd
  go_wp2
  go_loopw [9] (fun i wr => ∃ j : Nat, j ≤ rn ∧ i = .int .i64 (j : Int) ∧ LivesRun w wr p l N) (fun i _ => rn - (intOf i).toNat)
  case atStart => exact ⟨0, Nat.zero_le _, rfl, HR.out⟩
  case round =>
    clear HR
    obtain ⟨j, hj, rfl, F, S, L, hlv, hsnd⟩ := hrel
    by_cases hlt : j < rn
    · have hlt' : (j : Int) < (rn : Int) := by omega
      obtain ⟨z, rfl⟩ : ∃ z, ra = some z := by
        cases ra with
        | none => have := HT.out.1 rfl; omega
        | some z => exact ⟨z, rfl⟩
      obtain ⟨b, o, rfl, hbB, a', n', c', d, c0, hsr, hby, hbl, hn'⟩ := (HT.out.far hlv.b).2 z rfl j hlt
      have HLv := Hid.mk hlv
      have HSn := Hid.mk hsnd
      have h2 := twin_any a' n' c' d wr hn' hsr
      have hdl := hsr.1
      clear hlv hsnd hsr
      go_wp2_with fail
      refine h2.mono ?_
      rintro e w2 ⟨g, rfl, hg, hr2, hb2⟩
      have hs2 := hr2.src
      rw [hdl] at hs2
      have hFn : ¬ F g := fun hf => by have := HLv.out.d.lt _ hf; omega
      have h3 := live_append_any (HLv.out.later hb2) HSn.out (some ⟨g, 0, none⟩) n' n' d hs2 (fun y e _ => by cases e; exact hFn) hby (Nat.le_refl _) hn'
      clear h2 hr2 hb2 hs2 hFn c0
      go_wp2_with fail
      refine h3.mono ?_
      rintro e w3 ⟨c, rfl, F3, S3, L3, hlv3, hsn3⟩
      have HZ : Hid (LivesRun w w3 p l N) := ⟨F3, S3, L3, hlv3, hsn3⟩
      clear h3 hlv3 hsn3
      go_wp2
      go_roundw
      case rel => exact ⟨j + 1, by omega, by go_num, HZ.out⟩
      case measure => simp [intOf]; omega
    · obtain rfl : j = rn := by omega
      have hge : ¬ (j : Int) < (j : Int) := by omega
      have h2 := live_sync hlv
      have hsn2 := hsnd.fl (s := N + 2) hlv.d.ok (by omega)
      have hpz : (S.fl (N + 2)).2.puts = [] := fl_zero (sync_calm (s := N + 2) hlv.f hlv.a hlv.g).2
      clear hlv hsnd
      generalize (S.fl (N + 2)).2 = S3 at *
      go_wp2_with fail
      refine h2.mono ?_
      rintro e w3 ⟨rfl, F3, hlv3⟩
      have HSn := Hid.mk hsn2
      have HPz := Hid.mk hpz
      have HLv := Hid.mk hlv3
      clear h2 hsn2 hpz hlv3
      have hos := open_sound (f := 0) (n := N) (E := 2) HSn.out (by omega) (by omega) HLv.out.d.ok HLv.out.f (by omega) hN1 hN2
      rw [show ((0 : Nat) : Int) = 0 from rfl] at hos
      obtain ⟨z1, hf4, z3, z4, z5, z6⟩ := hos
      have h4 := open_yesF HLv.out.d HLv.out.i.byt 0 (N : Int) HLv.out.i.p6 z1
      have hlf4 : (lopen S3 (N + 2) 0 (N : Int)).2.life = S3.life + 1 := z3.trans (wrap_life HLv.out.i.l0 HLv.out.i.lt (by omega))
      have HZ := Hid.mk (And.intro z4 (And.intro z5 z6))
      have HBy : Hid ((lopen S3 (N + 2) 0 (N : Int)).2.Byt) := by
        have hr0 : lrefuse S3 (N + 2) 0 (N : Int) = 0 := by
          unfold lrefuse
          have := HLv.out.f
          rw [if_neg (by omega), if_neg (by omega), if_neg (by omega), if_neg (by omega)]
        unfold lopen
        rw [if_neg (by omega)]
        split
        · exact HLv.out.i.byt.take
        · split
          · exact HLv.out.i.byt.take
          · exact HLv.out.i.byt.take.fl _
      clear z1 z3 z4 z5 z6
      generalize (lopen S3 (N + 2) 0 (N : Int)).2 = S4 at *
      go_wp2_with fail
      refine h4.mono ?_
      rintro e w4 ⟨l1, v1, rs1, hd1, rfl, ⟨hl1, htold1⟩, hd4, hk4⟩
      have hsn4 : Snd S4 0 N (2 * 4294967296) 2 := HSn.out.same (fun j hj => HZ.out.1 j (by omega))
      have hos4 := open_sound (f := 0) (n := N) (E := 2) hsn4 (by omega) (by omega) hd4.ok hf4 (by omega) hN1 hN2
      have HOp : Hid ((lopen S4 (N + 2) 0 (N : Int)).1 = 0) := hos4.1
      have HO4 := Hid.mk hos4.2.2.2.2.2
      have HTo1 := Hid.mk htold1
      have hov : Over w w4 F3 p l N S4 L := by
        refine ⟨hd4, HLv.out.lp.keep hk4 HLv.out.nf, HLv.out.nf, HLv.out.fF, HLv.out.lo, HLv.out.b.trans (hk4.below HLv.out.fF HLv.out.b.size), (HLv.out.i.at (i := 0) rfl).1, HBy.out, by rw [HZ.out.2.1]; exact Nat.zero_le _, hf4, dead_later (by rw [hlf4, HLv.out.a]; omega)⟩
      have hz4 := hk4.size
      obtain ⟨F4, hF4⟩ : ∃ F4, F4 = F3 := ⟨_, rfl⟩
      rw [← hF4] at hov
      have HF4 := Hid.mk hF4
      clear h4 hd4 hk4 hf4 hlf4 htold1 hsn4 hos4 hF4
      have HOv := Hid.mk hov
      have h8 := dcounts hov.d (by have := hov.p6; omega)
      clear hov
      go_wp2_with fail
      refine h8.mono ?_
      rintro e w5 ⟨r5, rfl, hb5⟩
      have hb6 := below_box w5 (.cells (cnCells r5 S4.writes S4.flushes S4.refused S4.puts.length) 38)
      have hn6 : (w5.alloc (.cells (cnCells r5 S4.writes S4.flushes S4.refused S4.puts.length) 38)).heap[w5.heap.size]? = some (.cells (cnCells r5 S4.writes S4.flushes S4.refused S4.puts.length) 38 (0, 0)) := heap_alloc_new _ _
      have hb45 : Below w4.heap.size w4 (w5.alloc (.cells (cnCells r5 S4.writes S4.flushes S4.refused S4.puts.length) 38)) := hb5.trans (hb6.mono hb5.size)
      have hov6 := HOv.out.later hb45
      have h9 := refused_any hov6
      have HN6 := Hid.mk hn6
      have HB45 := Hid.mk hb45
      have hz5 := hb5.size
      have HOv6 := Hid.mk hov6
      clear h8 hb5 hb6 hn6 hb45 hov6
      go_wp2_with fail
      refine h9.mono ?_
      rintro e w7 ⟨rfl, F7, hov7, hhe7⟩
      have h10 := dcounts hov7.d (by have := hov7.p6; omega)
      have HOv7 := Hid.mk hov7
      have HHe := Hid.mk hhe7
      have hne : ¬ (F4 w5.heap.size ∨ w5.heap.size = l) := fun h => by
        rcases h with h | h
        · have := HOv.out.d.lt _ h; omega
        · have := HOv.out.lp.lt; omega
      have hn7 := (hhe7.k.block w5.heap.size (lt_there HN6.out) hne).trans HN6.out
      have HN7 := Hid.mk hn7
      clear h9 hov7 hhe7 hn7 HN6
      go_wp2_with fail
      refine h10.mono ?_
      rintro e w8 ⟨r8, rfl, hb8⟩
      have hb9 := below_box w8 (.cells (cnCells r8 S4.writes S4.flushes S4.refused S4.puts.length) 38)
      have hn9 := (hb9.block w5.heap.size (Nat.lt_of_lt_of_le (lt_there HN7.out) hb8.size)).trans ((hb8.block w5.heap.size (lt_there HN7.out)).trans HN7.out)
      have hm9 : (w8.alloc (.cells (cnCells r8 S4.writes S4.flushes S4.refused S4.puts.length) 38)).heap[w8.heap.size]? = some (.cells (cnCells r8 S4.writes S4.flushes S4.refused S4.puts.length) 38 (0, 0)) := heap_alloc_new _ _
      have a1 := cell_of_block hn9 (j := 1) rfl
      have a2 := cell_of_block hn9 (j := 2) rfl
      have a4 := cell_of_block hn9 (j := 4) rfl
      have b1 := cell_of_block hm9 (j := 1) rfl
      have b2 := cell_of_block hm9 (j := 2) rfl
      have b4 := cell_of_block hm9 (j := 4) rfl
      have hb79 : Below w7.heap.size w7 (w8.alloc (.cells (cnCells r8 S4.writes S4.flushes S4.refused S4.puts.length) 38)) := hb8.trans (hb9.mono hb8.size)
      have hov9 := HOv7.out.later hb79
      have h11 := open_yesF hov9.d hov9.y 0 (N : Int) hov9.p6 HOp.out
      have HOv9 := Hid.mk hov9
      have HB79 := Hid.mk hb79
      clear h10 hb8 hb9 hn9 hm9 hb79 hov9 HN7
      go_wp2_with fail
      refine h11.mono ?_
      rintro e w10 ⟨l2, v2, rs2, hd2, rfl, ⟨hl2, htold⟩, hd10, hk10⟩
      have HB10 : Hid (Below w.heap.size w w10) := HOv9.out.b.trans (hk10.below HOv9.out.fF HOv9.out.b.size)
      have hold : ∀ k, F4 k ∨ k = l → k < w3.heap.size := fun k hk => by
        rcases hk with hk | hk
        · rw [HF4.out] at hk; exact HLv.out.d.lt k hk
        · rw [hk]; exact HLv.out.lp.lt
      have hz45 := HB45.out.size
      have hk410 : Keeps (fun k => F4 k ∨ k = l) w4 w10 := (((Keeps.of_below _ HB45.out).trans HHe.out.k (fun _ h => .inl h)).trans (Keeps.of_below (fun _ => False) HB79.out) (fun _ h => h.elim)).trans hk10 (fun j hj => by
        rcases HHe.out.o j hj with h | h
        · exact .inl (.inl h)
        · exact .inr (by omega))
      have hr10 := HTo1.out.r.beside hk410 hold
      have hsame : rs1 = rs2 := by
        have e1 := HTo1.out.t
        have e2 := HTo1.out.x
        have e3 := htold.t
        have e4 := htold.x
        have q1 : (oNew S3 0) = (2, 0, 0) := HZ.out.2.2
        have q2 : (oNew S4 0) = (2, 0, 0) := HO4.out
        change Tells (Rp (oRing S3 0) N) (oNew S3 0).1 (oNew S3 0).2.1 rs1 hd1 at e1
        change ∀ c d, ¬ Rec (Rp (oRing S3 0) N) (oNew S3 0).1 hd1 c d at e2
        change Tells (Rp (oRing S4 0) N) (oNew S4 0).1 (oNew S4 0).2.1 rs2 hd2 at e3
        change ∀ c d, ¬ Rec (Rp (oRing S4 0) N) (oNew S4 0).1 hd2 c d at e4
        rw [q1] at e1 e2
        rw [q2] at e3 e4
        exact told_same (f := 0) (n := N) (fun j hj => HZ.out.1 j (by omega)) (by omega) e1 e2 e3 e4
      subst hsame
      obtain ⟨s1, s2⟩ := records_small (a := 0) (b := N) HOv9.out.y (by omega) hN2 htold.t
      have h12 := alike_any htold.r hr10 s1 s2
      clear h11 htold hd10 hk10 a1 a2 a4 b1 b2 b4 hr10 hold s1 s2 hk410
      go_wp2_with fail
      refine h12.mono ?_
      rintro e w11 ⟨rfl, hb11⟩
      have HB11 : Hid (Below w.heap.size w w11) := HB10.out.trans (hb11.mono HB10.out.size)
      clear h12 hb11
      go_wp2
      go_ret
      exact ⟨rfl, HB11.out⟩
end Go.Proofs.YtkelfidmpnapoaaGreat
