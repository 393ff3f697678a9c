import Derived.Test.YtllkjmbcjlbmbaaGreatW01
import Derived.Laws.CopyOwn
import Derived.Lib.SliceRun
import Derived.Deep.QuietTactic
import Derived.BigQuiet
import Derived.Maps.OwnOps
section
namespace Go.Proofs.YtllkjmbcjlbmbaaGreat
open Go.RowKit Go.Maps

set_option maxHeartbeats 2000000 in
theorem clone_low (a : Addr) (n c : Nat) (l : List Int) (w : World) (hx : l.length = n) (hbig : n ≤ 140737488355328) (hc : ∀ i, i < n → w.cell? (a.add i) = some (.int .u8 (l.getD i 0))) :
    Calls Tryz.prog 48 #[.slice (some a) n c] w fun e w' => ∃ g c', e = .returned (.slice (some ⟨g, 0, none⟩) n c') ∧ w.heap.size ≤ g ∧ RowAt w' 5 g c' (bs l) ∧ Below w.heap.size w w' := by
  obtain ⟨i0, hi, hz0, hz1, hz2⟩ := info_parts infoU8
  have q22 : ∀ (w : World) (a : Option Addr) (n c n' c' : Nat), (binOp .eql 35 (.slice a n c) (.slice none n' c')).run Tryz.prog w = .ok (.bool a.isNone) w := fun w a n c n' c' => Lib.run_eql_slice_nil w _ _ a n c n' c' Tryz.underlying35
  have H : Hid (∀ i, i < n → w.cell? (a.add i) = some (.int .u8 (l.getD i 0))) := hc
  clear hc
  go_enter Tryz.func48, Tryz.ntmps48
  go_wp2_with (at_builtin; refine wpList_append_own _ rfl _ _ 35 rfl w.heap.size 5 i0 (.int .u8 0) 1 1 Tryz.underlying35 hi hz0 hz1 hz2 rfl (by decide) _ _ _ rfl (World.ownsRow_made w #[] 0 (Nat.le_refl _) (Nat.zero_le _) rfl) a n c (bs l) rfl ?qc1 ?qc2 ?qc3 ?qc4 ?qc5 ?qc6 ?_)
  case qc1 => simp; omega
  case qc2 =>
    intro j u hj
    have hjn : j < n := by
      have := (List.getElem?_eq_some_iff.1 hj).1
      simp at this
      omega
    refine Lib.cell?_alloc_some _ ?_
    rw [H.out j hjn]
    have e : (bs l)[j]? = some (Value.int .u8 (l.getD j 0)) := by simp [bs, List.getD, List.getElem?_eq_getElem (show j < l.length by omega)]
    rw [e] at hj
    exact hj
  case qc3 => intro u hu; obtain ⟨x, _, rfl⟩ := List.mem_map.1 hu; rfl
  case qc4 => unfold maxLen; omega
  case qc5 => omega
  case qc6 => simp
  intro v' w1 hown hgrow hnil
  have hb : Below w.heap.size w w1 := ((Below.refl _ w).alloc (Nat.le_refl _) _).grown hgrow (by simp) (by intro k hk; simp [Value.ownBlock] at hk; omega)
  have hv : v' ≠ .slice none 0 0 := by first | exact hnil | (intro e; exact absurd (hnil.1 e).1 (by simp))
  have hown' : w1.ownsRow w.heap.size 5 1 v' n (bs l) := by simpa using hown
  obtain ⟨g, c', rfl, hg, hr, _⟩ := RowAt.of_owns hown' hv
  clear hown hown' hgrow hnil hv
  go_wp2
  go_ret
  exact ⟨g, c', rfl, hg, hr, hb⟩

set_option maxHeartbeats 1000000 in
theorem clone_nil (n c : Nat) (w : World) :
    Calls Tryz.prog 48 #[.slice none n c] w fun e w' => e = .returned (.slice none 0 0) ∧ w' = w := by
  have q22 : ∀ (w : World) (a : Option Addr) (n c n' c' : Nat), (binOp .eql 35 (.slice a n c) (.slice none n' c')).run Tryz.prog w = .ok (.bool a.isNone) w := fun w a n c n' c' => Lib.run_eql_slice_nil w _ _ a n c n' c' Tryz.underlying35
  go_enter Tryz.func48, Tryz.ntmps48
  go_wp2
  go_ret
  exact ⟨rfl, rfl⟩

/-- What New and Load make: a disk of its own. -/
def DS.fresh (l : List Int) : DS := { im := l, puts := [], fuse := -1, life := 1, reads := 0, writes := 0, flushes := 0, refused := 0 }

theorem fresh_at {w0 w1 : World} {g c s : Nat} {l : List Int} (hb : Below w0.heap.size w0 w1) (hg : w0.heap.size ≤ g) (hr : RowAt w1 5 g c (bs l)) (hl : l.length = s * 512) (h1 : 1 ≤ s) (h2 : s ≤ 2048) :
    let w' := (w1.alloc (.map #[] 0)).alloc (.cells (dkCells (.slice (some ⟨g, 0, none⟩) (s * 512) c) (.map (some w1.heap.size)) (-1) 1 0 0 0 0) 81)
    DiskAt w' (fun k => w0.heap.size ≤ k ∧ k < w'.heap.size) (w1.heap.size + 1) s (DS.fresh l) ∧ Below w0.heap.size w0 w' := by
  intro w'
  have hgl := hr.lt
  have hz := hb.size
  have hsz : w'.heap.size = w1.heap.size + 2 := by simp [w']
  have e0 : ∀ k, k < w1.heap.size → w'.heap[k]? = w1.heap[k]? := fun k hk => by
    rw [Below.heap_alloc _ _ _ (by simp; omega), Below.heap_alloc _ _ _ hk]
  have e1 : w'.heap[w1.heap.size]? = some (.map #[] 0) := by
    rw [Below.heap_alloc _ _ _ (by simp)]; exact heap_alloc_new _ _
  have e2 : w'.heap[w1.heap.size + 1]? = some (.cells (dkCells (.slice (some ⟨g, 0, none⟩) (s * 512) c) (.map (some w1.heap.size)) (-1) 1 0 0 0 0) 81 (0, 0)) := by
    have := heap_alloc_new (w1.alloc (.map #[] 0)) (.cells (dkCells (.slice (some ⟨g, 0, none⟩) (s * 512) c) (.map (some w1.heap.size)) (-1) 1 0 0 0 0) 81)
    have hs1 : (w1.alloc (.map #[] 0)).heap.size = w1.heap.size + 1 := by simp
    rw [hs1] at this
    exact this
  refine ⟨⟨g, c, w1.heap.size, .map [], fun _ => 0, fun _ => 0, ⟨by omega, by omega⟩, ⟨by omega, by omega⟩, ⟨by omega, by omega⟩, fun k hk => hk.2, e2, hr.agree (e0 g hgl), ?_, PendAt.empty _ _ _ _ _, ⟨hl, h1, h2, by simp [DS.fresh], by simp [DS.fresh]⟩⟩, ?_⟩
  · have := World.ownsMap_made w1 Tryz.prog 3 Rs
    exact ownsMap_agree this (by rw [e1]; exact (heap_alloc_new _ _).symm)
  · exact (hb.alloc (by omega) _).alloc (by simp; omega) _

end Go.Proofs.YtllkjmbcjlbmbaaGreat
end

section
namespace Go.Proofs.YtllkjmbcjlbmbaaGreat
open Go.RowKit Go.Maps

theorem new_no (s : Int) (w : World) (h : s < 1 ∨ 2048 < s) :
    Calls Tryz.prog 20 #[.int .i64 s] w fun e w' => e = .returned (.tuple #[.pointer none, .int .i64 10]) ∧ w' = w := by
  rcases h with h | h
  · go_enter Tryz.func20, Tryz.ntmps20
    go_wp2
    go_ret2
    exact ⟨rfl, rfl⟩
  · have h' : ¬ s < 1 := by omega
    go_enter Tryz.func20, Tryz.ntmps20
    go_wp2
    go_ret2
    exact ⟨rfl, rfl⟩

set_option maxHeartbeats 1000000 in
theorem new_ok (s : Nat) (w : World) (h1 : 1 ≤ s) (h2 : s ≤ 2048) :
    Calls Tryz.prog 20 #[.int .i64 s] w fun e w' => ∃ p, e = .returned (.tuple #[.pointer (some ⟨p, 0, none⟩), .int .i64 0]) ∧
      DiskAt w' (fun k => w.heap.size ≤ k ∧ k < w'.heap.size) p s (DS.fresh (List.replicate (s * 512) 0)) ∧ Below w.heap.size w w' := by
  obtain ⟨i0, hi, hz0, hz1, hz2⟩ := info_parts infoU8
  have h1' : ¬ (s : Int) < 1 := by omega
  have h2' : ¬ (2048 : Int) < (s : Int) := by omega
  go_enter Tryz.func20, Tryz.ntmps20
  go_wp2_with (at_make; refine wpList_make_full _ rfl _ _ 35 rfl w.heap.size 5 i0 (.int .u8 0) 1 Tryz.underlying35 hi hz0 hz1 _ _ _ _ (s * 512) rfl rfl ?c1 ?c2 ?c3 ?c4 ?c5 ?_)
  case c3 => omega
  case c4 => unfold maxLen; omega
  intro w1 hown hgrow
  have hr := made_row hown
  have hb : Below w.heap.size w w1 := (Below.refl _ w).grown hgrow (Nat.le_refl _) (by intro k hk; cases hk)
  have hsz : w.heap.size < w1.heap.size := hr.lt
  have HF := Hid.mk (fresh_at hb (Nat.le_refl _) hr (by simp) h1 h2)
  clear hown hgrow hr
  go_wp2_with (go_at_call 46; refine (over_low _ _ _ _).mono ?_; rintro e w' ⟨rfl, rfl⟩)
  go_ret2
  exact ⟨_, rfl, HF.out⟩

theorem load_bad (a : Option Addr) (n c : Nat) (w : World) (h : n % 512 ≠ 0) (hn : n ≤ 140737488355328) :
    Calls Tryz.prog 25 #[.slice a n c] w fun e w' => e = .returned (.tuple #[.pointer none, .int .i64 2]) ∧ w' = w := by
  have h' : (((n : Int) % 512) != 0) = true := by rw [bne_iff_ne]; omega
  go_enter Tryz.func25, Tryz.ntmps25
  go_wp2
  go_ret2
  exact ⟨rfl, rfl⟩

theorem load_no (a : Option Addr) (n c : Nat) (w : World) (h : n % 512 = 0) (hn : n = 0 ∨ 1048576 < n) (hm : n ≤ 140737488355328) :
    Calls Tryz.prog 25 #[.slice a n c] w fun e w' => e = .returned (.tuple #[.pointer none, .int .i64 10]) ∧ w' = w := by
  have h' : (((n : Int) % 512) != 0) = false := by rw [Bool.eq_false_iff, ne_eq, bne_iff_ne]; omega
  rcases hn with h0 | h0
  · have h0' : ((n : Int) == 0) = true := by rw [beq_iff_eq]; omega
    go_enter Tryz.func25, Tryz.ntmps25
    go_wp2
    go_ret2
    exact ⟨rfl, rfl⟩
  · have h0' : ((n : Int) == 0) = false := by rw [Bool.eq_false_iff, ne_eq, beq_iff_eq]; omega
    go_enter Tryz.func25, Tryz.ntmps25
    go_wp2
    go_ret2
    exact ⟨rfl, rfl⟩

set_option maxHeartbeats 1000000 in
theorem load_ok (a : Addr) (n c s : Nat) (l : List Int) (w : World) (hs : n = s * 512) (h1 : 1 ≤ s) (h2 : s ≤ 2048) (hx : l.length = n) (hc : ∀ i, i < n → w.cell? (a.add i) = some (.int .u8 (l.getD i 0))) :
    Calls Tryz.prog 25 #[.slice (some a) n c] w fun e w' => ∃ p, e = .returned (.tuple #[.pointer (some ⟨p, 0, none⟩), .int .i64 0]) ∧
      DiskAt w' (fun k => w.heap.size ≤ k ∧ k < w'.heap.size) p s (DS.fresh l) ∧ Below w.heap.size w w' := by
  have h' : (((n : Int) % 512) != 0) = false := by rw [Bool.eq_false_iff, ne_eq, bne_iff_ne]; omega
  have h0' : ((n : Int) == 0) = false := by rw [Bool.eq_false_iff, ne_eq, beq_iff_eq]; omega
  have h3 : ¬ (1048576 : Int) < (n : Int) := by omega
  have H : Hid (∀ i, i < n → w.cell? (a.add i) = some (.int .u8 (l.getD i 0))) := hc
  have Hs : Hid (n = s * 512) := hs
  clear hc hs
  go_enter Tryz.func25, Tryz.ntmps25
  go_wp2_with fail
  refine (clone_low a n c l w hx (by omega) H.out).mono ?_
  rintro e w1 ⟨g, c', rfl, hg, hr, hb⟩
  have HF := Hid.mk (fresh_at hb hg hr (hx.trans Hs.out) h1 h2)
  rw [← Hs.out] at HF
  clear hr hb
  go_wp2_with (go_at_call 46; refine (over_low _ _ _ _).mono ?_; rintro e w' ⟨rfl, rfl⟩)
  go_ret2
  exact ⟨_, rfl, HF.out⟩

theorem image_any (p s : Nat) (F : Nat → Prop) (S : DS) (w : World) (h : DiskAt w F p s S) :
    Calls Tryz.prog 24 #[.pointer (some ⟨p, 0, none⟩)] w fun e w' => ∃ g c, e = .returned (.slice (some ⟨g, 0, none⟩) (s * 512) c) ∧ w.heap.size ≤ g ∧ RowAt w' 5 g c (bs S.im) ∧ Below w.heap.size w w' := by
  obtain ⟨gi, ci, m, D, gr, cr, h1, h2, h3, h4, h5, h6, h7, h8, h9⟩ := h
  have c0 := cell_of_block h5 (j := 0) rfl
  have hl := h9.len
  have hi := h9.hi
  have hcl := clone_low ⟨gi, 0, none⟩ (s * 512) ci S.im w hl (by omega) (fun i hi => h6.byte (by omega))
  clear h5 h6 h7 h8 h9 hl hi
  go_enter Tryz.func24, Tryz.ntmps24
  go_wp2_with (go_at_call 48; refine hcl.mono ?_; rintro e w' ⟨g, c, rfl, hg, hr, hb⟩)
  go_ret
  exact ⟨g, c, rfl, hg, hr, hb⟩

end Go.Proofs.YtllkjmbcjlbmbaaGreat
end

section
namespace Go.Proofs.YtllkjmbcjlbmbaaGreat
open Go.RowKit Go.Maps

set_option maxHeartbeats 1000000 in
theorem same_ne (a b : Option Addr) (n m c d : Nat) (w : World) (h : n ≠ m) :
    Calls Tryz.prog 27 #[.slice a n c, .slice b m d] w fun e w' => e = .returned (.bool false) ∧ w' = w := by
  have h' : (((n : Int)) != (m : Int)) = true := by rw [bne_iff_ne]; omega
  go_enter Tryz.func27, Tryz.ntmps27
  go_wp2
  go_ret
  exact ⟨rfl, rfl⟩

set_option maxHeartbeats 1000000 in
theorem same_low (b o b' o' : Nat) (n c d : Nat) (l : List Int) (w : World) (hn : n ≤ 140737488355328) (h1 : ∀ i, i < n → w.cell? ⟨b, o + i, none⟩ = some (.int .u8 (l.getD i 0))) (h2 : ∀ i, i < n → w.cell? ⟨b', o' + i, none⟩ = some (.int .u8 (l.getD i 0))) :
    Calls Tryz.prog 27 #[.slice (some ⟨b, o, none⟩) n c, .slice (some ⟨b', o', none⟩) n d] w fun e w' => e = .returned (.bool true) ∧ Below w.heap.size w w' := by
  have h' : (((n : Int)) != (n : Int)) = false := by simp
  have H1 : Hid (∀ i, i < n → w.cell? ⟨b, o + i, none⟩ = some (.int .u8 (l.getD i 0))) := h1
  have H2 : Hid (∀ i, i < n → w.cell? ⟨b', o' + i, none⟩ = some (.int .u8 (l.getD i 0))) := h2
  clear h1 h2
  go_enter Tryz.func27, Tryz.ntmps27
  go_wp2
  go_loopw [5] (fun i wr => ∃ k : Nat, k ≤ n ∧ i = .int .i64 k ∧ Below w.heap.size w wr) (fun i _ => n - (intOf i).toNat)
  case atStart => exact ⟨0, Nat.zero_le _, rfl, Below.refl _ _⟩
  case round =>
    obtain ⟨k, hk, rfl, hb⟩ := hrel
    by_cases hlt : k < n
    · have c1 := cell_later hb (H1.out k hlt)
      have c2 := cell_later hb (H2.out k hlt)
      have hlt' : (k : Int) < (n : Int) := by omega
      go_wp2
      go_quiet (fail)
      go_wp2
      go_roundw
      case rel => exact ⟨k + 1, by omega, by go_num, below_drewN hb _⟩
      case measure => simp [intOf]; omega
    · have hlt' : ¬ (k : Int) < (n : Int) := by omega
      go_wp2
      go_ret
      exact ⟨rfl, hb⟩

set_option maxHeartbeats 1000000 in
theorem same_zero (a b : Option Addr) (c d : Nat) (w : World) :
    Calls Tryz.prog 27 #[.slice a 0 c, .slice b 0 d] w fun e w' => e = .returned (.bool true) ∧ w' = w := by
  go_enter Tryz.func27, Tryz.ntmps27
  go_wp2
  refine wp_loop_rounds 1 ?_; rw [rounds_succ]; go_wp2
  go_ret
  exact ⟨rfl, rfl⟩

theorem same_any (a b : Option Addr) (n c d : Nat) (l : List Int) (w : World) (hn : n ≤ 140737488355328) (h1 : Src w a n l) (h2 : Src w b n l) :
    Calls Tryz.prog 27 #[.slice a n c, .slice b n d] w fun e w' => e = .returned (.bool true) ∧ Below w.heap.size w w' := by
  by_cases h0 : n = 0
  · subst h0
    exact (same_zero a b c d w).mono (by rintro e w' ⟨rfl, rfl⟩; exact ⟨rfl, Below.refl _ _⟩)
  · cases a with
    | none => exact absurd (h1.2.1 rfl) h0
    | some x =>
      cases b with
      | none => exact absurd (h2.2.1 rfl) h0
      | some y =>
        obtain ⟨b1, o1, rfl, k1⟩ := h1.spot (by omega)
        obtain ⟨b2, o2, rfl, k2⟩ := h2.spot (by omega)
        exact same_low b1 o1 b2 o2 n c d l w hn k1 k2

end Go.Proofs.YtllkjmbcjlbmbaaGreat
end

section
namespace Go.Proofs.YtllkjmbcjlbmbaaGreat
open Go.RowKit Go.Maps

/-- How many of the pending writes lie in sectors that have been met. -/
def metIn (left : Lit → Bool) (puts : List (Nat × List Int)) : Nat := (puts.filter (fun q => !left (kk q.1))).length

theorem same_kk (a b : Nat) : (kk a).sameKey (kk b) = (a == b) := by
  by_cases h : a = b
  · subst h
    simp [WideAt.sameKey_self (show WideAt.IsKeyLit (kk a) from trivial)]
  · rw [Maps.sameKey_ne (by intro e; simp [kk] at e; omega)]
    simp [h]

theorem metIn_step (left : Lit → Bool) (k : Nat) (hk : left (kk k) = true) : ∀ puts : List (Nat × List Int), metIn (fun z => left z && !z.sameKey (kk k)) puts = metIn left puts + (pendOf puts k).length
  | [] => by simp [metIn, pendOf]
  | q :: r => by
    have ih := metIn_step left k hk r
    unfold metIn pendOf at *
    by_cases h : q.1 = k
    · simp [h, hk, same_kk] at *
      omega
    · by_cases hl : left (kk q.1) = true
      · simp [h, hl, same_kk] at *
        omega
      · simp [h, hl, same_kk] at *
        omega

theorem metIn_start {D : DataW Value} {puts : List (Nat × List Int)} (h : ∀ q ∈ puts, has D (kk q.1) = true) : metIn (has D) puts = 0 := by
  unfold metIn
  rw [List.length_eq_zero_iff, List.filter_eq_nil_iff]
  intro q hq
  simp [h q hq]

theorem metIn_end {left : Lit → Bool} {puts : List (Nat × List Int)} (h : ∀ kl, left kl = false) : metIn left puts = puts.length := by
  unfold metIn
  rw [List.filter_eq_self.2 (fun q _ => by simp [h])]

theorem metIn_le (left : Lit → Bool) (puts : List (Nat × List Int)) : metIn left puts ≤ puts.length := List.length_filter_le _ _

theorem pend_mem {puts : List (Nat × List Int)} {q : Nat × List Int} (h : q ∈ puts) : pendOf puts q.1 ≠ [] := by
  unfold pendOf
  intro e
  rw [List.map_eq_nil_iff, List.filter_eq_nil_iff] at e
  exact e q h (by simp)

theorem PendAt.has {w : World} {F : Nat → Prop} {gi : Nat} {D : DataW Value} {gr cr : Nat → Nat} {pend : Nat → List (List Int)} (h : PendAt w F gi D gr cr pend) {k : Nat} (hk : pend k ≠ []) : Maps.has D (kk k) = true :=
  Maps.has_true_of_atKey (h.look k hk)

abbrev mkS (c : Option Addr × Nat × Nat) : Value := .slice c.1 c.2.1 c.2.2
theorem Rs_inv (v : Value) (y : DataW Value × List MemPlace) (h : Rs v = some y) : ∃ c, v = mkS c := by
  unfold Rs at h
  split at h
  · exact ⟨(_, _, _), rfl⟩
  · cases h
theorem Rs_mk (c : Option Addr × Nat × Nat) : Rs (mkS c) = some (.held (mkS c), []) := rfl

/-- What comes out of the map at a step: a key of a sector with pending writes, and its list. -/
theorem PendAt.met {w : World} {F : Nat → Prop} {gi : Nat} {D : DataW Value} {gr cr : Nat → Nat} {pend : Nat → List (List Int)} (h : PendAt w F gi D gr cr pend) {x : Int} {c : Option Addr × Nat × Nat} {kl : Lit} {y : DataW Value × List MemPlace}
    (hkey : keyOf Tryz.prog 3 (.int .i64 x) = some kl) (hv : Rs (mkS c) = some y) (hat : ∀ zd, D.atKey kl zd = y.1) :
    ∃ k : Nat, x = (k : Int) ∧ kl = kk k ∧ pend k ≠ [] ∧ c = (some ⟨gr k, 0, none⟩, (pend k).length, cr k) := by
  obtain ⟨k, rfl, hp⟩ := h.keys kl (Maps.has_true_of_atKey hat)
  obtain ⟨x', ex, ek, _⟩ := Maps.keyOf_int_inv Tryz.underlying3 hkey
  have hx : x = (k : Int) := by cases ex; simpa [kk] using ek.symm
  rw [Rs_mk] at hv
  cases hv
  have h1 := hat .nil
  rw [h.look k hp] at h1
  obtain ⟨a, n, cc⟩ := c
  simp [mkS] at h1
  exact ⟨k, hx, rfl, hp, by simp [h1]⟩

theorem set5 {w : World} {b : Nat} {t : TypeId} {a0 a1 a2 a3 a4 : Value} (v0 v1 v2 v3 v4 : Value) (h : w.heap[b]? = some (.cells #[a0, a1, a2, a3, a4] t (0, 0))) :
    (((((w.setCell ⟨b, 0, none⟩ v0).setCell ⟨b, 1, none⟩ v1).setCell ⟨b, 2, none⟩ v2).setCell ⟨b, 3, none⟩ v3).setCell ⟨b, 4, none⟩ v4).heap[b]? = some (.cells #[v0, v1, v2, v3, v4] t (0, 0)) := by
  have h0 := heap_setCell_same w b 0 _ t v0 h
  have h1 := heap_setCell_same _ b 1 _ t v1 h0
  have h2 := heap_setCell_same _ b 2 _ t v2 h1
  have h3 := heap_setCell_same _ b 3 _ t v3 h2
  have h4 := heap_setCell_same _ b 4 _ t v4 h3
  simpa using h4

abbrev cnCells (r wr fl rf pe : Int) : Array Value := #[.int .i64 r, .int .i64 wr, .int .i64 fl, .int .i64 rf, .int .i64 pe]

set_option maxHeartbeats 2000000 in
theorem counts_any (p s : Nat) (F : Nat → Prop) (S : DS) (w : World) (h : DiskAt w F p s S) (hbig : S.puts.length ≤ 140737488355328) :
    Calls Tryz.prog 38 #[.pointer (some ⟨p, 0, none⟩)] w fun e w' => e = .returned (.agg (cnCells S.reads S.writes S.flushes S.refused S.puts.length)) ∧ Below w.heap.size w w' := by
  obtain ⟨gi, ci, m, D, gr, cr, h1, h2, h3, h4, h5, h6, h7, h8, h9⟩ := h
  have c1 := cell_of_block h5 (j := 1) rfl
  have c4 := cell_of_block h5 (j := 4) rfl
  have c5 := cell_of_block h5 (j := 5) rfl
  have c6 := cell_of_block h5 (j := 6) rfl
  have c7 := cell_of_block h5 (j := 7) rfl
  have c8 := cell_of_block h5 (j := 8) rfl
  have hpl := h4 p h1
  have hml := h4 m h3
  have H8 := Hid.mk h8
  have H7 := Hid.mk h7
  clear h8 h7 h6 h9 h5
  go_enter Tryz.func38, Tryz.ntmps38
  go_wp2_with (at_range; refine wpList_range_own _ rfl _ 77 rfl 3 29 keyInt Tryz.underlying77 Rs m S.puts.length D rfl ((H7.out.alloc _).alloc _) ?_; intro w0 hrg0 hg0 hs0; go_frame)
  have e2 : ((w.alloc (Obj.cells (cnCells 0 0 0 0 0) 79)).alloc (Obj.cells (cnCells S.reads S.writes S.flushes S.refused 0) 79)).heap.size = w.heap.size + 2 := by simp
  rw [e2] at hrg0 hs0 ⊢
  have hB0 := (hg0.block w.heap.size (by rw [e2]; omega) (by simp)).trans ((Below.heap_alloc _ _ _ (by simp)).trans (heap_alloc_new w (Obj.cells (cnCells 0 0 0 0 0) 79)))
  have hB1 : w0.heap[w.heap.size + 1]? = some (Obj.cells (cnCells S.reads S.writes S.flushes S.refused 0) 79 (0, 0)) := by
    refine (hg0.block (w.heap.size + 1) (by rw [e2]; omega) (by simp)).trans ?_
    have := heap_alloc_new (w.alloc (Obj.cells (cnCells 0 0 0 0 0) 79)) (Obj.cells (cnCells S.reads S.writes S.flushes S.refused 0) 79)
    have e1 : (w.alloc (Obj.cells (cnCells 0 0 0 0 0) 79)).heap.size = w.heap.size + 1 := by simp
    rw [e1] at this
    exact this
  have hbl : Below w.heap.size w w0 := (((Below.refl _ w).alloc (Nat.le_refl _) _).alloc (by simp) _).grown hg0 (by rw [e2]; omega) (fun j hj => by cases hj)
  have h0 : metIn (has D) S.puts = 0 := metIn_start (fun q hq => H8.out.has (pend_mem hq))
  clear hg0 hs0 c1 c4 c5 c6 c7 c8 e2
  go_loopw [5] (fun _ wr => ∃ (left : Lit → Bool) (cnt : Nat), wr.ranges Tryz.prog 3 Rs m (w.heap.size + 2) S.puts.length D left cnt ∧
      wr.heap[w.heap.size]? = some (Obj.cells (cnCells 0 0 0 0 0) 79 (0, 0)) ∧
      wr.heap[w.heap.size + 1]? = some (Obj.cells (cnCells S.reads S.writes S.flushes S.refused (metIn left S.puts : Nat)) 79 (0, 0)) ∧ Below w.heap.size w wr)
    (fun _ wr => wr.rangeLeft m (w.heap.size + 2))
  case atStart => exact ⟨_, _, hrg0, hB0, by rw [h0]; exact hB1, hbl⟩
  case round =>
    clear hrg0 hB0 hB1 hbl h0
    obtain ⟨left, cnt, hrg, hB0, hB1, hb⟩ := hrel
    have hle := metIn_le left S.puts
    go_wp2_with (at_next; refine wpList_next_ranges _ rfl _ rfl 3 keyInt Rs (Value.int .i64) mkS (fun key kl hkey => by obtain ⟨x, rfl, _⟩ := Maps.keyOf_int_inv Tryz.underlying3 hkey; exact ⟨x, rfl⟩) Rs_inv m (w.heap.size + 2) S.puts.length _ _ _ rfl hrg ?_ ?_)
    · intro _ hl0
      rw [metIn_end hl0] at hB1
      have k0 := cell_of_block hB1 (j := 0) rfl
      have k1 := cell_of_block hB1 (j := 1) rfl
      have k2 := cell_of_block hB1 (j := 2) rfl
      have k3 := cell_of_block hB1 (j := 3) rfl
      have k4 := cell_of_block hB1 (j := 4) rfl
      have r0 := cell_of_block hB0 (j := 0) rfl
      have r1 := cell_of_block hB0 (j := 1) rfl
      have r2 := cell_of_block hB0 (j := 2) rfl
      have r3 := cell_of_block hB0 (j := 3) rfl
      have r4 := cell_of_block hB0 (j := 4) rfl
      have g0 := frozen_of_block hB0 0
      have g1 := frozen_of_block hB0 1
      have g2 := frozen_of_block hB0 2
      have g3 := frozen_of_block hB0 3
      have g4 := frozen_of_block hB0 4
      go_wp2
      have h5 := set5 (.int .i64 S.reads) (.int .i64 S.writes) (.int .i64 S.flushes) (.int .i64 S.refused) (.int .i64 S.puts.length) hB0
      have q0 := cell_of_block h5 (j := 0) rfl
      have q1 := cell_of_block h5 (j := 1) rfl
      have q2 := cell_of_block h5 (j := 2) rfl
      have q3 := cell_of_block h5 (j := 3) rfl
      have q4 := cell_of_block h5 (j := 4) rfl
      refine bodyPost_ret (v := .agg (cnCells S.reads S.writes S.flushes S.refused S.puts.length)) (by simp [results, Tryz.results38, go_sem, cnCells, q0, q1, q2, q3, q4]) rfl ⟨rfl, ?_⟩
      exact ((((hb.setCell (Nat.le_refl _) _).setCell (Nat.le_refl _) _).setCell (Nat.le_refl _) _).setCell (Nat.le_refl _) _).setCell (Nat.le_refl _) _
    · intro x ca cn cc kl yd yp w2 cnt2 hkey hlk hv hat hrg2 hlt hg2 hs2 hen
      obtain ⟨k, rfl, rfl, hp, hc⟩ := H8.out.met hkey hv hat
      obtain ⟨rfl, rfl, rfl⟩ : ca = _ ∧ cn = _ ∧ cc = _ := by simpa using hc
      clear hc
      have hst := Hid.mk (metIn_step left k hlk S.puts)
      have hpl2 : metIn left S.puts + (pendOf S.puts k).length ≤ S.puts.length := by have := metIn_le (fun z => left z && !z.sameKey (kk k)) S.puts; rw [hst.out] at this; exact this
      have hsz := hb.size
      have hB0' := (hg2.block w.heap.size (by have := (Array.getElem?_eq_some_iff.1 hB0).1; omega) (by simp)).trans hB0
      have hB1' := (hg2.block (w.heap.size + 1) (by have := (Array.getElem?_eq_some_iff.1 hB1).1; omega) (by simp)).trans hB1
      have hb' : Below w.heap.size w w2 := hb.grown hg2 hb.size (fun j hj => by cases hj; omega)
      have k4 := cell_of_block hB1' (j := 4) rfl
      have g4 := frozen_of_block hB1' 4
      clear hkey hv hat hs2 hg2 hB0 hB1
      go_wp2
      go_roundw
      case rel =>
        refine ⟨_, cnt2, hrg2.kept (grown_setCell _ _ _) (fun e => by have := Option.some.inj e; simp only at this; omega) (fun e => by have := Option.some.inj e; simp only at this; omega), ?_, ?_, hb'.setCell (Nat.le_succ _) _⟩
        · rw [Below.heap_setCell _ _ _ _ (by simp)]; exact hB0'
        · rw [hst.out, heap_setCell_same _ _ _ _ _ _ hB1']
          simp [cnCells]
      case measure =>
        rw [(hrg2.kept (grown_setCell _ _ _) (fun e => by have := Option.some.inj e; simp only at this; omega) (fun e => by have := Option.some.inj e; simp only at this; omega)).left_eq, hrg.left_eq]
        exact hlt
end Go.Proofs.YtllkjmbcjlbmbaaGreat
end

section
namespace Go.Proofs.YtllkjmbcjlbmbaaGreat
open Go.RowKit Go.Maps

theorem DiskAt.cells {w : World} {F : Nat → Prop} {p s : Nat} {S : DS} (h : DiskAt w F p s S) : w.cell? ⟨p, 2, none⟩ = some (.int .i64 S.fuse) ∧ w.cell? ⟨p, 3, none⟩ = some (.int .i64 S.life) ∧ (∀ j, w.frozen? ⟨p, j, none⟩ = false) ∧
    ∃ gi ci, w.cell? ⟨p, 0, none⟩ = some (.slice (some ⟨gi, 0, none⟩) (s * 512) ci) := by
  obtain ⟨gi, ci, m, D, gr, cr, h1, h2, h3, h4, h5, h6, h7, h8, h9⟩ := h
  exact ⟨cell_of_block h5 (j := 2) rfl, cell_of_block h5 (j := 3) rfl, frozen_of_block h5, gi, ci, cell_of_block h5 (j := 0) rfl⟩

theorem sectors_at {w : World} {F : Nat → Prop} {p s : Nat} {S : DS} (h : DiskAt w F p s S) :
    Calls Tryz.prog 65 #[.pointer (some ⟨p, 0, none⟩)] w fun e w' => e = .returned (.int .i64 s) ∧ w' = w := by
  obtain ⟨_, _, _, gi, ci, c0⟩ := h.cells
  have := h.ok.hi
  have e : s * 512 / 512 = s := by omega
  have hc := sectors_low p _ (s * 512) ci w (by omega) c0
  rw [e] at hc
  exact hc
theorem burnt_at {w : World} {F : Nat → Prop} {p s : Nat} {S : DS} (h : DiskAt w F p s S) :
    Calls Tryz.prog 13 #[.pointer (some ⟨p, 0, none⟩)] w fun e w' => e = .returned (.bool (S.fuse == 0)) ∧ w' = w := burnt_low p _ w h.cells.1
theorem life_at {w : World} {F : Nat → Prop} {p s : Nat} {S : DS} (h : DiskAt w F p s S) :
    Calls Tryz.prog 71 #[.pointer (some ⟨p, 0, none⟩)] w fun e w' => e = .returned (.int .i64 S.life) ∧ w' = w := life_low p _ w h.cells.2.1

end Go.Proofs.YtllkjmbcjlbmbaaGreat
end

section
namespace Go.Proofs.YtllkjmbcjlbmbaaGreat
open Go.RowKit Go.Maps

set_option maxHeartbeats 2000000 in
theorem twin_any (a : Option Addr) (n c : Nat) (l : List Int) (w : World) (hn : n ≤ 140737488355328) (hs : Src w a n l) :
    Calls Tryz.prog 9 #[.slice a n c] w fun e w' => ∃ g, e = .returned (.slice (some ⟨g, 0, none⟩) n n) ∧ w.heap.size ≤ g ∧ RowAt w' 5 g n (bs l) ∧ Below w.heap.size w w' := by
  obtain ⟨i0, hi, hz0, hz1, hz2⟩ := info_parts infoU8
  have H := Hid.mk hs
  clear hs
  go_enter Tryz.func9, Tryz.ntmps9
  go_wp2_with (at_make; refine wpList_make_full _ rfl _ _ 35 rfl w.heap.size 5 i0 (.int .u8 0) 1 Tryz.underlying35 hi hz0 hz1 _ _ _ _ n rfl rfl ?c1 ?c2 ?c3 ?c4 ?c5 ?_)
  case c1 => rfl
  case c2 => rfl
  case c3 => rw [hz2]; omega
  case c4 => unfold maxLen; omega
  case c5 => exact Nat.le_refl _
  intro w1 hown hgrow
  have hr := made_row hown
  have hb : Below w.heap.size w w1 := (Below.refl _ w).grown hgrow (Nat.le_refl _) (by intro k hk; cases hk)
  have hf := hr.full (by simp [bs])
  have hs1 := H.out.later hb
  have hl := H.out.1
  clear hown hgrow
  obtain ⟨w2, hrun, hh, hk, _⟩ := copy_run w1 3 (some ⟨w.heap.size, 0, none⟩) w.heap.size 0 n n a n c (bs (List.replicate n 0)) l hf hs1 (fun _ => rfl) (by simp [bs])
  have hb2 : Below w.heap.size w w2 := hb.trans (hk.below (fun k h => by omega) hb.size)
  have hr2 : RowAt w2 5 w.heap.size n (bs l) := by
    have e : splice (bs (List.replicate n 0)) 0 (bs (l.take n)) = bs l := by
      rw [List.take_of_length_le (by omega)]
      simp [splice, bs]; omega
    rw [e] at hh
    have := RowAt.of_full hh (by simp [bs, maxLen]; omega)
    simpa [bs, hl] using this
  clear hh hf hr hs1 hb hk
  go_wp2
  go_ret
  exact ⟨w.heap.size, rfl, Nat.le_refl _, hr2, hb2⟩
end Go.Proofs.YtllkjmbcjlbmbaaGreat
end

section
namespace Go.Proofs.YtllkjmbcjlbmbaaGreat
open Go.RowKit Go.Maps

/-- A sector of an image. -/
def dsec (im : List Int) (k : Nat) : List Int := (im.drop (k * 512)).take 512

/-- A sector's candidates: what lasts, then its pending writes. -/
def DS.cand (S : DS) (k j : Nat) : List Int := if j = 0 then dsec S.im k else (pendOf S.puts k).getD (j - 1) []

theorem zeroRows (w : World) : (zeroValue 29).run Tryz.prog w = .ok (.slice none 0 0) w := by kernel_rfl

theorem keyOf_nat (k : Nat) (hk : k < 2048) : keyOf Tryz.prog 3 (.int .i64 (k : Int)) = some (kk k) :=
  keyOf_int_mk Tryz.underlying3 (WalkArith.wf_i64 (by omega))

/-- What the map tells of a sector. -/
theorem DiskRaw.look {w : World} {F : Nat → Prop} {p s : Nat} {S : DS} {gi ci m : Nat} {D : DataW Value} {gr cr : Nat → Nat} (h : DiskRaw w F p s S gi ci m D gr cr) {k : Nat} (hk : k < s) :
    ∃ a c, (Instr.lookup 77 (.map (some m)) (.int .i64 (k : Int)) false).run Tryz.prog w = .ok (.slice a (pendOf S.puts k).length c) w ∧
      (pendOf S.puts k ≠ [] → a = some ⟨gr k, 0, none⟩ ∧ c = cr k) ∧ (pendOf S.puts k = [] → a = none ∧ c = 0) := by
  have hs := h.ok.hi
  obtain ⟨v, ps, hrun, hv⟩ := h.map.lookup keyInt Tryz.underlying77 (zeroRows w) (zd := .held (.slice none 0 0)) (zp := []) rfl (keyOf_nat k (by omega))
  by_cases hp : pendOf S.puts k = []
  · rw [Maps.atKey_of_not_has (h.pend.nope k hp)] at hv
    obtain ⟨⟨a, n, c⟩, rfl⟩ := Rs_inv v _ hv
    rw [Rs_mk] at hv
    simp [mkS] at hv
    obtain ⟨⟨rfl, rfl, rfl⟩, _⟩ := hv
    exact ⟨none, 0, by rw [hp]; exact hrun, fun h => absurd hp h, fun _ => ⟨rfl, rfl⟩⟩
  · rw [h.pend.look k hp] at hv
    obtain ⟨⟨a, n, c⟩, rfl⟩ := Rs_inv v _ hv
    rw [Rs_mk] at hv
    simp [mkS] at hv
    obtain ⟨⟨rfl, rfl, rfl⟩, _⟩ := hv
    exact ⟨_, _, hrun, fun _ => ⟨rfl, rfl⟩, fun h => absurd h hp⟩

theorem sec_src {w : World} {gi ci k s : Nat} {im : List Int} (h : RowAt w 5 gi ci (bs im)) (hl : im.length = s * 512) (hk : k < s) : Src w (some ⟨gi, k * 512, none⟩) 512 (dsec im k) := by
  refine ⟨by simp [dsec]; omega, (fun h => by cases h), fun x hx i hi => ?_⟩
  cases hx
  rw [addr_add]
  have := h.byte (i := k * 512 + i) (by omega)
  rw [addr_add, Nat.zero_add] at this
  rw [this]
  simp [dsec, List.getD, hi]

theorem pend_len {S : DS} {s k : Nat} (h : S.Ok s) {j : Nat} (hj : j < (pendOf S.puts k).length) : ((pendOf S.puts k)[j]).length = 512 := by
  have hm := List.getElem_mem hj
  unfold pendOf at hm
  obtain ⟨q, hq, e⟩ := List.mem_map.1 hm
  have := (h.puts q (List.mem_filter.1 hq).1).2
  unfold pendOf
  rw [← e]
  exact this

/-- candidate: where a candidate lies: in the image's own block, or in another one. -/
theorem cand_zero {w : World} {F : Nat → Prop} {p s : Nat} {S : DS} {gi ci m : Nat} {D : DataW Value} {gr cr : Nat → Nat} (h : DiskRaw w F p s S gi ci m D gr cr) (k : Nat) (hk : k < s) :
    Calls Tryz.prog 61 #[.pointer (some ⟨p, 0, none⟩), .int .i64 (k : Int), .int .i64 0] w fun e w' => e = .returned (.slice (some ⟨gi, k * 512, none⟩) 512 512) ∧ w' = w := by
  have c0 := cell_of_block h.blk (j := 0) rfl
  have hl := h.img.le
  have hd := durable_low p gi (s * 512) ci s k k w c0 rfl hk rfl h.ok.hi (by simp [bs, h.ok.len] at hl; omega)
  go_enter Tryz.func61, Tryz.ntmps61
  go_wp2_with (go_at_call 55; refine hd.mono ?_; rintro e w' ⟨rfl, rfl⟩)
  go_ret
  exact ⟨rfl, rfl⟩

theorem cand_succ {w : World} {F : Nat → Prop} {p s : Nat} {S : DS} {gi ci m : Nat} {D : DataW Value} {gr cr : Nat → Nat} (h : DiskRaw w F p s S gi ci m D gr cr) (k : Nat) (hk : k < s) (i : Nat) (jj : Int) (hj : jj = (i : Int) + 1) (hi : i < (pendOf S.puts k).length) (hbig : S.puts.length ≤ 140737488355328) :
    Calls Tryz.prog 61 #[.pointer (some ⟨p, 0, none⟩), .int .i64 (k : Int), .int .i64 jj] w fun e w' => ∃ g c, e = .returned (.slice (some ⟨g, 0, none⟩) 512 c) ∧ F g ∧ g ≠ gi ∧ RowAt w 5 g c (bs (pendOf S.puts k)[i]) ∧ w' = w := by
  subst hj
  have c1 := cell_of_block h.blk (j := 1) rfl
  have hp : pendOf S.puts k ≠ [] := by intro e; rw [e] at hi; simp at hi
  obtain ⟨a, c, hrun, h1, _⟩ := h.look hk
  obtain ⟨rfl, rfl⟩ := h1 hp
  obtain ⟨_, xs, hrow, hrows⟩ := h.pend.row k hp
  obtain ⟨g, cg, hx, hF, hne, hr⟩ := hrows.get i hi
  have cx := hrow.cell hx
  have hn : (pendOf S.puts k).length ≤ S.puts.length := by unfold pendOf; rw [List.length_map]; exact List.length_filter_le _ _
  have e1 : ((i : Int) + 1 == 0) = false := by rw [Bool.eq_false_iff, ne_eq, beq_iff_eq]; omega
  have hi' : (i : Int) < ((pendOf S.puts k).length : Int) := by omega
  clear hrow hrows hx
  go_enter Tryz.func61, Tryz.ntmps61
  go_wp2
  go_ret
  exact ⟨g, cg, rfl, hF, hne, hr, rfl⟩

/-- What a sector holds now. -/
def DS.now (S : DS) (k : Nat) : List Int := S.cand k (pendOf S.puts k).length

theorem DS.cand_len {S : DS} {s k j : Nat} (h : S.Ok s) (hk : k < s) (hj : j ≤ (pendOf S.puts k).length) : (S.cand k j).length = 512 := by
  unfold DS.cand
  split
  · simp [dsec]; have := h.len; omega
  · have hj' : j - 1 < (pendOf S.puts k).length := by omega
    rw [List.getD, List.getElem?_eq_getElem hj', Option.getD_some]
    exact pend_len h hj'

/-- candidate, whichever. -/
theorem cand_any {w : World} {F : Nat → Prop} {p s : Nat} {S : DS} {gi ci m : Nat} {D : DataW Value} {gr cr : Nat → Nat} (h : DiskRaw w F p s S gi ci m D gr cr) (k : Nat) (hk : k < s) (j : Nat) (hj : j ≤ (pendOf S.puts k).length) (hbig : S.puts.length ≤ 140737488355328) :
    Calls Tryz.prog 61 #[.pointer (some ⟨p, 0, none⟩), .int .i64 (k : Int), .int .i64 (j : Int)] w fun e w' => ∃ g o c, e = .returned (.slice (some ⟨g, o, none⟩) 512 c) ∧ F g ∧ 512 ≤ c ∧ (g = gi → o = k * 512 ∧ S.cand k j = dsec S.im k) ∧ Src w (some ⟨g, o, none⟩) 512 (S.cand k j) ∧ w' = w := by
  cases j with
  | zero => exact (cand_zero h k hk).mono (by rintro e w' ⟨rfl, rfl⟩; exact ⟨gi, k * 512, 512, rfl, h.fgi, Nat.le_refl _, fun _ => ⟨rfl, rfl⟩, sec_src h.img h.ok.len hk, rfl⟩)
  | succ i =>
    refine (cand_succ h k hk i ((i + 1 : Nat) : Int) (by omega) (by omega) hbig).mono ?_
    rintro e w' ⟨g, c, rfl, hF, hne, hr, rfl⟩
    have e1 : S.cand k (i + 1) = (pendOf S.puts k)[i] := by simp [DS.cand, List.getD, List.getElem?_eq_getElem (show i < (pendOf S.puts k).length by omega)]
    have hl := pend_len h.ok (k := k) (j := i) (by omega)
    have hle := hr.le
    refine ⟨g, 0, c, rfl, hF, by simp [bs] at hle; omega, fun e => absurd e hne, ?_, rfl⟩
    rw [e1]
    have := hr.src
    rw [hl] at this
    exact this

def DS.read (S : DS) : DS := { S with reads := wrap64 (S.reads + 1) }
def DS.refuse (S : DS) : DS := { S with refused := wrap64 (S.refused + 1) }

theorem DiskRaw.set {w : World} {F : Nat → Prop} {p s : Nat} {S : DS} {gi ci m : Nat} {D : DataW Value} {gr cr : Nat → Nat} (h : DiskRaw w F p s S gi ci m D gr cr) (i : Nat) (v : Value) :
    (w.setCell ⟨p, i, none⟩ v).heap[p]? = some (.cells ((dkCells (.slice (some ⟨gi, 0, none⟩) (s * 512) ci) (.map (some m)) S.fuse S.life S.reads S.writes S.flushes S.refused).setIfInBounds i v) 81 (0, 0)) ∧ Keeps (fun k => k = p) w (w.setCell ⟨p, i, none⟩ v) :=
  ⟨heap_setCell_same _ _ _ _ _ _ h.blk, Keeps.setCell (F := fun k => k = p) w (p := ⟨p, i, none⟩) rfl v⟩

theorem DiskRaw.refused {w : World} {F : Nat → Prop} {p s : Nat} {S : DS} {gi ci m : Nat} {D : DataW Value} {gr cr : Nat → Nat} (h : DiskRaw w F p s S gi ci m D gr cr) :
    DiskRaw (w.setCell ⟨p, 7, none⟩ (.int .i64 (wrap64 (S.refused + 1)))) F p s S.refuse gi ci m D gr cr :=
  h.turn (h.set 7 _).2 ((h.set 7 _).1.trans (by simp [dkCells, DS.refuse])) rfl rfl h.ok.fuse
theorem DiskRaw.reads {w : World} {F : Nat → Prop} {p s : Nat} {S : DS} {gi ci m : Nat} {D : DataW Value} {gr cr : Nat → Nat} (h : DiskRaw w F p s S gi ci m D gr cr) :
    DiskRaw (w.setCell ⟨p, 4, none⟩ (.int .i64 (wrap64 (S.reads + 1)))) F p s S.read gi ci m D gr cr :=
  h.turn (h.set 4 _).2 ((h.set 4 _).1.trans (by simp [dkCells, DS.read])) rfl rfl h.ok.fuse

theorem read_dead {w : World} {F : Nat → Prop} {p s : Nat} {S : DS} (h : DiskAt w F p s S) (at_ : Int) (hf : S.fuse = 0) :
    Calls Tryz.prog 37 #[.pointer (some ⟨p, 0, none⟩), .int .i64 at_] w fun e w' => e = .returned (.tuple #[.slice none 0 0, .int .i64 3]) ∧ w' = w := by
  have hb := burnt_at h
  rw [hf] at hb
  go_enter Tryz.func37, Tryz.ntmps37
  go_wp2_with (go_at_call 13; refine hb.mono ?_; rintro e w' ⟨rfl, rfl⟩)
  go_ret2
  exact ⟨rfl, rfl⟩

theorem read_range {w : World} {F : Nat → Prop} {p s : Nat} {S : DS} (h : DiskAt w F p s S) (at_ : Int) (hf : S.fuse ≠ 0) (ha : at_ < 0 ∨ (s : Int) ≤ at_) :
    Calls Tryz.prog 37 #[.pointer (some ⟨p, 0, none⟩), .int .i64 at_] w fun e w' => e = .returned (.tuple #[.slice none 0 0, .int .i64 11]) ∧ DiskAt w' F p s S.refuse ∧ Keeps F w w' := by
  have hb := burnt_at h
  rw [show (S.fuse == 0) = false by simp [hf]] at hb
  obtain ⟨gi, ci, m, D, gr, cr, h⟩ := h
  have hs := h.ok.hi
  have hh := has_low p _ (s * 512) ci at_ w (by omega) (cell_of_block h.blk (j := 0) rfl)
  rw [show s * 512 / 512 = s by omega, show (decide (0 ≤ at_) && decide (at_ < (s : Int))) = false by simp; omega] at hh
  have hr := refuse_low p S.refused 11 w (cell_of_block h.blk (j := 7) rfl) (frozen_of_block h.blk 7)
  have hd := h.refused
  have hk : Keeps F w (w.setCell ⟨p, 7, none⟩ (.int .i64 (wrap64 (S.refused + 1)))) := Keeps.setCell w h.fp _
  have Hd := Hid.mk hd
  have Hk := Hid.mk hk
  clear h hd hk ha
  go_enter Tryz.func37, Tryz.ntmps37
  go_wp2_with (first | (go_at_call 13; refine hb.mono ?_; rintro e w' ⟨rfl, hw⟩; subst hw) | (go_at_call 59; refine hh.mono ?_; rintro e w' ⟨rfl, hw⟩; subst hw) | (go_at_call 60; refine hr.mono ?_; rintro e w' ⟨rfl, rfl⟩))
  go_ret2
  exact ⟨rfl, ⟨gi, ci, m, D, gr, cr, Hd.out⟩, Hk.out⟩

set_option maxHeartbeats 1000000 in
theorem read_okm {w : World} {F : Nat → Prop} {p s : Nat} {S : DS} {m : Nat} (h : DiskM w F p s S m) (k : Nat) (hf : S.fuse ≠ 0) (hk : k < s) (hbig : S.puts.length ≤ 140737488355328) :
    Calls Tryz.prog 37 #[.pointer (some ⟨p, 0, none⟩), .int .i64 (k : Int)] w fun e w' => ∃ g c, e = .returned (.tuple #[.slice (some ⟨g, 0, none⟩) 512 c, .int .i64 0]) ∧ w.heap.size ≤ g ∧ RowAt w' 5 g c (bs (S.now k)) ∧
      DiskM w' F p s S.read m ∧ Keeps F w w' := by
  have hb := burnt_at h.at
  rw [show (S.fuse == 0) = false by simp [hf]] at hb
  obtain ⟨gi, ci, D, gr, cr, h⟩ := h
  have hs := h.ok.hi
  have hh := has_low p _ (s * 512) ci k w (by omega) (cell_of_block h.blk (j := 0) rfl)
  rw [show s * 512 / 512 = s by omega, show (decide (0 ≤ (k : Int)) && decide ((k : Int) < (s : Int))) = true by simp; omega] at hh
  have c4 := cell_of_block h.blk (j := 4) rfl
  have f4 := frozen_of_block h.blk 4
  have hd := h.reads
  have hkp : Keeps F w (w.setCell ⟨p, 4, none⟩ (.int .i64 (wrap64 (S.reads + 1)))) := Keeps.setCell w h.fp _
  have hsz : (w.setCell ⟨p, 4, none⟩ (.int .i64 (wrap64 (S.reads + 1)))).heap.size = w.heap.size := by simp [World.setCell]
  have c1 := cell_of_block hd.blk (j := 1) rfl
  obtain ⟨a, c, hrun, hne, hnil⟩ := hd.look hk
  have hca := cand_any hd k hk (pendOf S.puts k).length (Nat.le_refl _) hbig
  have hcl : (S.read.cand k (pendOf S.puts k).length).length = 512 := DS.cand_len hd.ok hk (Nat.le_refl _)
  have Hd := Hid.mk hd
  have Hk := Hid.mk hkp
  have Hs := Hid.mk hsz
  have Hl := Hid.mk hcl
  clear h hd hkp hne hnil hsz hcl
  go_enter Tryz.func37, Tryz.ntmps37
  go_wp2_with (first | (go_at_call 13; refine hb.mono ?_; rintro e w' ⟨rfl, hw⟩; subst hw) | (go_at_call 59; refine hh.mono ?_; rintro e w' ⟨rfl, hw⟩; subst hw))
  refine hca.mono ?_
  rintro e w1 ⟨g, o, cg, rfl, hF, hcg, _, hsrc, rfl⟩
  have hcn := clone_low ⟨g, o, none⟩ 512 cg _ _ Hl.out (by omega) (fun i hi => hsrc.2.2 _ rfl i hi)
  clear hsrc hca
  go_wp2_with fail
  refine hcn.mono ?_
  rintro e w2 ⟨g2, c2, rfl, hg2, hr2, hb2⟩
  have hdk : DiskM w2 F p s S.read m := DiskM.keep ⟨gi, ci, D, gr, cr, Hd.out⟩ (Keeps.of_below (fun _ => False) hb2) (fun _ _ h => h)
  have hke := Hk.out.trans (Keeps.of_below (fun _ => False) hb2) (fun _ h => h.elim)
  rw [Hs.out] at hg2
  have Hr2 := Hid.mk hr2
  clear hr2 hb2 hcn hrun
  go_wp2
  go_ret2
  exact ⟨g2, c2, rfl, hg2, Hr2.out, hdk, hke⟩

theorem read_ok {w : World} {F : Nat → Prop} {p s : Nat} {S : DS} (h : DiskAt w F p s S) (k : Nat) (hf : S.fuse ≠ 0) (hk : k < s) (hbig : S.puts.length ≤ 140737488355328) :
    Calls Tryz.prog 37 #[.pointer (some ⟨p, 0, none⟩), .int .i64 (k : Int)] w fun e w' => ∃ g c, e = .returned (.tuple #[.slice (some ⟨g, 0, none⟩) 512 c, .int .i64 0]) ∧ w.heap.size ≤ g ∧ RowAt w' 5 g c (bs (S.now k)) ∧
      DiskAt w' F p s S.read ∧ Keeps F w w' := by
  obtain ⟨m, h⟩ := h.m
  refine (read_okm h k hf hk hbig).mono ?_
  rintro e w' ⟨g, c, h1, h2, h3, h4, h5⟩
  exact ⟨g, c, h1, h2, h3, h4.at, h5⟩
end Go.Proofs.YtllkjmbcjlbmbaaGreat
end
