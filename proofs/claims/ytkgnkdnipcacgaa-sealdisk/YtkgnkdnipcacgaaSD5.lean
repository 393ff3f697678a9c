import Derived.Test.YtkgnkdnipcacgaaSD4
namespace Go.Proofs.Ytkgnkdnipcacgaa
open Go.RowKit

set_option maxHeartbeats 4000000 in
set_option maxRecDepth 100000 in
theorem crash_gen (sorts : SortSaid) (sortn : SortNil) {w : World} {F : Nat → Prop} {p s : Nat} {S : DS} (hd : DiskAt w F p s S) (hbig : S.puts.length + 1 ≤ 5000000000000) (a : Option Addr) (n c : Nat) (l : List P3) (hps : PSrc w a n l) (hn : n ≤ 140737488355328) (hF : ∀ x, a = some x → 0 < n → ¬ F x.block) :
    Calls Try.prog 15 #[.pointer (some ⟨p, 0, none⟩), .slice a n c] w fun e w' => e = .returned (.tuple #[]) ∧ DiskAt w' F p s (S.crash s l) ∧ Keeps F w w' := by
  obtain ⟨gi, ci, m, D, gr, cr, h⟩ := hd
  have hun := unfl_ok sorts sortn h hbig
  have hkl : (keysOf S s).length ≤ 2048 := by
    have := List.length_filter_le (fun k => !(pendOf S.puts k).isEmpty) (List.range s)
    rw [List.length_range] at this
    exact Nat.le_trans this h.ok.hi
  have H := Hid.mk h
  have HP := Hid.mk hps
  clear h hps
  go_enter Try.func15, Try.ntmps15
  go_wp2_with (go_at_call 53; refine hun.mono ?_; rintro e w1 ⟨ak, ck, rfl, hrow, hb1⟩)
  have Hrow := Hid.mk hrow
  have hd1 : DiskRaw w1 F p s { S with im := S.im } gi ci m D gr cr := H.out.agree hb1.size (fun j hj => hb1.block j (H.out.lt j hj))
  have hk1 : Keeps F w w1 := Keeps.of_below F hb1
  clear hun hrow
  go_loopw [4, 5, 6, 10] (fun _ _ _ i wr => ∃ j : Nat, j ≤ (keysOf S s).length ∧ i = .int .i64 (j : Int) ∧ ∃ im, DiskRaw wr F p s { S with im := im } gi ci m D gr cr ∧ (∀ i, i < s → dsec im i = if i ∈ (keysOf S s).take j then cutOf S l i else dsec S.im i) ∧ Keeps F w wr ∧
      (keysOf S s ≠ [] → ∃ g, ak = some ⟨g, 0, none⟩ ∧ RowAt wr 3 g ck (is_ (keysOf S s)) ∧ w.heap.size ≤ g)) (fun _ _ _ i _ => (keysOf S s).length - (intOf i).toNat)
  case atStart => exact ⟨0, Nat.zero_le _, rfl, S.im, hd1, fun i _ => by simp, hk1, fun h => by obtain ⟨g, e, hg, hr⟩ := Hrow.out h; exact ⟨g, e, hr, hg⟩⟩
  case round =>
    clear hd1 hk1 Hrow
    obtain ⟨j, hj, rfl, im, hd, hse, hk, hrow⟩ := hrel
    have Hd := Hid.mk hd
    have Hse := Hid.mk hse
    clear hd hse
    by_cases hlt : j < (keysOf S s).length
    · have hlt' : (j : Int) < ((keysOf S s).length : Int) := by omega
      obtain ⟨g, rfl, hr, hg⟩ := hrow (by intro e; rw [e] at hlt; simp at hlt)
      obtain ⟨k0, hk0⟩ : ∃ k, (keysOf S s)[j]? = some k := ⟨_, List.getElem?_eq_getElem hlt⟩
      have hc0 : wr.cell? ⟨g, j, none⟩ = some (.int .i64 (k0 : Int)) := hr.cell (by simp [is_, hk0])
      obtain ⟨hks, hp, hto, hse2⟩ := crash_step H.out.ok l Hd.out.ok.len hk0 Hse.out
      have Hr := Hid.mk hr
      have Hse2 := Hid.mk hse2
      clear hr hse2
      by_cases hn0 : n = 0
      · subst hn0
        have hq : pickN l j = (0, 0, 0) := by simp [pickN, HP.out.1]
        have hte := fun o => crash_tear hbig Hd.out ((Below.refl wr.heap.size wr).alloc (Nat.le_refl _) o) hks hto 0 0 0 hq (by omega) (by omega) (by omega)
        go_wp2_with (go_at_call 54; refine (hte _).mono ?_; rintro e w5 ⟨rfl, hd5, hk5⟩)
        have hr5 : RowAt w5 3 g ck (is_ (keysOf S s)) := Hr.out.agree (hk5.block g Hr.out.lt (fun hf => by have := H.out.lt g hf; omega))
        have Hd5 := Hid.mk hd5
        have hk6 : Keeps F w w5 := hk.trans hk5 (fun i hi => .inl hi)
        clear hd5 hk5 hte hc0
        go_roundw
        case rel => exact ⟨j + 1, by omega, by go_num, _, Hd5.out, Hse2.out, hk6, fun _ => ⟨g, rfl, hr5, hg⟩⟩
        case measure => simp [intOf]; omega
      · obtain ⟨x, rfl⟩ : ∃ x, a = some x := by
          cases a with
          | none => exact absurd (HP.out.2.1 rfl) hn0
          | some x => exact ⟨x, rfl⟩
        have hll := HP.out.1
        have hlp : 0 < l.length := by omega
        obtain ⟨q, hq⟩ : ∃ q, q = j % n := ⟨_, rfl⟩
        have hqn : q < n := by rw [hq]; exact Nat.mod_lt _ (by omega)
        have hql : q < l.length := by omega
        have hPr := HP.out.keeps hk (fun x e => hF x e (by omega))
        obtain ⟨b, o, rfl, p0, p1, p2⟩ := hPr.2.2.1 x rfl q hql
        have hpk : pickN l j = (l[q].1, l[q].2.1, l[q].2.2) := by
          have e1 : j % l.length = q := by rw [hll, hq]
          simp only [pickN, hlp, dif_pos, e1]
        obtain ⟨b1, b2, b3⟩ := hPr.2.2.2 l[q] (List.getElem_mem hql)
        have hte := fun wx hx => crash_tear (wx := wx) hbig Hd.out hx hks hto _ _ _ hpk b1 b2 b3
        have hmo : (j : Int) % (n : Int) = (q : Int) := by rw [hq]; push_cast; rfl
        have hn1 : (0 : Int) < (n : Int) := by omega
        have hq1 : (q : Int) < (n : Int) := by omega
        have hbw := World.block_lt_of_cell? _ _ p0
        have Hte := Hid.mk hte
        clear hte hpk hPr hq hto
        generalize l[q].1 = qa at *
        generalize l[q].2.1 = qb at *
        generalize l[q].2.2 = qc at *
        go_wp2_with fail
        refine (Hte.out _ ((Below.refl wr.heap.size wr).alloc (Nat.le_refl _) _)).mono ?_
        rintro e w5 ⟨rfl, hd5, hk5⟩
        have hr5 : RowAt w5 3 g ck (is_ (keysOf S s)) := Hr.out.agree (hk5.block g Hr.out.lt (fun hf => by have := H.out.lt g hf; omega))
        have Hd5 := Hid.mk hd5
        have hk6 : Keeps F w w5 := hk.trans hk5 (fun i hi => .inl hi)
        clear hd5 hk5 Hte hc0 p0 p1 p2
        go_wp2
        go_roundw
        case rel => exact ⟨j + 1, by omega, by go_num, _, Hd5.out, Hse2.out, hk6, fun _ => ⟨g, rfl, hr5, hg⟩⟩
        case measure => simp [intOf]; omega
    · have hlt' : ¬ (j : Int) < ((keysOf S s).length : Int) := by omega
      obtain ⟨w3, hrun3, hm3, hk3, _⟩ := clear_run Hd.out.map
      have c1 := cell_of_block Hd.out.blk (j := 1) rfl
      have ej : j = (keysOf S s).length := by omega
      rw [ej] at Hse
      have hall := crash_all H.out.ok l Hd.out.ok.len Hse.out
      clear ej
      obtain ⟨c2, f2, c3, f3, hd5, hk5⟩ := crash_end H.out Hd.out hall hk hm3 hk3
      have Hq := Hid.mk (And.intro hd5 hk5)
      clear hd5 hk5 hall hm3 hk3 Hd Hse H hk hrow
      go_wp2
      go_end0
      exact ⟨rfl, Hq.out⟩

section
variable {w0 w w' w1 w2 : World} {F F' : Nat → Prop} {kb p n m : Nat} {S S' : DS} {su ma su' ma' : NwT} {op op' : Bool} {sp mp sp' mp' : Option Addr} {sc mc sc' mc' : Nat}

set_option maxRecDepth 20000 in
set_option maxHeartbeats 4000000 in
theorem beat_one (h : BenchAt w0 w F kb p S su ma op n sp mp sc mc) (kn : Knows S su ma op) (hn : n + 6 ≤ 4000000000000) (x : Int) (a : Option Addr) (m c : Nat) (pa : Option Addr) (pn pc : Nat) (l : List Int) (pl : List P3) (ho : OpOk w w0.heap.size x a m pa pn l pl) (hl : Bytes l) :
    Calls Try.prog 44 #[.pointer (some ⟨kb, 0, none⟩), opV 1 x a m c pa pn pc] w (BeatOut w0 w F kb p (n + 1)) := by
  have hbx := below_box w (.cells (opC 1 x a m c pa pn pc) 81)
  have hq : (w.alloc (.cells (opC 1 x a m c pa pn pc) 81)).heap[w.heap.size]? = some (.cells (opC 1 x a m c pa pn pc) 81 (0, 0)) := heap_alloc_new _ _
  have hzw : w.heap.size < (w.alloc (.cells (opC 1 x a m c pa pn pc) 81)).heap.size := (Array.getElem?_eq_some_iff.1 hq).1
  have k0 := cell_of_block hq (j := 0) rfl
  have k1 := cell_of_block hq (j := 1) rfl
  have k2 := cell_of_block hq (j := 2) rfl
  have k3 := cell_of_block hq (j := 3) rfl
  have h5 := h.later hbx
  have hnF : ¬ F w.heap.size := fun hf => by have := h.dk.lt _ hf; omega
  have hFl := h.dk.lt
  have hkl := h.kbl
  have hkb : w.heap.size ≠ kb := by omega
  have hlo := h.lo
  have hkb0 := h.kb0
  have hw0 := h.bel.size
  have hox := ho.x
  have hom := ho.n
  have hsl := ho.s
  have hpl := ho.p
  have hsB := ho.sB
  have hpB := ho.pB
  have hpn := ho.pn
  have HB := Hid.mk h
  have H5 := Hid.mk hbx
  have HQ := Hid.mk hq
  have HS := Hid.mk (hsl.later hbx)
  have hl5 : (l.take 496).length ≤ 496 := by rw [List.length_take]; omega
  have hb5 : Bytes (l.take 496) := hl.take 496
  clear h hbx hq h5 ho hsl hpl
  go_enter Try.func44, Try.ntmps44
  go_wp2_with fail
  generalize w.alloc (.cells (opC 1 x a m c pa pn pc) 81) = w5 at *
  have hdr := below_drew (Below.refl w5.heap.size w5)
  have hup := upTo_any a m c 496 l w5.drew (by omega) (HS.out.later hdr) hom
  obtain ⟨dt, hdt⟩ : ∃ dt, dt = l.take 496 := ⟨_, rfl⟩
  rw [← hdt] at hup hl5 hb5
  clear hdt
  have HDr := Hid.mk hdr
  clear hdr
  go_region_held3 (fun w' => w'.cell? ⟨w.heap.size, 1, none⟩ = some (.int .i64 x) ∧ w'.cell? ⟨w.heap.size, 2, none⟩ = some (.slice a m c))
    (first | exact ⟨k1, k2⟩ | exact ⟨k11, k21⟩ | exact ⟨k12, k22⟩)
    (first
      | (go_at_call 77; refine hup.mono ?_; rintro e w6 ⟨v6, rfl, ho6, hb6⟩; obtain ⟨a6, c6, rfl, hs6, _, hx6⟩ := ho6.src; have hn6 := (hb6.block w.heap.size hzw).trans ((HDr.out.block w.heap.size hzw).trans HQ.out); have k11 := cell_of_block hn6 (j := 1) rfl; have k21 := cell_of_block hn6 (j := 2) rfl; have hB6 : Below w.heap.size w w6 := H5.out.trans ((HDr.out.trans (hb6.mono (Nat.le_refl _))).mono H5.out.size))
      | (go_at_call 76; refine (brenew_any (HB.out.later hB6) kn (by omega) a6 c6 dt hs6 hl5 hb5 (fun y e hx => by have h9 : w5.heap.size ≤ y.block := (hx6 y e).1; exact ⟨fun hf => by have := hFl _ hf; omega, by omega⟩) x hox).mono ?_; rintro e w7 ⟨rfl, hk7, hB7⟩; have hz6 : w.heap.size < w6.heap.size := (Array.getElem?_eq_some_iff.1 hn6).1; have hn7 := (hk7.block w.heap.size hz6 (fun hf => hf.elim hnF hkb)).trans hn6; have k12 := cell_of_block hn7 (j := 1) rfl; have k22 := cell_of_block hn7 (j := 2) rfl))
  have HK7 := Hid.mk ((Keeps.of_below (fun _ => False) hB6).mono (G := fun k => F k ∨ k = kb) (fun k h => h.elim) |>.trans hk7 (fun j h => .inl h))
  have HB7 := Hid.mk hB7
  clear hup hs6 hx6 hn6 hn7 hB6 hk7 hB7 hb6 ho6 k11 k21 k12 k22
  go_wp2
  go_ret
  exact ⟨rfl, HK7.out, HB7.out⟩

set_option maxRecDepth 20000 in
set_option maxHeartbeats 4000000 in
theorem beat_two (h : BenchAt w0 w F kb p S su ma op n sp mp sc mc) (kn : Knows S su ma op) (hn : n + 6 ≤ 4000000000000) (x : Int) (a : Option Addr) (m c : Nat) (pa : Option Addr) (pn pc : Nat) (l : List Int) (pl : List P3) (ho : OpOk w w0.heap.size x a m pa pn l pl) (_hl : Bytes l) :
    Calls Try.prog 44 #[.pointer (some ⟨kb, 0, none⟩), opV 2 x a m c pa pn pc] w (BeatOut w0 w F kb p (n + 1)) := by
  have hbx := below_box w (.cells (opC 2 x a m c pa pn pc) 81)
  have hq : (w.alloc (.cells (opC 2 x a m c pa pn pc) 81)).heap[w.heap.size]? = some (.cells (opC 2 x a m c pa pn pc) 81 (0, 0)) := heap_alloc_new _ _
  have hzw : w.heap.size < (w.alloc (.cells (opC 2 x a m c pa pn pc) 81)).heap.size := (Array.getElem?_eq_some_iff.1 hq).1
  have k0 := cell_of_block hq (j := 0) rfl
  have k1 := cell_of_block hq (j := 1) rfl
  have k2 := cell_of_block hq (j := 2) rfl
  have k3 := cell_of_block hq (j := 3) rfl
  have h5 := h.later hbx
  have hnF : ¬ F w.heap.size := fun hf => by have := h.dk.lt _ hf; omega
  have hFl := h.dk.lt
  have hkl := h.kbl
  have hkb : w.heap.size ≠ kb := by omega
  have hlo := h.lo
  have hkb0 := h.kb0
  have hw0 := h.bel.size
  have hox := ho.x
  have hom := ho.n
  have hsl := ho.s
  have hpl := ho.p
  have hsB := ho.sB
  have hpB := ho.pB
  have hpn := ho.pn
  have hfl := bflush_any h5 (by omega)
  have HK := Hid.mk ((kn.flush h5.dk.ok).1)
  have H5 := Hid.mk hbx
  clear h hbx hq h5 ho hsl hpl
  go_enter Try.func44, Try.ntmps44
  go_wp2_with fail
  refine hfl.mono ?_
  rintro e w6 ⟨rfl, hB6, hk6⟩
  have HB6 := Hid.mk (And.intro (hB6.up (Nat.le_succ n)) ((Keeps.of_below (fun k => F k ∨ k = kb) H5.out).trans hk6 (fun j h => .inl h)))
  clear hfl hB6 hk6
  go_wp2
  go_ret
  exact ⟨rfl, HB6.out.2, _, _, _, _, _, _, _, _, _, HB6.out.1, HK.out⟩

set_option maxRecDepth 20000 in
set_option maxHeartbeats 4000000 in
theorem beat_else (h : BenchAt w0 w F kb p S su ma op n sp mp sc mc) (kn : Knows S su ma op) (_hn : n + 6 ≤ 4000000000000) (kind : Int) (q1 : kind ≠ 1) (q2 : kind ≠ 2) (q3 : kind ≠ 3) (q4 : kind ≠ 4) (x : Int) (a : Option Addr) (m c : Nat) (pa : Option Addr) (pn pc : Nat) (l : List Int) (pl : List P3) (ho : OpOk w w0.heap.size x a m pa pn l pl) (_hl : Bytes l) :
    Calls Try.prog 44 #[.pointer (some ⟨kb, 0, none⟩), opV kind x a m c pa pn pc] w (BeatOut w0 w F kb p (n + 1)) := by
  have hbx := below_box w (.cells (opC kind x a m c pa pn pc) 81)
  have hq : (w.alloc (.cells (opC kind x a m c pa pn pc) 81)).heap[w.heap.size]? = some (.cells (opC kind x a m c pa pn pc) 81 (0, 0)) := heap_alloc_new _ _
  have hzw : w.heap.size < (w.alloc (.cells (opC kind x a m c pa pn pc) 81)).heap.size := (Array.getElem?_eq_some_iff.1 hq).1
  have k0 := cell_of_block hq (j := 0) rfl
  have k1 := cell_of_block hq (j := 1) rfl
  have k2 := cell_of_block hq (j := 2) rfl
  have k3 := cell_of_block hq (j := 3) rfl
  have h5 := h.later hbx
  have hnF : ¬ F w.heap.size := fun hf => by have := h.dk.lt _ hf; omega
  have hFl := h.dk.lt
  have hkl := h.kbl
  have hkb : w.heap.size ≠ kb := by omega
  have hlo := h.lo
  have hkb0 := h.kb0
  have hw0 := h.bel.size
  have hox := ho.x
  have hom := ho.n
  have hsl := ho.s
  have hpl := ho.p
  have hsB := ho.sB
  have hpB := ho.pB
  have hpn := ho.pn
  have e1 : (kind == 1) = false := by rw [beq_eq_false_iff_ne]; exact q1
  have e2 : (kind == 2) = false := by rw [beq_eq_false_iff_ne]; exact q2
  have e3 : (kind == 3) = false := by rw [beq_eq_false_iff_ne]; exact q3
  have e4 : (kind == 4) = false := by rw [beq_eq_false_iff_ne]; exact q4
  have HB := Hid.mk (And.intro (h5.up (Nat.le_succ n)) (Keeps.of_below (fun k => F k ∨ k = kb) hbx))
  clear h hbx hq h5 ho hsl hpl
  go_enter Try.func44, Try.ntmps44
  go_wp2
  go_ret
  exact ⟨rfl, HB.out.2, _, _, _, _, _, _, _, _, _, HB.out.1, kn⟩

set_option maxRecDepth 20000 in
set_option maxHeartbeats 4000000 in
theorem beat_four2 (h : BenchAt w0 w F kb p S su ma op n sp mp sc mc) (kn : Knows S su ma op) (hn : n + 6 ≤ 4000000000000) (x : Int) (hx2 : x = 2) (a : Option Addr) (m c : Nat) (pa : Option Addr) (pn pc : Nat) (l : List Int) (pl : List P3) (ho : OpOk w w0.heap.size x a m pa pn l pl) (hl : Bytes l) :
    Calls Try.prog 44 #[.pointer (some ⟨kb, 0, none⟩), opV 4 x a m c pa pn pc] w (BeatOut w0 w F kb p (n + 1)) := by
  have hbx := below_box w (.cells (opC 4 x a m c pa pn pc) 81)
  have hq : (w.alloc (.cells (opC 4 x a m c pa pn pc) 81)).heap[w.heap.size]? = some (.cells (opC 4 x a m c pa pn pc) 81 (0, 0)) := heap_alloc_new _ _
  have hzw : w.heap.size < (w.alloc (.cells (opC 4 x a m c pa pn pc) 81)).heap.size := (Array.getElem?_eq_some_iff.1 hq).1
  have k0 := cell_of_block hq (j := 0) rfl
  have k1 := cell_of_block hq (j := 1) rfl
  have k2 := cell_of_block hq (j := 2) rfl
  have k3 := cell_of_block hq (j := 3) rfl
  have h5 := h.later hbx
  have hnF : ¬ F w.heap.size := fun hf => by have := h.dk.lt _ hf; omega
  have hFl := h.dk.lt
  have hkl := h.kbl
  have hkb : w.heap.size ≠ kb := by omega
  have hlo := h.lo
  have hkb0 := h.kb0
  have hw0 := h.bel.size
  have hox := ho.x
  have hom := ho.n
  have hsl := ho.s
  have hpl := ho.p
  have hsB := ho.sB
  have hpB := ho.pB
  have hpn := ho.pn
  subst hx2
  have HB := Hid.mk h
  have H5 := Hid.mk hbx
  have HQ := Hid.mk hq
  have HS := Hid.mk (hsl.later hbx)
  have kp := cell_of_block h5.bl (j := 0) rfl
  have hpu := h.pu
  have hfu : S.fuse ≠ 0 := by rw [h.kn.1]; decide
  have hkn := kn.other (k := 2) (by omega) (by omega) (by omega) (sec_bytes hl)
  have hsl5 := sec_len l
  clear h hbx hq h5 ho hsl hpl
  go_enter Try.func44, Try.ntmps44
  go_wp2_with fail
  generalize w.alloc (.cells (opC 4 2 a m c pa pn pc) 81) = w5 at *
  have hdr := below_drew (Below.refl w5.heap.size w5)
  have hup := lsector_any a m c l w5.drew hom (HS.out.later hdr)
  have HDr := Hid.mk hdr
  clear hdr
  go_region_held3 (fun w' => w'.cell? ⟨kb, 0, none⟩ = some (.pointer (some ⟨p, 0, none⟩)) ∧ w'.cell? ⟨w.heap.size, 2, none⟩ = some (.slice a m c))
    (first | exact ⟨kp, k2⟩ | exact ⟨kp1, k21⟩ | exact ⟨kp2, k22⟩)
    (first
      | (go_at_call 73; refine hup.mono ?_; rintro e w6 ⟨v6, rfl, ho6, hb6⟩; obtain ⟨a6, c6, rfl, hs6, _, hx6⟩ := ho6.src; have hn6 := (hb6.block w.heap.size hzw).trans ((HDr.out.block w.heap.size hzw).trans HQ.out); have k21 := cell_of_block hn6 (j := 2) rfl; have hB6 : Below w.heap.size w w6 := H5.out.trans ((HDr.out.trans (hb6.mono (Nat.le_refl _))).mono H5.out.size); have hA6 := HB.out.later hB6; have kp1 := cell_of_block hA6.bl (j := 0) rfl; rw [hsl5] at hs6 ⊢)
      | (go_at_call 11; refine (write_all hA6.dk ((2 : Nat) : Int) a6 512 c6 (sec l) hs6 (by omega)).mono ?_; rw [wr_in hfu (by omega)]; rintro e w7 ⟨rfl, hd7, hk7⟩; have hz6 : w.heap.size < w6.heap.size := (Array.getElem?_eq_some_iff.1 hn6).1; have hn7 := (hk7.block w.heap.size hz6 hnF).trans hn6; have k22 := cell_of_block hn7 (j := 2) rfl; have hb7 := (hk7.block kb hA6.kbl hA6.nf).trans hA6.bl; have kp2 := cell_of_block hb7 (j := 0) rfl))
  have eS : (S.put 2 (sec l)).wrote.spend = (S.wr 5 ((2 : Nat) : Int) 512 (sec l)).2 := by rw [wr_in hfu (by omega)]
  rw [eS] at hd7
  have hB7 := hA6.step (m := n + 1) hd7 hk7 ⟨hkn.fu, hkn.byt⟩ (by have := wr_puts S 5 ((2 : Nat) : Int) 512 (sec l); omega)
  have HK7 := Hid.mk ((Keeps.of_below (fun k => F k ∨ k = kb) hB6).trans hk7 (fun j h => .inl (.inl h)))
  have HB7 := Hid.mk hB7
  have HKn := Hid.mk hkn
  clear hup hs6 hx6 hn6 hn7 hB6 hk7 hB7 hb6 ho6 k21 k22 kp kp1 kp2 hd7 hA6 hb7 hkn eS
  go_wp2_with fail
  refine (lnum_any _ _).mono ?_
  rintro e w' ⟨rfl, hw⟩
  have hw' := hw.symm
  subst hw'
  clear hw
  go_wp2
  go_ret
  exact ⟨rfl, HK7.out, _, _, _, _, _, _, _, _, _, HB7.out, HKn.out⟩

set_option maxRecDepth 20000 in
set_option maxHeartbeats 4000000 in
theorem beat_four4 (h : BenchAt w0 w F kb p S su ma op n sp mp sc mc) (kn : Knows S su ma op) (hn : n + 6 ≤ 4000000000000) (x : Int) (hx4 : x = 4) (a : Option Addr) (m c : Nat) (pa : Option Addr) (pn pc : Nat) (l : List Int) (pl : List P3) (ho : OpOk w w0.heap.size x a m pa pn l pl) (hl : Bytes l) :
    Calls Try.prog 44 #[.pointer (some ⟨kb, 0, none⟩), opV 4 x a m c pa pn pc] w (BeatOut w0 w F kb p (n + 1)) := by
  have hbx := below_box w (.cells (opC 4 x a m c pa pn pc) 81)
  have hq : (w.alloc (.cells (opC 4 x a m c pa pn pc) 81)).heap[w.heap.size]? = some (.cells (opC 4 x a m c pa pn pc) 81 (0, 0)) := heap_alloc_new _ _
  have hzw : w.heap.size < (w.alloc (.cells (opC 4 x a m c pa pn pc) 81)).heap.size := (Array.getElem?_eq_some_iff.1 hq).1
  have k0 := cell_of_block hq (j := 0) rfl
  have k1 := cell_of_block hq (j := 1) rfl
  have k2 := cell_of_block hq (j := 2) rfl
  have k3 := cell_of_block hq (j := 3) rfl
  have h5 := h.later hbx
  have hnF : ¬ F w.heap.size := fun hf => by have := h.dk.lt _ hf; omega
  have hFl := h.dk.lt
  have hkl := h.kbl
  have hkb : w.heap.size ≠ kb := by omega
  have hlo := h.lo
  have hkb0 := h.kb0
  have hw0 := h.bel.size
  have hox := ho.x
  have hom := ho.n
  have hsl := ho.s
  have hpl := ho.p
  have hsB := ho.sB
  have hpB := ho.pB
  have hpn := ho.pn
  subst hx4
  have HB := Hid.mk h
  have H5 := Hid.mk hbx
  have HQ := Hid.mk hq
  have HS := Hid.mk (hsl.later hbx)
  have kp := cell_of_block h5.bl (j := 0) rfl
  have hpu := h.pu
  have hfu : S.fuse ≠ 0 := by rw [h.kn.1]; decide
  have hkn := kn.other (k := 4) (by omega) (by omega) (by omega) (sec_bytes hl)
  have hsl5 := sec_len l
  clear h hbx hq h5 ho hsl hpl
  go_enter Try.func44, Try.ntmps44
  go_wp2_with fail
  generalize w.alloc (.cells (opC 4 4 a m c pa pn pc) 81) = w5 at *
  have hdr := below_drew (Below.refl w5.heap.size w5)
  have hup := lsector_any a m c l w5.drew hom (HS.out.later hdr)
  have HDr := Hid.mk hdr
  clear hdr
  go_region_held3 (fun w' => w'.cell? ⟨kb, 0, none⟩ = some (.pointer (some ⟨p, 0, none⟩)) ∧ w'.cell? ⟨w.heap.size, 2, none⟩ = some (.slice a m c))
    (first | exact ⟨kp, k2⟩ | exact ⟨kp1, k21⟩ | exact ⟨kp2, k22⟩)
    (first
      | (go_at_call 73; refine hup.mono ?_; rintro e w6 ⟨v6, rfl, ho6, hb6⟩; obtain ⟨a6, c6, rfl, hs6, _, hx6⟩ := ho6.src; have hn6 := (hb6.block w.heap.size hzw).trans ((HDr.out.block w.heap.size hzw).trans HQ.out); have k21 := cell_of_block hn6 (j := 2) rfl; have hB6 : Below w.heap.size w w6 := H5.out.trans ((HDr.out.trans (hb6.mono (Nat.le_refl _))).mono H5.out.size); have hA6 := HB.out.later hB6; have kp1 := cell_of_block hA6.bl (j := 0) rfl; rw [hsl5] at hs6 ⊢)
      | (go_at_call 11; refine (write_all hA6.dk ((4 : Nat) : Int) a6 512 c6 (sec l) hs6 (by omega)).mono ?_; rw [wr_in hfu (by omega)]; rintro e w7 ⟨rfl, hd7, hk7⟩; have hz6 : w.heap.size < w6.heap.size := (Array.getElem?_eq_some_iff.1 hn6).1; have hn7 := (hk7.block w.heap.size hz6 hnF).trans hn6; have k22 := cell_of_block hn7 (j := 2) rfl; have hb7 := (hk7.block kb hA6.kbl hA6.nf).trans hA6.bl; have kp2 := cell_of_block hb7 (j := 0) rfl))
  have eS : (S.put 4 (sec l)).wrote.spend = (S.wr 5 ((4 : Nat) : Int) 512 (sec l)).2 := by rw [wr_in hfu (by omega)]
  rw [eS] at hd7
  have hB7 := hA6.step (m := n + 1) hd7 hk7 ⟨hkn.fu, hkn.byt⟩ (by have := wr_puts S 5 ((4 : Nat) : Int) 512 (sec l); omega)
  have HK7 := Hid.mk ((Keeps.of_below (fun k => F k ∨ k = kb) hB6).trans hk7 (fun j h => .inl (.inl h)))
  have HB7 := Hid.mk hB7
  have HKn := Hid.mk hkn
  clear hup hs6 hx6 hn6 hn7 hB6 hk7 hB7 hb6 ho6 k21 k22 kp kp1 kp2 hd7 hA6 hb7 hkn eS
  go_wp2_with fail
  refine (lnum_any _ _).mono ?_
  rintro e w' ⟨rfl, hw⟩
  have hw' := hw.symm
  subst hw'
  clear hw
  go_wp2
  go_ret
  exact ⟨rfl, HK7.out, _, _, _, _, _, _, _, _, _, HB7.out, HKn.out⟩

set_option maxRecDepth 20000 in
set_option maxHeartbeats 4000000 in
theorem beat_four0 (h : BenchAt w0 w F kb p S su ma op n sp mp sc mc) (kn : Knows S su ma op) (hn : n + 6 ≤ 4000000000000) (x : Int) (hx2 : x ≠ 2) (hx4 : x ≠ 4) (a : Option Addr) (m c : Nat) (pa : Option Addr) (pn pc : Nat) (l : List Int) (pl : List P3) (ho : OpOk w w0.heap.size x a m pa pn l pl) (hl : Bytes l) :
    Calls Try.prog 44 #[.pointer (some ⟨kb, 0, none⟩), opV 4 x a m c pa pn pc] w (BeatOut w0 w F kb p (n + 1)) := by
  have hbx := below_box w (.cells (opC 4 x a m c pa pn pc) 81)
  have hq : (w.alloc (.cells (opC 4 x a m c pa pn pc) 81)).heap[w.heap.size]? = some (.cells (opC 4 x a m c pa pn pc) 81 (0, 0)) := heap_alloc_new _ _
  have hzw : w.heap.size < (w.alloc (.cells (opC 4 x a m c pa pn pc) 81)).heap.size := (Array.getElem?_eq_some_iff.1 hq).1
  have k0 := cell_of_block hq (j := 0) rfl
  have k1 := cell_of_block hq (j := 1) rfl
  have k2 := cell_of_block hq (j := 2) rfl
  have k3 := cell_of_block hq (j := 3) rfl
  have h5 := h.later hbx
  have hnF : ¬ F w.heap.size := fun hf => by have := h.dk.lt _ hf; omega
  have hFl := h.dk.lt
  have hkl := h.kbl
  have hkb : w.heap.size ≠ kb := by omega
  have hlo := h.lo
  have hkb0 := h.kb0
  have hw0 := h.bel.size
  have hox := ho.x
  have hom := ho.n
  have hsl := ho.s
  have hpl := ho.p
  have hsB := ho.sB
  have hpB := ho.pB
  have hpn := ho.pn
  have e2 : (x == 2) = false := by rw [beq_eq_false_iff_ne]; exact hx2
  have e4 : (x == 4) = false := by rw [beq_eq_false_iff_ne]; exact hx4
  have HB := Hid.mk h
  have H5 := Hid.mk hbx
  have HQ := Hid.mk hq
  have HS := Hid.mk (hsl.later hbx)
  have kp := cell_of_block h5.bl (j := 0) rfl
  have hpu := h.pu
  have hfu : S.fuse ≠ 0 := by rw [h.kn.1]; decide
  have hkn := kn.other (k := 0) (by omega) (by omega) (by omega) (sec_bytes hl)
  have hsl5 := sec_len l
  clear h hbx hq h5 ho hsl hpl
  go_enter Try.func44, Try.ntmps44
  go_wp2_with fail
  generalize w.alloc (.cells (opC 4 x a m c pa pn pc) 81) = w5 at *
  have hdr := below_drew (Below.refl w5.heap.size w5)
  have hup := lsector_any a m c l w5.drew hom (HS.out.later hdr)
  have HDr := Hid.mk hdr
  clear hdr
  go_region_held3 (fun w' => w'.cell? ⟨kb, 0, none⟩ = some (.pointer (some ⟨p, 0, none⟩)) ∧ w'.cell? ⟨w.heap.size, 2, none⟩ = some (.slice a m c))
    (first | exact ⟨kp, k2⟩ | exact ⟨kp1, k21⟩ | exact ⟨kp2, k22⟩)
    (first
      | (go_at_call 73; refine hup.mono ?_; rintro e w6 ⟨v6, rfl, ho6, hb6⟩; obtain ⟨a6, c6, rfl, hs6, _, hx6⟩ := ho6.src; have hn6 := (hb6.block w.heap.size hzw).trans ((HDr.out.block w.heap.size hzw).trans HQ.out); have k21 := cell_of_block hn6 (j := 2) rfl; have hB6 : Below w.heap.size w w6 := H5.out.trans ((HDr.out.trans (hb6.mono (Nat.le_refl _))).mono H5.out.size); have hA6 := HB.out.later hB6; have kp1 := cell_of_block hA6.bl (j := 0) rfl; rw [hsl5] at hs6 ⊢)
      | (go_at_call 11; refine (write_all hA6.dk ((0 : Nat) : Int) a6 512 c6 (sec l) hs6 (by omega)).mono ?_; rw [wr_in hfu (by omega)]; rintro e w7 ⟨rfl, hd7, hk7⟩; have hz6 : w.heap.size < w6.heap.size := (Array.getElem?_eq_some_iff.1 hn6).1; have hn7 := (hk7.block w.heap.size hz6 hnF).trans hn6; have k22 := cell_of_block hn7 (j := 2) rfl; have hb7 := (hk7.block kb hA6.kbl hA6.nf).trans hA6.bl; have kp2 := cell_of_block hb7 (j := 0) rfl))
  have eS : (S.put 0 (sec l)).wrote.spend = (S.wr 5 ((0 : Nat) : Int) 512 (sec l)).2 := by rw [wr_in hfu (by omega)]
  rw [eS] at hd7
  have hB7 := hA6.step (m := n + 1) hd7 hk7 ⟨hkn.fu, hkn.byt⟩ (by have := wr_puts S 5 ((0 : Nat) : Int) 512 (sec l); omega)
  have HK7 := Hid.mk ((Keeps.of_below (fun k => F k ∨ k = kb) hB6).trans hk7 (fun j h => .inl (.inl h)))
  have HB7 := Hid.mk hB7
  have HKn := Hid.mk hkn
  clear hup hs6 hx6 hn6 hn7 hB6 hk7 hB7 hb6 ho6 k21 k22 kp kp1 kp2 hd7 hA6 hb7 hkn eS
  go_wp2_with fail
  refine (lnum_any _ _).mono ?_
  rintro e w' ⟨rfl, hw⟩
  have hw' := hw.symm
  subst hw'
  clear hw
  go_wp2
  go_ret
  exact ⟨rfl, HK7.out, _, _, _, _, _, _, _, _, _, HB7.out, HKn.out⟩
end
end Go.Proofs.Ytkgnkdnipcacgaa
