import Derived.Test.YtokcgifpljeoiaaGreatV01
import Derived.Maps.OwnOps
import Derived.Deep.RegionHeld3
import Derived.Deep.AppendLies
section
namespace Go.Proofs.YtokcgifpljeoiaaGreat
open Go.RowKit Go.Maps

/-- A sector of an image. -/
def dsec (im : List Int) (k : Nat) : List Int := (im.drop (k * 512)).take 512

/-- A sector's candidates: what lasts, then its pending writes. -/
def DS.cand (S : DS) (k j : Nat) : List Int := if j = 0 then dsec S.im k else (pendOf S.puts k).getD (j - 1) []

theorem zeroRows (w : World) : (zeroValue 33).run Tryz.prog w = .ok (.slice none 0 0) w := by kernel_rfl

theorem keyOf_nat (k : Nat) (hk : k < 2048) : keyOf Tryz.prog 3 (.int .i64 (k : Int)) = some (kk k) :=
  keyOf_int_mk Tryz.underlying3 (WalkArith.wf_i64 (by omega))

/-- What the map tells of a sector. -/
theorem DiskRaw.look {w : World} {F : Nat → Prop} {p s : Nat} {S : DS} {gi ci m : Nat} {D : DataW Value} {gr cr : Nat → Nat} (h : DiskRaw w F p s S gi ci m D gr cr) {k : Nat} (hk : k < s) :
    ∃ a c, (Instr.lookup 106 (.map (some m)) (.int .i64 (k : Int)) false).run Tryz.prog w = .ok (.slice a (pendOf S.puts k).length c) w ∧
      (pendOf S.puts k ≠ [] → a = some ⟨gr k, 0, none⟩ ∧ c = cr k) ∧ (pendOf S.puts k = [] → a = none ∧ c = 0) := by
  have hs := h.ok.hi
  obtain ⟨v, ps, hrun, hv⟩ := h.map.lookup keyInt Tryz.underlying106 (zeroRows w) (zd := .held (.slice none 0 0)) (zp := []) rfl (keyOf_nat k (by omega))
  by_cases hp : pendOf S.puts k = []
  · rw [Maps.atKey_of_not_has (h.pend.nope k hp)] at hv
    obtain ⟨⟨a, n, c⟩, rfl⟩ := Rs_inv v _ hv
    rw [Rs_mk] at hv
    simp [mkS] at hv
    obtain ⟨⟨rfl, rfl, rfl⟩, _⟩ := hv
    exact ⟨none, 0, by rw [hp]; exact hrun, fun h => absurd hp h, fun _ => ⟨rfl, rfl⟩⟩
  · rw [h.pend.look k hp] at hv
    obtain ⟨⟨a, n, c⟩, rfl⟩ := Rs_inv v _ hv
    rw [Rs_mk] at hv
    simp [mkS] at hv
    obtain ⟨⟨rfl, rfl, rfl⟩, _⟩ := hv
    exact ⟨_, _, hrun, fun _ => ⟨rfl, rfl⟩, fun h => absurd h hp⟩

theorem sec_src {w : World} {gi ci k s : Nat} {im : List Int} (h : RowAt w 5 gi ci (bs im)) (hl : im.length = s * 512) (hk : k < s) : Src w (some ⟨gi, k * 512, none⟩) 512 (dsec im k) := by
  refine ⟨by simp [dsec]; omega, (fun h => by cases h), fun x hx i hi => ?_⟩
  cases hx
  rw [addr_add]
  have := h.byte (i := k * 512 + i) (by omega)
  rw [addr_add, Nat.zero_add] at this
  rw [this]
  simp [dsec, List.getD, hi]

theorem pend_len {S : DS} {s k : Nat} (h : S.Ok s) {j : Nat} (hj : j < (pendOf S.puts k).length) : ((pendOf S.puts k)[j]).length = 512 := by
  have hm := List.getElem_mem hj
  unfold pendOf at hm
  obtain ⟨q, hq, e⟩ := List.mem_map.1 hm
  have := (h.puts q (List.mem_filter.1 hq).1).2
  unfold pendOf
  rw [← e]
  exact this

/-- candidate: where a candidate lies: in the image's own block, or in another one. -/
theorem cand_zero {w : World} {F : Nat → Prop} {p s : Nat} {S : DS} {gi ci m : Nat} {D : DataW Value} {gr cr : Nat → Nat} (h : DiskRaw w F p s S gi ci m D gr cr) (k : Nat) (hk : k < s) :
    Calls Tryz.prog 91 #[.pointer (some ⟨p, 0, none⟩), .int .i64 (k : Int), .int .i64 0] w fun e w' => e = .returned (.slice (some ⟨gi, k * 512, none⟩) 512 512) ∧ w' = w := by
  have hl := h.img.le
  have hd := durable_low p gi (s * 512) ci s k k w (cell_of_block h.blk (j := 0) rfl) rfl hk rfl h.ok.hi (by simp [bs, h.ok.len] at hl; omega)
  go_enter Tryz.func91, Tryz.ntmps91
  go_wp2_with (go_at_call 92; refine hd.mono ?_; rintro e w' ⟨rfl, rfl⟩)
  go_ret
  exact ⟨rfl, rfl⟩

theorem cand_succ {w : World} {F : Nat → Prop} {p s : Nat} {S : DS} {gi ci m : Nat} {D : DataW Value} {gr cr : Nat → Nat} (h : DiskRaw w F p s S gi ci m D gr cr) (k : Nat) (hk : k < s) (i : Nat) (jj : Int) (hj : jj = (i : Int) + 1) (hi : i < (pendOf S.puts k).length) (hbig : S.puts.length ≤ 140737488355328) :
    Calls Tryz.prog 91 #[.pointer (some ⟨p, 0, none⟩), .int .i64 (k : Int), .int .i64 jj] w fun e w' => ∃ g c, e = .returned (.slice (some ⟨g, 0, none⟩) 512 c) ∧ F g ∧ g ≠ gi ∧ RowAt w 5 g c (bs (pendOf S.puts k)[i]) ∧ w' = w := by
  subst hj
  have c1 := cell_of_block h.blk (j := 1) rfl
  have hp : pendOf S.puts k ≠ [] := by intro e; rw [e] at hi; simp at hi
  obtain ⟨a, c, hrun, h1, _⟩ := h.look hk
  obtain ⟨rfl, rfl⟩ := h1 hp
  obtain ⟨_, xs, hrow, hrows⟩ := h.pend.row k hp
  obtain ⟨g, cg, hx, hF, hne, hr⟩ := hrows.get i hi
  have cx := hrow.cell hx
  have hn : (pendOf S.puts k).length ≤ S.puts.length := by unfold pendOf; rw [List.length_map]; exact List.length_filter_le _ _
  have e1 : ((i : Int) + 1 == 0) = false := by rw [Bool.eq_false_iff, ne_eq, beq_iff_eq]; omega
  have hi' : (i : Int) < ((pendOf S.puts k).length : Int) := by omega
  go_enter Tryz.func91, Tryz.ntmps91
  go_wp2
  go_ret
  exact ⟨g, cg, rfl, hF, hne, hr, rfl⟩

/-- What a sector holds now. -/
def DS.now (S : DS) (k : Nat) : List Int := S.cand k (pendOf S.puts k).length

theorem DS.cand_len {S : DS} {s k j : Nat} (h : S.Ok s) (hk : k < s) (hj : j ≤ (pendOf S.puts k).length) : (S.cand k j).length = 512 := by
  unfold DS.cand
  split
  · simp [dsec]; have := h.len; omega
  · have hj' : j - 1 < (pendOf S.puts k).length := by omega
    rw [List.getD, List.getElem?_eq_getElem hj', Option.getD_some]
    exact pend_len h hj'

/-- candidate, whichever. -/
theorem cand_any {w : World} {F : Nat → Prop} {p s : Nat} {S : DS} {gi ci m : Nat} {D : DataW Value} {gr cr : Nat → Nat} (h : DiskRaw w F p s S gi ci m D gr cr) (k : Nat) (hk : k < s) (j : Nat) (hj : j ≤ (pendOf S.puts k).length) (hbig : S.puts.length ≤ 140737488355328) :
    Calls Tryz.prog 91 #[.pointer (some ⟨p, 0, none⟩), .int .i64 (k : Int), .int .i64 (j : Int)] w fun e w' => ∃ g o c, e = .returned (.slice (some ⟨g, o, none⟩) 512 c) ∧ F g ∧ 512 ≤ c ∧ (g = gi → o = k * 512 ∧ S.cand k j = dsec S.im k) ∧ Src w (some ⟨g, o, none⟩) 512 (S.cand k j) ∧ w' = w := by
  cases j with
  | zero => exact (cand_zero h k hk).mono (by rintro e w' ⟨rfl, rfl⟩; exact ⟨gi, k * 512, 512, rfl, h.fgi, Nat.le_refl _, fun _ => ⟨rfl, rfl⟩, sec_src h.img h.ok.len hk, rfl⟩)
  | succ i =>
    refine (cand_succ h k hk i ((i + 1 : Nat) : Int) (by omega) (by omega) hbig).mono ?_
    rintro e w' ⟨g, c, rfl, hF, hne, hr, rfl⟩
    have e1 : S.cand k (i + 1) = (pendOf S.puts k)[i] := by simp [DS.cand, List.getD, List.getElem?_eq_getElem (show i < (pendOf S.puts k).length by omega)]
    have hl := pend_len h.ok (k := k) (j := i) (by omega)
    have hle := hr.le
    refine ⟨g, 0, c, rfl, hF, by simp [bs] at hle; omega, fun e => absurd e hne, ?_, rfl⟩
    rw [e1]
    have := hr.src
    rw [hl] at this
    exact this

def DS.read (S : DS) : DS := { S with reads := wrap64 (S.reads + 1) }
def DS.refuse (S : DS) : DS := { S with refused := wrap64 (S.refused + 1) }

theorem DiskRaw.set {w : World} {F : Nat → Prop} {p s : Nat} {S : DS} {gi ci m : Nat} {D : DataW Value} {gr cr : Nat → Nat} (h : DiskRaw w F p s S gi ci m D gr cr) (i : Nat) (v : Value) :
    (w.setCell ⟨p, i, none⟩ v).heap[p]? = some (.cells ((dkCells (.slice (some ⟨gi, 0, none⟩) (s * 512) ci) (.map (some m)) S.fuse S.life S.reads S.writes S.flushes S.refused).setIfInBounds i v) 108 (0, 0)) ∧ Keeps (fun k => k = p) w (w.setCell ⟨p, i, none⟩ v) :=
  ⟨heap_setCell_same _ _ _ _ _ _ h.blk, Keeps.setCell (F := fun k => k = p) w (p := ⟨p, i, none⟩) rfl v⟩

theorem DiskRaw.refused {w : World} {F : Nat → Prop} {p s : Nat} {S : DS} {gi ci m : Nat} {D : DataW Value} {gr cr : Nat → Nat} (h : DiskRaw w F p s S gi ci m D gr cr) :
    DiskRaw (w.setCell ⟨p, 7, none⟩ (.int .i64 (wrap64 (S.refused + 1)))) F p s S.refuse gi ci m D gr cr :=
  h.turn (h.set 7 _).2 ((h.set 7 _).1.trans (by simp [dkCells, DS.refuse])) rfl rfl h.ok.fuse
theorem DiskRaw.reads {w : World} {F : Nat → Prop} {p s : Nat} {S : DS} {gi ci m : Nat} {D : DataW Value} {gr cr : Nat → Nat} (h : DiskRaw w F p s S gi ci m D gr cr) :
    DiskRaw (w.setCell ⟨p, 4, none⟩ (.int .i64 (wrap64 (S.reads + 1)))) F p s S.read gi ci m D gr cr :=
  h.turn (h.set 4 _).2 ((h.set 4 _).1.trans (by simp [dkCells, DS.read])) rfl rfl h.ok.fuse

theorem read_dead {w : World} {F : Nat → Prop} {p s : Nat} {S : DS} (h : DiskAt w F p s S) (at_ : Int) (hf : S.fuse = 0) :
    Calls Tryz.prog 80 #[.pointer (some ⟨p, 0, none⟩), .int .i64 at_] w fun e w' => e = .returned (.tuple #[.slice none 0 0, .int .i64 3]) ∧ w' = w := by
  have hb := burnt_at h
  rw [hf] at hb
  go_enter Tryz.func80, Tryz.ntmps80
  go_wp2_with (go_at_call 51; refine hb.mono ?_; rintro e w' ⟨rfl, rfl⟩)
  go_ret2
  exact ⟨rfl, rfl⟩

theorem read_range {w : World} {F : Nat → Prop} {p s : Nat} {S : DS} (h : DiskAt w F p s S) (at_ : Int) (hf : S.fuse ≠ 0) (ha : at_ < 0 ∨ (s : Int) ≤ at_) :
    Calls Tryz.prog 80 #[.pointer (some ⟨p, 0, none⟩), .int .i64 at_] w fun e w' => e = .returned (.tuple #[.slice none 0 0, .int .i64 11]) ∧ DiskAt w' F p s S.refuse ∧ Keeps F w w' := by
  have hb := burnt_at h
  rw [show (S.fuse == 0) = false by simp [hf]] at hb
  obtain ⟨gi, ci, m, D, gr, cr, h⟩ := h
  have hs := h.ok.hi
  have hh := has_low p _ (s * 512) ci at_ w (by omega) (cell_of_block h.blk (j := 0) rfl)
  rw [show s * 512 / 512 = s by omega, show (decide (0 ≤ at_) && decide (at_ < (s : Int))) = false by simp; omega] at hh
  have hr := refuse_low p S.refused 11 w (cell_of_block h.blk (j := 7) rfl) (frozen_of_block h.blk 7)
  have hk : Keeps F w (w.setCell ⟨p, 7, none⟩ (.int .i64 (wrap64 (S.refused + 1)))) := Keeps.setCell w h.fp _
  go_enter Tryz.func80, Tryz.ntmps80
  go_wp2_with (first | (go_at_call 51; refine hb.mono ?_; rintro e w' ⟨rfl, hw⟩; subst hw) | (go_at_call 110; refine hh.mono ?_; rintro e w' ⟨rfl, hw⟩; subst hw) | (go_at_call 111; refine hr.mono ?_; rintro e w' ⟨rfl, rfl⟩))
  go_ret2
  exact ⟨rfl, ⟨gi, ci, m, D, gr, cr, h.refused⟩, hk⟩

set_option maxHeartbeats 1000000 in
theorem read_okm {w : World} {F : Nat → Prop} {p s : Nat} {S : DS} {m : Nat} (h : DiskM w F p s S m) (k : Nat) (hf : S.fuse ≠ 0) (hk : k < s) (hbig : S.puts.length ≤ 140737488355328) :
    Calls Tryz.prog 80 #[.pointer (some ⟨p, 0, none⟩), .int .i64 (k : Int)] w fun e w' => ∃ g c, e = .returned (.tuple #[.slice (some ⟨g, 0, none⟩) 512 c, .int .i64 0]) ∧ w.heap.size ≤ g ∧ RowAt w' 5 g c (bs (S.now k)) ∧
      DiskM w' F p s S.read m ∧ Keeps F w w' := by
  have hb := burnt_at h.at
  rw [show (S.fuse == 0) = false by simp [hf]] at hb
  obtain ⟨gi, ci, D, gr, cr, h⟩ := h
  have hs := h.ok.hi
  have hh := has_low p _ (s * 512) ci k w (by omega) (cell_of_block h.blk (j := 0) rfl)
  rw [show s * 512 / 512 = s by omega, show (decide (0 ≤ (k : Int)) && decide ((k : Int) < (s : Int))) = true by simp; omega] at hh
  have c4 := cell_of_block h.blk (j := 4) rfl
  have f4 := frozen_of_block h.blk 4
  have hd := h.reads
  have hkp : Keeps F w (w.setCell ⟨p, 4, none⟩ (.int .i64 (wrap64 (S.reads + 1)))) := Keeps.setCell w h.fp _
  have hsz : (w.setCell ⟨p, 4, none⟩ (.int .i64 (wrap64 (S.reads + 1)))).heap.size = w.heap.size := by simp [World.setCell]
  have c1 := cell_of_block hd.blk (j := 1) rfl
  obtain ⟨a, c, hrun, hne, hnil⟩ := hd.look hk
  have hcl : (S.read.cand k (pendOf S.puts k).length).length = 512 := DS.cand_len hd.ok hk (Nat.le_refl _)
  go_enter Tryz.func80, Tryz.ntmps80
  go_wp2_with (first | (go_at_call 51; refine hb.mono ?_; rintro e w' ⟨rfl, hw⟩; subst hw) | (go_at_call 110; refine hh.mono ?_; rintro e w' ⟨rfl, hw⟩; subst hw))
  refine (cand_any hd k hk (pendOf S.puts k).length (Nat.le_refl _) hbig).mono ?_
  rintro e w1 ⟨g, o, cg, rfl, hF, hcg, _, hsrc, rfl⟩
  go_wp2_with fail
  refine (clone_low ⟨g, o, none⟩ 512 cg _ _ hcl (by omega) (fun i hi => hsrc.2.2 _ rfl i hi)).mono ?_
  rintro e w2 ⟨g2, c2, rfl, hg2, hr2, hb2⟩
  have hdk := DiskM.keep ⟨gi, ci, D, gr, cr, hd⟩ (Keeps.of_below (fun _ => False) hb2) (fun _ _ h => h)
  rw [hsz] at hg2
  go_wp2
  go_ret2
  exact ⟨g2, c2, rfl, hg2, hr2, hdk, (hkp.trans (Keeps.of_below (fun _ => False) hb2) (fun _ h => h.elim))⟩

theorem read_ok {w : World} {F : Nat → Prop} {p s : Nat} {S : DS} (h : DiskAt w F p s S) (k : Nat) (hf : S.fuse ≠ 0) (hk : k < s) (hbig : S.puts.length ≤ 140737488355328) :
    Calls Tryz.prog 80 #[.pointer (some ⟨p, 0, none⟩), .int .i64 (k : Int)] w fun e w' => ∃ g c, e = .returned (.tuple #[.slice (some ⟨g, 0, none⟩) 512 c, .int .i64 0]) ∧ w.heap.size ≤ g ∧ RowAt w' 5 g c (bs (S.now k)) ∧
      DiskAt w' F p s S.read ∧ Keeps F w w' := by
  obtain ⟨m, h⟩ := h.m
  refine (read_okm h k hf hk hbig).mono ?_
  rintro e w' ⟨g, c, h1, h2, h3, h4, h5⟩
  exact ⟨g, c, h1, h2, h3, h4.at, h5⟩
end Go.Proofs.YtokcgifpljeoiaaGreat
end

section
namespace Go.Proofs.YtokcgifpljeoiaaGreat
open Go.RowKit Go.Maps

def DS.spend (S : DS) : DS := { S with fuse := if 0 < S.fuse then S.fuse - 1 else S.fuse }
def DS.put (S : DS) (k : Nat) (l : List Int) : DS := { S with puts := S.puts ++ [(k, l)] }

theorem pendOf_snoc (puts : List (Nat × List Int)) (k : Nat) (l : List Int) (j : Nat) : pendOf (puts ++ [(k, l)]) j = if j = k then pendOf puts k ++ [l] else pendOf puts j := by
  unfold pendOf
  by_cases h : j = k
  · subst h; simp
  · have : (k == j) = false := by simp; omega
    simp [h, List.filter_append, this]

theorem pendOf_len (puts : List (Nat × List Int)) (k : Nat) : (pendOf puts k).length ≤ puts.length := by unfold pendOf; rw [List.length_map]; exact List.length_filter_le _ _

/-- What the map and the rows tell of one sector, in every world in which they are as they were. -/
theorem DiskRaw.sector {w : World} {F : Nat → Prop} {p s : Nat} {S : DS} {gi ci m : Nat} {D : DataW Value} {gr cr : Nat → Nat} (h : DiskRaw w F p s S gi ci m D gr cr) {k : Nat} (hk : k < s) :
    ∃ a cc xs, (∀ wx : World, wx.heap[m]? = w.heap[m]? → (Instr.lookup 106 (.map (some m)) (.int .i64 (k : Int)) false).run Tryz.prog wx = .ok (.slice a (pendOf S.puts k).length cc) wx) ∧
      (∀ wx : World, (pendOf S.puts k ≠ [] → wx.heap[gr k]? = w.heap[gr k]?) → wx.ownsRow 0 22 1 (.slice a (pendOf S.puts k).length cc) (pendOf S.puts k).length xs) ∧
      Rows' w F gi xs (pendOf S.puts k) ∧ (pendOf S.puts k = [] → a = none ∧ cc = 0) ∧ (pendOf S.puts k ≠ [] → a = some ⟨gr k, 0, none⟩ ∧ cc = cr k) := by
  have hs := h.ok.hi
  have key := keyOf_nat k (by omega)
  by_cases hp : pendOf S.puts k = []
  · refine ⟨none, 0, [], fun wx hx => ?_, fun wx _ => ?_, ?_, fun _ => ⟨rfl, rfl⟩, fun h => absurd hp h⟩
    · obtain ⟨v, ps, hrun, hv⟩ := (ownsMap_agree h.map hx).lookup keyInt Tryz.underlying106 (zeroRows wx) (zd := .held (.slice none 0 0)) (zp := []) rfl key
      rw [Maps.atKey_of_not_has (h.pend.nope k hp)] at hv
      obtain ⟨⟨a, n, c⟩, rfl⟩ := Rs_inv v _ hv
      rw [Rs_mk] at hv
      simp [mkS] at hv
      obtain ⟨⟨rfl, rfl, rfl⟩, _⟩ := hv
      rw [hp]; exact hrun
    · rw [hp]; exact World.ownsRow_nil _ _ _ _
    · rw [hp]; trivial
  · obtain ⟨_, xs, hrow, hrows⟩ := h.pend.row k hp
    refine ⟨some ⟨gr k, 0, none⟩, cr k, xs, fun wx hx => ?_, fun wx hx => ?_, hrows, fun h => absurd h hp, fun _ => ⟨rfl, rfl⟩⟩
    · obtain ⟨v, ps, hrun, hv⟩ := (ownsMap_agree h.map hx).lookup keyInt Tryz.underlying106 (zeroRows wx) (zd := .held (.slice none 0 0)) (zp := []) rfl key
      rw [h.pend.look k hp] at hv
      obtain ⟨⟨a, n, c⟩, rfl⟩ := Rs_inv v _ hv
      rw [Rs_mk] at hv
      simp [mkS] at hv
      obtain ⟨⟨rfl, rfl, rfl⟩, _⟩ := hv
      exact hrun
    · have := (hrow.agree (hx hp)).owns
      rw [hrows.length] at this
      exact this

theorem DiskRaw.wrote {w w3 : World} {F : Nat → Prop} {p s : Nat} {S : DS} {gi ci m : Nat} {D : DataW Value} {gr cr : Nat → Nat} (h : DiskRaw w F p s S gi ci m D gr cr) {k : Nat} (hk : k < s) {l : List Int} (hl : l.length = 512) {xs : List Value}
    (hrows : Rows' w F gi xs (pendOf S.puts k)) {g cg g2 cap2 : Nat} (hke : Keeps (fun b => b = m ∨ (pendOf S.puts k ≠ [] ∧ b = gr k)) w w3) (hg : w.heap.size ≤ g) (hr : RowAt w3 5 g cg (bs l))
    (hown : w3.ownsRow 0 22 1 (.slice (some ⟨g2, 0, none⟩) ((pendOf S.puts k).length + 1) cap2) ((pendOf S.puts k).length + 1) (xs ++ [.slice (some ⟨g, 0, none⟩) 512 cg]))
    (hg2 : (pendOf S.puts k ≠ [] ∧ g2 = gr k) ∨ w.heap.size ≤ g2) (hmap : w3.ownsMap Tryz.prog 3 Rs m (S.puts.length + 1) (D.put (kk k) (.held (.slice (some ⟨g2, 0, none⟩) ((pendOf S.puts k).length + 1) cap2)))) :
    DiskRaw w3 (more F w w3) p s (S.put k l) gi ci m (D.put (kk k) (.held (.slice (some ⟨g2, 0, none⟩) ((pendOf S.puts k).length + 1) cap2))) (fun j => if j = k then g2 else gr j) (fun j => if j = k then cap2 else cr j) := by
  obtain ⟨g2', c2', hv, _, hr2, hlen⟩ := RowAt.of_owns hown (by simp)
  cases hv
  have hkey : WideAt.IsKeyLit (kk k) := trivial
  have rowne : ∀ b, pendOf S.puts k ≠ [] → b = gr k → ∃ cur, w.heap[b]? = some (.cells cur 22 (0, 0)) := fun b hp e => by
    obtain ⟨_, ys, ⟨cur, hb, _⟩, _⟩ := h.pend.row k hp
    exact ⟨cur, by rw [e]; exact hb⟩
  have stay : ∀ (b : Nat) (cur : Array Value) (e : TypeId), w.heap[b]? = some (Obj.cells cur e (0, 0)) → e ≠ 22 → w3.heap[b]? = w.heap[b]? := fun b cur e hb he => by
    refine hke.block b ((Array.getElem?_eq_some_iff.1 hb).1) (fun hn => ?_)
    rcases hn with hn | ⟨hp, hn⟩
    · exact ownsMap_ne h.map (hn ▸ hb) rfl
    · obtain ⟨cur', hb'⟩ := rowne b hp hn
      rw [hb] at hb'
      simp at hb'
      exact he hb'.2
  have stay5 : ∀ b c ys, RowAt w 5 b c ys → RowAt w3 5 b c ys := fun b c ys hb => by
    have hb' := hb
    obtain ⟨cur, hb1, _⟩ := hb'
    exact hb.agree (stay b cur _ hb1 (by decide))
  have hFm : ∀ b, F b → more F w w3 b := fun b hb => .inl hb
  refine ⟨.inl h.fp, .inl h.fgi, .inl h.fm, fun b hb => ?_, ?_, stay5 _ _ _ h.img, by simpa [DS.put] using hmap, ⟨?_, ?_, ?_, ?_, ?_⟩, ⟨h.ok.len, h.ok.lo, h.ok.hi, fun q hq => ?_, h.ok.fuse⟩⟩
  · rcases hb with hb | hb
    · exact Nat.lt_of_lt_of_le (h.lt b hb) hke.size
    · exact hb.2
  · rw [stay p _ _ h.blk (by decide)]; exact h.blk
  · intro kl hkl
    by_cases he : kl = kk k
    · exact ⟨k, he, by rw [DS.put, pendOf_snoc, if_pos rfl]; simp⟩
    · rw [Maps.has_put_other he] at hkl
      obtain ⟨j, rfl, hj⟩ := h.pend.keys kl hkl
      exact ⟨j, rfl, by rw [DS.put, pendOf_snoc]; split; simp; exact hj⟩
  · intro j hj
    rw [DS.put, pendOf_snoc] at hj
    split at hj
    · simp at hj
    · rename_i hne
      rw [Maps.has_put_other (by simp [kk]; omega)]
      exact h.pend.nope j hj
  · intro j hj z
    rw [DS.put, pendOf_snoc] at hj ⊢
    by_cases he : j = k
    · subst he
      simp only [if_true]
      rw [Maps.atKey_put_same h.map.isMap hkey]
      simp
    · simp only [he, if_false] at hj ⊢
      rw [Maps.atKey_put_other (by simp [kk]; omega)]
      exact h.pend.look j hj z
  · intro j hj
    rw [DS.put, pendOf_snoc] at hj ⊢
    by_cases he : j = k
    · subst he
      simp only [if_true]
      refine ⟨?_, _, hr2, ?_⟩
      · rcases hg2 with ⟨hp, e⟩ | hg2
        · rw [e]; exact .inl (h.pend.row j hp).1
        · exact .inr ⟨hg2, hr2.lt⟩
      · refine Rows'.snoc ⟨g, cg, rfl, .inr ⟨hg, hr.lt⟩, ?_, hr⟩ ((hrows.carry (fun b c ys _ _ hb => stay5 b c ys hb)).mono hFm)
        intro e
        have := h.lt gi h.fgi
        omega
    · simp only [he, if_false] at hj ⊢
      obtain ⟨hF, ys, hry, hrs⟩ := h.pend.row j hj
      refine ⟨.inl hF, ys, hry.agree (hke.block _ hry.lt (fun hn => ?_)), (hrs.carry (fun b c ys _ _ hb => stay5 b c ys hb)).mono hFm⟩
      rcases hn with hn | ⟨hp, hn⟩
      · obtain ⟨cur, hb, _⟩ := hry
        exact ownsMap_ne h.map (hn ▸ hb) rfl
      · exact he (h.pend.inj j k hj hp hn)
  · intro j j' hj hj' e
    rw [DS.put, pendOf_snoc] at hj hj'
    by_cases h1 : j = k <;> by_cases h2 : j' = k
    · omega
    · subst h1
      simp only [if_true, h2, if_false] at e hj'
      rcases hg2 with ⟨hp, e2⟩ | hg2
      · exact (h.pend.inj j j' hp hj' (by omega))
      · have := h.lt _ (h.pend.row j' hj').1
        omega
    · subst h2
      simp only [if_true, h1, if_false] at e hj
      rcases hg2 with ⟨hp, e2⟩ | hg2
      · exact (h.pend.inj j j' hj hp (by omega))
      · have := h.lt _ (h.pend.row j hj).1
        omega
    · simp only [h1, h2, if_false] at e hj hj'
      exact h.pend.inj j j' hj hj' e
  · simp only [DS.put, List.mem_append, List.mem_singleton] at hq
    rcases hq with hq | rfl
    · exact h.ok.puts q hq
    · exact ⟨hk, hl⟩

theorem write_end {w w1 w2 : World} {F : Nat → Prop} {p s : Nat} {S : DS} {gi ci m : Nat} {D : DataW Value} {gr cr : Nat → Nat} (h : DiskRaw w F p s S gi ci m D gr cr) {k : Nat} (hk : k < s) {l : List Int} (hl : l.length = 512) {xs : List Value}
    {a : Option Addr} {cc : Nat} (hrows : Rows' w F gi xs (pendOf S.puts k)) (hnil : pendOf S.puts k = [] → a = none ∧ cc = 0) (hsome : pendOf S.puts k ≠ [] → a = some ⟨gr k, 0, none⟩ ∧ cc = cr k) {g cg g2 cap2 : Nat} {o : Obj}
    (hb1 : Below w.heap.size w w1) (hg : w.heap.size ≤ g) (hr : RowAt w1 5 g cg (bs l))
    (hown : w2.ownsRow 0 22 1 (.slice (some ⟨g2, 0, none⟩) ((pendOf S.puts k).length + 1) cap2) ((pendOf S.puts k).length + 1) (xs ++ [.slice (some ⟨g, 0, none⟩) 512 cg]))
    (hgrow : (w1.alloc o).grownBy w2 (Value.slice a (pendOf S.puts k).length cc).ownBlock) (hat : (Value.slice a (pendOf S.puts k).length cc).ownBlock = some g2 ∨ g2 = w1.heap.size + 1) (hbig : S.puts.length + 1 ≤ 5000000000000) :
    w2.heap[p]? = w.heap[p]? ∧ w2.heap[m]? = w.heap[m]? ∧ ∃ w3, (Instr.mapUpdate 106 (.map (some m)) (.int .i64 (k : Int)) (.slice (some ⟨g2, 0, none⟩) ((pendOf S.puts k).length + 1) cap2)).run Tryz.prog w2 = .ok () w3 ∧
      DiskRaw w3 (more F w w3) p s (S.put k l) gi ci m (D.put (kk k) (.held (.slice (some ⟨g2, 0, none⟩) ((pendOf S.puts k).length + 1) cap2))) (fun j => if j = k then g2 else gr j) (fun j => if j = k then cap2 else cr j) ∧ Keeps F w w3 ∧ w3.heap[p]? = w.heap[p]? := by
  have hs := h.ok.hi
  have hb2 := hb1.alloc hb1.size o
  have hown' : ∀ b, some b = (Value.slice a (pendOf S.puts k).length cc).ownBlock → pendOf S.puts k ≠ [] ∧ b = gr k := fun b e => by
    by_cases hp : pendOf S.puts k = []
    · rw [(hnil hp).1] at e; simp [Value.ownBlock] at e
    · rw [(hsome hp).1] at e
      simp [Value.ownBlock] at e
      exact ⟨hp, e⟩
  have stay : ∀ b, b < w.heap.size → ¬ (pendOf S.puts k ≠ [] ∧ b = gr k) → w2.heap[b]? = w.heap[b]? := fun b hb hn =>
    (hgrow.block b (Nat.lt_of_lt_of_le hb hb2.size) (fun e => hn (hown' b e))).trans (hb2.block b hb)
  have hrow : ∀ b, pendOf S.puts k ≠ [] ∧ b = gr k → ∃ cur, w.heap[b]? = some (.cells cur 22 (0, 0)) := fun b hp => by
    obtain ⟨_, ys, ⟨cur, hb, _⟩, _⟩ := h.pend.row k hp.1
    exact ⟨cur, by rw [hp.2]; exact hb⟩
  have hp2 := stay p (h.lt p h.fp) (fun hn => by
    obtain ⟨cur, hb⟩ := hrow p hn
    rw [h.blk] at hb
    simp at hb)
  have hm2 := stay m (h.lt m h.fm) (fun hn => by
    obtain ⟨cur, hb⟩ := hrow m hn
    exact ownsMap_ne h.map hb rfl)
  obtain ⟨w3, hrun, hmap, hg3⟩ := (ownsMap_agree h.map hm2).update keyInt Tryz.underlying106 (by unfold maxLen; omega) (keyOf_nat k (by omega)) (show Rs (.slice (some ⟨g2, 0, none⟩) ((pendOf S.puts k).length + 1) cap2) = some (.held _, []) from rfl)
  have hml := h.lt m h.fm
  have hgl := hr.lt
  have hsz1 := hb1.size
  have hszs : (w1.alloc o).heap.size = w1.heap.size + 1 := by simp
  have hsz2 := hgrow.size
  have hsz3 := hg3.size
  have hgm : g ≠ m := by omega
  obtain ⟨g2', c2', hv, _, hr2, _⟩ := RowAt.of_owns hown (by simp)
  cases hv
  have hg2m : g2 ≠ m := fun e => by
    obtain ⟨cur, hb, _⟩ := hr2
    rw [e] at hb
    exact ownsMap_ne (ownsMap_agree h.map hm2) hb rfl
  have hr3 : RowAt w3 5 g cg (bs l) := by
    refine (hr.agree ?_)
    rw [hg3.block g (by omega) (by simpa using hgm), hgrow.block g (by omega) (fun e => ?_), Below.heap_alloc _ _ _ hgl]
    have := hown' g e
    have := h.lt _ (h.pend.row k this.1).1
    omega
  have hke : Keeps (fun b => b = m ∨ (pendOf S.puts k ≠ [] ∧ b = gr k)) w w3 :=
    ⟨hg3.os.trans (hgrow.os.trans hb2.os), hg3.tape.trans (hgrow.tape.trans hb2.tape), hg3.output.trans (hgrow.output.trans hb2.output), by omega, fun b hb hn =>
      (hg3.block b (by omega) (fun e => hn (.inl (by simpa using e)))).trans (stay b hb (fun hx => hn (.inr hx)))⟩
  refine ⟨hp2, hm2, w3, hrun, h.wrote hk hl hrows hke hg hr3 (hown.kept hg3 (.inr (by simpa [Value.ownBlock] using hg2m))) ?_ hmap, hke.mono (fun b hb => ?_), (hg3.block p (by have := h.lt p h.fp; omega) (fun e => ownsMap_ne h.map h.blk (by simpa using e.symm))).trans hp2⟩
  · rcases hat with e | e
    · exact .inl (hown' g2 e.symm)
    · exact .inr (by omega)
  · rcases hb with rfl | ⟨hp, rfl⟩
    · exact h.fm
    · exact (h.pend.row k hp).1

theorem DiskRaw.wrotes {w : World} {F : Nat → Prop} {p s : Nat} {S : DS} {gi ci m : Nat} {D : DataW Value} {gr cr : Nat → Nat} (h : DiskRaw w F p s S gi ci m D gr cr) :
    DiskRaw (w.setCell ⟨p, 5, none⟩ (.int .i64 (wrap64 (S.writes + 1)))) F p s { S with writes := wrap64 (S.writes + 1) } gi ci m D gr cr :=
  h.turn (h.set 5 _).2 ((h.set 5 _).1.trans (by simp [dkCells])) rfl rfl h.ok.fuse
theorem DiskRaw.spends {w : World} {F : Nat → Prop} {p s : Nat} {S : DS} {gi ci m : Nat} {D : DataW Value} {gr cr : Nat → Nat} (h : DiskRaw w F p s S gi ci m D gr cr) :
    DiskRaw (if 0 < S.fuse then w.setCell ⟨p, 2, none⟩ (.int .i64 (wrap64 (S.fuse - 1))) else w) F p s S.spend gi ci m D gr cr ∧ Keeps F w (if 0 < S.fuse then w.setCell ⟨p, 2, none⟩ (.int .i64 (wrap64 (S.fuse - 1))) else w) := by
  have hl := h.ok.fuse
  by_cases hp : 0 < S.fuse
  · rw [if_pos hp]
    have e : wrap64 (S.fuse - 1) = S.fuse - 1 := by unfold wrap64; omega
    refine ⟨h.turn (h.set 2 _).2 ((h.set 2 _).1.trans ?_) rfl rfl ?_, Keeps.setCell w h.fp _⟩
    · rw [e]
      simp [dkCells, DS.spend, hp]
    · simp only [DS.spend, if_pos hp]; omega
  · rw [if_neg hp]
    have e : S.spend = S := by simp [DS.spend, hp]
    rw [e]
    exact ⟨h, Keeps.refl _ _⟩

end Go.Proofs.YtokcgifpljeoiaaGreat
end

section
namespace Go.Proofs.YtokcgifpljeoiaaGreat
open Go.RowKit Go.Maps

def DS.wrote (S : DS) : DS := { S with writes := wrap64 (S.writes + 1) }

theorem more_mono {F : Nat → Prop} {w w' w'' : World} (h : w'.heap.size ≤ w''.heap.size) : ∀ k, more F w w' k → more F w w'' k := fun k hk => by
  rcases hk with hk | hk
  · exact .inl hk
  · exact .inr ⟨hk.1, by omega⟩

/-- The two stores at a Write's end (and at a Flush's). -/
theorem spend_fin {w w4 : World} {F : Nat → Prop} {p s : Nat} {S : DS} {gi ci m : Nat} {D : DataW Value} {gr cr : Nat → Nat} (hF : F p) (h : DiskRaw w4 (more F w w4) p s S gi ci m D gr cr) (hk : Keeps F w w4) :
    DiskM (if 0 < S.fuse then w4.setCell ⟨p, 2, none⟩ (.int .i64 (wrap64 (S.fuse - 1))) else w4) (more F w (if 0 < S.fuse then w4.setCell ⟨p, 2, none⟩ (.int .i64 (wrap64 (S.fuse - 1))) else w4)) p s S.spend m ∧
      Keeps F w (if 0 < S.fuse then w4.setCell ⟨p, 2, none⟩ (.int .i64 (wrap64 (S.fuse - 1))) else w4) := by
  obtain ⟨h1, _⟩ := h.spends
  have hsz : (if 0 < S.fuse then w4.setCell ⟨p, 2, none⟩ (.int .i64 (wrap64 (S.fuse - 1))) else w4).heap.size = w4.heap.size := by split <;> simp [World.setCell]
  have hk2 : Keeps (fun k => k = p) w4 (if 0 < S.fuse then w4.setCell ⟨p, 2, none⟩ (.int .i64 (wrap64 (S.fuse - 1))) else w4) := by
    split
    · exact Keeps.setCell (F := fun k => k = p) w4 (p := ⟨p, 2, none⟩) rfl _
    · exact Keeps.refl _ _
  refine ⟨DiskM.mono ⟨gi, ci, D, gr, cr, h1⟩ (more_mono (Nat.le_of_eq hsz.symm)) (fun k hk' => ?_), hk.trans hk2 (fun j hj => .inl (hj ▸ hF))⟩
  rw [hsz]
  rcases hk' with h' | h'
  · exact h.lt k (.inl h')
  · rw [hsz] at h'; exact h'.2

set_option maxHeartbeats 4000000 in
set_option maxRecDepth 100000 in
theorem write_okm {w : World} {F : Nat → Prop} {p s : Nat} {S : DS} {m : Nat} (hd : DiskM w F p s S m) (k : Nat) (hk : k < s) (hf : S.fuse ≠ 0) (hbig : S.puts.length + 1 ≤ 5000000000000)
    (x : Addr) (c : Nat) (l : List Int) (hsrc : Src w (some x) 512 l) :
    Calls Tryz.prog 78 #[.pointer (some ⟨p, 0, none⟩), .int .i64 (k : Int), .slice (some x) 512 c] w fun e w' => e = .returned (.int .i64 0) ∧ DiskM w' (more F w w') p s ((S.put k l).wrote.spend) m ∧ Keeps F w w' := by
  have hb := burnt_at hd.at
  rw [show (S.fuse == 0) = false by simp [hf]] at hb
  obtain ⟨gi, ci, D, gr, cr, h⟩ := hd
  have hs := h.ok.hi
  have hh := has_low p _ (s * 512) ci k w (by omega) (cell_of_block h.blk (j := 0) rfl)
  rw [show s * 512 / 512 = s by omega, show (decide (0 ≤ (k : Int)) && decide ((k : Int) < (s : Int))) = true by simp; omega] at hh
  obtain ⟨a, cc, xs, hlook, howns, hrows, hnil, hsome⟩ := h.sector hk
  obtain ⟨i0, hi0, hz0, hz1, hz2⟩ := info_parts infoRow
  have hpl := h.lt p h.fp
  have hml := h.lt m h.fm
  have hpn := pendOf_len S.puts k
  have hcell : ∀ wx : World, wx.heap[p]? = w.heap[p]? → wx.cell? ⟨p, 1, none⟩ = some (.map (some m)) := fun wx e => cell_of_block (e.trans h.blk) (j := 1) rfl
  have hll := hsrc.1
  have hl0 := hlook w.drew rfl
  go_enter Tryz.func78, Tryz.ntmps78
  go_wp2_with (first | (go_at_call 51; refine hb.mono ?_; rintro e w' ⟨rfl, hw⟩; have hw' := hw.symm; subst hw') | (go_at_call 110; refine hh.mono ?_; rintro e w' ⟨rfl, hw⟩; have hw' := hw.symm; subst hw'))
  go_region_held3 (fun w' => w'.cell? ⟨p, 1, none⟩ = some (.map (some m)))
    ((refine hcell _ ?_; first | rfl | assumption | (refine (Below.heap_alloc _ _ _ (Nat.lt_of_lt_of_le ?_ hb1.size)).trans ?_ <;> assumption)))
    (first
      | (go_at_call 42; refine (clone_low x 512 c l w.drew hll (by omega) (fun i hi => hsrc.2.2 _ rfl i hi)).mono ?_; rintro e w1 ⟨g, cg, rfl, hg, hr, hb0⟩; have hb1 : Below w.heap.size w w1 := ⟨hb0.os, hb0.tape, hb0.output, hb0.size, hb0.block⟩; clear hb0; have hp1 : w1.heap[p]? = w.heap[p]? := hb1.block p hpl; have hm1 : w1.heap[m]? = w.heap[m]? := hb1.block m hml; have hl1 := hlook w1 hm1; have hl2 := fun o => hlook (w1.alloc o) ((Below.heap_alloc w1 o m (Nat.lt_of_lt_of_le hml hb1.size)).trans hm1))
      | (refine step_append_lies _ (by rfl) _ _ _ (by rfl) 0 22 i0 _ 1 24 Tryz.underlying33 hi0 hz0 hz1 hz2 rfl (by omega) (.slice a (pendOf S.puts k).length cc) (pendOf S.puts k).length xs (by rfl) (howns _ (fun hp => (Below.heap_alloc w1 _ _ (Nat.lt_of_lt_of_le (h.lt _ (h.pend.row k hp).1) hb1.size)).trans (hb1.block _ (h.lt _ (h.pend.row k hp).1))))
          ⟨w1.heap.size, 0, none⟩ 1 1 [.slice (some ⟨g, 0, none⟩) 512 cg] (by rfl) (by rfl) (World.news_of_block (cs := #[.slice (some ⟨g, 0, none⟩) 512 cg]) (t := 22) (fr := (0, 0)) (heap_alloc_new w1 _)) (by simp [Value.oneCell']) (by omega) (by unfold maxLen; omega) (by omega) (Nat.zero_le _) (w1.heap.size + 1) (by simp) ?_; intro g2 cap2 w2 hown2 hgrow2 hat2 hlt2; obtain ⟨hp2, hm2, w3, hrun3, hd3, hk3, hp3⟩ := write_end h hk hll hrows hnil hsome hb1 hg hr hown2 hgrow2 hat2 hbig))
  all_goals
    have HFp := h.fp
    have c5 := cell_of_block hd3.blk (j := 5) rfl
    have f5 := frozen_of_block hd3.blk 5
    have hd4 := hd3.wrotes
    have hk4 : Keeps F w (w3.setCell ⟨p, 5, none⟩ (.int .i64 (wrap64 ((S.put k l).writes + 1)))) := hk3.trans (Keeps.setCell (F := fun k => k = p) w3 (p := ⟨p, 5, none⟩) rfl _) (fun j hj => .inl (hj ▸ HFp))
    have hsp := spend_low p (S.put k l).fuse _ (cell_of_block hd4.blk (j := 2) rfl) (frozen_of_block hd4.blk 2) hd4.ok.fuse.1
    have hsz : (w3.setCell ⟨p, 5, none⟩ (.int .i64 (wrap64 ((S.put k l).writes + 1)))).heap.size = w3.heap.size := by simp [World.setCell]
    have he : more F w (w3.setCell ⟨p, 5, none⟩ (.int .i64 (wrap64 ((S.put k l).writes + 1)))) = more F w w3 := by unfold more; rw [hsz]
    rw [← he] at hd4
    have hs2 : Calls Tryz.prog 112 #[.pointer (some ⟨p, 0, none⟩)] (w3.setCell ⟨p, 5, none⟩ (.int .i64 (wrap64 ((S.put k l).writes + 1)))) fun e w' => e = .returned (.tuple #[]) ∧ DiskM w' (more F w w') p s ((S.put k l).wrote.spend) m ∧ Keeps F w w' :=
      hsp.mono (by rintro e w' ⟨rfl, rfl⟩; exact ⟨rfl, spend_fin HFp hd4 hk4⟩)
    go_wp2_with (go_at_call 112; refine hs2.mono ?_; rintro e w5 ⟨rfl, hd5, hk5⟩)
    go_ret
    exact ⟨rfl, hd5, hk5⟩

theorem write_ok {w : World} {F : Nat → Prop} {p s : Nat} {S : DS} (hd : DiskAt w F p s S) (k : Nat) (hk : k < s) (hf : S.fuse ≠ 0) (hbig : S.puts.length + 1 ≤ 5000000000000)
    (x : Addr) (c : Nat) (l : List Int) (hsrc : Src w (some x) 512 l) :
    Calls Tryz.prog 78 #[.pointer (some ⟨p, 0, none⟩), .int .i64 (k : Int), .slice (some x) 512 c] w fun e w' => e = .returned (.int .i64 0) ∧ DiskAt w' (more F w w') p s ((S.put k l).wrote.spend) ∧ Keeps F w w' := by
  obtain ⟨m, hd⟩ := hd.m
  refine (write_okm hd k hk hf hbig x c l hsrc).mono ?_
  rintro e w' ⟨h1, h2, h3⟩
  exact ⟨h1, h2.at, h3⟩
end Go.Proofs.YtokcgifpljeoiaaGreat
end

section
namespace Go.Proofs.YtokcgifpljeoiaaGreat
open Go.RowKit Go.Maps

/-- An image out of its sectors. -/
def imOf (s : Nat) (f : Nat → List Int) : List Int := (List.range s).flatMap f

theorem imOf_succ (s : Nat) (f : Nat → List Int) : imOf (s + 1) f = imOf s f ++ f s := by simp [imOf, List.range_succ]

theorem imOf_len (s : Nat) (f : Nat → List Int) (h : ∀ k, k < s → (f k).length = 512) : (imOf s f).length = s * 512 := by
  induction s with
  | zero => simp [imOf]
  | succ s ih => rw [imOf_succ, List.length_append, ih (fun k hk => h k (by omega)), h s (by omega)]; omega

theorem dsec_len {im : List Int} {s k : Nat} (h : im.length = s * 512) (hk : k < s) : (dsec im k).length = 512 := by simp [dsec]; omega

theorem sec_app_left (a b : List Int) {s k : Nat} (ha : a.length = s * 512) (hk : k < s) : dsec (a ++ b) k = dsec a k := by
  unfold dsec
  rw [List.drop_append_of_le_length (by omega), List.take_append_of_le_length (by simp; omega)]

theorem sec_app_right (a b : List Int) {s : Nat} (ha : a.length = s * 512) (hb : b.length = 512) : dsec (a ++ b) s = b := by
  unfold dsec
  rw [← ha, List.drop_left, List.take_of_length_le (by omega)]

theorem sec_imOf (s : Nat) (f : Nat → List Int) (h : ∀ k, k < s → (f k).length = 512) (k : Nat) (hk : k < s) : dsec (imOf s f) k = f k := by
  induction s with
  | zero => omega
  | succ s ih =>
    have hl := imOf_len s f (fun k hk => h k (by omega))
    rw [imOf_succ]
    by_cases e : k = s
    · subst e
      exact sec_app_right _ _ hl (h k (by omega))
    · rw [sec_app_left _ _ hl (by omega)]
      exact ih (fun k hk => h k (by omega)) (by omega)

/-- Two images with the same sectors are one. -/
theorem im_ext : ∀ (s : Nat) {a b : List Int}, a.length = s * 512 → b.length = s * 512 → (∀ k, k < s → dsec a k = dsec b k) → a = b
  | 0, a, b, ha, hb, _ => by
    rw [List.eq_nil_of_length_eq_zero (by omega : a.length = 0), List.eq_nil_of_length_eq_zero (by omega : b.length = 0)]
  | s + 1, a, b, ha, hb, h => by
    have h0 := h 0 (by omega)
    simp [dsec] at h0
    have ih := im_ext s (a := a.drop 512) (b := b.drop 512) (by simp; omega) (by simp; omega) (fun k hk => by
      have := h (k + 1) (by omega)
      simp only [dsec, List.drop_drop] at this ⊢
      rw [show 512 + k * 512 = (k + 1) * 512 by omega]
      exact this)
    rw [← List.take_append_drop 512 a, ← List.take_append_drop 512 b, h0, ih]

theorem splice_len {α : Type} (L : List α) (o : Nat) (cs : List α) (h : o + cs.length ≤ L.length) : (splice L o cs).length = L.length := by simp [splice]; omega

theorem bs_splice (im l : List Int) (o : Nat) : splice (bs im) o (bs l) = bs (splice im o l) := by simp [splice, bs]

theorem getElem_splice (L : List Int) (o : Nat) (cs : List Int) (h : o + cs.length ≤ L.length) (i : Nat) : (splice L o cs)[i]? = if o ≤ i ∧ i < o + cs.length then cs[i - o]? else L[i]? := by
  unfold splice
  by_cases h1 : i < o
  · rw [List.getElem?_append_left (by simp; omega), List.getElem?_take, if_pos h1, if_neg (by omega)]
  · rw [List.getElem?_append_right (by simp; omega)]
    have e : (L.take o).length = o := by simp; omega
    rw [e]
    by_cases h2 : i < o + cs.length
    · rw [List.getElem?_append_left (by omega), if_pos ⟨by omega, h2⟩]
    · rw [List.getElem?_append_right (by omega), List.getElem?_drop, if_neg (by omega)]
      congr 1
      omega

theorem getElem_sec (im : List Int) (k i : Nat) : (dsec im k)[i]? = if i < 512 then im[k * 512 + i]? else none := by
  unfold dsec
  rw [List.getElem?_take]
  split
  · rw [List.getElem?_drop]
  · rfl

/-- One sector written anew. -/
theorem sec_splice {im l : List Int} {s k j : Nat} (him : im.length = s * 512) (hl : l.length = 512) (hk : k < s) : dsec (splice im (k * 512) l) j = if j = k then l else dsec im j := by
  apply List.ext_getElem?
  intro i
  rw [getElem_sec]
  by_cases hi : i < 512
  · rw [if_pos hi, getElem_splice _ _ _ (by omega)]
    by_cases e : j = k
    · subst e
      rw [if_pos (by omega), if_pos rfl]
      congr 1
      omega
    · rw [if_neg (by omega), if_neg e, getElem_sec, if_pos hi]
  · rw [if_neg hi]
    split
    · rw [List.getElem?_eq_none (by omega)]
    · rw [getElem_sec, if_neg hi]

theorem take_splice {α : Type} (L : List α) (o n : Nat) (cs : List α) (h : o + cs.length ≤ n) (hn : n ≤ L.length) : (splice L o cs).take n = splice (L.take n) o cs := by
  have e1 : (L.take o).length = o := by rw [List.length_take]; omega
  unfold splice
  rw [List.take_append, List.take_append, e1, List.take_of_length_le (l := L.take o) (by omega), List.take_of_length_le (l := cs) (by omega), List.drop_take, List.take_take, Nat.min_eq_left (by omega : o ≤ n), Nat.sub_sub]

/-- copy of bytes into a row. -/
theorem RowAt.copied {w : World} {g c : Nat} {im : List Int} (h : RowAt w 5 g c (bs im)) (ty : TypeId) (dp : Option Addr) (off dLen dCap : Nat) (a : Option Addr) (sLen sCap : Nat) (l : List Int) (hs : Src w a sLen l)
    (hd : 0 < dLen → dp = some ⟨g, off, none⟩) (hfit : off + dLen ≤ im.length) :
    ∃ w2, (Builtin.copy_ #[22, 22] ty #[.slice dp dLen dCap, .slice a sLen sCap]).run Tryz.prog w = .ok (goInt (Nat.min sLen dLen)) w2 ∧
      RowAt w2 5 g c (bs (splice im off (l.take dLen))) ∧ Keeps (fun k => k = g) w w2 ∧ w2.heap.size = w.heap.size := by
  have hle := h.le
  obtain ⟨cur, hb, hc, ht, hm⟩ := h
  have hlen : (bs im).length = im.length := by simp [bs]
  rw [hlen] at hle ht
  obtain ⟨w2, hrun, hh, hk, hsz⟩ := copy_run w ty dp g off dLen dCap a sLen sCap cur.toList l (by simpa using hb) hs hd (by simp; omega)
  have hl2 : (bs (l.take dLen)).length ≤ dLen := by simp [bs]; omega
  have hlb : (bs (l.take dLen)).length = (l.take dLen).length := by simp [bs]
  refine ⟨w2, hrun, ⟨_, hh, ?_, ?_, hm⟩, hk, hsz⟩
  · rw [List.size_toArray, splice_len _ _ _ (by simp only [Array.length_toList]; omega)]
    simpa using hc
  · have e : (bs (splice im off (l.take dLen))).length = im.length := by
      rw [← bs_splice, splice_len _ _ _ (by rw [hlen]; omega), hlen]
    rw [e, List.toList_toArray, take_splice _ _ _ _ (by omega) (by simp; omega), ht, bs_splice]

end Go.Proofs.YtokcgifpljeoiaaGreat
end

section
namespace Go.Proofs.YtokcgifpljeoiaaGreat
open Go.RowKit Go.Maps
open Go.ChangeMaps (setBlock heap_setBlock_same heap_setBlock_other)

theorem clear_run {w : World} {m n : Nat} {D : DataW Value} (h : w.ownsMap Tryz.prog 3 Rs m n D) :
    ∃ w', (∀ ty, (Builtin.clear_ #[106] ty #[.map (some m)]).run Tryz.prog w = .ok (.tuple #[]) w') ∧ w'.ownsMap Tryz.prog 3 Rs m 0 (.map []) ∧ Keeps (fun k => k = m) w w' ∧ w'.heap.size = w.heap.size := by
  obtain ⟨es, clock, hb, F, _, _⟩ := h
  refine ⟨setBlock w m (.map #[] clock), ?_, ⟨#[], clock, heap_setBlock_same hb _, ⟨by simp, ?_, by simp⟩, by simp, by simp⟩, ⟨rfl, rfl, rfl, by simp [setBlock], fun k _ hk => heap_setBlock_other hb _ hk⟩, by simp [setBlock]⟩
  · intro ty
    simp [Builtin.clear_, go_sem, MapKept.run_getObj_map hb, MapKept.run_setObj_map _ hb, setBlock]
  · exact MapKept.stamped_empty _
theorem DiskRaw.cleared {w w' : World} {F : Nat → Prop} {p s : Nat} {S : DS} {gi ci m : Nat} {D : DataW Value} {gr cr : Nat → Nat} (h : DiskRaw w F p s S gi ci m D gr cr) (hm : w'.ownsMap Tryz.prog 3 Rs m 0 (.map [])) (hk : Keeps (fun k => k = m) w w') :
    DiskRaw w' F p s { S with puts := [] } gi ci m (.map []) gr cr := by
  have hne : ∀ (b : Nat) (cur : Array Value) (e : TypeId) (fz : Nat × Nat), w.heap[b]? = some (Obj.cells cur e fz) → w'.heap[b]? = w.heap[b]? := fun b cur e fz hb =>
    hk.block b (Array.getElem?_eq_some_iff.1 hb).1 (fun e1 => ownsMap_ne h.map (e1 ▸ hb) rfl)
  refine ⟨h.fp, h.fgi, h.fm, fun k hf => Nat.lt_of_lt_of_le (h.lt k hf) hk.size, (hne p _ _ _ h.blk).trans h.blk, ?_, hm, PendAt.empty _ _ _ _ _, ⟨h.ok.len, h.ok.lo, h.ok.hi, by simp, h.ok.fuse⟩⟩
  obtain ⟨cur, hb, _⟩ := h.img
  exact h.img.agree (hne gi _ _ _ hb)

theorem DiskRaw.agree {w w' : World} {F : Nat → Prop} {p s : Nat} {S : DS} {gi ci m : Nat} {D : DataW Value} {gr cr : Nat → Nat} (h : DiskRaw w F p s S gi ci m D gr cr) (hs : w.heap.size ≤ w'.heap.size) (hb : ∀ k, F k → w'.heap[k]? = w.heap[k]?) :
    DiskRaw w' F p s S gi ci m D gr cr :=
  ⟨h.fp, h.fgi, h.fm, fun k hk => Nat.lt_of_lt_of_le (h.lt k hk) hs, (hb p h.fp).trans h.blk, h.img.agree (hb gi h.fgi), ownsMap_agree h.map (hb m h.fm), h.pend.agree hb, h.ok⟩

theorem DiskRaw.flushed {w : World} {F : Nat → Prop} {p s : Nat} {S : DS} {gi ci m : Nat} {D : DataW Value} {gr cr : Nat → Nat} (h : DiskRaw w F p s S gi ci m D gr cr) :
    DiskRaw (w.setCell ⟨p, 6, none⟩ (.int .i64 (wrap64 (S.flushes + 1)))) F p s { S with flushes := wrap64 (S.flushes + 1) } gi ci m D gr cr :=
  h.turn (h.set 6 _).2 ((h.set 6 _).1.trans (by simp [dkCells])) rfl rfl h.ok.fuse

/-- Where the image's bytes alone have turned. -/
theorem DiskRaw.imaged {w w' : World} {F : Nat → Prop} {p s : Nat} {S : DS} {gi ci m : Nat} {D : DataW Value} {gr cr : Nat → Nat} (h : DiskRaw w F p s S gi ci m D gr cr) {im : List Int} (hr : RowAt w' 5 gi ci (bs im)) (hl : im.length = s * 512) (hk : Keeps (fun k => k = gi) w w') :
    DiskRaw w' F p s { S with im := im } gi ci m D gr cr := by
  obtain ⟨cur, hb, _⟩ := h.img
  refine ⟨h.fp, h.fgi, h.fm, fun k hf => Nat.lt_of_lt_of_le (h.lt k hf) hk.size, (hk.block p (h.lt p h.fp) (fun e => (h.img.ne h.blk (by decide)) e.symm)).trans h.blk, hr, ownsMap_agree h.map (hk.block m (h.lt m h.fm) (ownsMap_ne h.map hb)),
    h.pend.carry (fun g c xs _ hne hr => hr.agree (hk.block g hr.lt hne)) (fun g c xs _ hr => hr.other hk hb (by decide)), ⟨hl, h.ok.lo, h.ok.hi, h.ok.puts, h.ok.fuse⟩⟩

end Go.Proofs.YtokcgifpljeoiaaGreat
end

section
namespace Go.Proofs.YtokcgifpljeoiaaGreat

/-- What the checksum of a sealed sector goes over. -/
def stext (body : List Int) : List Int := ((body.length % 256 : Nat) : Int) :: ((body.length / 256 : Nat) : Int) :: (body ++ List.replicate (504 - body.length) 0)
/-- The sealed sector with that turn and body. -/
def sform (t : Int) (body : List Int) : List Int :=
  t :: ((body.length % 256 : Nat) : Int) :: ((body.length / 256 : Nat) : Int) :: (bytes4 (sumOf (stext body)) ++ (body ++ (List.replicate (504 - body.length) 0 ++ [t])))
/-- The turn of what is written over a sector with these ends. -/
def turnOf (a b : Int) : Nat := if a ≠ 0 ∧ b ≠ 0 then 0 else if a ≠ 1 ∧ b ≠ 1 then 1 else 2

theorem turnOf_le (a b : Int) : turnOf a b ≤ 2 := by unfold turnOf; split <;> (try split) <;> omega
theorem turnOf_ne (a b : Int) : ((turnOf a b : Nat) : Int) ≠ a ∧ ((turnOf a b : Nat) : Int) ≠ b := by
  unfold turnOf
  by_cases h : a ≠ 0 ∧ b ≠ 0
  · rw [if_pos h]; omega
  · rw [if_neg h]
    by_cases h1 : a ≠ 1 ∧ b ≠ 1
    · rw [if_pos h1]; omega
    · rw [if_neg h1]; omega

theorem bytes4_len (s : Nat) : (bytes4 s).length = 4 := rfl
theorem bytes4_bytes (s : Nat) : Bytes (bytes4 s) := by
  intro x hx
  simp only [bytes4, List.mem_cons, List.not_mem_nil, or_false] at hx
  omega
theorem sform_len {t : Int} {body : List Int} (h : body.length ≤ 504) : (sform t body).length = 512 := by simp [sform, bytes4_len]; omega
theorem Bytes.append {a b : List Int} (ha : Bytes a) (hb : Bytes b) : Bytes (a ++ b) := fun x hx => (List.mem_append.1 hx).elim (ha x) (hb x)
theorem Bytes.cons {a : Int} {b : List Int} (ha : 0 ≤ a ∧ a < 256) (hb : Bytes b) : Bytes (a :: b) := fun x hx => (List.mem_cons.1 hx).elim (fun h => h ▸ ha) (hb x)
theorem Bytes.nil : Bytes [] := fun _ hx => by cases hx
theorem Bytes.zeros (n : Nat) : Bytes (List.replicate n 0) := fun x hx => by rw [List.eq_of_mem_replicate hx]; omega
theorem Bytes.take {l : List Int} (h : Bytes l) (n : Nat) : Bytes (l.take n) := fun x hx => h x (List.mem_of_mem_take hx)
theorem Bytes.drop {l : List Int} (h : Bytes l) (n : Nat) : Bytes (l.drop n) := fun x hx => h x (List.mem_of_mem_drop hx)
theorem Bytes.getD {l : List Int} (h : Bytes l) (i : Nat) : 0 ≤ l.getD i 0 ∧ l.getD i 0 < 256 := by
  by_cases hi : i < l.length
  · have := h l[i] (List.getElem_mem hi)
    simpa [List.getD, hi] using this
  · simp [List.getD, List.getElem?_eq_none (Nat.le_of_not_lt hi)]
theorem stext_bytes {body : List Int} (h : Bytes body) (hl : body.length ≤ 504) : Bytes (stext body) :=
  .cons (by omega) (.cons (by omega) (h.append (.zeros _)))
theorem sform_bytes {t : Int} {body : List Int} (h : Bytes body) (hl : body.length ≤ 504) (ht : 0 ≤ t ∧ t < 256) : Bytes (sform t body) :=
  .cons ht (.cons (by omega) (.cons (by omega) ((bytes4_bytes _).append (h.append ((Bytes.zeros _).append (.cons ht .nil))))))

/-- The length that a sector tells. -/
def slen (s : List Int) : Nat := (s.getD 1 0 + 256 * s.getD 2 0).toNat
/-- Its body. -/
def sbody (s : List Int) : List Int := (s.drop 7).take (slen s)
/-- What Open tells. -/
def sopen (s : List Int) : Option (List Int) := if slen s ≤ 504 ∧ s.getD 0 0 ≤ 2 ∧ sform (s.getD 0 0) (sbody s) = s then some (sbody s) else none

theorem slen_form (t : Int) (body : List Int) (h : body.length ≤ 504) : slen (sform t body) = body.length := by
  simp [slen, sform, List.getD]; omega
theorem sform_drop (t : Int) (body : List Int) : (sform t body).drop 7 = body ++ (List.replicate (504 - body.length) 0 ++ [t]) := by
  simp [sform, bytes4]
theorem sbody_form (t : Int) (body : List Int) (h : body.length ≤ 504) : sbody (sform t body) = body := by
  rw [sbody, slen_form t body h, sform_drop]
  simp
theorem sform_first (t : Int) (body : List Int) : (sform t body).getD 0 0 = t := rfl
theorem sform_last (t : Int) (body : List Int) (h : body.length ≤ 504) : (sform t body).getD 511 0 = t := by
  have e : sform t body = (t :: ((body.length % 256 : Nat) : Int) :: ((body.length / 256 : Nat) : Int) :: (bytes4 (sumOf (stext body)) ++ (body ++ List.replicate (504 - body.length) 0))) ++ [t] := by
    simp [sform]
  rw [e, List.getD, List.getElem?_append_right (by simp [bytes4_len]; omega)]
  have : 511 - (t :: ((body.length % 256 : Nat) : Int) :: ((body.length / 256 : Nat) : Int) :: (bytes4 (sumOf (stext body)) ++ (body ++ List.replicate (504 - body.length) 0))).length = 0 := by
    simp [bytes4_len]; omega
  rw [this]; rfl
theorem sopen_form (t : Int) (body : List Int) (h : body.length ≤ 504) (ht : t ≤ 2) : sopen (sform t body) = some body := by
  unfold sopen
  rw [slen_form t body h, sform_first, sbody_form t body h, if_pos ⟨h, ht, rfl⟩]
theorem sopen_some {s body : List Int} (h : sopen s = some body) : slen s ≤ 504 ∧ s.getD 0 0 ≤ 2 ∧ sform (s.getD 0 0) (sbody s) = s ∧ body = sbody s := by
  unfold sopen at h
  split at h
  · next hc => exact ⟨hc.1, hc.2.1, hc.2.2, (Option.some.inj h).symm⟩
  · cases h
theorem sbody_len {s : List Int} (h : slen s ≤ 504) (hs : s.length = 512) : (sbody s).length = slen s := by
  simp [sbody]; omega
theorem sopen_len {s body : List Int} (h : sopen s = some body) (hs : s.length = 512) : body.length ≤ 504 := by
  obtain ⟨h1, _, _, rfl⟩ := sopen_some h
  rw [sbody_len h1 hs]; exact h1
theorem sopen_ends {s body : List Int} (h : sopen s = some body) (hs : s.length = 512) : s.getD 511 0 = s.getD 0 0 := by
  obtain ⟨h1, _, h3, rfl⟩ := sopen_some h
  rw [← h3, sform_last _ _ (sopen_len h hs), sform_first]

/-- What the sum goes over, of a sector. -/
def stextOf (s : List Int) : List Int := (s.drop 1).take 2 ++ (s.drop 7).take 504
/-- An anchor's number and data; 0: it is none. -/
def sanchor (s : List Int) : Nat × List Int :=
  match sopen s with
  | none => (0, [])
  | some body => if 8 ≤ body.length ∧ le (body.take 8) < 9223372036854775808 then (le (body.take 8), body.drop 8) else (0, [])
/-- What Newest tells: slot, number, data, error. -/
def snewest (l r : List Int) : Nat × Nat × List Int × Nat :=
  if l.length ≠ 512 ∨ r.length ≠ 512 then (0, 0, [], 2) else
  if (sanchor l).1 = 0 ∧ (sanchor r).1 = 0 then (0, 0, [], 30) else
  if (sanchor l).1 < (sanchor r).1 then (1, (sanchor r).1, (sanchor r).2, 0) else (0, (sanchor l).1, (sanchor l).2, 0)

/-- Eight bytes of a number, the low one first. -/
def bytes8 (n : Nat) : List Int := (List.range 8).map (fun k => ((n / 256 ^ k % 256 : Nat) : Int))
/-- What Seal tells. -/
def sseal (old body : List Int) : List Int × Nat :=
  if old.length ≠ 512 then ([], 2) else if 504 < body.length then ([], 7) else (sform (turnOf (old.getD 0 0) (old.getD 511 0)) body, 0)
def sopens (s : List Int) : List Int × Nat :=
  if s.length ≠ 512 then ([], 2) else match sopen s with | none => ([], 30) | some b => (b, 0)
/-- What Renew tells. -/
def srenew (l r : List Int) (number : Int) (data : List Int) : Nat × List Int × Nat :=
  if l.length ≠ 512 ∨ r.length ≠ 512 then (0, [], 2) else
  if number < 1 then (0, [], 1) else
  if 496 < data.length then (0, [], 7) else
  let a := snewest l r
  if number ≤ a.2.1 then (0, [], 31) else
  if a.2.2.2 = 0 ∧ a.1 = 0 then (1, sform (turnOf (r.getD 0 0) (r.getD 511 0)) (bytes8 number.toNat ++ data), 0)
  else (0, sform (turnOf (l.getD 0 0) (l.getD 511 0)) (bytes8 number.toNat ++ data), 0)
end Go.Proofs.YtokcgifpljeoiaaGreat
end

section
namespace Go.Proofs.YtokcgifpljeoiaaGreat

/-- The register comes to 1 in none of n steps. -/
def away : Nat → Nat → Bool
  | 0, _ => true
  | n + 1, s => if cb s = 1 then false else away n (cb s)
theorem away_spec : ∀ (n s : Nat), away n s = true → ∀ a, a < n → cbs (a + 1) s ≠ 1
  | 0, _, _, a, ha => by omega
  | n + 1, s, h, a, ha => by
    unfold away at h
    split at h
    · cases h
    · next hc =>
      cases a with
      | zero => exact hc
      | succ a => exact away_spec n (cb s) h a (by omega)
theorem order {a : Nat} (h0 : 0 < a) (h1 : a ≤ 4080) : cbs a 1 ≠ 1 := by
  have h : away 4080 1 = true := by decide +kernel
  have := away_spec 4080 1 h (a - 1) (by omega)
  rwa [show a - 1 + 1 = a by omega] at this

theorem none_of {α : Type} {o : Option α} (h : ∀ x, o = some x → False) : o = none := by
  cases o with
  | none => rfl
  | some x => exact (h x rfl).elim
end Go.Proofs.YtokcgifpljeoiaaGreat
end

section
namespace Go.Proofs.YtokcgifpljeoiaaGreat

theorem ends_none {m : List Int} (hm : m.length = 512) (h : m.getD 0 0 ≠ m.getD 511 0) : sopen m = none :=
  none_of fun _ h' => h (sopen_ends h' hm).symm
/-- What a torn write leaves. -/
def smix (a b : List Int) (c : Nat) : List Int := a.take c ++ b.drop c
theorem smix_len {a b : List Int} (ha : a.length = 512) (hb : b.length = 512) {c : Nat} (hc : c ≤ 512) : (smix a b c).length = 512 := by simp [smix]; omega
theorem smix_first {a b : List Int} (ha : a.length = 512) {c : Nat} (h0 : 0 < c) : (smix a b c).getD 0 0 = a.getD 0 0 := by
  rw [smix, List.getD, List.getElem?_append_left (by simp; omega), List.getElem?_take, if_pos h0]; rfl
theorem smix_last {a b : List Int} (ha : a.length = 512) {c : Nat} (h1 : c < 512) : (smix a b c).getD 511 0 = b.getD 511 0 := by
  rw [smix, List.getD, List.getElem?_append_right (by simp; omega), List.getElem?_drop]
  simp only [List.length_take, ha, List.getD]
  rw [show c + (511 - min c 512) = 511 by omega]
theorem smix_zero (a b : List Int) : smix a b 0 = b := by simp [smix]
theorem smix_all {a b : List Int} (ha : a.length = 512) (hb : b.length = 512) : smix a b 512 = a := by
  simp [smix, List.take_of_length_le (Nat.le_of_eq ha), List.drop_eq_nil_of_le (Nat.le_of_eq hb)]
theorem torn {o : List Int} (ho : o.length = 512) {t : Int} (h0 : t ≠ o.getD 0 0) (h1 : t ≠ o.getD 511 0) {body : List Int} (hl : body.length ≤ 504) {c : Nat} (hc : c ≤ 512) :
    (smix o (sform t body) c = o ∨ smix o (sform t body) c = sform t body ∨ sopen (smix o (sform t body) c) = none) ∧
    (smix (sform t body) o c = o ∨ smix (sform t body) o c = sform t body ∨ sopen (smix (sform t body) o c) = none) := by
  have hf := sform_len (t := t) hl
  by_cases c0 : c = 0
  · subst c0; exact ⟨.inr (.inl (smix_zero _ _)), .inl (smix_zero _ _)⟩
  · by_cases c1 : c = 512
    · subst c1; exact ⟨.inl (smix_all ho hf), .inr (.inl (smix_all hf ho))⟩
    · refine ⟨.inr (.inr (ends_none (smix_len ho hf hc) ?_)), .inr (.inr (ends_none (smix_len hf ho hc) ?_))⟩
      · rw [smix_first ho (by omega), smix_last ho (by omega), sform_last t body hl]; exact fun h => h0 h.symm
      · rw [smix_first hf (by omega), smix_last hf (by omega), sform_first]; exact h1

theorem bytes8_eq (n : Nat) : bytes8 n = [((n % 256 : Nat) : Int), ((n / 256 % 256 : Nat) : Int), ((n / 65536 % 256 : Nat) : Int), ((n / 16777216 % 256 : Nat) : Int), ((n / 4294967296 % 256 : Nat) : Int), ((n / 1099511627776 % 256 : Nat) : Int), ((n / 281474976710656 % 256 : Nat) : Int), ((n / 72057594037927936 % 256 : Nat) : Int)] := by
  simp [bytes8, List.range, List.range.loop]
theorem bytes8_len (n : Nat) : (bytes8 n).length = 8 := by simp [bytes8]
theorem bytes8_bytes (n : Nat) : Bytes (bytes8 n) := by
  intro x hx
  obtain ⟨j, _, rfl⟩ := List.mem_map.1 hx
  omega
theorem le_bytes8 {n : Nat} (h : n < 18446744073709551616) : le (bytes8 n) = n := by
  rw [bytes8_eq]
  simp only [le, Int.toNat_natCast]
  omega
theorem sanchor_form {t : Int} (ht : t ≤ 2) {n : Nat} (hn : n < 9223372036854775808) {data : List Int} (hd : data.length ≤ 496) : sanchor (sform t (bytes8 n ++ data)) = (n, data) := by
  have h8 := bytes8_len n
  unfold sanchor
  rw [sopen_form _ _ (by simp [h8]; omega) ht]
  simp only [List.take_left' h8, List.drop_left' h8, le_bytes8 (show n < 18446744073709551616 by omega)]
  rw [if_pos ⟨by simp [h8], hn⟩]
theorem sanchor_none {s : List Int} (h : sopen s = none) : sanchor s = (0, []) := by simp [sanchor, h]

/-- The pair with s in that slot. -/
def sput (l r : List Int) (slot : Nat) (s : List Int) : List Int × List Int := if slot = 0 then (s, r) else (l, s)
theorem pair_new {l r data : List Int} (hl : l.length = 512) (hr : r.length = 512) {n : Nat} (hn : n < 9223372036854775808) (h1 : 1 ≤ n) (hd : data.length ≤ 496) (hgt : (snewest l r).2.1 < n) {t : Int} (ht : t ≤ 2) (slot : Nat)
    (hs : slot = if (snewest l r).2.2.2 = 0 ∧ (snewest l r).1 = 0 then 1 else 0) :
    snewest (sput l r slot (sform t (bytes8 n ++ data))).1 (sput l r slot (sform t (bytes8 n ++ data))).2 = (slot, n, data, 0) := by
  have ha := sanchor_form ht hn hd
  have hf : (sform t (bytes8 n ++ data)).length = 512 := sform_len (by simp [bytes8_len]; omega)
  generalize sform t (bytes8 n ++ data) = s at *
  have e : snewest l r = if (sanchor l).1 = 0 ∧ (sanchor r).1 = 0 then (0, 0, [], 30) else if (sanchor l).1 < (sanchor r).1 then (1, (sanchor r).1, (sanchor r).2, 0) else (0, (sanchor l).1, (sanchor l).2, 0) := by
    unfold snewest; rw [if_neg (by omega)]
  rw [e] at hs hgt
  by_cases z : (sanchor l).1 = 0 ∧ (sanchor r).1 = 0
  · rw [if_pos z] at hs hgt
    have : slot = 0 := by rw [hs]; rfl
    subst this
    simp only [sput, if_true, snewest]
    rw [if_neg (by omega), ha, if_neg (by simp; omega), if_neg (by simp; omega)]
  · rw [if_neg z] at hs hgt
    by_cases q : (sanchor l).1 < (sanchor r).1
    · rw [if_pos q] at hs hgt
      have : slot = 0 := by rw [hs]; rfl
      subst this
      simp only [sput, if_true, snewest]
      rw [if_neg (by omega), ha, if_neg (by simp; omega), if_neg (by simp at hgt ⊢; omega)]
    · rw [if_neg q] at hs hgt
      have : slot = 1 := by rw [hs]; rfl
      subst this
      have h10 : ¬ (1 : Nat) = 0 := by omega
      simp only [sput, if_neg h10, snewest]
      rw [if_neg (by omega), ha, if_neg (by simp; omega), if_pos (by simp at hgt ⊢; omega)]
theorem pair_old {l r m : List Int} (hl : l.length = 512) (hr : r.length = 512) (hm : m.length = 512) (hnone : sanchor m = (0, [])) (slot : Nat)
    (hs : slot = if (snewest l r).2.2.2 = 0 ∧ (snewest l r).1 = 0 then 1 else 0) : snewest (sput l r slot m).1 (sput l r slot m).2 = snewest l r := by
  have e : snewest l r = if (sanchor l).1 = 0 ∧ (sanchor r).1 = 0 then (0, 0, [], 30) else if (sanchor l).1 < (sanchor r).1 then (1, (sanchor r).1, (sanchor r).2, 0) else (0, (sanchor l).1, (sanchor l).2, 0) := by
    unfold snewest; rw [if_neg (by omega)]
  rw [e] at hs
  rw [e]
  by_cases z : (sanchor l).1 = 0 ∧ (sanchor r).1 = 0
  · rw [if_pos z] at hs ⊢
    have : slot = 0 := by rw [hs]; rfl
    subst this
    simp only [sput, if_true, snewest]
    rw [if_neg (by omega), hnone, if_pos ⟨rfl, z.2⟩]
  · rw [if_neg z] at hs ⊢
    by_cases q : (sanchor l).1 < (sanchor r).1
    · rw [if_pos q] at hs ⊢
      have : slot = 0 := by rw [hs]; rfl
      subst this
      simp only [sput, if_true, snewest]
      rw [if_neg (by omega), hnone, if_neg (by simp; omega), if_pos (by simp; omega)]
    · rw [if_neg q] at hs ⊢
      have : slot = 1 := by rw [hs]; rfl
      subst this
      have h10 : ¬ (1 : Nat) = 0 := by omega
      simp only [sput, if_neg h10, snewest]
      rw [if_neg (by omega), hnone, if_neg (by simp; omega), if_neg (by simp)]
end Go.Proofs.YtokcgifpljeoiaaGreat
end
