import Derived.Test.YtkkmkogpbhcpmaaTwin
import Derived.Maps.OwnOps
namespace Go.Proofs.Ytkkmkogpbhcpmaa
open Go.RowKit Go.Maps

/-- A sector of an image. -/
def sec (im : List Int) (k : Nat) : List Int := (im.drop (k * 512)).take 512

/-- A sector's candidates: what lasts, then its pending writes. -/
def DS.cand (S : DS) (k j : Nat) : List Int := if j = 0 then sec S.im k else (pendOf S.puts k).getD (j - 1) []

theorem zeroRows (w : World) : (zeroValue 42).run Try.prog w = .ok (.slice none 0 0) w := by kernel_rfl

theorem keyOf_nat (k : Nat) (hk : k < 2048) : keyOf Try.prog 3 (.int .i64 (k : Int)) = some (kk k) :=
  keyOf_int_mk Try.underlying3 (WalkArith.wf_i64 (by omega))

/-- What the map tells of a sector. -/
theorem DiskRaw.look {w : World} {F : Nat → Prop} {p s : Nat} {S : DS} {gi ci m : Nat} {D : DataW Value} {gr cr : Nat → Nat} (h : DiskRaw w F p s S gi ci m D gr cr) {k : Nat} (hk : k < s) :
    ∃ a c, (Instr.lookup 96 (.map (some m)) (.int .i64 (k : Int)) false).run Try.prog w = .ok (.slice a (pendOf S.puts k).length c) w ∧
      (pendOf S.puts k ≠ [] → a = some ⟨gr k, 0, none⟩ ∧ c = cr k) ∧ (pendOf S.puts k = [] → a = none ∧ c = 0) := by
  have hs := h.ok.hi
  obtain ⟨v, ps, hrun, hv⟩ := h.map.lookup keyInt Try.underlying96 (zeroRows w) (zd := .held (.slice none 0 0)) (zp := []) rfl (keyOf_nat k (by omega))
  by_cases hp : pendOf S.puts k = []
  · rw [Maps.atKey_of_not_has (h.pend.nope k hp)] at hv
    obtain ⟨⟨a, n, c⟩, rfl⟩ := Rs_inv v _ hv
    rw [Rs_mk] at hv
    simp [mkS] at hv
    obtain ⟨⟨rfl, rfl, rfl⟩, _⟩ := hv
    exact ⟨none, 0, by rw [hp]; exact hrun, fun h => absurd hp h, fun _ => ⟨rfl, rfl⟩⟩
  · rw [h.pend.look k hp] at hv
    obtain ⟨⟨a, n, c⟩, rfl⟩ := Rs_inv v _ hv
    rw [Rs_mk] at hv
    simp [mkS] at hv
    obtain ⟨⟨rfl, rfl, rfl⟩, _⟩ := hv
    exact ⟨_, _, hrun, fun _ => ⟨rfl, rfl⟩, fun h => absurd h hp⟩

theorem sec_src {w : World} {gi ci k s : Nat} {im : List Int} (h : RowAt w 5 gi ci (bs im)) (hl : im.length = s * 512) (hk : k < s) : Src w (some ⟨gi, k * 512, none⟩) 512 (sec im k) := by
  refine ⟨by simp [sec]; omega, (fun h => by cases h), fun x hx i hi => ?_⟩
  cases hx
  rw [addr_add]
  have := h.byte (i := k * 512 + i) (by omega)
  rw [addr_add, Nat.zero_add] at this
  rw [this]
  simp [sec, List.getD, hi]

theorem pend_len {S : DS} {s k : Nat} (h : S.Ok s) {j : Nat} (hj : j < (pendOf S.puts k).length) : ((pendOf S.puts k)[j]).length = 512 := by
  have hm := List.getElem_mem hj
  unfold pendOf at hm
  obtain ⟨q, hq, e⟩ := List.mem_map.1 hm
  have := (h.puts q (List.mem_filter.1 hq).1).2
  unfold pendOf
  rw [← e]
  exact this

/-- candidate: where a candidate lies: in the image's own block, or in another one. -/
theorem cand_zero {w : World} {F : Nat → Prop} {p s : Nat} {S : DS} {gi ci m : Nat} {D : DataW Value} {gr cr : Nat → Nat} (h : DiskRaw w F p s S gi ci m D gr cr) (k : Nat) (hk : k < s) :
    Calls Try.prog 64 #[.pointer (some ⟨p, 0, none⟩), .int .i64 (k : Int), .int .i64 0] w fun e w' => e = .returned (.slice (some ⟨gi, k * 512, none⟩) 512 512) ∧ w' = w := by
  have c0 := cell_of_block h.blk (j := 0) rfl
  have hl := h.img.le
  have hd := durable_low p gi (s * 512) ci s k k w c0 rfl hk rfl h.ok.hi (by simp [bs, h.ok.len] at hl; omega)
  go_enter Try.func64, Try.ntmps64
  go_wp2_with (go_at_call 63; refine hd.mono ?_; rintro e w' ⟨rfl, rfl⟩)
  go_ret
  exact ⟨rfl, rfl⟩

theorem cand_succ {w : World} {F : Nat → Prop} {p s : Nat} {S : DS} {gi ci m : Nat} {D : DataW Value} {gr cr : Nat → Nat} (h : DiskRaw w F p s S gi ci m D gr cr) (k : Nat) (hk : k < s) (i : Nat) (jj : Int) (hj : jj = (i : Int) + 1) (hi : i < (pendOf S.puts k).length) (hbig : S.puts.length ≤ 140737488355328) :
    Calls Try.prog 64 #[.pointer (some ⟨p, 0, none⟩), .int .i64 (k : Int), .int .i64 jj] w fun e w' => ∃ g c, e = .returned (.slice (some ⟨g, 0, none⟩) 512 c) ∧ F g ∧ g ≠ gi ∧ RowAt w 5 g c (bs (pendOf S.puts k)[i]) ∧ w' = w := by
  subst hj
  have c1 := cell_of_block h.blk (j := 1) rfl
  have hp : pendOf S.puts k ≠ [] := by intro e; rw [e] at hi; simp at hi
  obtain ⟨a, c, hrun, h1, _⟩ := h.look hk
  obtain ⟨rfl, rfl⟩ := h1 hp
  obtain ⟨_, xs, hrow, hrows⟩ := h.pend.row k hp
  obtain ⟨g, cg, hx, hF, hne, hr⟩ := hrows.get i hi
  have cx := hrow.cell hx
  have hn : (pendOf S.puts k).length ≤ S.puts.length := by unfold pendOf; rw [List.length_map]; exact List.length_filter_le _ _
  have e1 : ((i : Int) + 1 == 0) = false := by rw [Bool.eq_false_iff, ne_eq, beq_iff_eq]; omega
  have hi' : (i : Int) < ((pendOf S.puts k).length : Int) := by omega
  clear hrow hrows hx
  go_enter Try.func64, Try.ntmps64
  go_wp2
  go_ret
  exact ⟨g, cg, rfl, hF, hne, hr, rfl⟩

/-- What a sector holds now. -/
def DS.now (S : DS) (k : Nat) : List Int := S.cand k (pendOf S.puts k).length

theorem DS.cand_len {S : DS} {s k j : Nat} (h : S.Ok s) (hk : k < s) (hj : j ≤ (pendOf S.puts k).length) : (S.cand k j).length = 512 := by
  unfold DS.cand
  split
  · simp [sec]; have := h.len; omega
  · have hj' : j - 1 < (pendOf S.puts k).length := by omega
    rw [List.getD, List.getElem?_eq_getElem hj', Option.getD_some]
    exact pend_len h hj'

/-- candidate, whichever. -/
theorem cand_any {w : World} {F : Nat → Prop} {p s : Nat} {S : DS} {gi ci m : Nat} {D : DataW Value} {gr cr : Nat → Nat} (h : DiskRaw w F p s S gi ci m D gr cr) (k : Nat) (hk : k < s) (j : Nat) (hj : j ≤ (pendOf S.puts k).length) (hbig : S.puts.length ≤ 140737488355328) :
    Calls Try.prog 64 #[.pointer (some ⟨p, 0, none⟩), .int .i64 (k : Int), .int .i64 (j : Int)] w fun e w' => ∃ g o c, e = .returned (.slice (some ⟨g, o, none⟩) 512 c) ∧ F g ∧ 512 ≤ c ∧ (g = gi → o = k * 512 ∧ S.cand k j = sec S.im k) ∧ Src w (some ⟨g, o, none⟩) 512 (S.cand k j) ∧ w' = w := by
  cases j with
  | zero => exact (cand_zero h k hk).mono (by rintro e w' ⟨rfl, rfl⟩; exact ⟨gi, k * 512, 512, rfl, h.fgi, Nat.le_refl _, fun _ => ⟨rfl, rfl⟩, sec_src h.img h.ok.len hk, rfl⟩)
  | succ i =>
    refine (cand_succ h k hk i ((i + 1 : Nat) : Int) (by omega) (by omega) hbig).mono ?_
    rintro e w' ⟨g, c, rfl, hF, hne, hr, rfl⟩
    have e1 : S.cand k (i + 1) = (pendOf S.puts k)[i] := by simp [DS.cand, List.getD, List.getElem?_eq_getElem (show i < (pendOf S.puts k).length by omega)]
    have hl := pend_len h.ok (k := k) (j := i) (by omega)
    have hle := hr.le
    refine ⟨g, 0, c, rfl, hF, by simp [bs] at hle; omega, fun e => absurd e hne, ?_, rfl⟩
    rw [e1]
    have := hr.src
    rw [hl] at this
    exact this

def DS.read (S : DS) : DS := { S with reads := wrap64 (S.reads + 1) }
def DS.refuse (S : DS) : DS := { S with refused := wrap64 (S.refused + 1) }

theorem DiskRaw.set {w : World} {F : Nat → Prop} {p s : Nat} {S : DS} {gi ci m : Nat} {D : DataW Value} {gr cr : Nat → Nat} (h : DiskRaw w F p s S gi ci m D gr cr) (i : Nat) (v : Value) :
    (w.setCell ⟨p, i, none⟩ v).heap[p]? = some (.cells ((dkCells (.slice (some ⟨gi, 0, none⟩) (s * 512) ci) (.map (some m)) S.fuse S.life S.reads S.writes S.flushes S.refused).setIfInBounds i v) 100 (0, 0)) ∧ Keeps (fun k => k = p) w (w.setCell ⟨p, i, none⟩ v) :=
  ⟨heap_setCell_same _ _ _ _ _ _ h.blk, Keeps.setCell (F := fun k => k = p) w (p := ⟨p, i, none⟩) rfl v⟩

theorem DiskRaw.refused {w : World} {F : Nat → Prop} {p s : Nat} {S : DS} {gi ci m : Nat} {D : DataW Value} {gr cr : Nat → Nat} (h : DiskRaw w F p s S gi ci m D gr cr) :
    DiskRaw (w.setCell ⟨p, 7, none⟩ (.int .i64 (wrap64 (S.refused + 1)))) F p s S.refuse gi ci m D gr cr :=
  h.turn (h.set 7 _).2 ((h.set 7 _).1.trans (by simp [dkCells, DS.refuse])) rfl rfl h.ok.fuse
theorem DiskRaw.reads {w : World} {F : Nat → Prop} {p s : Nat} {S : DS} {gi ci m : Nat} {D : DataW Value} {gr cr : Nat → Nat} (h : DiskRaw w F p s S gi ci m D gr cr) :
    DiskRaw (w.setCell ⟨p, 4, none⟩ (.int .i64 (wrap64 (S.reads + 1)))) F p s S.read gi ci m D gr cr :=
  h.turn (h.set 4 _).2 ((h.set 4 _).1.trans (by simp [dkCells, DS.read])) rfl rfl h.ok.fuse

theorem read_dead {w : World} {F : Nat → Prop} {p s : Nat} {S : DS} (h : DiskAt w F p s S) (at_ : Int) (hf : S.fuse = 0) :
    Calls Try.prog 15 #[.pointer (some ⟨p, 0, none⟩), .int .i64 at_] w fun e w' => e = .returned (.tuple #[.slice none 0 0, .int .i64 3]) ∧ w' = w := by
  have hb := burnt_at h
  rw [hf] at hb
  go_enter Try.func15, Try.ntmps15
  go_wp2_with (go_at_call 11; refine hb.mono ?_; rintro e w' ⟨rfl, rfl⟩)
  go_ret2
  exact ⟨rfl, rfl⟩

theorem read_range {w : World} {F : Nat → Prop} {p s : Nat} {S : DS} (h : DiskAt w F p s S) (at_ : Int) (hf : S.fuse ≠ 0) (ha : at_ < 0 ∨ (s : Int) ≤ at_) :
    Calls Try.prog 15 #[.pointer (some ⟨p, 0, none⟩), .int .i64 at_] w fun e w' => e = .returned (.tuple #[.slice none 0 0, .int .i64 11]) ∧ DiskAt w' F p s S.refuse ∧ Keeps F w w' := by
  have hb := burnt_at h
  rw [show (S.fuse == 0) = false by simp [hf]] at hb
  obtain ⟨gi, ci, m, D, gr, cr, h⟩ := h
  have hs := h.ok.hi
  have hh := has_low p _ (s * 512) ci at_ w (by omega) (cell_of_block h.blk (j := 0) rfl)
  rw [show s * 512 / 512 = s by omega, show (decide (0 ≤ at_) && decide (at_ < (s : Int))) = false by simp; omega] at hh
  have hr := refuse_low p S.refused 11 w (cell_of_block h.blk (j := 7) rfl) (frozen_of_block h.blk 7)
  have hd := h.refused
  have hk : Keeps F w (w.setCell ⟨p, 7, none⟩ (.int .i64 (wrap64 (S.refused + 1)))) := Keeps.setCell w h.fp _
  have Hd := Hid.mk hd
  have Hk := Hid.mk hk
  clear h hd hk ha
  go_enter Try.func15, Try.ntmps15
  go_wp2_with (first | (go_at_call 11; refine hb.mono ?_; rintro e w' ⟨rfl, hw⟩; subst hw) | (go_at_call 59; refine hh.mono ?_; rintro e w' ⟨rfl, hw⟩; subst hw) | (go_at_call 60; refine hr.mono ?_; rintro e w' ⟨rfl, rfl⟩))
  go_ret2
  exact ⟨rfl, ⟨gi, ci, m, D, gr, cr, Hd.out⟩, Hk.out⟩

set_option maxHeartbeats 1000000 in
theorem read_ok {w : World} {F : Nat → Prop} {p s : Nat} {S : DS} (h : DiskAt w F p s S) (k : Nat) (hf : S.fuse ≠ 0) (hk : k < s) (hbig : S.puts.length ≤ 140737488355328) :
    Calls Try.prog 15 #[.pointer (some ⟨p, 0, none⟩), .int .i64 (k : Int)] w fun e w' => ∃ g c, e = .returned (.tuple #[.slice (some ⟨g, 0, none⟩) 512 c, .int .i64 0]) ∧ w.heap.size ≤ g ∧ RowAt w' 5 g c (bs (S.now k)) ∧
      DiskAt w' F p s S.read ∧ Keeps F w w' := by
  have hb := burnt_at h
  rw [show (S.fuse == 0) = false by simp [hf]] at hb
  obtain ⟨gi, ci, m, D, gr, cr, h⟩ := h
  have hs := h.ok.hi
  have hh := has_low p _ (s * 512) ci k w (by omega) (cell_of_block h.blk (j := 0) rfl)
  rw [show s * 512 / 512 = s by omega, show (decide (0 ≤ (k : Int)) && decide ((k : Int) < (s : Int))) = true by simp; omega] at hh
  have c4 := cell_of_block h.blk (j := 4) rfl
  have f4 := frozen_of_block h.blk 4
  have hd := h.reads
  have hkp : Keeps F w (w.setCell ⟨p, 4, none⟩ (.int .i64 (wrap64 (S.reads + 1)))) := Keeps.setCell w h.fp _
  have hsz : (w.setCell ⟨p, 4, none⟩ (.int .i64 (wrap64 (S.reads + 1)))).heap.size = w.heap.size := by simp [World.setCell]
  have c1 := cell_of_block hd.blk (j := 1) rfl
  obtain ⟨a, c, hrun, hne, hnil⟩ := hd.look hk
  have hca := cand_any hd k hk (pendOf S.puts k).length (Nat.le_refl _) hbig
  have hcl : (S.read.cand k (pendOf S.puts k).length).length = 512 := DS.cand_len hd.ok hk (Nat.le_refl _)
  have Hd := Hid.mk hd
  have Hk := Hid.mk hkp
  have Hs := Hid.mk hsz
  have Hl := Hid.mk hcl
  clear h hd hkp hne hnil hsz hcl
  go_enter Try.func15, Try.ntmps15
  go_wp2_with (first | (go_at_call 11; refine hb.mono ?_; rintro e w' ⟨rfl, hw⟩; subst hw) | (go_at_call 59; refine hh.mono ?_; rintro e w' ⟨rfl, hw⟩; subst hw))
  refine hca.mono ?_
  rintro e w1 ⟨g, o, cg, rfl, hF, hcg, _, hsrc, rfl⟩
  have hcn := clone_low ⟨g, o, none⟩ 512 cg _ _ Hl.out (by omega) (fun i hi => hsrc.2.2 _ rfl i hi)
  clear hsrc hca
  go_wp2_with fail
  refine hcn.mono ?_
  rintro e w2 ⟨g2, c2, rfl, hg2, hr2, hb2⟩
  have hdk : DiskAt w2 F p s S.read := DiskAt.keep ⟨gi, ci, m, D, gr, cr, Hd.out⟩ (Keeps.of_below (fun _ => False) hb2) (fun _ _ h => h)
  have hke := Hk.out.trans (Keeps.of_below (fun _ => False) hb2) (fun _ h => h.elim)
  rw [Hs.out] at hg2
  have Hr2 := Hid.mk hr2
  clear hr2 hb2 hcn hrun
  go_wp2
  go_ret2
  exact ⟨g2, c2, rfl, hg2, Hr2.out, hdk, hke⟩
end Go.Proofs.Ytkkmkogpbhcpmaa
