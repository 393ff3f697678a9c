import Derived.Test.YtplpkppkaahchaaW15
section
namespace Go.Proofs.Ytplpkppkaahchaa
open Go.RowKit

theorem Tells.pos {R : Nat → PC} {E : Nat} : ∀ {rs : List (List Int)} {P h : Nat}, Tells R E P rs h → ∀ d ∈ rs, 1 ≤ d.length
  | [], _, _, _, d, hd => by cases hd
  | x :: xs, P, h, ⟨k, hk, ht⟩, d, hd => by
    rcases List.mem_cons.1 hd with rfl | hd
    · have h0 := hk.2.2.1 0 hk.1
      rw [hk.2.2.2]
      have hk1 := hk.1
      obtain ⟨k', rfl⟩ : ∃ k', k = k' + 1 := ⟨k - 1, by omega⟩
      unfold dataTo
      rw [List.range_succ_eq_map]
      simp only [List.flatMap_cons, List.length_append]
      have := h0.2.2.2.2.1
      simp only [Nat.add_zero] at this ⊢
      omega
    · exact Tells.pos ht d hd

section
variable {S S' : DS} {s t i : Nat} {ls : List LG} {L : LG}

theorem told_small {a b : Nat} (hby : S.Byt) (hb1 : 1 ≤ b) (hb2 : b ≤ 256) {E T hd : Nat} {rr : List (List Int)} (ht : Tells (Rp (oRing S a) b) E T rr hd) : rr.length ≤ 256 ∧ (∀ i (hi : i < rr.length), 1 ≤ (rr[i]).length ∧ (rr[i]).length ≤ 8364) ∧ T ≤ hd ∧ hd ≤ T + b := by
  have h1 := Tells.round hb1 (Rp_round (oRing S a) b) ht
  have h2 := Tells.length ht
  have h3 := Tells.le ht
  refine ⟨by omega, fun i hi => ⟨Tells.pos ht _ (List.getElem_mem hi), ?_⟩, h3, h1⟩
  exact Tells.small (fun q => (pcOf_small (hby.now (a + 2 + q % b))).2.2.2.2.1) ht rr[i] (List.getElem_mem hi)

/-- Nothing pends: the image is what is read. -/
theorem calm_im (hok : S.Ok s) (hp : S.puts = []) : imOf s S.now = S.im := by
  refine im_ext s (imOf_len s _ (fun k hk => now_len hok k hk)) hok.len (fun k hk => ?_)
  rw [sec_imOf s S.now (fun k hk => now_len hok k hk) k hk]
  exact now_none _ _ (by rw [hp]; rfl)
theorem take_ok (h : S.Ok s) : S.take.Ok s := ⟨h.len, h.lo, h.hi, h.puts, h.fuse⟩

/-- What a disk on which nothing pends is behind an Open. -/
structure Quiet (S S' : DS) (s : Nat) : Prop where
  im : S'.im = S.im
  pu : S'.puts = []
  fu : S'.fuse = -1
  wr : S'.writes = S.writes
  rf : S'.refused = S.refused
theorem Quiet.now (h : Quiet S S' s) (hp : S.puts = []) (k : Nat) : S'.now k = S.now k := by
  rw [now_none S' k (by rw [h.pu]; rfl), now_none S k (by rw [hp]; rfl), h.im]
theorem Quiet.trans {S'' : DS} (h : Quiet S S' s) (k : Quiet S' S'' s) : Quiet S S'' s := ⟨k.im.trans h.im, k.pu, k.fu, k.wr.trans h.wr, k.rf.trans h.rf⟩
theorem quiet_fl (hok : S.Ok s) (hp : S.puts = []) (hf : S.fuse = -1) : Quiet S (S.fl s).2 s ∧ (S.fl s).1 = 0 ∧ (S.fl s).2.flushes = wrap64 (S.flushes + 1) := by
  unfold DS.fl
  rw [if_neg (by omega)]
  refine ⟨⟨calm_im hok hp, rfl, spend_calm (S := S.flush s) hf, rfl, rfl⟩, rfl, rfl⟩
theorem quiet_take (hp : S.puts = []) (hf : S.fuse = -1) : Quiet S S.take s := ⟨rfl, hp, hf, rfl, rfl⟩
theorem quiet_crash (hok : S.Ok s) (hp : S.puts = []) (l : List P3) : Quiet S (S.crash s l) s := by
  refine ⟨?_, rfl, rfl, rfl, rfl⟩
  show imOf s (cutOf S l) = S.im
  refine im_ext s (imOf_len s _ (cut_len hok l)) hok.len (fun k hk => ?_)
  rw [sec_imOf s (cutOf S l) (fun k hk => cut_len hok l k hk) k hk]
  unfold cutOf
  rw [if_pos (by rw [hp]; rfl)]

/-- Open of a disk on which nothing pends. -/
theorem open_quiet (hok : S.Ok s) (hp : S.puts = []) (hf : S.fuse = -1) {a b : Nat} (hab : a + 2 + b ≤ s) (h18 : 18 ≤ b) (h256 : b ≤ 256) :
    Quiet S (lopen S s a b).2 s ∧ ((lopen S s a b).1 = 0 ∨ (lopen S s a b).1 = 6 ∨ (lopen S s a b).1 = 41) ∧ (lopen S s a b).2.life = wrap64 (S.life + 1) ∧ (lopen S s a b).2.flushes = (if (lopen S s a b).1 = 0 then wrap64 (S.flushes + 1) else S.flushes) ∧ lrefuse S s a b = 0 := by
  have hr0 : lrefuse S s (a : Int) (b : Int) = 0 := by
    unfold lrefuse
    rw [if_neg (by omega), if_neg (by omega), if_neg (by omega), if_neg (by omega)]
  have hf' := quiet_fl (S := S.take) (take_ok hok) hp hf
  have hn6 : (oNew S a).2.2 = 0 ∨ (oNew S a).2.2 = 6 := by
    unfold oNew lnewest
    split
    · exact .inr rfl
    · exact .inl rfl
  unfold lopen
  rw [if_neg (by omega), Int.toNat_natCast, Int.toNat_natCast]
  by_cases k0 : (oNew S a).2.2 = 0
  · rw [if_neg (fun h => h k0)]
    by_cases k1 : oTop S a b = 1073741824
    · rw [if_pos k1]
      exact ⟨quiet_take hp hf, .inr (.inr rfl), rfl, rfl, hr0⟩
    · rw [if_neg k1]
      refine ⟨(quiet_take (s := s) hp hf).trans hf'.1, .inl hf'.2.1, fl_life _ _, ?_, hr0⟩
      rw [if_pos hf'.2.1]
      exact hf'.2.2
  · rw [if_pos k0]
    have k6 : (oNew S a).2.2 = 6 := by omega
    refine ⟨quiet_take hp hf, .inr (.inl (by show (((oNew S a).2.2 : Nat) : Int) = 6; omega)), rfl, ?_, hr0⟩
    rw [if_neg (by show ¬ (((oNew S a).2.2 : Nat) : Int) = 0; omega)]
    rfl
/-- The error of an Open is a matter of the sectors alone. -/
theorem open_same (hf : S.fuse = -1) (hf' : S'.fuse = -1) {a b : Nat} (h18 : 18 ≤ b) (hn : ∀ k, S'.now k = S.now k) (hab : a + 2 + b ≤ s) (h256 : b ≤ 256) : (lopen S' s a b).1 = (lopen S s a b).1 := by
  have e1 : oNew S' a = oNew S a := by unfold oNew; rw [hn, hn]
  have e2 : oTop S' a b = oTop S a b := by
    unfold oTop
    rw [e1]
    have : oRing S' a = oRing S a := by funext j; unfold oRing; rw [hn]
    rw [this]
  have r0 : lrefuse S s (a : Int) (b : Int) = 0 := by
    unfold lrefuse
    rw [if_neg (by omega), if_neg (by omega), if_neg (by omega), if_neg (by omega)]
  have r1 : lrefuse S' s (a : Int) (b : Int) = 0 := by
    unfold lrefuse
    rw [if_neg (by omega), if_neg (by omega), if_neg (by omega), if_neg (by omega)]
  unfold lopen
  rw [r0, r1, Int.toNat_natCast, Int.toNat_natCast, e1, e2]
  have z : ¬ ((0 : Int) ≠ 0) := fun h => h rfl
  simp only [if_neg z]
  split
  · rfl
  · split
    · rfl
    · unfold DS.fl
      rw [if_neg (show ¬ S'.take.fuse = 0 by show ¬ S'.fuse = 0; omega), if_neg (show ¬ S.take.fuse = 0 by show ¬ S.fuse = 0; omega)]

/-- No call of a log that lives asks for a sector that the disk has not. -/
theorem wr_ref {k : Nat} (hk : k < s) (l : List Int) : (S.wr s (k : Int) 512 l).2.refused = S.refused := by
  by_cases hf : S.fuse = 0
  · unfold DS.wr; rw [if_pos hf]
  · rw [wr_in hf hk]; rfl
theorem fl_ref : (S.fl s).2.refused = S.refused := by
  unfold DS.fl
  split <;> rfl
theorem anew_ref {f : Nat} (hf : f + 1 < s) (num : Int) : (anew S s f num).2.refused = S.refused := by
  unfold anew
  have hs := srenew_slot (S.now f) (S.now (f + 1)) num []
  generalize srenew (S.now f) (S.now (f + 1)) num [] = R at *
  have e : (f : Int) + (R.1 : Int) = ((f + R.1 : Nat) : Int) := by omega
  rw [e]
  split
  · rfl
  · split
    · rfl
    · split
      · exact wr_ref (by omega) _
      · rw [fl_ref]; exact wr_ref (by omega) _
theorem aput_ref {f n E P j c : Nat} (hn : 1 ≤ n) (hs : f + 2 + n ≤ s) (l : List Int) : (aput S s f n E P j c l).2.refused = S.refused := by
  have hm : P % n < n := Nat.mod_lt _ hn
  unfold aput
  split
  · rfl
  · exact wr_ref (by omega) _
theorem steps_ref {g : Nat → DS → Int × DS} (hg : ∀ k T, (g k T).2.refused = T.refused) : ∀ n, (stepsTo S g n).2.refused = S.refused
  | 0 => rfl
  | n + 1 => by
    have ih := steps_ref hg n
    unfold stepsTo
    split
    · exact ih
    · rw [hg]; exact ih
theorem start_ref (hk : L.Ok s) : (L.start S s).2.1.refused = S.refused := by
  have := hk.s
  have := hk.n1
  unfold LG.start
  split
  · rfl
  · split
    · rfl
    · split
      · exact anew_ref (by omega) _
      · exact anew_ref (by omega) _
theorem sync_ref : (L.sync S s).2.refused = S.refused := by
  unfold LG.sync
  split
  · rfl
  · exact fl_ref
theorem trim_ref (hk : L.Ok s) : (L.trim S s).2.1.refused = S.refused := by
  have := hk.s
  have := hk.n1
  unfold LG.trim
  split
  · exact sync_ref
  · split
    · exact sync_ref
    · split
      · rw [anew_ref (by omega) _]; exact sync_ref
      · rw [anew_ref (by omega) _]; exact sync_ref
theorem append_ref (hk : L.Ok s) (d : List Int) : (L.append S s d).2.1.refused = S.refused := by
  have := hk.s
  have := hk.n1
  have h0 : (appTo L S s d (cntOf d.length)).2.refused = S.refused := steps_ref (fun k T => aput_ref (by omega) hk.s _) _
  unfold LG.append
  split
  · rfl
  · split
    · exact h0
    · exact h0
end
end Go.Proofs.Ytplpkppkaahchaa
end

section
namespace Go.Proofs.Ytplpkppkaahchaa.B
open Go.RowKit

/-- So many reads at most (while they can be counted at all). -/
def Rb (r : Int) (c : Nat) : Prop := c < 4611686018427387904 → 0 ≤ r ∧ r ≤ (c : Int)
theorem Rb.read {r : Int} {c : Nat} (h : Rb r c) : Rb (wrap64 (r + 1)) (c + 1) := by
  intro hc
  have h1 := h (by omega)
  have e : wrap64 (r + 1) = r + 1 := by unfold wrap64; omega
  rw [e]
  omega
theorem Rb.le {r : Int} {c d : Nat} (h : Rb r c) (hd : c ≤ d) : Rb r d := by
  intro hc
  have h1 := h (by omega)
  omega
/-- A disk that was asked to read so often at most. -/
def DiskR (w : World) (F : Nat → Prop) (p s : Nat) (S : DS) (c : Nat) : Prop := ∃ r, DiskAt w F p s (S.rds r) ∧ Rb r c

section
variable {w w' : World} {F G : Nat → Prop} {p s c : Nat} {S : DS}
theorem DiskR.old (h : DiskR w F p s S c) : Go.Proofs.Ytplpkppkaahchaa.DiskR w F p s S := by obtain ⟨r, h, _⟩ := h; exact ⟨r, h⟩
theorem DiskR.le {d : Nat} (h : DiskR w F p s S c) (hd : c ≤ d) : DiskR w F p s S d := by obtain ⟨r, h, hr⟩ := h; exact ⟨r, h, hr.le hd⟩
theorem DiskR.ok (h : DiskR w F p s S c) : S.Ok s := h.old.ok
theorem DiskR.lt (h : DiskR w F p s S c) : ∀ k, F k → k < w.heap.size := h.old.lt
theorem DiskR.mem (h : DiskR w F p s S c) : F p := h.old.mem
theorem DiskR.keep (h : DiskR w F p s S c) (k : Keeps G w w') (hd : ∀ k, F k → ¬ G k) : DiskR w' F p s S c := by obtain ⟨r, h, hr⟩ := h; exact ⟨r, h.keep k hd, hr⟩
theorem DiskR.later (h : DiskR w F p s S c) (hb : Below w.heap.size w w') : DiskR w' F p s S c := h.keep (Keeps.of_below (fun _ => False) hb) (fun _ _ h => h)
theorem DiskR.laterB (h : DiskR w F p s S c) (hb : Below w.heap.size w w') : DiskR w' F p s S c := h.later hb
theorem DiskR.boxed (h : DiskR w F p s S c) (o : Obj) : DiskR (w.alloc o) F p s S c := h.later ((Below.refl w.heap.size w).alloc (Nat.le_refl _) o)
theorem DiskR.mono (h : DiskR w F p s S c) (hG : ∀ k, F k → G k) (hl : ∀ k, G k → k < w.heap.size) : DiskR w G p s S c := by obtain ⟨r, h, hr⟩ := h; exact ⟨r, h.mono hG hl, hr⟩
theorem DiskR.more (h : DiskR w' F p s S c) : DiskR w' (more F w w') p s S c := by obtain ⟨r, h, hr⟩ := h; exact ⟨r, h.more, hr⟩

theorem dsectors (h : DiskR w F p s S c) : Calls Try.prog 25 #[.pointer (some ⟨p, 0, none⟩)] w fun e w' => e = .returned (.int .i64 s) ∧ w' = w := Go.Proofs.Ytplpkppkaahchaa.dsectors h.old
theorem dburnt (h : DiskR w F p s S c) : Calls Try.prog 58 #[.pointer (some ⟨p, 0, none⟩)] w fun e w' => e = .returned (.bool (S.fuse == 0)) ∧ w' = w := Go.Proofs.Ytplpkppkaahchaa.dburnt h.old
theorem dlife (h : DiskR w F p s S c) : Calls Try.prog 26 #[.pointer (some ⟨p, 0, none⟩)] w fun e w' => e = .returned (.int .i64 S.life) ∧ w' = w := Go.Proofs.Ytplpkppkaahchaa.dlife h.old
theorem dtake (h : DiskR w F p s S c) : Calls Try.prog 41 #[.pointer (some ⟨p, 0, none⟩)] w fun e w' => e = .returned (.int .i64 (wrap64 (S.life + 1))) ∧ DiskR w' F p s S.take c ∧ Keeps F w w' := by
  obtain ⟨r, h, hr⟩ := h
  refine (take_at h).mono ?_
  rintro e w' ⟨rfl, h1, h2⟩
  exact ⟨rfl, ⟨r, h1, hr⟩, h2⟩
theorem dread_dead (h : DiskR w F p s S c) (x : Int) (hf : S.fuse = 0) : Calls Try.prog 54 #[.pointer (some ⟨p, 0, none⟩), .int .i64 x] w fun e w' => e = .returned (.tuple #[.slice none 0 0, .int .i64 3]) ∧ w' = w := Go.Proofs.Ytplpkppkaahchaa.dread_dead h.old x hf
theorem dread_ok (h : DiskR w F p s S c) (k : Nat) (hk : k < s) (hbig : S.puts.length + 1 ≤ 4000000000000) (hf : S.fuse ≠ 0) :
    Calls Try.prog 54 #[.pointer (some ⟨p, 0, none⟩), .int .i64 (k : Int)] w fun e w' => ∃ v, e = .returned (.tuple #[v, .int .i64 0]) ∧ Out w.heap.size w' (S.now k) v ∧ DiskR w' F p s S (c + 1) ∧ Keeps F w w' := by
  obtain ⟨r, h, hr⟩ := h
  have h1 := read_all h (k : Int) hbig
  rw [rd_in (S := S.rds r) hf hk] at h1
  refine h1.mono ?_
  rintro e w' ⟨v, rfl, h2, h3, h4⟩
  exact ⟨v, rfl, h2, ⟨_, h3, hr.read⟩, h4⟩
theorem dwrite (h : DiskR w F p s S c) (x : Int) (a : Option Addr) (n k : Nat) (l : List Int) (hs : Src w a n l) (hbig : S.puts.length + 1 ≤ 4000000000000) :
    Calls Try.prog 57 #[.pointer (some ⟨p, 0, none⟩), .int .i64 x, .slice a n k] w fun e w' => e = .returned (.int .i64 (S.wr s x n l).1) ∧ DiskR w' (Go.Proofs.Ytplpkppkaahchaa.more F w w') p s (S.wr s x n l).2 c ∧ Keeps F w w' := by
  obtain ⟨r, h, hr⟩ := h
  have h1 := write_all h x a n k l hs hbig
  rw [rds_wr] at h1
  refine h1.mono ?_
  rintro e w' ⟨rfl, h2, h3⟩
  exact ⟨rfl, ⟨r, h2, hr⟩, h3⟩
theorem dflush (h : DiskR w F p s S c) (hbig : S.puts.length + 1 ≤ 4000000000000) :
    Calls Try.prog 39 #[.pointer (some ⟨p, 0, none⟩)] w fun e w' => e = .returned (.int .i64 (S.fl s).1) ∧ DiskR w' F p s (S.fl s).2 c ∧ Keeps F w w' := by
  obtain ⟨r, h, hr⟩ := h
  have h1 := flush_all h hbig
  rw [rds_fl] at h1
  refine h1.mono ?_
  rintro e w' ⟨rfl, h2, h3⟩
  exact ⟨rfl, ⟨r, h2, hr⟩, h3⟩
theorem dcrash (h : DiskR w F p s S c) (hbig : S.puts.length + 1 ≤ 4000000000000) (a : Option Addr) (n k : Nat) (l : List P3) (hps : PSrc w a n l) (hn : n ≤ 140737488355328) (hF : ∀ x, a = some x → ¬ F x.block) :
    Calls Try.prog 27 #[.pointer (some ⟨p, 0, none⟩), .slice a n k] w fun e w' => e = .returned (.tuple #[]) ∧ DiskR w' F p s (S.crash s l) c ∧ Keeps F w w' := by
  obtain ⟨r, h, hr⟩ := h
  refine (crash_ok sorts sortn h (by show S.puts.length + 1 ≤ _; omega) a n k l hps hn hF).mono ?_
  rintro e w' ⟨rfl, h2, h3⟩
  exact ⟨rfl, ⟨r, h2, hr⟩, h3⟩
theorem dimage (h : DiskR w F p s S c) : Calls Try.prog 28 #[.pointer (some ⟨p, 0, none⟩)] w fun e w' => ∃ g c, e = .returned (.slice (some ⟨g, 0, none⟩) (s * 512) c) ∧ w.heap.size ≤ g ∧ RowAt w' 5 g c (bs S.im) ∧ Below w.heap.size w w' := Go.Proofs.Ytplpkppkaahchaa.dimage h.old
/-- Counts tells the very number: from there on that is the bound. -/
theorem dcounts (h : DiskR w F p s S c) (hbig : S.puts.length ≤ 140737488355328) (hc : c < 4611686018427387904) : Calls Try.prog 24 #[.pointer (some ⟨p, 0, none⟩)] w fun e w' => ∃ r : Nat, e = .returned (.agg #[.int .i64 (r : Int), .int .i64 S.writes, .int .i64 S.flushes, .int .i64 S.refused, .int .i64 (S.puts.length : Int)]) ∧ r ≤ c ∧ DiskR w' F p s S r ∧ Below w.heap.size w w' := by
  obtain ⟨r, h, hr⟩ := h
  have hr' := hr hc
  obtain ⟨k, rfl⟩ : ∃ k : Nat, r = (k : Int) := ⟨r.toNat, by omega⟩
  refine (counts_any p s F _ w h hbig).mono ?_
  rintro e w' ⟨rfl, h2⟩
  exact ⟨k, rfl, by omega, DiskR.later ⟨_, h, fun _ => by omega⟩ h2, h2⟩

theorem rds_anew (S : DS) (r : Int) (s f : Nat) (num : Int) (hf : S.fuse ≠ 0) : arenew (S.rds r) s f num = ((anew S s f num).1, (anew S s f num).2.rds (wrap64 (wrap64 (r + 1) + 1))) := by
  unfold arenew anew
  rw [if_neg hf]
  simp only [rds_now]
  have e : (S.rds r).read.read = S.rds (wrap64 (wrap64 (r + 1) + 1)) := rfl
  simp only [e, rds_wr]
  split
  · rfl
  · split
    · rfl
    · simp only [rds_fl]
theorem dnewest (h : DiskR w F p s S c) (f : Nat) (n : Int) (hbig : S.puts.length + 1 ≤ 4000000000000) (hf : S.fuse ≠ 0) (hs : f + 1 < s) (hb1 : Bytes (S.now f)) (hb2 : Bytes (S.now (f + 1))) :
    Calls Try.prog 62 #[areaV p f n] w fun e w' => e = .returned (.tuple #[.int .i64 ((lnewest (S.now f) (S.now (f + 1))).1 : Int), .int .i64 ((lnewest (S.now f) (S.now (f + 1))).2.1 : Int), .int .i64 ((lnewest (S.now f) (S.now (f + 1))).2.2 : Int)]) ∧ DiskR w' F p s S (c + 2) ∧ Keeps F w w' := by
  obtain ⟨r, h, hr⟩ := h
  refine (anewest_ok h f n hbig hf hs hb1 hb2).mono ?_
  rintro e w' ⟨rfl, h2, h3⟩
  exact ⟨rfl, ⟨_, h2, hr.read.read⟩, h3⟩
theorem drefusal (h : DiskR w F p s S c) (f n : Int) : Calls Try.prog 40 #[areaV p f n] w fun e w' => e = .returned (.int .i64 (lrefuse S s f n)) ∧ Below w.heap.size w w' := Go.Proofs.Ytplpkppkaahchaa.drefusal h.old f n
end

set_option maxRecDepth 20000 in
set_option maxHeartbeats 4000000 in
theorem renew_dead {w : World} {F : Nat → Prop} {p s c : Nat} {S : DS} (h : DiskR w F p s S c) (f : Nat) (n : Int) (E T : Int) (hbig : S.puts.length + 1 ≤ 4000000000000) (hf : S.fuse = 0) :
    Calls Try.prog 50 #[areaV p f n, .int .i64 E, .int .i64 T] w fun e w' => e = .returned (.int .i64 3) ∧ DiskR w' F p s S c ∧ Keeps F w w' := by
  obtain ⟨r, h, hr⟩ := h
  have hB := Keeps.boxed (w := w) F (.cells #[.pointer (some ⟨p, 0, none⟩), .int .i64 f, .int .i64 n] 64)
  have h1 := pair_dead (h.boxed (.cells #[.pointer (some ⟨p, 0, none⟩), .int .i64 f, .int .i64 n] 64)) f n hbig hf
  have HB := Hid.mk hB
  have HR := Hid.mk hr
  clear h hB hf hr
  go_enter Try.func50, Try.ntmps50
  go_wp2_with fail
  refine h1.mono ?_
  rintro e w1 ⟨rfl, hd, hk⟩
  have HD := Hid.mk hd
  have HK := Hid.mk (HB.out.trans hk (fun _ h => .inl h))
  clear hd hk h1
  go_wp2
  go_ret
  exact ⟨rfl, ⟨r, HD.out, HR.out⟩, HK.out⟩

theorem drenew {w : World} {F : Nat → Prop} {p s c : Nat} {S : DS} (h : DiskR w F p s S c) (f : Nat) (n : Int) (E T : Nat) (hE : E ≤ 1073741824) (hT : T ≤ 1073741824) (hbig : S.puts.length + 2 ≤ 4000000000000) (hs : f + 1 < s) (hb1 : Bytes (S.now f)) (hb2 : Bytes (S.now (f + 1))) :
    Calls Try.prog 50 #[areaV p f n, .int .i64 (E : Int), .int .i64 (T : Int)] w fun e w' => e = .returned (.int .i64 (anew S s f ((E : Int) * 4294967296 + T)).1) ∧ DiskR w' (more F w w') p s (anew S s f ((E : Int) * 4294967296 + T)).2 (c + 2) ∧ Keeps F w w' := by
  by_cases hf : S.fuse = 0
  · refine (renew_dead h f n E T (by omega) hf).mono ?_
    rintro e w' ⟨rfl, h1, h2⟩
    unfold anew
    rw [if_pos hf]
    exact ⟨rfl, h1.more.le (by omega), h2⟩
  · obtain ⟨r, h, hr⟩ := h
    have e' := rds_anew S r s f ((E : Int) * 4294967296 + T) hf
    have h1 := arenew_ok h f n E T hE hT hbig hf hs hb1 hb2
    rw [e'] at h1
    refine h1.mono ?_
    rintro e w' ⟨rfl, h2, h3⟩
    exact ⟨rfl, ⟨_, h2, hr.read.read⟩, h3⟩
end Go.Proofs.Ytplpkppkaahchaa.B
end

section
namespace Go.Proofs.Ytplpkppkaahchaa.B
open Go.RowKit

/-- A disk that has grown, told from an earlier world on. -/
theorem DiskR.from {w w1 w2 : World} {F : Nat → Prop} {p s c : Nat} {S : DS} (h : DiskR w2 (Go.Proofs.Ytplpkppkaahchaa.more F w1 w2) p s S c) (hl : ∀ k, F k → k < w.heap.size) (h1 : w.heap.size ≤ w1.heap.size) (h2 : w1.heap.size ≤ w2.heap.size) : DiskR w2 (Go.Proofs.Ytplpkppkaahchaa.more F w w2) p s S c :=
  h.mono (fun k hk => by rcases hk with hk | hk; exact .inl hk; exact .inr ⟨by omega, hk.2⟩) (more_lt hl (by omega))
theorem DiskR.join {w w1 w2 : World} {F : Nat → Prop} {p s c : Nat} {S : DS} (h : DiskR w2 (Go.Proofs.Ytplpkppkaahchaa.more (Go.Proofs.Ytplpkppkaahchaa.more F w w1) w1 w2) p s S c) (hl : ∀ k, F k → k < w.heap.size) (h1 : w.heap.size ≤ w1.heap.size) (h2 : w1.heap.size ≤ w2.heap.size) : DiskR w2 (Go.Proofs.Ytplpkppkaahchaa.more F w w2) p s S c :=
  h.mono (more_more h1 h2) (more_lt hl (by omega))
/-- Widened by what is new. -/
theorem DiskR.wide {w w1 w2 : World} {F : Nat → Prop} {p s c : Nat} {S : DS} (h : DiskR w2 (Go.Proofs.Ytplpkppkaahchaa.more F w w1) p s S c) (hl : ∀ k, F k → k < w.heap.size) (h1 : w.heap.size ≤ w1.heap.size) (h2 : w1.heap.size ≤ w2.heap.size) : DiskR w2 (Go.Proofs.Ytplpkppkaahchaa.more F w w2) p s S c :=
  h.mono (fun k hk => by rcases hk with hk | hk; exact .inl hk; exact .inr ⟨hk.1, by omega⟩) (more_lt hl (by omega))
section
variable {w : World} {F : Nat → Prop} {p s l cR : Nat} {S : DS} {L : LG}

theorem dead_any (h : DiskR w F p s S cR) (hl : LogP w l p L) :
    Calls Try.prog 51 #[.pointer (some ⟨l, 0, none⟩)] w fun e w' => e = .returned (.bool (L.dead S)) ∧ Below w.heap.size w w' := Go.Proofs.Ytplpkppkaahchaa.dead_any h.old hl
theorem unready_any (h : DiskR w F p s S cR) (hl : LogP w l p L) :
    Calls Try.prog 33 #[.pointer (some ⟨l, 0, none⟩)] w fun e w' => e = .returned (.int .i64 (L.unready S)) ∧ Below w.heap.size w w' := Go.Proofs.Ytplpkppkaahchaa.unready_any h.old hl

set_option maxRecDepth 20000 in
set_option maxHeartbeats 4000000 in
theorem Sync_any (h : DiskR w F p s S cR) (hl : LogP w l p L) (hF : ¬ F l) (hbig : S.puts.length + 1 ≤ 4000000000000) :
    Calls Try.prog 12 #[.pointer (some ⟨l, 0, none⟩)] w fun e w' => e = .returned (.int .i64 (L.sync S s).1) ∧ DiskR w' F p s (L.sync S s).2 cR ∧ LogP w' l p L ∧ Keeps F w w' := by
  have h1 := unready_any h hl
  have HL := Hid.mk hl
  have HD := Hid.mk h
  unfold LG.sync
  generalize L.unready S = U at *
  clear h hl
  by_cases q : U = 0
  · subst q
    rw [if_neg (by decide)]
    go_enter Try.func12, Try.ntmps12
    go_wp2_with fail
    refine h1.mono ?_
    rintro e w1 ⟨rfl, hb⟩
    have hl := HL.out.later hb
    have c0 := hl.c0
    have h2 := dflush (HD.out.later hb) hbig
    have HB := Hid.mk (Keeps.of_below F hb)
    have HL1 := Hid.mk hl
    clear hb h1 hl
    go_wp2_with fail
    refine h2.mono ?_
    rintro e w2 ⟨rfl, hd, hk⟩
    have HX := Hid.mk (And.intro hd (And.intro (HL1.out.keep hk hF) (HB.out.trans hk (fun _ h => .inl h))))
    clear hd hk h2
    go_wp2
    go_ret
    exact ⟨rfl, HX.out⟩
  · rw [if_pos q]
    have d : (U == 0) = false := by rw [beq_eq_false_iff_ne]; exact q
    go_enter Try.func12, Try.ntmps12
    go_wp2_with fail
    refine h1.mono ?_
    rintro e w1 ⟨rfl, hb⟩
    have HX := Hid.mk (And.intro (HD.out.later hb) (And.intro (HL.out.later hb) (Keeps.of_below F hb)))
    clear hb h1
    go_wp2
    go_ret
    exact ⟨rfl, HX.out⟩
end
end Go.Proofs.Ytplpkppkaahchaa.B
end

section
namespace Go.Proofs.Ytplpkppkaahchaa.B
open Go.RowKit

/-- The same, its map block m. -/
def DiskRM (w : World) (F : Nat → Prop) (p s : Nat) (S : DS) (m c : Nat) : Prop := ∃ r, DiskM w F p s (S.rds r) m ∧ Rb r c

section
variable {w w' : World} {F G : Nat → Prop} {p s m c : Nat} {S : DS}
theorem DiskRM.old (h : DiskRM w F p s S m c) : Go.Proofs.Ytplpkppkaahchaa.DiskRM w F p s S m := by obtain ⟨r, h, _⟩ := h; exact ⟨r, h⟩
theorem DiskRM.le {d : Nat} (h : DiskRM w F p s S m c) (hd : c ≤ d) : DiskRM w F p s S m d := by obtain ⟨r, h, hr⟩ := h; exact ⟨r, h, hr.le hd⟩
theorem DiskRM.r (h : DiskRM w F p s S m c) : DiskR w F p s S c := by obtain ⟨r, h, hr⟩ := h; exact ⟨r, h.at, hr⟩
theorem DiskR.some_m (h : DiskR w F p s S c) : ∃ m, DiskRM w F p s S m c := by
  obtain ⟨r, h, hr⟩ := h
  obtain ⟨m, h⟩ := h.m
  exact ⟨m, r, h, hr⟩
theorem DiskRM.keep (h : DiskRM w F p s S m c) (k : Keeps G w w') (hd : ∀ k, F k → ¬ G k) : DiskRM w' F p s S m c := by obtain ⟨r, h, hr⟩ := h; exact ⟨r, h.keep k hd, hr⟩
theorem DiskRM.later (h : DiskRM w F p s S m c) (hb : Below w.heap.size w w') : DiskRM w' F p s S m c := h.keep (Keeps.of_below (fun _ => False) hb) (fun _ _ h => h)
theorem DiskRM.mono (h : DiskRM w F p s S m c) (hG : ∀ k, F k → G k) (hl : ∀ k, G k → k < w.heap.size) : DiskRM w G p s S m c := by obtain ⟨r, h, hr⟩ := h; exact ⟨r, h.mono hG hl, hr⟩
theorem mread (h : DiskRM w F p s S m c) (k : Nat) (hk : k < s) (hbig : S.puts.length + 1 ≤ 4000000000000) (hf : S.fuse ≠ 0) :
    Calls Try.prog 54 #[.pointer (some ⟨p, 0, none⟩), .int .i64 (k : Int)] w fun e w' => ∃ g k', e = .returned (.tuple #[.slice (some ⟨g, 0, none⟩) 512 k', .int .i64 0]) ∧ w.heap.size ≤ g ∧ RowAt w' 5 g k' (bs (S.now k)) ∧ DiskRM w' F p s S m (c + 1) ∧ Keeps F w w' := by
  obtain ⟨r, h, hr⟩ := h
  refine (read_okm h k hf hk (by show S.puts.length ≤ _; omega)).mono ?_
  rintro e w' ⟨g, k', h1, h2, h3, h4, h5⟩
  exact ⟨g, k', h1, h2, h3, ⟨_, h4, hr.read⟩, h5⟩
theorem mwrite (h : DiskRM w F p s S m c) (k : Nat) (hk : k < s) (hbig : S.puts.length + 1 ≤ 4000000000000) (hf : S.fuse ≠ 0) (x : Addr) (k' : Nat) (l : List Int) (hs : Src w (some x) 512 l) :
    Calls Try.prog 57 #[.pointer (some ⟨p, 0, none⟩), .int .i64 (k : Int), .slice (some x) 512 k'] w fun e w' => e = .returned (.int .i64 0) ∧ DiskRM w' (more F w w') p s (S.wr s (k : Int) 512 l).2 m c ∧ Keeps F w w' := by
  obtain ⟨r, h, hr⟩ := h
  refine (write_okm h k hk hf (by show S.puts.length + 1 ≤ _; omega) x k' l hs).mono ?_
  rintro e w' ⟨h1, h2, h3⟩
  refine ⟨h1, ⟨r, ?_, hr⟩, h3⟩
  rw [wr_in hf hk]
  exact h2
end

set_option maxRecDepth 20000 in
set_option maxHeartbeats 8000000 in
theorem put_any {w : World} {F : Nat → Prop} {p s m cR : Nat} {S : DS} (h : DiskRM w F p s S m cR) (f n E P i c : Nat) (a : Option Addr) (x k : Nat) (l : List Int) (hs : Src w a x l) (hFs : ∀ y, a = some y → 0 < x → ¬ F y.block) (hb : Bytes l) (hx : x ≤ 492) (hca : a = none → k = 0) (hn : 1 ≤ n) (hfn : f + 2 + n ≤ s) (hbig : S.puts.length + 2 ≤ 4000000000000) :
    Calls Try.prog 37 #[areaV p f n, pieceV E P i c a x k] w fun e w' => e = .returned (.int .i64 (aput S s f n E P i c l).1) ∧ DiskRM w' (more F w w') p s (aput S s f n E P i c l).2 m (cR + 1) ∧ Keeps F w w' := by
  have hss := h.r.ok.hi
  have hok := h.r.ok
  have HLt := Hid.mk h.r.lt
  have hFa : ¬ F w.heap.size := fun h1 => by have := h.r.lt _ h1; omega
  have hFb : ¬ F (w.heap.size + 1) := fun h1 => by have := h.r.lt _ h1; omega
  have HN := Hid.mk (And.intro hFa hFb)
  have hmod : P % n < n := Nat.mod_lt _ hn
  have hB := below_two w (.cells #[.pointer (some ⟨p, 0, none⟩), .int .i64 f, .int .i64 n] 64) (.cells (pieceC E P i c a x k) 74)
  have hxA : ((w.alloc (.cells #[.pointer (some ⟨p, 0, none⟩), .int .i64 f, .int .i64 n] 64)).alloc (.cells (pieceC E P i c a x k) 74)).heap[w.heap.size]? = some (.cells #[.pointer (some ⟨p, 0, none⟩), .int .i64 f, .int .i64 n] 64 (0, 0)) := (Below.heap_alloc _ _ _ (by simp)).trans (heap_alloc_new _ _)
  have hxP : ((w.alloc (.cells #[.pointer (some ⟨p, 0, none⟩), .int .i64 f, .int .i64 n] 64)).alloc (.cells (pieceC E P i c a x k) 74)).heap[w.heap.size + 1]? = some (.cells (pieceC E P i c a x k) 74 (0, 0)) := by
    have := heap_alloc_new (w.alloc (.cells #[.pointer (some ⟨p, 0, none⟩), .int .i64 f, .int .i64 n] 64)) (.cells (pieceC E P i c a x k) 74)
    rwa [World.size_alloc] at this
  have hd0 := h.later hB
  have hs0 := hs.later hB
  have h1 := fun wx => aat_any p f n P wx (by omega) (by omega) (by omega) (by omega) (by omega)
  have HB := Hid.mk hB
  have HXA := Hid.mk hxA
  have HXP := Hid.mk hxP
  have HD := Hid.mk hd0
  have HS := Hid.mk hs0
  have HFs := Hid.mk hFs
  clear h hB hxA hxP hd0 hs0 hs hFa hFb hFs
  unfold aput
  by_cases q : S.fuse = 0
  · rw [if_pos q]
    go_enter Try.func37, Try.ntmps37
    go_wp2_with fail
    refine (h1 _).mono ?_
    rintro e w1 ⟨rfl, hb1⟩
    have hxA := (hb1.block _ (by simp; omega)).trans HXA.out
    have c0 := cell_of_block hxA (j := 0) rfl
    have h2 := dread_dead (HD.out.later hb1).r ((f : Int) + 2 + (P : Int) % (n : Int)) q
    have HZ := Hid.mk (And.intro ((((HD.out.later hb1).mono (G := more F w w1) (fun _ h => .inl h) (more_lt HLt.out (HB.out.trans (hb1.mono HB.out.size)).size))).le (by omega : cR ≤ cR + 1)) (Keeps.of_below F (HB.out.trans (hb1.mono HB.out.size))))
    clear h1 hb1 hxA
    go_wp2_with fail
    refine h2.mono ?_
    rintro e w2 ⟨rfl, rfl⟩
    clear h2
    go_wp2
    go_ret
    exact ⟨rfl, HZ.out⟩
  · rw [if_neg q]
    have hnl := now_len hok (f + 2 + P % n) (by omega)
    have hlx := HS.out.1
    have hso := sseal_full (old := S.now (f + 2 + P % n)) (body := pbody E P i c l) hnl (by rw [pbody_len]; omega)
    obtain ⟨Y, hY⟩ : ∃ Y, Y = sseal (S.now (f + 2 + P % n)) (pbody E P i c l) := ⟨_, rfl⟩
    rw [← hY] at hso ⊢
    have HY := Hid.mk hY
    clear hY
    have e1 : (f : Int) + 2 + (P : Int) % (n : Int) = ((f + 2 + P % n : Nat) : Int) := by omega
    rw [e1] at h1
    have HW1 := Hid.mk (wr_in q (show f + 2 + P % n < s by omega) Y.1)
    clear e1
    go_enter Try.func37, Try.ntmps37
    go_wp2_with fail
    refine (h1 _).mono ?_
    rintro e w1 ⟨rfl, hb1⟩
    have hxA := (hb1.block _ (by simp; omega)).trans HXA.out
    have hxP := (hb1.block _ (by simp)).trans HXP.out
    have c0 := cell_of_block hxA (j := 0) rfl
    have h2 := mread (HD.out.later hb1) (f + 2 + P % n) (by omega) (by omega) q
    have HB1 := Hid.mk (HB.out.trans (hb1.mono HB.out.size))
    have HS1 := Hid.mk (HS.out.later hb1)
    have HXA1 := Hid.mk hxA
    have HXP1 := Hid.mk hxP
    have HLt1 : Hid (∀ k, F k → k < w1.heap.size) := fun k hk => Nat.lt_of_lt_of_le (HLt.out k hk) HB1.out.size
    clear h1 hb1 hxA hxP
    go_wp2_with fail
    refine h2.mono ?_
    rintro e w2 ⟨g, cg, rfl, hg, hr, hd2, hk2⟩
    have hxA := box_after HXA1.out hk2 HN.out.1
    have hxP := box_after HXP1.out hk2 HN.out.2
    have q0 : w2.cell? ⟨w.heap.size + 1, 0, none⟩ = some (.int .i64 (E : Int)) := cell_of_block hxP (j := 0) rfl
    have q1 : w2.cell? ⟨w.heap.size + 1, 1, none⟩ = some (.int .i64 (P : Int)) := cell_of_block hxP (j := 1) rfl
    have q2 : w2.cell? ⟨w.heap.size + 1, 2, none⟩ = some (.int .i64 (i : Int)) := cell_of_block hxP (j := 2) rfl
    have q3 : w2.cell? ⟨w.heap.size + 1, 3, none⟩ = some (.int .i64 (c : Int)) := cell_of_block hxP (j := 3) rfl
    have q4 : w2.cell? ⟨w.heap.size + 1, 4, none⟩ = some (.slice a x k) := cell_of_block hxP (j := 4) rfl
    have hsrc2 : Src w2 a x l := HS1.out.avoid hk2 HFs.out
    have h3 := body_any E P i c a x k l w2 hsrc2 hx hca
    have hrs := hr.src
    rw [hnl] at hrs
    have HR := Hid.mk hrs
    have HD2 := Hid.mk hd2
    have HK2 := Hid.mk ((Keeps.of_below F HB1.out).trans hk2 (fun _ h => .inl h))
    have HXA2 := Hid.mk hxA
    clear h2 hr hrs hd2 hk2 hxA hxP hsrc2
    go_wp2_with fail
    refine h3.mono ?_
    rintro e w3 ⟨v, rfl, ho3, hb3⟩
    obtain ⟨a3, c3, rfl, hs3, _, _⟩ := ho3.src
    have h4 := seal_any (some ⟨g, 0, none⟩) 512 cg (S.now (f + 2 + P % n)) a3 _ c3 (pbody E P i c l) w3 (HR.out.later hb3) hs3 (pbody_bytes hb)
    rw [← HY.out, hso.1] at h4
    have HD3 := Hid.mk (HD2.out.later hb3)
    have HK3 := Hid.mk (HK2.out.trans (Keeps.of_below (fun _ => False) hb3) (fun _ h => h.elim))
    have HXA3 := Hid.mk ((hb3.block _ (lt_there HXA2.out)).trans HXA2.out)
    clear h3 ho3 hb3 hs3
    go_wp2_with fail
    refine h4.mono ?_
    rintro e w4 ⟨v4, rfl, ⟨a4, c4, rfl, hs4, _, _⟩, hb4⟩
    have hxA := (hb4.block _ (lt_there HXA3.out)).trans HXA3.out
    have c0 := cell_of_block hxA (j := 0) rfl
    rw [hso.2] at hs4 ⊢
    obtain ⟨b5, o5, rfl⟩ := src_spot hs4 (by omega)
    have h5 := mwrite (HD3.out.later hb4) (f + 2 + P % n) (by omega) (by omega) q ⟨b5, o5, none⟩ c4 Y.1 hs4
    have HK4 := Hid.mk (HK3.out.trans (Keeps.of_below (fun _ => False) hb4) (fun _ h => h.elim))
    clear h4 hb4 hs4 hxA
    go_wp2_with fail
    refine h5.mono ?_
    rintro e w5 ⟨rfl, hd5, hk5⟩
    have hz4 := HK4.out.size
    have hz5 := hk5.size
    have HZ := Hid.mk (And.intro ((hd5.mono (G := more F w w5) (fun k hk => by
        rcases hk with hk | hk
        · exact .inl hk
        · exact .inr ⟨by omega, hk.2⟩) (more_lt HLt.out (by omega)))) (HK4.out.trans hk5 (fun _ h => .inl h)))
    clear h5 hd5 hk5
    go_wp2
    go_ret
    rw [HW1.out] at HZ ⊢
    exact ⟨rfl, HZ.out⟩
end Go.Proofs.Ytplpkppkaahchaa.B
end

section
namespace Go.Proofs.Ytplpkppkaahchaa.B
open Go.RowKit

theorem DiskRM.narrow {w : World} {F G : Nat → Prop} {p s : Nat} {S : DS} {m cR : Nat} (h : DiskRM w F p s S m cR) (hG : ∀ k, F k → (IsC w k ∨ k = m) → G k) (hl : ∀ k, G k → k < w.heap.size) : DiskRM w G p s S m cR := by
  obtain ⟨r, h, hr⟩ := h
  exact ⟨r, h.narrow hG hl, hr⟩
theorem DiskRM.fm {w : World} {F : Nat → Prop} {p s : Nat} {S : DS} {m cR : Nat} (h : DiskRM w F p s S m cR) : F m := h.old.fm
theorem DiskRM.fc {w0 w w' : World} {F : Nat → Prop} {B p s : Nat} {S : DS} {m cR : Nat} (h : DiskRM w' (more (FC F B m w) w w') p s S m cR) (hB : B ≤ w.heap.size) (_h0 : w0 = w0) : DiskRM w' (FC F B m w') p s S m cR :=
  h.narrow (fun k hk hc => ⟨by
    rcases hk with hk | hk
    · exact hk.1
    · exact .inr (by omega), hc, h.r.lt k hk⟩) (fun _ hk => hk.2.2)
/-- What holds between the rounds of Append. -/
structure AppI (w W : World) (F : Nat → Prop) (l p s m M n0 : Nat) (L : LG) (S : DS) (d : List Int) (xs : List Nat) (cR : Nat) : Prop where
  ok : (appL L S s d xs).1 = 0
  dk : DiskRM W (FC F n0 m W) p s (appL L S s d xs).2 m (cR + xs.length)
  mrk : W.heap[M]? = some (.cells #[.int .i64 (L.ep : Int), .int .i64 ((L.head + xs.length : Nat) : Int), .int .i64 ((xs.length : Nat) : Int), .int .i64 ((cntOf d.length : Nat) : Int)] 68 (0, 0))
  bx : AppBox W w.heap.size l
  kp : Keeps F w W
  sz : n0 ≤ W.heap.size
/-- What holds behind a round that is refused. -/
structure AppX (w W : World) (F : Nat → Prop) (p s m n0 : Nat) (L : LG) (S : DS) (d : List Int) (xs : List Nat) (cR : Nat) : Prop where
  no : (appL L S s d xs).1 ≠ 0
  dk : DiskRM W (FC F n0 m W) p s (appL L S s d xs).2 m (cR + xs.length)
  er : W.heap[w.heap.size + 1]? = some (.cells #[.int .i64 (appL L S s d xs).1] 29 (0, 0))
  kp : Keeps F w W
  sz : n0 ≤ W.heap.size
theorem DiskRM.carry {W W' : World} {F : Nat → Prop} {p s m n0 cR : Nat} {S : DS} (h : DiskRM W (FC F n0 m W) p s S m cR) (hc : CellsIn W W') (hm : W'.heap[m]? = W.heap[m]?) (hz : W.heap.size ≤ W'.heap.size) : DiskRM W' (FC F n0 m W') p s S m cR := by
  obtain ⟨r, h, hr⟩ := h
  refine ⟨r, (h.agree hz (fun k hk => ?_)).mono (fun k hk => ⟨hk.1, ?_, by have := hk.2.2; omega⟩) (fun _ hk => hk.2.2), hr⟩
  · rcases hk.2.1 with ⟨cur, t, fz, hb⟩ | rfl
    · rw [hc _ _ _ _ hb, hb]
    · exact hm
  · rcases hk.2.1 with ⟨cur, t, fz, hb⟩ | h
    · exact .inl ⟨cur, t, fz, hc _ _ _ _ hb⟩
    · exact .inr h
section
variable {w W W' : World} {F : Nat → Prop} {l p s m M n0 cR : Nat} {L : LG} {S : DS} {d : List Int} {xs : List Nat}
theorem AppI.step (h : AppI w W F l p s m M n0 L S d xs cR) (hc : CellsIn W W') (hm : W'.heap[m]? = W.heap[m]?) (hz : W.heap.size ≤ W'.heap.size) (hk : Keeps F w W') : AppI w W' F l p s m M n0 L S d xs cR :=
  ⟨h.ok, h.dk.carry hc hm hz, hc _ _ _ _ h.mrk, ⟨hc _ _ _ _ h.bx.1, hc _ _ _ _ h.bx.2⟩, hk, Nat.le_trans h.sz hz⟩
theorem AppX.step (h : AppX w W F p s m n0 L S d xs cR) (hc : CellsIn W W') (hm : W'.heap[m]? = W.heap[m]?) (hz : W.heap.size ≤ W'.heap.size) (hk : Keeps F w W') : AppX w W' F p s m n0 L S d xs cR :=
  ⟨h.no, h.dk.carry hc hm hz, hc _ _ _ _ h.er, hk, Nat.le_trans h.sz hz⟩
theorem fc_lt_m (h : DiskRM W (FC F n0 m W) p s S m cR) : m < W.heap.size := h.fm.2.2
theorem AppI.grown {row : Option Nat} (h : AppI w W F l p s m M n0 L S d xs cR) (hm : m < n0) (hw : w.heap.size ≤ n0) (hg : W.grownBy W' row) (hr : ∀ r, row = some r → n0 ≤ r ∧ ∃ o : Obj, W.heap[r]? = some o ∧ o.isCells = false) : AppI w W' F l p s m M n0 L S d xs cR :=
  h.step (cellsIn_grown hg (fun r e => (hr r e).2)) (hg.block m (fc_lt_m h.dk) (fun e => by have := (hr m e.symm).1; omega)) hg.size (h.kp.grown hg (fun r e => by have := (hr r e).1; omega))
theorem AppX.grown {row : Option Nat} (h : AppX w W F p s m n0 L S d xs cR) (hm : m < n0) (hw : w.heap.size ≤ n0) (hg : W.grownBy W' row) (hr : ∀ r, row = some r → n0 ≤ r ∧ ∃ o : Obj, W.heap[r]? = some o ∧ o.isCells = false) : AppX w W' F p s m n0 L S d xs cR :=
  h.step (cellsIn_grown hg (fun r e => (hr r e).2)) (hg.block m (fc_lt_m h.dk) (fun e => by have := (hr m e.symm).1; omega)) hg.size (h.kp.grown hg (fun r e => by have := (hr r e).1; omega))
end
theorem DiskRM.fckeep {W W' : World} {F : Nat → Prop} {p s m n0 b cR : Nat} {S : DS} (h : DiskRM W (FC F n0 m W) p s S m cR) (hk : Keeps (fun k => k = b) W W') (hb : ¬ FC F n0 m W b) : DiskRM W' (FC F n0 m W') p s S m cR :=
  (h.keep hk (fun k hk e => hb (e ▸ hk))).mono (fun k hk' => ⟨hk'.1, by
    rcases hk'.2.1 with ⟨cur, t, fz, hc⟩ | h
    · exact .inl ⟨cur, t, fz, (hk.block k hk'.2.2 (fun e => hb (e ▸ hk'))).trans hc⟩
    · exact .inr h, by have := hk'.2.2; have := hk.size; omega⟩) (fun _ hk => hk.2.2)
theorem app_fin {w W : World} {F : Nat → Prop} {p s m n0 M l D cR : Nat} {S : DS} {L : LG} {e : Int} (hF : ∀ j, F j → j < w.heap.size) (hd : DiskRM W (FC F n0 m W) p s S m cR) (hl : LogP W l p L) (hk : Keeps (fun k => F k ∨ k = l) w W) (he : W.heap[w.heap.size + 1]? = some (.cells #[.int .i64 e] 29 (0, 0))) (hD : W.heap[D]? = some (.deferred (some [])))
    (hDn : n0 ≤ D) (hlw : l < w.heap.size) (hM : w.heap.size + 2 ≤ M) (hM2 : M < n0) (hmw : m < w.heap.size) :
    (W.putObj D (.deferred none)).cell? ⟨w.heap.size + 1, 0, none⟩ = some (.int .i64 e) ∧ DiskR (W.putObj D (.deferred none)) (more F w (W.putObj D (.deferred none))) p s S cR ∧ LogP (W.putObj D (.deferred none)) l p L ∧ Keeps (fun k => F k ∨ k = l) w (W.putObj D (.deferred none)) := by
  have hsz : (W.putObj D (.deferred none)).heap.size = W.heap.size := by simp [World.putObj]
  have hkD : Keeps (fun k => k = D) W (W.putObj D (.deferred none)) := ⟨rfl, rfl, rfl, by omega, fun k _ hn => World.putObj_heap_other hn⟩
  have hkz := hk.size
  refine ⟨cell_of_block ((hkD.block _ (lt_there he) (by omega)).trans he) (j := 0) rfl, ?_, hl.keep hkD (by omega), hk.trans hkD (fun _ h => .inr (by omega))⟩
  refine (hd.r.keep hkD (fun k hk e => ?_)).mono (fun k hk => ?_) (fun k hk => ?_)
  · rcases hk.2.1 with ⟨cur, t, fz, hc⟩ | h
    · rw [e, hD] at hc; cases hc
    · omega
  · rcases hk.1 with h | h
    · exact .inl h
    · exact .inr ⟨by omega, by have := hk.2.2; omega⟩
  · rcases hk with h | h
    · have := hF k h; omega
    · exact h.2
end Go.Proofs.Ytplpkppkaahchaa.B
end
