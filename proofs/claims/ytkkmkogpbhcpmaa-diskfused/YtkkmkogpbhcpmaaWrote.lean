import Derived.Test.YtkkmkogpbhcpmaaRead
namespace Go.Proofs.Ytkkmkogpbhcpmaa
open Go.RowKit Go.Maps

def DS.spend (S : DS) : DS := { S with fuse := if 0 < S.fuse then S.fuse - 1 else S.fuse }
def DS.put (S : DS) (k : Nat) (l : List Int) : DS := { S with puts := S.puts ++ [(k, l)] }

theorem pendOf_snoc (puts : List (Nat × List Int)) (k : Nat) (l : List Int) (j : Nat) : pendOf (puts ++ [(k, l)]) j = if j = k then pendOf puts k ++ [l] else pendOf puts j := by
  unfold pendOf
  by_cases h : j = k
  · subst h; simp
  · have : (k == j) = false := by simp; omega
    simp [h, List.filter_append, this]

theorem pendOf_len (puts : List (Nat × List Int)) (k : Nat) : (pendOf puts k).length ≤ puts.length := by unfold pendOf; rw [List.length_map]; exact List.length_filter_le _ _

/-- What the map and the rows tell of one sector, in every world in which they are as they were. -/
theorem DiskRaw.sector {w : World} {F : Nat → Prop} {p s : Nat} {S : DS} {gi ci m : Nat} {D : DataW Value} {gr cr : Nat → Nat} (h : DiskRaw w F p s S gi ci m D gr cr) {k : Nat} (hk : k < s) :
    ∃ a cc xs, (∀ wx : World, wx.heap[m]? = w.heap[m]? → (Instr.lookup 96 (.map (some m)) (.int .i64 (k : Int)) false).run Try.prog wx = .ok (.slice a (pendOf S.puts k).length cc) wx) ∧
      (∀ wx : World, (pendOf S.puts k ≠ [] → wx.heap[gr k]? = w.heap[gr k]?) → wx.ownsRow 0 27 1 (.slice a (pendOf S.puts k).length cc) (pendOf S.puts k).length xs) ∧
      Rows' w F gi xs (pendOf S.puts k) ∧ (pendOf S.puts k = [] → a = none ∧ cc = 0) ∧ (pendOf S.puts k ≠ [] → a = some ⟨gr k, 0, none⟩ ∧ cc = cr k) := by
  have hs := h.ok.hi
  have key := keyOf_nat k (by omega)
  by_cases hp : pendOf S.puts k = []
  · refine ⟨none, 0, [], fun wx hx => ?_, fun wx _ => ?_, ?_, fun _ => ⟨rfl, rfl⟩, fun h => absurd hp h⟩
    · obtain ⟨v, ps, hrun, hv⟩ := (ownsMap_agree h.map hx).lookup keyInt Try.underlying96 (zeroRows wx) (zd := .held (.slice none 0 0)) (zp := []) rfl key
      rw [Maps.atKey_of_not_has (h.pend.nope k hp)] at hv
      obtain ⟨⟨a, n, c⟩, rfl⟩ := Rs_inv v _ hv
      rw [Rs_mk] at hv
      simp [mkS] at hv
      obtain ⟨⟨rfl, rfl, rfl⟩, _⟩ := hv
      rw [hp]; exact hrun
    · rw [hp]; exact World.ownsRow_nil _ _ _ _
    · rw [hp]; trivial
  · obtain ⟨_, xs, hrow, hrows⟩ := h.pend.row k hp
    refine ⟨some ⟨gr k, 0, none⟩, cr k, xs, fun wx hx => ?_, fun wx hx => ?_, hrows, fun h => absurd h hp, fun _ => ⟨rfl, rfl⟩⟩
    · obtain ⟨v, ps, hrun, hv⟩ := (ownsMap_agree h.map hx).lookup keyInt Try.underlying96 (zeroRows wx) (zd := .held (.slice none 0 0)) (zp := []) rfl key
      rw [h.pend.look k hp] at hv
      obtain ⟨⟨a, n, c⟩, rfl⟩ := Rs_inv v _ hv
      rw [Rs_mk] at hv
      simp [mkS] at hv
      obtain ⟨⟨rfl, rfl, rfl⟩, _⟩ := hv
      exact hrun
    · have := (hrow.agree (hx hp)).owns
      rw [hrows.length] at this
      exact this

theorem DiskRaw.wrote {w w3 : World} {F : Nat → Prop} {p s : Nat} {S : DS} {gi ci m : Nat} {D : DataW Value} {gr cr : Nat → Nat} (h : DiskRaw w F p s S gi ci m D gr cr) {k : Nat} (hk : k < s) {l : List Int} (hl : l.length = 512) {xs : List Value}
    (hrows : Rows' w F gi xs (pendOf S.puts k)) {g cg g2 cap2 : Nat} (hke : Keeps (fun b => b = m ∨ (pendOf S.puts k ≠ [] ∧ b = gr k)) w w3) (hg : w.heap.size ≤ g) (hr : RowAt w3 5 g cg (bs l))
    (hown : w3.ownsRow 0 27 1 (.slice (some ⟨g2, 0, none⟩) ((pendOf S.puts k).length + 1) cap2) ((pendOf S.puts k).length + 1) (xs ++ [.slice (some ⟨g, 0, none⟩) 512 cg]))
    (hg2 : (pendOf S.puts k ≠ [] ∧ g2 = gr k) ∨ w.heap.size ≤ g2) (hmap : w3.ownsMap Try.prog 3 Rs m (S.puts.length + 1) (D.put (kk k) (.held (.slice (some ⟨g2, 0, none⟩) ((pendOf S.puts k).length + 1) cap2)))) :
    DiskRaw w3 (more F w w3) p s (S.put k l) gi ci m (D.put (kk k) (.held (.slice (some ⟨g2, 0, none⟩) ((pendOf S.puts k).length + 1) cap2))) (fun j => if j = k then g2 else gr j) (fun j => if j = k then cap2 else cr j) := by
  obtain ⟨g2', c2', hv, _, hr2, hlen⟩ := RowAt.of_owns hown (by simp)
  cases hv
  have hD := h.map.isMap
  have hkey : WideAt.IsKeyLit (kk k) := trivial
  have hpm : p ≠ m := fun e => ownsMap_ne h.map h.blk e.symm
  have rowne : ∀ b, pendOf S.puts k ≠ [] → b = gr k → ∃ cur, w.heap[b]? = some (.cells cur 27 (0, 0)) := fun b hp e => by
    obtain ⟨_, ys, ⟨cur, hb, _⟩, _⟩ := h.pend.row k hp
    exact ⟨cur, by rw [e]; exact hb⟩
  have stay : ∀ (b : Nat) (cur : Array Value) (e : TypeId), w.heap[b]? = some (Obj.cells cur e (0, 0)) → e ≠ 27 → w3.heap[b]? = w.heap[b]? := fun b cur e hb he => by
    refine hke.block b ((Array.getElem?_eq_some_iff.1 hb).1) (fun hn => ?_)
    rcases hn with hn | ⟨hp, hn⟩
    · exact ownsMap_ne h.map (hn ▸ hb) rfl
    · obtain ⟨cur', hb'⟩ := rowne b hp hn
      rw [hb] at hb'
      simp at hb'
      exact he hb'.2
  have stay5 : ∀ b c ys, RowAt w 5 b c ys → RowAt w3 5 b c ys := fun b c ys hb => by
    have hb' := hb
    obtain ⟨cur, hb1, _⟩ := hb'
    exact hb.agree (stay b cur _ hb1 (by decide))
  have hsz := hke.size
  have hFm : ∀ b, F b → more F w w3 b := fun b hb => .inl hb
  refine ⟨.inl h.fp, .inl h.fgi, .inl h.fm, fun b hb => ?_, ?_, stay5 _ _ _ h.img, by simpa [DS.put] using hmap, ⟨?_, ?_, ?_, ?_, ?_⟩, ⟨h.ok.len, h.ok.lo, h.ok.hi, fun q hq => ?_, h.ok.fuse⟩⟩
  · rcases hb with hb | hb
    · exact Nat.lt_of_lt_of_le (h.lt b hb) hsz
    · exact hb.2
  · rw [stay p _ _ h.blk (by decide)]; exact h.blk
  · intro kl hkl
    by_cases he : kl = kk k
    · exact ⟨k, he, by rw [DS.put, pendOf_snoc, if_pos rfl]; simp⟩
    · rw [Maps.has_put_other he] at hkl
      obtain ⟨j, rfl, hj⟩ := h.pend.keys kl hkl
      exact ⟨j, rfl, by rw [DS.put, pendOf_snoc]; split; simp; exact hj⟩
  · intro j hj
    rw [DS.put, pendOf_snoc] at hj
    split at hj
    · simp at hj
    · rename_i hne
      rw [Maps.has_put_other (by simp [kk]; omega)]
      exact h.pend.nope j hj
  · intro j hj z
    rw [DS.put, pendOf_snoc] at hj ⊢
    by_cases he : j = k
    · subst he
      simp only [if_true]
      rw [Maps.atKey_put_same hD hkey]
      simp
    · simp only [he, if_false] at hj ⊢
      rw [Maps.atKey_put_other (by simp [kk]; omega)]
      exact h.pend.look j hj z
  · intro j hj
    rw [DS.put, pendOf_snoc] at hj ⊢
    by_cases he : j = k
    · subst he
      simp only [if_true]
      refine ⟨?_, _, hr2, ?_⟩
      · rcases hg2 with ⟨hp, e⟩ | hg2
        · rw [e]; exact .inl (h.pend.row j hp).1
        · exact .inr ⟨hg2, hr2.lt⟩
      · refine Rows'.snoc ⟨g, cg, rfl, .inr ⟨hg, hr.lt⟩, ?_, hr⟩ ((hrows.carry (fun b c ys _ _ hb => stay5 b c ys hb)).mono hFm)
        intro e
        have := h.lt gi h.fgi
        omega
    · simp only [he, if_false] at hj ⊢
      obtain ⟨hF, ys, hry, hrs⟩ := h.pend.row j hj
      refine ⟨.inl hF, ys, hry.agree (hke.block _ hry.lt (fun hn => ?_)), (hrs.carry (fun b c ys _ _ hb => stay5 b c ys hb)).mono hFm⟩
      rcases hn with hn | ⟨hp, hn⟩
      · obtain ⟨cur, hb, _⟩ := hry
        exact ownsMap_ne h.map (hn ▸ hb) rfl
      · exact he (h.pend.inj j k hj hp hn)
  · intro j j' hj hj' e
    rw [DS.put, pendOf_snoc] at hj hj'
    by_cases h1 : j = k <;> by_cases h2 : j' = k
    · omega
    · subst h1
      simp only [if_true, h2, if_false] at e hj'
      rcases hg2 with ⟨hp, e2⟩ | hg2
      · exact (h.pend.inj j j' hp hj' (by omega))
      · have := h.lt _ (h.pend.row j' hj').1
        omega
    · subst h2
      simp only [if_true, h1, if_false] at e hj
      rcases hg2 with ⟨hp, e2⟩ | hg2
      · exact (h.pend.inj j j' hj hp (by omega))
      · have := h.lt _ (h.pend.row j hj).1
        omega
    · simp only [h1, h2, if_false] at e hj hj'
      exact h.pend.inj j j' hj hj' e
  · simp only [DS.put, List.mem_append, List.mem_singleton] at hq
    rcases hq with hq | rfl
    · exact h.ok.puts q hq
    · exact ⟨hk, hl⟩

theorem write_end {w w1 w2 : World} {F : Nat → Prop} {p s : Nat} {S : DS} {gi ci m : Nat} {D : DataW Value} {gr cr : Nat → Nat} (h : DiskRaw w F p s S gi ci m D gr cr) {k : Nat} (hk : k < s) {l : List Int} (hl : l.length = 512) {xs : List Value}
    {a : Option Addr} {cc : Nat} (hrows : Rows' w F gi xs (pendOf S.puts k)) (hnil : pendOf S.puts k = [] → a = none ∧ cc = 0) (hsome : pendOf S.puts k ≠ [] → a = some ⟨gr k, 0, none⟩ ∧ cc = cr k) {g cg g2 cap2 : Nat} {o : Obj}
    (hb1 : Below w.heap.size w w1) (hg : w.heap.size ≤ g) (hr : RowAt w1 5 g cg (bs l))
    (hown : w2.ownsRow 0 27 1 (.slice (some ⟨g2, 0, none⟩) ((pendOf S.puts k).length + 1) cap2) ((pendOf S.puts k).length + 1) (xs ++ [.slice (some ⟨g, 0, none⟩) 512 cg]))
    (hgrow : (w1.alloc o).grownBy w2 (Value.slice a (pendOf S.puts k).length cc).ownBlock) (hat : (Value.slice a (pendOf S.puts k).length cc).ownBlock = some g2 ∨ g2 = w1.heap.size + 1) (hbig : S.puts.length + 1 ≤ 5000000000000) :
    w2.heap[p]? = w.heap[p]? ∧ w2.heap[m]? = w.heap[m]? ∧ ∃ w3, (Instr.mapUpdate 96 (.map (some m)) (.int .i64 (k : Int)) (.slice (some ⟨g2, 0, none⟩) ((pendOf S.puts k).length + 1) cap2)).run Try.prog w2 = .ok () w3 ∧
      DiskRaw w3 (more F w w3) p s (S.put k l) gi ci m (D.put (kk k) (.held (.slice (some ⟨g2, 0, none⟩) ((pendOf S.puts k).length + 1) cap2))) (fun j => if j = k then g2 else gr j) (fun j => if j = k then cap2 else cr j) ∧ Keeps F w w3 ∧ w3.heap[p]? = w.heap[p]? := by
  have hs := h.ok.hi
  have hb2 : Below w.heap.size w (w1.alloc o) := hb1.alloc hb1.size o
  have hown' : ∀ b, some b = (Value.slice a (pendOf S.puts k).length cc).ownBlock → pendOf S.puts k ≠ [] ∧ b = gr k := fun b e => by
    by_cases hp : pendOf S.puts k = []
    · rw [(hnil hp).1] at e; simp [Value.ownBlock] at e
    · rw [(hsome hp).1] at e
      simp [Value.ownBlock] at e
      exact ⟨hp, e⟩
  have stay : ∀ b, b < w.heap.size → ¬ (pendOf S.puts k ≠ [] ∧ b = gr k) → w2.heap[b]? = w.heap[b]? := fun b hb hn =>
    (hgrow.block b (Nat.lt_of_lt_of_le hb hb2.size) (fun e => hn (hown' b e))).trans (hb2.block b hb)
  have hrow : ∀ b, pendOf S.puts k ≠ [] ∧ b = gr k → ∃ cur, w.heap[b]? = some (.cells cur 27 (0, 0)) := fun b hp => by
    obtain ⟨_, ys, ⟨cur, hb, _⟩, _⟩ := h.pend.row k hp.1
    exact ⟨cur, by rw [hp.2]; exact hb⟩
  have hp2 : w2.heap[p]? = w.heap[p]? := stay p (h.lt p h.fp) (fun hn => by
    obtain ⟨cur, hb⟩ := hrow p hn
    rw [h.blk] at hb
    simp at hb)
  have hm2 : w2.heap[m]? = w.heap[m]? := stay m (h.lt m h.fm) (fun hn => by
    obtain ⟨cur, hb⟩ := hrow m hn
    exact ownsMap_ne h.map hb rfl)
  obtain ⟨w3, hrun, hmap, hg3⟩ := (ownsMap_agree h.map hm2).update keyInt Try.underlying96 (by unfold maxLen; omega) (keyOf_nat k (by omega)) (show Rs (.slice (some ⟨g2, 0, none⟩) ((pendOf S.puts k).length + 1) cap2) = some (.held _, []) from rfl)
  have hml := h.lt m h.fm
  have hgl := hr.lt
  have hsz1 := hb1.size
  have hszs : (w1.alloc o).heap.size = w1.heap.size + 1 := by simp
  have hsz2 := hgrow.size
  have hsz3 := hg3.size
  have hgm : g ≠ m := by omega
  obtain ⟨g2', c2', hv, _, hr2, _⟩ := RowAt.of_owns hown (by simp)
  cases hv
  have hg2m : g2 ≠ m := fun e => by
    obtain ⟨cur, hb, _⟩ := hr2
    rw [e] at hb
    exact ownsMap_ne (ownsMap_agree h.map hm2) hb rfl
  have hr3 : RowAt w3 5 g cg (bs l) := by
    refine (hr.agree ?_)
    rw [hg3.block g (by omega) (by simpa using hgm), hgrow.block g (by omega) (fun e => ?_), Below.heap_alloc _ _ _ hgl]
    have := hown' g e
    have := h.lt _ (h.pend.row k this.1).1
    omega
  have hke : Keeps (fun b => b = m ∨ (pendOf S.puts k ≠ [] ∧ b = gr k)) w w3 :=
    ⟨hg3.os.trans (hgrow.os.trans hb2.os), hg3.tape.trans (hgrow.tape.trans hb2.tape), hg3.output.trans (hgrow.output.trans hb2.output), by omega, fun b hb hn =>
      (hg3.block b (by omega) (fun e => hn (.inl (by simpa using e)))).trans (stay b hb (fun hx => hn (.inr hx)))⟩
  refine ⟨hp2, hm2, w3, hrun, h.wrote hk hl hrows hke hg hr3 (hown.kept hg3 (.inr (by simpa [Value.ownBlock] using hg2m))) ?_ hmap, hke.mono (fun b hb => ?_), (hg3.block p (by have := h.lt p h.fp; omega) (fun e => ownsMap_ne h.map h.blk (by simpa using e.symm))).trans hp2⟩
  · rcases hat with e | e
    · exact .inl (hown' g2 e.symm)
    · exact .inr (by omega)
  · rcases hb with rfl | ⟨hp, rfl⟩
    · exact h.fm
    · exact (h.pend.row k hp).1

theorem DiskRaw.wrotes {w : World} {F : Nat → Prop} {p s : Nat} {S : DS} {gi ci m : Nat} {D : DataW Value} {gr cr : Nat → Nat} (h : DiskRaw w F p s S gi ci m D gr cr) :
    DiskRaw (w.setCell ⟨p, 5, none⟩ (.int .i64 (wrap64 (S.writes + 1)))) F p s { S with writes := wrap64 (S.writes + 1) } gi ci m D gr cr :=
  h.turn (h.set 5 _).2 ((h.set 5 _).1.trans (by simp [dkCells])) rfl rfl h.ok.fuse
theorem DiskRaw.spends {w : World} {F : Nat → Prop} {p s : Nat} {S : DS} {gi ci m : Nat} {D : DataW Value} {gr cr : Nat → Nat} (h : DiskRaw w F p s S gi ci m D gr cr) :
    DiskRaw (if 0 < S.fuse then w.setCell ⟨p, 2, none⟩ (.int .i64 (wrap64 (S.fuse - 1))) else w) F p s S.spend gi ci m D gr cr ∧ Keeps F w (if 0 < S.fuse then w.setCell ⟨p, 2, none⟩ (.int .i64 (wrap64 (S.fuse - 1))) else w) := by
  have hl := h.ok.fuse
  by_cases hp : 0 < S.fuse
  · rw [if_pos hp]
    have e : wrap64 (S.fuse - 1) = S.fuse - 1 := by unfold wrap64; omega
    refine ⟨h.turn (h.set 2 _).2 ((h.set 2 _).1.trans ?_) rfl rfl ?_, Keeps.setCell w h.fp _⟩
    · rw [e]
      simp [dkCells, DS.spend, hp]
    · simp only [DS.spend, if_pos hp]; omega
  · rw [if_neg hp]
    have e : S.spend = S := by simp [DS.spend, hp]
    rw [e]
    exact ⟨h, Keeps.refl _ _⟩

end Go.Proofs.Ytkkmkogpbhcpmaa
