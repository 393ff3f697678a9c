import Derived.Test.YtcofkdaakkfcfabRef5
namespace Go.Proofs.Ytcofkdaakkfcfab
open Go.RowKit Go.Maps

/-- The torn sectors as they wait to be laid home. -/
def Fresh (w : World) (F : Nat → Prop) (S : DS) (l : List P3) (ks : List Nat) (xs : List Value) : Prop :=
  xs.length = ks.length * 2 ∧ ∀ i (hi : i < ks.length), ∃ g, xs[2 * i]? = some (.int .i64 ((ks[i] : Nat) : Int)) ∧ xs[2 * i + 1]? = some (.slice (some ⟨g, 0, none⟩) 512 512) ∧ F g ∧ RowAt w 5 g 512 (bs (cutOf S l ks[i]))

theorem Fresh.snoc {w w' : World} {F G : Nat → Prop} {S : DS} {l : List P3} {ks : List Nat} {xs : List Value} (h : Fresh w F S l ks xs) (hF : ∀ k, F k → G k) (hb : ∀ b ys, F b → RowAt w 5 b 512 ys → RowAt w' 5 b 512 ys) {k g : Nat} (hG : G g) (hr : RowAt w' 5 g 512 (bs (cutOf S l k))) :
    Fresh w' G S l (ks ++ [k]) (xs ++ [.int .i64 (k : Int), .slice (some ⟨g, 0, none⟩) 512 512]) := by
  obtain ⟨h1, h2⟩ := h
  refine ⟨by simp [h1]; omega, fun i hi => ?_⟩
  by_cases hi' : i < ks.length
  · obtain ⟨g', e1, e2, e3, e4⟩ := h2 i hi'
    refine ⟨g', ?_, ?_, hF _ e3, ?_⟩
    · rw [List.getElem?_append_left (by omega), e1, List.getElem_append_left hi']
    · rw [List.getElem?_append_left (by omega), e2]
    · rw [List.getElem_append_left hi']; exact hb _ _ e3 e4
  · have ei : i = ks.length := by simp at hi; omega
    subst ei
    refine ⟨g, ?_, ?_, hG, ?_⟩
    · rw [List.getElem?_append_right (by omega), show 2 * ks.length - xs.length = 0 by omega]
      simp
    · rw [List.getElem?_append_right (by omega), show 2 * ks.length + 1 - xs.length = 1 by omega]
      simp
    · simpa using hr

theorem Fresh.agree {w w' : World} {F G : Nat → Prop} {S : DS} {l : List P3} {ks : List Nat} {xs : List Value} (h : Fresh w F S l ks xs) (hF : ∀ k, F k → G k) (hb : ∀ b ys, F b → RowAt w 5 b 512 ys → RowAt w' 5 b 512 ys) : Fresh w' G S l ks xs :=
  ⟨h.1, fun i hi => by obtain ⟨g, e1, e2, e3, e4⟩ := h.2 i hi; exact ⟨g, e1, e2, hF _ e3, hb _ _ e3 e4⟩⟩

theorem keysOf_skip {S : DS} {k : Nat} (h : pendOf S.puts k = []) : keysOf S (k + 1) = keysOf S k := by rw [keysOf_succ, if_pos h, List.append_nil]
theorem keysOf_take {S : DS} {k : Nat} (h : pendOf S.puts k ≠ []) : keysOf S (k + 1) = keysOf S k ++ [k] := by rw [keysOf_succ, if_neg h]

theorem keysOf_none {S : DS} (h : S.puts = []) (s : Nat) : keysOf S s = [] := by
  unfold keysOf
  rw [List.filter_eq_nil_iff]
  intro k _
  simp [h, pendOf]

/-- The crash's first loop, one sector: its candidates and the torn one. -/
theorem rcrash_torn {w wr wx : World} {F : Nat → Prop} {S : DS} {l : List P3} {k s : Nat} (hok : S.Ok s) (hks : k < s) (hp : pendOf S.puts k ≠ []) {g c : Nat} {vs : List Value} (hr : RowAt wr 22 g c vs) (hv : VS w F S k vs) (hlt : ∀ b, F b → b < w.heap.size) (hb : Below w.heap.size w wr) (hx : Below wr.heap.size wr wx)
    (A B C : Int) (hq : pickN l (keysOf S k).length = (A, B, C)) (hA : A ≤ 9223372036854775807) (hB : B ≤ 9223372036854775807) (hC : C ≤ 9223372036854775807) :
    Calls Try.prog 60 #[.slice (some ⟨g, 0, none⟩) ((pendOf S.puts k).length + 1) c, .agg #[.int .i64 A, .int .i64 B, .int .i64 C]] wx fun e w' => ∃ g', e = .returned (.slice (some ⟨g', 0, none⟩) 512 512) ∧ wx.heap.size ≤ g' ∧ RowAt w' 5 g' 512 (bs (cutOf S l k)) ∧ Below wx.heap.size wx w' := by
  have hbx : Below w.heap.size w wx := hb.trans (hx.mono hb.size)
  have hvx : VS wx F S k vs := ⟨hv.1, fun j hj => by obtain ⟨g', c', e1, e2, e3⟩ := hv.2 j hj; exact ⟨g', c', e1, e2, e3.agree (hbx.block g' (hlt g' e2))⟩⟩
  have e : cutOf S l k = tornOf S k (max A 0).toNat (max B 0).toNat (max C 0).toNat := by
    unfold cutOf tornBy
    rw [if_neg hp, hq]
  rw [e]
  exact rtorn_at hok hks (hr.agree (hx.block g hr.lt)) hvx A B C _ _ _ (by omega) (by omega) (by omega) hA hB hC

/-- The first loop's step, when a torn sector has joined the list. -/
theorem fresh_step {w wr w5 w6 : World} {S : DS} {l : List P3} {k : Nat} {v v' : Value} {ys : List Value} {o : Obj} (hb : Below w.heap.size w wr) (hb5 : Below wr.heap.size wr w5) (hown : wr.ownsRow w.heap.size 88 2 v (keysOf S k).length ys)
    (hfr : Fresh wr (fun b => w.heap.size ≤ b ∧ b < wr.heap.size) S l (keysOf S k) ys) (hp : pendOf S.puts k ≠ []) {g : Nat} (hg : wr.heap.size ≤ g) (hr : RowAt w5 5 g 512 (bs (cutOf S l k))) (hgrow : (w5.alloc o).grownBy w6 v.ownBlock)
    (hown' : w6.ownsRow w.heap.size 88 2 v' ((keysOf S k).length + 1) (ys ++ [.int .i64 (k : Int), .slice (some ⟨g, 0, none⟩) 512 512])) :
    w6.ownsRow w.heap.size 88 2 v' (keysOf S (k + 1)).length (ys ++ [.int .i64 (k : Int), .slice (some ⟨g, 0, none⟩) 512 512]) ∧ Fresh w6 (fun b => w.heap.size ≤ b ∧ b < w6.heap.size) S l (keysOf S (k + 1)) (ys ++ [.int .i64 (k : Int), .slice (some ⟨g, 0, none⟩) 512 512]) ∧ Below w.heap.size w w6 := by
  have hz := hb.size
  have hz5 := hb5.size
  have hzs : (w5.alloc o).heap.size = w5.heap.size + 1 := by simp
  have hz6 := hgrow.size
  have hgl := hr.lt
  have hown5 : w5.ownsRow w.heap.size 88 2 v (keysOf S k).length ys := ownsRow_agree hown (fun b e => hb5.block b (hown.lt b e).2)
  have keep : ∀ b ys, RowAt w5 5 b 512 ys → RowAt w6 5 b 512 ys := fun b zs hb' => by
    have h1 := hb'.lt
    refine hb'.agree ((hgrow.block b (by omega) (fun e => ?_)).trans (Below.heap_alloc _ _ _ h1))
    have hb2 := hb'
    obtain ⟨cur, hbb, _⟩ := hb2
    exact ownsRow_ne hown5 e.symm hbb (by decide) rfl
  refine ⟨by rw [keysOf_take hp]; simpa using hown', ?_, ?_⟩
  · rw [keysOf_take hp]
    exact hfr.snoc (fun b h => ⟨h.1, by omega⟩) (fun b zs h hr' => keep b zs (hr'.agree (hb5.block b h.2))) ⟨by omega, by omega⟩ (keep g _ hr)
  · exact ((hb.trans (hb5.mono hz)).alloc (by omega) o).grown hgrow (by omega) (fun b e => (hown.lt b e).1)

theorem fresh_skip {w wr w5 : World} {S : DS} {l : List P3} {k : Nat} {v : Value} {ys : List Value} (hb : Below w.heap.size w wr) (hb5 : Below wr.heap.size wr w5) (hown : wr.ownsRow w.heap.size 88 2 v (keysOf S k).length ys)
    (hfr : Fresh wr (fun b => w.heap.size ≤ b ∧ b < wr.heap.size) S l (keysOf S k) ys) (hp : pendOf S.puts k = []) :
    w5.ownsRow w.heap.size 88 2 v (keysOf S (k + 1)).length ys ∧ Fresh w5 (fun b => w.heap.size ≤ b ∧ b < w5.heap.size) S l (keysOf S (k + 1)) ys ∧ Below w.heap.size w w5 := by
  have hz5 := hb5.size
  rw [keysOf_skip hp]
  exact ⟨ownsRow_agree hown (fun b e => hb5.block b (hown.lt b e).2), hfr.agree (fun b h => ⟨h.1, by omega⟩) (fun b zs h hr' => hr'.agree (hb5.block b h.2)), hb.trans (hb5.mono hb.size)⟩

theorem rcrash_end {w wr : World} {F G : Nat → Prop} {r s : Nat} {S : DS} {gl cl : Nat} {ls : List Value} {pv : Value} {xs : List Value} {im : List Int} {l : List P3} (h : RefRaw wr G r s { S with im := im } gl cl ls pv xs) (he : im = imOf s (cutOf S l)) (hF : F r) (hk : Keeps F w wr) :
    wr.cell? ⟨r, 1, none⟩ = some pv ∧ wr.frozen? ⟨r, 1, none⟩ = false ∧ (wr.setCell ⟨r, 1, none⟩ (.slice none 0 0)).cell? ⟨r, 2, none⟩ = some (.int .i64 S.fuse) ∧ (wr.setCell ⟨r, 1, none⟩ (.slice none 0 0)).frozen? ⟨r, 2, none⟩ = false ∧
    ((wr.setCell ⟨r, 1, none⟩ (.slice none 0 0)).setCell ⟨r, 2, none⟩ (.int .i64 (-1))).cell? ⟨r, 3, none⟩ = some (.int .i64 S.life) ∧ ((wr.setCell ⟨r, 1, none⟩ (.slice none 0 0)).setCell ⟨r, 2, none⟩ (.int .i64 (-1))).frozen? ⟨r, 3, none⟩ = false ∧
    RefRaw (((wr.setCell ⟨r, 1, none⟩ (.slice none 0 0)).setCell ⟨r, 2, none⟩ (.int .i64 (-1))).setCell ⟨r, 3, none⟩ (.int .i64 (wrap64 (S.life + 1)))) G r s (S.crash s l) gl cl ls (.slice none 0 0) [] ∧
    Keeps F w (((wr.setCell ⟨r, 1, none⟩ (.slice none 0 0)).setCell ⟨r, 2, none⟩ (.int .i64 (-1))).setCell ⟨r, 3, none⟩ (.int .i64 (wrap64 (S.life + 1)))) := by
  subst he
  obtain ⟨h1, hk1⟩ := h.dropped
  have h2 : RefRaw ((wr.setCell ⟨r, 1, none⟩ (.slice none 0 0)).setCell ⟨r, 2, none⟩ (.int .i64 (-1))) G r s { S with im := imOf s (cutOf S l), puts := [], fuse := -1 } gl cl ls (.slice none 0 0) [] :=
    h1.turn (h1.set 2 _).2 ((h1.set 2 _).1.trans (by simp [dkCells])) rfl rfl (by simp)
  have h3 : RefRaw (((wr.setCell ⟨r, 1, none⟩ (.slice none 0 0)).setCell ⟨r, 2, none⟩ (.int .i64 (-1))).setCell ⟨r, 3, none⟩ (.int .i64 (wrap64 (S.life + 1)))) G r s (S.crash s l) gl cl ls (.slice none 0 0) [] :=
    h2.turn (h2.set 3 _).2 ((h2.set 3 _).1.trans (by simp [dkCells, DS.crash])) rfl rfl (by simp [DS.crash])
  exact ⟨cell_of_block h.blk (j := 1) rfl, frozen_of_block h.blk 1, cell_of_block h1.blk (j := 2) rfl, frozen_of_block h1.blk 2, cell_of_block h2.blk (j := 3) rfl, frozen_of_block h2.blk 3, h3,
    ((hk.trans hk1 (fun j hj => .inl (hj ▸ hF))).trans (h1.set 2 _).2 (fun j hj => .inl (hj ▸ hF))).trans (h2.set 3 _).2 (fun j hj => .inl (hj ▸ hF))⟩

/-- The cells of the list of torn sectors. -/
theorem fresh_cells {w wr : World} {G : Nat → Prop} {S : DS} {l : List P3} {ks : List Nat} {v : Value} {ys : List Value} {base : Nat} (hown : w.ownsRow base 88 2 v ks.length ys) (hfr : Fresh wr G S l ks ys) :
    ∃ a c, v = .slice a ks.length c ∧ (0 < ks.length → ∃ gf, a = some ⟨gf, 0, none⟩ ∧ base ≤ gf ∧ ∀ i (hi : i < ks.length), ∃ g, w.cell? ⟨gf, i * 2, none⟩ = some (.int .i64 ((ks[i] : Nat) : Int)) ∧ w.cell? ⟨gf, i * 2 + 1, none⟩ = some (.slice (some ⟨g, 0, none⟩) 512 512) ∧ G g ∧ RowAt wr 5 g 512 (bs (cutOf S l ks[i]))) := by
  have hp := hown
  obtain ⟨_, ⟨e, hn⟩ | ⟨gp, cap, cur, e, hg, _⟩⟩ := hown
  · exact ⟨none, 0, by rw [e, hn], fun h0 => by omega⟩
  · refine ⟨_, _, e, fun _ => ⟨gp, rfl, hg, fun i hi => ?_⟩⟩
    obtain ⟨g, h1, h2, h3, h4⟩ := hfr.2 i hi
    have k1 := hp.cells (g := gp) (by rw [e]; rfl) _ _ h1
    have k2 := hp.cells (g := gp) (by rw [e]; rfl) _ _ h2
    rw [addr_add, Nat.zero_add] at k1 k2
    exact ⟨g, by rw [Nat.mul_comm]; exact k1, by rw [Nat.mul_comm]; exact k2, h3, h4⟩

end Go.Proofs.Ytcofkdaakkfcfab
