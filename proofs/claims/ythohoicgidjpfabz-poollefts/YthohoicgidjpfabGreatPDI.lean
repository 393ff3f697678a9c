import Derived.Test.YthohoicgidjpfabGreatW24
namespace Go.Proofs.YthohoicgidjpfabGreat
open Go.RowKit Go.Maps

/-- A list of numbers with a block of its own in X. -/
def ints (l : List Nat) : List Value := l.map fun (x : Nat) => .int .i64 ((x : Nat) : Int)
structure IL (w : World) (X : Nat → Prop) (v : Value) (l : List Nat) : Prop where
  own : w.ownsRow 0 3 1 v l.length (ints l)
  x : ∀ g, v.ownBlock = some g → X g
section
variable {w w' : World} {X Y Z : Nat → Prop} {v : Value} {l : List Nat}
theorem IL.nil (w : World) (X : Nat → Prop) : IL w X (.slice none 0 0) [] := ⟨World.ownsRow_nil _ _ _ _, fun g h => by simp [Value.ownBlock] at h⟩
theorem IL.mono (h : IL w X v l) (hX : ∀ g, X g → Y g) : IL w Y v l := ⟨h.own, fun g hg => hX g (h.x g hg)⟩
theorem IL.lt (h : IL w X v l) {g : Nat} (hg : v.ownBlock = some g) : g < w.heap.size := by
  obtain ⟨cur, hc⟩ := owns_block h.own hg
  exact lt_there hc
theorem IL.keep (h : IL w X v l) (hk : Keeps Z w w') (hZ : ∀ g, v.ownBlock = some g → ¬ Z g) : IL w' X v l :=
  ⟨owns_agree h.own (fun g hg => hk.block g (h.lt hg) (hZ g hg)), h.x⟩
theorem IL.later (h : IL w X v l) (hb : Below w.heap.size w w') : IL w' X v l := h.keep (Keeps.of_below (fun _ => False) hb) (fun _ _ h => h)
theorem IL.form (h : IL w X v l) : ∃ a c, v = .slice a l.length c := by
  obtain ⟨_, ⟨rfl, h0⟩ | ⟨g, cap, cur, rfl, _⟩⟩ := h.own
  · exact ⟨none, 0, by rw [h0]⟩
  · exact ⟨_, _, rfl⟩
theorem IL.at (h : IL w X v l) {i x : Nat} (hi : l[i]? = some x) : ∃ g c, v = .slice (some ⟨g, 0, none⟩) l.length c ∧ w.cell? ⟨g, i, none⟩ = some (.int .i64 (x : Int)) := by
  have hx : (ints l)[i]? = some (.int .i64 (x : Int)) := by unfold ints; rw [List.getElem?_map, hi]; rfl
  obtain ⟨_, ⟨rfl, h0⟩ | ⟨g, cap, cur, rfl, hr⟩⟩ := h.own
  · rw [List.length_eq_zero_iff.1 h0] at hi
    cases hi
  · refine ⟨g, cap, rfl, ?_⟩
    have := h.own.cells (g := g) rfl i _ hx
    rwa [addr_add, Nat.zero_add] at this
/-- One more number. -/
theorem IL.app (h : IL w X v l) (x : Nat) (hn : l.length ≤ 1000000) :
    ∃ g2 cap2 w2, (Builtin.append_ #[26, 26] 26 #[v, .slice (some ⟨w.heap.size, 0, none⟩) 1 1]).run Tryz.prog (w.alloc (.cells #[.int .i64 (x : Int)] 3)) = .ok (.slice (some ⟨g2, 0, none⟩) (l.length + 1) cap2) w2 ∧ IL w2 (fun j => X j ∨ w.heap.size ≤ j) (.slice (some ⟨g2, 0, none⟩) (l.length + 1) cap2) (l ++ [x]) ∧ Keeps (fun j => v.ownBlock = some j) w w2 ∧ (v.ownBlock = some g2 ∨ w.heap.size ≤ g2) := by
  obtain ⟨i0, hi, hz0, hz1, hz2⟩ := info_parts infoInt
  obtain ⟨g2, cap2, w2, hrun, hown, hgrow, hat, _⟩ := run_append_lies (P := Tryz.prog) (w.alloc (.cells #[.int .i64 (x : Int)] 3)) 26 26 0 3 i0 (.int .i64 0) 1 8 Tryz.underlying26 hi hz0 hz1 hz2 rfl (by decide) v l.length (ints l) (owns_agree h.own (fun g hg => Below.heap_alloc _ _ _ (h.lt hg))) ⟨w.heap.size, 0, none⟩ 1 1 [.int .i64 (x : Int)] rfl (World.news_of_block (cs := #[.int .i64 (x : Int)]) (t := 3) (fr := (0, 0)) (heap_alloc_new w _)) (by simp [Value.oneCell']) (by omega) (by unfold maxLen; omega) (by omega) (Nat.zero_le _) _ rfl
  have hbx := below_box w (.cells #[.int .i64 (x : Int)] 3)
  have hk : Keeps (fun j => v.ownBlock = some j) w w2 := ⟨hgrow.os.trans hbx.os, hgrow.tape.trans hbx.tape, hgrow.output.trans hbx.output, Nat.le_trans hbx.size hgrow.size, fun k hk hq => (hgrow.block k (Nat.lt_of_lt_of_le hk hbx.size) (fun e => hq e.symm)).trans (hbx.block k hk)⟩
  have hat' : v.ownBlock = some g2 ∨ w.heap.size ≤ g2 := hat.imp (fun e => e) (fun e => by simp at e; omega)
  refine ⟨g2, cap2, w2, hrun, ⟨?_, fun g' hq => ?_⟩, hk, hat'⟩
  · have e : ints (l ++ [x]) = ints l ++ [.int .i64 (x : Int)] := by unfold ints; rw [List.map_append]; rfl
    rw [e, List.length_append]
    exact hown
  · have eg : g2 = g' := by simpa [Value.ownBlock] using hq
    subst eg
    exact hat'.imp (fun e => h.x _ e) (fun e => e)
end
section
variable {G : SG} {S : DS} {T : TG}
theorem sees_put {bm : Nat} {d : List Int} (hok : CM.Ok T.puts) (i : Nat) : ({ T with puts := CM.put T.puts bm d } : TG).sees G S i = if i = bm then d else T.sees G S i := by
  show (CM.get (CM.put T.puts bm d) i).getD _ = _
  rw [CM.get_put _ _ _ _ hok]
  split <;> rfl
end
section
variable {w : World} {F : Nat → Prop} {p s cR q l m t n : Nat} {S : DS} {G : SG} {T : TG}
theorem get6_any (h : TX w F p s cR q l m t n S G T) (b : Nat) (r0 : T.refusal G S b = 0) : Calls Tryz.prog 30 #[.pointer (some ⟨t, 0, none⟩), .int .i64 (b : Int)] w fun e w' => (∃ g, e = .returned (.tuple #[.slice (some ⟨g, 0, none⟩) 512 512, .int .i64 0]) ∧ w.heap.size ≤ g ∧ Blk w' 112 g (T.sees G S b)) ∧ TX w' F p s (cR + 1) q l m t n S G T ∧ Keeps F w w' :=
  (Get_any h.st h.tx (b : Int) h.big).mono (fun e w' ⟨hx, hd, hk⟩ => by
    unfold GetOut at hx
    rw [if_neg (fun hh => hh r0), Int.toNat_natCast] at hx
    exact ⟨hx, h.asked hd hk, hk⟩)
end
end Go.Proofs.YthohoicgidjpfabGreat
