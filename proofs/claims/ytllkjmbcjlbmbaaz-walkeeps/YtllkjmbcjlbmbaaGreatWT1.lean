import Derived.Test.YtllkjmbcjlbmbaaGreatW23
namespace Go.Proofs.YtllkjmbcjlbmbaaGreat
open Go.RowKit Go.Maps

theorem wpList_appendRun {P : Program} {ops : Array Oper} {Q : Exit → Act → World → Prop} {o : Oper} {rest : List Oper} {a : Act} {w w' : World} (hg : o.guard = none) (s x : Operand) (t : TypeId) (ho : o.op = .call { callee := .builtin .append, args := #[s, x], argTypes := #[t, t] }) (v u r : Value) (hs : a.eval s = v) (hx : a.eval x = u)
    (hr : (Builtin.append_ #[t, t] o.type #[v, u]).run P w = .ok r w') (h : wpList P ops Q rest (a.put o.dst r) w') : wpList P ops Q (o :: rest) a w :=
  wpList_plain hg fun _ hK => wp_append_run s x t ho v u r hs hx hr (hK _ _ h)
set_option maxRecDepth 20000 in
set_option maxHeartbeats 2000000 in
theorem sm_ne (a b : Option Addr) (n m c d : Nat) (w : World) (h : n ≠ m) :
    Calls Tryz.prog 27 #[.slice a n c, .slice b m d] w fun e w' => e = .returned (.bool false) ∧ w' = w := by
  have h' : (((n : Int)) != (m : Int)) = true := by rw [bne_iff_ne]; omega
  go_enter Tryz.func27, Tryz.ntmps27
  go_wp2
  go_ret
  exact ⟨rfl, rfl⟩
set_option maxRecDepth 20000 in
set_option maxHeartbeats 2000000 in
theorem sm_low (b o b' o' : Nat) (n c d : Nat) (l l' : List Int) (w : World) (hn : n ≤ 140737488355328) (hl : l.length = n) (hl' : l'.length = n) (h1 : ∀ i, i < n → w.cell? ⟨b, o + i, none⟩ = some (.int .u8 (l.getD i 0))) (h2 : ∀ i, i < n → w.cell? ⟨b', o' + i, none⟩ = some (.int .u8 (l'.getD i 0))) :
    Calls Tryz.prog 27 #[.slice (some ⟨b, o, none⟩) n c, .slice (some ⟨b', o', none⟩) n d] w fun e w' => e = .returned (.bool (decide (l = l'))) ∧ Below w.heap.size w w' := by
  have h' : (((n : Int)) != (n : Int)) = false := by simp
  have H1 := Hid.mk h1
  have H2 := Hid.mk h2
  clear h1 h2
  go_enter Tryz.func27, Tryz.ntmps27
  go_wp2
  go_loopw [5] (fun i wr => ∃ k : Nat, k ≤ n ∧ i = .int .i64 k ∧ l.take k = l'.take k ∧ Below w.heap.size w wr) (fun i _ => n - (intOf i).toNat)
  case atStart => exact ⟨0, Nat.zero_le _, rfl, by simp, Below.refl _ _⟩
  case round =>
    obtain ⟨k, hk, rfl, htk, hb⟩ := hrel
    have Htk := Hid.mk htk
    clear htk
    by_cases hlt : k < n
    · have c1 := cell_later hb (H1.out k hlt)
      have c2 := cell_later hb (H2.out k hlt)
      have hlt' : (k : Int) < (n : Int) := by omega
      by_cases hx : l.getD k 0 = l'.getD k 0
      · have Hnx := Hid.mk (take_eq_next Htk.out (by omega) (by omega) hx)
        have hb2 := Hid.mk (fun j => below_drewN hb j)
        rw [hx] at c1
        generalize l'.getD k 0 = x at *
        clear hx
        go_wp2
        go_quiet (fail)
        go_wp2
        go_roundw
        case rel => exact ⟨k + 1, by omega, by go_num, Hnx.out, below_drewN hb _⟩
        case measure => simp [intOf]; omega
      · have hne : l ≠ l' := ne_of_getD hx
        have hd : Hid (decide (l = l') = false) := by show decide (l = l') = false; simp [hne]
        have hxx : ((l.getD k 0) != (l'.getD k 0)) = true := by rw [bne_iff_ne]; exact hx
        generalize l'.getD k 0 = x at *
        generalize l.getD k 0 = y at *
        clear hx hne
        go_wp2
        go_quiet (fail)
        go_wp2
        go_ret
        exact ⟨by rw [hd.out]; rfl, below_drewN hb _⟩
    · have hlt' : ¬ (k : Int) < (n : Int) := by omega
      have hd : Hid (decide (l = l') = true) := by
        have := Htk.out
        rw [List.take_of_length_le (by omega), List.take_of_length_le (by omega)] at this
        show decide (l = l') = true
        simp [this]
      go_wp2
      go_ret
      exact ⟨by rw [hd.out]; rfl, hb⟩
set_option maxRecDepth 20000 in
set_option maxHeartbeats 1000000 in
theorem sm_zero (a b : Option Addr) (c d : Nat) (w : World) :
    Calls Tryz.prog 27 #[.slice a 0 c, .slice b 0 d] w fun e w' => e = .returned (.bool true) ∧ w' = w := by
  go_enter Tryz.func27, Tryz.ntmps27
  go_wp2
  refine wp_loop_rounds 1 ?_; rw [rounds_succ]; go_wp2
  go_ret
  exact ⟨rfl, rfl⟩
theorem sm_any (a b : Option Addr) (n m c d : Nat) (l l' : List Int) (w : World) (hn : n ≤ 140737488355328) (h1 : Src w a n l) (h2 : Src w b m l') :
    Calls Tryz.prog 27 #[.slice a n c, .slice b m d] w fun e w' => e = .returned (.bool (decide (l = l'))) ∧ Below w.heap.size w w' := by
  by_cases hnm : n = m
  · subst hnm
    by_cases h0 : n = 0
    · subst h0
      have e1 := List.eq_nil_of_length_eq_zero h1.1
      have e2 := List.eq_nil_of_length_eq_zero h2.1
      subst e1 e2
      exact (sm_zero a b c d w).mono (by rintro e w' ⟨rfl, rfl⟩; exact ⟨rfl, Below.refl _ _⟩)
    · cases a with
      | none => exact absurd (h1.2.1 rfl) h0
      | some x =>
        cases b with
        | none => exact absurd (h2.2.1 rfl) h0
        | some y =>
          obtain ⟨b1, o1, rfl, k1⟩ := h1.spot (by omega)
          obtain ⟨b2, o2, rfl, k2⟩ := h2.spot (by omega)
          exact sm_low b1 o1 b2 o2 n c d l l' w hn h1.1 h2.1 k1 k2
  · have hd : decide (l = l') = false := by
      have : l ≠ l' := fun e => hnm (by rw [← h1.1, ← h2.1, e])
      simp [this]
    rw [hd]
    exact (sm_ne a b n m c d w hnm).mono (by rintro e w' ⟨rfl, rfl⟩; exact ⟨rfl, Below.refl _ _⟩)

/-- The sectors of an image, as slices of it. -/
def cutsOf (g c : Nat) (j : Nat) : List Value := (List.range j).map fun k => .slice (some ⟨g, k * 512, none⟩) 512 (c - k * 512)

theorem cutsOf_succ (g c j : Nat) : cutsOf g c j ++ [.slice (some ⟨g, j * 512, none⟩) 512 (c - j * 512)] = cutsOf g c (j + 1) := by
  simp [cutsOf, List.range_succ]
theorem cutsOf_len (g c j : Nat) : (cutsOf g c j).length = j := by simp [cutsOf]

set_option maxHeartbeats 4000000 in
theorem parts_any (g c s : Nat) (w : World) (hc : s * 512 ≤ c) (h1 : 1 ≤ s) (h2 : s ≤ 2048) :
    Calls Tryz.prog 36 #[.slice (some ⟨g, 0, none⟩) (s * 512) c] w fun e w' => ∃ q cq, e = .returned (.slice (some ⟨q, 0, none⟩) s cq) ∧ w.heap.size ≤ q ∧ RowAt w' 35 q cq (cutsOf g c s) ∧ Below w.heap.size w w' := by
  obtain ⟨i0, hi0, hz0, hz1, hz2⟩ := info_parts infoRow
  obtain ⟨n, hn⟩ : ∃ n, n = s * 512 := ⟨_, rfl⟩
  rw [← hn]
  have Hn := Hid.mk hn
  rw [← hn] at hc
  have hn20 : n ≤ 1048576 := by omega
  clear hn
  go_enter Tryz.func36, Tryz.ntmps36
  go_wp2
  go_loopw [3, 4] (fun v i wr => ∃ j : Nat, j ≤ s ∧ i = .int .i64 ((j * 512 : Nat) : Int) ∧ wr.ownsRow w.heap.size 35 1 v j (cutsOf g c j) ∧ Below w.heap.size w wr) (fun _ i _ => n - (intOf i).toNat)
  case atStart => exact ⟨0, Nat.zero_le _, rfl, World.ownsRow_nil _ _ _ _, Below.refl _ _⟩
  case round =>
    obtain ⟨j, hj, rfl, hown, hb⟩ := hrel
    obtain ⟨m, hm⟩ : ∃ m : Nat, m = j * 512 := ⟨_, rfl⟩
    obtain ⟨m2, hm2⟩ : ∃ m2 : Nat, m2 = m + 512 := ⟨_, rfl⟩
    rw [← hm]
    have x2 : IntKind.i64.wrap ((m : Int) + 512) = (m2 : Int) := by have := Hn.out; rw [IntKind.wrap_i64]; all_goals omega
    have x3 : wrap64 ((m : Int) + 512) = (m2 : Int) := by have := Hn.out; unfold wrap64; omega
    by_cases hlt : j < s
    · have hnn := Hn.out
      have y1 : (m2 : Int) ≤ (n : Int) := by omega
      have y2 : (m2 : Int) ≤ (c : Int) := by omega
      have y3 : m ≤ m2 := by omega
      have y4 : ¬ c = m := by omega
      have y5 : m2 - m = 512 := by omega
      have hwz := hb.size
      have hms : m2 = (j + 1) * 512 := by omega
      have Hms := Hid.mk hms
      have Hm := Hid.mk hm
      have hnew := cutsOf_succ g c j
      rw [← hm] at hnew
      have Hnew := Hid.mk hnew
      have Hown := Hid.mk hown
      obtain ⟨av, cv, hv⟩ : ∃ a c, u3 = .slice a j c := by
        obtain ⟨_, ⟨e, hn⟩ | ⟨g, cap, cur, e, _⟩⟩ := hown
        · exact ⟨none, 0, by rw [e, hn]⟩
        · exact ⟨_, _, e⟩
      subst hv
      clear hown hnn hms hm hm2 hnew
      go_wp2_with (at_builtin; refine wpList_append_own _ rfl _ _ 29 rfl w.heap.size 35 i0 (.slice none 0 0) 1 24 Tryz.underlying29 hi0 hz0 hz1 hz2 rfl (by decide) _ _ _ rfl (Hown.out.alloc _) ⟨wr.heap.size, 0, none⟩ 1 1 [.slice (some ⟨g, m, none⟩) 512 (c - m)] rfl rfl ?qa (by intro u hu; simp at hu; subst hu; rfl) (by unfold maxLen; omega) (by omega) (by simp; omega) ?_)
      case qa => first | exact cell_one_new _ _ _ | (simp only [Nat.zero_add]; exact cell_one_new _ _ _)
      intro v' w3 hown' hgrow hnil
      have hb3 : Below w.heap.size w w3 := (hb.alloc hwz _).grown hgrow (by simp; omega) (fun k e => (Hown.out.lt k e).1)
      have hown3 : w3.ownsRow w.heap.size 35 1 v' (j + 1) (cutsOf g c (j + 1)) := by rw [← Hnew.out]; exact hown'
      have Hz := Hid.mk (And.intro hown3 hb3)
      have hmn : m < n := by omega
      clear hown' hgrow hnil hown3 hb3 Hown Hnew hb
      go_wp2
      go_roundw
      case rel => exact ⟨j + 1, by omega, by rw [← Hms.out], Hz.out⟩
      case measure => simp [intOf]; omega
    · have y1 : ¬ (m2 : Int) ≤ (n : Int) := by have := Hn.out; omega
      have ej : j = s := by omega
      subst ej
      obtain ⟨g2, cap2, hv, hg2, hr2, _⟩ := RowAt.of_owns hown (by rintro rfl; rcases hown.2 with ⟨_, h⟩ | ⟨_, _, _, h, _⟩; omega; cases h)
      have Hq := Hid.mk (And.intro hg2 (And.intro hr2 hb))
      subst hv
      clear hown hr2 hb hg2 hm hm2
      go_wp2
      go_ret
      exact ⟨_, _, rfl, Hq.out⟩

/-- The next record is appended. -/
theorem recs_add {W : World} {B : Nat} {v : Value} {rs : List (List Int)} (h : RecsAt W B v rs (fun _ => False)) {g c : Nat} {d : List Int} (hr : RowAt W 5 g c (bs d)) (hB : B ≤ g) (hBW : B ≤ W.heap.size) (hrs : rs.length ≤ 1000000) :
    ∃ v' w', (Builtin.append_ #[29, 29] 29 #[v, .slice (some ⟨W.heap.size, 0, none⟩) 1 1]).run Tryz.prog (W.alloc (.cells #[.slice (some ⟨g, 0, none⟩) d.length c] 35)) = .ok v' w' ∧ RecsAt w' B v' (rs ++ [d]) (fun _ => False) ∧ Below B W w' ∧ ∀ (b : Nat) (cur : Array Value), W.heap[b]? = some (.cells cur 5 (0, 0)) → w'.heap[b]? = some (.cells cur 5 (0, 0)) := by
  obtain ⟨vs, h1, h2⟩ := h
  obtain ⟨g', cap', w', hrun, ho, hg⟩ := app_rec h1 (.slice (some ⟨g, 0, none⟩) d.length c) rfl hrs hBW
  have hbx := below_box W (.cells #[.slice (some ⟨g, 0, none⟩) d.length c] 35)
  have h1' : (W.alloc (.cells #[.slice (some ⟨g, 0, none⟩) d.length c] 35)).ownsRow B 35 1 v rs.length vs := owns_agree h1 (fun x hx => by
    obtain ⟨cur, hc⟩ := owns_block h1 hx
    exact hbx.block x (lt_there hc))
  refine ⟨_, w', hrun, recs_push h1' (fun i hi => ?_) (hr.agree (hbx.block g hr.lt)) hB ho hg, ?_, fun b cur hb => ?_⟩
  · obtain ⟨x, y, e1, e2, e3, _⟩ := h2 i hi
    exact ⟨x, y, e1, e2.agree (hbx.block x e2.lt), e3⟩
  · exact (hbx.mono hBW).grown hg (Nat.le_trans hBW hbx.size) (fun x hx => own_lo h1 hx)
  · exact grown_other hg (fun x hx => owns_block h1' hx) ((hbx.block b (lt_there hb)).trans hb) (by decide)

/-- A sector's worth of an image in memory. -/
theorem src_sector {w : World} {g c k : Nat} {im : List Int} (h : RowAt w 5 g c (bs im)) (hk : k * 512 + 512 ≤ im.length) : Src w (some ⟨g, k * 512, none⟩) 512 (dsec im k) := by
  refine ⟨by unfold dsec; rw [List.length_take, List.length_drop]; omega, (fun e => by cases e), fun y e i hi => ?_⟩
  cases e
  rw [addr_add]
  have hlt : k * 512 + i < im.length := by omega
  have hv : (bs im)[k * 512 + i]? = some (.int .u8 ((dsec im k).getD i 0)) := by
    unfold bs dsec
    rw [List.getElem?_map, List.getElem?_eq_getElem hlt]
    simp only [Option.map_some, List.getD, List.getElem?_take, List.getElem?_drop]
    rw [if_pos hi, List.getElem?_eq_getElem hlt]
    rfl
  exact h.cell hv

/-- How many of the first k sectors hold something else than what lasts. -/
def chg (S : DS) : Nat → Nat
  | 0 => 0
  | k + 1 => chg S k + if S.now k = dsec S.im k then 0 else 1
/-- How many writes pend in the first k sectors. -/
def pendN (puts : List (Nat × List Int)) : Nat → Nat
  | 0 => 0
  | k + 1 => pendN puts k + (pendOf puts k).length
theorem pendN_nil : ∀ k, pendN [] k = 0
  | 0 => rfl
  | k + 1 => by unfold pendN; rw [pendN_nil k]; rfl
theorem pendN_cons (q : Nat × List Int) (r : List (Nat × List Int)) : ∀ k, pendN (q :: r) k = pendN r k + if q.1 < k then 1 else 0
  | 0 => by simp [pendN]
  | k + 1 => by
    have ih := pendN_cons q r k
    have e : (pendOf (q :: r) k).length = (pendOf r k).length + if q.1 = k then 1 else 0 := by
      unfold pendOf
      by_cases h : q.1 = k
      · simp [h]
      · simp [h]
    unfold pendN
    rw [ih, e]
    by_cases h1 : q.1 < k
    · rw [if_pos h1, if_neg (by omega), if_pos (by omega)]; omega
    · by_cases h2 : q.1 = k
      · rw [if_neg h1, if_pos h2, if_pos (by omega)]; omega
      · rw [if_neg h1, if_neg h2, if_neg (by omega)]; omega
theorem pendN_all (s : Nat) : ∀ (r : List (Nat × List Int)), (∀ q ∈ r, q.1 < s) → pendN r s = r.length
  | [], _ => pendN_nil s
  | q :: r, h => by
    rw [pendN_cons, pendN_all s r (fun x hx => h x (List.mem_cons_of_mem _ hx)), if_pos (h q (List.mem_cons_self ..))]
    rfl
theorem chg_pend {S : DS} (h : Once S) : ∀ k, chg S k = pendN S.puts k
  | 0 => rfl
  | k + 1 => by
    unfold chg pendN
    rw [chg_pend h k]
    by_cases hp : pendOf S.puts k = []
    · rw [if_pos (now_none _ _ hp), hp]; rfl
    · rw [if_neg (h.ne hp)]
      obtain ⟨l, _, e, _⟩ := h.pend hp
      rw [e]; rfl
theorem chg_all {S : DS} {s : Nat} (h : Once S) (hok : S.Ok s) : chg S s = S.puts.length := by
  rw [chg_pend h, pendN_all s S.puts (fun q hq => (hok.puts q hq).1)]
theorem chg_le (S : DS) : ∀ k, chg S k ≤ k
  | 0 => Nat.le_refl _
  | k + 1 => by have := chg_le S k; unfold chg; split <;> omega
end Go.Proofs.YtllkjmbcjlbmbaaGreat
