import Derived.Test.YthohoicgidjpfabGreatPD2
import Derived.Test.YthohoicgidjpfabGreatPDI
namespace Go.Proofs.YthohoicgidjpfabGreat
open Go.RowKit

/-- What the document's pool answers to State. -/
def MP.state (M : MP) : Int := if M.dead then 3 else if M.opn then M.bad else 4
/-- A put of a block. -/
def MP.puts (M : MP) (b : Nat) : Int × MP := if b ∈ M.put then (0, M) else if M.put.length = 16 then (50, { M with bad := 50 }) else (0, { M with put := M.put ++ [b] })
/-- A bitmap is laid. -/
def MP.lays (M : MP) (b : Nat) (l : List Bool) : Int × MP :=
  if (if b = 1 then M.nn else M.nb) = l then (0, M) else if (M.puts b).1 ≠ 0 then M.puts b else (0, if b = 1 then { (M.puts b).2 with nn := l } else { (M.puts b).2 with nb := l })
section
variable {w w' : World} {X Y Z : Nat → Prop} {k g1 c1 g2 c2 g3 c3 g4 c4 : Nat} {v5 v6 v7 v7' : Value} {M M' : MP}
theorem MAt.turn (h : MAt w X k g1 c1 g2 c2 g3 c3 g4 c4 v5 v6 v7 M) (hk : Keeps Z w w') (hZ : ∀ g, Z g → ∃ cur t fz, w.heap[g]? = some (.cells cur t fz) ∧ t ≠ 4 ∧ t ≠ 5 ∧ t ≠ 44) (hY : ∀ j, X j → Y j)
    (hb : w'.heap[k]? = some (.cells (mpC M' (slB g1 c1) (slB g2 c2) (slB g3 c3) (slB g4 c4) v5 v6 v7') 72 (0, 0))) (hput : NX w' Y v7' M'.put) (e1 : M'.ob = M.ob) (e2 : M'.on = M.on) (e3 : M'.nb = M.nb) (e4 : M'.nn = M.nn) (e5 : M'.oraw = M.oraw) (e6 : M'.raw = M.raw) (e7 : M'.opn = M.opn) :
    MAt w' Y k g1 c1 g2 c2 g3 c3 g4 c4 v5 v6 v7' M' := by
  have hb1 : ∀ g, Z g → ∃ cur t fz, w.heap[g]? = some (.cells cur t fz) ∧ t ≠ 4 := fun g hg => by obtain ⟨a, t, f, q1, q2, _⟩ := hZ g hg; exact ⟨a, t, f, q1, q2⟩
  have hb2 : ∀ g, Z g → ∃ cur t fz, w.heap[g]? = some (.cells cur t fz) ∧ t ≠ 5 ∧ t ≠ 44 := fun g hg => by obtain ⟨a, t, f, q1, _, q3⟩ := hZ g hg; exact ⟨a, t, f, q1, q3⟩
  exact ⟨hb, hY _ h.xk, by rw [e1]; exact ⟨hY _ h.ob.1, h.ob.2.1.unlike hk hb1, h.ob.2.2⟩, by rw [e2]; exact ⟨hY _ h.on.1, h.on.2.1.unlike hk hb1, h.on.2.2⟩, by rw [e3]; exact ⟨hY _ h.nb.1, h.nb.2.1.unlike hk hb1, h.nb.2.2⟩, by rw [e4]; exact ⟨hY _ h.nn.1, h.nn.2.1.unlike hk hb1, h.nn.2.2⟩, h.n12, h.n13, h.n14, h.n23, h.n24, h.n34, by rw [e5]; exact (h.oraw.keep hk hb2).mono hY, by rw [e6]; exact (h.raw.keep hk hb2).mono hY, hput, by rw [e7]; exact h.own⟩
theorem MX.mono (h : MX w X k M) (hY : ∀ j, X j → Y j) : MX w Y k M := by
  obtain ⟨g1, c1, g2, c2, g3, c3, g4, c4, v5, v6, v7, h⟩ := h
  exact ⟨g1, c1, g2, c2, g3, c3, g4, c4, v5, v6, v7, h.b, hY _ h.xk, ⟨hY _ h.ob.1, h.ob.2⟩, ⟨hY _ h.on.1, h.on.2⟩, ⟨hY _ h.nb.1, h.nb.2⟩, ⟨hY _ h.nn.1, h.nn.2⟩, h.n12, h.n13, h.n14, h.n23, h.n24, h.n34, h.oraw.mono hY, h.raw.mono hY, ⟨h.put.1, fun g hg => hY _ (h.put.2 g hg)⟩, h.own⟩
theorem MX.later (h : MX w X k M) (hb : Below w.heap.size w w') : MX w' X k M := h.apart (Keeps.of_below (fun _ => False) hb) (fun _ h => h.elim)
set_option maxRecDepth 20000 in
theorem mstate_any (h : MX w X k M) : Calls Tryz.prog 27 #[.pointer (some ⟨k, 0, none⟩)] w fun e w' => e = .returned (.int .i64 M.state) ∧ w' = w := by
  obtain ⟨g1, c1, g2, c2, g3, c3, g4, c4, v5, v6, v7, h⟩ := h
  have h10 : w.cell? ⟨k, 10, none⟩ = some (.int .i64 M.bad) := cell_of_block h.b (j := 10) rfl
  have h11 : w.cell? ⟨k, 11, none⟩ = some (.bool M.opn) := cell_of_block h.b (j := 11) rfl
  have h12 : w.cell? ⟨k, 12, none⟩ = some (.bool M.dead) := cell_of_block h.b (j := 12) rfl
  clear h
  unfold MP.state
  generalize M.bad = x at *
  cases hd : M.dead
  · cases ho : M.opn
    · rw [hd] at h12
      rw [ho] at h11
      clear hd ho
      go_enter Tryz.func27, Tryz.ntmps27
      go_wp2
      go_ret
      exact ⟨rfl, rfl⟩
    · rw [hd] at h12
      rw [ho] at h11
      clear hd ho
      go_enter Tryz.func27, Tryz.ntmps27
      go_wp2
      go_ret
      exact ⟨rfl, rfl⟩
  · rw [hd] at h12
    clear hd h11
    go_enter Tryz.func27, Tryz.ntmps27
    go_wp2
    go_ret
    exact ⟨rfl, rfl⟩
set_option maxRecDepth 20000 in
set_option maxHeartbeats 4000000 in
theorem puts_any (h : MX w X k M) (b : Nat) (hl : M.put.length ≤ 16) : Calls Tryz.prog 63 #[.pointer (some ⟨k, 0, none⟩), .int .i64 (b : Int)] w fun e w' => e = .returned (.int .i64 (M.puts b).1) ∧ MX w' (more X w w') k (M.puts b).2 ∧ Keeps X w w' := by
  obtain ⟨g1, c1, g2, c2, g3, c3, g4, c4, v5, v6, v7, h⟩ := h
  have hil : IL w X v7 M.put := ⟨h.put.1, h.put.2⟩
  obtain ⟨pa, pc, hv⟩ := hil.form
  subst hv
  have c9 : w.cell? ⟨k, 9, none⟩ = some (.slice pa M.put.length pc) := cell_of_block h.b (j := 9) rfl
  have c10 : w.cell? ⟨k, 10, none⟩ = some (.int .i64 M.bad) := cell_of_block h.b (j := 10) rfl
  have f9 := frozen_of_block h.b 9
  have f10 := frozen_of_block h.b 10
  have H := Hid.mk h
  have HL := Hid.mk hil
  clear h hil
  obtain ⟨n, hn⟩ : ∃ n, n = M.put.length := ⟨_, rfl⟩
  rw [← hn] at c9 hl
  have HN := Hid.mk hn
  clear hn
  go_enter Tryz.func63, Tryz.ntmps63
  go_wp2
  go_loopw [5] (fun iv wr => ∃ j : Nat, j ≤ n ∧ iv = .int .i64 (j : Int) ∧ b ∉ M.put.take j ∧ wr = w) (fun iv _ => n - (intOf iv).toNat)
  case atStart => exact ⟨0, Nat.zero_le _, rfl, by simp, rfl⟩
  case round =>
    obtain ⟨j, hj, rfl, hno, hwr⟩ := hrel
    subst hwr
    by_cases hlt : j < n
    · have hlt' : (j : Int) < (n : Int) := by omega
      have hjl : j < M.put.length := by have := HN.out; omega
      obtain ⟨g, c', e1, e2⟩ := HL.out.at (List.getElem?_eq_getElem hjl)
      obtain ⟨rfl, rfl⟩ : pa = some ⟨g, 0, none⟩ ∧ pc = c' := by cases e1; exact ⟨rfl, rfl⟩
      have hts := List.take_succ_eq_append_getElem hjl
      obtain ⟨y, hy⟩ : ∃ y, y = M.put[j] := ⟨_, rfl⟩
      rw [← hy] at hts e2
      by_cases he : y = b
      · subst he
        have hm : y ∈ M.put := by rw [hy]; exact List.getElem_mem _
        have HE : Hid (M.puts y = (0, M)) := by show M.puts y = (0, M); unfold MP.puts; rw [if_pos hm]
        clear hts hno hy e1 hm
        go_wp2
        go_ret
        rw [HE.out]
        exact ⟨rfl, MX.mono ⟨_, _, _, _, _, _, _, _, _, _, _, H.out⟩ (fun _ h => .inl h), Keeps.refl _ _⟩
      · have he' : ((y : Int) == (b : Int)) = false := by rw [beq_eq_false_iff_ne]; omega
        have HNo : Hid (b ∉ M.put.take (j + 1)) := fun hm => by
          rw [hts, List.mem_append] at hm
          rcases hm with hm | hm
          · exact hno hm
          · simp at hm
            exact he hm.symm
        clear hts hno hy e1 he
        go_wp2
        go_roundw
        case rel => exact ⟨j + 1, by omega, by go_num, HNo.out, trivial⟩
        case measure => simp [intOf]; omega
    · obtain rfl : j = n := by omega
      have hlt' : ¬ (j : Int) < (j : Int) := by omega
      have hnm : b ∉ M.put := by
        rw [List.take_of_length_le (by have := HN.out; omega)] at hno
        exact hno
      by_cases h16 : j = 16
      · subst h16
        have HE : Hid (M.puts b = (50, { M with bad := 50 })) := by show M.puts b = _; unfold MP.puts; rw [if_neg hnm, if_pos HN.out.symm]
        have hbl := H.out.b
        have hs : (wr.setCell ⟨k, 10, none⟩ (.int .i64 50)).heap[k]? = some (.cells (mpC { M with bad := 50 } (slB g1 c1) (slB g2 c2) (slB g3 c3) (slB g4 c4) v5 v6 (.slice pa M.put.length pc)) 72 (0, 0)) := heap_setCell_same _ _ _ _ _ _ hbl
        have hk := Keeps.setCell (F := fun j => j = k) wr (p := ⟨k, 10, none⟩) rfl (.int .i64 50)
        have HR : Hid (MX (wr.setCell ⟨k, 10, none⟩ (.int .i64 50)) (more X wr (wr.setCell ⟨k, 10, none⟩ (.int .i64 50))) k { M with bad := 50 } ∧ Keeps X wr (wr.setCell ⟨k, 10, none⟩ (.int .i64 50))) := by
          refine ⟨⟨_, _, _, _, _, _, _, _, _, _, _, H.out.turn (Y := more X wr _) (M' := { M with bad := 50 }) hk (fun g hg => by subst hg; exact ⟨_, _, _, hbl, by decide, by decide, by decide⟩) (fun _ h => .inl h) hs ⟨?_, fun g hg => .inl (H.out.put.2 g hg)⟩ rfl rfl rfl rfl rfl rfl rfl⟩, hk.mono (fun j hj => by rw [hj]; exact H.out.xk)⟩
          exact (HL.out.keep hk (fun g hg e => by
            obtain ⟨cur, hc⟩ := owns_block HL.out.own hg
            rw [e, hbl] at hc
            cases hc)).own
        clear hno hnm hbl hs hk
        go_wp2
        go_ret
        rw [HE.out]
        exact ⟨rfl, HR.out⟩
      · have h16' : ¬ (j : Int) = 16 := by omega
        have HE : Hid (M.puts b = (0, { M with put := M.put ++ [b] })) := by show M.puts b = _; unfold MP.puts; rw [if_neg hnm, if_neg (by have := HN.out; omega)]
        obtain ⟨g2', cap2, w2, hrun, hil2, hk2, hat⟩ := HL.out.app b (by have := HN.out; omega)
        have hkb : w2.heap[k]? = some _ := (hk2.block k (lt_there H.out.b) (fun e => by
          obtain ⟨cur, hc⟩ := owns_block HL.out.own e
          rw [H.out.b] at hc
          cases hc)).trans H.out.b
        have hs : (w2.setCell ⟨k, 9, none⟩ (.slice (some ⟨g2', 0, none⟩) (M.put.length + 1) cap2)).heap[k]? = some (.cells (mpC { M with put := M.put ++ [b] } (slB g1 c1) (slB g2 c2) (slB g3 c3) (slB g4 c4) v5 v6 (.slice (some ⟨g2', 0, none⟩) (M.put.length + 1) cap2)) 72 (0, 0)) := heap_setCell_same _ _ _ _ _ _ hkb
        have hk3 := Keeps.setCell (F := fun j => j = k) w2 (p := ⟨k, 9, none⟩) rfl (.slice (some ⟨g2', 0, none⟩) (M.put.length + 1) cap2)
        have hk23 : Keeps (fun j => (Value.slice pa M.put.length pc).ownBlock = some j ∨ j = k) wr (w2.setCell ⟨k, 9, none⟩ (.slice (some ⟨g2', 0, none⟩) (M.put.length + 1) cap2)) := (hk2.mono (fun _ h => .inl h)).trans hk3 (fun j h => .inl (.inr h))
        have hil3 := hil2.keep hk3 (fun g hg e => by
          obtain ⟨cur, hc⟩ := owns_block hil2.own hg
          rw [e, hkb] at hc
          cases hc)
        have HR : Hid (MX (w2.setCell ⟨k, 9, none⟩ (.slice (some ⟨g2', 0, none⟩) (M.put.length + 1) cap2)) (more X wr (w2.setCell ⟨k, 9, none⟩ (.slice (some ⟨g2', 0, none⟩) (M.put.length + 1) cap2))) k { M with put := M.put ++ [b] } ∧ Keeps X wr (w2.setCell ⟨k, 9, none⟩ (.slice (some ⟨g2', 0, none⟩) (M.put.length + 1) cap2))) := by
          refine ⟨⟨_, _, _, _, _, _, _, _, _, _, _, H.out.turn (Y := more X wr _) (M' := { M with put := M.put ++ [b] }) hk23 (fun g hg => ?_) (fun _ h => .inl h) hs ⟨hil3.own, fun g hg => ?_⟩ rfl rfl rfl rfl rfl rfl rfl⟩, hk23.mono (fun j hj => ?_)⟩
          · rcases hg with hg | hg
            · obtain ⟨cur, hc⟩ := owns_block HL.out.own hg
              exact ⟨_, _, _, hc, by decide, by decide, by decide⟩
            · subst hg
              exact ⟨_, _, _, H.out.b, by decide, by decide, by decide⟩
          · exact (hil3.x g hg).imp (fun e => e) (fun e => ⟨e, hil3.lt hg⟩)
          · rcases hj with hj | hj
            · exact HL.out.x j hj
            · rw [hj]
              exact H.out.xk
        have c9' : w2.cell? ⟨k, 9, none⟩ = some (.slice pa M.put.length pc) := cell_of_block hkb (j := 9) rfl
        have f9' := frozen_of_block hkb 9
        have HRun := Hid.mk hrun
        rw [← HN.out] at HR HRun c9'
        clear hno hnm hkb hs hk3 hk23 hil3 hil2 hk2 hat hrun
        go_wp2_with (at_builtin; refine wpList_append_run rfl _ _ 26 rfl (.slice pa j pc) (.slice (some ⟨wr.heap.size, 0, none⟩) 1 1) _ rfl rfl HRun.out ?_)
        go_ret
        rw [HE.out]
        exact ⟨rfl, HR.out⟩
end
end Go.Proofs.YthohoicgidjpfabGreat
