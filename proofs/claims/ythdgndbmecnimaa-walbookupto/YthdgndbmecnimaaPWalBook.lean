import Derived.Test.YthdgndbmecnimaaWYM
import Derived.Deep.CondSized
namespace Go.Proofs.Ythdgndbmecnimaa
open Go.ChangeShapes Go.WideShapes Go.ChangeAt Go.RowKit Go.Deep

theorem bulk_pos {H : Type} (d : DataW H) : 1 ≤ Rows.uptoBulk d := by
  cases d
  case lit l => cases l <;> simp [Rows.uptoBulk]
  all_goals simp [Rows.uptoBulk]
theorem bulk_len {H : Type} : ∀ l : List (DataW H), l.length ≤ Rows.uptoBulkAll l
  | [] => Nat.zero_le _
  | d :: r => by
    have h1 := bulk_pos d
    have h2 := bulk_len r
    simp only [Rows.uptoBulkAll, List.length_cons]
    omega
theorem bulk_slice {H : Type} (e f : List (DataW H)) : e.length ≤ Rows.uptoBulk (.slice e f) := by
  have := bulk_len e
  simp only [Rows.uptoBulk]
  omega
section
variable {H : Type} {enc : TypeId × Value → H} {W : World} {base : Nat} {spare : Nat → Bool} {held : Bool}
/-- A list is no longer than its bulk. -/
theorem bulk_of {t e : TypeId} (hu : Try.prog.underlying t = some (.slice e)) {fuel : Nat} {a : Option Addr} {n c : Nat} {d : DataW H} {pl : List MemPlace} (h : DataW.trod enc Try.prog W base spare held fuel t [.slice a n c] = some (d, pl)) : n ≤ Rows.uptoBulk d := by
  rcases open_slice hu h with ⟨hcs, _⟩ | ⟨x, len, cap, m, k, D, Pl, hcs, _, hl, hm, hmm, hd, hx⟩
  · simp only [List.cons.injEq, and_true] at hcs
    cases hcs
    exact Nat.zero_le _
  · simp only [List.cons.injEq, and_true] at hcs
    cases hcs
    simp only [Prod.mk.injEq] at hd
    replace hd := hd.1
    subst hd
    have := bulk_slice (H := H) ((List.range n).map D) ((List.range (m - n)).map fun j => D (n + j))
    simpa using this
end
theorem bulk_mem {H : Type} {d : DataW H} : ∀ {l : List (DataW H)}, d ∈ l → Rows.uptoBulk d ≤ Rows.uptoBulkAll l
  | [], h => by cases h
  | x :: r, h => by
    simp only [Rows.uptoBulkAll]
    rcases List.mem_cons.1 h with rfl | h
    · omega
    · have := bulk_mem h
      omega
section
variable {H : Type} {enc : TypeId × Value → H} {W : World} {base : Nat} {spare : Nat → Bool} {held : Bool}
theorem open_recs {fuel : Nat} {v : Value} {d : DataW H} {pl : List MemPlace} (h : DataW.trod enc Try.prog W base spare held fuel 22 [v] = some (d, pl)) (hw : ∀ n ∈ d.weights Try.prog 22, n ≤ reachBytes) (hk : Rows.uptoBulk d ≤ 1048576) :
    ∃ a n c, v = .slice a n c ∧ RecIn W W.heap.size a n := by
  rcases open_slice Try.underlying22 h with ⟨hcs, _⟩ | ⟨x, len, cap, m, k, D, Pl, hcs, _, hl, hm, hmm, hd, hx⟩
  · simp only [List.cons.injEq, and_true] at hcs
    exact ⟨none, 0, 0, hcs, ⟨fun _ => rfl, (fun x hx => by cases hx)⟩⟩
  · simp only [List.cons.injEq, and_true] at hcs
    simp only [Prod.mk.injEq] at hd
    replace hd := hd.1
    subst hd
    have hlm : len ≤ m := by rw [hmm]; split <;> omega
    rw [cellsBytes] at hx
    have hwe : ∀ i, i < len → ∀ n ∈ (D i).weights Try.prog 27, n ≤ reachBytes := fun i hi n hn => hw n (by
      simp only [DataW.weights, Try.underlying22]
      exact List.mem_cons_of_mem _ (List.mem_append_left _ (weightsAll_mem (List.mem_map.2 ⟨i, List.mem_range.2 hi, rfl⟩) hn)))
    refine ⟨some x, len, cap, hcs, ⟨(fun h => by cases h), fun y hy i hi => ?_⟩⟩
    cases hy
    obtain ⟨cs', e1, e2⟩ := hx i (by omega)
    obtain ⟨_, hlen, hcell⟩ := World.cells?_some e1
    obtain ⟨v0, rfl⟩ : ∃ v0, cs' = [v0] := by
      match cs', hlen with
      | [v0], _ => exact ⟨v0, rfl⟩
    obtain ⟨a, na, ca, l, rfl, hs, hb, hc, hsn⟩ := open_bytes e2 (hwe i hi)
    have hbk := bulk_of Try.underlying27 e2
    have hbm := bulk_mem (List.mem_map.2 ⟨i, List.mem_range.2 hi, rfl⟩ : D i ∈ (List.range len).map D)
    simp only [Rows.uptoBulk] at hk
    have c0 := hcell 0 (by omega)
    rw [add_add] at c0
    obtain ⟨cs0, z1, z2⟩ := hx 0 (by omega)
    obtain ⟨_, zlen, zcell⟩ := World.cells?_some z1
    obtain ⟨u0, rfl⟩ : ∃ u0, cs0 = [u0] := by
      match cs0, zlen with
      | [u0], _ => exact ⟨u0, rfl⟩
    have z0 := zcell 0 (by omega)
    rw [add_add] at z0
    obtain ⟨b, o, spot⟩ := x
    have hspot : spot = none := by simpa [Addr.add] using World.cell?_spot z0
    subst hspot
    rw [addr_add] at c0
    simp at c0
    exact ⟨b, o, rfl, World.block_lt_of_cell? _ _ c0, a, na, ca, l, c0, hs, hb, hs.old, by omega, hc⟩
end

set_option maxRecDepth 100000 in
theorem lifted_walBook (os : Os) (started : os.Started) (H : Type) (enc : TypeId × Value → H) (F : Stop.Interp) :
    ReturnsInHanded {} Try.checked os 3 .any ((Rows.OpenSpec.upto Rows.walBookSpec).pre6 enc Try.prog Try.f3 Rows.walBookUptoRow.domain false) (((Rows.OpenSpec.upto Rows.walBookSpec).at F).post enc Try.prog Try.f3 false true false false) := by
  refine returnsInHanded_of_cond_sized (C := Try.checked) (s := Rows.OpenSpec.upto Rows.walBookSpec) (k := Rows.uptoSmall) rfl ownKnobs started (by kernel_rfl) Try.func3
    (OpenSpec.witness (enc := enc) (C := Try.checked) (s := Rows.OpenSpec.upto Rows.walBookSpec) (k := Rows.uptoSmall) rfl false ⟨#[], #[.int .i64 0, .slice none 0 0], []⟩ 8 (by kernel_rfl) (by kernel_rfl) (by kernel_rfl)
      (x := ([.lit (.int .i64 0), .nil], [], [])) (by kernel_rfl) rfl (by kernel_rfl)) ?_
  intro W base args ds gs before hval0 hW hcnd hk0 hsz0 _
  have hval : ∀ (j : Nat) t v, Try.f3.params[j]? = some t → args[j]? = some v → Value.okWide Try.prog W .any base t v := hval0
  have hsz : (DataW.weightsEach Try.prog (Try.f3.params.toList ++ Rows.walBookSpec.plain.varTypes Try.prog) (ds ++ gs)).all (· ≤ reachBytes) = true := hsz0
  have hW' := hW
  obtain ⟨p, q, hA0, hV, rfl, hfz, hnd⟩ := hW
  have hA : DataW.TrodAll enc Try.prog W 0 (fun _ => true) true Try.f3.params.toList args.toList ds p := hA0
  rw [Try.params3] at hA hval hsz
  obtain ⟨v0, vs0, d0, ds0, p0, q0, hargs, rfl, rfl, h0, r0⟩ := trodAll_cons hA
  obtain ⟨v1, vs1, d1, ds1, p1, q1, hargs1, rfl, rfl, h1, r1⟩ := trodAll_cons r0
  obtain ⟨rfl, rfl, rfl⟩ := trodAll_nil r1
  obtain rfl : args = #[v0, v1] := by cases args; simp_all
  obtain ⟨rfl, rfl⟩ := trodVars_none hV
  obtain ⟨a1, len1, cap1, rfl⟩ := okWide_slice Try.underlying22 (hval 1 22 v1 rfl rfl)
  have k0 := h0
  have k1 := h1
  obtain ⟨s0, rfl, rfl, rfl, w0⟩ := open_int Try.underlying3 (hval 0 3 v0 rfl rfl) h0
  have lt1 : ∀ x ∈ p1, x.block < W.heap.size := by obtain ⟨m, hm⟩ := k1; exact DataW.trod_lt m _ _ _ hm
  have hw1 : ∀ n ∈ d1.weights Try.prog 22, n ≤ reachBytes := fun n hn => by
    have := List.all_eq_true.1 hsz n (DataW.weights_mem_each (j := 1) (t := 22) (d := d1) rfl rfl n hn)
    simpa using this
  have hbulk : Rows.uptoBulk d1 ≤ 1048576 := by
    have h := of_decide_eq_true hk0
    simp only [List.append_nil, Rows.uptoBulkAll] at h
    omega
  obtain ⟨fuel1, hf1⟩ := h1
  have hlen := bulk_of Try.underlying22 hf1
  obtain ⟨sa, sn, sc, e2, hsc⟩ := open_recs hf1 hw1 hbulk
  cases e2
  clear hA0 hval0
  refine (walBook_any s0 a1 len1 cap1 W hsc (Nat.le_trans hlen hbulk)).mono fun e W' ⟨he, bel⟩ => ?_
  subst he
  exact ⟨_, rfl, _, _, _, [], _, [], hW', trodAll_mk1 (shut_bool Try.underlying4 _),
    (trodAll_cons_mk (Below.trod laidOut (by kernel_rfl) (of_decide_eq_true (by kernel_rfl)) k0 bel (fun x hx => by cases hx)) (trodAll_cons_mk (Below.trod laidOut (by kernel_rfl) (of_decide_eq_true (by kernel_rfl)) k1 bel lt1) trodAll_mk0)), rfl, bel.frame _, fun h => by cases h⟩

theorem walBook_holds : Rows.WalBookUptoSaid :=
  OpenClaim.holds_of_cond 3 Try.f3 rfl rfl rfl rfl rfl rfl rfl ⟨rfl, rfl, rfl, rfl, rfl⟩ rfl rfl rfl rfl rfl (by kernel_rfl) Try.func3 (by kernel_rfl)
    (of_decide_eq_true (by kernel_rfl)) (by unfold Func.isWrapper; first | (rw [if_pos (by decide +kernel)]; kernel_rfl) | (rw [if_neg (by decide +kernel)]; exact ⟨rfl, rfl⟩))
    (fun os started H enc _ F => lifted_walBook os started H enc F)
#print axioms walBook_holds
end Go.Proofs.Ythdgndbmecnimaa
