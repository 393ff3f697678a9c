import Derived.Test.YtohgdjlgbnpobaaW08
import Derived.OwnWalk
import Derived.Laws.AppendOwnNone
section
namespace Go.Proofs.Ytohgdjlgbnpobaa
open Go.RowKit

theorem le_top {b : List Int} (hb : Bytes b) (h : 8 ≤ b.length) : le (b.take 8) < 9223372036854775808 ↔ b.getD 7 0 ≤ 127 := by
  have e := le_take_succ (l := b) (k := 7) (by omega)
  have hlt : le (b.take 7) < 2 ^ 56 := by
    have := le_lt (hb.take 7)
    have e2 : (b.take 7).length = 7 := by rw [List.length_take]; omega
    rwa [e2] at this
  have h7 := hb.getD 7
  rw [e]
  constructor <;> intro h <;> omega
theorem le_drop_step {B : List Int} (_hb : Bytes B) {j : Nat} (hj : j < B.length) : le (B.drop j) = (B.getD j 0).toNat + 256 * le (B.drop (j + 1)) := by
  rw [List.drop_eq_getElem_cons hj]
  simp [le, List.getD, hj]
theorem le_drop_le {B : List Int} (hb : Bytes B) : ∀ j, le (B.drop j) ≤ le B
  | 0 => Nat.le_refl _
  | j + 1 => by
    refine Nat.le_trans ?_ (le_drop_le hb j)
    by_cases hj : j < B.length
    · rw [le_drop_step hb hj]; omega
    · rw [List.drop_eq_nil_of_le (by omega), List.drop_eq_nil_of_le (by omega)]; exact Nat.le_refl _

set_option maxRecDepth 20000 in
set_option maxHeartbeats 4000000 in
theorem ranchor_any (b o c : Nat) (s : List Int) (w : World) (hs : Src w (some ⟨b, o, none⟩) 512 s) (hbs : Bytes s) :
    Calls Try.prog 41 #[.slice (some ⟨b, o, none⟩) 512 c] w fun e w' => ∃ v, e = .returned (.tuple #[.int .i64 (((sanchor s).1 : Nat) : Int), v]) ∧ Own w' w.heap.size v (sanchor s).2 ∧ Below w.heap.size w w' := by
  have h1 := ropen_all b o c s w hs hbs
  have hsl := hs.1
  clear hs
  cases hop : sopen s with
  | none =>
    have hno : sanchor s = (0, []) := sanchor_short (.inl hop)
    rw [sopens_none hsl hop] at h1
    dsimp only at h1
    have Hno := Hid.mk hno
    clear hno hop
    go_enter Try.func41, Try.ntmps41
    go_wp2_with fail
    refine h1.mono ?_
    rintro e w1 ⟨v, rfl, _, hb1⟩
    have HB1 := Hid.mk hb1
    clear h1 hb1
    go_wp2
    go_ret2
    exact ⟨_, by rw [Hno.out]; rfl, by rw [Hno.out]; exact Own.nil _ _, HB1.out⟩
  | some body =>
    have hbl := sopen_len hop hsl
    have hbb : Bytes body := by obtain ⟨_, _, _, rfl⟩ := sopen_some hop; exact (hbs.drop _).take _
    rw [sopens_some hsl hop] at h1
    dsimp only at h1
    by_cases h8 : body.length < 8
    · have hno : sanchor s = (0, []) := sanchor_short (.inr ⟨_, hop, .inl h8⟩)
      have Hno := Hid.mk hno
      have h8' : (body.length : Int) < 8 := by omega
      clear hno hop
      go_enter Try.func41, Try.ntmps41
      go_wp2_with fail
      refine h1.mono ?_
      rintro e w1 ⟨v, rfl, ho, hb1⟩
      obtain ⟨va, vc, rfl, _, _, _⟩ := ho.src
      have HB1 := Hid.mk hb1
      clear h1 hb1 ho
      go_wp2
      go_ret2
      exact ⟨_, by rw [Hno.out]; rfl, by rw [Hno.out]; exact Own.nil _ _, HB1.out⟩
    · have h8' : ¬ (body.length : Int) < 8 := by omega
      have htop := le_top hbb (by omega)
      by_cases h7 : 127 < body.getD 7 0
      · have hno : sanchor s = (0, []) := sanchor_short (.inr ⟨_, hop, .inr (by omega)⟩)
        have Hno := Hid.mk hno
        clear hno hop htop
        go_enter Try.func41, Try.ntmps41
        go_wp2_with fail
        refine h1.mono ?_
        rintro e w1 ⟨v, rfl, ho, hb1⟩
        obtain ⟨g, vc, rfl, _, hr⟩ := ho.full (by omega)
        have hc7 := hr.get (i := 7) (by omega)
        have HB1 := Hid.mk hb1
        have c7 : (7 : Int) < (body.length : Int) := by omega
        clear h1 hb1 ho hr
        generalize body.getD 7 0 = x at *
        generalize body.length = N at *
        go_wp2
        go_ret2
        exact ⟨_, by rw [Hno.out]; rfl, by rw [Hno.out]; exact Own.nil _ _, HB1.out⟩
      · have hyes : sanchor s = (le (body.take 8), body.drop 8) := sanchor_good hop (by omega) (htop.2 (by omega))
        have hsm : le (body.take 8) < 9223372036854775808 := htop.2 (by omega)
        have Hyes := Hid.mk hyes
        have ht8 : (body.take 8).length = 8 := by rw [List.length_take]; omega
        have htb : Bytes (body.take 8) := hbb.take 8
        clear hyes hop htop
        go_enter Try.func41, Try.ntmps41
        go_wp2_with fail
        refine h1.mono ?_
        rintro e w1 ⟨v, rfl, ho, hb1⟩
        obtain ⟨g, vc, rfl, hg, hr⟩ := ho.full (by omega)
        have hc7 := hr.get (i := 7) (by omega)
        have HB1 := Hid.mk hb1
        have Hr := Hid.mk hr
        have c7 : (7 : Int) < (body.length : Int) := by omega
        have hz1 := hb1.size
        clear h1 hb1 ho hr
        obtain ⟨x7, hx7⟩ : ∃ x7, x7 = body.getD 7 0 := ⟨_, rfl⟩
        rw [← hx7] at hc7 h7
        obtain ⟨N, hN⟩ : ∃ N, N = body.length := ⟨_, rfl⟩
        rw [← hN] at h8' c7 hbl ⊢
        clear hx7
        have HN := Hid.mk hN
        clear hN h8
        go_wp2
        go_loopw [6, 7] (fun r i wr => ∃ j : Nat, j ≤ 8 ∧ i = .int .i64 ((j : Int) - 1) ∧ wr = w1 ∧ r = .int .i64 ((le ((body.take 8).drop j) : Nat) : Int)) (fun _ i _ => (intOf i + 1).toNat)
        case atStart => exact ⟨8, Nat.le_refl _, rfl, rfl, by rw [List.drop_eq_nil_of_le (by omega)]; rfl⟩
        case round =>
          clear hc7
          obtain ⟨j, hj, rfl, hw, rfl⟩ := hrel
          have hw' := hw.symm
          subst hw'
          clear hw
          by_cases hlt : 0 < j
          · obtain ⟨i, rfl⟩ : ∃ i, j = i + 1 := ⟨j - 1, by omega⟩
            have hc := Hr.out.get (i := i) (by have := HN.out; omega)
            have hstep := le_drop_step htb (j := i) (by omega)
            have hle := le_drop_le htb i
            have eg : (body.take 8).getD i 0 = body.getD i 0 := by simp [List.getD, show i < 8 by omega]
            rw [eg] at hstep
            obtain ⟨x, hx⟩ : ∃ x : Nat, body.getD i 0 = (x : Int) := ⟨(body.getD i 0).toNat, by have := hbb.getD i; omega⟩
            have hx2 : x < 256 := by have := hbb.getD i; omega
            rw [hx] at hc hstep
            simp only [Int.toNat_natCast] at hstep
            have e1 : ((i + 1 : Nat) : Int) - 1 = (i : Int) := by omega
            have hiN : (i : Int) < (N : Int) := by omega
            rw [e1]
            generalize hP : le ((body.take 8).drop i) = P at *
            generalize le ((body.take 8).drop (i + 1)) = R at *
            have hov : ((R : Int) * 256 + (x : Int)) = ((P : Nat) : Int) := by omega
            have hPs : P < 9223372036854775808 := by omega
            have HP := Hid.mk hP
            have Hov := Hid.mk hov
            clear hstep hle eg hx hP e1 hov
            have b1 : (R : Int) * 256 ≤ 9223372036854775807 := by have := Hov.out; omega
            go_wp2
            go_roundw
            case rel => exact ⟨i, by omega, by go_num, trivial, by rw [HP.out]; exact congrArg (Value.int .i64) (by have := Hov.out; omega)⟩
            case measure => simp [intOf]
          · obtain rfl : j = 0 := by omega
            rw [List.drop_zero, show (((0 : Nat) : Int) - 1) = -1 by rfl]
            generalize hM : le (body.take 8) = M at *
            have HM := Hid.mk hM
            clear hM
            go_wp2
            go_loopw [8, 9] (fun v i wx => ∃ m : Nat, m ≤ N - 8 ∧ i = .int .i64 ((8 + m : Nat) : Int) ∧ Own wx w1.heap.size v ((body.drop 8).take m) ∧ Below w1.heap.size w1 wx) (fun _ i _ => N - (intOf i).toNat)
            case atStart => exact ⟨0, Nat.zero_le _, rfl, Own.nil _ _, Below.refl _ _⟩
            case round =>
              obtain ⟨m, hm, rfl, hown, hbx⟩ := hrel
              have Hown := Hid.mk hown
              have HBx := Hid.mk hbx
              have hzx := hbx.size
              clear hown hbx
              have hdl : (body.drop 8).length = N - 8 := by rw [List.length_drop, HN.out]
              by_cases hlm : m < N - 8
              · have hlm' : ((8 + m : Nat) : Int) < (N : Int) := by omega
                have hc := cell_later HBx.out (Hr.out.get (i := 8 + m) (by have := HN.out; omega))
                have eN := take_snoc (body.drop 8) m (by omega)
                have eX : (body.drop 8).getD m 0 = body.getD (8 + m) 0 := by simp [List.getD]
                rw [eX] at eN
                have HeN := Hid.mk eN
                have hll : ((body.drop 8).take m).length ≤ 504 := by rw [List.length_take]; omega
                clear eN eX
                generalize body.getD (8 + m) 0 = x at *
                generalize hQ : 8 + m = Q at *
                have HQ := Hid.mk hQ
                clear hQ
                go_wp2_with (at_builtin; refine wpList_app1 rfl _ _ rfl w1.heap.size u8 _ x rfl rfl Hown.out ?b1 ?b2 ?_)
                case b1 => omega
                case b2 => exact hzx
                intro v' w' ho hb'
                have HO : Hid (Own w' w1.heap.size v' ((body.drop 8).take (m + 1))) := by rw [← HeN.out]; exact ho
                have HB' := Hid.mk (HBx.out.trans (hb'.mono (Nat.le_refl _)))
                clear ho hb' Hown HBx HeN
                go_wp2
                go_roundw
                case rel => exact ⟨m + 1, by omega, by have := HQ.out; subst this; go_num, HO.out, HB'.out⟩
                case measure => have := HQ.out; simp [intOf]; omega
              · obtain rfl : m = N - 8 := by omega
                have hlm' : ¬ ((8 + (N - 8) : Nat) : Int) < (N : Int) := by omega
                have e5 : (body.drop 8).take (N - 8) = body.drop 8 := List.take_of_length_le (by omega)
                rw [e5] at Hown
                clear e5
                generalize hQ : 8 + (N - 8) = Q at *
                clear hQ
                go_wp2
                go_ret2
                exact ⟨_, by rw [Hyes.out]; rfl, by rw [Hyes.out]; exact Own.down Hown.out hz1, HB1.out.trans (HBx.out.mono hz1)⟩
end Go.Proofs.Ytohgdjlgbnpobaa
end

section
namespace Go.Proofs.Ytohgdjlgbnpobaa
open Go.RowKit

set_option maxRecDepth 20000 in
set_option maxHeartbeats 4000000 in
theorem rnewest_no (a : Option Addr) (n c : Nat) (a2 : Option Addr) (m d : Nat) (w : World) (h : n ≠ 512 ∨ m ≠ 512) :
    Calls Try.prog 30 #[.slice a n c, .slice a2 m d] w fun e w' => e = .returned (.tuple #[.int .i64 0, .int .i64 0, .slice none 0 0, .int .i64 2]) ∧ w' = w := by
  by_cases hn : n = 512
  · subst hn
    have h2 : (((m : Int)) != 512) = true := by rw [bne_iff_ne]; omega
    go_enter Try.func30, Try.ntmps30
    go_wp2
    exact bodyPost_ret (results_tmp4 (P := Try.prog) rfl _ _) rfl ⟨rfl, rfl⟩
  · have h2 : (((n : Int)) != 512) = true := by rw [bne_iff_ne]; omega
    go_enter Try.func30, Try.ntmps30
    go_wp2
    exact bodyPost_ret (results_tmp4 (P := Try.prog) rfl _ _) rfl ⟨rfl, rfl⟩

set_option maxRecDepth 20000 in
set_option maxHeartbeats 4000000 in
theorem rnewest_ok (b o c : Nat) (l : List Int) (b2 o2 d : Nat) (r : List Int) (w : World) (hs : Src w (some ⟨b, o, none⟩) 512 l) (hs2 : Src w (some ⟨b2, o2, none⟩) 512 r) (hl : Bytes l) (hr : Bytes r) :
    Calls Try.prog 30 #[.slice (some ⟨b, o, none⟩) 512 c, .slice (some ⟨b2, o2, none⟩) 512 d] w fun e w' => ∃ v, e = .returned (.tuple #[.int .i64 (((snewest l r).1 : Nat) : Int), .int .i64 (((snewest l r).2.1 : Nat) : Int), v, .int .i64 (((snewest l r).2.2.2 : Nat) : Int)]) ∧ Own w' w.heap.size v (snewest l r).2.2.1 ∧ Below w.heap.size w w' := by
  have h1 := ranchor_any b o c l w hs hl
  have hse := snewest_eq hs.1 hs2.1
  have H2 := Hid.mk hs2
  clear hs hs2
  go_enter Try.func30, Try.ntmps30
  go_wp2_with fail
  refine h1.mono ?_
  rintro e w1 ⟨v1, rfl, ho1, hb1⟩
  have h2 := ranchor_any b2 o2 d r w1 (H2.out.later hb1) hr
  have HB1 := Hid.mk hb1
  have Ho1 := Hid.mk ho1
  clear h1 hb1 ho1
  obtain ⟨A, hA⟩ : ∃ A, A = sanchor l := ⟨_, rfl⟩
  obtain ⟨B, hB⟩ : ∃ B, B = sanchor r := ⟨_, rfl⟩
  rw [← hA] at hse Ho1 ⊢
  rw [← hB] at hse h2
  have Hse := Hid.mk hse
  clear hA hB hse
  go_wp2_with fail
  refine h2.mono ?_
  rintro e w2 ⟨v2, rfl, ho2, hb2⟩
  have HB2 := Hid.mk (HB1.out.trans (hb2.mono HB1.out.size))
  have Ho1' := Hid.mk (Own.later Ho1.out hb2)
  have Ho2 := Hid.mk (Own.down ho2 HB1.out.size)
  clear h2 hb2 ho2 HB1 Ho1
  by_cases q : A.1 = 0 ∧ B.1 = 0
  · have e1 : snewest l r = (0, 0, [], 30) := by rw [Hse.out, if_pos q]
    obtain ⟨q1, q2⟩ := q
    rw [q1, q2]
    have He := Hid.mk e1
    clear Hse q1 q2 e1
    go_wp2
    exact bodyPost_ret (results_tmp4 (P := Try.prog) rfl _ _) rfl ⟨.slice none 0 0, by rw [He.out]; rfl, by rw [He.out]; exact Own.nil _ _, HB2.out⟩
  · have e1 := Hse.out
    rw [if_neg q] at e1
    by_cases q2 : A.1 < B.1
    · rw [if_pos q2] at e1
      have He := Hid.mk e1
      have q2' : ((A.1 : Nat) : Int) < ((B.1 : Nat) : Int) := by omega
      have qb : ((((B.1 : Nat) : Int)) == 0) = false := by rw [beq_eq_false_iff_ne]; omega
      clear Hse e1 q q2
      by_cases qa0 : A.1 = 0
      · rw [qa0] at q2' ⊢
        generalize hB1 : B.1 = B1 at *
        have HB1 := Hid.mk hB1
        clear hB1 qa0
        go_wp2
        exact bodyPost_ret (results_tmp4 (P := Try.prog) rfl _ _) rfl ⟨v2, by rw [He.out]; rfl, by rw [He.out]; exact Ho2.out, HB2.out⟩
      · have qa : ((((A.1 : Nat) : Int)) == 0) = false := by rw [beq_eq_false_iff_ne]; omega
        generalize hB1 : B.1 = B1 at *
        generalize A.1 = A1 at *
        clear hB1 qa0
        go_wp2
        exact bodyPost_ret (results_tmp4 (P := Try.prog) rfl _ _) rfl ⟨v2, by rw [He.out]; rfl, by rw [He.out]; exact Ho2.out, HB2.out⟩
    · rw [if_neg q2] at e1
      have He := Hid.mk e1
      have q2' : ¬ ((A.1 : Nat) : Int) < ((B.1 : Nat) : Int) := by omega
      have qa : ((((A.1 : Nat) : Int)) == 0) = false := by rw [beq_eq_false_iff_ne]; omega
      clear Hse e1 q q2
      generalize hA1 : A.1 = A1 at *
      generalize B.1 = B1 at *
      clear hA1
      go_wp2
      exact bodyPost_ret (results_tmp4 (P := Try.prog) rfl _ _) rfl ⟨v1, by rw [He.out]; rfl, by rw [He.out]; exact Ho1'.out, HB2.out⟩

theorem rnewest_any (a : Option Addr) (n c : Nat) (l : List Int) (a2 : Option Addr) (m d : Nat) (r : List Int) (w : World) (hs : Src w a n l) (hs2 : Src w a2 m r) (hl : Bytes l) (hr : Bytes r) :
    Calls Try.prog 30 #[.slice a n c, .slice a2 m d] w fun e w' => ∃ v, e = .returned (.tuple #[.int .i64 (((snewest l r).1 : Nat) : Int), .int .i64 (((snewest l r).2.1 : Nat) : Int), v, .int .i64 (((snewest l r).2.2.2 : Nat) : Int)]) ∧ Own w' w.heap.size v (snewest l r).2.2.1 ∧ Below w.heap.size w w' := by
  by_cases h : n = 512 ∧ m = 512
  · obtain ⟨rfl, rfl⟩ := h
    obtain ⟨b, o, rfl⟩ := src_spot hs (by omega)
    obtain ⟨b2, o2, rfl⟩ := src_spot hs2 (by omega)
    exact rnewest_ok b o c l b2 o2 d r w hs hs2 hl hr
  · refine (rnewest_no a n c a2 m d w (by omega)).mono ?_
    rintro e w' ⟨rfl, rfl⟩
    have e1 : snewest l r = (0, 0, [], 2) := by unfold snewest; rw [if_pos (by have := hs.1; have := hs2.1; omega)]
    rw [e1]
    exact ⟨_, rfl, Own.nil _ _, Below.refl _ _⟩
theorem snewest_len (l r : List Int) : (snewest l r).2.2.1.length ≤ 512 := by
  have h : ∀ s : List Int, s.length = 512 → (sanchor s).2.length ≤ 512 := by
    intro s hs
    unfold sanchor
    cases h : sopen s with
    | none => simp
    | some b =>
      have := sopen_len h hs
      simp only
      split
      · simp only [List.length_drop]; omega
      · simp
  unfold snewest
  split
  · simp
  · next hh =>
    split
    · simp
    · split
      · exact h r (by omega)
      · exact h l (by omega)
end Go.Proofs.Ytohgdjlgbnpobaa
end

section
namespace Go.Proofs.Ytohgdjlgbnpobaa
open Go.RowKit

/-- make of bytes, with a capacity beyond the length. -/
theorem wpList_make_part (w : World) {ops : Array Oper} {rest : List Oper} {o : Oper} {a : Act} {Q : Exit → Act → World → Prop}
    (hg : o.guard = none) (l c : Operand) (hop : o.op = Op.makeSlice 25 l c) (C : Int) (m n : Nat) (hl : a.eval l = .int .i64 (m : Int)) (hc : a.eval c = .int .i64 C) (hC : C = (n : Int)) (hmn : m ≤ n) (hn : n ≤ 140737488355328)
    (hK : ∀ w', Blk w' 5 w.heap.size (zs n) → Below w.heap.size w w' → wpList Try.prog ops Q rest (a.put o.dst (.slice (some ⟨w.heap.size, 0, none⟩) m n)) w') :
    wpList Try.prog ops Q (o :: rest) a w := by
  refine wpList_plain hg fun K hK' => ?_
  obtain ⟨i, hi, hz0, hz1, hz2⟩ := info_parts infoU8
  subst hC
  have hr := run_make (P := Try.prog) w 25 5 i (.int .u8 0) Try.underlying25 hi hz0 .i64 .i64 (m : Int) (n : Int) (by omega) (by omega) (by rw [hz2]; omega) (by omega)
  simp only [Int.toNat_natCast, hz1, Nat.mul_one] at hr
  unfold Oper.wp
  simp [execOp, hop, hl, hc, hr, Result.andThen]
  refine hK' _ _ (hK _ ?_ ?_)
  · have h1 := heap_alloc_new w (.cells (madeCells (Value.int .u8 0).cells n) 5)
    have e : madeCells (Value.int .u8 0).cells n = (bs (zs n)).toArray := by
      apply Array.ext'
      have : (Value.int .u8 0).cells = #[Value.int .u8 0] := rfl
      rw [this, toList_madeCells_one]
      simp [bs, zs]
    rw [e] at h1
    unfold Blk
    rw [← h1]
    simp [e]
  · exact (Below.refl _ w).alloc (Nat.le_refl _) _
end Go.Proofs.Ytohgdjlgbnpobaa
end

section
namespace Go.Proofs.Ytohgdjlgbnpobaa
open Go.RowKit

theorem leb8 (n : Nat) : leb 8 n = bytes8 n := by
  rw [bytes8_eq]
  simp only [leb, Nat.div_div_eq_div_mul]
theorem own_blk {w : World} {B g n : Nat} {p q : List Int} (h : Blk w 5 g (p ++ q)) (hg : B ≤ g) (hn : n = (p ++ q).length) (hm : n ≤ maxLen) : Own w B (.slice (some ⟨g, 0, none⟩) p.length n) p := by
  subst hn
  refine ⟨by simp [bs], .inr ⟨g, (p ++ q).length, _, rfl, hg, h, by simp, hm, by simp [bs], ?_⟩⟩
  rw [bs_append]
  simp [bs]

theorem Own.capz {w : World} {B : Nat} {a : Option Addr} {n c : Nat} {l : List Int} (h : Own w B (.slice a n c) l) : a = none → c = 0 := by
  rintro rfl
  obtain ⟨_, ⟨e, _⟩ | ⟨g, c', cur, e, _⟩⟩ := h
  · cases e; rfl
  · cases e

set_option maxRecDepth 20000 in
set_option maxHeartbeats 4000000 in
theorem anchorBody_any (N : Nat) (a : Option Addr) (n c : Nat) (l : List Int) (w : World) (hN : N < 9223372036854775808) (hs : Src w a n l) (hn : n ≤ 496) (hca : a = none → c = 0) :
    Calls Try.prog 43 #[.int .i64 (N : Int), .slice a n c] w fun e w' => ∃ v, e = .returned v ∧ Own w' w.heap.size v (bytes8 N ++ l) ∧ Below w.heap.size w w' := by
  obtain ⟨i0, hi, hz0, hz1, hz2⟩ := info_parts infoU8
  have H := Hid.mk hs
  have hl := hs.1
  clear hs
  have hN' : (N : Int) < 9223372036854775808 := by omega
  go_enter Try.func43, Try.ntmps43
  go_wp2_with (at_make; refine wpList_make_part _ rfl _ _ rfl _ 8 (8 + n) rfl rfl ?c1 ?c2 ?c3 ?_)
  case c1 => omega
  case c2 => omega
  case c3 => omega
  intro w1 hblk hb1
  have hl1 := lay_any w.heap.size 0 8 (8 + n) N 5 (zs (8 + n)) w1 hblk (by omega) (by rw [zs_len]; omega)
  have e1 : put (zs (8 + n)) 0 (leb 8 N) = bytes8 N ++ zs n := by
    rw [leb8, put, zs_add, bytes8_len]
    simp only [List.take_zero, List.nil_append, Nat.zero_add]
    rw [List.drop_left' (zs_len 8)]
  rw [e1] at hl1
  have HB1 := Hid.mk hb1
  clear hblk hb1 e1
  go_wp2_with fail
  refine hl1.mono ?_
  rintro e w2 ⟨rfl, hblk2, hk2, hz2'⟩
  have hB2 : Below w.heap.size w w2 := HB1.out.trans (hk2.below (fun j hj => by omega) HB1.out.size)
  have hown : Own w2 w.heap.size (.slice (some ⟨w.heap.size, 0, none⟩) (bytes8 N).length (8 + n)) (bytes8 N) := own_blk hblk2 (Nat.le_refl _) (by rw [List.length_append, bytes8_len, zs_len]) (by unfold maxLen; omega)
  rw [bytes8_len] at hown
  have hrow : w2.ownsRow w.heap.size 5 1 (.slice (some ⟨w.heap.size, 0, none⟩) 8 (8 + n)) 8 (bs (bytes8 N)) := by
    have := hown
    unfold Own at this
    rwa [bytes8_len] at this
  have Hrow := Hid.mk hrow
  have Hown := Hid.mk hown
  have HB2 := Hid.mk hB2
  have hz := hB2.size
  clear hl1 hblk2 hk2 hz2' hB2 hown hrow HB1
  cases a with
  | none =>
    have hn0 : n = 0 := H.out.2.1 rfl
    subst hn0
    have hl0 : l = [] := List.eq_nil_of_length_eq_zero hl
    subst hl0
    have hc0 := hca rfl
    subst hc0
    go_wp2_with (at_builtin; refine wpList_append_own_none rfl _ _ 25 rfl w.heap.size 5 i0 1 Try.underlying25 hi _ 8 (bs (bytes8 N)) rfl Hrow.out rfl ?_)
    go_ret
    exact ⟨_, rfl, by rw [List.append_nil]; exact Hown.out, HB2.out⟩
  | some x =>
    have hcells := Hid.mk (fun j u (hj : (bs l)[j]? = some u) => show w2.cell? (x.add j) = some u by
      obtain ⟨hj1, rfl⟩ := bs_getElem hj
      exact cell_later HB2.out (H.out.2.2 _ rfl j (by omega)))
    have hll : (bs l).length = n := by rw [bs, List.length_map, hl]
    go_wp2_with (at_builtin; refine wpList_append_own _ rfl _ _ 25 rfl w.heap.size 5 i0 (.int .u8 0) 1 1 Try.underlying25 hi hz0 hz1 hz2 rfl (by decide) _ 8 (bs (bytes8 N)) rfl Hrow.out x n c (bs l) rfl ?n0 hcells.out ?n2 ?n3 ?n4 ?n5 ?_)
    case n0 => omega
    case n2 => exact bs_one _
    case n3 => unfold maxLen; omega
    case n4 => omega
    case n5 => exact hz
    intro v' w3 hown' hgrow' _
    rw [← bs_append] at hown'
    have HO := Hid.mk (own_of (m := bytes8 N ++ l) hown' (by rw [List.length_append, bytes8_len]; omega) rfl)
    have HB3 := Hid.mk (HB2.out.grown hgrow' hz (fun q e => (Hrow.out.lt q e).1))
    clear hown' hgrow'
    go_wp2
    go_ret
    exact ⟨_, rfl, HO.out, HB3.out⟩
end Go.Proofs.Ytohgdjlgbnpobaa
end

section
namespace Go.Proofs.Ytohgdjlgbnpobaa
open Go.RowKit

set_option maxRecDepth 20000 in
set_option maxHeartbeats 2000000 in
theorem other_any (s n : Nat) (v : Value) (w : World) (hs : s ≤ 1) :
    Calls Try.prog 42 #[.agg #[.int .i64 (s : Int), .int .i64 (n : Int), v]] w fun e w' => e = .returned (.int .i64 ((if n = 0 then 0 else 1 - s : Nat) : Int)) ∧ Below w.heap.size w w' := by
  have HB := Hid.mk ((Below.refl w.heap.size w).alloc (Nat.le_refl _) (.cells #[.int .i64 (s : Int), .int .i64 (n : Int), v] 82))
  by_cases h : n = 0
  · subst h
    go_enter Try.func42, Try.ntmps42
    go_wp2
    go_ret
    exact ⟨rfl, HB.out⟩
  · have h' : ((n : Int) == 0) = false := by rw [beq_eq_false_iff_ne]; omega
    have e : ((if n = 0 then 0 else 1 - s : Nat) : Int) = 1 - (s : Int) := by rw [if_neg h]; omega
    rw [e]
    clear h
    go_enter Try.func42, Try.ntmps42
    go_wp2
    go_ret
    exact ⟨rfl, HB.out⟩
end Go.Proofs.Ytohgdjlgbnpobaa
end

section
namespace Go.Proofs.Ytohgdjlgbnpobaa
open Go.RowKit

set_option maxRecDepth 20000 in
set_option maxHeartbeats 4000000 in
theorem renew_no1 (a : Option Addr) (n c : Nat) (l : List Int) (a2 : Option Addr) (m d : Nat) (r : List Int) (a3 : Option Addr) (q e3 : Nat) (num : Int) (w : World) (hs : Src w a n l) (hs2 : Src w a2 m r) (hno : ¬ (n = 512 ∧ m = 512)) :
    Calls Try.prog 31 #[.slice a n c, .slice a2 m d, .int .i64 num, .slice a3 q e3] w fun e w' => e = .returned (.tuple #[.int .i64 0, .slice none 0 0, .int .i64 2]) ∧ Below w.heap.size w w' := by
  have hwh : (decide (n = 512) && decide (m = 512)) = false := by rw [← Bool.decide_and, decide_eq_false hno]
  clear hno
  have hz := zeroPair
  have h1 := pairOf_any a n c l a2 m d r w hs hs2
  have hln := hs.1
  have hrn := hs2.1
  have hinfo := infoPairL (secOf_len l) (secOf_len r)
  have hone := bs_one (secOf l ++ secOf r)
  have hall := all_oneCell_toArray hone
  have hFl : (bs (secOf l ++ secOf r)).length = 1024 := by rw [bs, List.length_map, List.length_append, secOf_len, secOf_len]
  obtain ⟨F, hF⟩ : ∃ F, F = bs (secOf l ++ secOf r) := ⟨_, rfl⟩
  rw [← hF] at h1 hinfo hall hFl
  have HF := Hid.mk hF
  clear hone hF hs hs2
  go_enter Try.func31, Try.ntmps31
  go_wp2_with fail
  refine h1.mono ?_
  rintro e w1 ⟨rfl, hb1⟩
  have hw1 : (w1.alloc (.cells zpair 78)).heap[w1.heap.size]? = some (.cells zpair 78 (0, 0)) := heap_alloc_new _ _
  have hth := there_of hw1 zpair_size
  rw [← hFl] at hth
  have hB1 : Below w.heap.size w (w1.alloc (.cells zpair 78)) := hb1.alloc hb1.size _
  have hsz := hb1.size
  have hB2 := hB1.trans ((Keeps.setCells (F := fun j => j = w1.heap.size) rfl F 0 _).below (fun j hj => by omega) hB1.size)
  have hblk := blk_stored (l := secOf l ++ secOf r) hw1 (by rw [zpair_size, List.length_append, secOf_len, secOf_len])
  rw [← HF.out] at hblk
  obtain ⟨w2, hw2⟩ : ∃ w2, w2 = (w1.alloc (.cells zpair 78)).setCells w1.heap.size 0 F := ⟨_, rfl⟩
  rw [← hw2] at hB2 hblk
  have HB2 := Hid.mk hB2
  have Hblk := Hid.mk hblk
  have HW2 := Hid.mk hw2
  clear h1 hw1 hB1 hb1 hB2 hblk hw2
  rw [hwh]
  go_wp2_with (refine wpList_store_mid rfl 78 _ _ rfl w1.heap.size 0 F.toArray rfl rfl ?h1 ?h2 hall ?_)
  case h1 => simpa using hth
  case h2 => simpa using hinfo
  rw [← HW2.out]
  go_ret3
  exact ⟨rfl, HB2.out⟩

set_option maxRecDepth 20000 in
set_option maxHeartbeats 4000000 in
theorem renew_no2 (a : Option Addr) (n c : Nat) (l : List Int) (a2 : Option Addr) (m d : Nat) (r : List Int) (a3 : Option Addr) (q e3 : Nat) (num : Int) (w : World) (hs : Src w a n l) (hs2 : Src w a2 m r) (hyes : n = 512 ∧ m = 512) (h1n : num < 1) :
    Calls Try.prog 31 #[.slice a n c, .slice a2 m d, .int .i64 num, .slice a3 q e3] w fun e w' => e = .returned (.tuple #[.int .i64 0, .slice none 0 0, .int .i64 1]) ∧ Below w.heap.size w w' := by
  have hwh : (decide (n = 512) && decide (m = 512)) = true := by rw [← Bool.decide_and, decide_eq_true hyes]
  clear hyes
  have hz := zeroPair
  have h1 := pairOf_any a n c l a2 m d r w hs hs2
  have hln := hs.1
  have hrn := hs2.1
  have hinfo := infoPairL (secOf_len l) (secOf_len r)
  have hone := bs_one (secOf l ++ secOf r)
  have hall := all_oneCell_toArray hone
  have hFl : (bs (secOf l ++ secOf r)).length = 1024 := by rw [bs, List.length_map, List.length_append, secOf_len, secOf_len]
  obtain ⟨F, hF⟩ : ∃ F, F = bs (secOf l ++ secOf r) := ⟨_, rfl⟩
  rw [← hF] at h1 hinfo hall hFl
  have HF := Hid.mk hF
  clear hone hF hs hs2
  go_enter Try.func31, Try.ntmps31
  go_wp2_with fail
  refine h1.mono ?_
  rintro e w1 ⟨rfl, hb1⟩
  have hw1 : (w1.alloc (.cells zpair 78)).heap[w1.heap.size]? = some (.cells zpair 78 (0, 0)) := heap_alloc_new _ _
  have hth := there_of hw1 zpair_size
  rw [← hFl] at hth
  have hB1 : Below w.heap.size w (w1.alloc (.cells zpair 78)) := hb1.alloc hb1.size _
  have hsz := hb1.size
  have hB2 := hB1.trans ((Keeps.setCells (F := fun j => j = w1.heap.size) rfl F 0 _).below (fun j hj => by omega) hB1.size)
  have hblk := blk_stored (l := secOf l ++ secOf r) hw1 (by rw [zpair_size, List.length_append, secOf_len, secOf_len])
  rw [← HF.out] at hblk
  obtain ⟨w2, hw2⟩ : ∃ w2, w2 = (w1.alloc (.cells zpair 78)).setCells w1.heap.size 0 F := ⟨_, rfl⟩
  rw [← hw2] at hB2 hblk
  have HB2 := Hid.mk hB2
  have Hblk := Hid.mk hblk
  have HW2 := Hid.mk hw2
  clear h1 hw1 hB1 hb1 hB2 hblk hw2
  rw [hwh]
  go_wp2_with (refine wpList_store_mid rfl 78 _ _ rfl w1.heap.size 0 F.toArray rfl rfl ?h1 ?h2 hall ?_)
  case h1 => simpa using hth
  case h2 => simpa using hinfo
  rw [← HW2.out]
  go_ret3
  exact ⟨rfl, HB2.out⟩

set_option maxRecDepth 20000 in
set_option maxHeartbeats 4000000 in
theorem renew_no3 (a : Option Addr) (n c : Nat) (l : List Int) (a2 : Option Addr) (m d : Nat) (r : List Int) (a3 : Option Addr) (q e3 : Nat) (num : Int) (w : World) (hs : Src w a n l) (hs2 : Src w a2 m r) (hyes : n = 512 ∧ m = 512) (h1n : ¬ num < 1) (h2n : 496 < q) :
    Calls Try.prog 31 #[.slice a n c, .slice a2 m d, .int .i64 num, .slice a3 q e3] w fun e w' => e = .returned (.tuple #[.int .i64 0, .slice none 0 0, .int .i64 7]) ∧ Below w.heap.size w w' := by
  have hwh : (decide (n = 512) && decide (m = 512)) = true := by rw [← Bool.decide_and, decide_eq_true hyes]
  have h2n' : 496 < (q : Int) := by omega
  clear hyes
  have hz := zeroPair
  have h1 := pairOf_any a n c l a2 m d r w hs hs2
  have hln := hs.1
  have hrn := hs2.1
  have hinfo := infoPairL (secOf_len l) (secOf_len r)
  have hone := bs_one (secOf l ++ secOf r)
  have hall := all_oneCell_toArray hone
  have hFl : (bs (secOf l ++ secOf r)).length = 1024 := by rw [bs, List.length_map, List.length_append, secOf_len, secOf_len]
  obtain ⟨F, hF⟩ : ∃ F, F = bs (secOf l ++ secOf r) := ⟨_, rfl⟩
  rw [← hF] at h1 hinfo hall hFl
  have HF := Hid.mk hF
  clear hone hF hs hs2
  go_enter Try.func31, Try.ntmps31
  go_wp2_with fail
  refine h1.mono ?_
  rintro e w1 ⟨rfl, hb1⟩
  have hw1 : (w1.alloc (.cells zpair 78)).heap[w1.heap.size]? = some (.cells zpair 78 (0, 0)) := heap_alloc_new _ _
  have hth := there_of hw1 zpair_size
  rw [← hFl] at hth
  have hB1 : Below w.heap.size w (w1.alloc (.cells zpair 78)) := hb1.alloc hb1.size _
  have hsz := hb1.size
  have hB2 := hB1.trans ((Keeps.setCells (F := fun j => j = w1.heap.size) rfl F 0 _).below (fun j hj => by omega) hB1.size)
  have hblk := blk_stored (l := secOf l ++ secOf r) hw1 (by rw [zpair_size, List.length_append, secOf_len, secOf_len])
  rw [← HF.out] at hblk
  obtain ⟨w2, hw2⟩ : ∃ w2, w2 = (w1.alloc (.cells zpair 78)).setCells w1.heap.size 0 F := ⟨_, rfl⟩
  rw [← hw2] at hB2 hblk
  have HB2 := Hid.mk hB2
  have Hblk := Hid.mk hblk
  have HW2 := Hid.mk hw2
  clear h1 hw1 hB1 hb1 hB2 hblk hw2
  rw [hwh]
  go_wp2_with (refine wpList_store_mid rfl 78 _ _ rfl w1.heap.size 0 F.toArray rfl rfl ?h1 ?h2 hall ?_)
  case h1 => simpa using hth
  case h2 => simpa using hinfo
  rw [← HW2.out]
  go_ret3
  exact ⟨rfl, HB2.out⟩

set_option maxRecDepth 20000 in
set_option maxHeartbeats 4000000 in
theorem renew_no4 (a : Option Addr) (n c : Nat) (l : List Int) (a2 : Option Addr) (m d : Nat) (r : List Int) (a3 : Option Addr) (q e3 : Nat) (num : Int) (w : World) (hs : Src w a n l) (hs2 : Src w a2 m r) (hl : Bytes l) (hr : Bytes r) (hyes : n = 512 ∧ m = 512) (h1n : ¬ num < 1) (h2n : q ≤ 496) (h3n : num ≤ (((snewest l r).2.1 : Nat) : Int)) :
    Calls Try.prog 31 #[.slice a n c, .slice a2 m d, .int .i64 num, .slice a3 q e3] w fun e w' => e = .returned (.tuple #[.int .i64 0, .slice none 0 0, .int .i64 31]) ∧ Below w.heap.size w w' := by
  obtain ⟨hn5, hm5⟩ := hyes
  subst hn5
  subst hm5
  have hwh : (decide (512 = 512) && decide (512 = 512)) = true := rfl
  have H3n := Hid.mk h3n
  clear h3n
  have h2n' : ¬ 496 < (q : Int) := by omega
  have hz := zeroPair
  have h1 := pairOf_any a 512 c l a2 512 d r w hs hs2
  have hln := hs.1
  have hrn := hs2.1
  have hinfo := infoPairL (secOf_len l) (secOf_len r)
  have hone := bs_one (secOf l ++ secOf r)
  have hall := all_oneCell_toArray hone
  have hFl : (bs (secOf l ++ secOf r)).length = 1024 := by rw [bs, List.length_map, List.length_append, secOf_len, secOf_len]
  obtain ⟨F, hF⟩ : ∃ F, F = bs (secOf l ++ secOf r) := ⟨_, rfl⟩
  rw [← hF] at h1 hinfo hall hFl
  have HF := Hid.mk hF
  clear hone hF hs hs2
  go_enter Try.func31, Try.ntmps31
  go_wp2_with fail
  refine h1.mono ?_
  rintro e w1 ⟨rfl, hb1⟩
  have hw1 : (w1.alloc (.cells zpair 78)).heap[w1.heap.size]? = some (.cells zpair 78 (0, 0)) := heap_alloc_new _ _
  have hth := there_of hw1 zpair_size
  rw [← hFl] at hth
  have hB1 : Below w.heap.size w (w1.alloc (.cells zpair 78)) := hb1.alloc hb1.size _
  have hsz := hb1.size
  have hB2 := hB1.trans ((Keeps.setCells (F := fun j => j = w1.heap.size) rfl F 0 _).below (fun j hj => by omega) hB1.size)
  have hblk := blk_stored (l := secOf l ++ secOf r) hw1 (by rw [zpair_size, List.length_append, secOf_len, secOf_len])
  rw [← HF.out] at hblk
  obtain ⟨w2, hw2⟩ : ∃ w2, w2 = (w1.alloc (.cells zpair 78)).setCells w1.heap.size 0 F := ⟨_, rfl⟩
  rw [← hw2] at hB2 hblk
  have HB2 := Hid.mk hB2
  have Hblk := Hid.mk hblk
  have HW2 := Hid.mk hw2
  clear h1 hw1 hB1 hb1 hB2 hblk hw2
  rw [hwh]
  have el := secOf_self hln
  have er := secOf_self hrn
  rw [el, er] at Hblk
  obtain ⟨s1, s2⟩ := pair_srcs Hblk.out hln hrn
  have k1 := newest_any w1.heap.size l r w2 s1 s2 hl hr
  have HS1 := Hid.mk s1
  have HS2 := Hid.mk s2
  clear el er s1 s2 Hblk
  go_wp2_with (refine wpList_store_mid rfl 78 _ _ rfl w1.heap.size 0 F.toArray rfl rfl ?h1 ?h2 hall ?_)
  case h1 => simpa using hth
  case h2 => simpa using hinfo
  rw [← HW2.out]
  refine k1.mono ?_
  rintro e w3 ⟨v, rfl, hlst, hb3⟩
  obtain ⟨va, vc, hv, hq⟩ := hlst
  subst hv
  have HB3 := Hid.mk ((HB2.out.trans (hb3.mono HB2.out.size)).alloc (Nat.le_trans HB2.out.size hb3.size) (.cells #[.int .i64 (((snewest l r).1 : Nat) : Int), .int .i64 (((snewest l r).2.1 : Nat) : Int), .slice va (snewest l r).2.2.1.length vc] 82))
  clear k1 hq hb3 HW2 hth hinfo hall HB2
  have h3n := H3n.out
  clear H3n
  generalize (snewest l r).1 = A at *
  generalize (snewest l r).2.1 = B at *
  generalize (snewest l r).2.2.1.length = D at *
  go_wp2
  go_ret3
  exact ⟨rfl, HB3.out⟩

set_option maxRecDepth 20000 in
set_option maxHeartbeats 4000000 in
theorem renew_ok0 (a : Option Addr) (n c : Nat) (l : List Int) (a2 : Option Addr) (m d : Nat) (r : List Int) (a3 : Option Addr) (q e3 : Nat) (dt : List Int) (num : Int) (w : World) (hs : Src w a n l) (hs2 : Src w a2 m r) (hl : Bytes l) (hr : Bytes r) (hyes : n = 512 ∧ m = 512) (N : Nat) (hnum : num = (N : Int)) (hN1 : 1 ≤ N) (hNm : N < 9223372036854775808) (hs3 : Src w a3 q dt) (hdt : Bytes dt) (h2n : q ≤ 496) (hca : a3 = none → e3 = 0) (h3n : (snewest l r).2.1 < N) (hA : (snewest l r).1 ≤ 1) (hslot : (if (snewest l r).2.1 = 0 then 0 else 1 - (snewest l r).1) = 0) :
    Calls Try.prog 31 #[.slice a n c, .slice a2 m d, .int .i64 num, .slice a3 q e3] w fun e w' => ∃ g, e = .returned (.tuple #[.int .i64 0, .slice (some ⟨g, 0, none⟩) 512 512, .int .i64 0]) ∧ Blk w' 44 g (sform (turnOf (l.getD 0 0) (l.getD 511 0)) (bytes8 N ++ dt)) ∧ w.heap.size ≤ g ∧ Below w.heap.size w w' := by
  subst hnum
  obtain ⟨hn5, hm5⟩ := hyes
  subst hn5
  subst hm5
  have hwh : (decide (512 = 512) && decide (512 = 512)) = true := rfl
  have H3n := Hid.mk h3n
  have HA := Hid.mk hA
  have Hslot := Hid.mk hslot
  clear h3n hA hslot
  have h2n' : ¬ 496 < (q : Int) := by omega
  have h1n : ¬ (N : Int) < 1 := by omega
  have H3 := Hid.mk hs3
  have hdl := hs3.1
  have hz2 := zeroSec
  have hz := zeroPair
  have h1 := pairOf_any a 512 c l a2 512 d r w hs hs2
  have hln := hs.1
  have hrn := hs2.1
  have hinfo := infoPairL (secOf_len l) (secOf_len r)
  have hone := bs_one (secOf l ++ secOf r)
  have hall := all_oneCell_toArray hone
  have hFl : (bs (secOf l ++ secOf r)).length = 1024 := by rw [bs, List.length_map, List.length_append, secOf_len, secOf_len]
  obtain ⟨F, hF⟩ : ∃ F, F = bs (secOf l ++ secOf r) := ⟨_, rfl⟩
  rw [← hF] at h1 hinfo hall hFl
  have HF := Hid.mk hF
  clear hone hF hs hs2 hs3
  go_enter Try.func31, Try.ntmps31
  go_wp2_with fail
  refine h1.mono ?_
  rintro e w1 ⟨rfl, hb1⟩
  have hw1 : (w1.alloc (.cells zpair 78)).heap[w1.heap.size]? = some (.cells zpair 78 (0, 0)) := heap_alloc_new _ _
  have hth := there_of hw1 zpair_size
  rw [← hFl] at hth
  have hB1 : Below w.heap.size w (w1.alloc (.cells zpair 78)) := hb1.alloc hb1.size _
  have hsz := hb1.size
  have hB2 := hB1.trans ((Keeps.setCells (F := fun j => j = w1.heap.size) rfl F 0 _).below (fun j hj => by omega) hB1.size)
  have hblk := blk_stored (l := secOf l ++ secOf r) hw1 (by rw [zpair_size, List.length_append, secOf_len, secOf_len])
  rw [← HF.out] at hblk
  obtain ⟨w2, hw2⟩ : ∃ w2, w2 = (w1.alloc (.cells zpair 78)).setCells w1.heap.size 0 F := ⟨_, rfl⟩
  rw [← hw2] at hB2 hblk
  have HB2 := Hid.mk hB2
  have Hblk := Hid.mk hblk
  have HW2 := Hid.mk hw2
  clear h1 hw1 hB1 hb1 hB2 hblk hw2
  rw [hwh]
  have el := secOf_self hln
  have er := secOf_self hrn
  rw [el, er] at Hblk
  obtain ⟨s1, s2⟩ := pair_srcs Hblk.out hln hrn
  have k1 := newest_any w1.heap.size l r w2 s1 s2 hl hr
  have HS1 := Hid.mk s1
  have HS2 := Hid.mk s2
  clear el er s1 s2 Hblk
  go_wp2_with (refine wpList_store_mid rfl 78 _ _ rfl w1.heap.size 0 F.toArray rfl rfl ?h1 ?h2 hall ?_)
  case h1 => simpa using hth
  case h2 => simpa using hinfo
  rw [← HW2.out]
  refine k1.mono ?_
  rintro e w3 ⟨v, rfl, hlst, hb3⟩
  obtain ⟨va, vc, hv, hq⟩ := hlst
  subst hv
  have hB3 := HB2.out.trans (hb3.mono HB2.out.size)
  have hw3 : (w3.alloc (.cells #[.int .i64 (((snewest l r).1 : Nat) : Int), .int .i64 (((snewest l r).2.1 : Nat) : Int), .slice va (snewest l r).2.2.1.length vc] 82)).heap[w3.heap.size]? = some (.cells #[.int .i64 (((snewest l r).1 : Nat) : Int), .int .i64 (((snewest l r).2.1 : Nat) : Int), .slice va (snewest l r).2.2.1.length vc] 82 (0, 0)) := heap_alloc_new _ _
  have hb4 : Below w3.heap.size w3 (w3.alloc (.cells #[.int .i64 (((snewest l r).1 : Nat) : Int), .int .i64 (((snewest l r).2.1 : Nat) : Int), .slice va (snewest l r).2.2.1.length vc] 82)) := (Below.refl _ w3).alloc (Nat.le_refl _) _
  have HB4 := Hid.mk (hB3.trans (hb4.mono hB3.size))
  have HX := Hid.mk ((HS1.out.later hb3).later hb4)
  have ho := Hid.mk (fun w' => other_any (snewest l r).1 (snewest l r).2.1 (.slice va (snewest l r).2.2.1.length vc) w' HA.out)
  rw [Hslot.out] at ho
  have h3n' : ¬ (N : Int) ≤ (((snewest l r).2.1 : Nat) : Int) := by have := H3n.out; omega
  clear H3n HA Hslot
  clear k1 hq hb3 HW2 hth hinfo hall HB2 hB3 hw3 hb4 HS1 HS2
  generalize (snewest l r).1 = A at *
  generalize (snewest l r).2.1 = B at *
  generalize (snewest l r).2.2.1.length = D at *
  go_wp2_with fail
  refine (ho.out _).mono ?_
  rintro e w5 ⟨rfl, hb5⟩
  have HB5 := Hid.mk (HB4.out.trans (hb5.mono HB4.out.size))
  have HX5 := Hid.mk (HX.out.later hb5)
  have c0 := HX5.out.2.2 _ rfl 0 (by omega)
  have c1 := HX5.out.2.2 _ rfl 511 (by omega)
  rw [addr_add] at c0 c1
  have k2 := nextTurn_any w1.heap.size 0 (l.getD 0 0) (l.getD 511 0) w5 c0 c1
  have k3 := anchorBody_any N a3 q e3 dt w5 hNm (H3.out.later HB5.out) h2n hca
  have ht := turnOf_le (l.getD 0 0) (l.getD 511 0)
  obtain ⟨t, hteq⟩ : ∃ t, t = turnOf (l.getD 0 0) (l.getD 511 0) := ⟨_, rfl⟩
  rw [← hteq] at ht k2
  have Hteq := Hid.mk hteq
  clear ho hb5 HB4 HX c0 c1 hteq
  go_wp2_with fail
  refine k2.mono ?_
  rintro e w' ⟨rfl, hw⟩
  have hw' := hw.symm
  subst hw'
  clear hw k2
  go_wp2_with fail
  refine k3.mono ?_
  rintro e w6 ⟨v6, rfl, ho6, hb6⟩
  obtain ⟨p6, c6, rfl, hs6, _, _⟩ := ho6.src
  have hbl : (bytes8 N ++ dt).length = 8 + q := by rw [List.length_append, bytes8_len, hdl]
  rw [hbl] at hs6 ⊢
  have HB6 := Hid.mk (HB5.out.trans (hb6.mono HB5.out.size))
  have k4 := sealed_any t p6 (8 + q) c6 (bytes8 N ++ dt) w6 (by omega) hs6 (by omega) ((bytes8_bytes N).append hdt)
  have hfl : (sform t (bytes8 N ++ dt)).length = 512 := sform_len (by omega)
  have hinfoS := infoSecL (l := sform t (bytes8 N ++ dt)) hfl
  have hallS := all_oneCell_toArray (bs_one (sform t (bytes8 N ++ dt)))
  have hll2 : (bs (sform t (bytes8 N ++ dt))).length = 512 := by rw [bs, List.length_map, hfl]
  obtain ⟨G, hG⟩ : ∃ G, G = bs (sform t (bytes8 N ++ dt)) := ⟨_, rfl⟩
  rw [← hG] at k4 hinfoS hallS hll2
  have HG := Hid.mk hG
  clear k3 ho6 hb6 hs6 HB5 hG
  generalize 8 + q = Q8 at *
  go_wp2_with fail
  refine k4.mono ?_
  rintro e w7 ⟨rfl, hb7⟩
  have hB7 : Below w.heap.size w w7 := HB6.out.trans (hb7.mono HB6.out.size)
  have hw7 : (w7.alloc (.cells zsec 44)).heap[w7.heap.size]? = some (.cells zsec 44 (0, 0)) := heap_alloc_new _ _
  have hth := there_of hw7 zsec_size
  rw [← hll2] at hth
  have hblk := blk_stored (l := sform t (bytes8 N ++ dt)) hw7 (by rw [zsec_size, hfl])
  rw [← HG.out] at hblk
  have hsz7 := hB7.size
  have hB8 : Below w.heap.size w (w7.alloc (.cells zsec 44)) := hB7.alloc hB7.size _
  have hB9 := hB8.trans ((Keeps.setCells (F := fun j => j = w7.heap.size) rfl G 0 _).below (fun j hj => by omega) hB8.size)
  rw [Hteq.out] at hblk
  have HH := Hid.mk (fun j => And.intro (hblk.keep (w' := ((w7.alloc (.cells zsec 44)).setCells w7.heap.size 0 G).drewN j) rfl) (And.intro hB7.size (below_drewN hB9 j)))
  clear k4 hb7 hB7 hw7 hblk hB8 hB9 HB6
  go_wp2_with (refine wpList_store_mid rfl 44 _ _ rfl w7.heap.size 0 G.toArray rfl rfl ?h1 ?h2 hallS ?_)
  case h1 => simpa using hth
  case h2 => simpa using hinfoS
  go_quiet (fail)
  go_wp2
  go_ret3
  exact ⟨w7.heap.size, rfl, HH.out _⟩

set_option maxRecDepth 20000 in
set_option maxHeartbeats 4000000 in
theorem renew_ok1 (a : Option Addr) (n c : Nat) (l : List Int) (a2 : Option Addr) (m d : Nat) (r : List Int) (a3 : Option Addr) (q e3 : Nat) (dt : List Int) (num : Int) (w : World) (hs : Src w a n l) (hs2 : Src w a2 m r) (hl : Bytes l) (hr : Bytes r) (hyes : n = 512 ∧ m = 512) (N : Nat) (hnum : num = (N : Int)) (hN1 : 1 ≤ N) (hNm : N < 9223372036854775808) (hs3 : Src w a3 q dt) (hdt : Bytes dt) (h2n : q ≤ 496) (hca : a3 = none → e3 = 0) (h3n : (snewest l r).2.1 < N) (hA : (snewest l r).1 ≤ 1) (hslot : (if (snewest l r).2.1 = 0 then 0 else 1 - (snewest l r).1) = 1) :
    Calls Try.prog 31 #[.slice a n c, .slice a2 m d, .int .i64 num, .slice a3 q e3] w fun e w' => ∃ g, e = .returned (.tuple #[.int .i64 1, .slice (some ⟨g, 0, none⟩) 512 512, .int .i64 0]) ∧ Blk w' 44 g (sform (turnOf (r.getD 0 0) (r.getD 511 0)) (bytes8 N ++ dt)) ∧ w.heap.size ≤ g ∧ Below w.heap.size w w' := by
  subst hnum
  obtain ⟨hn5, hm5⟩ := hyes
  subst hn5
  subst hm5
  have hwh : (decide (512 = 512) && decide (512 = 512)) = true := rfl
  have H3n := Hid.mk h3n
  have HA := Hid.mk hA
  have Hslot := Hid.mk hslot
  clear h3n hA hslot
  have h2n' : ¬ 496 < (q : Int) := by omega
  have h1n : ¬ (N : Int) < 1 := by omega
  have H3 := Hid.mk hs3
  have hdl := hs3.1
  have hz2 := zeroSec
  have hz := zeroPair
  have h1 := pairOf_any a 512 c l a2 512 d r w hs hs2
  have hln := hs.1
  have hrn := hs2.1
  have hinfo := infoPairL (secOf_len l) (secOf_len r)
  have hone := bs_one (secOf l ++ secOf r)
  have hall := all_oneCell_toArray hone
  have hFl : (bs (secOf l ++ secOf r)).length = 1024 := by rw [bs, List.length_map, List.length_append, secOf_len, secOf_len]
  obtain ⟨F, hF⟩ : ∃ F, F = bs (secOf l ++ secOf r) := ⟨_, rfl⟩
  rw [← hF] at h1 hinfo hall hFl
  have HF := Hid.mk hF
  clear hone hF hs hs2 hs3
  go_enter Try.func31, Try.ntmps31
  go_wp2_with fail
  refine h1.mono ?_
  rintro e w1 ⟨rfl, hb1⟩
  have hw1 : (w1.alloc (.cells zpair 78)).heap[w1.heap.size]? = some (.cells zpair 78 (0, 0)) := heap_alloc_new _ _
  have hth := there_of hw1 zpair_size
  rw [← hFl] at hth
  have hB1 : Below w.heap.size w (w1.alloc (.cells zpair 78)) := hb1.alloc hb1.size _
  have hsz := hb1.size
  have hB2 := hB1.trans ((Keeps.setCells (F := fun j => j = w1.heap.size) rfl F 0 _).below (fun j hj => by omega) hB1.size)
  have hblk := blk_stored (l := secOf l ++ secOf r) hw1 (by rw [zpair_size, List.length_append, secOf_len, secOf_len])
  rw [← HF.out] at hblk
  obtain ⟨w2, hw2⟩ : ∃ w2, w2 = (w1.alloc (.cells zpair 78)).setCells w1.heap.size 0 F := ⟨_, rfl⟩
  rw [← hw2] at hB2 hblk
  have HB2 := Hid.mk hB2
  have Hblk := Hid.mk hblk
  have HW2 := Hid.mk hw2
  clear h1 hw1 hB1 hb1 hB2 hblk hw2
  rw [hwh]
  have el := secOf_self hln
  have er := secOf_self hrn
  rw [el, er] at Hblk
  obtain ⟨s1, s2⟩ := pair_srcs Hblk.out hln hrn
  have k1 := newest_any w1.heap.size l r w2 s1 s2 hl hr
  have HS1 := Hid.mk s1
  have HS2 := Hid.mk s2
  clear el er s1 s2 Hblk
  go_wp2_with (refine wpList_store_mid rfl 78 _ _ rfl w1.heap.size 0 F.toArray rfl rfl ?h1 ?h2 hall ?_)
  case h1 => simpa using hth
  case h2 => simpa using hinfo
  rw [← HW2.out]
  refine k1.mono ?_
  rintro e w3 ⟨v, rfl, hlst, hb3⟩
  obtain ⟨va, vc, hv, hq⟩ := hlst
  subst hv
  have hB3 := HB2.out.trans (hb3.mono HB2.out.size)
  have hw3 : (w3.alloc (.cells #[.int .i64 (((snewest l r).1 : Nat) : Int), .int .i64 (((snewest l r).2.1 : Nat) : Int), .slice va (snewest l r).2.2.1.length vc] 82)).heap[w3.heap.size]? = some (.cells #[.int .i64 (((snewest l r).1 : Nat) : Int), .int .i64 (((snewest l r).2.1 : Nat) : Int), .slice va (snewest l r).2.2.1.length vc] 82 (0, 0)) := heap_alloc_new _ _
  have hb4 : Below w3.heap.size w3 (w3.alloc (.cells #[.int .i64 (((snewest l r).1 : Nat) : Int), .int .i64 (((snewest l r).2.1 : Nat) : Int), .slice va (snewest l r).2.2.1.length vc] 82)) := (Below.refl _ w3).alloc (Nat.le_refl _) _
  have HB4 := Hid.mk (hB3.trans (hb4.mono hB3.size))
  have HX := Hid.mk ((HS2.out.later hb3).later hb4)
  have ho := Hid.mk (fun w' => other_any (snewest l r).1 (snewest l r).2.1 (.slice va (snewest l r).2.2.1.length vc) w' HA.out)
  rw [Hslot.out] at ho
  have h3n' : ¬ (N : Int) ≤ (((snewest l r).2.1 : Nat) : Int) := by have := H3n.out; omega
  clear H3n HA Hslot
  clear k1 hq hb3 HW2 hth hinfo hall HB2 hB3 hw3 hb4 HS1 HS2
  generalize (snewest l r).1 = A at *
  generalize (snewest l r).2.1 = B at *
  generalize (snewest l r).2.2.1.length = D at *
  go_wp2_with fail
  refine (ho.out _).mono ?_
  rintro e w5 ⟨rfl, hb5⟩
  have HB5 := Hid.mk (HB4.out.trans (hb5.mono HB4.out.size))
  have HX5 := Hid.mk (HX.out.later hb5)
  have c0 := HX5.out.2.2 _ rfl 0 (by omega)
  have c1 := HX5.out.2.2 _ rfl 511 (by omega)
  rw [addr_add] at c0 c1
  have k2 := nextTurn_any w1.heap.size 512 (r.getD 0 0) (r.getD 511 0) w5 c0 c1
  have k3 := anchorBody_any N a3 q e3 dt w5 hNm (H3.out.later HB5.out) h2n hca
  have ht := turnOf_le (r.getD 0 0) (r.getD 511 0)
  obtain ⟨t, hteq⟩ : ∃ t, t = turnOf (r.getD 0 0) (r.getD 511 0) := ⟨_, rfl⟩
  rw [← hteq] at ht k2
  have Hteq := Hid.mk hteq
  clear ho hb5 HB4 HX c0 c1 hteq
  go_wp2_with fail
  refine k2.mono ?_
  rintro e w' ⟨rfl, hw⟩
  have hw' := hw.symm
  subst hw'
  clear hw k2
  go_wp2_with fail
  refine k3.mono ?_
  rintro e w6 ⟨v6, rfl, ho6, hb6⟩
  obtain ⟨p6, c6, rfl, hs6, _, _⟩ := ho6.src
  have hbl : (bytes8 N ++ dt).length = 8 + q := by rw [List.length_append, bytes8_len, hdl]
  rw [hbl] at hs6 ⊢
  have HB6 := Hid.mk (HB5.out.trans (hb6.mono HB5.out.size))
  have k4 := sealed_any t p6 (8 + q) c6 (bytes8 N ++ dt) w6 (by omega) hs6 (by omega) ((bytes8_bytes N).append hdt)
  have hfl : (sform t (bytes8 N ++ dt)).length = 512 := sform_len (by omega)
  have hinfoS := infoSecL (l := sform t (bytes8 N ++ dt)) hfl
  have hallS := all_oneCell_toArray (bs_one (sform t (bytes8 N ++ dt)))
  have hll2 : (bs (sform t (bytes8 N ++ dt))).length = 512 := by rw [bs, List.length_map, hfl]
  obtain ⟨G, hG⟩ : ∃ G, G = bs (sform t (bytes8 N ++ dt)) := ⟨_, rfl⟩
  rw [← hG] at k4 hinfoS hallS hll2
  have HG := Hid.mk hG
  clear k3 ho6 hb6 hs6 HB5 hG
  generalize 8 + q = Q8 at *
  go_wp2_with fail
  refine k4.mono ?_
  rintro e w7 ⟨rfl, hb7⟩
  have hB7 : Below w.heap.size w w7 := HB6.out.trans (hb7.mono HB6.out.size)
  have hw7 : (w7.alloc (.cells zsec 44)).heap[w7.heap.size]? = some (.cells zsec 44 (0, 0)) := heap_alloc_new _ _
  have hth := there_of hw7 zsec_size
  rw [← hll2] at hth
  have hblk := blk_stored (l := sform t (bytes8 N ++ dt)) hw7 (by rw [zsec_size, hfl])
  rw [← HG.out] at hblk
  have hsz7 := hB7.size
  have hB8 : Below w.heap.size w (w7.alloc (.cells zsec 44)) := hB7.alloc hB7.size _
  have hB9 := hB8.trans ((Keeps.setCells (F := fun j => j = w7.heap.size) rfl G 0 _).below (fun j hj => by omega) hB8.size)
  rw [Hteq.out] at hblk
  have HH := Hid.mk (fun j => And.intro (hblk.keep (w' := ((w7.alloc (.cells zsec 44)).setCells w7.heap.size 0 G).drewN j) rfl) (And.intro hB7.size (below_drewN hB9 j)))
  clear k4 hb7 hB7 hw7 hblk hB8 hB9 HB6
  go_wp2_with (refine wpList_store_mid rfl 44 _ _ rfl w7.heap.size 0 G.toArray rfl rfl ?h1 ?h2 hallS ?_)
  case h1 => simpa using hth
  case h2 => simpa using hinfoS
  go_quiet (fail)
  go_wp2
  go_ret3
  exact ⟨w7.heap.size, rfl, HH.out _⟩

end Go.Proofs.Ytohgdjlgbnpobaa
end

section
namespace Go.Proofs.Ytohgdjlgbnpobaa
open Go.RowKit

theorem snewest_slot (l r : List Int) : (snewest l r).1 ≤ 1 := by
  unfold snewest
  split
  · simp
  · split
    · simp
    · split <;> simp
theorem snewest_none {l r : List Int} (hl : l.length = 512) (hr : r.length = 512) : ((snewest l r).2.2.2 = 0 ∧ 0 < (snewest l r).2.1) ∨ ((snewest l r).2.2.2 = 30 ∧ (snewest l r).2.1 = 0 ∧ (snewest l r).1 = 0) := by
  rw [snewest_eq hl hr]
  by_cases q : (sanchor l).1 = 0 ∧ (sanchor r).1 = 0
  · rw [if_pos q]; exact .inr ⟨rfl, rfl, rfl⟩
  · rw [if_neg q]
    by_cases q2 : (sanchor l).1 < (sanchor r).1
    · rw [if_pos q2]; exact .inl ⟨rfl, by simp only; omega⟩
    · rw [if_neg q2]; exact .inl ⟨rfl, by simp only; omega⟩

theorem renew_any (a : Option Addr) (n c : Nat) (l : List Int) (a2 : Option Addr) (m d : Nat) (r : List Int) (a3 : Option Addr) (q e3 : Nat) (dt : List Int) (num : Int) (w : World) (hs : Src w a n l) (hs2 : Src w a2 m r) (hl : Bytes l) (hr : Bytes r)
    (hs3 : Src w a3 q dt) (hdt : Bytes dt) (hca : a3 = none → e3 = 0) (hhi : num ≤ 9223372036854775807) :
    Calls Try.prog 31 #[.slice a n c, .slice a2 m d, .int .i64 num, .slice a3 q e3] w fun e w' => ∃ v, e = .returned (.tuple #[.int .i64 (((srenew l r num dt).1 : Nat) : Int), v, .int .i64 (((srenew l r num dt).2.2 : Nat) : Int)]) ∧ Lst w' w.heap.size v (srenew l r num dt).2.1 ∧ Below w.heap.size w w' := by
  have hln := hs.1
  have hrn := hs2.1
  have hdn := hs3.1
  by_cases hyes : n = 512 ∧ m = 512
  · by_cases h1 : num < 1
    · refine (renew_no2 a n c l a2 m d r a3 q e3 num w hs hs2 hyes h1).mono ?_
      rintro e w' ⟨rfl, hb⟩
      have e1 : srenew l r num dt = (0, [], 1) := by unfold srenew; rw [if_neg (by omega), if_pos h1]
      rw [e1]; exact ⟨_, rfl, Lst.nil _ _, hb⟩
    · by_cases h2 : 496 < q
      · refine (renew_no3 a n c l a2 m d r a3 q e3 num w hs hs2 hyes h1 h2).mono ?_
        rintro e w' ⟨rfl, hb⟩
        have e1 : srenew l r num dt = (0, [], 7) := by unfold srenew; rw [if_neg (by omega), if_neg h1, if_pos (by omega)]
        rw [e1]; exact ⟨_, rfl, Lst.nil _ _, hb⟩
      · by_cases h3 : num ≤ (((snewest l r).2.1 : Nat) : Int)
        · refine (renew_no4 a n c l a2 m d r a3 q e3 num w hs hs2 hl hr hyes h1 (by omega) h3).mono ?_
          rintro e w' ⟨rfl, hb⟩
          have e1 : srenew l r num dt = (0, [], 31) := by unfold srenew; rw [if_neg (by omega), if_neg h1, if_neg (by omega)]; simp only; rw [if_pos h3]
          rw [e1]; exact ⟨_, rfl, Lst.nil _ _, hb⟩
        · obtain ⟨N, hN⟩ : ∃ N : Nat, num = (N : Int) := ⟨num.toNat, by omega⟩
          have hA := snewest_slot l r
          have hno := snewest_none (l := l) (r := r) (by omega) (by omega)
          have hdl : (bytes8 N ++ dt).length ≤ 504 := by rw [List.length_append, bytes8_len]; omega
          by_cases hs0 : (snewest l r).2.2.2 = 0 ∧ (snewest l r).1 = 0
          · refine (renew_ok1 a n c l a2 m d r a3 q e3 dt num w hs hs2 hl hr hyes N hN (by omega) (by omega) hs3 hdt (by omega) hca (by omega) hA (by rw [if_neg (by omega)]; omega)).mono ?_
            rintro e w' ⟨g, rfl, hblk, hg, hb⟩
            have e1 : srenew l r num dt = (1, sform (turnOf (r.getD 0 0) (r.getD 511 0)) (bytes8 N ++ dt), 0) := by unfold srenew; rw [if_neg (by omega), if_neg h1, if_neg (by omega)]; simp only; rw [if_neg h3, if_pos hs0, hN, Int.toNat_natCast]
            rw [e1]
            have := hblk.lst hg
            rw [sform_len hdl] at this
            exact ⟨_, rfl, this, hb⟩
          · refine (renew_ok0 a n c l a2 m d r a3 q e3 dt num w hs hs2 hl hr hyes N hN (by omega) (by omega) hs3 hdt (by omega) hca (by omega) hA (by split <;> omega)).mono ?_
            rintro e w' ⟨g, rfl, hblk, hg, hb⟩
            have e1 : srenew l r num dt = (0, sform (turnOf (l.getD 0 0) (l.getD 511 0)) (bytes8 N ++ dt), 0) := by unfold srenew; rw [if_neg (by omega), if_neg h1, if_neg (by omega)]; simp only; rw [if_neg h3, if_neg hs0, hN, Int.toNat_natCast]
            rw [e1]
            have := hblk.lst hg
            rw [sform_len hdl] at this
            exact ⟨_, rfl, this, hb⟩
  · refine (renew_no1 a n c l a2 m d r a3 q e3 num w hs hs2 hyes).mono ?_
    rintro e w' ⟨rfl, hb⟩
    have e1 : srenew l r num dt = (0, [], 2) := by unfold srenew; rw [if_pos (by omega)]
    rw [e1]; exact ⟨_, rfl, Lst.nil _ _, hb⟩
theorem srenew_len (l r : List Int) (num : Int) (dt : List Int) : (srenew l r num dt).2.1.length ≤ 512 := by
  have h : ∀ (t : Int) (N : Nat), dt.length ≤ 496 → (sform t (bytes8 N ++ dt)).length ≤ 512 := fun t N hd => by rw [sform_len (by rw [List.length_append, bytes8_len]; omega)]; omega
  unfold srenew
  split
  · simp
  · split
    · simp
    · split
      · simp
      · next h3 =>
        simp only
        split
        · simp
        · split
          · exact h _ _ (by omega)
          · exact h _ _ (by omega)
end Go.Proofs.Ytohgdjlgbnpobaa
end
