import Derived.Test.YtodleeipefnadacKP4
import Derived.Test.YtodleeipefnadacKS20
namespace Go.Proofs.Ytodleeipefnadac
open Go.RowKit

theorem le_top {b : List Int} (hb : Bytes b) (h : 8 ≤ b.length) : le (b.take 8) < 9223372036854775808 ↔ b.getD 7 0 ≤ 127 := by
  have e := le_take_succ (l := b) (k := 7) (by omega)
  have hlt : le (b.take 7) < 2 ^ 56 := by
    have := le_lt (hb.take 7)
    have e2 : (b.take 7).length = 7 := by rw [List.length_take]; omega
    rwa [e2] at this
  have h7 := hb.getD 7
  rw [e]
  constructor <;> intro h <;> omega
theorem le_drop_step {B : List Int} (_hb : Bytes B) {j : Nat} (hj : j < B.length) : le (B.drop j) = (B.getD j 0).toNat + 256 * le (B.drop (j + 1)) := by
  rw [List.drop_eq_getElem_cons hj]
  simp [le, List.getD, hj]
theorem le_drop_le {B : List Int} (hb : Bytes B) : ∀ j, le (B.drop j) ≤ le B
  | 0 => Nat.le_refl _
  | j + 1 => by
    refine Nat.le_trans ?_ (le_drop_le hb j)
    by_cases hj : j < B.length
    · rw [le_drop_step hb hj]; omega
    · rw [List.drop_eq_nil_of_le (by omega), List.drop_eq_nil_of_le (by omega)]; exact Nat.le_refl _

set_option maxRecDepth 20000 in
set_option maxHeartbeats 4000000 in
theorem ranchor_any (b o c : Nat) (s : List Int) (w : World) (hs : Src w (some ⟨b, o, none⟩) 512 s) (hbs : Bytes s) :
    Calls Try.prog 38 #[.slice (some ⟨b, o, none⟩) 512 c] w fun e w' => ∃ v, e = .returned (.tuple #[.int .i64 (((sanchor s).1 : Nat) : Int), v]) ∧ Own w' w.heap.size v (sanchor s).2 ∧ Below w.heap.size w w' := by
  have h1 := ropen_all b o c s w hs hbs
  have hsl := hs.1
  clear hs
  cases hop : sopen s with
  | none =>
    have hno : sanchor s = (0, []) := sanchor_short (.inl hop)
    rw [sopens_none hsl hop] at h1
    dsimp only at h1
    have Hno := Hid.mk hno
    clear hno hop
    go_enter Try.func38, Try.ntmps38
    go_wp2_with fail
    refine h1.mono ?_
    rintro e w1 ⟨v, rfl, _, hb1⟩
    have HB1 := Hid.mk hb1
    clear h1 hb1
    go_wp2
    go_ret2
    exact ⟨_, by rw [Hno.out]; rfl, by rw [Hno.out]; exact Own.nil _ _, HB1.out⟩
  | some body =>
    have hbl := sopen_len hop hsl
    have hbb : Bytes body := by obtain ⟨_, _, _, rfl⟩ := sopen_some hop; exact (hbs.drop _).take _
    rw [sopens_some hsl hop] at h1
    dsimp only at h1
    by_cases h8 : body.length < 8
    · have hno : sanchor s = (0, []) := sanchor_short (.inr ⟨_, hop, .inl h8⟩)
      have Hno := Hid.mk hno
      have h8' : (body.length : Int) < 8 := by omega
      clear hno hop
      go_enter Try.func38, Try.ntmps38
      go_wp2_with fail
      refine h1.mono ?_
      rintro e w1 ⟨v, rfl, ho, hb1⟩
      obtain ⟨va, vc, rfl, _, _, _⟩ := ho.src
      have HB1 := Hid.mk hb1
      clear h1 hb1 ho
      go_wp2
      go_ret2
      exact ⟨_, by rw [Hno.out]; rfl, by rw [Hno.out]; exact Own.nil _ _, HB1.out⟩
    · have h8' : ¬ (body.length : Int) < 8 := by omega
      have htop := le_top hbb (by omega)
      by_cases h7 : 127 < body.getD 7 0
      · have hno : sanchor s = (0, []) := sanchor_short (.inr ⟨_, hop, .inr (by omega)⟩)
        have Hno := Hid.mk hno
        clear hno hop htop
        go_enter Try.func38, Try.ntmps38
        go_wp2_with fail
        refine h1.mono ?_
        rintro e w1 ⟨v, rfl, ho, hb1⟩
        obtain ⟨g, vc, rfl, _, hr⟩ := ho.full (by omega)
        have hc7 := hr.get (i := 7) (by omega)
        have HB1 := Hid.mk hb1
        have c7 : (7 : Int) < (body.length : Int) := by omega
        clear h1 hb1 ho hr
        generalize body.getD 7 0 = x at *
        generalize body.length = N at *
        go_wp2
        go_ret2
        exact ⟨_, by rw [Hno.out]; rfl, by rw [Hno.out]; exact Own.nil _ _, HB1.out⟩
      · have hyes : sanchor s = (le (body.take 8), body.drop 8) := sanchor_good hop (by omega) (htop.2 (by omega))
        have hsm : le (body.take 8) < 9223372036854775808 := htop.2 (by omega)
        have Hyes := Hid.mk hyes
        have ht8 : (body.take 8).length = 8 := by rw [List.length_take]; omega
        have htb : Bytes (body.take 8) := hbb.take 8
        clear hyes hop htop
        go_enter Try.func38, Try.ntmps38
        go_wp2_with fail
        refine h1.mono ?_
        rintro e w1 ⟨v, rfl, ho, hb1⟩
        obtain ⟨g, vc, rfl, hg, hr⟩ := ho.full (by omega)
        have hc7 := hr.get (i := 7) (by omega)
        have HB1 := Hid.mk hb1
        have Hr := Hid.mk hr
        have c7 : (7 : Int) < (body.length : Int) := by omega
        have hz1 := hb1.size
        clear h1 hb1 ho hr
        obtain ⟨x7, hx7⟩ : ∃ x7, x7 = body.getD 7 0 := ⟨_, rfl⟩
        rw [← hx7] at hc7 h7
        obtain ⟨N, hN⟩ : ∃ N, N = body.length := ⟨_, rfl⟩
        rw [← hN] at h8' c7 hbl ⊢
        clear hx7
        have HN := Hid.mk hN
        clear hN h8
        go_wp2
        go_loopw [6, 7] (fun r i wr => ∃ j : Nat, j ≤ 8 ∧ i = .int .i64 ((j : Int) - 1) ∧ wr = w1 ∧ r = .int .i64 ((le ((body.take 8).drop j) : Nat) : Int)) (fun _ i _ => (intOf i + 1).toNat)
        case atStart => exact ⟨8, Nat.le_refl _, rfl, rfl, by rw [List.drop_eq_nil_of_le (by omega)]; rfl⟩
        case round =>
          clear hc7
          obtain ⟨j, hj, rfl, hw, rfl⟩ := hrel
          have hw' := hw.symm
          subst hw'
          clear hw
          by_cases hlt : 0 < j
          · obtain ⟨i, rfl⟩ : ∃ i, j = i + 1 := ⟨j - 1, by omega⟩
            have hc := Hr.out.get (i := i) (by have := HN.out; omega)
            have hstep := le_drop_step htb (j := i) (by omega)
            have hle := le_drop_le htb i
            have eg : (body.take 8).getD i 0 = body.getD i 0 := by simp [List.getD, show i < 8 by omega]
            rw [eg] at hstep
            obtain ⟨x, hx⟩ : ∃ x : Nat, body.getD i 0 = (x : Int) := ⟨(body.getD i 0).toNat, by have := hbb.getD i; omega⟩
            have hx2 : x < 256 := by have := hbb.getD i; omega
            rw [hx] at hc hstep
            simp only [Int.toNat_natCast] at hstep
            have e1 : ((i + 1 : Nat) : Int) - 1 = (i : Int) := by omega
            have hiN : (i : Int) < (N : Int) := by omega
            rw [e1]
            generalize hP : le ((body.take 8).drop i) = P at *
            generalize le ((body.take 8).drop (i + 1)) = R at *
            have hov : ((R : Int) * 256 + (x : Int)) = ((P : Nat) : Int) := by omega
            have hPs : P < 9223372036854775808 := by omega
            have HP := Hid.mk hP
            have Hov := Hid.mk hov
            clear hstep hle eg hx hP e1 hov
            have b1 : (R : Int) * 256 ≤ 9223372036854775807 := by have := Hov.out; omega
            go_wp2
            go_roundw
            case rel => exact ⟨i, by omega, by go_num, trivial, by rw [HP.out]; exact congrArg (Value.int .i64) (by have := Hov.out; omega)⟩
            case measure => simp [intOf]
          · obtain rfl : j = 0 := by omega
            rw [List.drop_zero, show (((0 : Nat) : Int) - 1) = -1 by rfl]
            generalize hM : le (body.take 8) = M at *
            have HM := Hid.mk hM
            clear hM
            go_wp2
            go_loopw [8, 9] (fun v i wx => ∃ m : Nat, m ≤ N - 8 ∧ i = .int .i64 ((8 + m : Nat) : Int) ∧ Own wx w1.heap.size v ((body.drop 8).take m) ∧ Below w1.heap.size w1 wx) (fun _ i _ => N - (intOf i).toNat)
            case atStart => exact ⟨0, Nat.zero_le _, rfl, Own.nil _ _, Below.refl _ _⟩
            case round =>
              obtain ⟨m, hm, rfl, hown, hbx⟩ := hrel
              have Hown := Hid.mk hown
              have HBx := Hid.mk hbx
              have hzx := hbx.size
              clear hown hbx
              have hdl : (body.drop 8).length = N - 8 := by rw [List.length_drop, HN.out]
              by_cases hlm : m < N - 8
              · have hlm' : ((8 + m : Nat) : Int) < (N : Int) := by omega
                have hc := cell_later HBx.out (Hr.out.get (i := 8 + m) (by have := HN.out; omega))
                have eN := take_snoc (body.drop 8) m (by omega)
                have eX : (body.drop 8).getD m 0 = body.getD (8 + m) 0 := by simp [List.getD]
                rw [eX] at eN
                have HeN := Hid.mk eN
                have hll : ((body.drop 8).take m).length ≤ 504 := by rw [List.length_take]; omega
                clear eN eX
                generalize body.getD (8 + m) 0 = x at *
                generalize hQ : 8 + m = Q at *
                have HQ := Hid.mk hQ
                clear hQ
                go_wp2_with (at_builtin; refine wpList_app1 rfl _ _ rfl w1.heap.size u8 _ x rfl rfl Hown.out ?b1 ?b2 ?_)
                case b1 => omega
                case b2 => exact hzx
                intro v' w' ho hb'
                have HO : Hid (Own w' w1.heap.size v' ((body.drop 8).take (m + 1))) := by rw [← HeN.out]; exact ho
                have HB' := Hid.mk (HBx.out.trans (hb'.mono (Nat.le_refl _)))
                clear ho hb' Hown HBx HeN
                go_wp2
                go_roundw
                case rel => exact ⟨m + 1, by omega, by have := HQ.out; subst this; go_num, HO.out, HB'.out⟩
                case measure => have := HQ.out; simp [intOf]; omega
              · obtain rfl : m = N - 8 := by omega
                have hlm' : ¬ ((8 + (N - 8) : Nat) : Int) < (N : Int) := by omega
                have e5 : (body.drop 8).take (N - 8) = body.drop 8 := List.take_of_length_le (by omega)
                rw [e5] at Hown
                clear e5
                generalize hQ : 8 + (N - 8) = Q at *
                clear hQ
                go_wp2
                go_ret2
                exact ⟨_, by rw [Hyes.out]; rfl, by rw [Hyes.out]; exact Own.down Hown.out hz1, HB1.out.trans (HBx.out.mono hz1)⟩
end Go.Proofs.Ytodleeipefnadac
