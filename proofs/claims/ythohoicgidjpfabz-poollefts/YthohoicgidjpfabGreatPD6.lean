import Derived.Test.YthohoicgidjpfabGreatPD5
namespace Go.Proofs.YthohoicgidjpfabGreat
open Go.RowKit

section
variable {w w' : World} {X : Nat → Prop} {k : Nat} {M : MP} {d : List Int} {a : Option Addr} {c : Nat}
set_option maxRecDepth 20000 in
set_option maxHeartbeats 4000000 in
theorem mwmap_any (h : MX w X k M) (hX : ∀ j, X j → j < w.heap.size) (hp : M.put.length ≤ 16) (hs : Src w a 512 d) (hd : Bytes d) (b : Nat) (hb : b = 0 ∨ b = 1) :
    Calls Tryz.prog 81 #[.pointer (some ⟨k, 0, none⟩), .int .i64 (b : Int), .slice a 512 c] w fun e w' => MO w w' X w.heap.size k (M.wmap b d) e := by
  have ks := mstate_any h
  have kf := fromBytes_any (c := c) hs hd
  by_cases h0 : M.state = 0
  · have hc : M.wmap b d = M.lays b (blOf d) := by unfold MP.wmap; rw [if_neg (fun e => e h0)]
    rw [h0] at ks
    rw [hc]
    obtain ⟨R, hR⟩ : ∃ R, R = M.lays b (blOf d) := ⟨_, rfl⟩
    rw [← hR]
    have HR0 := Hid.mk hR
    have H := Hid.mk (And.intro h (And.intro hX hp))
    clear h hX hc h0 hp hs hd hR
    have hbi : (b : Int) < 2 := by omega
    go_enter Tryz.func81, Tryz.ntmps81
    go_wp2_with fail
    refine ks.mono ?_
    rintro e w0 ⟨rfl, hw0⟩
    have hw0' := hw0.symm
    subst hw0'
    clear hw0 ks
    go_wp2_with fail
    refine kf.mono ?_
    rintro e w1 ⟨g, c1, rfl, hg, hr, hb1⟩
    have kl : Calls Tryz.prog 29 #[.pointer (some ⟨k, 0, none⟩), .int .i64 (b : Int), slB g c1] w1 fun e w' => MO w1 w' X w.heap.size k R e := by
      rw [HR0.out]
      rcases hb with rfl | rfl
      · exact lays0_any (H.out.1.later hb1) H.out.2.1 hb1.size hg hr (blOf_len d) H.out.2.2
      · exact lays1_any (H.out.1.later hb1) H.out.2.1 hb1.size hg hr (blOf_len d) H.out.2.2
    have HB := Hid.mk hb1
    clear kf hr hb1
    go_wp2_with fail
    refine kl.mono ?_
    rintro e w2 ⟨rfl, hm2, hk2⟩
    have HE := Hid.mk (And.intro hm2 ((Keeps.of_below X HB.out).trans hk2 (fun _ h => .inl h)))
    clear kl hm2 hk2
    go_wp2
    go_ret
    exact ⟨rfl, HE.out⟩
  · have hc : M.wmap b d = (M.state, M) := by unfold MP.wmap; rw [if_pos h0]
    rw [hc]
    have H := Hid.mk h
    clear h hX hc kf
    generalize M.state = x at *
    go_enter Tryz.func81, Tryz.ntmps81
    go_wp2_with fail
    refine ks.mono ?_
    rintro e w0 ⟨rfl, hw0⟩
    have hw0' := hw0.symm
    subst hw0'
    clear hw0 ks
    go_wp2
    go_ret
    exact ⟨rfl, H.out.mono (fun _ h => .inl h), Keeps.refl _ _⟩
/-- 512 bytes: the list's, zeros behind. -/
def pad5 (l : List Int) : List Int := (List.range 512).map fun i => l.getD i 0
theorem pad5_len (l : List Int) : (pad5 l).length = 512 := by simp [pad5]
theorem pad5_get (l : List Int) {i : Nat} (hi : i < 512) : (pad5 l).getD i 0 = l.getD i 0 := by simp [pad5, List.getD, hi]
theorem pad5_bytes {l : List Int} (h : Bytes l) : Bytes (pad5 l) := fun x hx => by
  obtain ⟨i, _, rfl⟩ := List.mem_map.1 hx
  exact getD_byte h i
set_option maxRecDepth 20000 in
set_option maxHeartbeats 4000000 in
theorem padded_any {n : Nat} {l : List Int} (hs : Src w a n l) (hn : n ≤ 140737488355328) : Calls Tryz.prog 80 #[.slice a n c] w fun e w' => ∃ g c', e = .returned (.slice (some ⟨g, 0, none⟩) 512 c') ∧ w.heap.size ≤ g ∧ RowAt w' 5 g c' (bs (pad5 l)) ∧ Below w.heap.size w w' := by
  have HS := Hid.mk hs
  have hln : l.length = n := hs.1
  clear hs
  go_enter Tryz.func80, Tryz.ntmps80
  go_wp2
  go_loopw [3, 4] (fun v iv wr => ∃ j : Nat, j ≤ 512 ∧ iv = .int .i64 (j : Int) ∧ Own wr w.heap.size v ((pad5 l).take j) ∧ Below w.heap.size w wr) (fun _ iv _ => 512 - (intOf iv).toNat)
  case atStart => exact ⟨0, Nat.zero_le _, rfl, Own.nil _ _, Below.refl _ _⟩
  case round =>
    obtain ⟨j, hj, rfl, hown, hbx⟩ := hrel
    have Hown := Hid.mk hown
    have HBx := Hid.mk hbx
    have hzx := hbx.size
    clear hown hbx
    by_cases hlm : j < 512
    · have hlm' : (j : Int) < 512 := by omega
      have hll : ((pad5 l).take j).length ≤ 512 := by rw [List.length_take]; omega
      have hsn := take_snoc (pad5 l) j (by rw [pad5_len]; exact hlm)
      rw [pad5_get l hlm] at hsn
      by_cases hjn : j < n
      · have hjn' : (j : Int) < (n : Int) := by omega
        cases a with
        | none => have := HS.out.2.1 rfl; omega
        | some y =>
        obtain ⟨b, o, rfl, hc⟩ := HS.out.spot (by omega)
        have hc0 : wr.cell? ⟨b, o + j, none⟩ = some (.int .u8 (l.getD j 0)) := (World.cell?_of_block (w := w) (a := ⟨b, o + j, none⟩) (HBx.out.block b (World.block_lt_of_cell? _ _ (hc j hjn)))).trans (hc j hjn)
        have HeN := Hid.mk hsn
        clear hsn hc
        generalize l.getD j 0 = x at *
        go_wp2_with (at_builtin; refine wpList_app1 rfl _ _ rfl w.heap.size u3 _ x rfl rfl Hown.out ?b1 ?b2 ?_)
        case b1 => omega
        case b2 => exact hzx
        intro v' w' ho hb'
        have HO : Hid (Own w' w.heap.size v' ((pad5 l).take (j + 1))) := by rw [← HeN.out]; exact ho
        have HB' := Hid.mk (HBx.out.trans hb')
        clear ho hb' Hown HBx HeN
        go_wp2
        go_roundw
        case rel => exact ⟨j + 1, by omega, by go_num, HO.out, HB'.out⟩
        case measure => simp [intOf]; omega
      · have hjn' : ¬ (j : Int) < (n : Int) := by omega
        have hz : l.getD j 0 = 0 := by rw [List.getD, List.getElem?_eq_none (by omega)]; rfl
        rw [hz] at hsn
        have HeN := Hid.mk hsn
        clear hsn hz
        go_wp2_with (at_builtin; refine wpList_app1 rfl _ _ rfl w.heap.size u3 _ 0 rfl rfl Hown.out (by omega) hzx ?_)
        intro v' w' ho hb'
        have HO : Hid (Own w' w.heap.size v' ((pad5 l).take (j + 1))) := by rw [← HeN.out]; exact ho
        have HB' := Hid.mk (HBx.out.trans hb')
        clear ho hb' Hown HBx HeN
        go_wp2
        go_roundw
        case rel => exact ⟨j + 1, by omega, by go_num, HO.out, HB'.out⟩
        case measure => simp [intOf]; omega
    · have hlm' : ¬ (j : Int) < 512 := by omega
      have ho := Hown.out
      rw [List.take_of_length_le (by rw [pad5_len]; omega)] at ho
      obtain ⟨g5, c5, e5, hg5, hr5⟩ := ho.row' (by rw [pad5_len]; omega)
      rw [pad5_len] at e5
      subst e5
      have HE := Hid.mk (And.intro hg5 hr5)
      clear Hown ho hg5 hr5
      go_wp2
      go_ret
      exact ⟨g5, c5, rfl, HE.out.1, HE.out.2, HBx.out⟩
end
end Go.Proofs.YthohoicgidjpfabGreat
