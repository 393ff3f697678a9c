import Derived.Test.YtcofkdaakkfcfabBegin
namespace Go.Proofs.Ytcofkdaakkfcfab
open Go.RowKit Go.Maps

/-- What is told of a script: its operations lie below B, and so do their lists. -/
def Script (w : World) (B : Nat) (sa : Option Addr) (n : Nat) : Prop :=
  (sa = none → n = 0) ∧ ∀ y, sa = some y → ∀ i, i < n → ∃ b o, y = ⟨b, o, none⟩ ∧ b < B ∧ ∃ kind x a m c pa pn pc l pl,
    w.cell? ⟨b, o + i * 4, none⟩ = some (.int .i64 kind) ∧ w.cell? ⟨b, o + i * 4 + 1, none⟩ = some (.int .i64 x) ∧ w.cell? ⟨b, o + i * 4 + 2, none⟩ = some (.slice a m c) ∧ w.cell? ⟨b, o + i * 4 + 3, none⟩ = some (.slice pa pn pc) ∧ OpOk w B x a m pa pn l pl

theorem Script.far {w w' : World} {B : Nat} {sa : Option Addr} {n : Nat} (h : Script w B sa n) (hb : Below B w w') : Script w' B sa n := by
  refine ⟨h.1, fun y hy i hi => ?_⟩
  obtain ⟨b, o, rfl, hbB, kind, x, a, m, c, pa, pn, pc, l, pl, c0, c1, c2, c3, ho⟩ := h.2 y hy i hi
  have e := hb.block b hbB
  exact ⟨b, o, rfl, hbB, kind, x, a, m, c, pa, pn, pc, l, pl, (World.cell?_of_block (w := w) (a := ⟨b, _, none⟩) e).trans c0, (World.cell?_of_block (w := w) (a := ⟨b, _, none⟩) e).trans c1, (World.cell?_of_block (w := w) (a := ⟨b, _, none⟩) e).trans c2, (World.cell?_of_block (w := w) (a := ⟨b, _, none⟩) e).trans c3, ho.far hb⟩

set_option maxHeartbeats 4000000 in
theorem played_any (sec k1 k2 k3 : Int) (a : Option Addr) (n c : Nat) (l : List Int) (sa : Option Addr) (sn sc : Nat) (w : World) (hs : Src w a n l) (hn : n ≤ 140737488355328) (hcap : n ≤ c) (hsc : Script w w.heap.size sa sn) (hsn : 64 * sn ≤ 140737488355328) :
    Calls Try.prog 25 #[.int .i64 sec, .slice a n c, .slice sa sn sc, .int .i64 k1, .int .i64 k2, .int .i64 k3] w fun e w' => e = .returned (.bool true) ∧ Below w.heap.size w w' := by
  have hbg := begin_any sec a n c l w w.heap.size (Nat.le_refl _) hs hn hcap
  have HS := Hid.mk hsc
  clear hs hsc
  go_enter Try.func25, Try.ntmps25
  go_wp2_with fail
  refine hbg.mono ?_
  rintro e w1 ⟨d, r, rfl, hb1, hd⟩
  clear hbg
  rcases hd with ⟨rfl, rfl⟩ | ⟨F, G, p, q, s, S, rfl, rfl, ht, hz, _, _⟩
  · go_wp2
    go_ret
    exact ⟨rfl, hb1⟩
  · have H0 := Hid.mk (And.intro ht (And.intro hz hb1))
    clear ht hz hb1
    go_wp2
    go_loopw [16, 17, 18] (fun i _ _ wr => ∃ j : Nat, j ≤ sn ∧ i = .int .i64 (j : Int) ∧ ∃ F G S, Two wr w.heap.size F G p q s S S ∧ S.puts.length ≤ j ∧ Below w.heap.size w wr) (fun i _ _ _ => sn - (intOf i).toNat)
    case atStart => exact ⟨0, Nat.zero_le _, rfl, F, G, S, H0.out.1, by rw [H0.out.2.1]; exact Nat.le_refl _, H0.out.2.2⟩
    case round =>
      clear H0
      obtain ⟨j, hj, rfl, F, G, S, ht, hp, hb⟩ := hrel
      by_cases hlt : j < sn
      · have hlt' : (j : Int) < (sn : Int) := by omega
        obtain ⟨y, rfl⟩ : ∃ y, sa = some y := by
          cases sa with
          | none => have := HS.out.1 rfl; omega
          | some y => exact ⟨y, rfl⟩
        obtain ⟨b, o, rfl, hbB, kind, x, a', m, c', pa, pn, pc, l', pl, c0, c1, c2, c3, ho⟩ := (HS.out.far hb).2 y rfl j hlt
        obtain ⟨w2, hw2⟩ : ∃ w2, w2 = wr.alloc (.cells (opC kind x a' m c' pa pn pc) 32) := ⟨_, rfl⟩
        have hb2 : Below wr.heap.size wr w2 := hw2 ▸ below_box _ _
        have hbw2 : Below w.heap.size w w2 := hb.trans (hb2.mono hb.size)
        have hst := step_any (ht.later hb2) (by omega) kind x a' m c' pa pn pc l' pl (ho.far (hb2.mono hb.size))
        clear ht ho hb2 hb HS
        go_wp2_with fail
        rw [← hw2]
        clear hw2
        refine hst.mono ?_
        rintro e w3 ⟨rfl, F', G', S', ht3, hb3, hp3, _⟩
        have Hz := Hid.mk (And.intro ht3 (And.intro (show S'.puts.length ≤ j + 1 by omega) (hbw2.trans hb3)))
        clear hst ht3 hb3 hp3 hbw2 c0 c1 c2 c3
        go_wp2
        go_roundw
        case rel => exact ⟨j + 1, by omega, by go_num, F', G', S', Hz.out⟩
        case measure => simp [intOf]; omega
      · have hlt' : ¬ (j : Int) < (sn : Int) := by omega
        clear ht HS
        go_wp2
        go_ret
        exact ⟨rfl, hb⟩
end Go.Proofs.Ytcofkdaakkfcfab
