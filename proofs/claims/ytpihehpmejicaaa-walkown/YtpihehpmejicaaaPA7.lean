import Derived.Test.YtpihehpmejicaaaPA6
namespace Go.Proofs.Ytpihehpmejicaaa
open Go.RowKit Go.Maps

theorem below_same {w wr : World} (h : Below w.heap.size w wr) (k : Nat) : Below w.heap.size w (wr.drewN k) := below_drewN h k

set_option maxHeartbeats 4000000 in
/-- Lists that are alike. -/
theorem same_any (w : World) {B B' : Nat} {v v' : Value} {l : List (List UInt8)} (h : Told B w v l) (h' : Told B' w v' l) (hn : l.length ≤ 1000000000) :
    Calls Try.prog 7 #[v, v'] w fun e w' => e = .returned (.bool true) ∧ Below w.heap.size w w' := by
  rcases h.shape with ⟨rfl, rfl⟩ | ⟨g, c, rfl, _, hg, hc⟩
  · rcases h'.shape with ⟨rfl, _⟩ | ⟨g', c', rfl, _, hg', hc'⟩
    · clear h h' hn
      go_enter Try.func7, Try.ntmps7
      go_wp2
      go_loopw [5] (fun iv wr => iv = .int .i64 0 ∧ wr = w) (fun _ _ => 0)
      case atStart => exact ⟨rfl, rfl⟩
      case round =>
        obtain ⟨rfl, rfl⟩ := hrel
        go_wp2
        go_ret
        exact ⟨rfl, Below.refl _ _⟩
    · clear h h' hn hc'
      go_enter Try.func7, Try.ntmps7
      go_wp2
      go_loopw [5] (fun iv wr => iv = .int .i64 0 ∧ wr = w) (fun _ _ => 0)
      case atStart => exact ⟨rfl, rfl⟩
      case round =>
        obtain ⟨rfl, rfl⟩ := hrel
        go_wp2
        go_ret
        exact ⟨rfl, Below.refl _ _⟩
  · have hv' : ∃ a c', v' = .slice a l.length c' ∧ ∀ i (hi : i < l.length), ∃ g', a = some ⟨g', 0, none⟩ ∧ g' < w.heap.size ∧ w.cell? ⟨g', i, none⟩ = some (.string ⟨l[i].toArray⟩) := by
      rcases h'.shape with ⟨rfl, rfl⟩ | ⟨g', c', rfl, _, hg', hc'⟩
      · exact ⟨none, 0, rfl, fun i hi => absurd hi (by simp)⟩
      · exact ⟨_, c', rfl, fun i hi => ⟨g', rfl, hg', hc' i hi⟩⟩
    obtain ⟨a, c', rfl, hc'⟩ := hv'
    clear h h'
    have HC := Hid.mk (And.intro hc (And.intro hc' hn))
    clear hc hc' hn
    go_enter Try.func7, Try.ntmps7
    go_wp2
    go_loopw [5] (fun iv wr => ∃ i : Nat, iv = .int .i64 i ∧ i ≤ l.length ∧ Below w.heap.size w wr) (fun iv _ => l.length - (intOf iv).toNat)
    case atStart => exact ⟨0, rfl, Nat.zero_le _, Below.refl _ _⟩
    case round =>
      obtain ⟨i, rfl, hi, hb⟩ := hrel
      by_cases hlt : i < l.length
      · have hlt' : (i : Int) < (l.length : Int) := by omega
        obtain ⟨g', rfl, hg', c2⟩ := HC.out.2.1 i hlt
        have q1 : wr.cell? ⟨g, i, none⟩ = some (.string ⟨l[i].toArray⟩) := (World.cell?_of_block (w := w) (a := ⟨g, i, none⟩) (hb.block g hg)).trans (HC.out.1 i hlt)
        have q2 : wr.cell? ⟨g', i, none⟩ = some (.string ⟨l[i].toArray⟩) := (World.cell?_of_block (w := w) (a := ⟨g', i, none⟩) (hb.block g' hg')).trans c2
        have HB := Hid.mk hb
        have hw64 : wrap64 ((i : Int) + 1) = ((i + 1 : Nat) : Int) := by
          have := HC.out.2.2
          rw [IntWalk.wrap64_in _ (by omega)]
          rfl
        clear c2 hb
        generalize l[i] = x at *
        have hself : (x != x) = false := by simp
        go_wp2_with fail
        go_quiet (fail)
        go_wp2
        go_roundw
        case rel => exact ⟨i + 1, (by first | go_num | rw [hw64]), by omega, below_drewN HB.out _⟩
        case measure => rw [hw64]; exact meas (S := l.length) (i := i) (k := i + 1) hlt (by omega)
      · have hlt' : ¬ (i : Int) < (l.length : Int) := by omega
        go_wp2
        go_ret
        exact ⟨rfl, hb⟩
end Go.Proofs.Ytpihehpmejicaaa
