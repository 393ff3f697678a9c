import Derived.Test.YtkkmkogpbhcpmaaKBase
namespace Go.Proofs.Ytkkmkogpbhcpmaa
open Go.RowKit

/-- A right geometry. -/
def Geo (s l n : Int) : Prop := (18 ≤ l ∧ l ≤ 256) ∧ (4 ≤ n ∧ n ≤ 1024) ∧ n % 4 = 0 ∧ (l + n / 4 + 6 ≤ s ∧ s ≤ 2048)
/-- What Plan answers. -/
def planOut (s l n : Int) (v : Value) (x : Int) : Prop :=
  (Geo s l n ∧ v = .agg #[.int .i64 l, .int .i64 (3 + l), .int .i64 (s - (3 + l)), .int .i64 n, .int .i64 (2 + n / 4)] ∧ x = 0) ∨ (¬ Geo s l n ∧ v = .agg #[.int .i64 0, .int .i64 0, .int .i64 0, .int .i64 0, .int .i64 0] ∧ x = 22)

theorem below_two (w : World) (a b : Obj) : Below w.heap.size w ((w.alloc a).alloc b) := Below.alloc (Below.alloc (Below.refl _ _) (Nat.le_refl _) _) (by simp) _

set_option maxHeartbeats 1000000 in
theorem plan_good (s l n : Int) (w : World) (l1 : 18 ≤ l) (l2 : l ≤ 256) (n1 : 4 ≤ n) (n2 : n ≤ 1024) (h3 : n % 4 = 0) (s1 : l + n / 4 + 6 ≤ s) (s2 : s ≤ 2048) :
    Calls Try.prog 102 #[.agg #[.int .i64 s, .int .i64 l, .int .i64 n]] w fun e w' => e = .returned (.tuple #[.agg #[.int .i64 l, .int .i64 (3 + l), .int .i64 (s - (3 + l)), .int .i64 n, .int .i64 (2 + n / 4)], .int .i64 0]) ∧ Below w.heap.size w w' := by
  have hm : n.tmod 4 = n % 4 := Int.tmod_eq_emod_of_nonneg (by omega)
  have hd : n.tdiv 4 = n / 4 := Int.tdiv_eq_ediv_of_nonneg (by omega)
  have h3' : (n % 4 != 0) = false := by simp [h3]
  have s3 : 3 + l + (2 + n / 4) + 1 ≤ s := by omega
  clear h3
  go_enter Try.func102, Try.ntmps102
  go_wp2
  refine bodyPost_ret (v := .tuple #[.agg #[.int .i64 l, .int .i64 (3 + l), .int .i64 (s - (3 + l)), .int .i64 n, .int .i64 (2 + n / 4)], .int .i64 0]) (by simp [results, Try.results102, go_sem]) rfl ⟨rfl, below_two w _ _⟩

set_option maxHeartbeats 1000000 in
theorem plan_badl (s l n : Int) (w : World) (h : ¬ (18 ≤ l ∧ l ≤ 256)) :
    Calls Try.prog 102 #[.agg #[.int .i64 s, .int .i64 l, .int .i64 n]] w fun e w' => e = .returned (.tuple #[.agg #[.int .i64 0, .int .i64 0, .int .i64 0, .int .i64 0, .int .i64 0], .int .i64 22]) ∧ Below w.heap.size w w' := by
  by_cases h1 : 18 ≤ l
  · have h2 : ¬ l ≤ 256 := by omega
    have h3 : ¬ l < 18 := by omega
    have h4 : 256 < l := by omega
    clear h
    go_enter Try.func102, Try.ntmps102
    go_wp2
    exact bodyPost_ret (v := .tuple #[.agg #[.int .i64 0, .int .i64 0, .int .i64 0, .int .i64 0, .int .i64 0], .int .i64 22]) (by simp [results, Try.results102, go_sem]) rfl ⟨rfl, below_two w _ _⟩
  · have h3 : l < 18 := by omega
    clear h
    go_enter Try.func102, Try.ntmps102
    go_wp2
    exact bodyPost_ret (v := .tuple #[.agg #[.int .i64 0, .int .i64 0, .int .i64 0, .int .i64 0, .int .i64 0], .int .i64 22]) (by simp [results, Try.results102, go_sem]) rfl ⟨rfl, below_two w _ _⟩

set_option maxHeartbeats 1000000 in
theorem plan_badn (s l n : Int) (w : World) (l1 : 18 ≤ l) (l2 : l ≤ 256) (h : ¬ (4 ≤ n ∧ n ≤ 1024)) :
    Calls Try.prog 102 #[.agg #[.int .i64 s, .int .i64 l, .int .i64 n]] w fun e w' => e = .returned (.tuple #[.agg #[.int .i64 0, .int .i64 0, .int .i64 0, .int .i64 0, .int .i64 0], .int .i64 22]) ∧ Below w.heap.size w w' := by
  have l3 : ¬ l < 18 := by omega
  have l4 : ¬ 256 < l := by omega
  by_cases h1 : 4 ≤ n
  · have h2 : ¬ n ≤ 1024 := by omega
    have h3 : ¬ n < 4 := by omega
    have h4 : 1024 < n := by omega
    clear h
    go_enter Try.func102, Try.ntmps102
    go_wp2
    exact bodyPost_ret (v := .tuple #[.agg #[.int .i64 0, .int .i64 0, .int .i64 0, .int .i64 0, .int .i64 0], .int .i64 22]) (by simp [results, Try.results102, go_sem]) rfl ⟨rfl, below_two w _ _⟩
  · have h3 : n < 4 := by omega
    clear h
    go_enter Try.func102, Try.ntmps102
    go_wp2
    exact bodyPost_ret (v := .tuple #[.agg #[.int .i64 0, .int .i64 0, .int .i64 0, .int .i64 0, .int .i64 0], .int .i64 22]) (by simp [results, Try.results102, go_sem]) rfl ⟨rfl, below_two w _ _⟩

set_option maxHeartbeats 1000000 in
theorem plan_badm (s l n : Int) (w : World) (l1 : 18 ≤ l) (l2 : l ≤ 256) (n1 : 4 ≤ n) (n2 : n ≤ 1024) (h : ¬ n % 4 = 0) :
    Calls Try.prog 102 #[.agg #[.int .i64 s, .int .i64 l, .int .i64 n]] w fun e w' => e = .returned (.tuple #[.agg #[.int .i64 0, .int .i64 0, .int .i64 0, .int .i64 0, .int .i64 0], .int .i64 22]) ∧ Below w.heap.size w w' := by
  have l3 : ¬ l < 18 := by omega
  have l4 : ¬ 256 < l := by omega
  have n3 : ¬ n < 4 := by omega
  have n4 : ¬ 1024 < n := by omega
  have hm : n.tmod 4 = n % 4 := Int.tmod_eq_emod_of_nonneg (by omega)
  have h3' : (n % 4 != 0) = true := by rw [bne_iff_ne]; exact h
  clear h
  go_enter Try.func102, Try.ntmps102
  go_wp2
  exact bodyPost_ret (v := .tuple #[.agg #[.int .i64 0, .int .i64 0, .int .i64 0, .int .i64 0, .int .i64 0], .int .i64 22]) (by simp [results, Try.results102, go_sem]) rfl ⟨rfl, below_two w _ _⟩

set_option maxHeartbeats 1000000 in
theorem plan_bads (s l n : Int) (w : World) (l1 : 18 ≤ l) (l2 : l ≤ 256) (n1 : 4 ≤ n) (n2 : n ≤ 1024) (h3 : n % 4 = 0) (h : ¬ (l + n / 4 + 6 ≤ s ∧ s ≤ 2048)) :
    Calls Try.prog 102 #[.agg #[.int .i64 s, .int .i64 l, .int .i64 n]] w fun e w' => e = .returned (.tuple #[.agg #[.int .i64 0, .int .i64 0, .int .i64 0, .int .i64 0, .int .i64 0], .int .i64 22]) ∧ Below w.heap.size w w' := by
  have l3 : ¬ l < 18 := by omega
  have l4 : ¬ 256 < l := by omega
  have n3 : ¬ n < 4 := by omega
  have n4 : ¬ 1024 < n := by omega
  have hm : n.tmod 4 = n % 4 := Int.tmod_eq_emod_of_nonneg (by omega)
  have hd : n.tdiv 4 = n / 4 := Int.tdiv_eq_ediv_of_nonneg (by omega)
  have h3' : (n % 4 != 0) = false := by simp [h3]
  clear h3
  by_cases h1 : 3 + l + (2 + n / 4) + 1 ≤ s
  · have h2 : ¬ s ≤ 2048 := by omega
    have h4 : 2048 < s := by omega
    clear h
    go_enter Try.func102, Try.ntmps102
    go_wp2
    exact bodyPost_ret (v := .tuple #[.agg #[.int .i64 0, .int .i64 0, .int .i64 0, .int .i64 0, .int .i64 0], .int .i64 22]) (by simp [results, Try.results102, go_sem]) rfl ⟨rfl, below_two w _ _⟩
  · have h4 : s < 3 + l + (2 + n / 4) + 1 := by omega
    by_cases h2 : 2048 < s
    · omega
    · clear h
      go_enter Try.func102, Try.ntmps102
      go_wp2
      exact bodyPost_ret (v := .tuple #[.agg #[.int .i64 0, .int .i64 0, .int .i64 0, .int .i64 0, .int .i64 0], .int .i64 22]) (by simp [results, Try.results102, go_sem]) rfl ⟨rfl, below_two w _ _⟩

theorem plan_any (s l n : Int) (w : World) :
    Calls Try.prog 102 #[.agg #[.int .i64 s, .int .i64 l, .int .i64 n]] w fun e w' => ∃ v x, e = .returned (.tuple #[v, .int .i64 x]) ∧ planOut s l n v x ∧ Below w.heap.size w w' := by
  have bad : ¬ Geo s l n → ∀ (e : Ending) (w' : World), (e = .returned (.tuple #[.agg #[.int .i64 0, .int .i64 0, .int .i64 0, .int .i64 0, .int .i64 0], .int .i64 22]) ∧ Below w.heap.size w w') → ∃ v x, e = .returned (.tuple #[v, .int .i64 x]) ∧ planOut s l n v x ∧ Below w.heap.size w w' :=
    fun hn e w' h => ⟨_, _, h.1, .inr ⟨hn, rfl, rfl⟩, h.2⟩
  by_cases h1 : 18 ≤ l ∧ l ≤ 256
  · by_cases h2 : 4 ≤ n ∧ n ≤ 1024
    · by_cases h3 : n % 4 = 0
      · by_cases h4 : l + n / 4 + 6 ≤ s ∧ s ≤ 2048
        · exact (plan_good s l n w h1.1 h1.2 h2.1 h2.2 h3 h4.1 h4.2).mono (fun e w' h => ⟨_, _, h.1, .inl ⟨⟨h1, h2, h3, h4⟩, rfl, rfl⟩, h.2⟩)
        · exact (plan_bads s l n w h1.1 h1.2 h2.1 h2.2 h3 h4).mono (bad (fun g => h4 g.2.2.2))
      · exact (plan_badm s l n w h1.1 h1.2 h2.1 h2.2 h3).mono (bad (fun g => h3 g.2.2.1))
    · exact (plan_badn s l n w h1.1 h1.2 h2).mono (bad (fun g => h2 g.2.1))
  · exact (plan_badl s l n w h1).mono (bad (fun g => h1 g.1))

end Go.Proofs.Ytkkmkogpbhcpmaa
