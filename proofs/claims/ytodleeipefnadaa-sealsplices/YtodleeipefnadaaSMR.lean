import Derived.Test.YtodleeipefnadaaSM
namespace Go.Proofs.Ytodleeipefnadaa

/-- The parity of a number's bits. -/
def par (n : Nat) : Nat := if n = 0 then 0 else (n % 2 + par (n / 2)) % 2
termination_by n
decreasing_by omega
theorem par_half (n : Nat) : par n = (n % 2 + par (n / 2)) % 2 := by
  by_cases h : n = 0
  · subst h; rw [par]; simp
  · conv => lhs; rw [par, if_neg h]
theorem par_zero : par 0 = 0 := by rw [par]; simp
theorem par_lt (n : Nat) : par n < 2 := by rw [par_half]; omega
theorem xor_half (a b : Nat) : (a ^^^ b) / 2 = a / 2 ^^^ b / 2 := by
  have := Nat.xor_div_two (a := a) (b := b)
  exact this
theorem xor_low1 (a b : Nat) : (a ^^^ b) % 2 = (a % 2 + b % 2) % 2 := by
  have := Nat.xor_mod_two_pow (a := a) (b := b) (n := 1)
  rw [Nat.pow_one] at this
  rw [this]
  rcases Nat.mod_two_eq_zero_or_one a with ha | ha <;> rcases Nat.mod_two_eq_zero_or_one b with hb | hb <;> rw [ha, hb] <;> rfl
theorem xor_swap (a b c : Nat) : a ^^^ b ^^^ c = a ^^^ c ^^^ b := by rw [Nat.xor_assoc, Nat.xor_comm b c, ← Nat.xor_assoc]
theorem par_xor (a b : Nat) : par (a ^^^ b) = (par a + par b) % 2 := by
  induction a using Nat.strongRecOn generalizing b with
  | ind a ih =>
    by_cases h : a = 0
    · subst h
      have := par_lt b
      simp [par_zero]; omega
    · rw [par_half (a ^^^ b), par_half a, par_half b, xor_half, xor_low1, ih (a / 2) (by omega)]
      omega
theorem par_pow (n : Nat) : par (2 ^ n) = 1 := by
  induction n with
  | zero => rw [par_half]; simp; rw [par_zero]
  | succ n ih => rw [par_half, Nat.pow_succ, Nat.mul_mod_left, Nat.mul_div_cancel _ (by omega), ih]
theorem par_poly : par 2197175160 = 1 := by
  have e : 2197175160 = 2 ^ 31 ^^^ 2 ^ 25 ^^^ 2 ^ 23 ^^^ 2 ^ 22 ^^^ 2 ^ 21 ^^^ 2 ^ 20 ^^^ 2 ^ 18 ^^^ 2 ^ 17 ^^^ 2 ^ 13 ^^^ 2 ^ 12 ^^^ 2 ^ 11 ^^^ 2 ^ 9 ^^^ 2 ^ 8 ^^^ 2 ^ 6 ^^^ 2 ^ 5 ^^^ 2 ^ 4 ^^^ 2 ^ 3 := by decide
  rw [e]
  simp only [par_xor, par_pow]
theorem par_cb (r : Nat) : par (cb r) = par r := by
  unfold cb
  rw [par_half r]
  by_cases h : r % 2 = 1
  · rw [if_pos h, par_xor, par_poly, h]; omega
  · rw [if_neg h]
    have := par_lt (r / 2)
    simp; omega
theorem par_cbs (n r : Nat) : par (cbs n r) = par r := by
  induction n generalizing r with
  | zero => rfl
  | succ n ih => rw [cbs, ih, par_cb]

/-- The register comes to 1 in none of n steps. -/
def away : Nat → Nat → Bool
  | 0, _ => true
  | n + 1, s => if cb s = 1 then false else away n (cb s)
theorem away_spec : ∀ (n s : Nat), away n s = true → ∀ a, a < n → cbs (a + 1) s ≠ 1
  | 0, _, _, a, ha => by omega
  | n + 1, s, h, a, ha => by
    unfold away at h
    split at h
    · cases h
    · next hc =>
      cases a with
      | zero => exact hc
      | succ a => exact away_spec n (cb s) h a (by omega)
theorem order {a : Nat} (h0 : 0 < a) (h1 : a ≤ 4080) : cbs a 1 ≠ 1 := by
  have h : away 4080 1 = true := by decide +kernel
  have := away_spec 4080 1 h (a - 1) (by omega)
  rwa [show a - 1 + 1 = a by omega] at this

theorem mul_xor (n a b : Nat) : 2 ^ n * (a ^^^ b) = 2 ^ n * a ^^^ 2 ^ n * b := by
  have := Nat.shiftLeft_xor_distrib (a := a) (b := b) (i := n)
  simpa [Nat.shiftLeft_eq, Nat.mul_comm] using this

theorem le_set {l : List Int} (h : Bytes l) (i : Nat) (x : Int) (hx : 0 ≤ x ∧ x < 256) (hi : i < l.length) :
    le (l.set i x) = le l ^^^ 2 ^ (8 * i) * ((l.getD i 0).toNat ^^^ x.toNat) := by
  induction l generalizing i with
  | nil => simp at hi
  | cons y t ih =>
    have hy := h y (by simp)
    have ht : Bytes t := fun z hz => h z (by simp [hz])
    have e : ∀ (z : Int) (u : List Int), (0 ≤ z ∧ z < 256) → le (z :: u) = z.toNat ^^^ 2 ^ 8 * le u := fun z u hz => by
      have := le_xappend (a := [z]) u (fun q hq => by simp at hq; subst hq; exact hz)
      simpa [le] using this
    cases i with
    | zero =>
      rw [List.set_cons_zero, e x t hx, e y t hy]
      simp only [Nat.mul_zero, Nat.pow_zero, Nat.one_mul]
      show x.toNat ^^^ 2 ^ 8 * le t = y.toNat ^^^ 2 ^ 8 * le t ^^^ (y.toNat ^^^ x.toNat)
      rw [xor_swap, ← Nat.xor_assoc y.toNat, Nat.xor_self, Nat.zero_xor]
    | succ i =>
      rw [List.set_cons_succ, e y _ hy, e y t hy, ih ht i (by simpa using hi), mul_xor, ← Nat.mul_assoc, ← Nat.pow_add, ← Nat.xor_assoc]
      have : (y :: t).getD (i + 1) 0 = t.getD i 0 := rfl
      rw [this, show 8 + 8 * i = 8 * (i + 1) by omega]

/-- Where the bytes of the word lie in the sector. -/
def psi (j : Nat) : Nat := if j < 2 then j + 1 else if j < 506 then j + 5 else j - 503
/-- Where a sector's byte lies in the word. -/
def phi (k : Nat) : Nat := if k < 3 then k - 1 else if k < 7 then k + 503 else k - 5
/-- The sector as one word: the text and its sum. -/
def cwl (s : List Int) : List Int := (List.range 510).map (fun j => s.getD (psi j) 0)
theorem cwl_len (s : List Int) : (cwl s).length = 510 := by simp [cwl]
theorem cwl_bytes {s : List Int} (h : Bytes s) : Bytes (cwl s) := by
  intro x hx
  obtain ⟨j, _, rfl⟩ := List.mem_map.1 hx
  exact h.getD _
theorem cwl_eq {s : List Int} (hs : s.length = 512) : cwl s = stextOf s ++ (s.drop 3).take 4 := by
  apply List.ext_getElem?
  intro j
  have h1 : ((s.drop 1).take 2).length = 2 := by simp; omega
  have h2 : ((s.drop 7).take 504).length = 504 := by simp; omega
  have h3 : (stextOf s).length = 506 := by simp [stextOf]; omega
  by_cases hj : j < 510
  · have hL : (cwl s)[j]? = some (s.getD (psi j) 0) := by simp [cwl, hj]
    rw [hL]
    by_cases a : j < 506
    · rw [List.getElem?_append_left (by omega)]
      unfold stextOf
      by_cases b : j < 2
      · rw [List.getElem?_append_left (by omega)]
        simp only [psi, b, if_true, List.getElem?_take, List.getElem?_drop, List.getD]
        rw [show 1 + j = j + 1 by omega, List.getElem?_eq_getElem (by omega)]
        rfl
      · rw [List.getElem?_append_right (by omega), h1]
        simp only [psi, b, a, if_false, if_true, List.getElem?_take, List.getElem?_drop, List.getD]
        rw [if_pos (by omega), show 7 + (j - 2) = j + 5 by omega, List.getElem?_eq_getElem (by omega)]
        rfl
    · rw [List.getElem?_append_right (by omega), h3]
      simp only [psi, a, show ¬ j < 2 by omega, if_false, List.getElem?_take, List.getElem?_drop, List.getD]
      rw [if_pos (by omega), show 3 + (j - 506) = j - 503 by omega, List.getElem?_eq_getElem (by omega)]
      rfl
  · rw [List.getElem?_eq_none (by rw [cwl_len]; omega), List.getElem?_eq_none (by simp [h3]; omega)]
theorem cwl_set {s : List Int} (hs : s.length = 512) (k : Nat) (h1 : 1 ≤ k) (h2 : k ≤ 510) (x : Int) : cwl (s.set k x) = (cwl s).set (phi k) x := by
  apply List.ext_getElem?
  intro j
  by_cases hj : j < 510
  · have hL : (cwl (s.set k x))[j]? = some ((s.set k x).getD (psi j) 0) := by simp [cwl, hj]
    rw [hL]
    by_cases e : j = phi k
    · have e2 : psi j = k := by rw [e]; unfold psi phi; repeat (first | omega | split)
      rw [e2, e, List.getElem?_set_self (by rw [cwl_len]; omega), List.getD, List.getElem?_set_self (by omega)]
      rfl
    · have e2 : psi j ≠ k := by intro h; apply e; rw [← h]; unfold psi phi; repeat (first | omega | split)
      rw [List.getElem?_set_ne (by omega), List.getD, List.getElem?_set_ne (by omega)]
      simp [cwl, hj, List.getD]
  · rw [List.getElem?_eq_none (by rw [cwl_len]; omega), List.getElem?_eq_none (by simp [cwl_len]; omega)]

/-- What a sealed sector's word comes to. -/
theorem sopen_word {s body : List Int} (h : sopen s = some body) (hs : s.length = 512) (hb : Bytes s) : cbs 4080 (4294967295 ^^^ le (cwl s)) = cbs 32 4294967295 := by
  have h1 : cwl s = stextOf s ++ bytes4 (sumOf (stextOf s)) := by rw [cwl_eq hs, sopen_sum h hs]
  have h2 : Bytes (stextOf s) := Bytes.append ((hb.drop _).take _) ((hb.drop _).take _)
  have h3 := crc_own h2
  rw [← h1] at h3
  unfold crc at h3
  rwa [cwl_len] at h3
theorem sopen_two {s s' body body' : List Int} (h : sopen s = some body) (hs : s.length = 512) (hb : Bytes s) (h' : sopen s' = some body') (hs' : s'.length = 512) (hb' : Bytes s') :
    cbs 4080 (le (cwl s) ^^^ le (cwl s')) = 0 := by
  have h1 := sopen_word h hs hb
  have h2 := sopen_word h' hs' hb'
  have e : le (cwl s) ^^^ le (cwl s') = (4294967295 ^^^ le (cwl s)) ^^^ (4294967295 ^^^ le (cwl s')) := by
    rw [xor_swap 4294967295 (le (cwl s)), ← Nat.xor_assoc 4294967295 4294967295, Nat.xor_self, Nat.zero_xor, Nat.xor_comm]
  rw [e, cbs_xor, h1, h2, Nat.xor_self]

/-- One bit of the bytes 1 to 510 turned over. -/
def sflip (s : List Int) (p : Nat) : List Int := s.set (1 + p / 8) (((s.getD (1 + p / 8) 0).toNat ^^^ 2 ^ (p % 8) : Nat) : Int)
def spos (p : Nat) : Nat := 8 * phi (1 + p / 8) + p % 8
theorem sflip_len (s : List Int) (p : Nat) : (sflip s p).length = s.length := by simp [sflip]
theorem byte_flip {x : Int} (hx : 0 ≤ x ∧ x < 256) (k : Nat) (hk : k < 8) : x.toNat ^^^ 2 ^ k < 256 := by
  have h1 : 2 ^ k ≤ 2 ^ 7 := Nat.pow_le_pow_right (by omega) (by omega)
  have : x.toNat ^^^ 2 ^ k < 2 ^ 8 := Nat.xor_lt_two_pow (by omega) (by omega)
  omega
theorem sflip_bytes {s : List Int} (h : Bytes s) (p : Nat) : Bytes (sflip s p) := by
  intro x hx
  rcases List.mem_or_eq_of_mem_set hx with h1 | h1
  · exact h x h1
  · subst h1
    have := byte_flip (h.getD (1 + p / 8)) (p % 8) (by omega)
    omega
theorem phi_lt {k : Nat} (h1 : 1 ≤ k) (h2 : k ≤ 510) : phi k < 510 := by unfold phi; repeat (first | omega | split)
theorem cwl_flip {s : List Int} (hs : s.length = 512) (h : Bytes s) (p : Nat) (hp : p < 4080) : le (cwl (sflip s p)) = le (cwl s) ^^^ 2 ^ spos p := by
  have hk1 : 1 ≤ 1 + p / 8 := by omega
  have hk2 : 1 + p / 8 ≤ 510 := by omega
  have hf := phi_lt hk1 hk2
  have hb := byte_flip (h.getD (1 + p / 8)) (p % 8) (by omega)
  unfold sflip
  rw [cwl_set hs _ hk1 hk2, le_set (cwl_bytes h) _ _ (by omega) (by rw [cwl_len]; exact hf)]
  have e : (cwl s).getD (phi (1 + p / 8)) 0 = s.getD (1 + p / 8) 0 := by
    have e2 : psi (phi (1 + p / 8)) = 1 + p / 8 := by
      generalize 1 + p / 8 = k at *
      unfold psi phi; repeat (first | omega | split)
    rw [List.getD, cwl, List.getElem?_map, List.getElem?_range hf]
    show s.getD (psi (phi (1 + p / 8))) 0 = _
    rw [e2]
  rw [e, Int.toNat_natCast, ← Nat.xor_assoc, Nat.xor_self, Nat.zero_xor, ← Nat.pow_add]
  rfl
theorem spos_lt {p : Nat} (hp : p < 4080) : spos p < 4080 := by
  have := phi_lt (k := 1 + p / 8) (by omega) (by omega)
  unfold spos; omega
theorem phi_inj {a b : Nat} (ha : 1 ≤ a ∧ a ≤ 510) (hb : 1 ≤ b ∧ b ≤ 510) (h : phi a = phi b) : a = b := by
  unfold phi at h; revert h; repeat (first | omega | split)
theorem spos_inj {p q : Nat} (hp : p < 4080) (hq : q < 4080) (h : spos p = spos q) : p = q := by
  unfold spos at h
  have h1 : phi (1 + p / 8) = phi (1 + q / 8) := by omega
  have := phi_inj (by omega) (by omega) h1
  omega
theorem sflip_twice {s : List Int} (h : Bytes s) (p : Nat) (hp : 1 + p / 8 < s.length) : sflip (sflip s p) p = s := by
  have hb := h.getD (1 + p / 8)
  unfold sflip
  rw [List.set_set]
  have e : (s.set (1 + p / 8) (((s.getD (1 + p / 8) 0).toNat ^^^ 2 ^ (p % 8) : Nat) : Int)).getD (1 + p / 8) 0 = (((s.getD (1 + p / 8) 0).toNat ^^^ 2 ^ (p % 8) : Nat) : Int) := by
    rw [List.getD, List.getElem?_set_self hp]; rfl
  rw [e, Int.toNat_natCast, Nat.xor_assoc, Nat.xor_self, Nat.xor_zero]
  have : ((s.getD (1 + p / 8) 0).toNat : Int) = s[1 + p / 8] := by
    rw [Int.toNat_of_nonneg hb.1]; simp [List.getD, hp]
  rw [this]; exact List.set_getElem_self hp

theorem none_of {α : Type} {o : Option α} (h : ∀ x, o = some x → False) : o = none := by
  cases o with
  | none => rfl
  | some x => exact (h x rfl).elim
theorem not_flat {d : Nat} (h : cbs 4080 d = 0) (hp : par d = 1) : False := by
  have := par_cbs 4080 d
  rw [h, par_zero] at this
  omega
theorem rot1 {s body : List Int} (h : sopen s = some body) (hs : s.length = 512) (hb : Bytes s) {p : Nat} (hp : p < 4080) : sopen (sflip s p) = none :=
  none_of fun b' h' => by
    have h1 := sopen_two h hs hb h' ((sflip_len _ _).trans hs) (sflip_bytes hb _)
    rw [cwl_flip hs hb p hp, ← Nat.xor_assoc, Nat.xor_self, Nat.zero_xor] at h1
    exact not_flat h1 (par_pow _)
theorem two_bits {p q : Nat} (hpq : p < q) (hq : q < 4080) (h : cbs 4080 (2 ^ p ^^^ 2 ^ q) = 0) : False := by
  have e : 2 ^ p ^^^ 2 ^ q = 2 ^ p * (1 ^^^ 2 ^ (q - p)) := by
    rw [mul_xor, Nat.mul_one, ← Nat.pow_add, show p + (q - p) = q by omega]
  rw [e, show 4080 = p + ((q - p) + (4080 - q)) by omega, cbs_add, cbs_pow, cbs_add, cbs_xor] at h
  have e2 : cbs (q - p) (2 ^ (q - p)) = 1 := by have := cbs_pow (q - p) 1; rwa [Nat.mul_one] at this
  rw [e2] at h
  have h3 : cbs (q - p) 1 < 4294967296 := cbs_lt _ (by omega)
  have h4 : cbs (q - p) 1 ^^^ 1 < 4294967296 := by
    have : cbs (q - p) 1 ^^^ 1 < 2 ^ 32 := Nat.xor_lt_two_pow (by omega) (by omega)
    omega
  exact order (by omega) (by omega) (xor_none (cbs_none _ h4 h))
theorem rot2 {s body : List Int} (h : sopen s = some body) (hs : s.length = 512) (hb : Bytes s) {p q : Nat} (hp : p < 4080) (hq : q < 4080) (hne : p ≠ q) : sopen (sflip (sflip s p) q) = none :=
  none_of fun b' h' => by
    have hs1 := (sflip_len s p).trans hs
    have hb1 := sflip_bytes hb p
    have h1 := sopen_two h hs hb h' ((sflip_len _ _).trans hs1) (sflip_bytes hb1 _)
    rw [cwl_flip hs1 hb1 q hq, cwl_flip hs hb p hp, ← Nat.xor_assoc, ← Nat.xor_assoc, Nat.xor_self, Nat.zero_xor] at h1
    have hn : spos p ≠ spos q := fun e => hne (spos_inj hp hq e)
    have l1 := spos_lt hp
    have l2 := spos_lt hq
    rcases Nat.lt_or_gt_of_ne hn with hlt | hlt
    · exact two_bits hlt l2 h1
    · rw [Nat.xor_comm] at h1
      exact two_bits hlt l1 h1
theorem rot3 {s body : List Int} (h : sopen s = some body) (hs : s.length = 512) (hb : Bytes s) {p q r : Nat} (hp : p < 4080) (hq : q < 4080) (hr : r < 4080) : sopen (sflip (sflip (sflip s p) q) r) = none :=
  none_of fun b' h' => by
    have hs1 := (sflip_len s p).trans hs
    have hb1 := sflip_bytes hb p
    have hs2 := (sflip_len (sflip s p) q).trans hs1
    have hb2 := sflip_bytes hb1 q
    have h1 := sopen_two h hs hb h' ((sflip_len _ _).trans hs2) (sflip_bytes hb2 _)
    rw [cwl_flip hs2 hb2 r hr, cwl_flip hs1 hb1 q hq, cwl_flip hs hb p hp, ← Nat.xor_assoc, ← Nat.xor_assoc, ← Nat.xor_assoc, Nat.xor_self, Nat.zero_xor] at h1
    refine not_flat h1 ?_
    rw [par_xor, par_xor, par_pow, par_pow, par_pow]
end Go.Proofs.Ytodleeipefnadaa
