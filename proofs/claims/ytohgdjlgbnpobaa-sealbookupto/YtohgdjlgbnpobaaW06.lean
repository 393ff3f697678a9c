import Derived.Test.YtohgdjlgbnpobaaW05
import Derived.Deep.RegionHeld3
import Derived.OwnWalk
section
namespace Go.Proofs.Ytohgdjlgbnpobaa

/-- The parity of a number's bits. -/
def par (n : Nat) : Nat := if n = 0 then 0 else (n % 2 + par (n / 2)) % 2
termination_by n
decreasing_by omega
theorem par_half (n : Nat) : par n = (n % 2 + par (n / 2)) % 2 := by
  by_cases h : n = 0
  · subst h; rw [par]; simp
  · conv => lhs; rw [par, if_neg h]
theorem par_zero : par 0 = 0 := by rw [par]; simp
theorem par_lt (n : Nat) : par n < 2 := by rw [par_half]; omega
theorem xor_half (a b : Nat) : (a ^^^ b) / 2 = a / 2 ^^^ b / 2 := by
  have := Nat.xor_div_two (a := a) (b := b)
  exact this
theorem xor_low1 (a b : Nat) : (a ^^^ b) % 2 = (a % 2 + b % 2) % 2 := by
  have := Nat.xor_mod_two_pow (a := a) (b := b) (n := 1)
  rw [Nat.pow_one] at this
  rw [this]
  rcases Nat.mod_two_eq_zero_or_one a with ha | ha <;> rcases Nat.mod_two_eq_zero_or_one b with hb | hb <;> rw [ha, hb] <;> rfl
theorem xor_swap (a b c : Nat) : a ^^^ b ^^^ c = a ^^^ c ^^^ b := by rw [Nat.xor_assoc, Nat.xor_comm b c, ← Nat.xor_assoc]
theorem par_xor (a b : Nat) : par (a ^^^ b) = (par a + par b) % 2 := by
  induction a using Nat.strongRecOn generalizing b with
  | ind a ih =>
    by_cases h : a = 0
    · subst h
      have := par_lt b
      simp [par_zero]; omega
    · rw [par_half (a ^^^ b), par_half a, par_half b, xor_half, xor_low1, ih (a / 2) (by omega)]
      omega
theorem par_pow (n : Nat) : par (2 ^ n) = 1 := by
  induction n with
  | zero => rw [par_half]; simp; rw [par_zero]
  | succ n ih => rw [par_half, Nat.pow_succ, Nat.mul_mod_left, Nat.mul_div_cancel _ (by omega), ih]
theorem par_poly : par 2197175160 = 1 := by
  have e : 2197175160 = 2 ^ 31 ^^^ 2 ^ 25 ^^^ 2 ^ 23 ^^^ 2 ^ 22 ^^^ 2 ^ 21 ^^^ 2 ^ 20 ^^^ 2 ^ 18 ^^^ 2 ^ 17 ^^^ 2 ^ 13 ^^^ 2 ^ 12 ^^^ 2 ^ 11 ^^^ 2 ^ 9 ^^^ 2 ^ 8 ^^^ 2 ^ 6 ^^^ 2 ^ 5 ^^^ 2 ^ 4 ^^^ 2 ^ 3 := by decide
  rw [e]
  simp only [par_xor, par_pow]
theorem par_cb (r : Nat) : par (cb r) = par r := by
  unfold cb
  rw [par_half r]
  by_cases h : r % 2 = 1
  · rw [if_pos h, par_xor, par_poly, h]; omega
  · rw [if_neg h]
    have := par_lt (r / 2)
    simp; omega
theorem par_cbs (n r : Nat) : par (cbs n r) = par r := by
  induction n generalizing r with
  | zero => rfl
  | succ n ih => rw [cbs, ih, par_cb]

/-- The register comes to 1 in none of n steps. -/
def away : Nat → Nat → Bool
  | 0, _ => true
  | n + 1, s => if cb s = 1 then false else away n (cb s)
theorem away_spec : ∀ (n s : Nat), away n s = true → ∀ a, a < n → cbs (a + 1) s ≠ 1
  | 0, _, _, a, ha => by omega
  | n + 1, s, h, a, ha => by
    unfold away at h
    split at h
    · cases h
    · next hc =>
      cases a with
      | zero => exact hc
      | succ a => exact away_spec n (cb s) h a (by omega)
theorem order {a : Nat} (h0 : 0 < a) (h1 : a ≤ 4080) : cbs a 1 ≠ 1 := by
  have h : away 4080 1 = true := by decide +kernel
  have := away_spec 4080 1 h (a - 1) (by omega)
  rwa [show a - 1 + 1 = a by omega] at this

theorem mul_xor (n a b : Nat) : 2 ^ n * (a ^^^ b) = 2 ^ n * a ^^^ 2 ^ n * b := by
  have := Nat.shiftLeft_xor_distrib (a := a) (b := b) (i := n)
  simpa [Nat.shiftLeft_eq, Nat.mul_comm] using this

theorem le_set {l : List Int} (h : Bytes l) (i : Nat) (x : Int) (hx : 0 ≤ x ∧ x < 256) (hi : i < l.length) :
    le (l.set i x) = le l ^^^ 2 ^ (8 * i) * ((l.getD i 0).toNat ^^^ x.toNat) := by
  induction l generalizing i with
  | nil => simp at hi
  | cons y t ih =>
    have hy := h y (by simp)
    have ht : Bytes t := fun z hz => h z (by simp [hz])
    have e : ∀ (z : Int) (u : List Int), (0 ≤ z ∧ z < 256) → le (z :: u) = z.toNat ^^^ 2 ^ 8 * le u := fun z u hz => by
      have := le_xappend (a := [z]) u (fun q hq => by simp at hq; subst hq; exact hz)
      simpa [le] using this
    cases i with
    | zero =>
      rw [List.set_cons_zero, e x t hx, e y t hy]
      simp only [Nat.mul_zero, Nat.pow_zero, Nat.one_mul]
      show x.toNat ^^^ 2 ^ 8 * le t = y.toNat ^^^ 2 ^ 8 * le t ^^^ (y.toNat ^^^ x.toNat)
      rw [xor_swap, ← Nat.xor_assoc y.toNat, Nat.xor_self, Nat.zero_xor]
    | succ i =>
      rw [List.set_cons_succ, e y _ hy, e y t hy, ih ht i (by simpa using hi), mul_xor, ← Nat.mul_assoc, ← Nat.pow_add, ← Nat.xor_assoc]
      have : (y :: t).getD (i + 1) 0 = t.getD i 0 := rfl
      rw [this, show 8 + 8 * i = 8 * (i + 1) by omega]

/-- Where the bytes of the word lie in the sector. -/
def psi (j : Nat) : Nat := if j < 2 then j + 1 else if j < 506 then j + 5 else j - 503
/-- Where a sector's byte lies in the word. -/
def phi (k : Nat) : Nat := if k < 3 then k - 1 else if k < 7 then k + 503 else k - 5
/-- The sector as one word: the text and its sum. -/
def cwl (s : List Int) : List Int := (List.range 510).map (fun j => s.getD (psi j) 0)
theorem cwl_len (s : List Int) : (cwl s).length = 510 := by simp [cwl]
theorem cwl_bytes {s : List Int} (h : Bytes s) : Bytes (cwl s) := by
  intro x hx
  obtain ⟨j, _, rfl⟩ := List.mem_map.1 hx
  exact h.getD _
theorem cwl_eq {s : List Int} (hs : s.length = 512) : cwl s = stextOf s ++ (s.drop 3).take 4 := by
  apply List.ext_getElem?
  intro j
  have h1 : ((s.drop 1).take 2).length = 2 := by simp; omega
  have h2 : ((s.drop 7).take 504).length = 504 := by simp; omega
  have h3 : (stextOf s).length = 506 := by simp [stextOf]; omega
  by_cases hj : j < 510
  · have hL : (cwl s)[j]? = some (s.getD (psi j) 0) := by simp [cwl, hj]
    rw [hL]
    by_cases a : j < 506
    · rw [List.getElem?_append_left (by omega)]
      unfold stextOf
      by_cases b : j < 2
      · rw [List.getElem?_append_left (by omega)]
        simp only [psi, b, if_true, List.getElem?_take, List.getElem?_drop, List.getD]
        rw [show 1 + j = j + 1 by omega, List.getElem?_eq_getElem (by omega)]
        rfl
      · rw [List.getElem?_append_right (by omega), h1]
        simp only [psi, b, a, if_false, if_true, List.getElem?_take, List.getElem?_drop, List.getD]
        rw [if_pos (by omega), show 7 + (j - 2) = j + 5 by omega, List.getElem?_eq_getElem (by omega)]
        rfl
    · rw [List.getElem?_append_right (by omega), h3]
      simp only [psi, a, show ¬ j < 2 by omega, if_false, List.getElem?_take, List.getElem?_drop, List.getD]
      rw [if_pos (by omega), show 3 + (j - 506) = j - 503 by omega, List.getElem?_eq_getElem (by omega)]
      rfl
  · rw [List.getElem?_eq_none (by rw [cwl_len]; omega), List.getElem?_eq_none (by simp [h3]; omega)]
theorem cwl_set {s : List Int} (hs : s.length = 512) (k : Nat) (h1 : 1 ≤ k) (h2 : k ≤ 510) (x : Int) : cwl (s.set k x) = (cwl s).set (phi k) x := by
  apply List.ext_getElem?
  intro j
  by_cases hj : j < 510
  · have hL : (cwl (s.set k x))[j]? = some ((s.set k x).getD (psi j) 0) := by simp [cwl, hj]
    rw [hL]
    by_cases e : j = phi k
    · have e2 : psi j = k := by rw [e]; unfold psi phi; repeat (first | omega | split)
      rw [e2, e, List.getElem?_set_self (by rw [cwl_len]; omega), List.getD, List.getElem?_set_self (by omega)]
      rfl
    · have e2 : psi j ≠ k := by intro h; apply e; rw [← h]; unfold psi phi; repeat (first | omega | split)
      rw [List.getElem?_set_ne (by omega), List.getD, List.getElem?_set_ne (by omega)]
      simp [cwl, hj, List.getD]
  · rw [List.getElem?_eq_none (by rw [cwl_len]; omega), List.getElem?_eq_none (by simp [cwl_len]; omega)]

/-- What a sealed sector's word comes to. -/
theorem sopen_word {s body : List Int} (h : sopen s = some body) (hs : s.length = 512) (hb : Bytes s) : cbs 4080 (4294967295 ^^^ le (cwl s)) = cbs 32 4294967295 := by
  have h1 : cwl s = stextOf s ++ bytes4 (sumOf (stextOf s)) := by rw [cwl_eq hs, sopen_sum h hs]
  have h2 : Bytes (stextOf s) := Bytes.append ((hb.drop _).take _) ((hb.drop _).take _)
  have h3 := crc_own h2
  rw [← h1] at h3
  unfold crc at h3
  rwa [cwl_len] at h3
theorem sopen_two {s s' body body' : List Int} (h : sopen s = some body) (hs : s.length = 512) (hb : Bytes s) (h' : sopen s' = some body') (hs' : s'.length = 512) (hb' : Bytes s') :
    cbs 4080 (le (cwl s) ^^^ le (cwl s')) = 0 := by
  have h1 := sopen_word h hs hb
  have h2 := sopen_word h' hs' hb'
  have e : le (cwl s) ^^^ le (cwl s') = (4294967295 ^^^ le (cwl s)) ^^^ (4294967295 ^^^ le (cwl s')) := by
    rw [xor_swap 4294967295 (le (cwl s)), ← Nat.xor_assoc 4294967295 4294967295, Nat.xor_self, Nat.zero_xor, Nat.xor_comm]
  rw [e, cbs_xor, h1, h2, Nat.xor_self]

/-- One bit of the bytes 1 to 510 turned over. -/
def sflip (s : List Int) (p : Nat) : List Int := s.set (1 + p / 8) (((s.getD (1 + p / 8) 0).toNat ^^^ 2 ^ (p % 8) : Nat) : Int)
def spos (p : Nat) : Nat := 8 * phi (1 + p / 8) + p % 8
theorem sflip_len (s : List Int) (p : Nat) : (sflip s p).length = s.length := by simp [sflip]
theorem byte_flip {x : Int} (hx : 0 ≤ x ∧ x < 256) (k : Nat) (hk : k < 8) : x.toNat ^^^ 2 ^ k < 256 := by
  have h1 : 2 ^ k ≤ 2 ^ 7 := Nat.pow_le_pow_right (by omega) (by omega)
  have : x.toNat ^^^ 2 ^ k < 2 ^ 8 := Nat.xor_lt_two_pow (by omega) (by omega)
  omega
theorem sflip_bytes {s : List Int} (h : Bytes s) (p : Nat) : Bytes (sflip s p) := by
  intro x hx
  rcases List.mem_or_eq_of_mem_set hx with h1 | h1
  · exact h x h1
  · subst h1
    have := byte_flip (h.getD (1 + p / 8)) (p % 8) (by omega)
    omega
theorem phi_lt {k : Nat} (h1 : 1 ≤ k) (h2 : k ≤ 510) : phi k < 510 := by unfold phi; repeat (first | omega | split)
theorem cwl_flip {s : List Int} (hs : s.length = 512) (h : Bytes s) (p : Nat) (hp : p < 4080) : le (cwl (sflip s p)) = le (cwl s) ^^^ 2 ^ spos p := by
  have hk1 : 1 ≤ 1 + p / 8 := by omega
  have hk2 : 1 + p / 8 ≤ 510 := by omega
  have hf := phi_lt hk1 hk2
  have hb := byte_flip (h.getD (1 + p / 8)) (p % 8) (by omega)
  unfold sflip
  rw [cwl_set hs _ hk1 hk2, le_set (cwl_bytes h) _ _ (by omega) (by rw [cwl_len]; exact hf)]
  have e : (cwl s).getD (phi (1 + p / 8)) 0 = s.getD (1 + p / 8) 0 := by
    have e2 : psi (phi (1 + p / 8)) = 1 + p / 8 := by
      generalize 1 + p / 8 = k at *
      unfold psi phi; repeat (first | omega | split)
    rw [List.getD, cwl, List.getElem?_map, List.getElem?_range hf]
    show s.getD (psi (phi (1 + p / 8))) 0 = _
    rw [e2]
  rw [e, Int.toNat_natCast, ← Nat.xor_assoc, Nat.xor_self, Nat.zero_xor, ← Nat.pow_add]
  rfl
theorem spos_lt {p : Nat} (hp : p < 4080) : spos p < 4080 := by
  have := phi_lt (k := 1 + p / 8) (by omega) (by omega)
  unfold spos; omega
theorem phi_inj {a b : Nat} (ha : 1 ≤ a ∧ a ≤ 510) (hb : 1 ≤ b ∧ b ≤ 510) (h : phi a = phi b) : a = b := by
  unfold phi at h; revert h; repeat (first | omega | split)
theorem spos_inj {p q : Nat} (hp : p < 4080) (hq : q < 4080) (h : spos p = spos q) : p = q := by
  unfold spos at h
  have h1 : phi (1 + p / 8) = phi (1 + q / 8) := by omega
  have := phi_inj (by omega) (by omega) h1
  omega
theorem sflip_twice {s : List Int} (h : Bytes s) (p : Nat) (hp : 1 + p / 8 < s.length) : sflip (sflip s p) p = s := by
  have hb := h.getD (1 + p / 8)
  unfold sflip
  rw [List.set_set]
  have e : (s.set (1 + p / 8) (((s.getD (1 + p / 8) 0).toNat ^^^ 2 ^ (p % 8) : Nat) : Int)).getD (1 + p / 8) 0 = (((s.getD (1 + p / 8) 0).toNat ^^^ 2 ^ (p % 8) : Nat) : Int) := by
    rw [List.getD, List.getElem?_set_self hp]; rfl
  rw [e, Int.toNat_natCast, Nat.xor_assoc, Nat.xor_self, Nat.xor_zero]
  have : ((s.getD (1 + p / 8) 0).toNat : Int) = s[1 + p / 8] := by
    rw [Int.toNat_of_nonneg hb.1]; simp [List.getD, hp]
  rw [this]; exact List.set_getElem_self hp

theorem none_of {α : Type} {o : Option α} (h : ∀ x, o = some x → False) : o = none := by
  cases o with
  | none => rfl
  | some x => exact (h x rfl).elim
theorem not_flat {d : Nat} (h : cbs 4080 d = 0) (hp : par d = 1) : False := by
  have := par_cbs 4080 d
  rw [h, par_zero] at this
  omega
theorem rot1 {s body : List Int} (h : sopen s = some body) (hs : s.length = 512) (hb : Bytes s) {p : Nat} (hp : p < 4080) : sopen (sflip s p) = none :=
  none_of fun b' h' => by
    have h1 := sopen_two h hs hb h' ((sflip_len _ _).trans hs) (sflip_bytes hb _)
    rw [cwl_flip hs hb p hp, ← Nat.xor_assoc, Nat.xor_self, Nat.zero_xor] at h1
    exact not_flat h1 (par_pow _)
theorem two_bits {p q : Nat} (hpq : p < q) (hq : q < 4080) (h : cbs 4080 (2 ^ p ^^^ 2 ^ q) = 0) : False := by
  have e : 2 ^ p ^^^ 2 ^ q = 2 ^ p * (1 ^^^ 2 ^ (q - p)) := by
    rw [mul_xor, Nat.mul_one, ← Nat.pow_add, show p + (q - p) = q by omega]
  rw [e, show 4080 = p + ((q - p) + (4080 - q)) by omega, cbs_add, cbs_pow, cbs_add, cbs_xor] at h
  have e2 : cbs (q - p) (2 ^ (q - p)) = 1 := by have := cbs_pow (q - p) 1; rwa [Nat.mul_one] at this
  rw [e2] at h
  have h3 : cbs (q - p) 1 < 4294967296 := cbs_lt _ (by omega)
  have h4 : cbs (q - p) 1 ^^^ 1 < 4294967296 := by
    have : cbs (q - p) 1 ^^^ 1 < 2 ^ 32 := Nat.xor_lt_two_pow (by omega) (by omega)
    omega
  exact order (by omega) (by omega) (xor_none (cbs_none _ h4 h))
theorem rot2 {s body : List Int} (h : sopen s = some body) (hs : s.length = 512) (hb : Bytes s) {p q : Nat} (hp : p < 4080) (hq : q < 4080) (hne : p ≠ q) : sopen (sflip (sflip s p) q) = none :=
  none_of fun b' h' => by
    have hs1 := (sflip_len s p).trans hs
    have hb1 := sflip_bytes hb p
    have h1 := sopen_two h hs hb h' ((sflip_len _ _).trans hs1) (sflip_bytes hb1 _)
    rw [cwl_flip hs1 hb1 q hq, cwl_flip hs hb p hp, ← Nat.xor_assoc, ← Nat.xor_assoc, Nat.xor_self, Nat.zero_xor] at h1
    have hn : spos p ≠ spos q := fun e => hne (spos_inj hp hq e)
    have l1 := spos_lt hp
    have l2 := spos_lt hq
    rcases Nat.lt_or_gt_of_ne hn with hlt | hlt
    · exact two_bits hlt l2 h1
    · rw [Nat.xor_comm] at h1
      exact two_bits hlt l1 h1
theorem rot3 {s body : List Int} (h : sopen s = some body) (hs : s.length = 512) (hb : Bytes s) {p q r : Nat} (hp : p < 4080) (hq : q < 4080) (hr : r < 4080) : sopen (sflip (sflip (sflip s p) q) r) = none :=
  none_of fun b' h' => by
    have hs1 := (sflip_len s p).trans hs
    have hb1 := sflip_bytes hb p
    have hs2 := (sflip_len (sflip s p) q).trans hs1
    have hb2 := sflip_bytes hb1 q
    have h1 := sopen_two h hs hb h' ((sflip_len _ _).trans hs2) (sflip_bytes hb2 _)
    rw [cwl_flip hs2 hb2 r hr, cwl_flip hs1 hb1 q hq, cwl_flip hs hb p hp, ← Nat.xor_assoc, ← Nat.xor_assoc, ← Nat.xor_assoc, Nat.xor_self, Nat.zero_xor] at h1
    refine not_flat h1 ?_
    rw [par_xor, par_xor, par_pow, par_pow, par_pow]
end Go.Proofs.Ytohgdjlgbnpobaa
end

section
namespace Go.Proofs.Ytohgdjlgbnpobaa

/-- One byte mixed with w. -/
def sxor (s : List Int) (k w : Nat) : List Int := s.set k (((s.getD k 0).toNat ^^^ w : Nat) : Int)
theorem sxor_len (s : List Int) (k w : Nat) : (sxor s k w).length = s.length := by simp [sxor]
theorem byte_xor {x : Int} (hx : 0 ≤ x ∧ x < 256) {w : Nat} (hw : w < 256) : x.toNat ^^^ w < 256 := by
  have : x.toNat ^^^ w < 2 ^ 8 := Nat.xor_lt_two_pow (by omega) (by omega)
  omega
theorem sxor_bytes {s : List Int} (h : Bytes s) (k : Nat) {w : Nat} (hw : w < 256) : Bytes (sxor s k w) := by
  intro x hx
  rcases List.mem_or_eq_of_mem_set hx with h1 | h1
  · exact h x h1
  · subst h1
    have := byte_xor (h.getD k) hw
    omega
theorem sxor_zero {s : List Int} (h : Bytes s) (k : Nat) (hk : k < s.length) : sxor s k 0 = s := by
  have hb := h.getD k
  unfold sxor
  rw [Nat.xor_zero, Int.toNat_of_nonneg hb.1]
  have : s.getD k 0 = s[k] := by simp [List.getD, hk]
  rw [this]; exact List.set_getElem_self hk
theorem cwl_xor {s : List Int} (hs : s.length = 512) (h : Bytes s) (k w : Nat) (h1 : 1 ≤ k) (h2 : k ≤ 510) (hw : w < 256) : le (cwl (sxor s k w)) = le (cwl s) ^^^ 2 ^ (8 * phi k) * w := by
  have hf := phi_lt h1 h2
  have hb := byte_xor (h.getD k) hw
  unfold sxor
  rw [cwl_set hs _ h1 h2, le_set (cwl_bytes h) _ _ (by omega) (by rw [cwl_len]; exact hf)]
  have e : (cwl s).getD (phi k) 0 = s.getD k 0 := by
    have e2 : psi (phi k) = k := by unfold psi phi; repeat (first | omega | split)
    rw [List.getD, cwl, List.getElem?_map, List.getElem?_range hf]
    show s.getD (psi (phi k)) 0 = _
    rw [e2]
  rw [e, Int.toNat_natCast, ← Nat.xor_assoc, Nat.xor_self, Nat.zero_xor]
/-- Four neighbouring bytes mixed. -/
def sburst (s : List Int) (k w0 w1 w2 w3 : Nat) : List Int := sxor (sxor (sxor (sxor s k w0) (k + 1) w1) (k + 2) w2) (k + 3) w3
theorem burst {s body : List Int} (h : sopen s = some body) (hs : s.length = 512) (hb : Bytes s) {k w0 w1 w2 w3 : Nat} (h0 : w0 < 256) (h1 : w1 < 256) (h2 : w2 < 256) (h3 : w3 < 256) (k1 : 7 ≤ k) (k2 : k ≤ 507) :
    sopen (sburst s k w0 w1 w2 w3) = none ∨ sburst s k w0 w1 w2 w3 = s := by
  by_cases hw : w0 = 0 ∧ w1 = 0 ∧ w2 = 0 ∧ w3 = 0
  · obtain ⟨rfl, rfl, rfl, rfl⟩ := hw
    right
    unfold sburst
    rw [sxor_zero hb _ (by omega), sxor_zero hb _ (by omega), sxor_zero hb _ (by omega), sxor_zero hb _ (by omega)]
  · left
    refine none_of fun b' h' => hw ?_
    have b1 := sxor_bytes hb k h0
    have b2 := sxor_bytes b1 (k + 1) h1
    have b3 := sxor_bytes b2 (k + 2) h2
    have b4 := sxor_bytes b3 (k + 3) h3
    have l1 := (sxor_len s k w0).trans hs
    have l2 := (sxor_len _ (k + 1) w1).trans l1
    have l3 := (sxor_len _ (k + 2) w2).trans l2
    have l4 := (sxor_len _ (k + 3) w3).trans l3
    have hz := sopen_two h hs hb h' l4 b4
    unfold sburst at hz
    rw [cwl_xor l3 b3 _ _ (by omega) (by omega) h3, cwl_xor l2 b2 _ _ (by omega) (by omega) h2, cwl_xor l1 b1 _ _ (by omega) (by omega) h1, cwl_xor hs hb _ _ (by omega) (by omega) h0] at hz
    have f0 : phi k = k - 5 := by unfold phi; repeat (first | omega | split)
    have f1 : phi (k + 1) = k - 5 + 1 := by unfold phi; repeat (first | omega | split)
    have f2 : phi (k + 2) = k - 5 + 2 := by unfold phi; repeat (first | omega | split)
    have f3 : phi (k + 3) = k - 5 + 3 := by unfold phi; repeat (first | omega | split)
    rw [f0, f1, f2, f3] at hz
    have hm : ∀ j a : Nat, 2 ^ (8 * (k - 5 + j)) * a = 2 ^ (8 * (k - 5)) * (2 ^ (8 * j) * a) := fun j a => by
      rw [← Nat.mul_assoc, ← Nat.pow_add, Nat.mul_add]
    rw [hm 1, hm 2, hm 3] at hz
    simp only [← Nat.xor_assoc, Nat.xor_self, Nat.zero_xor] at hz
    rw [← mul_xor, ← mul_xor, ← mul_xor] at hz
    rw [show 4080 = 8 * (k - 5) + (4080 - 8 * (k - 5)) by omega, cbs_add, cbs_pow] at hz
    have e : w0 ^^^ 2 ^ (8 * 1) * w1 ^^^ 2 ^ (8 * 2) * w2 ^^^ 2 ^ (8 * 3) * w3 = w0 + 256 * w1 + 65536 * w2 + 16777216 * w3 := by
      rw [← add_xor (8 * 1) w1 w0 (by omega), ← add_xor (8 * 2) w2 _ (by omega), ← add_xor (8 * 3) w3 _ (by omega)]
    rw [e] at hz
    have := cbs_none _ (by omega) hz
    omega

theorem ends_none {m : List Int} (hm : m.length = 512) (h : m.getD 0 0 ≠ m.getD 511 0) : sopen m = none :=
  none_of fun _ h' => h (sopen_ends h' hm).symm
/-- What a torn write leaves. -/
def smix (a b : List Int) (c : Nat) : List Int := a.take c ++ b.drop c
theorem smix_len {a b : List Int} (ha : a.length = 512) (hb : b.length = 512) {c : Nat} (hc : c ≤ 512) : (smix a b c).length = 512 := by simp [smix]; omega
theorem smix_bytes {a b : List Int} (ha : Bytes a) (hb : Bytes b) (c : Nat) : Bytes (smix a b c) := (ha.take c).append (hb.drop c)
theorem smix_first {a b : List Int} (ha : a.length = 512) {c : Nat} (h0 : 0 < c) : (smix a b c).getD 0 0 = a.getD 0 0 := by
  rw [smix, List.getD, List.getElem?_append_left (by simp; omega), List.getElem?_take, if_pos h0]; rfl
theorem smix_last {a b : List Int} (ha : a.length = 512) {c : Nat} (h1 : c < 512) : (smix a b c).getD 511 0 = b.getD 511 0 := by
  rw [smix, List.getD, List.getElem?_append_right (by simp; omega), List.getElem?_drop]
  simp only [List.length_take, ha, List.getD]
  rw [show c + (511 - min c 512) = 511 by omega]
theorem smix_zero (a b : List Int) : smix a b 0 = b := by simp [smix]
theorem smix_all {a b : List Int} (ha : a.length = 512) (hb : b.length = 512) : smix a b 512 = a := by
  simp [smix, List.take_of_length_le (Nat.le_of_eq ha), List.drop_eq_nil_of_le (Nat.le_of_eq hb)]
theorem torn {o : List Int} (ho : o.length = 512) {t : Int} (h0 : t ≠ o.getD 0 0) (h1 : t ≠ o.getD 511 0) {body : List Int} (hl : body.length ≤ 504) {c : Nat} (hc : c ≤ 512) :
    (smix o (sform t body) c = o ∨ smix o (sform t body) c = sform t body ∨ sopen (smix o (sform t body) c) = none) ∧
    (smix (sform t body) o c = o ∨ smix (sform t body) o c = sform t body ∨ sopen (smix (sform t body) o c) = none) := by
  have hf := sform_len (t := t) hl
  by_cases c0 : c = 0
  · subst c0; exact ⟨.inr (.inl (smix_zero _ _)), .inl (smix_zero _ _)⟩
  · by_cases c1 : c = 512
    · subst c1; exact ⟨.inl (smix_all ho hf), .inr (.inl (smix_all hf ho))⟩
    · refine ⟨.inr (.inr (ends_none (smix_len ho hf hc) ?_)), .inr (.inr (ends_none (smix_len hf ho hc) ?_))⟩
      · rw [smix_first ho (by omega), smix_last ho (by omega), sform_last t body hl]; exact fun h => h0 h.symm
      · rw [smix_first hf (by omega), smix_last hf (by omega), sform_first]; exact h1

theorem bytes8_eq (n : Nat) : bytes8 n = [((n % 256 : Nat) : Int), ((n / 256 % 256 : Nat) : Int), ((n / 65536 % 256 : Nat) : Int), ((n / 16777216 % 256 : Nat) : Int), ((n / 4294967296 % 256 : Nat) : Int), ((n / 1099511627776 % 256 : Nat) : Int), ((n / 281474976710656 % 256 : Nat) : Int), ((n / 72057594037927936 % 256 : Nat) : Int)] := by
  simp [bytes8, List.range, List.range.loop]
theorem bytes8_len (n : Nat) : (bytes8 n).length = 8 := by simp [bytes8]
theorem bytes8_bytes (n : Nat) : Bytes (bytes8 n) := by
  intro x hx
  obtain ⟨j, _, rfl⟩ := List.mem_map.1 hx
  omega
theorem le_bytes8 {n : Nat} (h : n < 18446744073709551616) : le (bytes8 n) = n := by
  rw [bytes8_eq]
  simp only [le, Int.toNat_natCast]
  omega
theorem sanchor_form {t : Int} (ht : t ≤ 2) {n : Nat} (hn : n < 9223372036854775808) {data : List Int} (hd : data.length ≤ 496) : sanchor (sform t (bytes8 n ++ data)) = (n, data) := by
  have h8 := bytes8_len n
  unfold sanchor
  rw [sopen_form _ _ (by simp [h8]; omega) ht]
  simp only [List.take_left' h8, List.drop_left' h8, le_bytes8 (show n < 18446744073709551616 by omega)]
  rw [if_pos ⟨by simp [h8], hn⟩]
theorem sanchor_none {s : List Int} (h : sopen s = none) : sanchor s = (0, []) := by simp [sanchor, h]

/-- The pair with s in that slot. -/
def sput (l r : List Int) (slot : Nat) (s : List Int) : List Int × List Int := if slot = 0 then (s, r) else (l, s)
theorem pair_new {l r data : List Int} (hl : l.length = 512) (hr : r.length = 512) {n : Nat} (hn : n < 9223372036854775808) (h1 : 1 ≤ n) (hd : data.length ≤ 496) (hgt : (snewest l r).2.1 < n) {t : Int} (ht : t ≤ 2) (slot : Nat)
    (hs : slot = if (snewest l r).2.2.2 = 0 ∧ (snewest l r).1 = 0 then 1 else 0) :
    snewest (sput l r slot (sform t (bytes8 n ++ data))).1 (sput l r slot (sform t (bytes8 n ++ data))).2 = (slot, n, data, 0) := by
  have ha := sanchor_form ht hn hd
  have hf : (sform t (bytes8 n ++ data)).length = 512 := sform_len (by simp [bytes8_len]; omega)
  generalize sform t (bytes8 n ++ data) = s at *
  have e : snewest l r = if (sanchor l).1 = 0 ∧ (sanchor r).1 = 0 then (0, 0, [], 30) else if (sanchor l).1 < (sanchor r).1 then (1, (sanchor r).1, (sanchor r).2, 0) else (0, (sanchor l).1, (sanchor l).2, 0) := by
    unfold snewest; rw [if_neg (by omega)]
  rw [e] at hs hgt
  by_cases z : (sanchor l).1 = 0 ∧ (sanchor r).1 = 0
  · rw [if_pos z] at hs hgt
    have : slot = 0 := by rw [hs]; rfl
    subst this
    simp only [sput, if_true, snewest]
    rw [if_neg (by omega), ha, if_neg (by simp; omega), if_neg (by simp; omega)]
  · rw [if_neg z] at hs hgt
    by_cases q : (sanchor l).1 < (sanchor r).1
    · rw [if_pos q] at hs hgt
      have : slot = 0 := by rw [hs]; rfl
      subst this
      simp only [sput, if_true, snewest]
      rw [if_neg (by omega), ha, if_neg (by simp; omega), if_neg (by simp at hgt ⊢; omega)]
    · rw [if_neg q] at hs hgt
      have : slot = 1 := by rw [hs]; rfl
      subst this
      have h10 : ¬ (1 : Nat) = 0 := by omega
      simp only [sput, if_neg h10, snewest]
      rw [if_neg (by omega), ha, if_neg (by simp; omega), if_pos (by simp at hgt ⊢; omega)]
theorem pair_old {l r m : List Int} (hl : l.length = 512) (hr : r.length = 512) (hm : m.length = 512) (hnone : sanchor m = (0, [])) (slot : Nat)
    (hs : slot = if (snewest l r).2.2.2 = 0 ∧ (snewest l r).1 = 0 then 1 else 0) : snewest (sput l r slot m).1 (sput l r slot m).2 = snewest l r := by
  have e : snewest l r = if (sanchor l).1 = 0 ∧ (sanchor r).1 = 0 then (0, 0, [], 30) else if (sanchor l).1 < (sanchor r).1 then (1, (sanchor r).1, (sanchor r).2, 0) else (0, (sanchor l).1, (sanchor l).2, 0) := by
    unfold snewest; rw [if_neg (by omega)]
  rw [e] at hs
  rw [e]
  by_cases z : (sanchor l).1 = 0 ∧ (sanchor r).1 = 0
  · rw [if_pos z] at hs ⊢
    have : slot = 0 := by rw [hs]; rfl
    subst this
    simp only [sput, if_true, snewest]
    rw [if_neg (by omega), hnone, if_pos ⟨rfl, z.2⟩]
  · rw [if_neg z] at hs ⊢
    by_cases q : (sanchor l).1 < (sanchor r).1
    · rw [if_pos q] at hs ⊢
      have : slot = 0 := by rw [hs]; rfl
      subst this
      simp only [sput, if_true, snewest]
      rw [if_neg (by omega), hnone, if_neg (by simp; omega), if_pos (by simp; omega)]
    · rw [if_neg q] at hs ⊢
      have : slot = 1 := by rw [hs]; rfl
      subst this
      have h10 : ¬ (1 : Nat) = 0 := by omega
      simp only [sput, if_neg h10, snewest]
      rw [if_neg (by omega), hnone, if_neg (by simp; omega), if_neg (by simp)]
end Go.Proofs.Ytohgdjlgbnpobaa
end

section
namespace Go.Proofs.Ytohgdjlgbnpobaa
open Go.RowKit

/-- What Splice answers. -/
def ssplice (l r : List Int) (cut : Int) : List Int × Nat := if l.length ≠ 512 ∨ r.length ≠ 512 then ([], 2) else if cut < 0 ∨ 512 < cut then ([], 1) else (smix l r cut.toNat, 0)

theorem smixGetD {a b : List Int} (ha : a.length = 512) {c i : Nat} (hc : c ≤ 512) : (smix a b c).getD i 0 = if i < c then a.getD i 0 else b.getD i 0 := by
  by_cases h : i < c
  · rw [if_pos h, smix, List.getD, List.getElem?_append_left (by simp; omega), List.getElem?_take, if_pos h]; rfl
  · rw [if_neg h, smix, List.getD, List.getElem?_append_right (by simp; omega), List.getElem?_drop]
    have e : c + (i - (a.take c).length) = i := by simp; omega
    rw [e]; rfl

set_option maxRecDepth 20000 in
set_option maxHeartbeats 4000000 in
theorem rsplice_ok (b1 o1 c1 b2 o2 c2 cut : Nat) (l r : List Int) (w : World) (hc : cut ≤ 512) (h1 : Src w (some ⟨b1, o1, none⟩) 512 l) (h2 : Src w (some ⟨b2, o2, none⟩) 512 r) :
    Calls Try.prog 28 #[.slice (some ⟨b1, o1, none⟩) 512 c1, .slice (some ⟨b2, o2, none⟩) 512 c2, .int .i64 (cut : Int)] w fun e w' => ∃ v, e = .returned (.tuple #[v, .int .i64 0]) ∧ Own w' w.heap.size v (smix l r cut) ∧ Below w.heap.size w w' := by
  have H1 := Hid.mk h1
  have H2 := Hid.mk h2
  have hl := h1.1
  have hr := h2.1
  have hml := smix_len hl hr hc
  have hc1 : ¬ ((cut : Int) < 0) := by omega
  have hc2 : ¬ ((512 : Int) < (cut : Int)) := by omega
  clear h1 h2
  go_enter Try.func28, Try.ntmps28
  go_wp2
  go_loopw [8, 9] (fun v i wr => ∃ k : Nat, k ≤ 512 ∧ i = .int .i64 k ∧ Own wr w.heap.size v ((smix l r cut).take k) ∧ Below w.heap.size w wr) (fun _ i _ => 512 - (intOf i).toNat)
  case atStart => exact ⟨0, Nat.zero_le _, rfl, Own.nil _ _, Below.refl _ _⟩
  case round =>
    obtain ⟨k, hk, rfl, hown, hbr⟩ := hrel
    have Hown := Hid.mk hown
    have HB := Hid.mk hbr
    have hz := hbr.size
    clear hown hbr
    by_cases hlt : k < 512
    · have hlt' : (k : Int) < 512 := by omega
      have hsn := take_snoc (smix l r cut) k (by omega)
      have hll : ((smix l r cut).take k).length ≤ 512 := by rw [List.length_take]; omega
      have hg := smixGetD (a := l) (b := r) (i := k) hl hc
      by_cases hkc : k < cut
      · have hkc' : (k : Int) < (cut : Int) := by omega
        rw [if_pos hkc] at hg
        rw [hg] at hsn
        have hcell := H1.out.2.2 _ rfl k hlt
        rw [addr_add] at hcell
        have hcell := cell_later HB.out hcell
        have HeN := Hid.mk hsn
        clear hsn hg
        generalize l.getD k 0 = x at *
        go_wp2_with (at_builtin; refine wpList_app1 rfl _ _ rfl w.heap.size u8 _ x rfl rfl Hown.out ?b1 ?b2 ?_)
        case b1 => omega
        case b2 => exact hz
        intro v' w' ho hb'
        have HO : Hid (Own w' w.heap.size v' ((smix l r cut).take (k + 1))) := by rw [← HeN.out]; exact ho
        have HB' := Hid.mk (HB.out.trans (hb'.mono (Nat.le_refl _)))
        clear ho hb' Hown HB HeN
        go_wp2
        go_roundw
        case rel => exact ⟨k + 1, by omega, by go_num, HO.out, HB'.out⟩
        case measure => simp [intOf]; omega
      · have hkc' : ¬ (k : Int) < (cut : Int) := by omega
        rw [if_neg hkc] at hg
        rw [hg] at hsn
        have hcell := H2.out.2.2 _ rfl k hlt
        rw [addr_add] at hcell
        have hcell := cell_later HB.out hcell
        have HeN := Hid.mk hsn
        clear hsn hg
        generalize r.getD k 0 = x at *
        go_wp2_with (at_builtin; refine wpList_app1 rfl _ _ rfl w.heap.size u8 _ x rfl rfl Hown.out ?b1 ?b2 ?_)
        case b1 => omega
        intro v' w' ho hb'
        have HO : Hid (Own w' w.heap.size v' ((smix l r cut).take (k + 1))) := by rw [← HeN.out]; exact ho
        have HB' := Hid.mk (HB.out.trans (hb'.mono (Nat.le_refl _)))
        clear ho hb' Hown HB HeN
        go_wp2
        go_roundw
        case rel => exact ⟨k + 1, by omega, by go_num, HO.out, HB'.out⟩
        case measure => simp [intOf]; omega
    · have hlt' : ¬ (k : Int) < 512 := by omega
      have e : (smix l r cut).take k = smix l r cut := List.take_of_length_le (by omega)
      rw [e] at Hown
      clear e
      go_wp2
      go_ret2
      exact ⟨_, rfl, Hown.out, HB.out⟩

theorem rsplice_any (a : Option Addr) (n c : Nat) (l : List Int) (a2 : Option Addr) (m d : Nat) (r : List Int) (cut : Int) (w : World) (hs : Src w a n l) (hs2 : Src w a2 m r) (hn : n ≤ 140737488355328) (hm : m ≤ 140737488355328) :
    Calls Try.prog 28 #[.slice a n c, .slice a2 m d, .int .i64 cut] w fun e w' => ∃ v, e = .returned (.tuple #[v, .int .i64 (((ssplice l r cut).2 : Nat) : Int)]) ∧ Own w' w.heap.size v (ssplice l r cut).1 ∧ Below w.heap.size w w' := by
  have hl := hs.1
  have hr := hs2.1
  by_cases hn1 : n = 512
  · by_cases hm1 : m = 512
    · subst hn1 hm1
      obtain ⟨b1, o1, rfl⟩ : ∃ b o, a = some ⟨b, o, none⟩ := by
        cases a with
        | none => have := hs.2.1 rfl; omega
        | some x => obtain ⟨b, o, rfl, _⟩ := hs.spot (by omega); exact ⟨b, o, rfl⟩
      obtain ⟨b2, o2, rfl⟩ : ∃ b o, a2 = some ⟨b, o, none⟩ := by
        cases a2 with
        | none => have := hs2.2.1 rfl; omega
        | some x => obtain ⟨b, o, rfl, _⟩ := hs2.spot (by omega); exact ⟨b, o, rfl⟩
      by_cases h1 : cut < 0
      · have e : ssplice l r cut = ([], 1) := by unfold ssplice; rw [if_neg (by omega), if_pos (.inl h1)]
        rw [e]
        clear e hs hs2
        go_enter Try.func28, Try.ntmps28
        go_wp2
        go_ret2
        exact ⟨_, rfl, Own.nil _ _, Below.refl _ _⟩
      · by_cases h2 : 512 < cut
        · have e : ssplice l r cut = ([], 1) := by unfold ssplice; rw [if_neg (by omega), if_pos (.inr h2)]
          rw [e]
          clear e hs hs2
          go_enter Try.func28, Try.ntmps28
          go_wp2
          go_ret2
          exact ⟨_, rfl, Own.nil _ _, Below.refl _ _⟩
        · have e : ssplice l r cut = (smix l r cut.toNat, 0) := by unfold ssplice; rw [if_neg (by omega), if_neg (by omega)]
          rw [e]
          obtain ⟨k, rfl⟩ : ∃ k : Nat, cut = (k : Int) := ⟨cut.toNat, by omega⟩
          exact rsplice_ok b1 o1 c b2 o2 d k l r w (by omega) hs hs2
    · have e : ssplice l r cut = ([], 2) := by unfold ssplice; rw [if_pos (.inr (by omega))]
      rw [e]
      subst hn1
      have hm2 : ¬ (m : Int) = 512 := by omega
      clear e hs hs2
      go_enter Try.func28, Try.ntmps28
      go_wp2
      go_ret2
      exact ⟨_, rfl, Own.nil _ _, Below.refl _ _⟩
  · have e : ssplice l r cut = ([], 2) := by unfold ssplice; rw [if_pos (.inl (by omega))]
    rw [e]
    have hm2 : ¬ (n : Int) = 512 := by omega
    clear e hs hs2
    go_enter Try.func28, Try.ntmps28
    go_wp2
    go_ret2
    exact ⟨_, rfl, Own.nil _ _, Below.refl _ _⟩
end Go.Proofs.Ytohgdjlgbnpobaa
end

section
namespace Go.Proofs.Ytohgdjlgbnpobaa
open Go.RowKit

/-- What sectorOf makes of a list. -/
def secOf (l : List Int) : List Int := if l.length = 512 then l else zs 512
theorem secOf_len (l : List Int) : (secOf l).length = 512 := by unfold secOf; split; assumption; exact zs_len 512
theorem secOf_self {l : List Int} (h : l.length = 512) : secOf l = l := by unfold secOf; rw [if_pos h]
theorem sectorOf_any (a : Option Addr) (n c : Nat) (l : List Int) (w : World) (hs : Src w a n l) :
    Calls Try.prog 13 #[.slice a n c] w fun e w' => e = .returned (.tuple #[.agg (bs (secOf l)).toArray, .bool (decide (n = 512))]) ∧ Below w.heap.size w w' := by
  by_cases hn : n = 512
  · subst hn
    cases a with
    | none => have := hs.2.1 rfl; omega
    | some x =>
      obtain ⟨b, o, rfl, _⟩ := hs.spot (by omega)
      rw [secOf_self hs.1]
      exact sectorOf_ok b o c l w hs
  · have e : secOf l = zs 512 := by unfold secOf; rw [if_neg (by rw [hs.1]; exact hn)]
    rw [e, decide_eq_false hn]
    exact sectorOf_no a n c w hn

def zpair : Array Value := (bs (zs 1024)).toArray
theorem infoPair : (Try.prog.info? 78).map (fun i => (i.zero, i.size)) = some (some (.agg zpair), 1024) := by kernel_rfl
theorem zeroPair (w : World) : (zeroValue 78).run Try.prog w = .ok (.agg zpair) w := by
  obtain ⟨i, hi, he⟩ := Option.map_eq_some_iff.1 infoPair
  simp only [Prod.mk.injEq] at he
  simp [zeroValue, typeInfo, hi, he.1]
theorem sizePair : (Try.prog.info? 78).map (·.size) = some 1024 := by
  obtain ⟨i, hi, he⟩ := Option.map_eq_some_iff.1 infoPair
  simp only [Prod.mk.injEq] at he
  rw [hi, ← he.2]; rfl
theorem zpair_size : zpair.size = 1024 := by unfold zpair; simp only [List.size_toArray, bs, List.length_map, zs_len]

theorem foldl_put : ∀ (vs : List Value) (k off : Nat) (cells : Array Value), off + k + vs.length ≤ cells.size →
    ((vs.zipIdx k).foldl (fun cs (x : Value × Nat) => cs.setIfInBounds (off + x.2) x.1) cells).toList = cells.toList.take (off + k) ++ vs ++ cells.toList.drop (off + k + vs.length)
  | [], k, off, cells, h => by simp
  | v :: r, k, off, cells, h => by
    have h1 : off + k < cells.toList.length := by simp at h ⊢; omega
    rw [List.zipIdx_cons, List.foldl_cons, foldl_put r (k + 1) off _ (by simp at h ⊢; omega)]
    simp only [Array.toList_setIfInBounds]
    rw [show off + (k + 1) = off + k + 1 by omega, List.take_set, List.drop_set]
    rw [if_pos (by omega), List.take_succ_eq_append_getElem h1, List.set_append_right _ _ (by simp; omega)]
    have : (off + k) - (cells.toList.take (off + k)).length = 0 := by simp; omega
    rw [this, List.set_cons_zero]
    simp only [List.length_cons, List.append_assoc, List.cons_append, List.nil_append]
    congr 4
    omega
theorem fold_cells (F cells : Array Value) (off : Nat) (h : off + F.size ≤ cells.size) :
    (F.zipIdx.foldl (fun cs (x : Value × Nat) => cs.setIfInBounds (off + x.2) x.1) cells).toList = cells.toList.take off ++ F.toList ++ cells.toList.drop (off + F.size) := by
  rw [← Array.foldl_toList, Array.toList_zipIdx]
  have := foldl_put F.toList 0 off cells (by simpa using h)
  simpa using this
theorem build_pair (F G : Array Value) (hF : F.size = 512) (hG : G.size = 512) (w : World) :
    (Instr.build 78 #[(0, .agg F), (1, .agg G)]).run Try.prog w = .ok (.agg (F ++ G)) w := by
  obtain ⟨i, hi, he⟩ := Option.map_eq_some_iff.1 sizeSec
  have hz := zpair_size
  have e1 := fold_cells F zpair (0 * 512) (by omega)
  have s1 : (F.zipIdx.foldl (fun cs (x : Value × Nat) => cs.setIfInBounds (0 * 512 + x.2) x.1) zpair).size = 1024 := by
    rw [← Array.length_toList, e1]; simp; omega
  have e2 := fold_cells G (F.zipIdx.foldl (fun cs (x : Value × Nat) => cs.setIfInBounds (0 * 512 + x.2) x.1) zpair) (1 * 512) (by omega)
  have key : Instr.fill (fun i => some (i * 512, 512)) zpair [(0, .agg F), (1, .agg G)] = some (F ++ G) := by
    have c1 : (Value.agg F).cells = F := rfl
    have c2 : (Value.agg G).cells = G := rfl
    simp only [Instr.fill, c1, c2, hF, hG, hz]
    rw [if_neg (by simp), if_neg (by simp only [ne_eq, not_true, decide_false, Bool.false_or, decide_eq_true_eq]; omega)]
    refine congrArg some ?_
    apply Array.ext'
    rw [e2, e1]
    have hFl : F.toList.length = 512 := by simpa using hF
    have hGl : G.toList.length = 512 := by simpa using hG
    have hzl : zpair.toList.length = 1024 := by simpa using hz
    simp only [Nat.zero_mul, List.take_zero, List.nil_append, Nat.zero_add, Nat.one_mul, hF, hG]
    rw [List.take_left' hFl, List.drop_eq_nil_of_le (by simp; omega)]
    simp
  have c3 : (Value.agg zpair).cells = zpair := rfl
  simp only [Instr.build, Sem.run_bind, zeroPair, Result.andThen_ok, run_underlying Try.underlying78, c3]
  have hsz : (sizeOf 44).run Try.prog w = .ok 512 w := by simp [sizeOf, typeInfo, hi, he]
  rw [hsz, Result.andThen_ok, key]
  rfl
end Go.Proofs.Ytohgdjlgbnpobaa
end

section
namespace Go.Proofs.Ytohgdjlgbnpobaa
open Go.RowKit

theorem infoSec512 {F : List Value} (h : F.length = 512) : (Try.prog.info? 44).map (·.size) = some F.length := by rw [sizeSec, h]

theorem wpList_build_pair {ops : Array Oper} {rest : List Oper} {op : Oper} {a : Act} {w : World} {Q : Exit → Act → World → Prop} (hgd : op.guard = none) (x y : Operand) (ho : op.op = .build 78 #[(0, x), (1, y)])
    (F G P : Array Value) (hx : a.eval x = .agg F) (hy : a.eval y = .agg G) (hF : F.size = 512) (hG : G.size = 512) (hP : P = F ++ G)
    (h : wpList Try.prog ops Q rest (a.put op.dst (.agg P)) w) : wpList Try.prog ops Q (op :: rest) a w :=
  wpList_plain hgd fun K hK => by
    subst hP
    have hb := build_pair F G hF hG w
    unfold Oper.wp execOp
    simp only [ho]
    have e : (#[(0, x), (1, y)] : Array (Nat × Operand)).map (fun (i, o) => (i, a.eval o)) = #[(0, .agg F), (1, .agg G)] := by simp [hx, hy]
    rw [e, Sem.run_bind, hb]
    exact hK _ _ h

set_option maxRecDepth 20000 in
set_option maxHeartbeats 4000000 in
theorem pairOf_low (b1 b2 : Bool) (F G : List Value) (hF : F.length = 512) (hG : G.length = 512) (h1F : ∀ v ∈ F, v.oneCell' = true) (h1G : ∀ v ∈ G, v.oneCell' = true) (x y : Value) (w : World)
    (hc1 : ∀ w' : World, Below w.heap.size w w' → Calls Try.prog 13 #[x] w' fun e w'' => e = .returned (.tuple #[.agg F.toArray, .bool b1]) ∧ Below w'.heap.size w' w'')
    (hc2 : ∀ w' : World, Below w.heap.size w w' → Calls Try.prog 13 #[y] w' fun e w'' => e = .returned (.tuple #[.agg G.toArray, .bool b2]) ∧ Below w'.heap.size w' w'') :
    Calls Try.prog 39 #[x, y] w fun e w' => e = .returned (.tuple #[.agg (F.toArray ++ G.toArray), .bool (b1 && b2)]) ∧ Below w.heap.size w w' := by
  cases b1
  · have hz := zeroSec
    have hzp := zeroPair
    have hsF : F.toArray.size = 512 := by simpa using hF
    have hsG : G.toArray.size = 512 := by simpa using hG
    have hinfoF := infoSec512 hF
    have hinfoG := infoSec512 hG
    have hinfoP : (Try.prog.info? 78).map (·.size) = some (F.toArray ++ G.toArray).size := by rw [sizePair]; simp; omega
    have hallF := all_oneCell_toArray h1F
    have hallG := all_oneCell_toArray h1G
    have hallP : (F.toArray ++ G.toArray).all (·.oneCell') = true := by
      have := all_oneCell_toArray (cs := F ++ G) (fun v hv => (List.mem_append.1 hv).elim (h1F v) (h1G v))
      simpa using this
    have hB1 : Below w.heap.size w (w.alloc (.cells zpair 78)) := (Below.refl _ w).alloc (Nat.le_refl _) _
    have k1 := hc1 _ hB1
    have HB1 := Hid.mk hB1
    have hres0 : (w.alloc (.cells zpair 78)).heap[w.heap.size]? = some (.cells zpair 78 (0, 0)) := heap_alloc_new _ _
    have Hres0 := Hid.mk hres0
    have Hc2 := Hid.mk hc2
    have hw1 : w.heap.size < (w.alloc (.cells zpair 78)).heap.size := by simp
    clear hB1 hc1 hc2 hres0
    go_enter Try.func39, Try.ntmps39
    go_wp2_with fail
    refine k1.mono ?_
    rintro e w1 ⟨rfl, hb1⟩
    have hB2 := HB1.out.trans (hb1.mono HB1.out.size)
    have hres1 := (hb1.block w.heap.size hw1).trans Hres0.out
    have hz1 := hB2.size
    have hsz1 : w.heap.size < w1.heap.size := Nat.lt_of_lt_of_le hw1 hb1.size
    have hn1 : (w1.alloc (.cells zsec 44)).heap[w1.heap.size]? = some (.cells zsec 44 (0, 0)) := heap_alloc_new _ _
    have hth := there_of hn1 zsec_size
    rw [← hF] at hth
    have hB3 : Below w.heap.size w (w1.alloc (.cells zsec 44)) := hB2.alloc hz1 _
    have hB4 := hB3.trans ((Keeps.setCells (F := fun j => j = w1.heap.size) rfl F 0 _).below (fun j hj => by omega) hB3.size)
    have hrF := World.rangeAt_setCells_same (w1.alloc (.cells zsec 44)) w1.heap.size 0 F hth
    have hres2 : ((w1.alloc (.cells zsec 44)).setCells w1.heap.size 0 F).heap[w.heap.size]? = some (.cells zpair 78 (0, 0)) :=
      ((Keeps.setCells (F := fun j => j = w1.heap.size) rfl F 0 _).block w.heap.size (by simp; omega) (by omega)).trans ((heap_alloc_old w1 _ hsz1).trans hres1)
    have hsz2 : ((w1.alloc (.cells zsec 44)).setCells w1.heap.size 0 F).heap.size = w1.heap.size + 1 := by rw [size_setCells]; simp
    obtain ⟨w2, hw2⟩ : ∃ w2, w2 = (w1.alloc (.cells zsec 44)).setCells w1.heap.size 0 F := ⟨_, rfl⟩
    rw [← hw2] at hB4 hrF hres2 hsz2
    have k2 := Hc2.out w2 hB4
    have HW2 := Hid.mk hw2
    have HB4 := Hid.mk hB4
    have HrF := Hid.mk hrF
    have Hres2 := Hid.mk hres2
    clear k1 hb1 hB2 hres1 hn1 hB3 hB4 hrF hres2 hw2 Hc2 HB1 Hres0
    go_wp2_with (refine wpList_store_mid rfl 44 _ _ rfl w1.heap.size 0 F.toArray rfl rfl ?h1 ?h2 hallF ?_)
    case h1 => simpa using hth
    case h2 => simpa using hinfoF
    rw [← HW2.out]
    refine k2.mono ?_
    rintro e w3 ⟨rfl, hb3⟩
    have hB5 := HB4.out.trans (hb3.mono HB4.out.size)
    have hres3 := (hb3.block w.heap.size (by omega)).trans Hres2.out
    have hz3 := hB5.size
    have hsz3 : w2.heap.size ≤ w3.heap.size := hb3.size
    have hn3 : (w3.alloc (.cells zsec 44)).heap[w3.heap.size]? = some (.cells zsec 44 (0, 0)) := heap_alloc_new _ _
    have hth3 := there_of hn3 zsec_size
    rw [← hG] at hth3
    have hB6 : Below w.heap.size w (w3.alloc (.cells zsec 44)) := hB5.alloc hz3 _
    have hB7 := hB6.trans ((Keeps.setCells (F := fun j => j = w3.heap.size) rfl G 0 _).below (fun j hj => by omega) hB6.size)
    have hrG := World.rangeAt_setCells_same (w3.alloc (.cells zsec 44)) w3.heap.size 0 G hth3
    have hrF3 : ((w3.alloc (.cells zsec 44)).setCells w3.heap.size 0 G).rangeAt w1.heap.size 0 F := by
      intro j v hv
      have hq := HrF.out j v hv
      rw [World.cell?_of_block (w := w2) (a := ⟨w1.heap.size, 0 + j, none⟩)]
      · exact hq
      · exact ((Keeps.setCells (F := fun j => j = w3.heap.size) rfl G 0 _).block w1.heap.size (by simp; omega) (by omega)).trans ((heap_alloc_old w3 _ (show w1.heap.size < w3.heap.size by omega)).trans (hb3.block w1.heap.size (by omega)))
    have hres4 : ((w3.alloc (.cells zsec 44)).setCells w3.heap.size 0 G).heap[w.heap.size]? = some (.cells zpair 78 (0, 0)) :=
      ((Keeps.setCells (F := fun j => j = w3.heap.size) rfl G 0 _).block w.heap.size (by simp; omega) (by omega)).trans ((heap_alloc_old w3 _ (show w.heap.size < w3.heap.size by omega)).trans hres3)
    obtain ⟨w4, hw4⟩ : ∃ w4, w4 = (w3.alloc (.cells zsec 44)).setCells w3.heap.size 0 G := ⟨_, rfl⟩
    rw [← hw4] at hB7 hrG hrF3 hres4
    have hthP : w4.there w.heap.size 0 (F.toArray ++ G.toArray).toList.length := there_of hres4 (by rw [zpair_size]; simp; omega)
    have hrP := Hid.mk (World.rangeAt_setCells_same w4 w.heap.size 0 (F.toArray ++ G.toArray).toList hthP)
    have hB8 := Hid.mk (hB7.trans ((Keeps.setCells (F := fun j => j = w.heap.size) rfl (F.toArray ++ G.toArray).toList 0 w4).below (fun j hj => by omega) hB7.size))
    have HW4 := Hid.mk hw4
    have hinfoP' : (Try.prog.info? 78).map (·.size) = some (F.toArray ++ G.toArray).toList.length := by rw [sizePair]; simp; omega
    obtain ⟨P, hP⟩ : ∃ P, P = F.toArray ++ G.toArray := ⟨_, rfl⟩
    rw [← hP] at hinfoP hallP hthP hrP hB8 hinfoP'
    have HP := Hid.mk hP
    clear k2 hb3 hB5 hres3 hn3 hB6 hB7 hres4 hw4 hP HB4 HrF Hres2 HW2
    go_wp2_with (first | refine wpList_build_pair rfl _ _ rfl F.toArray G.toArray P rfl rfl hsF hsG HP.out ?_ | refine wpList_store_mid rfl 44 _ _ rfl w3.heap.size 0 G.toArray rfl rfl ?h1 ?h2 hallG ?_ | (rw [← HW4.out]; first | refine wpList_load_mid rfl 44 _ rfl w1.heap.size 0 rfl F _ hrF3 Try.underlying44 rfl hinfoF ?_ | refine wpList_load_mid rfl 44 _ rfl w3.heap.size 0 rfl G _ hrG Try.underlying44 rfl hinfoG ?_) | refine wpList_load_mid rfl 44 _ rfl w1.heap.size 0 rfl F _ hrF3 Try.underlying44 rfl hinfoF ?_ | refine wpList_load_mid rfl 44 _ rfl w3.heap.size 0 rfl G _ hrG Try.underlying44 rfl hinfoG ?_ | refine wpList_store_mid rfl 78 _ _ rfl w.heap.size 0 P rfl rfl ?h3 ?h4 hallP ?_)
    case h1 => simpa using hth3
    case h2 => simpa using hinfoG
    case h3 => simpa using hthP
    case h4 => simpa using hinfoP
    have eP : P.toList.toArray = (F ++ G).toArray := by rw [HP.out]; simp
    exact bodyPost_ret (results_cell_tmp (P := Try.prog) rfl _ _ w.heap.size P.toList _ _ rfl rfl hrP.out Try.underlying78 rfl hinfoP') rfl ⟨by rw [eP]; rfl, hB8.out⟩
  · have hz := zeroSec
    have hzp := zeroPair
    have hsF : F.toArray.size = 512 := by simpa using hF
    have hsG : G.toArray.size = 512 := by simpa using hG
    have hinfoF := infoSec512 hF
    have hinfoG := infoSec512 hG
    have hinfoP : (Try.prog.info? 78).map (·.size) = some (F.toArray ++ G.toArray).size := by rw [sizePair]; simp; omega
    have hallF := all_oneCell_toArray h1F
    have hallG := all_oneCell_toArray h1G
    have hallP : (F.toArray ++ G.toArray).all (·.oneCell') = true := by
      have := all_oneCell_toArray (cs := F ++ G) (fun v hv => (List.mem_append.1 hv).elim (h1F v) (h1G v))
      simpa using this
    have hB1 : Below w.heap.size w (w.alloc (.cells zpair 78)) := (Below.refl _ w).alloc (Nat.le_refl _) _
    have k1 := hc1 _ hB1
    have HB1 := Hid.mk hB1
    have hres0 : (w.alloc (.cells zpair 78)).heap[w.heap.size]? = some (.cells zpair 78 (0, 0)) := heap_alloc_new _ _
    have Hres0 := Hid.mk hres0
    have Hc2 := Hid.mk hc2
    have hw1 : w.heap.size < (w.alloc (.cells zpair 78)).heap.size := by simp
    clear hB1 hc1 hc2 hres0
    go_enter Try.func39, Try.ntmps39
    go_wp2_with fail
    refine k1.mono ?_
    rintro e w1 ⟨rfl, hb1⟩
    have hB2 := HB1.out.trans (hb1.mono HB1.out.size)
    have hres1 := (hb1.block w.heap.size hw1).trans Hres0.out
    have hz1 := hB2.size
    have hsz1 : w.heap.size < w1.heap.size := Nat.lt_of_lt_of_le hw1 hb1.size
    have hn1 : (w1.alloc (.cells zsec 44)).heap[w1.heap.size]? = some (.cells zsec 44 (0, 0)) := heap_alloc_new _ _
    have hth := there_of hn1 zsec_size
    rw [← hF] at hth
    have hB3 : Below w.heap.size w (w1.alloc (.cells zsec 44)) := hB2.alloc hz1 _
    have hB4 := hB3.trans ((Keeps.setCells (F := fun j => j = w1.heap.size) rfl F 0 _).below (fun j hj => by omega) hB3.size)
    have hrF := World.rangeAt_setCells_same (w1.alloc (.cells zsec 44)) w1.heap.size 0 F hth
    have hres2 : ((w1.alloc (.cells zsec 44)).setCells w1.heap.size 0 F).heap[w.heap.size]? = some (.cells zpair 78 (0, 0)) :=
      ((Keeps.setCells (F := fun j => j = w1.heap.size) rfl F 0 _).block w.heap.size (by simp; omega) (by omega)).trans ((heap_alloc_old w1 _ hsz1).trans hres1)
    have hsz2 : ((w1.alloc (.cells zsec 44)).setCells w1.heap.size 0 F).heap.size = w1.heap.size + 1 := by rw [size_setCells]; simp
    obtain ⟨w2, hw2⟩ : ∃ w2, w2 = (w1.alloc (.cells zsec 44)).setCells w1.heap.size 0 F := ⟨_, rfl⟩
    rw [← hw2] at hB4 hrF hres2 hsz2
    have k2 := Hc2.out w2 hB4
    have HW2 := Hid.mk hw2
    have HB4 := Hid.mk hB4
    have HrF := Hid.mk hrF
    have Hres2 := Hid.mk hres2
    clear k1 hb1 hB2 hres1 hn1 hB3 hB4 hrF hres2 hw2 Hc2 HB1 Hres0
    go_wp2_with (refine wpList_store_mid rfl 44 _ _ rfl w1.heap.size 0 F.toArray rfl rfl ?h1 ?h2 hallF ?_)
    case h1 => simpa using hth
    case h2 => simpa using hinfoF
    rw [← HW2.out]
    refine k2.mono ?_
    rintro e w3 ⟨rfl, hb3⟩
    have hB5 := HB4.out.trans (hb3.mono HB4.out.size)
    have hres3 := (hb3.block w.heap.size (by omega)).trans Hres2.out
    have hz3 := hB5.size
    have hsz3 : w2.heap.size ≤ w3.heap.size := hb3.size
    have hn3 : (w3.alloc (.cells zsec 44)).heap[w3.heap.size]? = some (.cells zsec 44 (0, 0)) := heap_alloc_new _ _
    have hth3 := there_of hn3 zsec_size
    rw [← hG] at hth3
    have hB6 : Below w.heap.size w (w3.alloc (.cells zsec 44)) := hB5.alloc hz3 _
    have hB7 := hB6.trans ((Keeps.setCells (F := fun j => j = w3.heap.size) rfl G 0 _).below (fun j hj => by omega) hB6.size)
    have hrG := World.rangeAt_setCells_same (w3.alloc (.cells zsec 44)) w3.heap.size 0 G hth3
    have hrF3 : ((w3.alloc (.cells zsec 44)).setCells w3.heap.size 0 G).rangeAt w1.heap.size 0 F := by
      intro j v hv
      have hq := HrF.out j v hv
      rw [World.cell?_of_block (w := w2) (a := ⟨w1.heap.size, 0 + j, none⟩)]
      · exact hq
      · exact ((Keeps.setCells (F := fun j => j = w3.heap.size) rfl G 0 _).block w1.heap.size (by simp; omega) (by omega)).trans ((heap_alloc_old w3 _ (show w1.heap.size < w3.heap.size by omega)).trans (hb3.block w1.heap.size (by omega)))
    have hres4 : ((w3.alloc (.cells zsec 44)).setCells w3.heap.size 0 G).heap[w.heap.size]? = some (.cells zpair 78 (0, 0)) :=
      ((Keeps.setCells (F := fun j => j = w3.heap.size) rfl G 0 _).block w.heap.size (by simp; omega) (by omega)).trans ((heap_alloc_old w3 _ (show w.heap.size < w3.heap.size by omega)).trans hres3)
    obtain ⟨w4, hw4⟩ : ∃ w4, w4 = (w3.alloc (.cells zsec 44)).setCells w3.heap.size 0 G := ⟨_, rfl⟩
    rw [← hw4] at hB7 hrG hrF3 hres4
    have hthP : w4.there w.heap.size 0 (F.toArray ++ G.toArray).toList.length := there_of hres4 (by rw [zpair_size]; simp; omega)
    have hrP := Hid.mk (World.rangeAt_setCells_same w4 w.heap.size 0 (F.toArray ++ G.toArray).toList hthP)
    have hB8 := Hid.mk (hB7.trans ((Keeps.setCells (F := fun j => j = w.heap.size) rfl (F.toArray ++ G.toArray).toList 0 w4).below (fun j hj => by omega) hB7.size))
    have HW4 := Hid.mk hw4
    have hinfoP' : (Try.prog.info? 78).map (·.size) = some (F.toArray ++ G.toArray).toList.length := by rw [sizePair]; simp; omega
    obtain ⟨P, hP⟩ : ∃ P, P = F.toArray ++ G.toArray := ⟨_, rfl⟩
    rw [← hP] at hinfoP hallP hthP hrP hB8 hinfoP'
    have HP := Hid.mk hP
    clear k2 hb3 hB5 hres3 hn3 hB6 hB7 hres4 hw4 hP HB4 HrF Hres2 HW2
    go_wp2_with (first | refine wpList_build_pair rfl _ _ rfl F.toArray G.toArray P rfl rfl hsF hsG HP.out ?_ | refine wpList_store_mid rfl 44 _ _ rfl w3.heap.size 0 G.toArray rfl rfl ?h1 ?h2 hallG ?_ | (rw [← HW4.out]; first | refine wpList_load_mid rfl 44 _ rfl w1.heap.size 0 rfl F _ hrF3 Try.underlying44 rfl hinfoF ?_ | refine wpList_load_mid rfl 44 _ rfl w3.heap.size 0 rfl G _ hrG Try.underlying44 rfl hinfoG ?_) | refine wpList_load_mid rfl 44 _ rfl w1.heap.size 0 rfl F _ hrF3 Try.underlying44 rfl hinfoF ?_ | refine wpList_load_mid rfl 44 _ rfl w3.heap.size 0 rfl G _ hrG Try.underlying44 rfl hinfoG ?_ | refine wpList_store_mid rfl 78 _ _ rfl w.heap.size 0 P rfl rfl ?h3 ?h4 hallP ?_)
    case h1 => simpa using hth3
    case h2 => simpa using hinfoG
    case h3 => simpa using hthP
    case h4 => simpa using hinfoP
    have eP : P.toList.toArray = (F ++ G).toArray := by rw [HP.out]; simp
    exact bodyPost_ret (results_cell_tmp (P := Try.prog) rfl _ _ w.heap.size P.toList _ _ rfl rfl hrP.out Try.underlying78 rfl hinfoP') rfl ⟨by rw [eP]; rfl, hB8.out⟩

theorem pairOf_any (a : Option Addr) (n c : Nat) (l : List Int) (a2 : Option Addr) (m d : Nat) (r : List Int) (w : World) (hs : Src w a n l) (hs2 : Src w a2 m r) :
    Calls Try.prog 39 #[.slice a n c, .slice a2 m d] w fun e w' => e = .returned (.tuple #[.agg (bs (secOf l ++ secOf r)).toArray, .bool (decide (n = 512) && decide (m = 512))]) ∧ Below w.heap.size w w' := by
  have h := pairOf_low (decide (n = 512)) (decide (m = 512)) (bs (secOf l)) (bs (secOf r)) (by rw [bs, List.length_map, secOf_len]) (by rw [bs, List.length_map, secOf_len]) (bs_one _) (bs_one _) (.slice a n c) (.slice a2 m d) w
    (fun w' hb => sectorOf_any a n c l w' (hs.later hb)) (fun w' hb => sectorOf_any a2 m d r w' (hs2.later hb))
  rw [List.append_toArray, ← bs_append] at h
  exact h
end Go.Proofs.Ytohgdjlgbnpobaa
end

section
namespace Go.Proofs.Ytohgdjlgbnpobaa
open Go.RowKit

theorem below_drew' {B : Nat} {a w : World} (h : Below B a w) : Below B a w.drew := ⟨h.os, h.tape, h.output, h.size, h.block⟩
theorem infoPairX {l r : List Int} (h : l.length = 512) (h2 : r.length = 512) : (Try.prog.info? 78).map (·.size) = some (bs (l ++ r)).length := by
  rw [sizePair, bs, List.length_map, List.length_append, h, h2]
theorem put_smix {l r : List Int} (hl : l.length = 512) {k : Nat} (hk : k ≤ 512) : put r 0 (l.take k) = smix l r k := by
  simp only [put, smix, List.take_zero, List.nil_append, Nat.zero_add, List.length_take]
  rw [show min k l.length = k by omega]
theorem cut_to (g k : Nat) (hk : k ≤ 512) (w : World) : Calls Try.prog 21 #[.pointer (some ⟨g, 0, none⟩), .int .i64 0, .int .i64 (k : Int)] w fun e w' => e = .returned (.slice (some ⟨g, 0, none⟩) k k) ∧ w' = w := by
  by_cases h0 : k = 0
  · subst h0; exact cut_none g 0 0 w (by omega)
  · have h := cut_any g 0 0 k w (by omega) hk
    simpa using h

/-- Two new blocks, the one with l, the other with r. -/
theorem two_new {w : World} {T : TypeId} {z : Array Value} {l r : List Int} (hz : z.size = 512) (hl : l.length = 512) (hr : r.length = 512) {B : Nat} {v : World} (h : Below B v w) (hB : B ≤ w.heap.size) :
    (Blk ((((w.alloc (.cells z T)).alloc (.cells z T)).setCells w.heap.size 0 (bs l)).setCells (w.heap.size + 1) 0 (bs r)) T w.heap.size l ∧ Blk ((((w.alloc (.cells z T)).alloc (.cells z T)).setCells w.heap.size 0 (bs l)).setCells (w.heap.size + 1) 0 (bs r)) T (w.heap.size + 1) r ∧ Below B v ((((w.alloc (.cells z T)).alloc (.cells z T)).setCells w.heap.size 0 (bs l)).setCells (w.heap.size + 1) 0 (bs r))) ∧
    (Blk ((((w.alloc (.cells z T)).alloc (.cells z T)).setCells (w.heap.size + 1) 0 (bs l)).setCells w.heap.size 0 (bs r)) T (w.heap.size + 1) l ∧ Blk ((((w.alloc (.cells z T)).alloc (.cells z T)).setCells (w.heap.size + 1) 0 (bs l)).setCells w.heap.size 0 (bs r)) T w.heap.size r ∧ Below B v ((((w.alloc (.cells z T)).alloc (.cells z T)).setCells (w.heap.size + 1) 0 (bs l)).setCells w.heap.size 0 (bs r))) := by
  have h2 : Below B v ((w.alloc (.cells z T)).alloc (.cells z T)) := (h.alloc hB _).alloc (by simp; omega) _
  have n1 : ((w.alloc (.cells z T)).alloc (.cells z T)).heap[w.heap.size + 1]? = some (.cells z T (0, 0)) := heap_alloc2_new _ _ _
  have n0 : ((w.alloc (.cells z T)).alloc (.cells z T)).heap[w.heap.size]? = some (.cells z T (0, 0)) := heap_alloc2_old _ _ _
  have hs : ((w.alloc (.cells z T)).alloc (.cells z T)).heap.size = w.heap.size + 2 := by simp
  generalize (w.alloc (.cells z T)).alloc (.cells z T) = u at *
  have k0 : ∀ x, Keeps (fun j => j = w.heap.size) x (x.setCells w.heap.size 0 (bs l)) := fun x => Keeps.setCells (F := fun j => j = w.heap.size) rfl (bs l) 0 x
  have k0' : ∀ x, Keeps (fun j => j = w.heap.size) x (x.setCells w.heap.size 0 (bs r)) := fun x => Keeps.setCells (F := fun j => j = w.heap.size) rfl (bs r) 0 x
  have k1 : ∀ x, Keeps (fun j => j = w.heap.size + 1) x (x.setCells (w.heap.size + 1) 0 (bs r)) := fun x => Keeps.setCells (F := fun j => j = w.heap.size + 1) rfl (bs r) 0 x
  have k1' : ∀ x, Keeps (fun j => j = w.heap.size + 1) x (x.setCells (w.heap.size + 1) 0 (bs l)) := fun x => Keeps.setCells (F := fun j => j = w.heap.size + 1) rfl (bs l) 0 x
  have s0 : ∀ (x : World) (g : Nat) (vs : List Value), (x.setCells g 0 vs).heap.size = x.heap.size := fun x g vs => by rw [size_setCells]
  refine ⟨⟨?_, ?_, ?_⟩, ?_, ?_, ?_⟩
  · exact ((k1 _).block w.heap.size (by rw [s0]; omega) (by omega)).trans (blk_stored (l := l) n0 (by omega))
  · exact blk_stored (l := r) (((k0 u).block (w.heap.size + 1) (by omega) (by omega)).trans n1) (by omega)
  · have b1 := h2.trans ((k0 u).below (fun j hj => by omega) (by omega))
    exact b1.trans ((k1 _).below (fun j hj => by omega) (by rw [s0]; omega))
  · exact ((k0' _).block (w.heap.size + 1) (by rw [s0]; omega) (by omega)).trans (blk_stored (l := l) n1 (by omega))
  · exact blk_stored (l := r) (((k1' u).block w.heap.size (by omega) (by omega)).trans n0) (by omega)
  · have b1 := h2.trans ((k1' u).below (fun j hj => by omega) (by omega))
    exact b1.trans ((k0' _).below (fun j hj => by omega) (by rw [s0]; omega))
end Go.Proofs.Ytohgdjlgbnpobaa
end
