import Derived.Test.YtllkjmbcjlbmbaaGreatRV12
namespace Go.Proofs.YtllkjmbcjlbmbaaGreat
open Go.RowKit

section
variable {S S' : DS} {n N E T Em low j s : Nat} {ds : List (List Int)} {L : LG} {d : List Int}

theorem mod_ne {a b : Nat} (_hn : 1 ≤ n) (h1 : a < b) (h2 : b < a + n) : a % n ≠ b % n := fun e => by
  have d1 := Nat.div_add_mod a n
  have d2 := Nat.div_add_mod b n
  rw [e] at d1
  have hq1 : n * (a / n) < n * (b / n) := by omega
  have hq2 : a / n < b / n := Nat.lt_of_mul_lt_mul_left hq1
  have hq3 : n * (a / n + 1) ≤ n * (b / n) := Nat.mul_le_mul_left _ hq2
  rw [Nat.mul_add, Nat.mul_one] at hq3
  omega
theorem appTo_life : ∀ k, (appTo L S s d k).2.life = S.life
  | 0 => rfl
  | k + 1 => by
    have ih := appTo_life k
    by_cases e : (appTo L S s d k).1 = 0
    · have e2 : appTo L S s d (k + 1) = aput (appTo L S s d k).2 s L.f L.n L.ep (L.head + k) k (cntOf d.length) (partOf d k) := by
        show (if (appTo L S s d k).1 ≠ 0 then appTo L S s d k else _) = _
        rw [if_neg (fun h => h e)]
        rfl
      rw [e2, aput_life]
      exact ih
    · have e2 : appTo L S s d (k + 1) = appTo L S s d k := stepsTo_err e (k + 1) (by omega)
      rw [e2]
      exact ih
theorem appTo_code (hn : 1 ≤ L.n) (hs : L.f + 2 + L.n ≤ s) (k : Nat) : (appTo L S s d k).1 = 0 ∨ (appTo L S s d k).1 = 3 := by
  refine stepsTo_code k (fun i T _ => ?_)
  show (aput T s L.f L.n L.ep (L.head + i) i (cntOf d.length) (partOf d i)).1 = 0 ∨ _
  unfold aput
  split
  · exact .inr rfl
  · exact wr_code (by have := Nat.mod_lt (L.head + i) hn; omega) _
/-- The piece of a record that is due. -/
def pieceOf (E P : Nat) (d : List Int) (i : Nat) : PC := ⟨E, P + i, i, cntOf d.length, partOf d i⟩
/-- What the laying of the first k pieces makes of a disk. -/
theorem appTo_pieces (ho : Once S) (hok : S.Ok (n + 2)) (hsl : Slots S L L.tail L.head) (hf0 : L.f = 0) (hLn : L.n = n) (hn : 1 ≤ n) (hth : L.tail ≤ L.head) (hE : L.ep < 4294967296) (hc : cntOf d.length ≤ 17) (hhi : L.head + 17 < 4294967296) : ∀ k, k ≤ cntOf d.length → L.head + k ≤ L.tail + n →
    (appTo L S (n + 2) d k).2.im = S.im ∧ (∀ q ∈ (appTo L S (n + 2) d k).2.puts, q ∈ S.puts ∨ ∃ i, i < k ∧ q.1 = 2 + (L.head + i) % n ∧ pcOf q.2 = pieceOf L.ep L.head d i) ∧
    ((appTo L S (n + 2) d k).1 = 0 → (∀ i, i < k → pcOf ((appTo L S (n + 2) d k).2.now (2 + (L.head + i) % n)) = pieceOf L.ep L.head d i) ∧ ∀ b, (∀ i, i < k → b ≠ 2 + (L.head + i) % n) → (appTo L S (n + 2) d k).2.now b = S.now b)
  | 0, _, _ => ⟨rfl, fun q hq => .inl hq, fun _ => ⟨fun i hi => by omega, fun b _ => rfl⟩⟩
  | k + 1, hk, hr => by
    obtain ⟨a1, a2, a3⟩ := appTo_pieces ho hok hsl hf0 hLn hn hth hE hc hhi k (by omega) (by omega)
    obtain ⟨_, p2, _⟩ := appTo_once ho hok hsl (by rw [hLn]; exact hn) (by rw [hf0, hLn]; omega) hth (d := d) k (by rw [hLn]; omega)
    by_cases e : (appTo L S (n + 2) d k).1 = 0
    · obtain ⟨b1, b2⟩ := a3 e
      have e2 : appTo L S (n + 2) d (k + 1) = aput (appTo L S (n + 2) d k).2 (n + 2) L.f L.n L.ep (L.head + k) k (cntOf d.length) (partOf d k) := by
        show (if (appTo L S (n + 2) d k).1 ≠ 0 then appTo L S (n + 2) d k else _) = _
        rw [if_neg (fun h => h e)]
        rfl
      rw [e2, hf0, hLn]
      generalize (appTo L S (n + 2) d k).2 = T at *
      have hl : (partOf d k).length ≤ 492 := by unfold partOf; rw [List.length_take]; omega
      have hm : (L.head + k) % n < n := Nat.mod_lt _ hn
      have hpos : 0 + 2 + (L.head + k) % n = 2 + (L.head + k) % n := by omega
      unfold aput
      rw [hpos]
      have hold := now_len p2 (2 + (L.head + k) % n) (by omega)
      have hpc := pc_full hold (E := L.ep) (P := L.head + k) (i := k) (c := cntOf d.length) hl hE (by omega) (by omega) (by omega)
      split
      · exact ⟨a1, fun q hq => (a2 q hq).imp id (fun ⟨i, h1, h2⟩ => ⟨i, by omega, h2⟩), fun h => by cases h⟩
      · rename_i hf
        obtain ⟨w1, w2⟩ := wr_puts_eq (S := T) (s := n + 2) (k := 2 + (L.head + k) % n) hf (by omega) (sseal (T.now (2 + (L.head + k) % n)) (pbody L.ep (L.head + k) k (cntOf d.length) (partOf d k))).1
        have w3 := wr_now (S := T) (s := n + 2) (k := 2 + (L.head + k) % n) hf (by omega) (sseal (T.now (2 + (L.head + k) % n)) (pbody L.ep (L.head + k) k (cntOf d.length) (partOf d k))).1
        refine ⟨w2.trans a1, fun q hq => ?_, fun _ => ⟨fun i hi => ?_, fun b hb => ?_⟩⟩
        · rw [w1] at hq
          rcases List.mem_append.1 hq with h5 | h5
          · exact (a2 q h5).imp id (fun ⟨i, h1, h2⟩ => ⟨i, by omega, h2⟩)
          · obtain rfl := List.mem_singleton.1 h5
            exact .inr ⟨k, by omega, rfl, hpc⟩
        · rw [w3]
          by_cases ei : i = k
          · subst ei
            rw [if_pos rfl]
            exact hpc
          · have := mod_ne (n := n) hn (show L.head + i < L.head + k by omega) (by omega)
            rw [if_neg (by omega)]
            exact b1 i (by omega)
        · rw [w3, if_neg (hb k (by omega))]
          exact b2 b (fun i hi => hb i (by omega))
    · have e2 : appTo L S (n + 2) d (k + 1) = appTo L S (n + 2) d k := stepsTo_err e (k + 1) (by omega)
      rw [e2]
      exact ⟨a1, fun q hq => (a2 q hq).imp id (fun ⟨i, h1, h2⟩ => ⟨i, by omega, h2⟩), fun h => absurd h e⟩

theorem lenOf_take (low : Nat) : ∀ (ds : List (List Int)), lenOf (ds.take low) ≤ lenOf ds
  | [] => by rw [List.take_nil]; exact Nat.le_refl _
  | x :: r => by
    cases low with
    | zero => exact Nat.zero_le _
    | succ low =>
      show cntOf x.length + lenOf (r.take low) ≤ cntOf x.length + lenOf r
      have := lenOf_take low r
      omega
/-- The laying of a record, as far as it went. -/
theorem Alive.part (h : Alive S L n j ds low) (hj : j ≤ 100000) (h1 : 1 ≤ d.length) (h2 : d.length ≤ 8364) (hro : L.head + cntOf d.length ≤ L.tail + n) (hp : L.head + cntOf d.length ≤ 1073741824) :
    Laid (appTo L S (n + 2) d (cntOf d.length)).2 n L.ep L.tail (ds ++ [d]) low ∧
    ((appTo L S (n + 2) d (cntOf d.length)).1 = 0 → ∀ (m : Nat) (X : PC), m < lenOf (ds ++ [d]) → (pcsOf L.ep L.tail (ds ++ [d]))[m]? = some X → pcOf ((appTo L S (n + 2) d (cntOf d.length)).2.now (2 + (L.tail + m) % n)) = X) := by
  obtain ⟨n1, n2⟩ := h.nb
  obtain ⟨c1, c2, c3, c4⟩ := cnt_bounds h1 h2
  have hL := (h.i.at (i := 0) rfl).1
  have hth := hL.th
  have he := h.e2
  have hh := h.hd
  have hlt := lenOf_take low ds
  have hl1 : lenOf (ds ++ [d]) = lenOf ds + cntOf d.length := by rw [lenOf_append]; rfl
  have htk : (ds ++ [d]).take low = ds.take low := List.take_append_of_le_length h.la.lo
  have hpc := pcsOf_snoc L.ep L.tail ds d
  rw [← hh] at hpc
  have hlen := pcsOf_len L.ep L.tail ds
  obtain ⟨a1, a2, a3⟩ := appTo_pieces (d := d) h.ho.once h.i.ok h.sl h.f0 h.n' (by omega) hth (by omega) c2 (by omega) (cntOf d.length) (Nat.le_refl _) hro
  have apart : ∀ m i, m < lenOf ds → i < cntOf d.length → 2 + (L.tail + m) % n ≠ 2 + (L.head + i) % n := fun m i hm hi => by
    have := mod_ne (n := n) (by omega) (show L.tail + m < L.head + i by omega) (by omega)
    omega
  have hat : ∀ i, i < cntOf d.length → (recPcs L.ep L.head d)[i]? = some (pieceOf L.ep L.head d i) := fun i hi => recPcs_at hi
  refine ⟨⟨fun x hx => ?_, by rw [hl1]; omega, by rw [List.length_append]; have := h.la.lo; omega, fun i hi => ?_, fun q hq h2 => ?_, fun m X hm hX => ?_⟩, fun e m X hm hX => ?_⟩
  · rcases List.mem_append.1 hx with hx | hx
    · exact h.la.sz x hx
    · rw [List.mem_singleton.1 hx]; exact ⟨h1, h2⟩
  · rw [a1, hpc]; exact (h.la.oi i hi).more
  · rcases a2 q hq with hq | ⟨i, hi, _, e⟩
    · rw [hpc]; exact (h.la.op q hq h2).more
    · intro _ _
      refine ⟨lenOf ds + i, ?_⟩
      rw [hpc, List.getElem?_append_right (by rw [hlen]; omega), hlen, Nat.add_sub_cancel_left, e]
      exact hat i hi
  · rw [htk] at hm
    rw [hpc, List.getElem?_append_left (by rw [hlen]; omega)] at hX
    obtain ⟨d1, d2⟩ := h.la.du m X hm hX
    rw [a1]
    refine ⟨d1, pend_none_in (fun q hq eq => ?_)⟩
    rcases a2 q hq with hq | ⟨i, hi, e, _⟩
    · have := pend_of hq
      rw [eq, d2] at this
      cases this
    · exact apart m i (by omega) hi (eq.symm.trans e)
  · obtain ⟨b1, b2⟩ := a3 e
    rw [hpc] at hX
    rw [hl1] at hm
    by_cases hml : m < lenOf ds
    · rw [List.getElem?_append_left (by rw [hlen]; exact hml)] at hX
      rw [b2 _ (fun i hi => apart m i hml hi)]
      exact h.nw m X hml hX
    · rw [List.getElem?_append_right (by rw [hlen]; omega), hlen, hat _ (by omega)] at hX
      have := b1 (m - lenOf ds) (by omega)
      rw [show L.tail + m = L.head + (m - lenOf ds) by omega, this]
      exact Option.some.inj hX

/-- What Append leaves: the log as it was; the log with the record; or a dead one, whose record may be there. -/
theorem Alive.append (h : Alive S L n j ds low) (hj : j ≤ 100000) (hd : Bytes d) (ok : (L.append S (n + 2) d).2.1.Ok (n + 2)) :
    ((L.append S (n + 2) d).1 ≠ 0 ∧ ((L.append S (n + 2) d).1 = 3 → S.fuse = 0) ∧ (L.append S (n + 2) d).2 = (S, L)) ∨
    ((L.append S (n + 2) d).1 = 0 ∧ S.fuse ≠ 0 ∧ 1 ≤ d.length ∧ d.length ≤ 8364 ∧ Alive (L.append S (n + 2) d).2.1 (L.append S (n + 2) d).2.2 n j (ds ++ [d]) low) ∨
    ((L.append S (n + 2) d).1 = 3 ∧ S.fuse ≠ 0 ∧ (L.append S (n + 2) d).2.1.fuse = 0 ∧ (L.append S (n + 2) d).2.2 = L ∧ Inv (L.append S (n + 2) d).2.1 (n + 2) [L] (3 + 2 * j) ∧ (∃ N, Hold (L.append S (n + 2) d).2.1 0 n N (j + 2)) ∧ Fut (L.append S (n + 2) d).2.1 n (ds ++ [d]) low false) := by
  obtain ⟨n1, n2⟩ := h.nb
  have hL := (h.i.at (i := 0) rfl).1
  have e0 := h.f0
  have en := h.n'
  have hi := h.i.append (i := 0) rfl hd ok
  have ti : Tidy S L := ⟨h.ho.once, fun _ => h.sl⟩
  have ho' : Hold S L.f L.n (L.ep * 4294967296 + L.tail) (j + 2) := by rw [e0, en]; exact h.ho
  have hh := ho'.append (i := 0) ti h.i rfl h.e2 (by omega) d
  have ht := ti.append (i := 0) h.i rfl d
  rw [e0, en] at hh
  by_cases hr : L.refuses S d.length = 0
  · obtain ⟨hu, hx1, hx2, hhp, hro⟩ := refuses_no hr
    rw [en] at hro
    obtain ⟨la, nw⟩ := h.part (d := d) hj hx1 hx2 hro hhp
    have hfz := unready_fuse hu
    unfold LG.append at hi hh ht ⊢
    rw [if_neg (by omega)] at hi hh ht ⊢
    by_cases ha : (appTo L S (n + 2) d (cntOf d.length)).1 = 0
    · right; left
      rw [if_neg (by omega)] at hi hh ht ⊢
      refine ⟨rfl, hfz, hx1, hx2, ⟨hi, e0, en, h.g, ?_, h.e1, h.e2, hh, ht.2 rfl, la, ?_, nw ha⟩⟩
      · show L.life = (appTo L S (n + 2) d (cntOf d.length)).2.life
        rw [appTo_life]; exact h.life
      · show L.head + cntOf d.length = L.tail + lenOf (ds ++ [d])
        rw [lenOf_append, h.hd]
        show _ = L.tail + (lenOf ds + (cntOf d.length + 0))
        omega
    · right; right
      rw [if_pos ha] at hi hh ht ⊢
      have hfu := appTo_fuse (by omega) hL.s _ ha
      have hcode : (appTo L S (n + 2) d (cntOf d.length)).1 = 3 := by
        rcases appTo_code (L := L) (S := S) (s := n + 2) (d := d) (by omega) hL.s (cntOf d.length) with e | e
        · exact absurd e ha
        · exact e
      have hb := hL.hb h.g
      have hth := hL.th
      refine ⟨hcode, hfz, hfu, rfl, hi, ⟨_, hh⟩, laid_fut la hh (by omega) hi.ok (by omega) h.e1 (by omega) (fun q hq => ?_) false⟩
      obtain ⟨_, _, hsl⟩ := appTo_once (d := d) h.ho.once h.i.ok h.sl (by omega) hL.s hth (cntOf d.length) (by rw [en]; exact hro)
      obtain ⟨P, _, _, e⟩ := hsl q hq
      rw [e0] at e
      omega
  · left
    unfold LG.append
    rw [if_pos hr]
    refine ⟨hr, fun e3 => ?_, rfl⟩
    unfold LG.refuses at e3
    by_cases hu : L.unready S = 0
    · rw [if_neg (by omega)] at e3
      exfalso
      revert e3
      split
      · intro c; cases c
      · split
        · intro c; cases c
        · split
          · intro c; cases c
          · split
            · intro c; cases c
            · intro c; cases c
    · apply Decidable.byContradiction
      intro hf
      exact hu (h.ready hf)
end
end Go.Proofs.YtllkjmbcjlbmbaaGreat
