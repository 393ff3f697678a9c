import Derived.Test.YthdgndbmecnimaaW15
section
namespace Go.Proofs.Ythdgndbmecnimaa
open Go.RowKit

/-- No sector has two pending writes, and each is sealed over what lies there. -/
structure Once (S : DS) : Prop where
  one : ∀ k, (pendOf S.puts k).length ≤ 1
  sea : ∀ q ∈ S.puts, ∃ body, body.length ≤ 504 ∧ q.2 = sform (turnOf ((dsec S.im q.1).getD 0 0) ((dsec S.im q.1).getD 511 0)) body

section
variable {S : DS} {s k : Nat}

theorem Once.nil (h : S.puts = []) : Once S := ⟨fun k => by rw [h]; exact Nat.zero_le _, fun q hq => by rw [h] at hq; cases hq⟩
theorem pend_in {l : List Int} (h : l ∈ pendOf S.puts k) : (k, l) ∈ S.puts := by
  unfold pendOf at h
  obtain ⟨q, h1, h2⟩ := List.mem_map.1 h
  obtain ⟨h3, h4⟩ := List.mem_filter.1 h1
  have e : q.1 = k := by simpa using h4
  have : q = (k, l) := Prod.ext e h2
  rw [← this]
  exact h3
/-- What a sector is to be, where a write pends. -/
theorem Once.pend (h : Once S) (hp : pendOf S.puts k ≠ []) : ∃ l body, pendOf S.puts k = [l] ∧ body.length ≤ 504 ∧ l = sform (turnOf ((dsec S.im k).getD 0 0) ((dsec S.im k).getD 511 0)) body ∧ S.now k = l := by
  have h1 := h.one k
  obtain ⟨l, hl⟩ : ∃ l, pendOf S.puts k = [l] := by
    match pendOf S.puts k, hp, h1 with
    | [l], _, _ => exact ⟨l, rfl⟩
    | _ :: _ :: _, _, h => simp at h
  obtain ⟨body, h2, h3⟩ := h.sea (k, l) (pend_in (by rw [hl]; simp))
  refine ⟨l, body, hl, h2, h3, ?_⟩
  unfold DS.now DS.cand
  rw [hl]
  rfl
/-- The write changes something. -/
theorem Once.ne (h : Once S) (hp : pendOf S.puts k ≠ []) : S.now k ≠ dsec S.im k := by
  obtain ⟨l, body, _, _, e, hn⟩ := h.pend hp
  intro hc
  have h1 := (turnOf_ne ((dsec S.im k).getD 0 0) ((dsec S.im k).getD 511 0)).1
  have h2 : l.getD 0 0 = (dsec S.im k).getD 0 0 := by rw [← hn, hc]
  rw [e] at h2
  exact h1 h2
/-- Behind any cut a sector is what it was, or what it was to be, or tells that it is torn. -/
theorem Once.crash (h : Once S) (hok : S.Ok s) (hk : k < s) (pl : List P3) : (S.crash s pl).now k = dsec S.im k ∨ (S.crash s pl).now k = S.now k ∨ sopen ((S.crash s pl).now k) = none := by
  have hold : (dsec S.im k).length = 512 := by have := DS.cand_len hok hk (j := 0) (Nat.zero_le _); exact this
  have e0 : (S.crash s pl).now k = cutOf S pl k := by
    rw [now_none _ _ rfl]
    exact sec_imOf s (cutOf S pl) (fun j hj => cut_len hok pl j hj) k hk
  rw [e0]
  unfold cutOf
  split
  · exact .inl rfl
  · rename_i hp
    obtain ⟨l, body, hl, hb, e, hn⟩ := h.pend hp
    have hnl : l.length = 512 := by rw [← hn]; exact now_len hok k hk
    rw [hn]
    unfold tornBy tornOf
    rw [hl]
    generalize (max (pickN pl (keysOf S k).length).1 0).toNat = A
    generalize (max (pickN pl (keysOf S k).length).2.1 0).toNat = B
    generalize (max (pickN pl (keysOf S k).length).2.2 0).toNat = C
    have c0 : S.cand k 0 = dsec S.im k := rfl
    have c1 : S.cand k 1 = l := by unfold DS.cand; rw [hl]; rfl
    have hA : A % ([l].length + 1) = 0 ∨ A % ([l].length + 1) = 1 := by simp; omega
    have hB : B % ([l].length + 1) = 0 ∨ B % ([l].length + 1) = 1 := by simp; omega
    have hC : C % 513 ≤ 512 := by omega
    have ht := turnOf_ne ((dsec S.im k).getD 0 0) ((dsec S.im k).getD 511 0)
    have key := torn hold ht.1 ht.2 hb hC
    rw [← e] at key
    rcases hA with hA | hA <;> rcases hB with hB | hB <;> rw [hA, hB]
    · left; rw [c0, List.take_append_drop]
    · rw [c0, c1]; exact key.1
    · rw [c0, c1]; exact key.2
    · right; left; rw [c1, List.take_append_drop]

theorem wr_puts_eq (hf : S.fuse ≠ 0) (hk : k < s) (l : List Int) : (S.wr s (k : Int) 512 l).2.puts = S.puts ++ [(k, l)] ∧ (S.wr s (k : Int) 512 l).2.im = S.im := by
  rw [wr_in hf hk]
  exact ⟨rfl, rfl⟩
theorem pend_none_in (h : ∀ q ∈ S.puts, q.1 ≠ k) : pendOf S.puts k = [] := by
  unfold pendOf
  rw [List.map_eq_nil_iff, List.filter_eq_nil_iff]
  intro q hq
  simpa using h q hq
theorem Once.wr (h : Once S) (_hok : S.Ok s) (hk : k < s) (hf : S.fuse ≠ 0) (hp : pendOf S.puts k = []) {body : List Int} (hb : body.length ≤ 504) {l : List Int} (hl : l = sform (turnOf ((S.now k).getD 0 0) ((S.now k).getD 511 0)) body) : Once (S.wr s (k : Int) 512 l).2 := by
  obtain ⟨e1, e2⟩ := wr_puts_eq hf hk l
  have hn : S.now k = dsec S.im k := now_none _ _ hp
  refine ⟨fun j => ?_, fun q hq => ?_⟩
  · rw [e1]
    have e : pendOf (S.puts ++ [(k, l)]) j = if j = k then pendOf S.puts k ++ [l] else pendOf S.puts j := pendOf_snoc _ _ _ _
    rw [e]
    split
    · rw [hp]; exact Nat.le_refl _
    · exact h.one j
  · rw [e2]
    rw [e1] at hq
    rcases List.mem_append.1 hq with h1 | h1
    · exact h.sea q h1
    · obtain rfl := List.mem_singleton.1 h1
      exact ⟨body, hb, by rw [← hn]; exact hl⟩

/-- Where the pending writes of a log lie. -/
def Slots (S : DS) (L : LG) (a b : Nat) : Prop := ∀ q ∈ S.puts, ∃ P, a ≤ P ∧ P < b ∧ q.1 = L.f + 2 + P % L.n
variable {L : LG}
theorem Slots.nil (h : S.puts = []) (a b : Nat) : Slots S L a b := fun q hq => by rw [h] at hq; cases hq
theorem Slots.free {a b Q : Nat} (h : Slots S L a b) (h1 : b ≤ Q) (h2 : Q < a + L.n) : pendOf S.puts (L.f + 2 + Q % L.n) = [] :=
  pend_none_in (fun q hq e => by
    obtain ⟨P, p1, p2, p3⟩ := h q hq
    have e2 : P % L.n = Q % L.n := by omega
    have hn : 0 < L.n := by omega
    have d1 := Nat.div_add_mod P L.n
    have d2 := Nat.div_add_mod Q L.n
    have hlt : P < Q := by omega
    have hle : Q < P + L.n := by omega
    rw [e2] at d1
    have hq1 : L.n * (P / L.n) < L.n * (Q / L.n) := by omega
    have hq2 : P / L.n < Q / L.n := Nat.lt_of_mul_lt_mul_left hq1
    have hq3 : L.n * (P / L.n + 1) ≤ L.n * (Q / L.n) := Nat.mul_le_mul_left _ hq2
    rw [Nat.mul_add, Nat.mul_one] at hq3
    omega)
theorem appTo_once (h : Once S) (hok : S.Ok s) (hsl : Slots S L L.tail L.head) (hn : 1 ≤ L.n) (hs : L.f + 2 + L.n ≤ s) (hth : L.tail ≤ L.head) {d : List Int} : ∀ k, L.head + k ≤ L.tail + L.n → Once (appTo L S s d k).2 ∧ (appTo L S s d k).2.Ok s ∧ Slots (appTo L S s d k).2 L L.tail (L.head + k)
  | 0, _ => ⟨h, hok, fun q hq => by
      obtain ⟨P, p1, p2, p3⟩ := hsl q hq
      exact ⟨P, p1, by omega, p3⟩⟩
  | k + 1, hk => by
    obtain ⟨h1, h2, h3⟩ := appTo_once h hok hsl hn hs hth (d := d) k (by omega)
    have wid : Slots (appTo L S s d k).2 L L.tail (L.head + (k + 1)) := fun q hq => by
      obtain ⟨P, p1, p2, p3⟩ := h3 q hq
      exact ⟨P, p1, by omega, p3⟩
    by_cases e : (appTo L S s d k).1 = 0
    · have e2 : appTo L S s d (k + 1) = aput (appTo L S s d k).2 s L.f L.n L.ep (L.head + k) k (cntOf d.length) (partOf d k) := by
        show (if (appTo L S s d k).1 ≠ 0 then appTo L S s d k else _) = _
        rw [if_neg (fun h => h e)]
        rfl
      rw [e2]
      generalize (appTo L S s d k).2 = T at *
      have hl : (partOf d k).length ≤ 492 := by unfold partOf; rw [List.length_take]; omega
      have hm : (L.head + k) % L.n < L.n := Nat.mod_lt _ hn
      have hlen : (pbody L.ep (L.head + k) k (cntOf d.length) (partOf d k)).length ≤ 504 := by unfold pbody; simp [leb_len]; omega
      have ho := now_len h2 (L.f + 2 + (L.head + k) % L.n) (by omega)
      unfold aput
      split
      · exact ⟨h1, h2, wid⟩
      · rename_i hf
        have hfree := h3.free (Q := L.head + k) (Nat.le_refl _) (by omega)
        refine ⟨h1.wr h2 (by omega) hf hfree hlen (by rw [sseal_ok ho hlen]), wr_ok h2 hf (by omega) (sseal_full ho hlen).2, fun q hq => ?_⟩
        rw [(wr_puts_eq hf (by omega) _).1] at hq
        rcases List.mem_append.1 hq with h5 | h5
        · exact wid q h5
        · obtain rfl := List.mem_singleton.1 h5
          exact ⟨L.head + k, by omega, by omega, rfl⟩
    · have e2 : appTo L S s d (k + 1) = appTo L S s d k := stepsTo_err e (k + 1) (by omega)
      rw [e2]
      exact ⟨h1, h2, wid⟩
end
end Go.Proofs.Ythdgndbmecnimaa
end

section
namespace Go.Proofs.Ythdgndbmecnimaa
open Go.RowKit

section
variable {S : DS} {s t i f : Nat} {ls : List LG} {L : LG}

theorem srenew_form {l r : List Int} {num : Int} (h : (srenew l r num []).2.2 = 0) : ∃ body, body.length ≤ 504 ∧ (srenew l r num []).2.1 = sform (turnOf ((if (srenew l r num []).1 = 0 then l else r).getD 0 0) ((if (srenew l r num []).1 = 0 then l else r).getD 511 0)) body := by
  unfold srenew at *
  by_cases h1 : l.length ≠ 512 ∨ r.length ≠ 512
  · rw [if_pos h1] at h; cases h
  · rw [if_neg h1] at h ⊢
    by_cases h2 : num < 1
    · rw [if_pos h2] at h; cases h
    · rw [if_neg h2] at h ⊢
      rw [if_neg (by simp)] at h ⊢
      simp only at h ⊢
      by_cases h3 : num ≤ ((snewest l r).2.1 : Int)
      · rw [if_pos h3] at h; cases h
      · rw [if_neg h3] at h ⊢
        have hb : (bytes8 num.toNat ++ ([] : List Int)).length ≤ 504 := by rw [List.append_nil, bytes8_len]; omega
        split
        · exact ⟨_, hb, by rw [if_neg (by show ¬ (1 : Nat) = 0; omega)]⟩
        · exact ⟨_, hb, by rw [if_pos rfl]⟩
/-- The writing of an anchor, where nothing pends. -/
theorem Once.anew (hok : S.Ok s) (hp : S.puts = []) (hf : f + 1 < s) (num : Int) : Once (anew S s f num).2 := by
  have h0 : Once S := Once.nil hp
  have hsl := srenew_slot (S.now f) (S.now (f + 1)) num []
  unfold Go.Proofs.Ythdgndbmecnimaa.anew
  split
  · exact h0
  · rename_i hfz
    split
    · exact h0
    · rename_i hr
      have hr := Decidable.of_not_not hr
      obtain ⟨body, hb, e⟩ := srenew_form hr
      generalize srenew (S.now f) (S.now (f + 1)) num [] = Y at *
      rw [show (f : Int) + (Y.1 : Int) = ((f + Y.1 : Nat) : Int) by omega]
      have hl : Y.2.1 = sform (turnOf ((S.now (f + Y.1)).getD 0 0) ((S.now (f + Y.1)).getD 511 0)) body := by
        rw [e]
        by_cases q : Y.1 = 0
        · rw [q, if_pos rfl, Nat.add_zero]
        · have q1 : Y.1 = 1 := by omega
          rw [q1, if_neg (by omega)]
      have hw : Once (S.wr s ((f + Y.1 : Nat) : Int) 512 Y.2.1).2 := h0.wr hok (by omega) hfz (by rw [hp]; rfl) hb hl
      split
      · exact hw
      · rename_i hwz
        by_cases e0 : ((S.wr s ((f + Y.1 : Nat) : Int) 512 Y.2.1).2.fl s).1 = 0
        · exact Once.nil (fl_zero e0)
        · rw [(fl_err e0).1]; exact hw
theorem Once.fl (h : Once S) : Once (S.fl s).2 := by
  by_cases e0 : (S.fl s).1 = 0
  · exact Once.nil (fl_zero e0)
  · rw [(fl_err e0).1]; exact h

/-- A log whose pending writes are its own, one a sector. -/
def Tidy (S : DS) (L : LG) : Prop := Once S ∧ (L.unready S = 0 → Slots S L L.tail L.head)
theorem Tidy.start (h : Once S) (hi : Inv S s ls t) (hL : ls[i]? = some L) : Once (L.start S s).2.1 ∧ ((L.start S s).1 = 0 → (L.start S s).2.1.puts = []) := by
  unfold LG.start
  split
  · exact ⟨h, fun e => by cases e⟩
  · rename_i hd
    split
    · exact ⟨h, fun e => by cases e⟩
    · rename_i hb
      obtain ⟨ha, hf⟩ := dead_no (by simpa using hd : L.dead S = false)
      have hk := (hi.at hL).1
      have h1 := hk.s
      have h2 := hk.n1
      have ht := hk.top
      have hfit := (hi.al L (List.mem_of_getElem? hL) ha hf).2 (by simpa using hb)
      have hp : S.puts = [] := List.eq_nil_of_length_eq_zero hfit.1
      have eN : (((L.top + 1 : Nat) : Int) * 4294967296 + ((0 : Nat) : Int)) = (((L.top + 1) * 4294967296 : Nat) : Int) := by omega
      rw [eN]
      have ho := Once.anew (f := L.f) hi.ok hp (by omega) (((L.top + 1) * 4294967296 : Nat) : Int)
      split
      · rename_i h0; exact ⟨ho, fun e => absurd e h0⟩
      · rename_i h0
        exact ⟨ho, fun _ => (anew_num (s := s) (f := L.f) (N := (L.top + 1) * 4294967296) hi.ok (by omega) (by omega) (by omega) hfit.2 (Decidable.of_not_not h0)).2⟩
theorem Tidy.append (h : Tidy S L) (hi : Inv S s ls t) (hL : ls[i]? = some L) (d : List Int) : Once (L.append S s d).2.1 ∧ ((L.append S s d).1 = 0 → Slots (L.append S s d).2.1 (L.append S s d).2.2 (L.append S s d).2.2.tail (L.append S s d).2.2.head) := by
  have hk := (hi.at hL).1
  have h1 := hk.s
  have h2 := hk.n1
  unfold LG.append
  split
  · rename_i hr; exact ⟨h.1, fun e => absurd e hr⟩
  · rename_i hr
    obtain ⟨hu, hx1, hx2, hh, hro⟩ := refuses_no (Decidable.of_not_not hr)
    obtain ⟨o1, o2, o3⟩ := appTo_once (d := d) h.1 hi.ok (h.2 hu) (by omega) h1 hk.th (cntOf d.length) hro
    split
    · rename_i h0; exact ⟨o1, fun e => absurd e h0⟩
    · exact ⟨o1, fun _ => o3⟩
theorem Tidy.sync (h : Tidy S L) : Once (L.sync S s).2 ∧ ((L.sync S s).1 = 0 → (L.sync S s).2.puts = []) := by
  unfold LG.sync
  split
  · rename_i hr; exact ⟨h.1, fun e => absurd e hr⟩
  · exact ⟨h.1.fl, fun e => fl_zero e⟩
theorem Tidy.trim (h : Tidy S L) (hi : Inv S s ls t) (hL : ls[i]? = some L) : Once (L.trim S s).2.1 ∧ ((L.trim S s).1 = 0 → (L.trim S s).2.1.puts = []) := by
  have hy := h.sync (s := s)
  have hk := (hi.at hL).1
  have h1 := hk.s
  have h2 := hk.n1
  unfold LG.trim
  split
  · rename_i hr; exact ⟨hy.1, fun e => absurd e hr⟩
  · rename_i hr
    have hr := Decidable.of_not_not hr
    split
    · exact ⟨hy.1, fun _ => hy.2 hr⟩
    · have hu : L.unready S = 0 := by
        unfold LG.sync at hr
        by_cases c : L.unready S = 0
        · exact c
        · rw [if_pos c] at hr; exact absurd hr c
      have hyp : (L.sync S s) = S.fl s := by unfold LG.sync; rw [if_neg (by omega)]
      obtain ⟨hdd, hb⟩ := unready_no hu
      obtain ⟨ha, hf⟩ := dead_no hdd
      rw [hyp] at hr hy ⊢
      have hok := fl_ok (s := s) hi.ok
      have ho := Once.anew (f := L.f) hok (hy.2 hr) (by omega) ((L.ep : Int) * 4294967296 + (L.head : Int))
      split
      · rename_i h0; exact ⟨ho, fun e => absurd e h0⟩
      · rename_i hne h0
        have h0 := Decidable.of_not_not h0
        have hfit := (hi.al L (List.mem_of_getElem? hL) ha hf).1 hb
        have hnum : (S.fl s).2.num L.f = S.num L.f := num_fl hi.ok (by omega)
        have hth := hk.th
        have hep := hk.ep
        have hhb := hk.hb hb
        have eN : ((L.ep : Int) * 4294967296 + (L.head : Int)) = ((L.ep * 4294967296 + L.head : Nat) : Int) := by omega
        rw [eN] at h0 ho ⊢
        exact ⟨ho, fun _ => (anew_num (s := s) (f := L.f) (N := L.ep * 4294967296 + L.head) hok (by omega) (by omega) (by omega) (by rw [hnum]; omega) h0).2⟩
end
end Go.Proofs.Ythdgndbmecnimaa
end

section
namespace Go.Proofs.Ythdgndbmecnimaa
open Go.RowKit

section
variable {S : DS} {s f N : Nat}

theorem srenew_where {l r : List Int} (hl : l.length = 512) (hr : r.length = 512) {M : Nat} (h1 : 1 ≤ M) (h : (snewest l r).2.1 < M) : (srenew l r (M : Int) []).1 = if (snewest l r).2.2.2 = 0 ∧ (snewest l r).1 = 0 then 1 else 0 := by
  unfold srenew
  rw [if_neg (by omega), if_neg (by omega), if_neg (by simp)]
  simp only
  rw [if_neg (by omega)]
  split <;> rfl

/-- The anchors that last, and the one that is to be. -/
structure Pairs (S : DS) (f N : Nat) : Prop where
  old : (snewest (dsec S.im f) (dsec S.im (f + 1))).2 = (N, [], 0)
  new : ∀ q ∈ S.puts, q.1 < f + 2 → f ≤ q.1 → ∃ M, N < M ∧ M < 9223372036854775808 ∧ q = (f + (srenew (dsec S.im f) (dsec S.im (f + 1)) (M : Int) []).1, (srenew (dsec S.im f) (dsec S.im (f + 1)) (M : Int) []).2.1)

theorem cut_same {pl : List P3} (hok : S.Ok s) {k : Nat} (hk : k < s) (hp : pendOf S.puts k = []) : (S.crash s pl).now k = dsec S.im k := by
  rw [now_none _ _ rfl]
  show dsec (imOf s (cutOf S pl)) k = _
  rw [sec_imOf s (cutOf S pl) (fun j hj => cut_len hok pl j hj) k hk]
  unfold cutOf
  rw [if_pos hp]
/-- Behind any cut the pair tells what it told, or what was to be told. -/
theorem Pairs.crash (h : Pairs S f N) (ho : Once S) (hok : S.Ok s) (hf : f + 1 < s) (pl : List P3) :
    (snewest ((S.crash s pl).now f) ((S.crash s pl).now (f + 1))).2 = (N, [], 0) ∨ ∃ M, N < M ∧ M < 9223372036854775808 ∧ (∃ q ∈ S.puts, q.1 < f + 2 ∧ f ≤ q.1 ∧ q.2 = (srenew (dsec S.im f) (dsec S.im (f + 1)) (M : Int) []).2.1) ∧ (snewest ((S.crash s pl).now f) ((S.crash s pl).now (f + 1))).2 = (M, [], 0) := by
  have hl : (dsec S.im f).length = 512 := DS.cand_len hok (show f < s by omega) (j := 0) (Nat.zero_le _)
  have hr : (dsec S.im (f + 1)).length = 512 := DS.cand_len hok hf (j := 0) (Nat.zero_le _)
  have hnum : (snewest (dsec S.im f) (dsec S.im (f + 1))).2.1 = N := by rw [h.old]
  by_cases p : ∃ q ∈ S.puts, q.1 < f + 2 ∧ f ≤ q.1
  · obtain ⟨q, hq, q1, q2⟩ := p
    obtain ⟨M, m1, m2, e⟩ := h.new q hq q1 q2
    have hw := srenew_where hl hr (M := M) (by omega) (by rw [hnum]; exact m1)
    have hwh := renew_whole hl hr (N := M) (by omega) m2 (by rw [hnum]; exact m1)
    have hsl := srenew_slot (dsec S.im f) (dsec S.im (f + 1)) (M : Int) []
    have eq1 : q.1 = f + (srenew (dsec S.im f) (dsec S.im (f + 1)) (M : Int) []).1 := by rw [e]
    have eq2 : q.2 = (srenew (dsec S.im f) (dsec S.im (f + 1)) (M : Int) []).2.1 := by rw [e]
    -- every other pending write of the pair is this one's sector
    have hother : ∀ q' ∈ S.puts, q'.1 < f + 2 → f ≤ q'.1 → q'.1 = q.1 := fun q' hq' a1 a2 => by
      obtain ⟨M', m1', m2', e'⟩ := h.new q' hq' a1 a2
      have hw' := srenew_where hl hr (M := M') (by omega) (by rw [hnum]; exact m1')
      have : q'.1 = f + (srenew (dsec S.im f) (dsec S.im (f + 1)) (M' : Int) []).1 := by rw [e']
      rw [this, eq1, hw, hw']
    have hpend : pendOf S.puts q.1 ≠ [] := by
      intro hc
      have hmem : q.2 ∈ pendOf S.puts q.1 := by
        unfold pendOf
        exact List.mem_map.2 ⟨q, List.mem_filter.2 ⟨hq, by simp⟩, rfl⟩
      rw [hc] at hmem
      cases hmem
    obtain ⟨l, body, e1, e2, e3, e4⟩ := ho.pend hpend
    have hl2 : l = q.2 := by
      have hmem : q.2 ∈ pendOf S.puts q.1 := by
        unfold pendOf
        exact List.mem_map.2 ⟨q, List.mem_filter.2 ⟨hq, by simp⟩, rfl⟩
      rw [e1] at hmem
      exact (List.mem_singleton.1 hmem).symm
    have hcr := ho.crash hok (show q.1 < s by omega) pl
    have hlen : ((S.crash s pl).now q.1).length = 512 := by
      rw [now_none _ _ rfl]
      show (dsec (imOf s (cutOf S pl)) q.1).length = 512
      rw [sec_imOf s (cutOf S pl) (fun j hj => cut_len hok pl j hj) q.1 (by omega)]
      exact cut_len hok pl _ (by omega)
    rw [e4, hl2, eq2] at hcr
    generalize hY : srenew (dsec S.im f) (dsec S.im (f + 1)) (M : Int) [] = Y at *
    -- the pair behind the cut
    have hpair : ((S.crash s pl).now f, (S.crash s pl).now (f + 1)) = sput (dsec S.im f) (dsec S.im (f + 1)) Y.1 ((S.crash s pl).now q.1) := by
      unfold sput
      by_cases z : Y.1 = 0
      · rw [if_pos z]
        have e5 : pendOf S.puts (f + 1) = [] := pend_none_in (fun q' hq' c => by have := hother q' hq' (by omega) (by omega); omega)
        rw [cut_same hok hf e5, show q.1 = f by omega]
      · rw [if_neg z]
        have e5 : pendOf S.puts f = [] := pend_none_in (fun q' hq' c => by have := hother q' hq' (by omega) (by omega); omega)
        rw [cut_same hok (show f < s by omega) e5, show q.1 = f + 1 by omega]
    have ef : (S.crash s pl).now f = (sput (dsec S.im f) (dsec S.im (f + 1)) Y.1 ((S.crash s pl).now q.1)).1 := congrArg Prod.fst hpair
    have eg : (S.crash s pl).now (f + 1) = (sput (dsec S.im f) (dsec S.im (f + 1)) Y.1 ((S.crash s pl).now q.1)).2 := congrArg Prod.snd hpair
    rw [ef, eg]
    rcases hcr with hc | hc | hc
    · left
      rw [hc]
      have : sput (dsec S.im f) (dsec S.im (f + 1)) Y.1 (dsec S.im q.1) = (dsec S.im f, dsec S.im (f + 1)) := by
        unfold sput
        by_cases z : Y.1 = 0
        · rw [if_pos z, show q.1 = f by omega]
        · rw [if_neg z, show q.1 = f + 1 by omega]
      rw [this]
      exact h.old
    · right
      rw [hc]
      exact ⟨M, m1, m2, ⟨q, hq, q1, q2, eq2.trans (by rw [hY])⟩, hwh⟩
    · left
      rw [pair_old hl hr hlen (sanchor_none hc) Y.1 hw]
      exact h.old
  · left
    have e0 : pendOf S.puts f = [] := pend_none_in (fun q' hq' c => p ⟨q', hq', by omega, by omega⟩)
    have e1 : pendOf S.puts (f + 1) = [] := pend_none_in (fun q' hq' c => p ⟨q', hq', by omega, by omega⟩)
    rw [cut_same hok (show f < s by omega) e0, cut_same hok hf e1]
    exact h.old
end
end Go.Proofs.Ythdgndbmecnimaa
end

section
namespace Go.Proofs.Ythdgndbmecnimaa
open Go.RowKit

/-- A number that an anchor of a log may bear, no epoch being later than E. -/
def Good (E M : Nat) : Prop := 4294967296 ≤ M ∧ M < (E + 1) * 4294967296 ∧ M % 4294967296 ≤ 1073741824
theorem Good.up {E E' M : Nat} (h : Good E M) (hE : E ≤ E') : Good E' M := ⟨h.1, Nat.lt_of_lt_of_le h.2.1 (Nat.mul_le_mul_right _ (by omega)), h.2.2⟩

/-- What lasts of a log, and what pends: the pair of anchors tells N, and one anchor may pend; no piece has a later epoch than E; no sector has two pending writes. -/
structure Hold (S : DS) (f n N E : Nat) : Prop where
  once : Once S
  old : (snewest (dsec S.im f) (dsec S.im (f + 1))).2 = (N, [], 0)
  gd : Good E N
  new : ∀ q ∈ S.puts, q.1 < f + 2 → f ≤ q.1 → ∃ M, N < M ∧ M < 9223372036854775808 ∧ Good E M ∧ q = (f + (srenew (dsec S.im f) (dsec S.im (f + 1)) (M : Int) []).1, (srenew (dsec S.im f) (dsec S.im (f + 1)) (M : Int) []).2.1)
  ri : ∀ i, i < n → (pcOf (dsec S.im (f + 2 + i))).e ≤ E
  rp : ∀ q ∈ S.puts, f + 2 ≤ q.1 → (pcOf q.2).e ≤ E

section
variable {S S' : DS} {s f n N E : Nat}

theorem Hold.up {E' : Nat} (h : Hold S f n N E) (hE : E ≤ E') : Hold S f n N E' :=
  ⟨h.once, h.old, h.gd.up hE, fun q hq h1 h2 => by obtain ⟨M, a, b, c, d⟩ := h.new q hq h1 h2; exact ⟨M, a, b, c.up hE, d⟩, fun i hi => Nat.le_trans (h.ri i hi) hE, fun q hq h1 => Nat.le_trans (h.rp q hq h1) hE⟩
theorem Hold.same (h : Hold S f n N E) (hi : S'.im = S.im) (hp : S'.puts = S.puts) : Hold S' f n N E := by
  refine ⟨⟨by rw [hp]; exact h.once.one, by rw [hp, hi]; exact h.once.sea⟩, by rw [hi]; exact h.old, h.gd, by rw [hp, hi]; exact h.new, by rw [hi]; exact h.ri, by rw [hp]; exact h.rp⟩
/-- Nothing pends. -/
theorem Hold.still (hp : S.puts = []) (old : (snewest (S.now f) (S.now (f + 1))).2 = (N, [], 0)) (gd : Good E N) (ri : ∀ i, i < n → (pcOf (S.now (f + 2 + i))).e ≤ E) : Hold S f n N E := by
  have hn : ∀ k, S.now k = dsec S.im k := fun k => now_none _ _ (by rw [hp]; rfl)
  refine ⟨Once.nil hp, by rw [← hn, ← hn]; exact old, gd, fun q hq => (by rw [hp] at hq; cases hq), fun i hi => by rw [← hn]; exact ri i hi, fun q hq => (by rw [hp] at hq; cases hq)⟩

theorem pend_of {q : Nat × List Int} (h : q ∈ S.puts) : q.2 ∈ pendOf S.puts q.1 := by
  unfold pendOf
  exact List.mem_map.2 ⟨q, List.mem_filter.2 ⟨h, by simp⟩, rfl⟩
theorem Hold.slot (h : Hold S f n N E) (hok : S.Ok s) (hf : f + 1 < s) {q q' : Nat × List Int} (hq : q ∈ S.puts) (h1 : q.1 < f + 2) (h2 : f ≤ q.1) (hq' : q' ∈ S.puts) (h1' : q'.1 < f + 2) (h2' : f ≤ q'.1) : q'.1 = q.1 := by
  have hl : (dsec S.im f).length = 512 := dsec_len hok.len (by omega)
  have hr : (dsec S.im (f + 1)).length = 512 := dsec_len hok.len hf
  have hnum : (snewest (dsec S.im f) (dsec S.im (f + 1))).2.1 = N := by rw [h.old]
  obtain ⟨M, m1, m2, _, e⟩ := h.new q hq h1 h2
  obtain ⟨M', m1', m2', _, e'⟩ := h.new q' hq' h1' h2'
  have hw := srenew_where hl hr (M := M) (by omega) (by rw [hnum]; exact m1)
  have hw' := srenew_where hl hr (M := M') (by omega) (by rw [hnum]; exact m1')
  have a1 : q.1 = f + (srenew (dsec S.im f) (dsec S.im (f + 1)) (M : Int) []).1 := by rw [e]
  have a2 : q'.1 = f + (srenew (dsec S.im f) (dsec S.im (f + 1)) (M' : Int) []).1 := by rw [e']
  rw [a1, a2, hw, hw']
/-- The pair, where each of its sectors is what it was, what it is to be, or torn. -/
theorem Hold.pair (h : Hold S f n N E) (hok : S.Ok s) (hf : f + 1 < s) (T : DS) (hT : ∀ k, k < s → (T.now k).length = 512) (hk : ∀ k, k < s → (pendOf S.puts k = [] → T.now k = dsec S.im k) ∧ (T.now k = dsec S.im k ∨ T.now k = S.now k ∨ sopen (T.now k) = none)) :
    ∃ N', Good E N' ∧ (snewest (T.now f) (T.now (f + 1))).2 = (N', [], 0) := by
  have hl : (dsec S.im f).length = 512 := dsec_len hok.len (by omega)
  have hr : (dsec S.im (f + 1)).length = 512 := dsec_len hok.len hf
  have hnum : (snewest (dsec S.im f) (dsec S.im (f + 1))).2.1 = N := by rw [h.old]
  by_cases p : ∃ q ∈ S.puts, q.1 < f + 2 ∧ f ≤ q.1
  · obtain ⟨q, hq, q1, q2⟩ := p
    obtain ⟨M, m1, m2, mg, e⟩ := h.new q hq q1 q2
    have hw := srenew_where hl hr (M := M) (by omega) (by rw [hnum]; exact m1)
    have hwh := renew_whole hl hr (N := M) (by omega) m2 (by rw [hnum]; exact m1)
    have hsl := srenew_slot (dsec S.im f) (dsec S.im (f + 1)) (M : Int) []
    have eq1 : q.1 = f + (srenew (dsec S.im f) (dsec S.im (f + 1)) (M : Int) []).1 := by rw [e]
    have eq2 : q.2 = (srenew (dsec S.im f) (dsec S.im (f + 1)) (M : Int) []).2.1 := by rw [e]
    have hother := fun q' hq' a1 a2 => h.slot hok hf hq q1 q2 (q' := q') hq' a1 a2
    have hmem := pend_of hq
    have hpend : pendOf S.puts q.1 ≠ [] := fun hc => by rw [hc] at hmem; cases hmem
    obtain ⟨l, body, e1, e2, e3, e4⟩ := h.once.pend hpend
    have hl2 : l = q.2 := by rw [e1] at hmem; exact (List.mem_singleton.1 hmem).symm
    have hcr := (hk q.1 (by omega)).2
    have hlen := hT q.1 (by omega)
    rw [e4, hl2, eq2] at hcr
    generalize hY : srenew (dsec S.im f) (dsec S.im (f + 1)) (M : Int) [] = Y at *
    have hpair : (T.now f, T.now (f + 1)) = sput (dsec S.im f) (dsec S.im (f + 1)) Y.1 (T.now q.1) := by
      unfold sput
      by_cases z : Y.1 = 0
      · rw [if_pos z]
        have e5 : pendOf S.puts (f + 1) = [] := pend_none_in (fun q' hq' c => by have := hother q' hq' (by omega) (by omega); omega)
        rw [(hk (f + 1) hf).1 e5, show q.1 = f by omega]
      · rw [if_neg z]
        have e5 : pendOf S.puts f = [] := pend_none_in (fun q' hq' c => by have := hother q' hq' (by omega) (by omega); omega)
        rw [(hk f (by omega)).1 e5, show q.1 = f + 1 by omega]
    have ef : T.now f = (sput (dsec S.im f) (dsec S.im (f + 1)) Y.1 (T.now q.1)).1 := congrArg Prod.fst hpair
    have eg : T.now (f + 1) = (sput (dsec S.im f) (dsec S.im (f + 1)) Y.1 (T.now q.1)).2 := congrArg Prod.snd hpair
    rw [ef, eg]
    rcases hcr with hc | hc | hc
    · refine ⟨N, h.gd, ?_⟩
      rw [hc]
      have : sput (dsec S.im f) (dsec S.im (f + 1)) Y.1 (dsec S.im q.1) = (dsec S.im f, dsec S.im (f + 1)) := by
        unfold sput
        by_cases z : Y.1 = 0
        · rw [if_pos z, show q.1 = f by omega]
        · rw [if_neg z, show q.1 = f + 1 by omega]
      rw [this]
      exact h.old
    · refine ⟨M, mg, ?_⟩
      rw [hc]
      exact hwh
    · refine ⟨N, h.gd, ?_⟩
      rw [pair_old hl hr hlen (sanchor_none hc) Y.1 hw]
      exact h.old
  · refine ⟨N, h.gd, ?_⟩
    have e0 : pendOf S.puts f = [] := pend_none_in (fun q' hq' c => p ⟨q', hq', by omega, by omega⟩)
    have e1 : pendOf S.puts (f + 1) = [] := pend_none_in (fun q' hq' c => p ⟨q', hq', by omega, by omega⟩)
    rw [(hk f (by omega)).1 e0, (hk (f + 1) hf).1 e1]
    exact h.old
theorem pc_none {l : List Int} (hl : l.length = 512) (h : sopen l = none) : (pcOf l).e = 0 := by
  have : (sopens l).2 ≠ 0 := by unfold sopens; rw [if_neg (by omega), h]; simp
  unfold pcOf
  rw [if_pos (.inl this)]
  rfl
theorem Hold.ring (h : Hold S f n N E) (hs : f + 2 + n ≤ s) (T : DS) (hT : ∀ k, k < s → (T.now k).length = 512) (hk : ∀ k, k < s → (T.now k = dsec S.im k ∨ T.now k = S.now k ∨ sopen (T.now k) = none)) : ∀ i, i < n → (pcOf (T.now (f + 2 + i))).e ≤ E := fun i hi => by
  rcases hk (f + 2 + i) (by omega) with e | e | e
  · rw [e]; exact h.ri i hi
  · rw [e]
    by_cases hp : pendOf S.puts (f + 2 + i) = []
    · rw [now_none _ _ hp]; exact h.ri i hi
    · obtain ⟨l, body, e1, _, _, e4⟩ := h.once.pend hp
      rw [e4]
      exact h.rp _ (pend_in (by rw [e1]; exact List.mem_singleton.2 rfl)) (by show f + 2 ≤ f + 2 + i; omega)
  · rw [pc_none (hT _ (by omega)) e]; exact Nat.zero_le _
theorem Hold.fl (h : Hold S f n N E) (hok : S.Ok s) (hs : f + 2 + n ≤ s) (hf1 : f + 1 < s) : ∃ N', Hold (S.fl s).2 f n N' E := by
  by_cases e0 : (S.fl s).1 = 0
  · have hnow : ∀ k, k < s → (S.fl s).2.now k = S.now k := fun k hk => fl_now hok hk
    have hlen : ∀ k, k < s → ((S.fl s).2.now k).length = 512 := fun k hk => by rw [hnow k hk]; exact now_len hok k hk
    obtain ⟨N', g, e⟩ := h.pair hok hf1 (S.fl s).2 hlen (fun k hk => ⟨fun hp => by rw [hnow k hk, now_none _ _ hp], .inr (.inl (hnow k hk))⟩)
    exact ⟨N', Hold.still (fl_zero e0) e g (h.ring hs _ hlen (fun k hk => .inr (.inl (hnow k hk))))⟩
  · rw [(fl_err e0).1]; exact ⟨N, h⟩
theorem Hold.crash (h : Hold S f n N E) (hok : S.Ok s) (hs : f + 2 + n ≤ s) (hf1 : f + 1 < s) (pl : List P3) : ∃ N', Hold (S.crash s pl) f n N' E := by
  have hlen : ∀ k, k < s → ((S.crash s pl).now k).length = 512 := fun k hk => by
    rw [now_none _ _ rfl]
    show (dsec (imOf s (cutOf S pl)) k).length = 512
    rw [sec_imOf s (cutOf S pl) (fun j hj => cut_len hok pl j hj) k hk]
    exact cut_len hok pl _ hk
  have hk := fun k (hk : k < s) => h.once.crash hok hk pl
  obtain ⟨N', g, e⟩ := h.pair hok hf1 (S.crash s pl) hlen (fun k hk' => ⟨fun hp => cut_same hok hk' hp, hk k hk'⟩)
  exact ⟨N', Hold.still rfl e g (h.ring hs _ hlen hk)⟩
/-- The number that the pair tells by now. -/
theorem Hold.anew (h : Hold S f n N E) (hok : S.Ok s) (hp : S.puts = []) (hs : f + 2 + n ≤ s) (hf1 : f + 1 < s) {M : Nat} (hM : S.num f < M) (hM2 : M < 9223372036854775808) (hg : Good E M) : ∃ N', Hold (anew S s f (M : Int)).2 f n N' E := by
  have ho := Once.anew (f := f) hok hp hf1 (M : Int)
  have hn : ∀ k, S.now k = dsec S.im k := fun k => now_none _ _ (by rw [hp]; rfl)
  have hsl := srenew_slot (S.now f) (S.now (f + 1)) (M : Int) []
  have hnum : S.num f = N := by
    unfold DS.num
    rw [hn, hn, h.old]
  have h0 : Hold S f n N E := h
  unfold Go.Proofs.Ythdgndbmecnimaa.anew at ho ⊢
  split
  · exact ⟨N, h0⟩
  · rename_i hfz
    rw [if_neg hfz] at ho
    split
    · exact ⟨N, h0⟩
    · rename_i hr
      rw [if_neg hr] at ho
      have key : ∀ T : DS, T = (S.wr s ((f : Int) + ((srenew (S.now f) (S.now (f + 1)) (M : Int) []).1 : Int)) 512 (srenew (S.now f) (S.now (f + 1)) (M : Int) []).2.1).2 → Once T → T.Ok s → Hold T f n N E := fun T eT hoT _ => by
        rw [show (f : Int) + ((srenew (S.now f) (S.now (f + 1)) (M : Int) []).1 : Int) = ((f + (srenew (S.now f) (S.now (f + 1)) (M : Int) []).1 : Nat) : Int) by omega] at eT
        obtain ⟨w1, w2⟩ := wr_puts_eq (S := S) (s := s) (k := f + (srenew (S.now f) (S.now (f + 1)) (M : Int) []).1) hfz (by omega) (srenew (S.now f) (S.now (f + 1)) (M : Int) []).2.1
        rw [← eT] at w1 w2
        rw [hp, List.nil_append] at w1
        refine ⟨hoT, by rw [w2]; exact h.old, h.gd, fun q hq _ _ => ?_, by rw [w2]; exact h.ri, fun q hq hq2 => ?_⟩
        · rw [w1] at hq
          have := List.mem_singleton.1 hq
          rw [hn, hn] at this
          rw [w2]
          exact ⟨M, by omega, hM2, hg, this⟩
        · rw [w1] at hq
          have := List.mem_singleton.1 hq
          rw [this] at hq2
          simp only at hq2
          omega
      have hr' := Decidable.of_not_not hr
      have hfull := srenew_full (S.now f) (S.now (f + 1)) (M : Int) [] hr'
      have hwok : (S.wr s ((f : Int) + ((srenew (S.now f) (S.now (f + 1)) (M : Int) []).1 : Int)) 512 (srenew (S.now f) (S.now (f + 1)) (M : Int) []).2.1).2.Ok s := by
        rw [show (f : Int) + ((srenew (S.now f) (S.now (f + 1)) (M : Int) []).1 : Int) = ((f + (srenew (S.now f) (S.now (f + 1)) (M : Int) []).1 : Nat) : Int) by omega]
        exact wr_ok hok hfz (by omega) hfull
      have how : Once (S.wr s ((f : Int) + ((srenew (S.now f) (S.now (f + 1)) (M : Int) []).1 : Int)) 512 (srenew (S.now f) (S.now (f + 1)) (M : Int) []).2.1).2 := by
        obtain ⟨body, hb, e⟩ := srenew_form hr'
        rw [show (f : Int) + ((srenew (S.now f) (S.now (f + 1)) (M : Int) []).1 : Int) = ((f + (srenew (S.now f) (S.now (f + 1)) (M : Int) []).1 : Nat) : Int) by omega]
        generalize srenew (S.now f) (S.now (f + 1)) (M : Int) [] = Y at *
        refine (Once.nil hp).wr hok (by omega) hfz (by rw [hp]; rfl) hb ?_
        rw [e]
        by_cases q : Y.1 = 0
        · rw [q, if_pos rfl, Nat.add_zero]
        · have q1 : Y.1 = 1 := by omega
          rw [q1, if_neg (by omega)]
      have hW := key _ rfl how hwok
      split
      · exact ⟨N, hW⟩
      · exact hW.fl hwok hs hf1
end
end Go.Proofs.Ythdgndbmecnimaa
end

section
namespace Go.Proofs.Ythdgndbmecnimaa
open Go.RowKit

section
variable {S S' : DS} {s n N E t i : Nat} {ls : List LG} {L : LG}

theorem appTo_hold (h : Hold S L.f L.n N E) (hok : S.Ok s) (hsl : Slots S L L.tail L.head) (hn : 1 ≤ L.n) (hs : L.f + 2 + L.n ≤ s) (hth : L.tail ≤ L.head) (hE : L.ep ≤ E) (hE2 : E < 4294967296) {d : List Int} : ∀ k, L.head + k ≤ L.tail + L.n → Hold (appTo L S s d k).2 L.f L.n N E
  | 0, _ => h
  | k + 1, hk => by
    have ih := appTo_hold h hok hsl hn hs hth hE hE2 (d := d) k (by omega)
    obtain ⟨o1, o2, o3⟩ := appTo_once h.once hok hsl hn hs hth (d := d) (k + 1) hk
    obtain ⟨_, p2, _⟩ := appTo_once h.once hok hsl hn hs hth (d := d) k (by omega)
    by_cases e : (appTo L S s d k).1 = 0
    · have e2 : appTo L S s d (k + 1) = aput (appTo L S s d k).2 s L.f L.n L.ep (L.head + k) k (cntOf d.length) (partOf d k) := by
        show (if (appTo L S s d k).1 ≠ 0 then appTo L S s d k else _) = _
        rw [if_neg (fun h => h e)]
        rfl
      rw [e2] at o1 o2 ⊢
      generalize (appTo L S s d k).2 = T at *
      have hl : (partOf d k).length ≤ 492 := by unfold partOf; rw [List.length_take]; omega
      have hm : (L.head + k) % L.n < L.n := Nat.mod_lt _ hn
      have ho := now_len p2 (L.f + 2 + (L.head + k) % L.n) (by omega)
      have hpc := pc_sealed ho (E := L.ep) (P := L.head + k) (i := k) (c := cntOf d.length) hl (by omega)
      unfold aput at o1 ⊢
      split
      · exact ih
      · rename_i hf
        rw [if_neg hf] at o1
        obtain ⟨w1, w2⟩ := wr_puts_eq (S := T) (s := s) (k := L.f + 2 + (L.head + k) % L.n) hf (by omega) (sseal (T.now (L.f + 2 + (L.head + k) % L.n)) (pbody L.ep (L.head + k) k (cntOf d.length) (partOf d k))).1
        refine ⟨o1, by rw [w2]; exact ih.old, ih.gd, fun q hq h1 h2 => ?_, by rw [w2]; exact ih.ri, fun q hq h1 => ?_⟩
        · rw [w1] at hq
          rw [w2]
          rcases List.mem_append.1 hq with h5 | h5
          · exact ih.new q h5 h1 h2
          · obtain rfl := List.mem_singleton.1 h5
            simp only at h1
            omega
        · rw [w1] at hq
          rcases List.mem_append.1 hq with h5 | h5
          · exact ih.rp q h5 h1
          · obtain rfl := List.mem_singleton.1 h5
            rw [hpc]
            exact hE
    · have e2 : appTo L S s d (k + 1) = appTo L S s d k := stepsTo_err e (k + 1) (by omega)
      rw [e2]
      exact ih
theorem Hold.append (h : Hold S L.f L.n N E) (ht : Tidy S L) (hi : Inv S s ls t) (hL : ls[i]? = some L) (hE : L.ep ≤ E) (hE2 : E < 4294967296) (d : List Int) : Hold (L.append S s d).2.1 L.f L.n N E := by
  have hk := (hi.at hL).1
  have h1 := hk.s
  have h2 := hk.n1
  unfold LG.append
  split
  · exact h
  · rename_i hr
    obtain ⟨hu, hx1, hx2, hh, hro⟩ := refuses_no (Decidable.of_not_not hr)
    have := appTo_hold (d := d) h hi.ok (ht.2 hu) (by omega) h1 hk.th hE hE2 (cntOf d.length) hro
    split
    · exact this
    · exact this
theorem Hold.sync (h : Hold S L.f L.n N E) (hi : Inv S s ls t) (hL : ls[i]? = some L) : ∃ N', Hold (L.sync S s).2 L.f L.n N' E := by
  have hk := (hi.at hL).1
  have h1 := hk.s
  have h2 := hk.n1
  unfold LG.sync
  split
  · exact ⟨N, h⟩
  · exact h.fl hi.ok h1 (by omega)
theorem Hold.trim (h : Hold S L.f L.n N E) (hi : Inv S s ls t) (hL : ls[i]? = some L) (hE1 : 1 ≤ L.ep) (hE : L.ep ≤ E) (hE2 : E < 1073741824) : ∃ N', Hold (L.trim S s).2.1 L.f L.n N' E := by
  have hk := (hi.at hL).1
  have h1 := hk.s
  have h2 := hk.n1
  obtain ⟨N1, hy⟩ := h.sync hi hL
  unfold LG.trim
  split
  · exact ⟨N1, hy⟩
  · rename_i hr
    have hr := Decidable.of_not_not hr
    split
    · exact ⟨N1, hy⟩
    · rename_i hne
      have hu : L.unready S = 0 := by
        unfold LG.sync at hr
        by_cases c : L.unready S = 0
        · exact c
        · rw [if_pos c] at hr; exact absurd hr c
      have hyp : (L.sync S s) = S.fl s := by unfold LG.sync; rw [if_neg (by omega)]
      obtain ⟨hdd, hb⟩ := unready_no hu
      obtain ⟨ha, hf⟩ := dead_no hdd
      rw [hyp] at hr hy ⊢
      have hok := fl_ok (s := s) hi.ok
      have hfit := (hi.al L (List.mem_of_getElem? hL) ha hf).1 hb
      have hnum : (S.fl s).2.num L.f = S.num L.f := num_fl hi.ok (by omega)
      have hth := hk.th
      have hhb := hk.hb hb
      have eN : ((L.ep : Int) * 4294967296 + (L.head : Int)) = ((L.ep * 4294967296 + L.head : Nat) : Int) := by omega
      rw [eN]
      have hA := hy.anew hok (fl_zero hr) h1 (by omega) (M := L.ep * 4294967296 + L.head) (by rw [hnum]; omega) (by omega) ⟨by omega, by omega, by omega⟩
      split
      · exact hA
      · exact hA
theorem Hold.start (h : Hold S L.f L.n N E) (hi : Inv S s ls t) (hL : ls[i]? = some L) (hE : L.top + 1 ≤ E) (hE2 : E < 1073741824) : ∃ N', Hold (L.start S s).2.1 L.f L.n N' E := by
  have hk := (hi.at hL).1
  have h1 := hk.s
  have h2 := hk.n1
  unfold LG.start
  split
  · exact ⟨N, h⟩
  · rename_i hd
    split
    · exact ⟨N, h⟩
    · rename_i hb
      obtain ⟨ha, hf⟩ := dead_no (by simpa using hd : L.dead S = false)
      have hfit := (hi.al L (List.mem_of_getElem? hL) ha hf).2 (by simpa using hb)
      have hp : S.puts = [] := List.eq_nil_of_length_eq_zero hfit.1
      have eN : (((L.top + 1 : Nat) : Int) * 4294967296 + ((0 : Nat) : Int)) = (((L.top + 1) * 4294967296 : Nat) : Int) := by omega
      rw [eN]
      have hA := h.anew hi.ok hp h1 (by omega) (M := (L.top + 1) * 4294967296) hfit.2 (by omega) ⟨by omega, by omega, by omega⟩
      split
      · exact hA
      · exact hA
/-- Behind a cut the log is opened. -/
theorem Hold.opens {f : Nat} (h : Hold S f n N E) (hp : S.puts = []) (hE2 : E < 1073741824) (hok : S.Ok s) (hf : S.fuse = -1) (hab : f + 2 + n ≤ s) (hb1 : 18 ≤ n) (hb2 : n ≤ 256) :
    (lopen S s f n).1 = 0 ∧ (lopen S s f n).2.fuse = -1 ∧ (lopen S s f n).2.life = wrap64 (S.life + 1) ∧ (∀ j, j < s → (lopen S s f n).2.now j = S.now j) ∧ (lopen S s f n).2.puts = [] ∧ oTop S f n ≤ E ∧ Hold (lopen S s f n).2 f n N E := by
  have hnow : ∀ k, S.now k = dsec S.im k := fun k => now_none _ _ (by rw [hp]; rfl)
  have hr0 : lrefuse S s (f : Int) (n : Int) = 0 := by
    unfold lrefuse
    rw [if_neg (by omega), if_neg (by omega), if_neg (by omega), if_neg (by omega)]
  obtain ⟨g1, g2, g3⟩ := h.gd
  have hd1 : 1 ≤ N / 4294967296 := by omega
  have hd2 : N / 4294967296 ≤ E := by omega
  have hn : oNew S f = (N / 4294967296, N % 4294967296, 0) := by
    unfold oNew lnewest
    have h1 := h.old
    rw [← hnow, ← hnow] at h1
    generalize snewest (S.now f) (S.now (f + 1)) = X at *
    rw [h1]
    simp only [List.length_nil]
    rw [if_neg (by omega)]
  have ht : oTop S f n ≤ E := by
    unfold oTop
    rw [hn]
    have := rtop_bound (R := oRing S f) (E := E) n (fun i hi => by unfold oRing; rw [hnow]; exact h.ri i hi)
    show max (N / 4294967296) (rtop (oRing S f) n) ≤ E
    omega
  have e1 : lopen S s (f : Int) (n : Int) = S.take.fl s := by
    unfold lopen
    rw [if_neg (by omega), Int.toNat_natCast, Int.toNat_natCast, if_neg (by rw [hn]; show ¬ (0 : Nat) ≠ 0; omega), if_neg (by omega)]
  have h0 : (S.take.fl s).1 = 0 := Decidable.byContradiction (fun e => by have := (fl_err e).2.1; have : S.take.fuse = -1 := hf; omega)
  have hokT : S.take.Ok s := ⟨hok.len, hok.lo, hok.hi, hok.puts, hok.fuse⟩
  have hnw : ∀ j, j < s → (S.take.fl s).2.now j = S.now j := fun j hj => fl_now (S := S.take) hokT hj
  rw [e1]
  refine ⟨h0, fl_calm (S := S.take) hf s, fl_life _ _, hnw, fl_zero h0, ht, Hold.still (fl_zero h0) ?_ h.gd (fun i hi => ?_)⟩
  · rw [hnw _ (by omega), hnw _ (by omega), hnow, hnow]; exact h.old
  · rw [hnw _ (by omega), hnow]; exact h.ri i hi
end
end Go.Proofs.Ythdgndbmecnimaa
end

section
namespace Go.Proofs.Ythdgndbmecnimaa
open Go.RowKit

section
variable {S S' : DS} {s n N E t i j f : Nat} {ls : List LG} {L : LG}

theorem appTo_fuse (hn : 1 ≤ L.n) (hs : L.f + 2 + L.n ≤ s) {d : List Int} : ∀ k, (appTo L S s d k).1 ≠ 0 → (appTo L S s d k).2.fuse = 0
  | 0, h => absurd rfl h
  | k + 1, h => by
    by_cases e : (appTo L S s d k).1 = 0
    · have e2 : appTo L S s d (k + 1) = aput (appTo L S s d k).2 s L.f L.n L.ep (L.head + k) k (cntOf d.length) (partOf d k) := by
        show (if (appTo L S s d k).1 ≠ 0 then appTo L S s d k else _) = _
        rw [if_neg (fun h => h e)]
        rfl
      rw [e2] at h ⊢
      exact aput_err hn hs h
    · have e2 : appTo L S s d (k + 1) = appTo L S s d k := stepsTo_err e (k + 1) (by omega)
      rw [e2]
      exact appTo_fuse hn hs k e
theorem anew_still (hf : f + 1 < s) (hp : S.puts = []) (num : Int) (h : (anew S s f num).2.fuse ≠ 0) : (anew S s f num).2.puts = [] := by
  unfold anew at *
  by_cases h1 : S.fuse = 0
  · rw [if_pos h1]; exact hp
  · rw [if_neg h1] at h ⊢
    by_cases h2 : (srenew (S.now f) (S.now (f + 1)) num []).2.2 ≠ 0
    · rw [if_pos h2]; exact hp
    · rw [if_neg h2] at h ⊢
      have hsl := srenew_slot (S.now f) (S.now (f + 1)) num []
      generalize srenew (S.now f) (S.now (f + 1)) num [] = Y at *
      rw [show (f : Int) + (Y.1 : Int) = ((f + Y.1 : Nat) : Int) by omega] at h ⊢
      by_cases h3 : (S.wr s ((f + Y.1 : Nat) : Int) 512 Y.2.1).1 ≠ 0
      · exact absurd (wr_err (by omega) h3).2 h1
      · rw [if_neg h3] at h ⊢
        by_cases h4 : ((S.wr s ((f + Y.1 : Nat) : Int) 512 Y.2.1).2.fl s).1 = 0
        · exact fl_zero h4
        · have := fl_err h4
          rw [this.1] at h
          exact absurd this.2.1 h
theorem unready_fuse (h : L.unready S = 0) : S.fuse ≠ 0 := (dead_no (unready_no h).1).2

/-- A disk with one log, behind j steps of a script with fuses and cuts. -/
structure Tn (S : DS) (L : LG) (n j : Nat) : Prop where
  i : Inv S (n + 2) [L] (3 + 2 * j)
  f0 : L.f = 0
  n' : L.n = n
  g : L.begun = true
  e1 : 1 ≤ L.ep
  e2 : L.ep ≤ j + 2
  ho : ∃ N, Hold S 0 n N (j + 2)
  ti : Tidy S L

theorem Inv.upTo {t' : Nat} (h : Inv S s ls t) (ht : t ≤ t') : Inv S s ls t' := ⟨h.ok, h.byt, h.p6, h.p2, h.l0, by have := h.lt; omega, h.ol, h.li, h.al⟩
theorem Tn.up (h : Tn S L n j) : Tn S L n (j + 1) := by
  obtain ⟨N, ho⟩ := h.ho
  exact ⟨h.i.upTo (by omega), h.f0, h.n', h.g, h.e1, by have := h.e2; omega, ⟨N, ho.up (by omega)⟩, h.ti⟩
theorem Tn.once (h : Tn S L n j) : Once S := h.ti.1
theorem Tn.append (h : Tn S L n j) (hj : j ≤ 100000) {d : List Int} (hd : Bytes d) (ok : (L.append S (n + 2) d).2.1.Ok (n + 2)) : Tn (L.append S (n + 2) d).2.1 (L.append S (n + 2) d).2.2 n j := by
  have hL := (h.i.at (i := 0) rfl).1
  have h1 := hL.s
  have h2 := hL.n1
  have e0 := h.f0
  have en := h.n'
  have ee := h.e2
  obtain ⟨N, ho⟩ := h.ho
  have ho' : Hold S L.f L.n N (j + 2) := by rw [e0, en]; exact ho
  have hh := ho'.append (i := 0) h.ti h.i rfl h.e2 (by omega) d
  have ht := h.ti.append (i := 0) h.i rfl d
  have hi := h.i.append (i := 0) rfl hd ok
  have hLL : (L.append S (n + 2) d).2.2 = L ∨ ∃ c, (L.append S (n + 2) d).2.2 = { L with head := L.head + c } := by
    unfold LG.append
    split
    · exact .inl rfl
    · split
      · exact .inl rfl
      · exact .inr ⟨_, rfl⟩
  rw [e0, en] at hh
  have hsl : (L.append S (n + 2) d).2.2.unready (L.append S (n + 2) d).2.1 = 0 → Slots (L.append S (n + 2) d).2.1 (L.append S (n + 2) d).2.2 (L.append S (n + 2) d).2.2.tail (L.append S (n + 2) d).2.2.head := fun hu => by
    by_cases e : (L.append S (n + 2) d).1 = 0
    · exact ht.2 e
    · have hfz := unready_fuse hu
      unfold LG.append at e hu hfz ⊢
      by_cases hr : L.refuses S d.length ≠ 0
      · rw [if_pos hr] at hu ⊢; exact h.ti.2 hu
      · rw [if_neg hr] at e hu hfz ⊢
        by_cases ha : (appTo L S (n + 2) d (cntOf d.length)).1 ≠ 0
        · rw [if_pos ha] at hfz
          exact absurd (appTo_fuse (by omega) h1 _ ha) hfz
        · rw [if_neg ha] at e; exact absurd rfl e
  have hi' : Inv (L.append S (n + 2) d).2.1 (n + 2) [(L.append S (n + 2) d).2.2] (3 + 2 * j) := hi
  rcases hLL with e | ⟨c, e⟩
  · rw [e] at hi' hsl ⊢
    exact ⟨hi', e0, en, h.g, h.e1, h.e2, ⟨N, hh⟩, ht.1, hsl⟩
  · rw [e] at hi' hsl ⊢
    exact ⟨hi', e0, en, h.g, h.e1, h.e2, ⟨N, hh⟩, ht.1, hsl⟩
theorem Tn.sync (h : Tn S L n j) : Tn (L.sync S (n + 2)).2 L n j := by
  have e0 := h.f0
  have en := h.n'
  obtain ⟨N, ho⟩ := h.ho
  have ho' : Hold S L.f L.n N (j + 2) := by rw [e0, en]; exact ho
  obtain ⟨N', hh⟩ := ho'.sync (i := 0) h.i rfl
  have ht := h.ti.sync (s := n + 2)
  rw [e0, en] at hh
  refine ⟨h.i.sync (i := 0) rfl, e0, en, h.g, h.e1, h.e2, ⟨N', hh⟩, ht.1, fun hu => ?_⟩
  by_cases e : (L.sync S (n + 2)).1 = 0
  · exact Slots.nil (ht.2 e) _ _
  · unfold LG.sync at e hu ⊢
    by_cases hr : L.unready S ≠ 0
    · rw [if_pos hr] at hu; exact absurd hu hr
    · rw [if_neg hr] at e hu ⊢
      rw [(fl_err e).1] at hu ⊢
      exact h.ti.2 hu
theorem Tn.trim (h : Tn S L n j) (hj : j ≤ 100000) (ok : (L.trim S (n + 2)).2.1.Ok (n + 2)) : Tn (L.trim S (n + 2)).2.1 (L.trim S (n + 2)).2.2 n j := by
  have e0 := h.f0
  have en := h.n'
  have ee := h.e2
  have hL := (h.i.at (i := 0) rfl).1
  have h1 := hL.s
  have h2 := hL.n1
  obtain ⟨N, ho⟩ := h.ho
  have ho' : Hold S L.f L.n N (j + 2) := by rw [e0, en]; exact ho
  obtain ⟨N', hh⟩ := ho'.trim (i := 0) h.i rfl h.e1 h.e2 (by omega)
  have ht := h.ti.trim (i := 0) h.i rfl
  have hy := h.ti.sync (s := n + 2)
  rw [e0, en] at hh
  have hi' : Inv (L.trim S (n + 2)).2.1 (n + 2) [(L.trim S (n + 2)).2.2] (3 + 2 * j) := h.i.trim (i := 0) rfl ok
  have hLL : (L.trim S (n + 2)).2.2 = L ∨ (L.trim S (n + 2)).2.2 = { L with tail := L.head } := by
    unfold LG.trim
    split
    · exact .inl rfl
    · split
      · exact .inl rfl
      · split
        · exact .inl rfl
        · exact .inr rfl
  have hsl : (L.trim S (n + 2)).2.2.unready (L.trim S (n + 2)).2.1 = 0 → Slots (L.trim S (n + 2)).2.1 (L.trim S (n + 2)).2.2 (L.trim S (n + 2)).2.2.tail (L.trim S (n + 2)).2.2.head := fun hu => by
    by_cases e : (L.trim S (n + 2)).1 = 0
    · exact Slots.nil (ht.2 e) _ _
    · have hfz := unready_fuse hu
      unfold LG.trim at e hu hfz ⊢
      by_cases hr : (L.sync S (n + 2)).1 ≠ 0
      · rw [if_pos hr] at hu ⊢
        exact h.sync.ti.2 hu
      · rw [if_neg hr] at e hu hfz ⊢
        by_cases ha : L.tail = L.head
        · rw [if_pos ha] at e; exact absurd rfl e
        · rw [if_neg ha] at e hu hfz ⊢
          by_cases hb : (anew (L.sync S (n + 2)).2 (n + 2) L.f ((L.ep : Int) * 4294967296 + (L.head : Int))).1 ≠ 0
          · rw [if_pos hb] at hfz ⊢
            exact Slots.nil (anew_still (by omega) (hy.2 (Decidable.of_not_not hr)) _ hfz) _ _
          · rw [if_neg hb] at e; exact absurd rfl e
  rcases hLL with e | e
  · rw [e] at hi' hsl ⊢
    exact ⟨hi', e0, en, h.g, h.e1, h.e2, ⟨N', hh⟩, ht.1, hsl⟩
  · rw [e] at hi' hsl ⊢
    exact ⟨hi', e0, en, h.g, h.e1, h.e2, ⟨N', hh⟩, ht.1, hsl⟩
theorem Tn.lay (h : Tn S L n j) (x : Int) (ok : (S.lay x).Ok (n + 2)) : Tn (S.lay x) L n j := by
  obtain ⟨N, ho⟩ := h.ho
  obtain ⟨l1, l2, l3, l4⟩ := lay_same S x
  have ho' := ho.same (S' := S.lay x) l3 l1
  refine ⟨h.i.lay x ok, h.f0, h.n', h.g, h.e1, h.e2, ⟨N, ho'⟩, ho'.once, fun hu => ?_⟩
  have hu2 : L.unready S = 0 := by
    obtain ⟨hd, hb⟩ := unready_no hu
    obtain ⟨ha, hf⟩ := dead_no hd
    have : L.dead S = false := by
      unfold LG.dead
      rw [Bool.or_eq_false_iff]
      exact ⟨by rw [beq_eq_false_iff_ne]; exact l4 hf, by rw [ha, l2]; simp⟩
    unfold LG.unready
    rw [if_neg (by rw [this]; decide), if_pos hb]
  have := h.ti.2 hu2
  unfold Slots at this ⊢
  rw [l1]
  exact this

/-- Behind a cut: a log is opened and started. -/
theorem Tn.again (h : Tn S L n j) (hj : j ≤ 100000) (pl : List P3) (ok : (S.crash (n + 2) pl).Ok (n + 2)) :
    (lopen (S.crash (n + 2) pl) (n + 2) ((0 : Nat) : Int) (n : Int)).1 = 0 ∧ ∀ hd, (lopen (S.crash (n + 2) pl) (n + 2) ((0 : Nat) : Int) (n : Int)).2.Ok (n + 2) → (oNew (S.crash (n + 2) pl) 0).2.1 ≤ hd → hd ≤ (oNew (S.crash (n + 2) pl) 0).2.1 + n →
      Inv (lopen (S.crash (n + 2) pl) (n + 2) ((0 : Nat) : Int) (n : Int)).2 (n + 2) [LG.opened (S.crash (n + 2) pl) 0 n hd] (3 + 2 * j + 2) ∧
      ((LG.opened (S.crash (n + 2) pl) 0 n hd).start (lopen (S.crash (n + 2) pl) (n + 2) ((0 : Nat) : Int) (n : Int)).2 (n + 2)).1 = 0 ∧
      (((LG.opened (S.crash (n + 2) pl) 0 n hd).start (lopen (S.crash (n + 2) pl) (n + 2) ((0 : Nat) : Int) (n : Int)).2 (n + 2)).2.1.Ok (n + 2) →
        Tn ((LG.opened (S.crash (n + 2) pl) 0 n hd).start (lopen (S.crash (n + 2) pl) (n + 2) ((0 : Nat) : Int) (n : Int)).2 (n + 2)).2.1 ((LG.opened (S.crash (n + 2) pl) 0 n hd).start (lopen (S.crash (n + 2) pl) (n + 2) ((0 : Nat) : Int) (n : Int)).2 (n + 2)).2.2 n (j + 1)) := by
  have hL := (h.i.at (i := 0) rfl).1
  have h1 := hL.s
  have h2 := hL.n1
  have h3 := hL.n2
  have e0 := h.f0
  have en := h.n'
  rw [en] at h2 h3
  obtain ⟨N, ho⟩ := h.ho
  obtain ⟨N', hc⟩ := ho.crash (s := n + 2) h.i.ok (by omega) (by omega) pl
  have hI := h.i.crash (by omega) pl ok
  have hI0 : Inv (S.crash (n + 2) pl) (n + 2) [] (3 + 2 * j + 1) := Inv.zero ok hI.byt rfl hI.l0 hI.lt
  obtain ⟨o1, o2, o3, o4, o5, o6, o7⟩ := hc.opens (s := n + 2) rfl (by omega) ok rfl (by omega) h2 h3
  refine ⟨o1, fun hd hok k1 k2 => ?_⟩
  have hIo := hI0.opened (by omega) ((0 : Nat) : Int) (n : Int) hok o1 (hd := hd) (by simpa using k1) (by simpa using k2)
  simp only [Int.toNat_natCast, List.nil_append] at hIo
  have hlife : (LG.opened (S.crash (n + 2) pl) 0 n hd).life = (lopen (S.crash (n + 2) pl) (n + 2) ((0 : Nat) : Int) (n : Int)).2.life := by rw [o3]; rfl
  obtain ⟨z1, z2, z3, z4⟩ := start_calm (i := 0) hIo rfl o2 hlife rfl
  refine ⟨hIo, z1, fun oks => ?_⟩
  have htop : (LG.opened (S.crash (n + 2) pl) 0 n hd).top ≤ j + 2 := o6
  have o7' : Hold (lopen (S.crash (n + 2) pl) (n + 2) ((0 : Nat) : Int) (n : Int)).2 (LG.opened (S.crash (n + 2) pl) 0 n hd).f (LG.opened (S.crash (n + 2) pl) 0 n hd).n N' (j + 3) := o7.up (by omega)
  obtain ⟨N2, hs⟩ := o7'.start (i := 0) hIo rfl (by omega) (by omega)
  have hts := Tidy.start (i := 0) (Once.nil o5) hIo rfl
  have hIs : Inv ((LG.opened (S.crash (n + 2) pl) 0 n hd).start (lopen (S.crash (n + 2) pl) (n + 2) ((0 : Nat) : Int) (n : Int)).2 (n + 2)).2.1 (n + 2) [((LG.opened (S.crash (n + 2) pl) 0 n hd).start (lopen (S.crash (n + 2) pl) (n + 2) ((0 : Nat) : Int) (n : Int)).2 (n + 2)).2.2] (3 + 2 * j + 2) := hIo.start (i := 0) rfl oks
  have hpz := hts.2 z1
  generalize ((LG.opened (S.crash (n + 2) pl) 0 n hd).start (lopen (S.crash (n + 2) pl) (n + 2) ((0 : Nat) : Int) (n : Int)).2 (n + 2)) = Z at *
  rw [z4] at hIs ⊢
  exact ⟨hIs, rfl, rfl, rfl, by show 1 ≤ _ + 1; omega, by show (LG.opened (S.crash (n + 2) pl) 0 n hd).top + 1 ≤ _; omega, ⟨N2, hs⟩, hts.1, fun _ => Slots.nil hpz _ _⟩
end
end Go.Proofs.Ythdgndbmecnimaa
end
