import Derived.Test.YtllkjmbcjlbmbaaGreatW23
namespace Go.Proofs.YtllkjmbcjlbmbaaGreat
open Go.RowKit

section
variable {S S' : DS} {s n N E t i j f : Nat} {ls : List LG} {L : LG}

theorem appTo_fuse (hn : 1 ≤ L.n) (hs : L.f + 2 + L.n ≤ s) {d : List Int} : ∀ k, (appTo L S s d k).1 ≠ 0 → (appTo L S s d k).2.fuse = 0
  | 0, h => absurd rfl h
  | k + 1, h => by
    by_cases e : (appTo L S s d k).1 = 0
    · have e2 : appTo L S s d (k + 1) = aput (appTo L S s d k).2 s L.f L.n L.ep (L.head + k) k (cntOf d.length) (partOf d k) := by
        show (if (appTo L S s d k).1 ≠ 0 then appTo L S s d k else _) = _
        rw [if_neg (fun h => h e)]
        rfl
      rw [e2] at h ⊢
      exact aput_err hn hs h
    · have e2 : appTo L S s d (k + 1) = appTo L S s d k := stepsTo_err e (k + 1) (by omega)
      rw [e2]
      exact appTo_fuse hn hs k e
theorem anew_still (hf : f + 1 < s) (hp : S.puts = []) (num : Int) (h : (anew S s f num).2.fuse ≠ 0) : (anew S s f num).2.puts = [] := by
  unfold anew at *
  by_cases h1 : S.fuse = 0
  · rw [if_pos h1]; exact hp
  · rw [if_neg h1] at h ⊢
    by_cases h2 : (srenew (S.now f) (S.now (f + 1)) num []).2.2 ≠ 0
    · rw [if_pos h2]; exact hp
    · rw [if_neg h2] at h ⊢
      have hsl := srenew_slot (S.now f) (S.now (f + 1)) num []
      generalize srenew (S.now f) (S.now (f + 1)) num [] = Y at *
      rw [show (f : Int) + (Y.1 : Int) = ((f + Y.1 : Nat) : Int) by omega] at h ⊢
      by_cases h3 : (S.wr s ((f + Y.1 : Nat) : Int) 512 Y.2.1).1 ≠ 0
      · exact absurd (wr_err (by omega) h3).2 h1
      · rw [if_neg h3] at h ⊢
        by_cases h4 : ((S.wr s ((f + Y.1 : Nat) : Int) 512 Y.2.1).2.fl s).1 = 0
        · exact fl_zero h4
        · have := fl_err h4
          rw [this.1] at h
          exact absurd this.2.1 h
theorem unready_fuse (h : L.unready S = 0) : S.fuse ≠ 0 := (dead_no (unready_no h).1).2

/-- A disk with one log, behind j steps of a script with fuses and cuts. -/
structure Tn (S : DS) (L : LG) (n j : Nat) : Prop where
  i : Inv S (n + 2) [L] (3 + 2 * j)
  f0 : L.f = 0
  n' : L.n = n
  g : L.begun = true
  e1 : 1 ≤ L.ep
  e2 : L.ep ≤ j + 2
  ho : ∃ N, Hold S 0 n N (j + 2)
  ti : Tidy S L

theorem Inv.upTo {t' : Nat} (h : Inv S s ls t) (ht : t ≤ t') : Inv S s ls t' := ⟨h.ok, h.byt, h.p6, h.p2, h.l0, by have := h.lt; omega, h.ol, h.li, h.al⟩
theorem Tn.up (h : Tn S L n j) : Tn S L n (j + 1) := by
  obtain ⟨N, ho⟩ := h.ho
  exact ⟨h.i.upTo (by omega), h.f0, h.n', h.g, h.e1, by have := h.e2; omega, ⟨N, ho.up (by omega)⟩, h.ti⟩
theorem Tn.once (h : Tn S L n j) : Once S := h.ti.1
theorem Tn.append (h : Tn S L n j) (hj : j ≤ 100000) {d : List Int} (hd : Bytes d) (ok : (L.append S (n + 2) d).2.1.Ok (n + 2)) : Tn (L.append S (n + 2) d).2.1 (L.append S (n + 2) d).2.2 n j := by
  have hL := (h.i.at (i := 0) rfl).1
  have h1 := hL.s
  have h2 := hL.n1
  have e0 := h.f0
  have en := h.n'
  have ee := h.e2
  obtain ⟨N, ho⟩ := h.ho
  have ho' : Hold S L.f L.n N (j + 2) := by rw [e0, en]; exact ho
  have hh := ho'.append (i := 0) h.ti h.i rfl h.e2 (by omega) d
  have ht := h.ti.append (i := 0) h.i rfl d
  have hi := h.i.append (i := 0) rfl hd ok
  have hLL : (L.append S (n + 2) d).2.2 = L ∨ ∃ c, (L.append S (n + 2) d).2.2 = { L with head := L.head + c } := by
    unfold LG.append
    split
    · exact .inl rfl
    · split
      · exact .inl rfl
      · exact .inr ⟨_, rfl⟩
  rw [e0, en] at hh
  have hsl : (L.append S (n + 2) d).2.2.unready (L.append S (n + 2) d).2.1 = 0 → Slots (L.append S (n + 2) d).2.1 (L.append S (n + 2) d).2.2 (L.append S (n + 2) d).2.2.tail (L.append S (n + 2) d).2.2.head := fun hu => by
    by_cases e : (L.append S (n + 2) d).1 = 0
    · exact ht.2 e
    · have hfz := unready_fuse hu
      unfold LG.append at e hu hfz ⊢
      by_cases hr : L.refuses S d.length ≠ 0
      · rw [if_pos hr] at hu ⊢; exact h.ti.2 hu
      · rw [if_neg hr] at e hu hfz ⊢
        by_cases ha : (appTo L S (n + 2) d (cntOf d.length)).1 ≠ 0
        · rw [if_pos ha] at hfz
          exact absurd (appTo_fuse (by omega) h1 _ ha) hfz
        · rw [if_neg ha] at e; exact absurd rfl e
  have hi' : Inv (L.append S (n + 2) d).2.1 (n + 2) [(L.append S (n + 2) d).2.2] (3 + 2 * j) := hi
  rcases hLL with e | ⟨c, e⟩
  · rw [e] at hi' hsl ⊢
    exact ⟨hi', e0, en, h.g, h.e1, h.e2, ⟨N, hh⟩, ht.1, hsl⟩
  · rw [e] at hi' hsl ⊢
    exact ⟨hi', e0, en, h.g, h.e1, h.e2, ⟨N, hh⟩, ht.1, hsl⟩
theorem Tn.sync (h : Tn S L n j) : Tn (L.sync S (n + 2)).2 L n j := by
  have e0 := h.f0
  have en := h.n'
  obtain ⟨N, ho⟩ := h.ho
  have ho' : Hold S L.f L.n N (j + 2) := by rw [e0, en]; exact ho
  obtain ⟨N', hh⟩ := ho'.sync (i := 0) h.i rfl
  have ht := h.ti.sync (s := n + 2)
  rw [e0, en] at hh
  refine ⟨h.i.sync (i := 0) rfl, e0, en, h.g, h.e1, h.e2, ⟨N', hh⟩, ht.1, fun hu => ?_⟩
  by_cases e : (L.sync S (n + 2)).1 = 0
  · exact Slots.nil (ht.2 e) _ _
  · unfold LG.sync at e hu ⊢
    by_cases hr : L.unready S ≠ 0
    · rw [if_pos hr] at hu; exact absurd hu hr
    · rw [if_neg hr] at e hu ⊢
      rw [(fl_err e).1] at hu ⊢
      exact h.ti.2 hu
theorem Tn.trim (h : Tn S L n j) (hj : j ≤ 100000) (ok : (L.trim S (n + 2)).2.1.Ok (n + 2)) : Tn (L.trim S (n + 2)).2.1 (L.trim S (n + 2)).2.2 n j := by
  have e0 := h.f0
  have en := h.n'
  have ee := h.e2
  have hL := (h.i.at (i := 0) rfl).1
  have h1 := hL.s
  have h2 := hL.n1
  obtain ⟨N, ho⟩ := h.ho
  have ho' : Hold S L.f L.n N (j + 2) := by rw [e0, en]; exact ho
  obtain ⟨N', hh⟩ := ho'.trim (i := 0) h.i rfl h.e1 h.e2 (by omega)
  have ht := h.ti.trim (i := 0) h.i rfl
  have hy := h.ti.sync (s := n + 2)
  rw [e0, en] at hh
  have hi' : Inv (L.trim S (n + 2)).2.1 (n + 2) [(L.trim S (n + 2)).2.2] (3 + 2 * j) := h.i.trim (i := 0) rfl ok
  have hLL : (L.trim S (n + 2)).2.2 = L ∨ (L.trim S (n + 2)).2.2 = { L with tail := L.head } := by
    unfold LG.trim
    split
    · exact .inl rfl
    · split
      · exact .inl rfl
      · split
        · exact .inl rfl
        · exact .inr rfl
  have hsl : (L.trim S (n + 2)).2.2.unready (L.trim S (n + 2)).2.1 = 0 → Slots (L.trim S (n + 2)).2.1 (L.trim S (n + 2)).2.2 (L.trim S (n + 2)).2.2.tail (L.trim S (n + 2)).2.2.head := fun hu => by
    by_cases e : (L.trim S (n + 2)).1 = 0
    · exact Slots.nil (ht.2 e) _ _
    · have hfz := unready_fuse hu
      unfold LG.trim at e hu hfz ⊢
      by_cases hr : (L.sync S (n + 2)).1 ≠ 0
      · rw [if_pos hr] at hu ⊢
        exact h.sync.ti.2 hu
      · rw [if_neg hr] at e hu hfz ⊢
        by_cases ha : L.tail = L.head
        · rw [if_pos ha] at e; exact absurd rfl e
        · rw [if_neg ha] at e hu hfz ⊢
          by_cases hb : (anew (L.sync S (n + 2)).2 (n + 2) L.f ((L.ep : Int) * 4294967296 + (L.head : Int))).1 ≠ 0
          · rw [if_pos hb] at hfz ⊢
            exact Slots.nil (anew_still (by omega) (hy.2 (Decidable.of_not_not hr)) _ hfz) _ _
          · rw [if_neg hb] at e; exact absurd rfl e
  rcases hLL with e | e
  · rw [e] at hi' hsl ⊢
    exact ⟨hi', e0, en, h.g, h.e1, h.e2, ⟨N', hh⟩, ht.1, hsl⟩
  · rw [e] at hi' hsl ⊢
    exact ⟨hi', e0, en, h.g, h.e1, h.e2, ⟨N', hh⟩, ht.1, hsl⟩
theorem Tn.lay (h : Tn S L n j) (x : Int) (ok : (S.lay x).Ok (n + 2)) : Tn (S.lay x) L n j := by
  obtain ⟨N, ho⟩ := h.ho
  obtain ⟨l1, l2, l3, l4⟩ := lay_same S x
  have ho' := ho.same (S' := S.lay x) l3 l1
  refine ⟨h.i.lay x ok, h.f0, h.n', h.g, h.e1, h.e2, ⟨N, ho'⟩, ho'.once, fun hu => ?_⟩
  have hu2 : L.unready S = 0 := by
    obtain ⟨hd, hb⟩ := unready_no hu
    obtain ⟨ha, hf⟩ := dead_no hd
    have : L.dead S = false := by
      unfold LG.dead
      rw [Bool.or_eq_false_iff]
      exact ⟨by rw [beq_eq_false_iff_ne]; exact l4 hf, by rw [ha, l2]; simp⟩
    unfold LG.unready
    rw [if_neg (by rw [this]; decide), if_pos hb]
  have := h.ti.2 hu2
  unfold Slots at this ⊢
  rw [l1]
  exact this

/-- Behind a cut: a log is opened and started. -/
theorem Tn.again (h : Tn S L n j) (hj : j ≤ 100000) (pl : List P3) (ok : (S.crash (n + 2) pl).Ok (n + 2)) :
    (lopen (S.crash (n + 2) pl) (n + 2) ((0 : Nat) : Int) (n : Int)).1 = 0 ∧ ∀ hd, (lopen (S.crash (n + 2) pl) (n + 2) ((0 : Nat) : Int) (n : Int)).2.Ok (n + 2) → (oNew (S.crash (n + 2) pl) 0).2.1 ≤ hd → hd ≤ (oNew (S.crash (n + 2) pl) 0).2.1 + n →
      Inv (lopen (S.crash (n + 2) pl) (n + 2) ((0 : Nat) : Int) (n : Int)).2 (n + 2) [LG.opened (S.crash (n + 2) pl) 0 n hd] (3 + 2 * j + 2) ∧
      ((LG.opened (S.crash (n + 2) pl) 0 n hd).start (lopen (S.crash (n + 2) pl) (n + 2) ((0 : Nat) : Int) (n : Int)).2 (n + 2)).1 = 0 ∧
      (((LG.opened (S.crash (n + 2) pl) 0 n hd).start (lopen (S.crash (n + 2) pl) (n + 2) ((0 : Nat) : Int) (n : Int)).2 (n + 2)).2.1.Ok (n + 2) →
        Tn ((LG.opened (S.crash (n + 2) pl) 0 n hd).start (lopen (S.crash (n + 2) pl) (n + 2) ((0 : Nat) : Int) (n : Int)).2 (n + 2)).2.1 ((LG.opened (S.crash (n + 2) pl) 0 n hd).start (lopen (S.crash (n + 2) pl) (n + 2) ((0 : Nat) : Int) (n : Int)).2 (n + 2)).2.2 n (j + 1)) := by
  have hL := (h.i.at (i := 0) rfl).1
  have h1 := hL.s
  have h2 := hL.n1
  have h3 := hL.n2
  have e0 := h.f0
  have en := h.n'
  rw [en] at h2 h3
  obtain ⟨N, ho⟩ := h.ho
  obtain ⟨N', hc⟩ := ho.crash (s := n + 2) h.i.ok (by omega) (by omega) pl
  have hI := h.i.crash (by omega) pl ok
  have hI0 : Inv (S.crash (n + 2) pl) (n + 2) [] (3 + 2 * j + 1) := Inv.zero ok hI.byt rfl hI.l0 hI.lt
  obtain ⟨o1, o2, o3, o4, o5, o6, o7⟩ := hc.opens (s := n + 2) rfl (by omega) ok rfl (by omega) h2 h3
  refine ⟨o1, fun hd hok k1 k2 => ?_⟩
  have hIo := hI0.opened (by omega) ((0 : Nat) : Int) (n : Int) hok o1 (hd := hd) (by simpa using k1) (by simpa using k2)
  simp only [Int.toNat_natCast, List.nil_append] at hIo
  have hlife : (LG.opened (S.crash (n + 2) pl) 0 n hd).life = (lopen (S.crash (n + 2) pl) (n + 2) ((0 : Nat) : Int) (n : Int)).2.life := by rw [o3]; rfl
  obtain ⟨z1, z2, z3, z4⟩ := start_calm (i := 0) hIo rfl o2 hlife rfl
  refine ⟨hIo, z1, fun oks => ?_⟩
  have htop : (LG.opened (S.crash (n + 2) pl) 0 n hd).top ≤ j + 2 := o6
  have o7' : Hold (lopen (S.crash (n + 2) pl) (n + 2) ((0 : Nat) : Int) (n : Int)).2 (LG.opened (S.crash (n + 2) pl) 0 n hd).f (LG.opened (S.crash (n + 2) pl) 0 n hd).n N' (j + 3) := o7.up (by omega)
  obtain ⟨N2, hs⟩ := o7'.start (i := 0) hIo rfl (by omega) (by omega)
  have hts := Tidy.start (i := 0) (Once.nil o5) hIo rfl
  have hIs : Inv ((LG.opened (S.crash (n + 2) pl) 0 n hd).start (lopen (S.crash (n + 2) pl) (n + 2) ((0 : Nat) : Int) (n : Int)).2 (n + 2)).2.1 (n + 2) [((LG.opened (S.crash (n + 2) pl) 0 n hd).start (lopen (S.crash (n + 2) pl) (n + 2) ((0 : Nat) : Int) (n : Int)).2 (n + 2)).2.2] (3 + 2 * j + 2) := hIo.start (i := 0) rfl oks
  have hpz := hts.2 z1
  generalize ((LG.opened (S.crash (n + 2) pl) 0 n hd).start (lopen (S.crash (n + 2) pl) (n + 2) ((0 : Nat) : Int) (n : Int)).2 (n + 2)) = Z at *
  rw [z4] at hIs ⊢
  exact ⟨hIs, rfl, rfl, rfl, by show 1 ≤ _ + 1; omega, by show (LG.opened (S.crash (n + 2) pl) 0 n hd).top + 1 ≤ _; omega, ⟨N2, hs⟩, hts.1, fun _ => Slots.nil hpz _ _⟩
end
end Go.Proofs.YtllkjmbcjlbmbaaGreat
