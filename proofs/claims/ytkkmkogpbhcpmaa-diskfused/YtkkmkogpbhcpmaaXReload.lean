import Derived.Test.YtkkmkogpbhcpmaaOpenF
import Derived.Test.YtkkmkogpbhcpmaaOpen
namespace Go.Proofs.Ytkkmkogpbhcpmaa
open Go.RowKit Go.Maps

theorem cut_nil {S : DS} {k : Nat} : cutOf S [] k = sec S.im k := by
  unfold cutOf
  split
  · rfl
  · simp [tornBy, pickN, tornOf, DS.cand]
theorem crash_nil_im {S : DS} {s : Nat} (h : S.Ok s) : (S.crash s []).im = S.im := by
  show imOf s (cutOf S []) = S.im
  refine im_ext s (imOf_len s _ (cut_len h [])) h.len (fun k hk => ?_)
  rw [sec_imOf s _ (cut_len h []) k hk, cut_nil]
theorem PSrc.nil (w : World) : PSrc w none 0 [] := ⟨rfl, fun _ => rfl, (fun x hx => by cases hx), fun q hq => by cases hq⟩
theorem now_flat {S : DS} (h : S.puts = []) (k : Nat) : S.now k = sec S.im k := by simp [DS.now, DS.cand, h, pendOf]

/-- A disk on which nothing is pending, not fused, that holds im. -/
def Calm (w : World) (F : Nat → Prop) (p s : Nat) (im : List Int) : Prop := ∃ S, DiskAt w F p s S ∧ S.im = im ∧ S.puts = [] ∧ S.fuse = -1

theorem Calm.keep {w w' : World} {F G : Nat → Prop} {p s : Nat} {im : List Int} (h : Calm w F p s im) (hk : Keeps G w w') (hd : ∀ k, F k → ¬ G k) : Calm w' F p s im := by
  obtain ⟨S, h1, h2⟩ := h
  exact ⟨S, h1.keep hk hd, h2⟩
theorem Calm.read {w : World} {F : Nat → Prop} {p s : Nat} {im : List Int} (h : Calm w F p s im) (k : Nat) (hk : k < s) :
    Calls Try.prog 15 #[.pointer (some ⟨p, 0, none⟩), .int .i64 (k : Int)] w fun e w' => ∃ g c, e = .returned (.tuple #[.slice (some ⟨g, 0, none⟩) 512 c, .int .i64 0]) ∧ w.heap.size ≤ g ∧ Src w' (some ⟨g, 0, none⟩) 512 (sec im k) ∧ Calm w' F p s im ∧ Keeps F w w' := by
  obtain ⟨S, h1, h2, h3, h4⟩ := h
  refine (read_ok h1 k (by rw [h4]; decide) hk (by rw [h3]; simp)).mono ?_
  rintro e w' ⟨g, c, rfl, hg, hr, hd, hke⟩
  have hsr := hr.src
  rw [now_len h1.ok k hk, now_flat h3, h2] at hsr
  exact ⟨g, c, rfl, hg, hsr, ⟨S.read, hd, h2, h3, h4⟩, hke⟩

theorem Calm.image {w : World} {F : Nat → Prop} {p s : Nat} {im : List Int} (h : Calm w F p s im) :
    Calls Try.prog 18 #[.pointer (some ⟨p, 0, none⟩)] w fun e w' => ∃ g c, e = .returned (.slice (some ⟨g, 0, none⟩) (s * 512) c) ∧ RowAt w' 5 g c (bs im) ∧ Below w.heap.size w w' ∧ w.heap.size ≤ g := by
  obtain ⟨S, h1, h2, _⟩ := h
  refine (image_any _ _ _ _ _ h1).mono ?_
  rintro e w' ⟨g, c, rfl, hg, hr, hb⟩
  rw [h2] at hr
  exact ⟨g, c, rfl, hr, hb, hg⟩

/-- The two disks, and the image that was told. -/
structure Re (w0 w : World) (F F' : Nat → Prop) (p p' s g c : Nat) (im : List Int) : Prop where
  one : Calm w F p s im
  two : Calm w F' p' s im
  src : Src w (some ⟨g, 0, none⟩) (s * 512) im
  bel : Below w0.heap.size w0 w

structure Sets (w0 : World) (F F' : Nat → Prop) (g : Nat) : Prop where
  dis : ∀ k, F k → ¬ F' k
  lo : ∀ k, F k → w0.heap.size ≤ k
  lo' : ∀ k, F' k → w0.heap.size ≤ k
  ng : ¬ F g
  ng' : ¬ F' g

theorem Src.keepsG {w w' : World} {g n : Nat} {l : List Int} {F : Nat → Prop} (h : Src w (some ⟨g, 0, none⟩) n l) (hk : Keeps F w w') (hg : ¬ F g) : Src w' (some ⟨g, 0, none⟩) n l :=
  ⟨h.1, h.2.1, fun x hx i hi => by
    have h1 := h.2.2 x hx i hi
    have hb := World.block_lt_of_cell? _ _ h1
    refine (World.cell?_of_block (w := w) (hk.block _ hb (fun hf => ?_))).trans h1
    cases hx
    rw [addr_add] at hf
    exact hg hf⟩

theorem Re.readTwo {w0 w : World} {F F' : Nat → Prop} {p p' s g c : Nat} {im : List Int} (h : Re w0 w F F' p p' s g c im) (hs : Sets w0 F F' g) (k : Nat) (hk : k < s) :
    Calls Try.prog 15 #[.pointer (some ⟨p', 0, none⟩), .int .i64 (k : Int)] w fun e w' => ∃ g1 c1, e = .returned (.tuple #[.slice (some ⟨g1, 0, none⟩) 512 c1, .int .i64 0]) ∧ w.heap.size ≤ g1 ∧ Src w' (some ⟨g1, 0, none⟩) 512 (sec im k) ∧ Re w0 w' F F' p p' s g c im ∧ ∀ j, F j → j < w.heap.size := by
  obtain ⟨S, hS, _⟩ := h.one
  refine (h.two.read k hk).mono ?_
  rintro e w' ⟨g1, c1, rfl, hg, hsr, hc, hke⟩
  exact ⟨g1, c1, rfl, hg, hsr, ⟨h.one.keep hke (fun j hf hf' => hs.dis j hf hf'), hc, h.src.keepsG hke hs.ng', h.bel.trans (hke.below hs.lo' h.bel.size)⟩, hS.lt⟩
theorem Re.readOne {w0 w : World} {F F' : Nat → Prop} {p p' s g c : Nat} {im : List Int} (h : Re w0 w F F' p p' s g c im) (hs : Sets w0 F F' g) (k : Nat) (hk : k < s) :
    Calls Try.prog 15 #[.pointer (some ⟨p, 0, none⟩), .int .i64 (k : Int)] w fun e w' => ∃ g1 c1, e = .returned (.tuple #[.slice (some ⟨g1, 0, none⟩) 512 c1, .int .i64 0]) ∧ w.heap.size ≤ g1 ∧ Src w' (some ⟨g1, 0, none⟩) 512 (sec im k) ∧ Re w0 w' F F' p p' s g c im ∧ Keeps F w w' := by
  refine (h.one.read k hk).mono ?_
  rintro e w' ⟨g1, c1, rfl, hg, hsr, hc, hke⟩
  exact ⟨g1, c1, rfl, hg, hsr, ⟨hc, h.two.keep hke (fun j hf' hf => hs.dis j hf hf'), h.src.keepsG hke hs.ng, h.bel.trans (hke.below hs.lo h.bel.size)⟩, hke⟩
theorem Re.later {w0 w w' : World} {F F' : Nat → Prop} {p p' s g c : Nat} {im : List Int} (h : Re w0 w F F' p p' s g c im) (hb : Below w.heap.size w w') : Re w0 w' F F' p p' s g c im :=
  ⟨h.one.keep (Keeps.of_below (fun _ => False) hb) (fun _ _ h => h), h.two.keep (Keeps.of_below (fun _ => False) hb) (fun _ _ h => h), h.src.later hb, h.bel.trans (hb.mono h.bel.size)⟩

end Go.Proofs.Ytkkmkogpbhcpmaa
