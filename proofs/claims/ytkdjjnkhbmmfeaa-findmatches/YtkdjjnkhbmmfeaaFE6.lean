import Derived.Test.YtkdjjnkhbmmfeaaFE5
import Derived.Deep.CutBlock
import Derived.Lib.AppendZeros
import Derived.Deep.DeepCutAuto
namespace Go.Proofs.Ytkdjjnkhbmmfeaa
open Go.RowKit Go.Maps

/-- What the document's Pieces comes to. -/
def PiecesO (w w' : World) (e : Ending) : Option (List Pc) → Prop
  | none => e = .returned (.tuple #[.slice none 0 0, .int .i64 190])
  | some ps => ∃ v, e = .returned (.tuple #[v, .int .i64 0]) ∧ DSv w' w.heap.size v ps
/-- What holds while the pieces are read. -/
structure PcI (s : ByteArray) (w wr : World) (r : List Int) (ps : List Pc) (v : Value) (a : Nat) : Prop where
  pos : a + r.length = s.size
  cnt : ps.length ≤ a
  row : DSv wr w.heap.size v ps
  bel : Below w.heap.size w wr
  suf : r <:+ ub s.data.toList
  fin : patP (ub s.data.toList) = (patP r).map (ps ++ ·)
theorem PcI.drop {s : ByteArray} {w wr : World} {r : List Int} {ps : List Pc} {v : Value} {a : Nat} (h : PcI s w wr r ps v a) : (ub s.data.toList).drop a = r := pos_drop h.suf h.pos
theorem DSv.form {w : World} {B : Nat} {v : Value} {ps : List Pc} (h : DSv w B v ps) : ∃ a n c, v = .slice a n c := by
  obtain ⟨qs, ⟨_, h1⟩, _⟩ := h
  rcases h1 with ⟨rfl, _⟩ | ⟨g, cap, cur, rfl, _⟩
  · exact ⟨_, _, _, rfl⟩
  · exact ⟨_, _, _, rfl⟩
theorem PcI.bad {s : ByteArray} {w wr : World} {b : Int} {l : List Int} {ps : List Pc} {v : Value} {a : Nat} (h : PcI s w wr (b :: l) ps v a) (hp : pieceP (b :: l) = none) : patP (ub s.data.toList) = none := by
  rw [h.fin, pat_none hp]
  rfl
/-- One more piece is read. -/
theorem PcI.step {s : ByteArray} {w wr w2 : World} {b : Int} {l m : List Int} {ps : List Pc} {v : Value} {a a2 : Nat} (h : PcI s w wr (b :: l) ps v a) (hb : Below wr.heap.size wr w2) {k c : Int} {f : Int → Bool} {p : Pc} (hp : pieceP (b :: l) = some (p, m)) (hr : PR k c f p) (hm : m <:+ ub s.data.toList) (ha : a2 + m.length = s.size) (hlt : a < a2) (hs : s.size ≤ 1000) :
    ∃ g cap w', (Builtin.append_ #[47, 47] 47 #[v, .slice (some ⟨w2.heap.size, 0, none⟩) 1 1]).run Try.prog (w2.alloc (.cells (pd k c f).toArray 74)) = .ok (.slice (some ⟨g, 0, none⟩) (ps.length + 1) cap) w' ∧ PcI s w w' m (ps ++ [p]) (.slice (some ⟨g, 0, none⟩) (ps.length + 1) cap) a2 := by
  have h1 := h.bel.size
  have h2 := hb.size
  obtain ⟨g, cap, w', r1, r2, r3⟩ := (h.row.later hb).push (by have := h.cnt; have := h.pos; omega) (by omega) k c f p hr
  refine ⟨g, cap, w', r1, ha, by have := h.cnt; simp; omega, r2, ?_, hm, ?_⟩
  · exact (h.bel.trans (hb.mono h1)).trans (r3.low (by omega) (fun k e => e))
  · rw [h.fin, pat_cons hp]
    cases patP m with
    | none => rfl
    | some z => simp
theorem took_suf {m : List Int} {x : Int} : (tookP m x).2 <:+ m := by
  cases h : (tookP m x).1 with
  | true => exact ⟨[x], (took_true h).symm⟩
  | false => rw [took_false h]; exact List.suffix_refl _
theorem mem_suf {l m : List Int} {q : Int × Int} (h : memP l = some (q, m)) : m <:+ l := by
  unfold memP at h
  cases hu : unitP l with
  | none => rw [hu] at h; cases h
  | some u =>
    obtain ⟨a, n⟩ := u
    rw [hu] at h
    dsimp only at h
    have h1 := (unit_in hu).2
    split at h
    · cases hu2 : unitP (tookP n 45).2 with
      | none => rw [hu2] at h; cases h
      | some u2 =>
        obtain ⟨b, n2⟩ := u2
        rw [hu2] at h
        dsimp only at h
        split at h
        · cases h
        · cases h
          exact ((unit_in hu2).2.trans took_suf).trans h1
    · cases h
      exact took_suf.trans h1
theorem mems_suf : ∀ (f : Nat) (l m : List Int) (ms : List (Int × Int)), memsP f l = some (ms, m) → m <:+ l
  | 0, _, _, _, h => by cases h
  | f + 1, l, m, ms, h => by
    unfold memsP at h
    cases hm : memP l with
    | none => rw [hm] at h; cases h
    | some q =>
      obtain ⟨p, n⟩ := q
      rw [hm] at h
      dsimp only at h
      have h1 := mem_suf hm
      split at h
      · cases h
        exact took_suf.trans h1
      · cases hr : memsP f (tookP n 93).2 with
        | none => rw [hr] at h; cases h
        | some z =>
          obtain ⟨z1, z2⟩ := z
          rw [hr] at h
          cases h
          exact ((mems_suf f _ _ _ hr).trans took_suf).trans h1
theorem set_suf {l m : List Int} {p : Pc} (h : setP l = some (p, m)) : m <:+ l := by
  unfold setP at h
  cases hr : memsP (tookP l 33).2.length (tookP l 33).2 with
  | none => rw [hr] at h; cases h
  | some z =>
    obtain ⟨z1, z2⟩ := z
    rw [hr] at h
    cases h
    exact (mems_suf _ _ _ _ hr).trans took_suf
/-- What holds while stars are passed. -/
structure StI (s : ByteArray) (l r : List Int) (a a2 : Nat) (k : Int) : Prop where
  pos : a2 + r.length = s.size
  low : a + 1 ≤ a2
  suf : r <:+ ub s.data.toList
  kk : k = 3 ∨ k = 4
  two : (starsL l).2 = (starsL r).2
  one : (starsL l).1 = (decide (k = 4) || (starsL r).1)
theorem StI.go {s : ByteArray} {l r : List Int} {a a2 : Nat} {k : Int} (h : StI s l (42 :: r) a a2 k) : StI s l r a (a2 + 1) 4 := by
  have e : starsL (42 :: r) = (true, (starsL r).2) := by simp [starsL]
  refine ⟨?_, ?_, List.IsSuffix.trans ⟨[42], rfl⟩ h.suf, .inr rfl, ?_, ?_⟩
  · have := h.pos; simp only [List.length_cons] at this; omega
  · have := h.low; omega
  · rw [h.two, e]
  · rw [h.one, e]; simp
theorem StI.stop {s : ByteArray} {l r : List Int} {a a2 : Nat} {k : Int} (h : StI s l r a a2 k) (he : starsL r = (false, r)) : starsL l = (decide (k = 4), r) := by
  have h1 := h.one
  have h2 := h.two
  rw [he] at h1 h2
  rw [Bool.or_false] at h1
  exact Prod.ext h1 h2
theorem StI.piece {s : ByteArray} {l r : List Int} {a a2 : Nat} {k : Int} (h : StI s l r a a2 k) : PR k 0 noB ⟨[], true, decide (k = 4), true⟩ := by
  rcases h.kk with rfl | rfl
  · exact PR.star 0 noB
  · exact PR.all 0 noB
theorem wpList_buildF {ops : Array Oper} {rest : List Oper} {o : Oper} {a : Act} {w : World} {Q : Exit → Act → World → Prop} (hg : o.guard = none) (x : Operand) (ho : o.op = .buildSlice 47 1 #[(0, x)]) (F : Array Value) (hv : a.eval x = .agg F) (hF : F.size = 258)
    (h : wpList Try.prog ops Q rest (a.put o.dst (.slice (some ⟨w.heap.size, 0, none⟩) 1 1)) (w.alloc (.cells F 74))) : wpList Try.prog ops Q (o :: rest) a w := by
  obtain ⟨i0, hi, hz0, hz1, _⟩ := info_parts infoPd
  exact wpList_build1 hg 47 74 x ho (.agg F) hv Try.underlying47 hi hz0 hz1 (by decide) (by decide) hF h
set_option maxRecDepth 20000 in
set_option maxHeartbeats 64000000 in
theorem pieces_any (s : ByteArray) (w : World) (hs : s.size ≤ 255) : Calls Try.prog 24 #[.string s] w fun e w' => PiecesO w w' e (patP (ub s.data.toList)) ∧ Below w.heap.size w w' := by
  have HI0 : Hid (PcI s w w (ub s.data.toList) [] (.slice none 0 0) 0) := Hid.mk ⟨by rw [ub_len, len_size]; omega, Nat.le_refl _, DSv.nil _ _, Below.refl _ _, List.suffix_refl _, by cases patP (ub s.data.toList) <;> simp⟩
  have HNo : ∀ wr, Below w.heap.size w wr → patP (ub s.data.toList) = none → Hid (PiecesO w wr (.returned (.tuple #[.slice none 0 0, .int .i64 190])) (patP (ub s.data.toList)) ∧ Below w.heap.size w wr) := fun wr hb h => Hid.mk ⟨by rw [h]; rfl, hb⟩
  go_enter Try.func24, Try.ntmps24
  go_wp2_with fail
  go_loopw [4, 5] (fun v4 v5 wr => ∃ r ps a, v5 = .int .i64 ((a : Nat) : Int) ∧ Hid (PcI s w wr r ps v4 a)) (fun _ v5 _ => s.size - (intOf v5).toNat)
  case atStart => exact ⟨_, [], 0, rfl, HI0⟩
  case round =>
    obtain ⟨r, ps, a, rfl, HI⟩ := hrel
    clear HI0
    have hpos := HI.out.pos
    have hdr := HI.out.drop
    obtain ⟨va, vn, vc, hv⟩ := HI.out.row.form
    subst hv
    match r, HI, hpos, hdr with
    | [], HI, hpos, hdr =>
      have hge : ¬ (a : Int) < (s.size : Int) := by simp only [List.length_nil] at hpos; omega
      have HF : Hid (PiecesO w wr (.returned (.tuple #[.slice va vn vc, .int .i64 0])) (patP (ub s.data.toList)) ∧ Below w.heap.size w wr) := Hid.mk ⟨by
        rw [HI.out.fin, pat_nil]
        exact ⟨_, rfl, by show DSv wr _ _ (ps ++ []); rw [List.append_nil]; exact HI.out.row⟩, HI.out.bel⟩
      clear hpos hdr HNo HI
      go_wp2
      go_ret2
      exact HF.out
    | b :: l, HI, hpos, hdr =>
      obtain ⟨h1, h2, h3, h4, h5⟩ := txt_at hdr
      have hlt : (a : Int) < (s.size : Int) := by omega
      have hasz : (a : Int) ≤ 255 := by omega
      have hsuf : l <:+ ub s.data.toList := List.IsSuffix.trans ⟨[b], rfl⟩ HI.out.suf
      by_cases e1 : b = 92
      · have q1 : (b == 92) = true := by simp [e1]
        match l, HI, hpos, hdr, h5, hsuf with
        | [], HI, hpos, hdr, h5, hsuf =>
          have hge : (s.size : Int) ≤ (a : Int) + 1 := by simp only [List.length_cons, List.length_nil] at hpos; omega
          have HF := HNo wr HI.out.bel (HI.out.bad (by simp [pieceP, e1]))
          clear HNo HI hpos hdr h1 h3 h4 h5 hsuf e1
          go_wp2
          go_ret2
          exact HF.out
        | c :: m, HI, hpos, hdr, h5, hsuf =>
          obtain ⟨g1, g2, g3, g4, g5⟩ := txt_at h5
          have hlt2 : ¬ (s.size : Int) ≤ (a : Int) + 1 := by omega
          have hlt3 : (a : Int) + 1 < (s.size : Int) := by omega
          have hsf2 : m <:+ ub s.data.toList := List.IsSuffix.trans ⟨[c], rfl⟩ hsuf
          have hpc : pieceP (b :: c :: m) = some (onlyP c, m) := by simp [pieceP, e1]
          simp only [List.length_cons] at hpos
          obtain ⟨g, cap, w3, hrun, hI3⟩ := HI.out.step (k := 1) (c := c) (f := noB) (p := onlyP c) (m := m) (a2 := a + 2) (Below.refl _ _) hpc (PR.only c noB) hsf2 (by omega) (by omega) (by omega)
          obtain ⟨F, hF⟩ : ∃ F, F = (pd (1) (c) noB).toArray := ⟨_, rfl⟩
          rw [← hF] at hrun
          have hFs : F.size = 258 := by rw [hF]; simp [pd_len]
          have HF := Hid.mk hF
          have HN := Hid.mk hI3
          have hps := HI.out.cnt
          have hpl : (ps.length : Int) ≤ 255 := by omega
          clear hF hI3 HI hdr hpos h1 h3 h4 h5 HNo hps g1 g3 g4 g5 hsuf hsf2 hpc e1
          go_wp2_with (first | (refine wpList_build_pd2 rfl _ _ rfl (1) (c) rfl rfl F HF.out ?_; (try simp only [Act.put, List.setIfInBounds_toArray, List.set_cons_zero, List.set_cons_succ])) | (refine wpList_buildF rfl _ rfl F rfl hFs ?_; (try simp only [Act.put, List.setIfInBounds_toArray, List.set_cons_zero, List.set_cons_succ])) | (at_builtin; refine Lib.wpList_append_run _ rfl _ _ _ _ rfl _ _ rfl rfl _ _ hrun ?_))
          go_roundw
          case rel => exact ⟨m, ps ++ [onlyP c], a + 2, by go_num, HN⟩
          case measure => simp [intOf]; omega
      · have q1 : (b == 92) = false := by simp [e1]
        simp only [List.length_cons] at hpos
        by_cases e2 : b = 63
        · have q2 : (b == 63) = true := by simp [e2]
          have hpc : pieceP (b :: l) = some (⟨[], true, false, false⟩, l) := by simp [pieceP, e2]
          obtain ⟨g, cap, w3, hrun, hI3⟩ := HI.out.step (k := 2) (c := 0) (f := noB) (p := ⟨[], true, false, false⟩) (m := l) (a2 := a + 1) (Below.refl _ _) hpc (PR.one 0 noB) hsuf (by omega) (by omega) (by omega)
          obtain ⟨F, hF⟩ : ∃ F, F = (pd (2) (0) noB).toArray := ⟨_, rfl⟩
          rw [← hF] at hrun
          have hFs : F.size = 258 := by rw [hF]; simp [pd_len]
          have HF := Hid.mk hF
          have HN := Hid.mk hI3
          have hps := HI.out.cnt
          have hpl : (ps.length : Int) ≤ 255 := by omega
          clear hF hI3 HI hdr hpos h1 h3 h4 h5 HNo hps hsuf hpc e1 e2
          go_wp2_with (first | (refine wpList_build_pd1 rfl _ rfl (2) rfl F HF.out ?_; (try simp only [Act.put, List.setIfInBounds_toArray, List.set_cons_zero, List.set_cons_succ])) | (refine wpList_buildF rfl _ rfl F rfl hFs ?_; (try simp only [Act.put, List.setIfInBounds_toArray, List.set_cons_zero, List.set_cons_succ])) | (at_builtin; refine Lib.wpList_append_run _ rfl _ _ _ _ rfl _ _ rfl rfl _ _ hrun ?_))
          go_roundw
          case rel => exact ⟨l, ps ++ [⟨[], true, false, false⟩], a + 1, by go_num, HN⟩
          case measure => simp [intOf]; omega
        · have q2 : (b == 63) = false := by simp [e2]
          by_cases e3 : b = 42
          · have q3 : (b == 42) = true := by simp [e3]
            have hS0 : Hid (StI s l l a (a + 1) 3) := Hid.mk ⟨by omega, Nat.le_refl _, hsuf, .inl rfl, rfl, by simp⟩
            have hpc : Hid (∀ kk r2, starsL l = (decide (kk = (4 : Int)), r2) → pieceP (b :: l) = some (⟨[], true, decide (kk = (4 : Int)), true⟩, r2)) := Hid.mk (fun kk r2 h => by simp [pieceP, e3, h])
            clear hdr hpos h1 h3 h4 h5 HNo hsuf e1 e2 e3
            rename World => wo
            go_upto_block 3 with fail
            go_cut [5, 6] (fun v5 v6 wx => ∃ (r2 : List Int) (a2 : Nat) (kk : Int), v5 = .int .i64 (a2 : Int) ∧ v6 = .int .i64 kk ∧ wx = wo ∧ Hid (StI s l r2 a a2 kk ∧ starsL r2 = (false, r2)))
            case first =>
              go_wp2_with fail
              go_loopw [5, 6] (fun v5 v6 wr => ∃ (r2 : List Int) (a2 : Nat) (kk : Int), v5 = .int .i64 (a2 : Int) ∧ v6 = .int .i64 kk ∧ wr = wo ∧ Hid (StI s l r2 a a2 kk)) (fun v5 _ _ => s.size - (intOf v5).toNat)
              case atStart => exact ⟨l, a + 1, 3, by go_num, rfl, rfl, hS0⟩
              case round =>
                obtain ⟨r2, a2, kk, rfl, rfl, hww, HS⟩ := hrel
                subst hww
                clear hS0
                have hp2 := HS.out.pos
                have hd2 := pos_drop HS.out.suf HS.out.pos
                match r2, HS, hp2, hd2 with
                | [], HS, hp2, hd2 =>
                  have hge : ¬ (a2 : Int) < (s.size : Int) := by simp only [List.length_nil] at hp2; omega
                  clear hp2 hd2
                  go_wp2
                  go_meet
                  exact ⟨[], a2, kk, rfl, rfl, rfl, Hid.mk ⟨HS.out, rfl⟩⟩
                | c :: r3, HS, hp2, hd2 =>
                  obtain ⟨g1, g2, g3, g4, g5⟩ := txt_at hd2
                  have hlt2 : (a2 : Int) < (s.size : Int) := by omega
                  by_cases e : c = 42
                  · subst e
                    have HN := Hid.mk HS.out.go
                    have ha2 : (a2 : Int) ≤ 255 := by omega
                    clear hp2 hd2 g1 g3 g4 g5
                    go_wp2
                    go_roundw
                    case rel => exact ⟨r3, a2 + 1, 4, by go_num, rfl, trivial, HN⟩
                    case measure => simp [intOf]; omega
                  · have q5 : (c == 42) = false := by simp [e]
                    have HE : Hid (starsL (c :: r3) = (false, c :: r3)) := Hid.mk (by simp [starsL, e])
                    clear hp2 hd2 g1 g3 g4 g5 e
                    go_wp2
                    go_meet
                    exact ⟨c :: r3, a2, kk, rfl, rfl, rfl, Hid.mk ⟨HS.out, HE.out⟩⟩
            case rest =>
              obtain ⟨r2, a2, kk, rfl, rfl, hww, HS⟩ := hcut
              have hww' := hww.symm
              subst hww'
              clear hww
              obtain ⟨g, cap, w3, hrun, hI3⟩ := HI.out.step (k := kk) (c := 0) (f := noB) (p := ⟨[], true, decide (kk = 4), true⟩) (m := r2) (a2 := a2) (Below.refl _ _) (hpc.out kk r2 (HS.out.1.stop HS.out.2)) HS.out.1.piece HS.out.1.suf HS.out.1.pos (by have := HS.out.1.low; omega) (by omega)
              obtain ⟨F, hF⟩ : ∃ F, F = (pd kk 0 noB).toArray := ⟨_, rfl⟩
              rw [← hF] at hrun
              have hFs : F.size = 258 := by rw [hF]; simp [pd_len]
              have HF := Hid.mk hF
              have HN := Hid.mk hI3
              have hlo := HS.out.1.low
              have hpo := HS.out.1.pos
              have hps := HI.out.cnt
              have hpl : (ps.length : Int) ≤ 255 := by omega
              clear hF hI3 HI hps hS0 hpc HS
              go_wp2_with (first | (refine wpList_build_pd1 rfl _ rfl kk rfl F HF.out ?_; (try simp only [Act.put, List.setIfInBounds_toArray, List.set_cons_zero, List.set_cons_succ])) | (refine wpList_buildF rfl _ rfl F rfl hFs ?_; (try simp only [Act.put, List.setIfInBounds_toArray, List.set_cons_zero, List.set_cons_succ])) | (at_builtin; refine Lib.wpList_append_run _ rfl _ _ _ _ rfl _ _ rfl rfl _ _ hrun ?_))
              go_roundw
              case rel => exact ⟨r2, ps ++ [⟨[], true, decide (kk = 4), true⟩], a2, by go_num, HN⟩
              case measure => simp [intOf]; omega
          · have q3 : (b == 42) = false := by simp [e3]
            by_cases e4 : b = 91
            · have q4 : (b == 91) = true := by simp [e4]
              have ks := sets_any s a wr (by omega) (by omega)
              rw [h5] at ks
              have hz := zeroPd
              cases hsp : setP l with
              | none =>
                rw [hsp] at ks
                have HF : ∀ w2, Below wr.heap.size wr w2 → Hid (PiecesO w w2 (.returned (.tuple #[.slice none 0 0, .int .i64 190])) (patP (ub s.data.toList)) ∧ Below w.heap.size w w2) := fun w2 hb => HNo w2 (HI.out.bel.trans (hb.mono HI.out.bel.size)) (HI.out.bad (by simp [pieceP, e4, hsp]))
                clear HNo HI hpos hdr h1 h3 h4 h5 hsuf e1 e2 e3 e4 hsp
                go_wp2_with fail
                refine ks.mono ?_
                rintro e w2 ⟨⟨f, rfl⟩, hb2⟩
                obtain ⟨G, hG⟩ : ∃ G, G = pd 5 0 f := ⟨_, rfl⟩
                rw [← hG]
                have hGs : G.toArray.size = 258 := by rw [hG]; simp [pd_len]
                have hGi : (Try.prog.info? 74).map (·.size) = some G.toArray.size := by rw [sizePd, hGs]
                have hG1 : G.toArray.all (·.oneCell') = true := all_oneCell_toArray (by rw [hG]; exact pd_one 5 0 f)
                have hth := Hid.mk (PB.zero w2).there
                have HE := HF ((w2.alloc (.cells zpd 74)).setCells w2.heap.size 0 G) (by
                  have hb3 : Below wr.heap.size wr (w2.alloc (.cells zpd 74)) := hb2.alloc hb2.size _
                  exact hb3.trans ((Keeps.setCells (F := fun j => j = w2.heap.size) rfl G 0 _).below (fun j hj => by have := hb2.size; omega) hb3.size))
                clear HF ks hb2 hG
                go_wp2_with (refine wpList_store_mid rfl 74 _ _ rfl w2.heap.size 0 G.toArray rfl rfl (by rw [hGs]; exact hth.out) hGi hG1 ?_)
                go_ret2
                exact HE.out
              | some q =>
                obtain ⟨p, m⟩ := q
                rw [hsp] at ks
                have hmf : m <:+ ub s.data.toList := (set_suf hsp).trans hsuf
                have hml := (set_suf hsp).length_le
                have hpc : Hid (pieceP (b :: l) = some (p, m)) := Hid.mk (by simp [pieceP, e4, hsp])
                obtain ⟨a2, ha2⟩ : ∃ a2, a2 = s.size - m.length := ⟨_, rfl⟩
                have hap2 : a2 + m.length = s.size := by omega
                have haa : a < a2 := by omega
                have HM := Hid.mk (And.intro hmf (And.intro hap2 haa))
                have hn0 : ((a2 : Int) == 0) = false := by simp; omega
                replace ks : Calls Try.prog 31 #[.string s, .int .i64 (a : Int)] wr fun e w' => Hid (∃ f, e = .returned (.tuple #[.agg (pd 5 0 f).toArray, .int .i64 (a2 : Int)]) ∧ PR 5 0 f p) ∧ Below wr.heap.size wr w' := ks.mono (fun e w' h => ⟨Hid.mk (by obtain ⟨⟨f, h1, h2⟩, _⟩ := h; exact ⟨f, by rw [ha2]; exact h1, h2⟩), h.2⟩)
                clear HNo hpos hdr h1 h3 h4 h5 hsuf e1 e2 e3 e4 hsp hmf hml ha2 hap2
                go_wp2_with fail
                refine ks.mono ?_
                rintro e w2 ⟨hks, hb2⟩
                obtain ⟨f, rfl, hpr⟩ := hks.out
                clear hks
                have hz2 := hb2.size
                obtain ⟨G, hG⟩ : ∃ G, G = pd 5 0 f := ⟨_, rfl⟩
                have hGs : G.toArray.size = 258 := by rw [hG]; simp [pd_len]
                have hGi : (Try.prog.info? 74).map (·.size) = some G.toArray.size := by rw [sizePd, hGs]
                have hGl : (Try.prog.info? 74).map (·.size) = some G.length := by rw [hG]; exact sizePdL 5 0 f
                have hG1 : G.toArray.all (·.oneCell') = true := all_oneCell_toArray (by rw [hG]; exact pd_one 5 0 f)
                have hth := Hid.mk (PB.zero w2).there
                have hb3 : Below wr.heap.size wr (w2.alloc (.cells zpd 74)) := hb2.alloc hz2 _
                have hb4 : Below wr.heap.size wr ((w2.alloc (.cells zpd 74)).setCells w2.heap.size 0 G) := hb3.trans ((Keeps.setCells (F := fun j => j = w2.heap.size) rfl G 0 _).below (fun j hj => by omega) hb3.size)
                have hrg : Hid (((w2.alloc (.cells zpd 74)).setCells w2.heap.size 0 G).rangeAt w2.heap.size 0 G) := Hid.mk (by rw [hG]; exact ((PB.zero w2).store 5 0 f).range)
                obtain ⟨W, hW⟩ : ∃ W, W = (w2.alloc (.cells zpd 74)).setCells w2.heap.size 0 G := ⟨_, rfl⟩
                rw [← hW] at hb4 hrg
                obtain ⟨g, cap, w3, hrun, hI3⟩ := HI.out.step (k := 5) (c := 0) (f := f) (p := p) (m := m) (a2 := a2) hb4 hpc.out hpr HM.out.1 HM.out.2.1 haa (by omega)
                rw [← hG] at hrun ⊢
                have HW := Hid.mk hW
                have HN := Hid.mk hI3
                have hps := HI.out.cnt
                have hpl : (ps.length : Int) ≤ 255 := by omega
                have hal : (a2 : Int) ≤ 255 := by have := HM.out.2.1; omega
                clear ks hb2 hG hb3 hb4 hW hI3 HI hps hpr hpc hz2
                go_upto_if 80 with (refine wpList_store_mid rfl 74 _ _ rfl w2.heap.size 0 G.toArray rfl rfl (by rw [hGs]; exact hth.out) hGi hG1 ?_)
                rw [← HW.out]
                clear hz
                go_wp2_with (first | (refine wpList_load_mid rfl 74 _ rfl w2.heap.size 0 rfl G _ hrg.out Try.underlying74 rfl hGl ?_; (try simp only [Act.put, List.setIfInBounds_toArray, List.set_cons_zero, List.set_cons_succ])) | (refine wpList_buildF rfl _ rfl G.toArray rfl hGs ?_; (try simp only [Act.put, List.setIfInBounds_toArray, List.set_cons_zero, List.set_cons_succ])) | (at_builtin; refine Lib.wpList_append_run _ rfl _ _ _ _ rfl _ _ rfl rfl _ _ hrun ?_))
                go_roundw
                case rel => exact ⟨m, ps ++ [p], a2, by go_num, HN⟩
                case measure => simp [intOf]; omega
            · have q4 : (b == 91) = false := by simp [e4]
              have hpc : pieceP (b :: l) = some (onlyP b, l) := by simp [pieceP, e1, e2, e3, e4]
              obtain ⟨g, cap, w3, hrun, hI3⟩ := HI.out.step (k := 1) (c := b) (f := noB) (p := onlyP b) (m := l) (a2 := a + 1) (Below.refl _ _) hpc (PR.only b noB) hsuf (by omega) (by omega) (by omega)
              obtain ⟨F, hF⟩ : ∃ F, F = (pd (1) (b) noB).toArray := ⟨_, rfl⟩
              rw [← hF] at hrun
              have hFs : F.size = 258 := by rw [hF]; simp [pd_len]
              have HF := Hid.mk hF
              have HN := Hid.mk hI3
              have hps := HI.out.cnt
              have hpl : (ps.length : Int) ≤ 255 := by omega
              clear hF hI3 HI hdr hpos h1 h3 h4 h5 HNo hps hsuf hpc e1 e2 e3 e4
              go_wp2_with (first | (refine wpList_build_pd2 rfl _ _ rfl (1) (b) rfl rfl F HF.out ?_; (try simp only [Act.put, List.setIfInBounds_toArray, List.set_cons_zero, List.set_cons_succ])) | (refine wpList_buildF rfl _ rfl F rfl hFs ?_; (try simp only [Act.put, List.setIfInBounds_toArray, List.set_cons_zero, List.set_cons_succ])) | (at_builtin; refine Lib.wpList_append_run _ rfl _ _ _ _ rfl _ _ rfl rfl _ _ hrun ?_))
              go_roundw
              case rel => exact ⟨l, ps ++ [onlyP b], a + 1, by go_num, HN⟩
              case measure => simp [intOf]; omega
end Go.Proofs.Ytkdjjnkhbmmfeaa
