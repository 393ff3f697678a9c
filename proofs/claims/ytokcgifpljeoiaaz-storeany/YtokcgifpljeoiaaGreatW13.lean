import Derived.Test.YtokcgifpljeoiaaGreatW05
import Derived.Test.YtokcgifpljeoiaaGreatW12
section
namespace Go.Proofs.YtokcgifpljeoiaaGreat
open Go.RowKit Go.Maps

/-- A store that is open, in memory. -/
structure StW (w : World) (F : Nat → Prop) (p s cR q l m : Nat) (S : DS) (G : SG) : Prop where
  d : B.DiskR w F p s S cR
  st : StP w q p l m G.y G.busy
  lp : LogP w l p G.L
  ch : Ch w m G.ov
  nq : ¬ F q
  nl : ¬ F l
  nm : ¬ F m
  ql : q ≠ l
  qm : q ≠ m
  lm : l ≠ m
  lk : G.L.Ok s
  bg : G.L.begun = true
  hs : G.y.home + G.y.blocks ≤ s
  kb : ∀ x ∈ G.ov, x.1 < G.y.blocks
/-- A transaction as it lies in memory. -/
abbrev txC (q n : Nat) (T : TG) : Array Value := #[.pointer (some ⟨q, 0, none⟩), .map (some n), .int .i64 T.bad, .bool T.ended]
structure TxW (w : World) (F : Nat → Prop) (q l m t n : Nat) (G : SG) (T : TG) : Prop where
  tx : w.heap[t]? = some (.cells (txC q n T) 114 (0, 0))
  ch : Ch w n T.puts
  nt : ¬ F t
  nn : ¬ F n
  tq : t ≠ q
  tl : t ≠ l
  tm : t ≠ m
  tn : t ≠ n
  nq : n ≠ q
  nl : n ≠ l
  nm : n ≠ m
  kb : ∀ x ∈ T.puts, x.1 < G.y.blocks

section
variable {w w' : World} {F : Nat → Prop} {p s cR q l m t n : Nat} {S : DS} {G : SG} {T : TG}
theorem StW.later (h : StW w F p s cR q l m S G) (hb : Below w.heap.size w w') : StW w' F p s cR q l m S G :=
  ⟨h.d.later hb, h.st.later hb, h.lp.later hb, h.ch.later hb, h.nq, h.nl, h.nm, h.ql, h.qm, h.lm, h.lk, h.bg, h.hs, h.kb⟩
theorem TxW.later (h : TxW w F q l m t n G T) (hb : Below w.heap.size w w') : TxW w' F q l m t n G T :=
  ⟨(hb.block t (lt_there h.tx)).trans h.tx, h.ch.later hb, h.nt, h.nn, h.tq, h.tl, h.tm, h.tn, h.nq, h.nl, h.nm, h.kb⟩
/-- The disk alone was asked. -/
theorem StW.asked {c' : Nat} (h : StW w F p s cR q l m S G) (hd : B.DiskR w' F p s S c') (hk : Keeps F w w') : StW w' F p s c' q l m S G :=
  ⟨hd, h.st.keep hk h.nq, h.lp.keep hk h.nl, h.ch.keep hk h.nm, h.nq, h.nl, h.nm, h.ql, h.qm, h.lm, h.lk, h.bg, h.hs, h.kb⟩
theorem TxW.asked (h : TxW w F q l m t n G T) (hk : Keeps F w w') : TxW w' F q l m t n G T :=
  ⟨(hk.block t (lt_there h.tx) h.nt).trans h.tx, h.ch.keep hk h.nn, h.nt, h.nn, h.tq, h.tl, h.tm, h.tn, h.nq, h.nl, h.nm, h.kb⟩
theorem TxW.c0 (h : TxW w F q l m t n G T) : w.cell? ⟨t, 0, none⟩ = some (.pointer (some ⟨q, 0, none⟩)) := cell_of_block h.tx (j := 0) rfl
theorem TxW.c1 (h : TxW w F q l m t n G T) : w.cell? ⟨t, 1, none⟩ = some (.map (some n)) := cell_of_block h.tx (j := 1) rfl
theorem TxW.c2 (h : TxW w F q l m t n G T) : w.cell? ⟨t, 2, none⟩ = some (.int .i64 T.bad) := cell_of_block h.tx (j := 2) rfl
theorem TxW.c3 (h : TxW w F q l m t n G T) : w.cell? ⟨t, 3, none⟩ = some (.bool T.ended) := cell_of_block h.tx (j := 3) rfl
theorem StW.dead (h : StW w F p s cR q l m S G) : Calls Tryz.prog 54 #[.pointer (some ⟨q, 0, none⟩)] w fun e w' => e = .returned (.bool (G.L.dead S)) ∧ Below w.heap.size w w' := sdead_any h.d h.st h.lp h.lk h.bg

set_option maxRecDepth 20000 in
theorem over_any (h : StW w F p s cR q l m S G) (ht : TxW w F q l m t n G T) :
    Calls Tryz.prog 63 #[.pointer (some ⟨t, 0, none⟩)] w fun e w' => e = .returned (.int .i64 (T.over G S)) ∧ Below w.heap.size w w' := by
  have h1 := h.dead
  have c0 := ht.c0
  unfold TG.over
  go_enter Tryz.func63, Tryz.ntmps63
  cases hd : G.L.dead S
  · rw [hd] at h1
    rw [if_neg (by decide)]
    cases he : T.ended
    · rw [if_neg (by decide)]
      go_wp2_with fail
      refine h1.mono ?_
      rintro e w1 ⟨rfl, hb1⟩
      have c3 := (ht.later hb1).c3
      rw [he] at c3
      go_wp2
      go_ret
      exact ⟨rfl, hb1⟩
    · rw [if_pos rfl]
      go_wp2_with fail
      refine h1.mono ?_
      rintro e w1 ⟨rfl, hb1⟩
      have c3 := (ht.later hb1).c3
      rw [he] at c3
      go_wp2
      go_ret
      exact ⟨rfl, hb1⟩
  · rw [hd] at h1
    rw [if_pos rfl]
    go_wp2_with fail
    refine h1.mono ?_
    rintro e w1 ⟨rfl, hb1⟩
    go_wp2
    go_ret
    exact ⟨rfl, hb1⟩
set_option maxRecDepth 20000 in
theorem state_any (h : StW w F p s cR q l m S G) (ht : TxW w F q l m t n G T) :
    Calls Tryz.prog 58 #[.pointer (some ⟨t, 0, none⟩)] w fun e w' => e = .returned (.int .i64 (T.state G S)) ∧ Below w.heap.size w w' := by
  have h1 := over_any h ht
  unfold TG.state
  generalize T.over G S = E at *
  go_enter Tryz.func58, Tryz.ntmps58
  by_cases k : E = 0
  · have d : (E != 0) = false := by rw [k]; rfl
    rw [if_neg (fun h => h k)]
    go_wp2_with fail
    refine h1.mono ?_
    rintro e w1 ⟨rfl, hb1⟩
    have c2 := (ht.later hb1).c2
    go_wp2
    go_ret
    exact ⟨rfl, hb1⟩
  · have d : (E != 0) = true := by rw [bne_iff_ne]; exact k
    rw [if_pos k]
    go_wp2_with fail
    refine h1.mono ?_
    rintro e w1 ⟨rfl, hb1⟩
    go_wp2
    go_ret
    exact ⟨rfl, hb1⟩
set_option maxRecDepth 20000 in
theorem refusal_tx (h : StW w F p s cR q l m S G) (ht : TxW w F q l m t n G T) (b : Int) :
    Calls Tryz.prog 55 #[.pointer (some ⟨t, 0, none⟩), .int .i64 b] w fun e w' => e = .returned (.int .i64 (T.refusal G S b)) ∧ Below w.heap.size w w' := by
  have h1 := state_any h ht
  have HS := h.st
  unfold TG.refusal
  generalize T.state G S = E at *
  go_enter Tryz.func55, Tryz.ntmps55
  by_cases k : E = 0
  · have d : (E != 0) = false := by rw [k]; rfl
    rw [if_neg (fun h => h k)]
    by_cases k1 : b < 0
    · rw [if_pos (.inl k1)]
      go_wp2_with fail
      refine h1.mono ?_
      rintro e w1 ⟨rfl, hb1⟩
      go_wp2
      go_ret
      exact ⟨rfl, hb1⟩
    · by_cases k2 : (G.y.blocks : Int) ≤ b
      · rw [if_pos (.inr k2)]
        go_wp2_with fail
        refine h1.mono ?_
        rintro e w1 ⟨rfl, hb1⟩
        have c0 := (ht.later hb1).c0
        have c4 := (HS.later hb1).c4
        go_wp2
        go_ret
        exact ⟨rfl, hb1⟩
      · rw [if_neg (fun h => h.elim k1 k2)]
        go_wp2_with fail
        refine h1.mono ?_
        rintro e w1 ⟨rfl, hb1⟩
        have c0 := (ht.later hb1).c0
        have c4 := (HS.later hb1).c4
        go_wp2
        go_ret
        exact ⟨rfl, hb1⟩
  · have d : (E != 0) = true := by rw [bne_iff_ne]; exact k
    rw [if_pos k]
    go_wp2_with fail
    refine h1.mono ?_
    rintro e w1 ⟨rfl, hb1⟩
    go_wp2
    go_ret
    exact ⟨rfl, hb1⟩
end
end Go.Proofs.YtokcgifpljeoiaaGreat
end

section
namespace Go.Proofs.YtokcgifpljeoiaaGreat
open Go.RowKit Go.Maps

/-- A block as all that was committed has left it. -/
theorem committed_any {w : World} {F : Nat → Prop} {p s cR q l m : Nat} {S : DS} {G : SG} (h : StW w F p s cR q l m S G) (b : Nat) (hb : b < G.y.blocks) (hf : S.fuse ≠ 0) (hbig : S.puts.length + 1 ≤ 4000000000000) :
    Calls Tryz.prog 94 #[.pointer (some ⟨q, 0, none⟩), .int .i64 (b : Int)] w fun e w' => e = .returned (.tuple #[cV (G.block S b), .int .i64 0]) ∧ B.DiskR w' F p s S (cR + 1) ∧ Keeps F w w' := by
  have hs := h.hs
  have hss := h.d.ok.hi
  unfold SG.block
  cases hg : CM.get G.ov b with
  | none =>
    rw [Option.getD_none]
    exact committed_out h.d h.st h.ch h.nq b (by omega) hg (by omega) hf hbig
  | some c =>
    rw [Option.getD_some]
    refine (committed_in h.st h.ch b hg).mono ?_
    rintro e w' ⟨rfl, hb'⟩
    exact ⟨rfl, (h.d.later hb').le (by omega), Keeps.of_below F hb'⟩
theorem block_len {w : World} {F : Nat → Prop} {p s cR q l m : Nat} {S : DS} {G : SG} (h : StW w F p s cR q l m S G) (b : Nat) (hb : b < G.y.blocks) : (G.block S b).length = 512 := by
  have hs := h.hs
  unfold SG.block
  cases hg : CM.get G.ov b with
  | none => rw [Option.getD_none]; exact now_len h.d.ok _ (by omega)
  | some c => rw [Option.getD_some]; exact (h.ch.len _ (CM.get_mem hg)).2.1
theorem sees_len {w : World} {F : Nat → Prop} {p s cR q l m t n : Nat} {S : DS} {G : SG} {T : TG} (h : StW w F p s cR q l m S G) (ht : TxW w F q l m t n G T) (b : Nat) (hb : b < G.y.blocks) : (T.sees G S b).length = 512 := by
  unfold TG.sees
  cases hg : CM.get T.puts b with
  | none => rw [Option.getD_none]; exact block_len h b hb
  | some c => rw [Option.getD_some]; exact (ht.ch.len _ (CM.get_mem hg)).2.1

set_option maxRecDepth 20000 in
set_option maxHeartbeats 8000000 in
theorem sees_in {w : World} {F : Nat → Prop} {q l m t n : Nat} {G : SG} {T : TG} (hs : TxW w F q l m t n G T) (b : Nat) {c : List Int} (hg : CM.get T.puts b = some c) :
    Calls Tryz.prog 56 #[.pointer (some ⟨t, 0, none⟩), .int .i64 (b : Int)] w fun e w' => e = .returned (.tuple #[cV c, .int .i64 0]) ∧ Below w.heap.size w w' := by
  have hm := hs.ch
  have hq5 := hm.len _ (CM.get_mem hg)
  have hzc := zeroCon
  have hB1 : Below w.heap.size w (w.alloc (.cells zsec 118)) := (Below.refl _ w).alloc (Nat.le_refl _) _
  have c7 := (hs.later hB1).c1
  have hlook := (hm.later hB1).look b hq5.1
  rw [hg] at hlook
  have hst := con_stored (w.alloc (.cells zsec 118)) hq5.2.1
  rw [World.size_alloc] at hst
  have hinfo := infoConL hq5.2.1
  have hone := bs_one c
  have hF5 : (bs c).length = 512 := by rw [bs, List.length_map, hq5.2.1]
  obtain ⟨A, hA⟩ : ∃ A, A = bs c := ⟨_, rfl⟩
  have hlook' : (Instr.lookup 102 (.map (some n)) (.int .i64 (b : Int)) true).run Tryz.prog (w.alloc (.cells zsec 118)) = .ok (.tuple #[.agg A.toArray, .bool true]) (w.alloc (.cells zsec 118)) := by rw [hA]; exact hlook
  have hra : (((w.alloc (.cells zsec 118)).alloc (.cells zsec 118)).setCells (w.heap.size + 1) 0 (bs c)).rangeAt (w.heap.size + 1) 0 (bs c) := fun j v hv => by
    have := hst.1.news j v hv
    rwa [addr_add] at this
  rw [← hA] at hinfo hone hF5 hst hra
  have hth2 := there_keep (con_there w) (hst.2.1.block _ (by simp))
  have hrs := Hid.mk (World.rangeAt_setCells_same _ w.heap.size 0 A (by rw [hF5]; exact hth2))
  have hall := all_oneCell_toArray hone
  have hB2 := hB1.trans (hst.2.1.mono (by omega))
  have hB3 := Hid.mk (hB2.trans ((Keeps.setCells (F := fun j => j = w.heap.size) rfl A 0 _).below (fun j hj => by omega) hB2.size))
  have hth1 := hst.2.2
  have HA := Hid.mk hA
  clear hlook hst hs hm hB1 hB2 hone hg hq5 hA
  generalize zsec = Z at *
  go_enter Tryz.func56, Tryz.ntmps56
  go_wp2_with (first | refine wpList_load_mid rfl 118 _ rfl (w.heap.size + 1) 0 rfl A _ hra Tryz.underlying118 rfl hinfo ?_ | refine wpList_store_mid rfl 118 _ _ rfl (w.heap.size + 1) 0 A.toArray rfl rfl ?h1 ?h2 hall ?_ | refine wpList_store_mid rfl 118 _ _ rfl w.heap.size 0 A.toArray rfl rfl ?h3 ?h4 hall ?_)
  case h1 => first | simpa using hth1 | (rw [hF5] at hth1; simpa using hth1)
  case h2 => simpa using hinfo
  case h3 =>
    have e : A.toArray.size = 512 := by simpa using hF5
    rw [e]; exact hth2
  case h4 => simpa using hinfo
  refine bodyPost_ret (results_cell_tmp (P := Tryz.prog) rfl _ _ w.heap.size A _ _ rfl rfl hrs.out Tryz.underlying118 rfl hinfo) rfl ⟨?_, hB3.out⟩
  show _ = Ending.returned (.tuple #[.agg (bs c).toArray, .int .i64 0])
  rw [← HA.out]
  rfl

set_option maxRecDepth 20000 in
set_option maxHeartbeats 8000000 in
theorem sees_out {w : World} {F : Nat → Prop} {p s cR q l m t n : Nat} {S : DS} {G : SG} {T : TG} (h : StW w F p s cR q l m S G) (hs : TxW w F q l m t n G T) (b : Nat) (hb : b < G.y.blocks) (hg : CM.get T.puts b = none) (hf : S.fuse ≠ 0) (hbig : S.puts.length + 1 ≤ 4000000000000) :
    Calls Tryz.prog 56 #[.pointer (some ⟨t, 0, none⟩), .int .i64 (b : Int)] w fun e w' => e = .returned (.tuple #[cV (G.block S b), .int .i64 0]) ∧ B.DiskR w' F p s S (cR + 1) ∧ Keeps F w w' := by
  have hzc := zeroCon
  have hss := h.d.ok.hi
  have hhs := h.hs
  have hB1 : Below w.heap.size w (w.alloc (.cells zsec 118)) := (Below.refl _ w).alloc (Nat.le_refl _) _
  have c7 := (hs.later hB1).c1
  have hlook := (hs.ch.later hB1).look b (by omega)
  rw [hg] at hlook
  have hlook' : (Instr.lookup 102 (.map (some n)) (.int .i64 (b : Int)) true).run Tryz.prog (w.alloc (.cells zsec 118)) = .ok (.tuple #[.agg zsec, .bool false]) (w.alloc (.cells zsec 118)) := hlook
  have hst := con_stored (w.alloc (.cells zsec 118)) (zs_len 512)
  rw [World.size_alloc] at hst
  have hinfoZ := infoConL (zs_len 512)
  have hallZ := all_oneCell_toArray (bs_one (zs 512))
  have hthZ := hst.2.2
  have hzz : (bs (zs 512)).toArray = zsec := rfl
  obtain ⟨ZL, hZL⟩ : ∃ ZL, ZL = bs (zs 512) := ⟨_, rfl⟩
  rw [← hZL] at hst hinfoZ hallZ hthZ hzz
  have hZ5 : ZL.length = 512 := by rw [hZL, bs, List.length_map, zs_len]
  obtain ⟨wA, hwA⟩ : ∃ wA, wA = ((w.alloc (.cells zsec 118)).alloc (.cells zsec 118)).setCells (w.heap.size + 1) 0 ZL := ⟨_, rfl⟩
  have hBA : Below w.heap.size w wA := by rw [hwA]; exact hB1.trans (hst.2.1.mono (by omega))
  have hthA : wA.there w.heap.size 0 512 := by rw [hwA]; exact there_keep (con_there w) (hst.2.1.block _ (by simp))
  have hszA : w.heap.size < wA.heap.size := by
    have := hst.2.1.size
    rw [hwA]
    rw [World.size_alloc] at this
    omega
  have c0 := (hs.later hBA).c0
  have hcm := committed_any (h.later hBA) b hb hf hbig
  have HTh := Hid.mk hthA
  have HBA := Hid.mk hBA
  have HLt := Hid.mk h.d.lt
  have HwA := Hid.mk hwA
  have HNl := Hid.mk (block_len h b hb)
  clear hlook hst hs hB1 hBA h hthA hg hwA hZL
  rw [← hzz] at hzc c7 hlook' hthZ HwA
  clear hzz
  go_enter Tryz.func56, Tryz.ntmps56
  go_upto_region 4 with (refine wpList_store_mid rfl 118 _ _ rfl (w.heap.size + 1) 0 ZL.toArray rfl rfl ?h1 ?h2 hallZ ?_)
  case h1 => first | simpa using hthZ | (rw [hZ5] at hthZ; simpa using hthZ)
  case h2 => simpa using hinfoZ
  have hwA' := HwA.out
  subst hwA'
  generalize hww : ((w.alloc (.cells ZL.toArray 118)).alloc (.cells ZL.toArray 118)).setCells (w.heap.size + 1) 0 ZL = wA at *
  clear hww hlook' c7 hthZ HwA
  obtain ⟨A, hA⟩ : ∃ A, A = bs (G.block S b) := ⟨_, rfl⟩
  have hinfo := infoConL HNl.out
  have hone := bs_one (G.block S b)
  unfold cV at hcm
  rw [← hA] at hinfo hone hcm
  have hF5 : A.length = 512 := by rw [hA, bs, List.length_map, HNl.out]
  have hall := all_oneCell_toArray hone
  have HA := Hid.mk hA
  clear hone hA
  go_wp2_with fail
  refine hcm.mono ?_
  rintro e w5 ⟨rfl, hd5, hk5⟩
  have hnF : ¬ F w.heap.size := fun h => by have := HLt.out _ h; omega
  have hth5 := there_keep HTh.out (hk5.block _ hszA hnF)
  have hrs := Hid.mk (World.rangeAt_setCells_same w5 w.heap.size 0 A (by rw [hF5]; exact hth5))
  have hks := Keeps.setCells (F := fun j => j = w.heap.size) rfl A 0 w5
  have HD5 := Hid.mk (hd5.keep hks (fun k hk e => hnF (e ▸ hk)))
  have HK5 := Hid.mk (((Keeps.of_below F HBA.out).trans hk5 (fun _ h => .inl h)).trans hks (fun k e => .inr (by omega)) : Keeps F w (w5.setCells w.heap.size 0 A))
  clear hd5 hk5 c0 hks hcm
  go_wp2_with (refine wpList_store_mid rfl 118 _ _ rfl w.heap.size 0 A.toArray rfl rfl ?h3 ?h4 hall ?_)
  case h3 =>
    have e : A.toArray.size = 512 := by simpa using hF5
    rw [e]; exact hth5
  case h4 => simpa using hinfo
  refine bodyPost_ret (results_cell_tmp (P := Tryz.prog) rfl _ _ w.heap.size A _ _ rfl rfl hrs.out Tryz.underlying118 rfl hinfo) rfl ⟨?_, HD5.out, HK5.out⟩
  show _ = Ending.returned (.tuple #[.agg (bs (G.block S b)).toArray, .int .i64 0])
  rw [← HA.out]
  rfl
theorem sees_any {w : World} {F : Nat → Prop} {p s cR q l m t n : Nat} {S : DS} {G : SG} {T : TG} (h : StW w F p s cR q l m S G) (hs : TxW w F q l m t n G T) (b : Nat) (hb : b < G.y.blocks) (hf : S.fuse ≠ 0) (hbig : S.puts.length + 1 ≤ 4000000000000) :
    Calls Tryz.prog 56 #[.pointer (some ⟨t, 0, none⟩), .int .i64 (b : Int)] w fun e w' => e = .returned (.tuple #[cV (T.sees G S b), .int .i64 0]) ∧ B.DiskR w' F p s S (cR + 1) ∧ Keeps F w w' := by
  unfold TG.sees
  cases hg : CM.get T.puts b with
  | none =>
    rw [Option.getD_none]
    exact sees_out h hs b hb hg hf hbig
  | some c =>
    rw [Option.getD_some]
    refine (sees_in hs b hg).mono ?_
    rintro e w' ⟨rfl, hb'⟩
    exact ⟨rfl, (h.d.later hb').le (by omega), Keeps.of_below F hb'⟩
end Go.Proofs.YtokcgifpljeoiaaGreat
end

section
namespace Go.Proofs.YtokcgifpljeoiaaGreat
open Go.RowKit Go.Maps

def TG.spoil (T : TG) (G : SG) (S : DS) (x : Int) : Int × TG :=
  if T.state G S ≠ 0 then (T.state G S, T) else if x = 6 ∨ x = 50 ∨ x = 60 ∨ x = 61 then (x, { T with bad := x }) else (1, T)
def TG.close (T : TG) : TG := { T with puts := [], ended := true }
def TG.abort (T : TG) (G : SG) (S : DS) : Int × TG × SG := if T.over G S ≠ 0 then (T.over G S, T, G) else (0, T.close, { G with busy := false })

section
variable {w w' : World} {F : Nat → Prop} {p s cR q l m t n : Nat} {S : DS} {G : SG} {T : TG}

set_option maxRecDepth 20000 in
set_option maxHeartbeats 4000000 in
theorem spoil_any (h : StW w F p s cR q l m S G) (ht : TxW w F q l m t n G T) (x : Int) :
    Calls Tryz.prog 57 #[.pointer (some ⟨t, 0, none⟩), .int .i64 x] w fun e w' => e = .returned (.int .i64 (T.spoil G S x).1) ∧ w'.heap[t]? = some (.cells (txC q n (T.spoil G S x).2) 114 (0, 0)) ∧ Keeps (fun k => k = t) w w' := by
  have h1 := state_any h ht
  have HT := ht
  unfold TG.spoil
  generalize T.state G S = E at *
  go_enter Tryz.func57, Tryz.ntmps57
  by_cases k : E = 0
  · have d : (E != 0) = false := by rw [k]; rfl
    rw [if_neg (fun h => h k)]
    have yes : ∀ (w1 : World), Below w.heap.size w w1 → (w1.setCell ⟨t, 2, none⟩ (.int .i64 x)).heap[t]? = some (.cells (txC q n { T with bad := x }) 114 (0, 0)) ∧ Keeps (fun k => k = t) w (w1.setCell ⟨t, 2, none⟩ (.int .i64 x)) := fun w1 hb1 =>
      ⟨(heap_setCell_same _ _ 2 _ _ _ (HT.later hb1).tx).trans (by simp [txC]), (Keeps.of_below (fun k => k = t) hb1).trans (keeps_set (F := fun k => k = t) w1 rfl 2 _) (fun _ h => .inl h)⟩
    by_cases k6 : x = 6
    · subst k6
      rw [if_pos (.inl rfl)]
      go_wp2_with fail
      refine h1.mono ?_
      rintro e w1 ⟨rfl, hb1⟩
      have c2 := (HT.later hb1).c2
      have f2 := frozen_of_block (HT.later hb1).tx 2
      go_wp2
      go_ret
      exact ⟨rfl, (yes w1 hb1)⟩
    · have d6 : (x == 6) = false := by rw [beq_eq_false_iff_ne]; exact k6
      by_cases k50 : x = 50
      · subst k50
        rw [if_pos (.inr (.inl rfl))]
        go_wp2_with fail
        refine h1.mono ?_
        rintro e w1 ⟨rfl, hb1⟩
        have c2 := (HT.later hb1).c2
        have f2 := frozen_of_block (HT.later hb1).tx 2
        go_wp2
        go_ret
        exact ⟨rfl, (yes w1 hb1)⟩
      · have d50 : (x == 50) = false := by rw [beq_eq_false_iff_ne]; exact k50
        by_cases k60 : x = 60
        · subst k60
          rw [if_pos (.inr (.inr (.inl rfl)))]
          go_wp2_with fail
          refine h1.mono ?_
          rintro e w1 ⟨rfl, hb1⟩
          have c2 := (HT.later hb1).c2
          have f2 := frozen_of_block (HT.later hb1).tx 2
          go_wp2
          go_ret
          exact ⟨rfl, (yes w1 hb1)⟩
        · have d60 : (x == 60) = false := by rw [beq_eq_false_iff_ne]; exact k60
          by_cases k61 : x = 61
          · subst k61
            rw [if_pos (.inr (.inr (.inr rfl)))]
            go_wp2_with fail
            refine h1.mono ?_
            rintro e w1 ⟨rfl, hb1⟩
            have c2 := (HT.later hb1).c2
            have f2 := frozen_of_block (HT.later hb1).tx 2
            go_wp2
            go_ret
            exact ⟨rfl, (yes w1 hb1)⟩
          · have d61 : (x == 61) = false := by rw [beq_eq_false_iff_ne]; exact k61
            rw [if_neg (fun h => h.elim k6 (fun h => h.elim k50 (fun h => h.elim k60 k61)))]
            go_wp2_with fail
            refine h1.mono ?_
            rintro e w1 ⟨rfl, hb1⟩
            go_wp2
            go_ret
            exact ⟨rfl, (And.intro (HT.later hb1).tx (Keeps.of_below (fun k => k = t) hb1))⟩
  · have d : (E != 0) = true := by rw [bne_iff_ne]; exact k
    rw [if_pos k]
    go_wp2_with fail
    refine h1.mono ?_
    rintro e w1 ⟨rfl, hb1⟩
    go_wp2
    go_ret
    exact ⟨rfl, (And.intro (HT.later hb1).tx (Keeps.of_below (fun k => k = t) hb1))⟩
set_option maxRecDepth 20000 in
set_option maxHeartbeats 4000000 in
theorem end_any (h : StP w q p l m G.y G.busy) (ht : TxW w F q l m t n G T) :
    Calls Tryz.prog 61 #[.pointer (some ⟨t, 0, none⟩)] w fun e w' => e = .returned (.tuple #[]) ∧ w'.heap[t]? = some (.cells (txC q n T.close) 114 (0, 0)) ∧ Ch w' n [] ∧ StP w' q p l m G.y false ∧ Keeps (fun k => k = t ∨ k = n ∨ k = q) w w' := by
  obtain ⟨wC, hcl, hch, hkc, hsz⟩ := ht.ch.cleared
  have c1 := ht.c1
  have t1 := (hkc.block t (lt_there ht.tx) (fun e => ht.tn e)).trans ht.tx
  have s1 := h.keep hkc (fun e => ht.nq e.symm)
  have d3 : wC.cell? ⟨t, 3, none⟩ = some (.bool T.ended) := cell_of_block t1 (j := 3) rfl
  have f3 := frozen_of_block t1 3
  have hqt : q ≠ t := fun e => ht.tq e.symm
  have t2 : (wC.setCell ⟨t, 3, none⟩ (.bool true)).heap[t]? = some (.cells #[.pointer (some ⟨q, 0, none⟩), .map (some n), .int .i64 T.bad, .bool true] 114 (0, 0)) := (heap_setCell_same _ _ 3 _ _ _ t1).trans (by simp [txC])
  have k2 := keeps_set (F := fun k => k = t) wC rfl 3 (.bool true)
  have s2 := s1.keep k2 hqt
  have e0 : (wC.setCell ⟨t, 3, none⟩ (.bool true)).cell? ⟨t, 0, none⟩ = some (.pointer (some ⟨q, 0, none⟩)) := cell_of_block t2 (j := 0) rfl
  have e8 := s2.c8
  have g8 := frozen_of_block s2 8
  have k3 := keeps_set (F := fun k => k = q) (wC.setCell ⟨t, 3, none⟩ (.bool true)) rfl 8 (.bool false)
  have s3 : StP ((wC.setCell ⟨t, 3, none⟩ (.bool true)).setCell ⟨q, 8, none⟩ (.bool false)) q p l m G.y false := (heap_setCell_same _ _ 8 _ _ _ s2).trans (by simp [stC])
  have HN : (((wC.setCell ⟨t, 3, none⟩ (.bool true)).setCell ⟨q, 8, none⟩ (.bool false)).heap[t]? = some (.cells (txC q n T.close) 114 (0, 0)) ∧ Ch ((wC.setCell ⟨t, 3, none⟩ (.bool true)).setCell ⟨q, 8, none⟩ (.bool false)) n [] ∧ StP ((wC.setCell ⟨t, 3, none⟩ (.bool true)).setCell ⟨q, 8, none⟩ (.bool false)) q p l m G.y false ∧ Keeps (fun k => k = t ∨ k = n ∨ k = q) w ((wC.setCell ⟨t, 3, none⟩ (.bool true)).setCell ⟨q, 8, none⟩ (.bool false))) := by
    refine ⟨(k3.block t (lt_there t2) (fun e => hqt e.symm)).trans t2, (hch.keep k2 (fun e => ht.tn e.symm)).keep k3 ht.nq, s3, ?_⟩
    exact ((hkc.mono (fun _ e => .inr (.inl e))).trans k2 (fun _ e => .inl (.inl e))).trans k3 (fun _ e => .inl (.inr (.inr e)))
  go_enter Tryz.func61, Tryz.ntmps61
  go_wp2
  go_end0
  exact ⟨rfl, HN⟩

set_option maxRecDepth 20000 in
set_option maxHeartbeats 4000000 in
theorem abort_any (h : StW w F p s cR q l m S G) (ht : TxW w F q l m t n G T) :
    Calls Tryz.prog 32 #[.pointer (some ⟨t, 0, none⟩)] w fun e w' => e = .returned (.int .i64 (T.abort G S).1) ∧ w'.heap[t]? = some (.cells (txC q n (T.abort G S).2.1) 114 (0, 0)) ∧ Ch w' n (T.abort G S).2.1.puts ∧ StP w' q p l m G.y (T.abort G S).2.2.busy ∧ Keeps (fun k => k = t ∨ k = n ∨ k = q) w w' := by
  have h1 := over_any h ht
  have HT := ht
  have HS := h.st
  unfold TG.abort
  generalize T.over G S = E at *
  go_enter Tryz.func32, Tryz.ntmps32
  by_cases k : E = 0
  · have d : (E != 0) = false := by rw [k]; rfl
    rw [if_neg (fun h => h k)]
    go_wp2_with fail
    refine h1.mono ?_
    rintro e w1 ⟨rfl, hb1⟩
    go_wp2_with fail
    refine (end_any (HS.later hb1) (HT.later hb1)).mono ?_
    rintro e w2 ⟨rfl, h3, h4, h5, h6⟩
    go_wp2
    go_ret
    exact ⟨rfl, (And.intro h3 (And.intro h4 (And.intro h5 ((Keeps.of_below (fun k => k = t ∨ k = n ∨ k = q) hb1).trans h6 (fun _ h => .inl h)))))⟩
  · have d : (E != 0) = true := by rw [bne_iff_ne]; exact k
    rw [if_pos k]
    go_wp2_with fail
    refine h1.mono ?_
    rintro e w1 ⟨rfl, hb1⟩
    go_wp2
    go_ret
    exact ⟨rfl, (And.intro (HT.later hb1).tx (And.intro (HT.later hb1).ch (And.intro (HS.later hb1) (Keeps.of_below (fun k => k = t ∨ k = n ∨ k = q) hb1))))⟩
def SG.begin (G : SG) (S : DS) : Int := if G.L.dead S = true then 3 else if G.busy = true then 5 else 0
/-- What Begin answers. -/
def BegOut (w w' : World) (q p l m : Nat) (y : LY) (busy : Bool) (code : Int) (e : Ending) : Prop :=
  if code ≠ 0 then e = .returned (.tuple #[.pointer none, .int .i64 code]) ∧ StP w' q p l m y busy ∧ Below w.heap.size w w'
  else ∃ t n, e = .returned (.tuple #[.pointer (some ⟨t, 0, none⟩), .int .i64 0]) ∧ w.heap.size ≤ n ∧ w.heap.size ≤ t ∧ t ≠ n ∧ w'.heap[t]? = some (.cells (txC q n ⟨[], 0, false⟩) 114 (0, 0)) ∧ Ch w' n [] ∧ StP w' q p l m y true ∧ Keeps (fun k => k = q) w w'

set_option maxRecDepth 20000 in
set_option maxHeartbeats 4000000 in
theorem sbegin_any (h : StW w F p s cR q l m S G) :
    Calls Tryz.prog 21 #[.pointer (some ⟨q, 0, none⟩)] w fun e w' => BegOut w w' q p l m G.y G.busy (G.begin S) e := by
  have h1 := h.dead
  have HS := h.st
  unfold SG.begin
  go_enter Tryz.func21, Tryz.ntmps21
  cases hd : G.L.dead S
  · rw [hd] at h1
    rw [if_neg (by decide)]
    cases hb : G.busy
    · rw [if_neg (by decide)]
      go_wp2_with fail
      refine h1.mono ?_
      rintro e w1 ⟨rfl, hb1⟩
      have hs1 := HS.later hb1
      rw [hb] at hs1
      have c8 := hs1.c8
      have g8 := frozen_of_block hs1 8
      have k3 := keeps_set (F := fun k => k = q) w1 rfl 8 (.bool true)
      have s3 : StP (w1.setCell ⟨q, 8, none⟩ (.bool true)) q p l m G.y true := (heap_setCell_same _ _ 8 _ _ _ hs1).trans (by simp [stC])
      have hz : (w1.setCell ⟨q, 8, none⟩ (.bool true)).heap.size = w1.heap.size := by simp [World.setCell]
      have hb1z := hb1.size
      have hm := Ch.made (w1.setCell ⟨q, 8, none⟩ (.bool true))
      rw [hz] at hm
      obtain ⟨wM, hwM⟩ : ∃ wM, wM = (w1.setCell ⟨q, 8, none⟩ (.bool true)).alloc (.map #[] 0) := ⟨_, rfl⟩
      rw [← hwM] at hm
      have hbM : Below (w1.setCell ⟨q, 8, none⟩ (.bool true)).heap.size (w1.setCell ⟨q, 8, none⟩ (.bool true)) wM := by rw [hwM]; exact below_box _ _
      have hzM : wM.heap.size = w1.heap.size + 1 := by rw [hwM, World.size_alloc, hz]
      have hbx := below_box wM (.cells (txC q w1.heap.size ⟨[], 0, false⟩) 114)
      have HN : ((wM.alloc (.cells (txC q w1.heap.size ⟨[], 0, false⟩) 114)).heap[w1.heap.size + 1]? = some (.cells (txC q w1.heap.size ⟨[], 0, false⟩) 114 (0, 0)) ∧ Ch (wM.alloc (.cells (txC q w1.heap.size ⟨[], 0, false⟩) 114)) w1.heap.size [] ∧ StP (wM.alloc (.cells (txC q w1.heap.size ⟨[], 0, false⟩) 114)) q p l m G.y true ∧ Keeps (fun k => k = q) w (wM.alloc (.cells (txC q w1.heap.size ⟨[], 0, false⟩) 114))) := by
        refine ⟨by rw [← hzM]; exact heap_alloc_new _ _, hm.later hbx, (s3.later hbM).later hbx, ?_⟩
        exact (((Keeps.of_below (fun k => k = q) hb1).trans k3 (fun _ h => .inl h)).trans (Keeps.of_below (fun _ => False) hbM) (fun _ h => h.elim)).trans (Keeps.of_below (fun _ => False) hbx) (fun _ h => h.elim)
      have hmm := @run_makeMap Tryz.prog
      go_wp2
      rw [← hwM]
      go_ret2
      unfold BegOut
      rw [if_neg (fun h => h rfl)]
      refine ⟨w1.heap.size + 1, w1.heap.size, ?_, hb1z, by omega, by omega, HN⟩
      first | rfl | (rw [hzM]; rfl)
    · rw [if_pos rfl]
      go_wp2_with fail
      refine h1.mono ?_
      rintro e w1 ⟨rfl, hb1⟩
      have hs1 := HS.later hb1
      rw [hb] at hs1
      have c8 := hs1.c8
      go_wp2
      go_ret2
      unfold BegOut
      rw [if_pos (by decide)]
      exact ⟨rfl, (And.intro hs1 hb1)⟩
  · rw [hd] at h1
    rw [if_pos rfl]
    go_wp2_with fail
    refine h1.mono ?_
    rintro e w1 ⟨rfl, hb1⟩
    go_wp2
    go_ret2
    unfold BegOut
    rw [if_pos (by decide)]
    exact ⟨rfl, (And.intro (HS.later hb1) hb1)⟩
end
end Go.Proofs.YtokcgifpljeoiaaGreat
end

section
namespace Go.Proofs.YtokcgifpljeoiaaGreat
open Go.RowKit Go.Maps

/-- What Get answers. -/
def GetOut (w w' : World) (code : Int) (c : List Int) (e : Ending) : Prop :=
  if code ≠ 0 then e = .returned (.tuple #[.slice none 0 0, .int .i64 code])
  else ∃ g, e = .returned (.tuple #[.slice (some ⟨g, 0, none⟩) 512 512, .int .i64 0]) ∧ w.heap.size ≤ g ∧ Blk w' 118 g c

section
variable {w w' : World} {F : Nat → Prop} {p s cR q l m t n : Nat} {S : DS} {G : SG} {T : TG}
theorem refusal_zero {b : Int} (h : T.refusal G S b = 0) : G.L.dead S = false ∧ T.ended = false ∧ T.bad = 0 ∧ 0 ≤ b ∧ b < (G.y.blocks : Int) := by
  unfold TG.refusal TG.state TG.over at h
  cases hd : G.L.dead S
  · cases he : T.ended
    · rw [hd, he] at h
      simp only [Bool.false_eq_true, if_false, ne_eq, not_true_eq_false] at h
      split at h
      · rename_i h1; exact absurd h h1
      · rename_i h1
        split at h
        · omega
        · refine ⟨rfl, rfl, ?_, by omega, by omega⟩
          exact Decidable.byContradiction h1
    · rw [hd, he] at h
      simp at h
  · rw [hd] at h
    simp at h
theorem dead_fuse {L : LG} (h : L.dead S = false) : S.fuse ≠ 0 := fun e => by
  unfold LG.dead at h
  rw [show (S.fuse == 0) = true by rw [beq_iff_eq]; exact e] at h
  simp at h

set_option maxRecDepth 20000 in
set_option maxHeartbeats 4000000 in
theorem Get_any (h : StW w F p s cR q l m S G) (ht : TxW w F q l m t n G T) (b : Int) (hbig : S.puts.length + 1 ≤ 4000000000000) :
    Calls Tryz.prog 44 #[.pointer (some ⟨t, 0, none⟩), .int .i64 b] w fun e w' => GetOut w w' (T.refusal G S b) (T.sees G S b.toNat) e ∧ B.DiskR w' F p s S (cR + 1) ∧ Keeps F w w' := by
  have h1 := refusal_tx h ht b
  go_enter Tryz.func44, Tryz.ntmps44
  by_cases k : T.refusal G S b = 0
  · obtain ⟨r1, r2, r3, r4, r5⟩ := refusal_zero k
    obtain ⟨b, rfl⟩ : ∃ b' : Nat, b = (b' : Int) := ⟨b.toNat, by omega⟩
    have hb : b < G.y.blocks := by omega
    have hlen := sees_len h ht b hb
    rw [k] at h1
    have HS := h
    have HT := ht
    have HK := k
    have hzc := zeroCon
    have hfu := dead_fuse r1
    clear h ht k r1 r2 r3 r4 r5
    go_wp2_with fail
    refine h1.mono ?_
    rintro e w1 ⟨rfl, hb1⟩
    have h2 := sees_any (HS.later hb1) (HT.later hb1) b hb hfu hbig
    have HB := hb1
    have hz1 := hb1.size
    unfold cV at h2
    obtain ⟨A, hA⟩ : ∃ A, A = bs (T.sees G S b) := ⟨_, rfl⟩
    rw [← hA] at h2
    clear h1 hb1
    go_wp2_with fail
    refine h2.mono ?_
    rintro e w2 ⟨rfl, hd2, hk2⟩
    have hst := con_stored w2 hlen
    have hinfo := infoConL hlen
    have hone := bs_one (T.sees G S b)
    rw [← hA] at hst hinfo hone
    have hF5 : A.length = 512 := by rw [hA, bs, List.length_map, hlen]
    have hall := all_oneCell_toArray hone
    have hth := hst.2.2
    have hz2 := hk2.size
    have HN : (Blk ((w2.alloc (.cells zsec 118)).setCells w2.heap.size 0 A) 118 w2.heap.size (T.sees G S b) ∧ B.DiskR ((w2.alloc (.cells zsec 118)).setCells w2.heap.size 0 A) F p s S (cR + 1) ∧ Keeps F w ((w2.alloc (.cells zsec 118)).setCells w2.heap.size 0 A)) := ⟨hst.1, hd2.later hst.2.1, ((Keeps.of_below F HB).trans hk2 (fun _ h => .inl h)).trans (Keeps.of_below (fun _ => False) hst.2.1) (fun _ h => h.elim)⟩
    clear h2 hd2 hk2 hst hone hA
    generalize zsec = Z at *
    go_wp2_with (refine wpList_store_mid rfl 118 _ _ rfl w2.heap.size 0 A.toArray rfl rfl ?h1 ?h2 hall ?_)
    case h1 => first | simpa using hth | (rw [hF5] at hth; simpa using hth)
    case h2 => simpa using hinfo
    go_ret2
    refine ⟨?_, HN.2⟩
    unfold GetOut
    rw [if_neg (fun h => h HK)]
    exact ⟨w2.heap.size, rfl, by omega, HN.1⟩
  · have d : (T.refusal G S b != 0) = true := by rw [bne_iff_ne]; exact k
    have HD := h.d
    have HK := k
    clear h ht k
    generalize T.refusal G S b = E at *
    go_wp2_with fail
    refine h1.mono ?_
    rintro e w1 ⟨rfl, hb1⟩
    have HB := hb1
    clear h1 hb1
    go_wp2
    go_ret2
    refine ⟨?_, (HD.later HB).le (by omega), Keeps.of_below F HB⟩
    unfold GetOut
    rw [if_pos HK]
    rfl
end
end Go.Proofs.YtokcgifpljeoiaaGreat
end

section
namespace Go.Proofs.YtokcgifpljeoiaaGreat
open Go.RowKit Go.Maps

theorem guardCon : Tryz.prog.eqGuardType Tryz.prog.depth 118 = false := by kernel_rfl
theorem eqop_con (l m : List Int) (hl : l.length = 512) (hm : m.length = 512) (w : World) (x y : Operand) :
    (do eqGuard .eql 118 x y (.agg (bs l).toArray) (.agg (bs m).toArray); binOp .eql 118 (.agg (bs l).toArray) (.agg (bs m).toArray)).run Tryz.prog w = .ok (.bool (decide (l = m))) w := by
  rw [Sem.run_bind, run_eqGuard_agg (P := Tryz.prog) w .eql 118 x y _ _ guardCon, Result.andThen_ok]
  show (binOp .eql 118 (.agg (bs l).toArray) (.agg (bs m).toArray)).run Tryz.prog w = _
  unfold binOp Op.equal Op.maxDepth
  rw [Sem.run_bind, (eq_row 512 9998 118 l m hl hm w Tryz.underlying118), Result.andThen_ok, Sem.run_pure]
theorem neop_con (l m : List Int) (hl : l.length = 512) (hm : m.length = 512) (w : World) (x y : Operand) :
    (do eqGuard .neq 118 x y (.agg (bs l).toArray) (.agg (bs m).toArray); binOp .neq 118 (.agg (bs l).toArray) (.agg (bs m).toArray)).run Tryz.prog w = .ok (.bool (!decide (l = m))) w := by
  rw [Sem.run_bind, run_eqGuard_agg (P := Tryz.prog) w .neq 118 x y _ _ guardCon, Result.andThen_ok]
  show (binOp .neq 118 (.agg (bs l).toArray) (.agg (bs m).toArray)).run Tryz.prog w = _
  unfold binOp Op.equal Op.maxDepth
  rw [Sem.run_bind, (eq_row 512 9998 118 l m hl hm w Tryz.underlying118), Result.andThen_ok, Sem.run_pure]
/-- Two contents are compared. -/
theorem wpList_eq_con {ops : Array Oper} {rest : List Oper} {op : Oper} {a : Act} {w : World} {Q : Exit → Act → World → Prop} (hgd : op.guard = none) (x y : Operand) (T : TypeId) (ho : op.op = .binOp .eql 118 x y T)
    (A C : List Value) (l m : List Int) (hA : A = bs l) (hC : C = bs m) (hx : a.eval x = .agg A.toArray) (hy : a.eval y = .agg C.toArray) (hl : l.length = 512) (hm : m.length = 512) (v : Bool) (hv : decide (l = m) = v)
    (h : wpList Tryz.prog ops Q rest (a.put op.dst (.bool v)) w) : wpList Tryz.prog ops Q (op :: rest) a w :=
  wpList_plain hgd fun K hK => by
    subst hA hC hv
    unfold Oper.wp execOp
    simp only [ho, hx, hy]
    have := eqop_con l m hl hm w x y
    rw [Sem.run_bind, this]
    exact hK _ _ h
theorem wpList_ne_con {ops : Array Oper} {rest : List Oper} {op : Oper} {a : Act} {w : World} {Q : Exit → Act → World → Prop} (hgd : op.guard = none) (x y : Operand) (T : TypeId) (ho : op.op = .binOp .neq 118 x y T)
    (A C : List Value) (l m : List Int) (hA : A = bs l) (hC : C = bs m) (hx : a.eval x = .agg A.toArray) (hy : a.eval y = .agg C.toArray) (hl : l.length = 512) (hm : m.length = 512) (v : Bool) (hv : (!decide (l = m)) = v)
    (h : wpList Tryz.prog ops Q rest (a.put op.dst (.bool v)) w) : wpList Tryz.prog ops Q (op :: rest) a w :=
  wpList_plain hgd fun K hK => by
    subst hA hC hv
    unfold Oper.wp execOp
    simp only [ho, hx, hy]
    have := neop_con l m hl hm w x y
    rw [Sem.run_bind, this]
    exact hK _ _ h

/-- What Put makes of a transaction. -/
def TG.put (T : TG) (G : SG) (S : DS) (b : Int) (d : List Int) : Int × TG :=
  if T.refusal G S b ≠ 0 then (T.refusal G S b, T) else if d.length ≠ 512 then (2, T) else if d = T.sees G S b.toNat then (0, T)
  else if (CM.get T.puts b.toNat).isSome = false ∧ T.puts.length = 16 then (50, { T with bad := 50 }) else (0, { T with puts := CM.put T.puts b.toNat d })
end Go.Proofs.YtokcgifpljeoiaaGreat
end

section
namespace Go.Proofs.YtokcgifpljeoiaaGreat
open Go.RowKit Go.Maps

/-- What Put answers and leaves. -/
def PutOut (w w' : World) (F : Nat → Prop) (p s c q t n : Nat) (S : DS) (r : Int × TG) (e : Ending) : Prop :=
  e = .returned (.int .i64 r.1) ∧ w'.heap[t]? = some (.cells (txC q n r.2) 114 (0, 0)) ∧ Ch w' n r.2.puts ∧ B.DiskR w' F p s S c ∧ Keeps (fun k => F k ∨ k = t ∨ k = n) w w'
theorem conV_cells (g : Option (List Int)) (hg : ∀ c, g = some c → c.length = 512) : ∃ CL : List Value, conV g = .agg CL.toArray ∧ CL.length = 512 ∧ CL.toArray.all Value.oneCell' = true ∧ (Tryz.prog.info? 118).map (·.size) = some CL.length := by
  cases g with
  | none => exact ⟨bs (zs 512), rfl, by rw [bs, List.length_map, zs_len], all_oneCell_toArray (bs_one _), infoConL (zs_len 512)⟩
  | some c => exact ⟨bs c, rfl, by rw [bs, List.length_map, hg c rfl], all_oneCell_toArray (bs_one _), infoConL (hg c rfl)⟩
theorem cells_stored (w : World) {A : List Value} (hA : A.length = 512) : Below w.heap.size w ((w.alloc (.cells zsec 118)).setCells w.heap.size 0 A) ∧ (w.alloc (.cells zsec 118)).there w.heap.size 0 A.length := by
  have hw1 : (w.alloc (.cells zsec 118)).heap[w.heap.size]? = some (.cells zsec 118 (0, 0)) := heap_alloc_new _ _
  have hB1 : Below w.heap.size w (w.alloc (.cells zsec 118)) := (Below.refl _ w).alloc (Nat.le_refl _) _
  refine ⟨hB1.trans ((Keeps.setCells (F := fun j => j = w.heap.size) rfl A 0 _).below (fun j hj => by omega) hB1.size), ?_⟩
  rw [hA]
  exact (there_of hw1 zsec_size)

section
variable {w w' : World} {F : Nat → Prop} {p s cR q l m t n : Nat} {S : DS} {G : SG} {T : TG}

set_option maxRecDepth 20000 in
set_option maxHeartbeats 8000000 in
theorem Put_any (h : StW w F p s cR q l m S G) (ht : TxW w F q l m t n G T) (b : Int) (a : Option Addr) (x c : Nat) (d : List Int) (hs : Src w a x d) (hx : x ≤ 140737488355328) (hbd : Bytes d) (hbig : S.puts.length + 1 ≤ 4000000000000) :
    Calls Tryz.prog 23 #[.pointer (some ⟨t, 0, none⟩), .int .i64 b, .slice a x c] w fun e w' => PutOut w w' F p s (cR + 1) q t n S (T.put G S b d) e := by
  have h1 := refusal_tx h ht b
  have HS := Hid.mk h
  have HT := Hid.mk ht
  have hxd := hs.1
  have HX := Hid.mk hs
  have hself : ∀ w1, Below w.heap.size w w1 → ∀ z : Int, PutOut w w1 F p s (cR + 1) q t n S (z, T) (.returned (.int .i64 z)) := fun w1 hb1 z => ⟨rfl, (HT.out.later hb1).tx, (HT.out.later hb1).ch, (HS.out.d.later hb1).le (by omega), Keeps.of_below _ hb1⟩
  have HSelf := Hid.mk hself
  obtain ⟨R, hR⟩ : ∃ R, R = T.put G S b d := ⟨_, rfl⟩
  rw [← hR]
  unfold TG.put at hR
  go_enter Tryz.func23, Tryz.ntmps23
  go_wp2_with fail
  by_cases k : T.refusal G S b = 0
  · rw [if_neg (fun h => h k)] at hR
    obtain ⟨r1, r2, r3, r4, r5⟩ := refusal_zero k
    obtain ⟨b, rfl⟩ : ∃ b' : Nat, b = (b' : Int) := ⟨b.toNat, by omega⟩
    rw [k] at h1
    rw [Int.toNat_natCast] at hR
    refine h1.mono ?_
    rintro e w1 ⟨rfl, hb1⟩
    by_cases k2 : d.length = 512
    · rw [if_neg (fun h => h k2)] at hR
      have HRR := Hid.mk hR
      clear hR
      obtain rfl : x = 512 := by omega
      obtain ⟨b0, o0, rfl⟩ := src_spot hs (by omega)
      have hb : b < G.y.blocks := by omega
      have hlen := sees_len h ht b hb
      have hzc := zeroCon
      have hfu := dead_fuse r1
      have hLt := h.d.lt
      have HLt := Hid.mk hLt
      have harr := arrayCon (some ⟨b0, o0, none⟩) c
      have hinfo := infoConL k2
      have hone := bs_one d
      obtain ⟨A, hA⟩ : ∃ A, A = bs d := ⟨_, rfl⟩
      rw [← hA] at hinfo hone
      have hF5 : A.length = 512 := by rw [hA, bs, List.length_map, k2]
      have hall := all_oneCell_toArray hone
      have HA := Hid.mk hA
      have HR := Hid.mk (And.intro r1 (And.intro r2 r3))
      clear h ht hs hself k r1 r2 r3 r4 r5 hone hA hLt
      have hra1 : w1.rangeAt b0 o0 A := by rw [HA.out]; exact src_range (HX.out.later hb1)
      have hst := con_stored w1 k2
      rw [← HA.out] at hst
      have hth := hst.2.2
      obtain ⟨wB, hwB⟩ : ∃ wB, wB = (w1.alloc (.cells zsec 118)).setCells w1.heap.size 0 A := ⟨_, rfl⟩
      have hbB : Below w.heap.size w wB := hb1.trans (by rw [hwB]; exact hst.2.1.mono hb1.size)
      have hblk : Blk wB 118 w1.heap.size d := by rw [hwB]; exact hst.1
      have hz1 := hb1.size
      have h2 := sees_any (HS.out.later hbB) (HT.out.later hbB) b hb hfu hbig
      have HBB := Hid.mk hbB
      have HBlk := Hid.mk hblk
      have HwB := Hid.mk hwB
      clear h1 hb1 hst hbB hblk hwB
      go_upto_region 7 with (first | refine wpList_load_mid rfl 118 _ rfl b0 o0 rfl A _ hra1 Tryz.underlying118 rfl hinfo ?_ | refine wpList_store_mid rfl 118 _ _ rfl w1.heap.size 0 A.toArray rfl rfl ?h1 ?h2 hall ?_)
      case h1 => first | simpa using hth | (rw [hF5] at hth; simpa using hth)
      case h2 => simpa using hinfo
      have hwB' := HwB.out
      subst hwB'
      generalize hww : (w1.alloc (.cells zsec 118)).setCells w1.heap.size 0 A = wB at *
      clear hww hra1 hth HwB harr
      unfold cV at h2
      obtain ⟨C, hC⟩ : ∃ C, C = bs (T.sees G S b) := ⟨_, rfl⟩
      rw [← hC] at h2
      have HC := Hid.mk hC
      clear hC
      go_wp2_with fail
      refine h2.mono ?_
      rintro e w2 ⟨rfl, hd2, hk2⟩
      have hz2 := hk2.size
      have hzB := HBlk.out.lt
      have hst := con_stored w2 hlen
      have hinfoC := infoConL hlen
      have honeC := bs_one (T.sees G S b)
      rw [← HC.out] at hst hinfoC honeC
      have hC5 : C.length = 512 := by rw [HC.out, bs, List.length_map, hlen]
      have hallC := all_oneCell_toArray honeC
      have hth := hst.2.2
      have hn1 : ¬ F w1.heap.size := fun hf => by have := HLt.out _ hf; omega
      obtain ⟨wD, hwD⟩ : ∃ wD, wD = (w2.alloc (.cells zsec 118)).setCells w2.heap.size 0 C := ⟨_, rfl⟩
      have hbD : Below w2.heap.size w2 wD := by rw [hwD]; exact hst.2.1
      have hblkC : Blk wD 118 w2.heap.size (T.sees G S b) := by rw [hwD]; exact hst.1
      have hblkA := (HBlk.out.keep (hk2.block _ hzB hn1)).keep (hbD.block _ (by omega))
      have raA : wD.rangeAt w1.heap.size 0 A := fun j v hv => by
        have := hblkA.news j v (by rw [← HA.out]; exact hv)
        rwa [addr_add] at this
      have raC : wD.rangeAt w2.heap.size 0 C := fun j v hv => by
        have := hblkC.news j v (by rw [← HC.out]; exact hv)
        rwa [addr_add] at this
      have hsD := ((HS.out.later HBB.out).asked hd2 hk2).later hbD
      have htD := ((HT.out.later HBB.out).asked hk2).later hbD
      have HK0 := Hid.mk (((Keeps.of_below F HBB.out).trans hk2 (fun _ h => .inl h)).trans (Keeps.of_below (fun _ => False) hbD) (fun _ h => h.elim) : Keeps F w wD)
      have HsD := Hid.mk hsD
      have HtD := Hid.mk htD
      have HwD := Hid.mk hwD
      have HBa := Hid.mk hblkA
      have hzD := hbD.size
      clear h2 hd2 hk2 hst honeC hbD hblkC hblkA hsD htD hwD
      by_cases ke : d = T.sees G S b
      · have dv := decide_eq_true ke
        have HKe := Hid.mk ke
        clear ke
        have hwD' := HwD.out
        subst hwD'
        go_wp2_with (first | refine wpList_store_mid rfl 118 _ _ rfl w2.heap.size 0 C.toArray rfl rfl ?h1 ?h2 hallC ?_ | refine wpList_load_mid rfl 118 _ rfl w1.heap.size 0 rfl A _ raA Tryz.underlying118 rfl hinfo ?_ | refine wpList_load_mid rfl 118 _ rfl w2.heap.size 0 rfl C _ raC Tryz.underlying118 rfl hinfoC ?_ | refine wpList_eq_con rfl _ _ _ rfl A C d (T.sees G S b) HA.out HC.out rfl rfl k2 hlen true dv ?_)
        case h1 => first | simpa using hth | (rw [hC5] at hth; simpa using hth)
        case h2 => simpa using hinfoC
        go_ret
        rw [HRR.out, if_pos HKe.out]
        exact ⟨rfl, HtD.out.tx, HtD.out.ch, HsD.out.d, HK0.out.mono (fun _ h => .inl h)⟩
      · have dv := decide_eq_false ke
        have HKe := Hid.mk ke
        clear ke
        have hwD' := HwD.out
        subst hwD'
        go_upto_region 12 with (first | refine wpList_store_mid rfl 118 _ _ rfl w2.heap.size 0 C.toArray rfl rfl ?h3 ?h4 hallC ?_ | refine wpList_load_mid rfl 118 _ rfl w1.heap.size 0 rfl A _ raA Tryz.underlying118 rfl hinfo ?_ | refine wpList_load_mid rfl 118 _ rfl w2.heap.size 0 rfl C _ raC Tryz.underlying118 rfl hinfoC ?_ | refine wpList_eq_con rfl _ _ _ rfl A C d (T.sees G S b) HA.out HC.out rfl rfl k2 hlen false dv ?_)
        case h3 => first | simpa using hth | (rw [hC5] at hth; simpa using hth)
        case h4 => simpa using hinfoC
        generalize hww : (w2.alloc (.cells zsec 118)).setCells w2.heap.size 0 C = wD at *
        clear hww hth HwD raC
        have hb2 : b < 2048 := by have := HS.out.hs; have := HS.out.d.ok.hi; omega
        have hlook := HtD.out.ch.look b hb2
        obtain ⟨CL, hcv, hCL5, hallL, hinfoL⟩ := conV_cells (CM.get T.puts b) (fun c hc => (HtD.out.ch.len _ (CM.get_mem hc)).2.1)
        rw [hcv] at hlook
        have hst := cells_stored wD hCL5
        have hth := hst.2
        have c1 := HtD.out.c1
        obtain ⟨wE, hwE⟩ : ∃ wE, wE = (wD.alloc (.cells zsec 118)).setCells wD.heap.size 0 CL := ⟨_, rfl⟩
        have hbE : Below wD.heap.size wD wE := by rw [hwE]; exact hst.1
        have HsE := Hid.mk (HsD.out.later hbE)
        have HtE := Hid.mk (HtD.out.later hbE)
        have HKE := Hid.mk (HK0.out.trans (Keeps.of_below (fun _ => False) hbE) (fun _ h => h.elim) : Keeps F w wE)
        have HBe := Hid.mk (HBa.out.keep (hbE.block _ (lt_there HBa.out)) : Blk wE 118 w1.heap.size d)
        have HwE := Hid.mk hwE
        clear hst hbE hwE hcv
        go_upto_region 13 with (refine wpList_store_mid rfl 118 _ _ rfl wD.heap.size 0 CL.toArray rfl rfl ?h5 ?h6 hallL ?_)
        case h5 => first | simpa using hth | (rw [hCL5] at hth; simpa using hth)
        case h6 => simpa using hinfoL
        have hwE' := HwE.out
        subst hwE'
        generalize hww : (wD.alloc (.cells zsec 118)).setCells wD.heap.size 0 CL = wE at *
        clear hww hth HwE hlook c1
        have c1 := HtE.out.c1
        have hlen3 := fun ty => HtE.out.ch.length ty
        by_cases kk1 : (CM.get T.puts b).isSome = false ∧ T.puts.length = 16
        · have ka := kk1.1
          have kb : ((T.puts.length : Int) == 16) = true := by rw [beq_iff_eq]; omega
          have h3 := spoil_any HsE.out HtE.out 50
          have e3 : T.spoil G S 50 = (50, { T with bad := 50 }) := by
            unfold TG.spoil TG.state TG.over
            rw [HR.out.1, HR.out.2.1, HR.out.2.2]
            simp
          rw [e3] at h3
          have HK1 := Hid.mk kk1
          clear kk1 e3
          go_wp2_with fail
          refine h3.mono ?_
          rintro e w4 ⟨rfl, h4, h5⟩
          have HN : Hid (PutOut w w4 F p s (cR + 1) q t n S (50, { T with bad := 50 }) (.returned (.int .i64 50))) := ⟨rfl, h4, HtE.out.ch.keep h5 (fun e => HtE.out.tn e.symm), HsE.out.d.keep h5 (fun k hk e => HtE.out.nt (e ▸ hk)), (HKE.out.mono (fun _ h => .inl h)).trans h5 (fun _ e => .inl (.inr (.inl e)))⟩
          clear h3 h4 h5
          go_wp2
          go_ret
          rw [HRR.out, if_neg HKe.out, if_pos HK1.out]
          exact HN.out
        · have hchd := HtE.out.ch.later (below_drew (Below.refl _ _))
          obtain ⟨wU, hrun, hch, hkU, hszU⟩ := hchd.store b hb2 d k2 hbd
          have hrun' : (Instr.mapUpdate 102 (.map (some n)) (.int .i64 (b : Int)) (.agg A.toArray)).run Tryz.prog wE.drew = .ok () wU := by rw [HA.out]; exact hrun
          have raE : wE.rangeAt w1.heap.size 0 A := fun j v hv => by
            have := HBe.out.news j v (by rw [← HA.out]; exact hv)
            rwa [addr_add] at this
          have hkU2 := (Keeps.of_below (fun k => k = n) (below_drew (Below.refl wE.heap.size wE))).trans hkU (fun _ h => .inl h)
          have HN : Hid (PutOut w wU F p s (cR + 1) q t n S (0, { T with puts := CM.put T.puts b d }) (.returned (.int .i64 0))) := ⟨rfl, (hkU2.block t (lt_there HtE.out.tx) HtE.out.tn).trans HtE.out.tx, hch, HsE.out.d.keep hkU2 (fun k hk e => HtE.out.nn (e ▸ hk)), (HKE.out.mono (fun _ h => .inl h)).trans hkU2 (fun _ e => .inl (.inr (.inr e)))⟩
          have HK1 := Hid.mk kk1
          have HC1 := Hid.mk c1
          have hund := Tryz.underlying118
          have hnw1 : w1.heap.size ≠ n := by have := HT.out.ch.lt; omega
          have hblkU := HBe.out.keep (hkU2.block _ (lt_there HBe.out) hnw1)
          have HC2 : Hid (wU.cell? ⟨t, 1, none⟩ = some (.map (some n)) ∧ wU.rangeAt w1.heap.size 0 A) := ⟨cell_of_block ((hkU2.block t (lt_there HtE.out.tx) HtE.out.tn).trans HtE.out.tx) (j := 1) rfl, fun j v hv => by
            have := hblkU.news j v (by rw [← HA.out]; exact hv)
            rwa [addr_add] at this⟩
          clear hblkU
          cases hg : (CM.get T.puts b).isSome
          · have kb : ((T.puts.length : Int) == 16) = false := by
              rw [beq_eq_false_iff_ne]
              intro e
              exact kk1 ⟨hg, by omega⟩
            clear kk1 hchd hrun hch hkU hkU2
            go_wp2_with fail
            go_region_held3 (fun w' => w'.cell? ⟨t, 1, none⟩ = some (.map (some n)) ∧ w'.rangeAt w1.heap.size 0 A) (first | exact ⟨HC1.out, raE⟩ | exact HC2.out) (fail)
            go_wp2
            go_ret
            rw [HRR.out, if_neg HKe.out, if_neg HK1.out]
            exact HN.out
          · clear kk1 hchd hrun hch hkU hkU2
            go_wp2_with fail
            go_region_held3 (fun w' => w'.cell? ⟨t, 1, none⟩ = some (.map (some n)) ∧ w'.rangeAt w1.heap.size 0 A) (first | exact ⟨HC1.out, raE⟩ | exact HC2.out) (fail)
            go_wp2
            go_ret
            rw [HRR.out, if_neg HKe.out, if_neg HK1.out]
            exact HN.out
    · rw [if_pos k2] at hR
      have HRR := Hid.mk hR
      clear hR
      have dx : ((x : Int) != 512) = true := by rw [bne_iff_ne]; omega
      clear h ht hs hself k r1 r2 r3 r4 r5 k2
      have HB := Hid.mk hb1
      clear h1 hb1
      go_wp2
      go_ret
      rw [HRR.out]
      exact HSelf.out _ HB.out 2
  · rw [if_pos k] at hR
    have HRR := Hid.mk hR
    clear hR
    have dk : (T.refusal G S b != 0) = true := by rw [bne_iff_ne]; exact k
    clear h ht hs hself k
    generalize T.refusal G S b = E at *
    refine h1.mono ?_
    rintro e w1 ⟨rfl, hb1⟩
    have HB := Hid.mk hb1
    clear h1 hb1
    go_wp2
    go_ret
    rw [HRR.out]
    exact HSelf.out _ HB.out E
end
end Go.Proofs.YtokcgifpljeoiaaGreat
end

section
namespace Go.Proofs.YtokcgifpljeoiaaGreat
open Go.RowKit Go.Maps

/-- A map with what has come already laid over it. -/
def CopyTo (ms ns X : CM) (left : Lit → Bool) : Prop := ∀ k, CM.get X k = if left (kk k) = false ∧ (CM.get ns k).isSome = true then CM.get ns k else CM.get ms k

set_option maxRecDepth 20000 in
set_option maxHeartbeats 8000000 in
theorem mcopy_low {w : World} {m n : Nat} {ms ns : CM} {D : DataW Value} (h : Ch w m ms) (hn : ChAt w n ns D) (hmn : m ≠ n) :
    Calls Tryz.prog 99 #[.map (some m), .map (some n)] w fun e w' => e = .returned (.tuple #[]) ∧ Ch w' m (CM.over ms ns) ∧ Keeps (fun k => k = m) w w' := by
  have hml := h.lt
  have hzc := zeroCon
  have H := hn
  have HM := h
  clear h hn
  go_enter Tryz.func99, Tryz.ntmps99
  go_wp2_with (at_range; refine wpList_range_own _ rfl _ 102 rfl 3 118 keyInt Tryz.underlying102 Ra n ns.length D rfl H.own ?_; intro w0 hrg0 hg0 hs0; go_frame)
  have hb0 := (Below.refl _ w).grown hg0 (Nat.le_refl _) (fun j hj => by cases hj)
  clear hg0
  go_loopw [4] (fun _ wr => ∃ (left : Lit → Bool) (cnt : Nat) (X : CM), wr.ranges Tryz.prog 3 Ra n w.heap.size ns.length D left cnt ∧ Ch wr m X ∧ CopyTo ms ns X left ∧ Keeps (fun k => k = m) w wr ∧ w.heap.size + 1 ≤ wr.heap.size)
    (fun _ wr => wr.rangeLeft n w.heap.size)
  case atStart =>
    refine ⟨_, _, ms, hrg0, HM.later hb0, fun k => ?_, Keeps.of_below _ hb0, by omega⟩
    rw [if_neg]
    rintro ⟨h1, h2⟩
    obtain ⟨c, hc⟩ := Option.isSome_iff_exists.1 h2
    rw [(H.at' k c hc).1] at h1
    cases h1
  case round =>
    clear hrg0 hb0 hs0
    obtain ⟨left, cnt, X, hrg, hX, hcp, hkp, hsz⟩ := hrel
    go_wp2_with (at_next; refine wpList_next_ranges _ rfl _ rfl 3 keyInt Ra (Value.int .i64) Value.agg (fun key kl hkey => by obtain ⟨x, rfl, _⟩ := Maps.keyOf_int_inv Tryz.underlying3 hkey; exact ⟨x, rfl⟩) Ra_agg n w.heap.size ns.length _ _ _ rfl hrg ?_ ?_)
    · intro _ hl0
      have hXo : X = CM.over ms ns := by
        refine CM.ext hX.ok (CM.over_ok HM.ok ns) (fun k => ?_)
        rw [hcp k, CM.get_over HM.ok k H.ok, hl0]
        cases hg : CM.get ns k with
        | none => simp
        | some c => simp
      have HN := (And.intro (hXo ▸ hX) hkp)
      clear hrg hX hcp hkp H HM
      go_wp2
      go_end0
      exact ⟨rfl, HN⟩
    · intro x ca kl yd yp w2 cnt2 hkey hlk hv hat hrg2 hlt hg2 hs2 hen
      obtain ⟨k, c, rfl, rfl, hgc, hca⟩ := H.meets hkey hv hat
      have hq5 := H.len _ (CM.get_mem hgc)
      injection hca with hca
      have hst := con_stored w2 hq5.2.1
      have hinfo := infoConL hq5.2.1
      have hone := bs_one c
      obtain ⟨A, hA⟩ : ∃ A, A = bs c := ⟨_, rfl⟩
      rw [← hA] at hca hst hinfo hone
      have hF5 : A.length = 512 := by rw [hA, bs, List.length_map, hq5.2.1]
      have hall := all_oneCell_toArray hone
      subst hca
      have hX2 := hX.agree (hg2.block m hX.lt (fun e => by injection e with e; omega))
      have hkp2 := hkp.trans (G := fun j => j = w.heap.size) ⟨hg2.os, hg2.tape, hg2.output, hg2.size, fun j hj hne => hg2.block j hj (fun e => hne (by injection e))⟩ (fun j e => .inr (by omega))
      obtain ⟨wS, hwS⟩ : ∃ wS, wS = (w2.alloc (.cells zsec 118)).setCells w2.heap.size 0 A := ⟨_, rfl⟩
      have hth := hst.2.2
      have hbS : Below w2.heap.size w2 wS := by rw [hwS]; exact hst.2.1
      have raS : wS.rangeAt w2.heap.size 0 A := fun j v hv => by
        rw [hwS]
        have := hst.1.news j v (by rw [← hA]; exact hv)
        rwa [addr_add] at this
      obtain ⟨wU, hrun, hch, hkU, hszU⟩ := (hX2.later hbS).store k hq5.1 c hq5.2.1 hq5.2.2
      have hrun' : (Instr.mapUpdate 102 (.map (some m)) (.int .i64 (k : Int)) (.agg A.toArray)).run Tryz.prog wS = .ok () wU := by rw [hA]; exact hrun
      have hrgU := (hrg2.kept (row := none) ⟨hbS.os, hbS.tape, hbS.output, hbS.size, fun j hj _ => hbS.block j hj⟩ (fun e => by cases e) (fun e => by cases e)).kept (row := some m) ⟨hkU.os, hkU.tape, hkU.output, hkU.size, fun j hj hne => hkU.block j hj (fun e => hne (by rw [e]))⟩ (fun e => hmn (by injection e with e; exact e.symm)) (fun e => by injection e with e; omega)
      have hcp2 : CopyTo ms ns (CM.put X k c) (fun z => left z && !z.sameKey (kk k)) := fun j => by
        show CM.get (CM.put X k c) j = if (left (kk j) && !(kk j).sameKey (kk k)) = false ∧ (CM.get ns j).isSome = true then CM.get ns j else CM.get ms j
        rw [CM.get_put _ _ _ _ hX.ok, hcp j, same_kk]
        by_cases e : j = k
        · subst e
          simp [hgc]
        · simp [e]
      have HN : (wU.ranges Tryz.prog 3 Ra n w.heap.size ns.length D (fun z => left z && !z.sameKey (kk k)) cnt2 ∧ Ch wU m (CM.put X k c) ∧ CopyTo ms ns (CM.put X k c) (fun z => left z && !z.sameKey (kk k)) ∧ Keeps (fun k => k = m) w wU ∧ w.heap.size + 1 ≤ wU.heap.size) := ⟨hrgU, hch, hcp2, ((hkp2.trans (Keeps.of_below (fun _ => False) hbS) (fun _ h => h.elim)).trans hkU (fun _ h => .inl h)), by have := hbS.size; omega⟩
      have HwS := hwS
      clear hkey hv hat hs2 hg2 hX hX2 hcp hcp2 hkp hkp2 hrgU hrun hch hkU hszU hbS hA hone hgc hrg2 hst hq5
      subst hwS
      generalize zsec = Z at *
      go_wp2_with (first | refine wpList_store_mid rfl 118 _ _ rfl w2.heap.size 0 A.toArray rfl rfl ?h1 ?h2 hall ?_ | refine wpList_load_mid rfl 118 _ rfl w2.heap.size 0 rfl A _ raS Tryz.underlying118 rfl hinfo ?_)
      case h1 => first | simpa using hth | (rw [hF5] at hth; simpa using hth)
      go_roundw
      case rel => exact ⟨_, cnt2, _, HN⟩
      case measure => rw [HN.1.left_eq, hrg.left_eq]; exact hlt
theorem mcopy_any {w : World} {m n : Nat} {ms ns : CM} (h : Ch w m ms) (hn : Ch w n ns) (hmn : m ≠ n) :
    Calls Tryz.prog 99 #[.map (some m), .map (some n)] w fun e w' => e = .returned (.tuple #[]) ∧ Ch w' m (CM.over ms ns) ∧ Keeps (fun k => k = m) w w' := by
  obtain ⟨D, hn⟩ := hn
  exact mcopy_low h hn hmn
end Go.Proofs.YtokcgifpljeoiaaGreat
end
