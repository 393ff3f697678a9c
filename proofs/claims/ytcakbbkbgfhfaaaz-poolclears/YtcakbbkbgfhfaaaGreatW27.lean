import Derived.Test.YtcakbbkbgfhfaaaGreatW26
section
namespace Go.Proofs.YtcakbbkbgfhfaaaGreat
open Go.RowKit Go.Maps
section
variable {w:World} {F:Nat→Prop} {p s cR q l m t n a:Nat} {S:DS} {G:SG} {T:TG}
set_option maxRecDepth 20000 in
set_option maxHeartbeats 8000000 in
theorem dropBlock_any (h:TX w F p s cR q l m t n S G T) (hp:PoolAt w F a t n) (x:Int):
  Calls Tryz.prog 37 #[.pointer (some ⟨a,0,none⟩), .int .i64 x] w fun e w'=>e= .returned (.int .i64 (T.pdrop G S (bSt G.y) x).1)∧TX w' F p s (cR+2) q l m t n S G ((T.pdrop G S (bSt G.y) x).2.caught G S (T.pdrop G S (bSt G.y) x).1)∧Keeps (OwT F t n) w w':=by
 obtain⟨hB1,hg1,hg2,hsz1⟩:=heap2 w (.cells #[.pointer (some ⟨a,0,none⟩)] 25) (.cells #[.int .i64 0] 34)
 obtain⟨w1,hw1⟩:∃w1,w1=(w.alloc (.cells #[.pointer (some ⟨a,0,none⟩)] 25)).alloc (.cells #[.int .i64 0] 34):=⟨_,rfl⟩
 rw [←hw1] at hB1 hg1 hg2 hsz1
 have hlt:=h.lt
 have hx1:=h.later hB1
 have hp1:=hp.later hB1
 have hblk:=blocks_any hx1 hp1
 have HT:Hid (∀w2,Below w1.drew.heap.size w1.drew w2→Calls Tryz.prog 61 #[.pointer (some ⟨a,0,none⟩),stkV (bSt G.y), .int .i64 x] w2 fun e w'=>Ran (T.pdrop G S (bSt G.y) x).1 (.tuple #[]) e∧TX w' F p s (cR+2) q l m t n S G (T.pdrop G S (bSt G.y) x).2∧Keeps (OwT F t n) w2 w'):=fun w2 hb=>pdrop_any (hx1.later hb) (hp1.later hb) (bSt G.y) (bSt_ok h.yk) x
 have c0:w1.drew.cell? ⟨w.heap.size,0,none⟩=some (.pointer (some ⟨a,0,none⟩)):=cell_of_block hg1 (j:=0) rfl
 have n1:¬OwT F t n w.heap.size:=fun hf=>by have:=hlt _ hf;omega
 have n2:¬OwT F t n (w.heap.size+1):=fun hf=>by have:=hlt _ hf;omega
 have HG:=Hid.mk (And.intro hg1 hg2)
 have HB:=Hid.mk hB1
 have HP:=Hid.mk hp1
 have HLo:=Hid.mk h.low
 have hpa:=hp.lt
 generalize T.pdrop G S (bSt G.y) x=R at*
 generalize stkV (bSt G.y)=V at*
 have ht2:w.heap.size+1≠t:=fun e=>n2 (.inr (.inl e))
 clear h hp hB1 hx1 hp1 hg1 hg2
 go_enter_defers Tryz.func37,Tryz.ntmps37
 go_wp2_with fail
 rw [←hw1]
 clear hw1
 refine wp_mixed (PnT [{target:= .fn (.func 62) #[.pointer (some ⟨w.heap.size,0,none⟩), .pointer (some ⟨w.heap.size+1,0,none⟩)],args:= #[]}] [(4, .pointer (some ⟨w.heap.size+1,0,none⟩))] (fun c w3=>c=gave R.1∧R.1≠0∧TX w3 F p s (cR+2) q l m t n S G R.2∧Keeps (OwT F t n) w w3∧PoolAt w3 F a t n∧w3.heap[w.heap.size]? =some (.cells #[.pointer (some ⟨a,0,none⟩)] 25 (0,0))∧w3.heap[w.heap.size+1]? =some (.cells #[.int .i64 0] 34 (0,0)))) ?_ ?_
 ·rintro c A w3 ⟨hd,hsl,rfl,hZ,hx3,hk3,hp3,g1,g2⟩
  have s3:=hsl (4, .pointer (some ⟨w.heap.size+1,0,none⟩)) (by simp)
  dsimp only at s3
  rw [Array.getD_eq_getD_getElem?] at s3
  have hca:R.2.caught G S R.1=(R.2.spoil G S R.1).2:=by unfold TG.caught;rw [if_neg hZ]
  have HCA:=Hid.mk hca
  clear hca
  go_wp2
  show Leaves Tryz.prog _ A.tmps _ A.defers _ w3
  rw [hd]
  refine leaves_cons (f:=62) (args:= #[.pointer (some ⟨w.heap.size,0,none⟩), .pointer (some ⟨w.heap.size+1,0,none⟩)]) (by simp) (by simp [go_sem]) ?_
  refine(dropBC_panic hx3 hp3 g1 g2 ht2 R.1).mono ?_
  rintro e u' w4 ⟨rfl,rfl,w5,hx5,hk5,hb5,hk6⟩
  have q2:w4.cell? ⟨w.heap.size+1,0,none⟩=some (.int .i64 R.1):=cell_of_block hb5 (j:=0) rfl
  simp [Leaves,settle,results,Tryz.results37,go_sem,s3,q2,HCA.out]
  exact⟨hx5.side HLo.out hk6 (fun k e=>by omega),(hk3.trans hk5 (fun _ e=> .inl (.inr (.inl e)))).trans hk6 (fun k e=> .inr (by omega))⟩
 refine wp_region_held_drew (S:=(fun w'=>w'.cell? ⟨w.heap.size,0,none⟩=some (.pointer (some ⟨a,0,none⟩)))) (by kernel_rfl) (c0) (fun hHeld=>?_)
 refine wpAnyH_take (i:=0) (oi:={dst:=some 6,op:=Op.load 25 (Operand.tmp 2),type:=25,pos:= "pool.go:36",after:= #[],guard:=none}) (v:= .pointer (some ⟨a,0,none⟩)) rfl (by kernel_rfl) (by kernel_rfl) (by kernel_rfl) (mixPut (d:=6) (by simp)) (Or.inl ⟨by rfl,?_⟩) (by assumption) ?_
 ·intro w hSw
  (try dsimp only at hSw)
  go_simp
 try simp only [Act.put,List.setIfInBounds_toArray,List.set_cons_zero,List.set_cons_succ]
 refine wpAnyH_take (i:=1) (oi:={dst:=some 7,op:=Op.load 25 (Operand.tmp 2),type:=25,pos:= "pool.go:36",after:= #[],guard:=none}) (v:= .pointer (some ⟨a,0,none⟩)) rfl (by kernel_rfl) (by kernel_rfl) (by kernel_rfl) (mixPut (d:=7) (by simp)) (Or.inl ⟨by rfl,?_⟩) (by assumption) ?_
 ·intro w hSw
  (try dsimp only at hSw)
  go_simp
 try simp only [Act.put,List.setIfInBounds_toArray,List.set_cons_zero,List.set_cons_succ]
 refine wpAnyH_take (i:=3) (oi:={dst:=some 9,op:=Op.move (Operand.tmp 1),type:=3,pos:= "pool.go:36",after:= #[],guard:=none}) (v:= .int .i64 x) rfl (by kernel_rfl) (by kernel_rfl) (by kernel_rfl) (mixPut (d:=9) (by simp)) (Or.inl ⟨by rfl,?_⟩) (by assumption) ?_
 ·intro w hSw
  (try dsimp only at hSw)
  go_simp
 try simp only [Act.put,List.setIfInBounds_toArray,List.set_cons_zero,List.set_cons_succ]
 refine wpAnyH_ready (rs:= [2]) (by kernel_rfl) (by simp) ?_
 refine AllReadyH.cons (o:={dst:=some 8,op:=Op.call {callee:=Callee.value (Operand.func 32),args:= #[Operand.tmp 7],argTypes:= #[25]},type:=78,pos:= "pool.go:36",after:= #[{on:=1,ground:=Ground.data}],guard:=none}) rfl (fun K hK=>?_) AllReadyH.nil
 go_simp
 refine hblk.mono ?_
 rintro e w2 ⟨rfl,hb2⟩
 have c0':w2.cell? ⟨w.heap.size,0,none⟩=some (.pointer (some ⟨a,0,none⟩)):=cell_of_block ((hb2.block _ (lt_there HG.out.1)).trans HG.out.1) (j:=0) rfl
 refine hK.out _ _ ?_ (fun hHeld=>?_)
 ·exact c0'
 clear hK K
 try simp only [Act.put,List.setIfInBounds_toArray,List.set_cons_zero,List.set_cons_succ]
 refine wpAnyH_ready (rs:= [4]) (by kernel_rfl) (by simp) ?_
 refine AllReadyH.cons (o:={dst:=some 10,op:=Op.call {callee:=Callee.value (Operand.func 61),args:= #[Operand.tmp 6,Operand.tmp 8,Operand.tmp 9],argTypes:= #[25,78,3]},type:=0,pos:= "pool.go:36",after:= #[{on:=0,ground:=Ground.data},{on:=2,ground:=Ground.data},{on:=3,ground:=Ground.data},{on:=2,ground:=Ground.chain}],guard:=none}) rfl (fun K hK=>?_) AllReadyH.nil
 go_simp
 refine(HT.out w2 hb2).mono ?_
 rintro e w3 ⟨htr,hx3,hk3⟩
 have hk3w:=(Keeps.of_below (OwT F t n) HB.out).trans ((Keeps.of_below (OwT F t n) hb2).trans hk3 (fun _ h=> .inl h)) (fun _ h=> .inl h)
 have g1:=(hk3.block _ (Nat.lt_of_lt_of_le (lt_there HG.out.1) hb2.size) n1).trans ((hb2.block _ (lt_there HG.out.1)).trans HG.out.1)
 have g2:=(hk3.block _ (Nat.lt_of_lt_of_le (lt_there HG.out.2) hb2.size) n2).trans ((hb2.block _ (lt_there HG.out.2)).trans HG.out.2)
 have hp3:=(HP.out.later hb2).keep hk3
 have HQ:Hid (TX w3 F p s (cR+2) q l m t n S G R.2∧Keeps (OwT F t n) w w3∧PoolAt w3 F a t n):=⟨hx3,hk3w,hp3⟩
 have HGG:=Hid.mk (And.intro g1 g2)
 unfold Ran at htr
 have c0'':w3.cell? ⟨w.heap.size,0,none⟩=some (.pointer (some ⟨a,0,none⟩)):=cell_of_block g1 (j:=0) rfl
 have d0:w3.cell? ⟨w.heap.size+1,0,none⟩=some (.int .i64 0):=cell_of_block g2 (j:=0) rfl
 have f0:=frozen_of_block g2 0
 clear hblk hb2 c0 c0' hx3 hk3 hk3w g1 g2 hp3
 by_cases hr1:R.1=0
 rotate_left
 ·rw [if_neg hr1] at htr
  subst htr
  exact⟨rfl,by simp,rfl,hr1,HQ.out.1,HQ.out.2.1,HQ.out.2.2,HGG.out.1,HGG.out.2⟩
 ·rw [if_pos hr1] at htr
  subst htr
  have HCA:Hid (R.1=0∧R.2.caught G S 0=R.2):=⟨hr1,by unfold TG.caught;rw [if_pos rfl]⟩
  clear hr1
  refine hK.out _ _ ?_ (fun hHeld=>?_)
  ·exact c0''
  clear hK K
  try simp only [Act.put,List.setIfInBounds_toArray,List.set_cons_zero,List.set_cons_succ]
  have pe:=putsE (w:=w3) (w':=w3) (x:=0) (.int .i64 0) rfl (Keeps.refl _ _) HGG.out.2
  refine wpAnyH_done (by kernel_rfl) ?_ _
  dsimp only [mixP]
  have HPE:=Hid.mk pe
  clear pe hHeld c0''
  go_wp2
  have pe:=HPE.out
  obtain⟨w4,hw4⟩:∃w4,w4=w3.setCell ⟨w.heap.size+1,0,none⟩ (.int .i64 0):=⟨_,rfl⟩
  rw [←hw4] at pe
  rw [←hw4]
  have HPe:=Hid.mk pe
  clear pe hw4 HPE d0 f0
  refine leaves_cons (f:=62) (args:= #[.pointer (some ⟨w.heap.size,0,none⟩), .pointer (some ⟨w.heap.size+1,0,none⟩)]) (by simp) (by simp [go_sem]) ?_
  have hp4:PoolAt w4 F a t n:=⟨(HPe.out.2.block a HQ.out.2.2.lt (by omega)).trans HQ.out.2.2.b,HQ.out.2.2.nf⟩
  have g4:=(HPe.out.2.block _ (lt_there HGG.out.1) (by omega)).trans HGG.out.1
  refine(dropBC_idle hp4 g4 HPe.out.1).mono ?_
  rintro e u' w5 ⟨rfl,rfl,hb5,hk5⟩
  have q2:w5.cell? ⟨w.heap.size+1,0,none⟩=some (.int .i64 0):=cell_of_block hb5 (j:=0) rfl
  simp [Leaves,settle,results,Tryz.results37,go_sem,q2,HCA.out.1,HCA.out.2]
  exact⟨(HQ.out.1.side HLo.out HPe.out.2 (fun k e=>by omega)).side HLo.out hk5 (fun k e=>by omega),(HQ.out.2.1.trans HPe.out.2 (fun k e=> .inr (by omega))).trans hk5 (fun k e=> .inr (by omega))⟩
set_option maxRecDepth 20000 in
set_option maxHeartbeats 8000000 in
theorem dropNode_any (h:TX w F p s cR q l m t n S G T) (hp:PoolAt w F a t n) (x:Int):
  Calls Tryz.prog 36 #[.pointer (some ⟨a,0,none⟩), .int .i64 x] w fun e w'=>e= .returned (.int .i64 (T.pdrop G S (nSt G.y) x).1)∧TX w' F p s (cR+2) q l m t n S G ((T.pdrop G S (nSt G.y) x).2.caught G S (T.pdrop G S (nSt G.y) x).1)∧Keeps (OwT F t n) w w':=by
 obtain⟨hB1,hg1,hg2,hsz1⟩:=heap2 w (.cells #[.pointer (some ⟨a,0,none⟩)] 25) (.cells #[.int .i64 0] 34)
 obtain⟨w1,hw1⟩:∃w1,w1=(w.alloc (.cells #[.pointer (some ⟨a,0,none⟩)] 25)).alloc (.cells #[.int .i64 0] 34):=⟨_,rfl⟩
 rw [←hw1] at hB1 hg1 hg2 hsz1
 have hlt:=h.lt
 have hx1:=h.later hB1
 have hp1:=hp.later hB1
 have hblk:=nodes_any hx1 hp1
 have HT:Hid (∀w2,Below w1.drew.heap.size w1.drew w2→Calls Tryz.prog 61 #[.pointer (some ⟨a,0,none⟩),stkV (nSt G.y), .int .i64 x] w2 fun e w'=>Ran (T.pdrop G S (nSt G.y) x).1 (.tuple #[]) e∧TX w' F p s (cR+2) q l m t n S G (T.pdrop G S (nSt G.y) x).2∧Keeps (OwT F t n) w2 w'):=fun w2 hb=>pdrop_any (hx1.later hb) (hp1.later hb) (nSt G.y) (nSt_ok h.yk) x
 have c0:w1.drew.cell? ⟨w.heap.size,0,none⟩=some (.pointer (some ⟨a,0,none⟩)):=cell_of_block hg1 (j:=0) rfl
 have n1:¬OwT F t n w.heap.size:=fun hf=>by have:=hlt _ hf;omega
 have n2:¬OwT F t n (w.heap.size+1):=fun hf=>by have:=hlt _ hf;omega
 have HG:=Hid.mk (And.intro hg1 hg2)
 have HB:=Hid.mk hB1
 have HP:=Hid.mk hp1
 have HLo:=Hid.mk h.low
 have hpa:=hp.lt
 generalize T.pdrop G S (nSt G.y) x=R at*
 generalize stkV (nSt G.y)=V at*
 have ht2:w.heap.size+1≠t:=fun e=>n2 (.inr (.inl e))
 clear h hp hB1 hx1 hp1 hg1 hg2
 go_enter_defers Tryz.func36,Tryz.ntmps36
 go_wp2_with fail
 rw [←hw1]
 clear hw1
 refine wp_mixed (PnT [{target:= .fn (.func 60) #[.pointer (some ⟨w.heap.size,0,none⟩), .pointer (some ⟨w.heap.size+1,0,none⟩)],args:= #[]}] [(4, .pointer (some ⟨w.heap.size+1,0,none⟩))] (fun c w3=>c=gave R.1∧R.1≠0∧TX w3 F p s (cR+2) q l m t n S G R.2∧Keeps (OwT F t n) w w3∧PoolAt w3 F a t n∧w3.heap[w.heap.size]? =some (.cells #[.pointer (some ⟨a,0,none⟩)] 25 (0,0))∧w3.heap[w.heap.size+1]? =some (.cells #[.int .i64 0] 34 (0,0)))) ?_ ?_
 ·rintro c A w3 ⟨hd,hsl,rfl,hZ,hx3,hk3,hp3,g1,g2⟩
  have s3:=hsl (4, .pointer (some ⟨w.heap.size+1,0,none⟩)) (by simp)
  dsimp only at s3
  rw [Array.getD_eq_getD_getElem?] at s3
  have hca:R.2.caught G S R.1=(R.2.spoil G S R.1).2:=by unfold TG.caught;rw [if_neg hZ]
  have HCA:=Hid.mk hca
  clear hca
  go_wp2
  show Leaves Tryz.prog _ A.tmps _ A.defers _ w3
  rw [hd]
  refine leaves_cons (f:=60) (args:= #[.pointer (some ⟨w.heap.size,0,none⟩), .pointer (some ⟨w.heap.size+1,0,none⟩)]) (by simp) (by simp [go_sem]) ?_
  refine(dropNC_panic hx3 hp3 g1 g2 ht2 R.1).mono ?_
  rintro e u' w4 ⟨rfl,rfl,w5,hx5,hk5,hb5,hk6⟩
  have q2:w4.cell? ⟨w.heap.size+1,0,none⟩=some (.int .i64 R.1):=cell_of_block hb5 (j:=0) rfl
  simp [Leaves,settle,results,Tryz.results36,go_sem,s3,q2,HCA.out]
  exact⟨hx5.side HLo.out hk6 (fun k e=>by omega),(hk3.trans hk5 (fun _ e=> .inl (.inr (.inl e)))).trans hk6 (fun k e=> .inr (by omega))⟩
 refine wp_region_held_drew (S:=(fun w'=>w'.cell? ⟨w.heap.size,0,none⟩=some (.pointer (some ⟨a,0,none⟩)))) (by kernel_rfl) (c0) (fun hHeld=>?_)
 refine wpAnyH_take (i:=0) (oi:={dst:=some 6,op:=Op.load 25 (Operand.tmp 2),type:=25,pos:= "pool.go:49",after:= #[],guard:=none}) (v:= .pointer (some ⟨a,0,none⟩)) rfl (by kernel_rfl) (by kernel_rfl) (by kernel_rfl) (mixPut (d:=6) (by simp)) (Or.inl ⟨by rfl,?_⟩) (by assumption) ?_
 ·intro w hSw
  (try dsimp only at hSw)
  go_simp
 try simp only [Act.put,List.setIfInBounds_toArray,List.set_cons_zero,List.set_cons_succ]
 refine wpAnyH_take (i:=1) (oi:={dst:=some 7,op:=Op.load 25 (Operand.tmp 2),type:=25,pos:= "pool.go:49",after:= #[],guard:=none}) (v:= .pointer (some ⟨a,0,none⟩)) rfl (by kernel_rfl) (by kernel_rfl) (by kernel_rfl) (mixPut (d:=7) (by simp)) (Or.inl ⟨by rfl,?_⟩) (by assumption) ?_
 ·intro w hSw
  (try dsimp only at hSw)
  go_simp
 try simp only [Act.put,List.setIfInBounds_toArray,List.set_cons_zero,List.set_cons_succ]
 refine wpAnyH_take (i:=3) (oi:={dst:=some 9,op:=Op.move (Operand.tmp 1),type:=3,pos:= "pool.go:49",after:= #[],guard:=none}) (v:= .int .i64 x) rfl (by kernel_rfl) (by kernel_rfl) (by kernel_rfl) (mixPut (d:=9) (by simp)) (Or.inl ⟨by rfl,?_⟩) (by assumption) ?_
 ·intro w hSw
  (try dsimp only at hSw)
  go_simp
 try simp only [Act.put,List.setIfInBounds_toArray,List.set_cons_zero,List.set_cons_succ]
 refine wpAnyH_ready (rs:= [2]) (by kernel_rfl) (by simp) ?_
 refine AllReadyH.cons (o:={dst:=some 8,op:=Op.call {callee:=Callee.value (Operand.func 33),args:= #[Operand.tmp 7],argTypes:= #[25]},type:=78,pos:= "pool.go:49",after:= #[{on:=1,ground:=Ground.data}],guard:=none}) rfl (fun K hK=>?_) AllReadyH.nil
 go_simp
 refine hblk.mono ?_
 rintro e w2 ⟨rfl,hb2⟩
 have c0':w2.cell? ⟨w.heap.size,0,none⟩=some (.pointer (some ⟨a,0,none⟩)):=cell_of_block ((hb2.block _ (lt_there HG.out.1)).trans HG.out.1) (j:=0) rfl
 refine hK.out _ _ ?_ (fun hHeld=>?_)
 ·exact c0'
 clear hK K
 try simp only [Act.put,List.setIfInBounds_toArray,List.set_cons_zero,List.set_cons_succ]
 refine wpAnyH_ready (rs:= [4]) (by kernel_rfl) (by simp) ?_
 refine AllReadyH.cons (o:={dst:=some 10,op:=Op.call {callee:=Callee.value (Operand.func 61),args:= #[Operand.tmp 6,Operand.tmp 8,Operand.tmp 9],argTypes:= #[25,78,3]},type:=0,pos:= "pool.go:49",after:= #[{on:=0,ground:=Ground.data},{on:=2,ground:=Ground.data},{on:=3,ground:=Ground.data},{on:=2,ground:=Ground.chain}],guard:=none}) rfl (fun K hK=>?_) AllReadyH.nil
 go_simp
 refine(HT.out w2 hb2).mono ?_
 rintro e w3 ⟨htr,hx3,hk3⟩
 have hk3w:=(Keeps.of_below (OwT F t n) HB.out).trans ((Keeps.of_below (OwT F t n) hb2).trans hk3 (fun _ h=> .inl h)) (fun _ h=> .inl h)
 have g1:=(hk3.block _ (Nat.lt_of_lt_of_le (lt_there HG.out.1) hb2.size) n1).trans ((hb2.block _ (lt_there HG.out.1)).trans HG.out.1)
 have g2:=(hk3.block _ (Nat.lt_of_lt_of_le (lt_there HG.out.2) hb2.size) n2).trans ((hb2.block _ (lt_there HG.out.2)).trans HG.out.2)
 have hp3:=(HP.out.later hb2).keep hk3
 have HQ:Hid (TX w3 F p s (cR+2) q l m t n S G R.2∧Keeps (OwT F t n) w w3∧PoolAt w3 F a t n):=⟨hx3,hk3w,hp3⟩
 have HGG:=Hid.mk (And.intro g1 g2)
 unfold Ran at htr
 have c0'':w3.cell? ⟨w.heap.size,0,none⟩=some (.pointer (some ⟨a,0,none⟩)):=cell_of_block g1 (j:=0) rfl
 have d0:w3.cell? ⟨w.heap.size+1,0,none⟩=some (.int .i64 0):=cell_of_block g2 (j:=0) rfl
 have f0:=frozen_of_block g2 0
 clear hblk hb2 c0 c0' hx3 hk3 hk3w g1 g2 hp3
 by_cases hr1:R.1=0
 rotate_left
 ·rw [if_neg hr1] at htr
  subst htr
  exact⟨rfl,by simp,rfl,hr1,HQ.out.1,HQ.out.2.1,HQ.out.2.2,HGG.out.1,HGG.out.2⟩
 ·rw [if_pos hr1] at htr
  subst htr
  have HCA:Hid (R.1=0∧R.2.caught G S 0=R.2):=⟨hr1,by unfold TG.caught;rw [if_pos rfl]⟩
  clear hr1
  refine hK.out _ _ ?_ (fun hHeld=>?_)
  ·exact c0''
  clear hK K
  try simp only [Act.put,List.setIfInBounds_toArray,List.set_cons_zero,List.set_cons_succ]
  have pe:=putsE (w:=w3) (w':=w3) (x:=0) (.int .i64 0) rfl (Keeps.refl _ _) HGG.out.2
  refine wpAnyH_done (by kernel_rfl) ?_ _
  dsimp only [mixP]
  have HPE:=Hid.mk pe
  clear pe hHeld c0''
  go_wp2
  have pe:=HPE.out
  obtain⟨w4,hw4⟩:∃w4,w4=w3.setCell ⟨w.heap.size+1,0,none⟩ (.int .i64 0):=⟨_,rfl⟩
  rw [←hw4] at pe
  rw [←hw4]
  have HPe:=Hid.mk pe
  clear pe hw4 HPE d0 f0
  refine leaves_cons (f:=60) (args:= #[.pointer (some ⟨w.heap.size,0,none⟩), .pointer (some ⟨w.heap.size+1,0,none⟩)]) (by simp) (by simp [go_sem]) ?_
  have hp4:PoolAt w4 F a t n:=⟨(HPe.out.2.block a HQ.out.2.2.lt (by omega)).trans HQ.out.2.2.b,HQ.out.2.2.nf⟩
  have g4:=(HPe.out.2.block _ (lt_there HGG.out.1) (by omega)).trans HGG.out.1
  refine(dropNC_idle hp4 g4 HPe.out.1).mono ?_
  rintro e u' w5 ⟨rfl,rfl,hb5,hk5⟩
  have q2:w5.cell? ⟨w.heap.size+1,0,none⟩=some (.int .i64 0):=cell_of_block hb5 (j:=0) rfl
  simp [Leaves,settle,results,Tryz.results36,go_sem,q2,HCA.out.1,HCA.out.2]
  exact⟨(HQ.out.1.side HLo.out HPe.out.2 (fun k e=>by omega)).side HLo.out hk5 (fun k e=>by omega),(HQ.out.2.1.trans HPe.out.2 (fun k e=> .inr (by omega))).trans hk5 (fun k e=> .inr (by omega))⟩
end
end Go.Proofs.YtcakbbkbgfhfaaaGreat
end
