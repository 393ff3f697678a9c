import Derived.Test.YtcakbbkbgfhfaaaGreatW27
section
namespace Go.Proofs.YtcakbbkbgfhfaaaGreat
open Go.RowKit Go.Maps
section
variable {w:World} {F:Nat→Prop} {p s cR q l m t n a:Nat} {S:DS} {G:SG} {T:TG}
theorem refusal_no {b:Int} (h0:T.state G S≠0):T.refusal G S b=T.state G S:=by
 unfold TG.refusal
 rw [if_pos h0]
set_option maxRecDepth 20000 in
set_option maxHeartbeats 8000000 in
theorem left_no (h:TX w F p s cR q l m t n S G T) (hp:PoolAt w F a t n) (h0:T.state G S≠0):
  Calls Tryz.prog 15 #[.pointer (some ⟨a,0,none⟩)] w fun e w'=>e= .returned (.tuple #[.int .i64 0, .int .i64 0, .int .i64 (T.state G S)])∧TX w' F p s (cR+2) q l m t n S G (T.spoil G S (T.state G S)).2∧Keeps (OwT F t n) w w':=by
 obtain⟨hB1,hg1,hg2,hsz1⟩:=heap2 w (.cells #[.pointer (some ⟨a,0,none⟩)] 25) (.cells #[.int .i64 0] 34)
 obtain⟨w1,hw1⟩:∃w1,w1=(w.alloc (.cells #[.pointer (some ⟨a,0,none⟩)] 25)).alloc (.cells #[.int .i64 0] 34):=⟨_,rfl⟩
 rw [←hw1] at hB1 hg1 hg2 hsz1
 have hlt:=h.lt
 have hx1:=h.later hB1
 have hp1:=hp.later hB1
 have hblk:=blocks_any hx1 hp1
 have hrf:T.refusal G S (bSt G.y).bm≠0:=by rw [refusal_no h0];exact h0
 have HT:Hid (∀w2,Below w1.drew.heap.size w1.drew w2→Calls Tryz.prog 31 #[.pointer (some ⟨a,0,none⟩),stkV (bSt G.y)] w2 fun e w'=>e= .panicked (gave (T.state G S))∧TX w' F p s (cR+1) q l m t n S G T∧Keeps F w2 w'):=fun w2 hb=>by
  have:=pleft_no (hx1.later hb) (hp1.later hb) (bSt G.y) hrf
  rw [refusal_no h0] at this
  exact this
 have c0:w1.drew.cell? ⟨w.heap.size,0,none⟩=some (.pointer (some ⟨a,0,none⟩)):=cell_of_block hg1 (j:=0) rfl
 have n1:¬OwT F t n w.heap.size:=fun hf=>by have:=hlt _ hf;omega
 have n2:¬OwT F t n (w.heap.size+1):=fun hf=>by have:=hlt _ hf;omega
 have HG:=Hid.mk (And.intro hg1 hg2)
 have HB:=Hid.mk hB1
 have HP:=Hid.mk hp1
 have HLo:=Hid.mk h.low
 have hpa:=hp.lt
 generalize T.state G S=R at*
 generalize stkV (bSt G.y)=V at*
 clear hrf
 have ht2:w.heap.size+1≠t:=fun e=>n2 (.inr (.inl e))
 clear h hp hB1 hx1 hp1 hg1 hg2 h0
 go_enter_defers Tryz.func15,Tryz.ntmps15
 go_wp2_with fail
 rw [←hw1]
 clear hw1
 refine wp_mixed (PnT [{target:= .fn (.func 28) #[.pointer (some ⟨w.heap.size,0,none⟩), .pointer (some ⟨w.heap.size+1,0,none⟩)],args:= #[]}] [(2, .int .i64 0),(3, .int .i64 0),(4, .pointer (some ⟨w.heap.size+1,0,none⟩))] (fun c w3=>c=gave R∧TX w3 F p s (cR+1) q l m t n S G T∧Keeps F w w3∧PoolAt w3 F a t n∧w3.heap[w.heap.size]? =some (.cells #[.pointer (some ⟨a,0,none⟩)] 25 (0,0))∧w3.heap[w.heap.size+1]? =some (.cells #[.int .i64 0] 34 (0,0)))) ?_ ?_
 ·rintro c A w3 ⟨hd,hsl,rfl,hx3,hk3,hp3,g1,g2⟩
  have s1:=hsl (2, .int .i64 0) (by simp)
  have s2:=hsl (3, .int .i64 0) (by simp)
  have s3:=hsl (4, .pointer (some ⟨w.heap.size+1,0,none⟩)) (by simp)
  dsimp only at s1 s2 s3
  rw [Array.getD_eq_getD_getElem?] at s1 s2 s3
  go_wp2
  show Leaves Tryz.prog _ A.tmps _ A.defers _ w3
  rw [hd]
  refine leaves_cons (f:=28) (args:= #[.pointer (some ⟨w.heap.size,0,none⟩), .pointer (some ⟨w.heap.size+1,0,none⟩)]) (by simp) (by simp [go_sem]) ?_
  refine(leftC_panic hx3 hp3 g1 g2 ht2 R).mono ?_
  rintro e u' w4 ⟨rfl,rfl,w5,hx5,hk5,hb5,hk6⟩
  have q2:w4.cell? ⟨w.heap.size+1,0,none⟩=some (.int .i64 R):=cell_of_block hb5 (j:=0) rfl
  simp [Leaves,settle,results,Tryz.results15,go_sem,s1,s2,s3,q2]
  exact⟨(hx5.side HLo.out hk6 (fun k e=>by omega)).le (by omega),((hk3.mono (fun _ h=> .inl h)).trans hk5 (fun _ e=> .inl (.inr (.inl e)))).trans hk6 (fun k e=> .inr (by omega))⟩
 refine wp_region_held_drew (S:=(fun w'=>w'.cell? ⟨w.heap.size,0,none⟩=some (.pointer (some ⟨a,0,none⟩)))) (by kernel_rfl) (c0) (fun hHeld=>?_)
 refine wpAnyH_take (i:=0) (oi:={dst:=some 6,op:=Op.load 25 (Operand.tmp 1),type:=25,pos:= "pool.go:56",after:= #[],guard:=none}) (v:= .pointer (some ⟨a,0,none⟩)) rfl (by kernel_rfl) (by kernel_rfl) (by kernel_rfl) (mixPut (d:=6) (by simp)) (Or.inl ⟨by rfl,?_⟩) (by assumption) ?_
 ·intro w hSw
  (try dsimp only at hSw)
  go_simp
 try simp only [Act.put,List.setIfInBounds_toArray,List.set_cons_zero,List.set_cons_succ]
 refine wpAnyH_take (i:=1) (oi:={dst:=some 7,op:=Op.load 25 (Operand.tmp 1),type:=25,pos:= "pool.go:56",after:= #[],guard:=none}) (v:= .pointer (some ⟨a,0,none⟩)) rfl (by kernel_rfl) (by kernel_rfl) (by kernel_rfl) (mixPut (d:=7) (by simp)) (Or.inl ⟨by rfl,?_⟩) (by assumption) ?_
 ·intro w hSw
  (try dsimp only at hSw)
  go_simp
 try simp only [Act.put,List.setIfInBounds_toArray,List.set_cons_zero,List.set_cons_succ]
 refine wpAnyH_take (i:=4) (oi:={dst:=some 10,op:=Op.load 25 (Operand.tmp 1),type:=25,pos:= "pool.go:56",after:= #[],guard:=none}) (v:= .pointer (some ⟨a,0,none⟩)) rfl (by kernel_rfl) (by kernel_rfl) (by kernel_rfl) (mixPut (d:=10) (by simp)) (Or.inl ⟨by rfl,?_⟩) (by assumption) ?_
 ·intro w hSw
  (try dsimp only at hSw)
  go_simp
 try simp only [Act.put,List.setIfInBounds_toArray,List.set_cons_zero,List.set_cons_succ]
 refine wpAnyH_take (i:=5) (oi:={dst:=some 11,op:=Op.load 25 (Operand.tmp 1),type:=25,pos:= "pool.go:56",after:= #[],guard:=none}) (v:= .pointer (some ⟨a,0,none⟩)) rfl (by kernel_rfl) (by kernel_rfl) (by kernel_rfl) (mixPut (d:=11) (by simp)) (Or.inl ⟨by rfl,?_⟩) (by assumption) ?_
 ·intro w hSw
  (try dsimp only at hSw)
  go_simp
 try simp only [Act.put,List.setIfInBounds_toArray,List.set_cons_zero,List.set_cons_succ]
 refine wpAnyH_ready (rs:= [2]) (by kernel_rfl) (by simp) ?_
 refine AllReadyH.cons (o:={dst:=some 8,op:=Op.call {callee:=Callee.value (Operand.func 32),args:= #[Operand.tmp 7],argTypes:= #[25]},type:=78,pos:= "pool.go:56",after:= #[{on:=1,ground:=Ground.data}],guard:=none}) rfl (fun K hK=>?_) AllReadyH.nil
 go_simp
 refine hblk.mono ?_
 rintro e w2 ⟨rfl,hb2⟩
 have c0':w2.cell? ⟨w.heap.size,0,none⟩=some (.pointer (some ⟨a,0,none⟩)):=cell_of_block ((hb2.block _ (lt_there HG.out.1)).trans HG.out.1) (j:=0) rfl
 refine hK.out _ _ ?_ (fun hHeld=>?_)
 ·exact c0'
 clear hK K
 try simp only [Act.put,List.setIfInBounds_toArray,List.set_cons_zero,List.set_cons_succ]
 refine wpAnyH_ready (rs:= [3]) (by kernel_rfl) (by simp) ?_
 refine AllReadyH.cons (o:={dst:=some 9,op:=Op.call {callee:=Callee.value (Operand.func 31),args:= #[Operand.tmp 6,Operand.tmp 8],argTypes:= #[25,78]},type:=3,pos:= "pool.go:56",after:= #[{on:=0,ground:=Ground.data},{on:=2,ground:=Ground.data},{on:=2,ground:=Ground.chain}],guard:=none}) rfl (fun K hK=>?_) AllReadyH.nil
 go_simp
 refine(HT.out w2 hb2).mono ?_
 rintro e w3 ⟨rfl,hx3,hk3⟩
 have hk3w:=(Keeps.of_below F HB.out).trans ((Keeps.of_below F hb2).trans hk3 (fun _ h=> .inl h)) (fun _ h=> .inl h)
 have g1:=(hk3.block _ (Nat.lt_of_lt_of_le (lt_there HG.out.1) hb2.size) (fun h=>n1 (.inl h))).trans ((hb2.block _ (lt_there HG.out.1)).trans HG.out.1)
 have g2:=(hk3.block _ (Nat.lt_of_lt_of_le (lt_there HG.out.2) hb2.size) (fun h=>n2 (.inl h))).trans ((hb2.block _ (lt_there HG.out.2)).trans HG.out.2)
 have hp3:=(HP.out.later hb2).keep (hk3.mono (fun _ h=> .inl h))
 exact⟨rfl,by simp,rfl,hx3,hk3w,hp3,g1,g2⟩
set_option maxRecDepth 20000 in
set_option maxHeartbeats 8000000 in
theorem left_ok (h:TX w F p s cR q l m t n S G T) (hp:PoolAt w F a t n) (h0:T.state G S=0):
  Calls Tryz.prog 15 #[.pointer (some ⟨a,0,none⟩)] w fun e w'=>e= .returned (.tuple #[.int .i64 (T.pleft G S (bSt G.y):Int), .int .i64 (T.pleft G S (nSt G.y):Int), .int .i64 0])∧TX w' F p s (cR+2) q l m t n S G T∧Keeps (OwT F t n) w w':=by
 obtain⟨hB1,hg1,hg2,hsz1⟩:=heap2 w (.cells #[.pointer (some ⟨a,0,none⟩)] 25) (.cells #[.int .i64 0] 34)
 obtain⟨w1,hw1⟩:∃w1,w1=(w.alloc (.cells #[.pointer (some ⟨a,0,none⟩)] 25)).alloc (.cells #[.int .i64 0] 34):=⟨_,rfl⟩
 rw [←hw1] at hB1 hg1 hg2 hsz1
 have hlt:=h.lt
 have hx1:=h.later hB1
 have hp1:=hp.later hB1
 have hblk:=blocks_any hx1 hp1
 have hr1:=refusal_ok h (bSt G.y) (bSt_ok h.yk) h0
 have hr2:=refusal_ok h (nSt G.y) (nSt_ok h.yk) h0
 have HT:Hid (∀w2,Below w1.drew.heap.size w1.drew w2→Calls Tryz.prog 31 #[.pointer (some ⟨a,0,none⟩),stkV (bSt G.y)] w2 fun e w'=>e= .returned (.int .i64 (T.pleft G S (bSt G.y):Int))∧TX w' F p s (cR+1) q l m t n S G T∧Keeps F w2 w'):=fun w2 hb=>pleft_ok (hx1.later hb) (hp1.later hb) (bSt G.y) (bSt_ok h.yk) hr1
 have HN:Hid (∀w2 c,TX w2 F p s c q l m t n S G T→PoolAt w2 F a t n→Calls Tryz.prog 31 #[.pointer (some ⟨a,0,none⟩),stkV (nSt G.y)] w2 fun e w'=>e= .returned (.int .i64 (T.pleft G S (nSt G.y):Int))∧TX w' F p s (c+1) q l m t n S G T∧Keeps F w2 w'):=fun w2 c hx hp=>pleft_ok hx hp (nSt G.y) (nSt_ok h.yk) hr2
 have c0:w1.drew.cell? ⟨w.heap.size,0,none⟩=some (.pointer (some ⟨a,0,none⟩)):=cell_of_block hg1 (j:=0) rfl
 have n1:¬OwT F t n w.heap.size:=fun hf=>by have:=hlt _ hf;omega
 have n2:¬OwT F t n (w.heap.size+1):=fun hf=>by have:=hlt _ hf;omega
 have HG:=Hid.mk (And.intro hg1 hg2)
 have HB:=Hid.mk hB1
 have HP:=Hid.mk hp1
 have HLo:=Hid.mk h.low
 have hpa:=hp.lt
 generalize T.pleft G S (bSt G.y)=R1 at*
 generalize T.pleft G S (nSt G.y)=R2 at*
 clear hr1 hr2
 have ht2:w.heap.size+1≠t:=fun e=>n2 (.inr (.inl e))
 clear h hp hB1 hx1 hp1 hg1 hg2 h0
 go_enter_defers Tryz.func15,Tryz.ntmps15
 go_wp2_with fail
 rw [←hw1]
 clear hw1
 refine wp_mixed (PnT [{target:= .fn (.func 28) #[.pointer (some ⟨w.heap.size,0,none⟩), .pointer (some ⟨w.heap.size+1,0,none⟩)],args:= #[]}] [] (fun _ _=>False)) ?_ ?_
 ·rintro c A w3 ⟨_,_,h⟩
  exact h.elim
 refine wp_region_held_drew (S:=(fun w'=>w'.cell? ⟨w.heap.size,0,none⟩=some (.pointer (some ⟨a,0,none⟩)))) (by kernel_rfl) (c0) (fun hHeld=>?_)
 refine wpAnyH_take (i:=0) (oi:={dst:=some 6,op:=Op.load 25 (Operand.tmp 1),type:=25,pos:= "pool.go:56",after:= #[],guard:=none}) (v:= .pointer (some ⟨a,0,none⟩)) rfl (by kernel_rfl) (by kernel_rfl) (by kernel_rfl) (mixPut (d:=6) (by simp)) (Or.inl ⟨by rfl,?_⟩) (by assumption) ?_
 ·intro w hSw
  (try dsimp only at hSw)
  go_simp
 try simp only [Act.put,List.setIfInBounds_toArray,List.set_cons_zero,List.set_cons_succ]
 refine wpAnyH_take (i:=1) (oi:={dst:=some 7,op:=Op.load 25 (Operand.tmp 1),type:=25,pos:= "pool.go:56",after:= #[],guard:=none}) (v:= .pointer (some ⟨a,0,none⟩)) rfl (by kernel_rfl) (by kernel_rfl) (by kernel_rfl) (mixPut (d:=7) (by simp)) (Or.inl ⟨by rfl,?_⟩) (by assumption) ?_
 ·intro w hSw
  (try dsimp only at hSw)
  go_simp
 try simp only [Act.put,List.setIfInBounds_toArray,List.set_cons_zero,List.set_cons_succ]
 refine wpAnyH_take (i:=4) (oi:={dst:=some 10,op:=Op.load 25 (Operand.tmp 1),type:=25,pos:= "pool.go:56",after:= #[],guard:=none}) (v:= .pointer (some ⟨a,0,none⟩)) rfl (by kernel_rfl) (by kernel_rfl) (by kernel_rfl) (mixPut (d:=10) (by simp)) (Or.inl ⟨by rfl,?_⟩) (by assumption) ?_
 ·intro w hSw
  (try dsimp only at hSw)
  go_simp
 try simp only [Act.put,List.setIfInBounds_toArray,List.set_cons_zero,List.set_cons_succ]
 refine wpAnyH_take (i:=5) (oi:={dst:=some 11,op:=Op.load 25 (Operand.tmp 1),type:=25,pos:= "pool.go:56",after:= #[],guard:=none}) (v:= .pointer (some ⟨a,0,none⟩)) rfl (by kernel_rfl) (by kernel_rfl) (by kernel_rfl) (mixPut (d:=11) (by simp)) (Or.inl ⟨by rfl,?_⟩) (by assumption) ?_
 ·intro w hSw
  (try dsimp only at hSw)
  go_simp
 try simp only [Act.put,List.setIfInBounds_toArray,List.set_cons_zero,List.set_cons_succ]
 refine wpAnyH_ready (rs:= [2]) (by kernel_rfl) (by simp) ?_
 refine AllReadyH.cons (o:={dst:=some 8,op:=Op.call {callee:=Callee.value (Operand.func 32),args:= #[Operand.tmp 7],argTypes:= #[25]},type:=78,pos:= "pool.go:56",after:= #[{on:=1,ground:=Ground.data}],guard:=none}) rfl (fun K hK=>?_) AllReadyH.nil
 go_simp
 refine hblk.mono ?_
 rintro e w2 ⟨rfl,hb2⟩
 have c0':w2.cell? ⟨w.heap.size,0,none⟩=some (.pointer (some ⟨a,0,none⟩)):=cell_of_block ((hb2.block _ (lt_there HG.out.1)).trans HG.out.1) (j:=0) rfl
 refine hK.out _ _ ?_ (fun hHeld=>?_)
 ·exact c0'
 clear hK K
 try simp only [Act.put,List.setIfInBounds_toArray,List.set_cons_zero,List.set_cons_succ]
 refine wpAnyH_ready (rs:= [3]) (by kernel_rfl) (by simp) ?_
 refine AllReadyH.cons (o:={dst:=some 9,op:=Op.call {callee:=Callee.value (Operand.func 31),args:= #[Operand.tmp 6,Operand.tmp 8],argTypes:= #[25,78]},type:=3,pos:= "pool.go:56",after:= #[{on:=0,ground:=Ground.data},{on:=2,ground:=Ground.data},{on:=2,ground:=Ground.chain}],guard:=none}) rfl (fun K hK=>?_) AllReadyH.nil
 go_simp
 refine(HT.out w2 hb2).mono ?_
 rintro e w3 ⟨rfl,hx3,hk3⟩
 have hk3w:=(Keeps.of_below F HB.out).trans ((Keeps.of_below F hb2).trans hk3 (fun _ h=> .inl h)) (fun _ h=> .inl h)
 have g1:=(hk3.block _ (Nat.lt_of_lt_of_le (lt_there HG.out.1) hb2.size) (fun h=>n1 (.inl h))).trans ((hb2.block _ (lt_there HG.out.1)).trans HG.out.1)
 have g2:=(hk3.block _ (Nat.lt_of_lt_of_le (lt_there HG.out.2) hb2.size) (fun h=>n2 (.inl h))).trans ((hb2.block _ (lt_there HG.out.2)).trans HG.out.2)
 have hp3:=(HP.out.later hb2).keep (hk3.mono (fun _ h=> .inl h))
 have hnd:=nodes_any hx3 hp3
 have HQ:Hid (TX w3 F p s (cR+1) q l m t n S G T∧Keeps F w w3∧PoolAt w3 F a t n∧w3.heap[w.heap.size]? =some (.cells #[.pointer (some ⟨a,0,none⟩)] 25 (0,0))∧w3.heap[w.heap.size+1]? =some (.cells #[.int .i64 0] 34 (0,0))):=⟨hx3,hk3w,hp3,g1,g2⟩
 have c1:w3.cell? ⟨w.heap.size,0,none⟩=some (.pointer (some ⟨a,0,none⟩)):=cell_of_block g1 (j:=0) rfl
 clear hblk hb2 c0 c0' hx3 hk3 hk3w g1 g2 hp3 HT
 refine hK.out _ _ ?_ (fun hHeld=>?_)
 ·exact c1
 clear hK K
 try simp only [Act.put,List.setIfInBounds_toArray,List.set_cons_zero,List.set_cons_succ]
 refine wpAnyH_ready (rs:= [6]) (by kernel_rfl) (by simp) ?_
 refine AllReadyH.cons (o:={dst:=some 12,op:=Op.call {callee:=Callee.value (Operand.func 33),args:= #[Operand.tmp 11],argTypes:= #[25]},type:=78,pos:= "pool.go:56",after:= #[{on:=5,ground:=Ground.data},{on:=3,ground:=Ground.chain}],guard:=none}) rfl (fun K hK=>?_) AllReadyH.nil
 go_simp
 refine hnd.mono ?_
 rintro e w4 ⟨rfl,hb4⟩
 have c2:w4.cell? ⟨w.heap.size,0,none⟩=some (.pointer (some ⟨a,0,none⟩)):=cell_of_block ((hb4.block _ (lt_there HQ.out.2.2.2.1)).trans HQ.out.2.2.2.1) (j:=0) rfl
 refine hK.out _ _ ?_ (fun hHeld=>?_)
 ·exact c2
 clear hK K
 try simp only [Act.put,List.setIfInBounds_toArray,List.set_cons_zero,List.set_cons_succ]
 refine wpAnyH_ready (rs:= [7]) (by kernel_rfl) (by simp) ?_
 refine AllReadyH.cons (o:={dst:=some 13,op:=Op.call {callee:=Callee.value (Operand.func 31),args:= #[Operand.tmp 10,Operand.tmp 12],argTypes:= #[25,78]},type:=3,pos:= "pool.go:56",after:= #[{on:=4,ground:=Ground.data},{on:=6,ground:=Ground.data},{on:=6,ground:=Ground.chain}],guard:=none}) rfl (fun K hK=>?_) AllReadyH.nil
 go_simp
 refine(HN.out w4 _ (HQ.out.1.later hb4) (HQ.out.2.2.1.later hb4)).mono ?_
 rintro e w5 ⟨rfl,hx5,hk5⟩
 have hk5w:=HQ.out.2.1.trans ((Keeps.of_below F hb4).trans hk5 (fun _ h=> .inl h)) (fun _ h=> .inl h)
 have g1:=(hk5.block _ (Nat.lt_of_lt_of_le (lt_there HQ.out.2.2.2.1) hb4.size) (fun h=>n1 (.inl h))).trans ((hb4.block _ (lt_there HQ.out.2.2.2.1)).trans HQ.out.2.2.2.1)
 have g2:=(hk5.block _ (Nat.lt_of_lt_of_le (lt_there HQ.out.2.2.2.2) hb4.size) (fun h=>n2 (.inl h))).trans ((hb4.block _ (lt_there HQ.out.2.2.2.2)).trans HQ.out.2.2.2.2)
 have hp5:=(HQ.out.2.2.1.later hb4).keep (hk5.mono (fun _ h=> .inl h))
 have HQ5:Hid (TX w5 F p s (cR+2) q l m t n S G T∧Keeps (OwT F t n) w w5∧PoolAt w5 F a t n):=⟨hx5,hk5w.mono (fun _ h=> .inl h),hp5⟩
 have c3:w5.cell? ⟨w.heap.size,0,none⟩=some (.pointer (some ⟨a,0,none⟩)):=cell_of_block g1 (j:=0) rfl
 have d0:w5.cell? ⟨w.heap.size+1,0,none⟩=some (.int .i64 0):=cell_of_block g2 (j:=0) rfl
 have f0:=frozen_of_block g2 0
 have HGG:=Hid.mk (And.intro g1 g2)
 clear hnd hb4 c1 c2 hx5 hk5 hk5w g1 g2 hp5 HN HQ
 refine hK.out _ _ ?_ (fun hHeld=>?_)
 ·exact c3
 clear hK K
 try simp only [Act.put,List.setIfInBounds_toArray,List.set_cons_zero,List.set_cons_succ]
 refine wpAnyH_ready (rs:= [8]) (by kernel_rfl) (by simp) ?_
 refine AllReadyH.cons (o:={dst:=some 2,op:=Op.assign (Operand.tmp 9),type:=3,pos:= "pool.go:56",after:= #[{on:=3,ground:=Ground.data},{on:=7,ground:=Ground.chain},{on:=0,ground:=Ground.phase},{on:=1,ground:=Ground.phase},{on:=2,ground:=Ground.phase},{on:=3,ground:=Ground.phase},{on:=4,ground:=Ground.textOnly Departure.lateStoresUnsure},{on:=5,ground:=Ground.textOnly Departure.lateStoresUnsure},{on:=6,ground:=Ground.textOnly Departure.lateStoresUnsure},{on:=7,ground:=Ground.textOnly Departure.lateStoresUnsure}],guard:=none}) rfl (fun K hK=>?_) AllReadyH.nil
 go_simp
 refine hK.out _ _ ?_ (fun hHeld=>?_)
 ·exact c3
 clear hK K
 try simp only [Act.put,List.setIfInBounds_toArray,List.set_cons_zero,List.set_cons_succ]
 refine wpAnyH_ready (rs:= [9]) (by kernel_rfl) (by simp) ?_
 refine AllReadyH.cons (o:={dst:=some 3,op:=Op.assign (Operand.tmp 13),type:=3,pos:= "pool.go:56",after:= #[{on:=7,ground:=Ground.data},{on:=8,ground:=Ground.chain},{on:=0,ground:=Ground.phase},{on:=1,ground:=Ground.phase},{on:=2,ground:=Ground.phase},{on:=3,ground:=Ground.phase},{on:=4,ground:=Ground.phase},{on:=5,ground:=Ground.phase},{on:=6,ground:=Ground.phase},{on:=7,ground:=Ground.phase},{on:=8,ground:=Ground.phase}],guard:=none}) rfl (fun K hK=>?_) AllReadyH.nil
 go_simp
 refine hK.out _ _ ?_ (fun hHeld=>?_)
 ·exact c3
 clear hK K
 try simp only [Act.put,List.setIfInBounds_toArray,List.set_cons_zero,List.set_cons_succ]
 have pe:=putsE (w:=w5) (w':=w5) (x:=0) (.int .i64 0) rfl (Keeps.refl _ _) HGG.out.2
 have c9:(w5.setCell ⟨w.heap.size+1,0,none⟩ (.int .i64 0)).cell? ⟨w.heap.size,0,none⟩=some (.pointer (some ⟨a,0,none⟩)):=cell_of_block ((pe.2.block _ (lt_there HGG.out.1) (by omega)).trans HGG.out.1) (j:=0) rfl
 refine wpAnyH_ready (rs:= [10]) (by kernel_rfl) (by simp) ?_
 refine AllReadyH.cons (o:={dst:=none,op:=Op.store 34 (Operand.tmp 4) (Operand.const (Value.int IntKind.i64 0)),type:=0,pos:= "pool.go:56",after:= #[{on:=9,ground:=Ground.chain},{on:=0,ground:=Ground.phase},{on:=1,ground:=Ground.phase},{on:=2,ground:=Ground.phase},{on:=3,ground:=Ground.phase},{on:=4,ground:=Ground.phase},{on:=5,ground:=Ground.phase},{on:=6,ground:=Ground.phase},{on:=7,ground:=Ground.phase},{on:=8,ground:=Ground.phase},{on:=9,ground:=Ground.phase}],guard:=none}) rfl (fun K hK=>?_) AllReadyH.nil
 go_simp
 refine hK.out _ _ ?_ (fun hHeld=>?_)
 ·exact c9
 clear hK K
 try simp only [Act.put,List.setIfInBounds_toArray,List.set_cons_zero,List.set_cons_succ]
 refine wpAnyH_done (by kernel_rfl) ?_ _
 dsimp only [mixP]
 obtain⟨w6,hw6⟩:∃w6,w6=w5.setCell ⟨w.heap.size+1,0,none⟩ (.int .i64 0):=⟨_,rfl⟩
 rw [←hw6] at pe
 rw [←hw6]
 clear hw6 hHeld c9
 have HPe:=Hid.mk pe
 clear pe c3 d0 f0
 go_wp2
 refine leaves_cons (f:=28) (args:= #[.pointer (some ⟨w.heap.size,0,none⟩), .pointer (some ⟨w.heap.size+1,0,none⟩)]) (by simp) (by simp [go_sem]) ?_
 have hp6:PoolAt w6 F a t n:=⟨(HPe.out.2.block a HQ5.out.2.2.lt (by omega)).trans HQ5.out.2.2.b,HQ5.out.2.2.nf⟩
 have g6:=(HPe.out.2.block _ (lt_there HGG.out.1) (by omega)).trans HGG.out.1
 refine(leftC_idle hp6 g6 HPe.out.1).mono ?_
 rintro e u' w7 ⟨rfl,rfl,hb7,hk7⟩
 have q2:w7.cell? ⟨w.heap.size+1,0,none⟩=some (.int .i64 0):=cell_of_block hb7 (j:=0) rfl
 simp [Leaves,settle,results,Tryz.results15,go_sem,q2]
 exact⟨(HQ5.out.1.side HLo.out HPe.out.2 (fun k e=>by omega)).side HLo.out hk7 (fun k e=>by omega),(HQ5.out.2.1.trans HPe.out.2 (fun k e=> .inr (by omega))).trans hk7 (fun k e=> .inr (by omega))⟩
end
end Go.Proofs.YtcakbbkbgfhfaaaGreat
end

section
namespace Go.Proofs.YtcakbbkbgfhfaaaGreat
open Go.RowKit Go.Maps
section
variable {d:List Int} {i n b x:Nat}
theorem freeN_same {d':List Int} (h:∀j,i≤j→j<i+n→bitOf d' j=bitOf d j):freeN d' i n=freeN d i n:=by
 induction n with
 |zero=>rfl
 |succ n ih=>
  unfold freeN
  rw [ih (fun j h1 h2=>h j h1 (by omega)),h (i+n) (by omega) (by omega)]
theorem freeN_one {d':List Int} (h1:i≤b) (h2:b<i+n) (h:∀j,i≤j→j<i+n→j≠b→bitOf d' j=bitOf d j) (h3:bitOf d b=false) (h4:bitOf d' b=true):freeN d' i n+1=freeN d i n:=by
 induction n with
 |zero=>omega
 |succ n ih=>
  unfold freeN
  by_cases hb:b=i+n
  ·rw [←hb,h3,h4,freeN_same (d:=d) (fun j g1 g2=>h j g1 (by omega) (by omega))]
   rfl
  ·have:=ih (by omega) (fun j g1 g2=>h j g1 (by omega))
   rw [h (i+n) (by omega) (by omega) (by omega)]
   omega
theorem freeN_all (h:∀j,i≤j→j<i+n→bitOf d j=false):freeN d i n=n:=by
 induction n with
 |zero=>rfl
 |succ n ih=>
  unfold freeN
  rw [ih (fun j h1 h2=>h j h1 (by omega)),h (i+n) (by omega) (by omega)]
  rfl
theorem freeN_none (h:∀j,i≤j→j<i+n→bitOf d j=true):freeN d i n=0:=by
 induction n with
 |zero=>rfl
 |succ n ih=>
  unfold freeN
  rw [ih (fun j h1 h2=>h j h1 (by omega)),h (i+n) (by omega) (by omega)]
  rfl
end
structure KN (d:List Int) (k:STK) (l:List Nat):Prop where
 nd:l.Nodup
 rg:∀x∈l,k.first≤x∧x<k.first+k.cnt
 bt:∀x,k.first≤x→x<k.first+k.cnt→(bitOf d (x-k.zero)=true↔x∈l)
 fr:freeN d (k.first-k.zero) k.cnt+l.length=k.cnt
section
variable {d:List Int} {k:STK} {l:List Nat} {b x:Nat}
theorem KN.empty (hk:k.Ok) (h:∀j,k.first-k.zero≤j→j<k.first-k.zero+k.cnt→bitOf d j=false):KN d k []:=by
 have h1:=hk.lo
 refine⟨List.nodup_nil,(fun x hx=>by cases hx),fun x g1 g2=>?_,?_⟩
 ·rw [h _ (by omega) (by omega)]
  simp
 ·rw [freeN_all h]
  rfl
theorem KN.full (h:KN d k l) (hl:lowBit d (k.first-k.zero) k.cnt=none):l.length=k.cnt:=by
 have h1:=freeN_none (lowBit_none hl)
 have h2:=h.fr
 omega
theorem KN.take (h:KN d k l) (hk:k.Ok) (hb:Bytes d) (hl:d.length=512) (hx:lowBit d (k.first-k.zero) k.cnt=some b):
    (k.first≤b+k.zero∧b+k.zero<k.first+k.cnt)∧b+k.zero∉l∧(∀y,k.first≤y→y<b+k.zero→y∈l)∧bitOf d b=false∧b<4096∧KN (turnBit d b) k (l ++ [b+k.zero]):=by
 obtain⟨h1,h2,h3,h4⟩:=lowBit_some hx
 have k1:=hk.lo
 have k2:=hk.hi
 have k3:=hk.z
 have hn:b+k.zero∉l:=fun hm=>by
  have:=(h.bt (b+k.zero) (by omega) (by omega)).2 hm
  rw [Nat.add_sub_cancel,h3] at this
  cases this
 have tb:∀j,bitOf (turnBit d b) j=if j=b then !bitOf d b else bitOf d j:=fun j=>turnBit_bit hb (by omega)
 refine⟨⟨by omega,by omega⟩,hn,fun y g1 g2=>(h.bt y g1 (by omega)).1 (h4 _ (by omega) (by omega)),h3,by omega,?_⟩
 refine⟨?_,?_,?_,?_⟩
 ·rw [List.nodup_append]
  exact⟨h.nd,by simp,fun a ha c hc e=>by
   simp at hc
   subst hc
   subst e
   exact hn ha⟩
 ·intro y hy
  rw [List.mem_append] at hy
  rcases hy with hy|hy
  ·exact h.rg y hy
  ·simp at hy
   omega
 ·intro y g1 g2
  rw [tb,List.mem_append]
  by_cases e:y-k.zero=b
  ·rw [if_pos e,h3]
   simp
   right
   omega
  ·rw [if_neg e,h.bt y g1 g2]
   simp
   intro e2
   omega
 ·have:=freeN_one (d:=d) (d':=turnBit d b) (i:=k.first-k.zero) (n:=k.cnt) (b:=b) h1 (by omega) (fun j _ _ hj=>by rw [tb,if_neg hj]) h3 (by rw [tb,if_pos rfl,h3];rfl)
  have h5:=h.fr
  rw [List.length_append]
  simp
  omega
theorem KN.drop (h:KN d k l) (hk:k.Ok) (hb:Bytes d) (hl:d.length=512) {a:Nat} (ha:a<l.length) (hx:l[a]? =some x):
    (k.first≤x∧x<k.first+k.cnt)∧bitOf d (x-k.zero)=true∧bitOf (turnBit d (x-k.zero)) (x-k.zero)=false∧x-k.zero<4096∧KN (turnBit d (x-k.zero)) k (l.eraseIdx a):=by
 have hm:x∈l:=List.mem_of_getElem? hx
 obtain⟨g1,g2⟩:=h.rg x hm
 have k1:=hk.lo
 have k2:=hk.hi
 have k3:=hk.z
 have h3:=(h.bt x g1 g2).2 hm
 have tb:∀j,bitOf (turnBit d (x-k.zero)) j=if j=x-k.zero then !bitOf d (x-k.zero) else bitOf d j:=fun j=>turnBit_bit hb (by omega)
 have hxa:l[a]=x:=by rw [List.getElem?_eq_getElem ha] at hx;exact Option.some.inj hx
 have hme:∀y,y∈l.eraseIdx a↔y∈l∧y≠x:=fun y=>by
  rw [←hxa]
  have:=h.nd
  rw [List.mem_eraseIdx_iff_getElem]
  constructor
  ·rintro ⟨i,hi,hne,rfl⟩
   exact⟨List.getElem_mem _,fun e=>by
    rcases Nat.lt_trichotomy i a with h9|h9|h9
    ·exact List.pairwise_iff_getElem.1 this i a hi ha h9 e
    ·exact hne h9
    ·exact List.pairwise_iff_getElem.1 this a i ha hi h9 e.symm⟩
  ·rintro ⟨hm,hne⟩
   obtain⟨i,hi,rfl⟩:=List.mem_iff_getElem.1 hm
   exact⟨i,hi,fun e=>hne (by subst e;rfl),rfl⟩
 refine⟨⟨g1,g2⟩,h3,by rw [tb,if_pos rfl,h3];rfl,by omega,h.nd.sublist (List.eraseIdx_sublist l a),fun y hy=>h.rg y ((hme y).1 hy).1,fun y e1 e2=>?_,?_⟩
 ·rw [tb,hme]
  by_cases e:y-k.zero=x-k.zero
  ·have:y=x:=by omega
   rw [if_pos e,h3]
   simp [this]
  ·rw [if_neg e,h.bt y e1 e2]
   exact⟨fun e3=>⟨e3,fun e4=>e (by rw [e4])⟩,fun e3=>e3.1⟩
 ·have:=freeN_one (d:=turnBit d (x-k.zero)) (d':=d) (i:=k.first-k.zero) (n:=k.cnt) (b:=x-k.zero) (by omega) (by omega) (fun j _ _ hj=>by rw [tb,if_neg hj]) (by rw [tb,if_pos rfl,h3];rfl) h3
  have h5:=h.fr
  have h6:=List.length_eraseIdx_of_lt ha
  omega
end
end Go.Proofs.YtcakbbkbgfhfaaaGreat
end

section
namespace Go.Proofs.YtcakbbkbgfhfaaaGreat
open Go.RowKit
def ints (l:List Nat):List Value:=l.map fun (x:Nat)=> .int .i64 ((x:Nat):Int)
structure IL (w:World) (X:Nat→Prop) (v:Value) (l:List Nat):Prop where
 own:w.ownsRow 0 3 1 v l.length (ints l)
 x:∀g,v.ownBlock=some g→X g
section
variable {w w':World} {X Y Z:Nat→Prop} {v:Value} {l:List Nat}
theorem IL.nil (w:World) (X:Nat→Prop):IL w X (.slice none 0 0) []:=⟨World.ownsRow_nil _ _ _ _,fun g h=>by simp [Value.ownBlock] at h⟩
theorem IL.mono (h:IL w X v l) (hX:∀g,X g→Y g):IL w Y v l:=⟨h.own,fun g hg=>hX g (h.x g hg)⟩
theorem IL.lt (h:IL w X v l) {g:Nat} (hg:v.ownBlock=some g):g<w.heap.size:=by
 obtain⟨cur,hc⟩:=owns_block h.own hg
 exact lt_there hc
theorem IL.keep (h:IL w X v l) (hk:Keeps Z w w') (hZ:∀g,v.ownBlock=some g→¬Z g):IL w' X v l:=
   ⟨owns_agree h.own (fun g hg=>hk.block g (h.lt hg) (hZ g hg)),h.x⟩
theorem IL.later (h:IL w X v l) (hb:Below w.heap.size w w'):IL w' X v l:=h.keep (Keeps.of_below (fun _=>False) hb) (fun _ _ h=>h)
theorem IL.form (h:IL w X v l):∃a c,v= .slice a l.length c:=by
 obtain⟨_,⟨rfl,h0⟩|⟨g,cap,cur,rfl,_⟩⟩:=h.own
 ·exact⟨none,0,by rw [h0]⟩
 ·exact⟨_,_,rfl⟩
theorem IL.at (h:IL w X v l) {i x:Nat} (hi:l[i]? =some x):∃g c,v= .slice (some ⟨g,0,none⟩) l.length c∧w.cell? ⟨g,i,none⟩=some (.int .i64 (x:Int)):=by
 have hx:(ints l)[i]? =some (.int .i64 (x:Int)):=by unfold ints;rw [List.getElem?_map,hi];rfl
 obtain⟨_,⟨rfl,h0⟩|⟨g,cap,cur,rfl,hr⟩⟩:=h.own
 ·rw [List.length_eq_zero_iff.1 h0] at hi
  cases hi
 ·refine⟨g,cap,rfl,?_⟩
  have:=h.own.cells (g:=g) rfl i _ hx
  rwa [addr_add,Nat.zero_add] at this
theorem IL.app (h:IL w X v l) (x:Nat) (hn:l.length≤1000000):
  ∃g2 cap2 w2,(Builtin.append_ #[49,49] 49 #[v, .slice (some ⟨w.heap.size,0,none⟩) 1 1]).run Tryz.prog (w.alloc (.cells #[.int .i64 (x:Int)] 3))= .ok (.slice (some ⟨g2,0,none⟩) (l.length+1) cap2) w2∧IL w2 (fun j=>X j∨w.heap.size≤j) (.slice (some ⟨g2,0,none⟩) (l.length+1) cap2) (l ++ [x])∧Keeps (fun j=>v.ownBlock=some j) w w2∧(v.ownBlock=some g2∨w.heap.size≤g2):=by
 obtain⟨i0,hi,hz0,hz1,hz2⟩:=info_parts infoInt
 obtain⟨g2,cap2,w2,hrun,hown,hgrow,hat,_⟩:=run_append_lies (P:=Tryz.prog) (w.alloc (.cells #[.int .i64 (x:Int)] 3)) 49 49 0 3 i0 (.int .i64 0) 1 8 Tryz.underlying49 hi hz0 hz1 hz2 rfl (by decide) v l.length (ints l) (owns_agree h.own (fun g hg=>Below.heap_alloc _ _ _ (h.lt hg))) ⟨w.heap.size,0,none⟩ 1 1 [.int .i64 (x:Int)] rfl (World.news_of_block (cs:= #[.int .i64 (x:Int)]) (t:=3) (fr:=(0,0)) (heap_alloc_new w _)) (by simp [Value.oneCell']) (by omega) (by unfold maxLen;omega) (by omega) (Nat.zero_le _) _ rfl
 have hbx:=below_box w (.cells #[.int .i64 (x:Int)] 3)
 have hk:Keeps (fun j=>v.ownBlock=some j) w w2:=⟨hgrow.os.trans hbx.os,hgrow.tape.trans hbx.tape,hgrow.output.trans hbx.output,Nat.le_trans hbx.size hgrow.size,fun k hk hq=>(hgrow.block k (Nat.lt_of_lt_of_le hk hbx.size) (fun e=>hq e.symm)).trans (hbx.block k hk)⟩
 have hat':v.ownBlock=some g2∨w.heap.size≤g2:=hat.imp (fun e=>e) (fun e=>by simp at e;omega)
 refine⟨g2,cap2,w2,hrun,⟨?_,fun g' hq=>?_⟩,hk,hat'⟩
 ·have e:ints (l ++ [x])=ints l ++ [.int .i64 (x:Int)]:=by unfold ints;rw [List.map_append];rfl
  rw [e,List.length_append]
  exact hown
 ·have eg:g2=g':=by simpa [Value.ownBlock] using hq
  subst eg
  exact hat'.imp (fun e=>h.x _ e) (fun e=>e)
set_option maxRecDepth 20000 in
theorem has_any (h:IL w X v l) (x:Nat) (hn:l.length≤1000000):Calls Tryz.prog 57 #[v, .int .i64 (x:Int)] w fun e w'=>e= .returned (.bool (decide (x∈l)))∧w'=w:=by
 obtain⟨a,c,rfl⟩:=h.form
 obtain⟨R,hR⟩:∃R,R=decide (x∈l):=⟨_,rfl⟩
 rw [←hR]
 have HR:=Hid.mk hR
 have H:=Hid.mk h
 clear h hR
 go_enter Tryz.func57,Tryz.ntmps57
 go_wp2
 go_loopw [5] (fun iv wr=>∃j:Nat,j≤l.length∧iv= .int .i64 (j:Int)∧x∉l.take j∧wr=w) (fun iv _=>l.length-(intOf iv).toNat)
 case atStart=>exact⟨0,Nat.zero_le _,rfl,by simp,rfl⟩
 case round=>
  obtain⟨j,hj,rfl,hno,hwr⟩:=hrel
  subst hwr
  by_cases hlt:j<l.length
  ·have hlt':(j:Int)<(l.length:Int):=by omega
   obtain⟨g,c',e1,e2⟩:=H.out.at (List.getElem?_eq_getElem hlt)
   obtain⟨rfl,rfl⟩:a=some ⟨g,0,none⟩∧c=c':=by cases e1;exact⟨rfl,rfl⟩
   have hts:=List.take_succ_eq_append_getElem hlt
   obtain⟨y,hy⟩:∃y,y=l[j]:=⟨_,rfl⟩
   rw [←hy] at hts e2
   have HY:=Hid.mk hy
   have HN:=Hid.mk (And.intro hno hts)
   clear hy hno hts e1
   by_cases he:y=x
   ·have he':((y:Int)=(x:Int)):=by omega
    have hRt:R=true:=by
     rw [HR.out]
     exact decide_eq_true (by rw [←he,HY.out];exact List.getElem_mem _)
    subst hRt
    clear he
    go_wp2
    go_ret
    exact⟨rfl,rfl⟩
   ·have he':¬((y:Int)=(x:Int)):=by omega
    have HNE:=Hid.mk he
    clear he
    go_wp2
    go_roundw
    case rel=>
     refine⟨j+1,by omega,by go_num,?_,trivial⟩
     rw [HN.out.2,List.mem_append]
     intro e
     rcases e with e|e
     ·exact HN.out.1 e
     ·exact HNE.out (List.mem_singleton.1 e).symm
    case measure=>simp [intOf];omega
  ·have hlt':¬(j:Int)<(l.length:Int):=by omega
   have hRt:R=false:=by
    rw [HR.out]
    rw [List.take_of_length_le (by omega)] at hno
    exact decide_eq_false hno
   subst hRt
   clear hno
   go_wp2
   go_ret
   exact⟨rfl,rfl⟩
end
end Go.Proofs.YtcakbbkbgfhfaaaGreat
end

section
namespace Go.Proofs.YtcakbbkbgfhfaaaGreat
open Go.RowKit
theorem erase_eq {l:List Nat} {j:Nat} (h:j<l.length):(l.take (j+1)).eraseIdx j=(l.take j).eraseIdx j:=by
 have hl:(l.take j).length=j:=by rw [List.length_take];omega
 have h2:(l.take j).eraseIdx j=l.take j:=List.eraseIdx_of_length_le (by omega)
 rw [h2,List.take_succ_eq_append_getElem h,List.eraseIdx_append_of_length_le (by omega),hl,Nat.sub_self]
 simp
theorem erase_ne {l:List Nat} {j a:Nat} (h:j<l.length) (hne:j≠a):(l.take (j+1)).eraseIdx a=(l.take j).eraseIdx a ++ [l[j]]:=by
 have hl:(l.take j).length=j:=by rw [List.length_take];omega
 rw [List.take_succ_eq_append_getElem h]
 by_cases hlt:a<j
 ·rw [List.eraseIdx_append_of_lt_length (by omega)]
 ·rw [List.eraseIdx_of_length_le (by rw [List.length_append];simp;omega),List.eraseIdx_of_length_le (by omega)]
section
variable {w w':World} {X Y Z:Nat→Prop} {v:Value} {l:List Nat}
set_option maxRecDepth 20000 in
set_option maxHeartbeats 4000000 in
theorem without_any (h:IL w X v l) (a:Nat) (hn:l.length≤1000000):Calls Tryz.prog 21 #[v, .int .i64 (a:Int)] w fun e w'=>∃v',e= .returned v'∧IL w' (fun j=>w.heap.size≤j) v' (l.eraseIdx a)∧Below w.heap.size w w':=by
 obtain⟨p,c,rfl⟩:=h.form
 have H:=Hid.mk h
 clear h
 go_enter Tryz.func21,Tryz.ntmps21
 go_wp2
 go_loopw [5,6] (fun ov iv wr=>∃j:Nat,j≤l.length∧iv= .int .i64 (j:Int)∧IL wr (fun j=>w.heap.size≤j) ov ((l.take j).eraseIdx a)∧Below w.heap.size w wr) (fun _ iv _=>l.length-(intOf iv).toNat)
 case atStart=>exact⟨0,Nat.zero_le _,rfl,IL.nil _ _,Below.refl _ _⟩
 case round=>
  obtain⟨j,hj,rfl,hil,hbw⟩:=hrel
  by_cases hlt:j<l.length
  ·have hlt':(j:Int)<(l.length:Int):=by omega
   by_cases he:j=a
   ·subst he
    have HE:=Hid.mk (And.intro hil hbw)
    clear hil hbw
    go_wp2
    go_roundw
    case rel=>exact⟨j+1,by omega,by go_num,by rw [erase_eq hlt];exact HE.out.1,HE.out.2⟩
    case measure=>simp [intOf];omega
   ·have he':((j:Int) != (a:Int))=true:=by rw [bne_iff_ne];omega
    obtain⟨g,c',e1,e2⟩:=(H.out.later hbw).at (List.getElem?_eq_getElem hlt)
    obtain⟨rfl,rfl⟩:p=some ⟨g,0,none⟩∧c=c':=by cases e1;exact⟨rfl,rfl⟩
    have hle:((l.take j).eraseIdx a).length≤1000000:=by
     have:=List.length_eraseIdx_le (l.take j) a
     rw [List.length_take] at this
     omega
    obtain⟨g2,cap2,w2,hrun,hil2,hk2,hat⟩:=hil.app l[j] hle
    rw [←erase_ne hlt he] at hil2
    have hb2:=hbw.trans (hk2.below (fun q hq=>hil.x q hq) hbw.size)
    have hz:=hbw.size
    have HE:Hid (IL w2 (fun j=>w.heap.size≤j) (.slice (some ⟨g2,0,none⟩) (((l.take j).eraseIdx a).length+1) cap2) ((l.take (j+1)).eraseIdx a)∧Below w.heap.size w w2):=⟨hil2.mono (fun q hq=>by omega),hb2⟩
    obtain⟨a5,c5,rfl⟩:=hil.form
    have HRun:=Hid.mk hrun
    clear hil hbw hrun hil2 hk2 hat hb2 hle e1 he
    generalize l[j]=y at*
    generalize ((l.take j).eraseIdx a).length=N at*
    go_wp2_with (at_builtin;refine wpList_append_run rfl _ _ 49 rfl (.slice a5 N c5) (.slice (some ⟨wr.heap.size,0,none⟩) 1 1) _ rfl rfl HRun.out ?_)
    go_roundw
    case rel=>exact⟨j+1,by omega,by go_num,HE.out⟩
    case measure=>simp [intOf];omega
  ·have hlt':¬(j:Int)<(l.length:Int):=by omega
   rw [List.take_of_length_le (by omega)] at hil
   have HE:=Hid.mk (And.intro hil hbw)
   clear hil hbw
   go_wp2
   go_ret
   exact⟨_,rfl,HE.out⟩
end
end Go.Proofs.YtcakbbkbgfhfaaaGreat
end

section
namespace Go.Proofs.YtcakbbkbgfhfaaaGreat
open Go.RowKit Go.Maps
def stB (b:Bool) (y:LY):STK:=if b then nSt y else bSt y
theorem stB_ok {y:LY} (h:YOk y) (b:Bool):(stB b y).Ok:=by cases b;exact bSt_ok h;exact nSt_ok h
theorem stB_bm {y:LY} (b:Bool):(stB b y).bm=if b then 1 else 0:=by cases b <;> rfl
theorem stB_no {y:LY} (b:Bool):(stB b y).no=fullOf b:=by cases b <;> rfl
structure QF (G:SG) (S:DS) (T:TG) (tb tn:List Nat):Prop where
 bad:T.bad=0
 en:T.ended=false
 ks:∀x∈T.puts,x.1<2
 kb:KN (T.sees G S 0) (bSt G.y) tb
 kn:KN (T.sees G S 1) (nSt G.y) tn
section
variable {G:SG} {S:DS} {T:TG} {tb tn:List Nat}
theorem QF.state (h:QF G S T tb tn) (hd:G.L.dead S=false):T.state G S=0:=by
 have e1:T.over G S=0:=by unfold TG.over;rw [hd,h.en];rfl
 unfold TG.state
 rw [e1,h.bad]
 rfl
theorem QF.refusal (h:QF G S T tb tn) (hd:G.L.dead S=false) (h2:2≤G.y.blocks) (b:Bool):T.refusal G S (stB b G.y).bm=0:=by
 have e2:=h.state hd
 unfold TG.refusal
 rw [e2,if_neg (fun h=>h rfl),stB_bm]
 cases b
 ·exact if_neg (by simp;omega)
 ·exact if_neg (by simp;omega)
theorem QF.of (h:QF G S T tb tn) (b:Bool):KN (T.sees G S (stB b G.y).bm) (stB b G.y) (if b then tn else tb):=by
 cases b
 ·exact h.kb
 ·exact h.kn
theorem QF.put (h:QF G S T tb tn) (hd:G.L.dead S=false) (h2:2≤G.y.blocks) (hok:CM.Ok T.puts) (b:Bool) {d:List Int} (hl:d.length=512) (hne:d≠T.sees G S (stB b G.y).bm):
  T.put G S (stB b G.y).bm d=(0,{T with puts:=CM.put T.puts (stB b G.y).bm d}):=by
 have hr:=h.refusal hd h2 b
 have hlen:T.puts.length≤2:=by
  rcases CM.length_le (n:=2) hok h.ks 0 (fun _ _=>Nat.zero_le _) with h9|h9
  ·omega
  ·rw [h9];exact Nat.zero_le _
 unfold TG.put
 rw [if_neg (fun h=>h hr),if_neg (fun h=>h hl),Int.toNat_natCast,if_neg hne,if_neg (fun h=>by omega)]
theorem QF.set (h:QF G S T tb tn) (hok:CM.Ok T.puts) (b:Bool) {d:List Int} {l:List Nat} (hk:KN d (stB b G.y) l):
  QF G S {T with puts:=CM.put T.puts (stB b G.y).bm d} (if b then tb else l) (if b then l else tn):=by
 have k0:∀x∈CM.put T.puts (stB b G.y).bm d,x.1<2:=fun x hx=>by
  rcases CM.put_key hx with rfl|hx
  ·rw [stB_bm];cases b <;> simp
  ·exact h.ks x hx
 have g:∀b',({T with puts:=CM.put T.puts (stB b G.y).bm d}:TG).sees G S b'=if b'=(stB b G.y).bm then d else T.sees G S b':=fun b'=>by
  show (CM.get (CM.put T.puts (stB b G.y).bm d) b').getD _=_
  rw [CM.get_put _ _ _ _ hok]
  split <;> rfl
 have g0:=g 0
 have g1:=g 1
 rw [stB_bm] at g0 g1
 cases b
 ·rw [if_neg (by decide),if_pos rfl] at g0
  rw [if_neg (by decide),if_neg (by decide)] at g1
  exact⟨h.bad,h.en,k0,by show KN (TG.sees _ G S 0) _ _;rw [show (stB false G.y).bm=0 from rfl,g0];exact hk,by show KN (TG.sees _ G S 1) _ _;rw [show (stB false G.y).bm=0 from rfl,g1];exact h.kn⟩
 ·rw [if_pos rfl,if_neg (by decide)] at g0
  rw [if_pos rfl,if_pos rfl] at g1
  exact⟨h.bad,h.en,k0,by show KN (TG.sees _ G S 0) _ _;rw [show (stB true G.y).bm=1 from rfl,g0];exact h.kb,by show KN (TG.sees _ G S 1) _ _;rw [show (stB true G.y).bm=1 from rfl,g1];exact hk⟩
theorem turn_ne {d:List Int} {b:Nat} (h:Bytes d) (hl:d.length=512) (hb:b<4096):turnBit d b≠d:=fun e=>by
 have:=turnBit_bit (l:=d) (i:=b) (j:=b) h (by omega)
 rw [e,if_pos rfl] at this
 cases hq:bitOf d b <;> rw [hq] at this <;> cases this
theorem QF.take (h:QF G S T tb tn) (hd:G.L.dead S=false) (h2:2≤G.y.blocks) (hok:CM.Ok T.puts) (hy:YOk G.y) (b:Bool) (hby:Bytes (T.sees G S (stB b G.y).bm)) (hl:(T.sees G S (stB b G.y).bm).length=512):
    (∃x T',T.takes G S (stB b G.y)=(((x:Nat):Int),0,T')∧((stB b G.y).first≤x∧x<(stB b G.y).first+(stB b G.y).cnt)∧x∉(if b then tn else tb)∧(∀y,(stB b G.y).first≤y→y<x→y∈(if b then tn else tb))∧QF G S T' (if b then tb else tb ++ [x]) (if b then tn ++ [x] else tn))∨
    (T.takes G S (stB b G.y)=(0,fullOf b,{T with bad:=fullOf b})∧(if b then tn else tb).length=(stB b G.y).cnt):=by
 have hr:=h.refusal hd h2 b
 have hk:=stB_ok hy b
 have hkn:=h.of b
 cases hlow:lowBit (T.sees G S (stB b G.y).bm) ((stB b G.y).first-(stB b G.y).zero) (stB b G.y).cnt with
 |none=>
  right
  refine⟨?_,hkn.full hlow⟩
  have e:T.ptake G S (stB b G.y)=(none,(stB b G.y).no,T):=by
   unfold TG.ptake
   rw [if_neg (fun h=>h hr),hlow]
   rfl
  unfold TG.takes
  rw [e,stB_no]
  dsimp only
  have e2:(T.spoil G S (fullOf b)).2={T with bad:=fullOf b}:=by
   unfold TG.spoil
   rw [if_neg (fun e=>e (h.state hd)),if_pos (by cases b <;> decide)]
  rw [e2]
 |some c=>
  left
  obtain⟨r1,r2,r3,r4,r5,r6⟩:=hkn.take hk hby hl hlow
  have hp:=h.put hd h2 hok b (d:=turnBit (T.sees G S (stB b G.y).bm) c) (turnBit_len.trans hl) (turn_ne hby hl r5)
  have hq:=h.set hok b r6
  refine⟨c+(stB b G.y).zero,{T with puts:=CM.put T.puts (stB b G.y).bm (turnBit (T.sees G S (stB b G.y).bm) c)},?_,r1,r2,r3,?_⟩
  ·have e:T.ptake G S (stB b G.y)=(some (c+(stB b G.y).zero),0,{T with puts:=CM.put T.puts (stB b G.y).bm (turnBit (T.sees G S (stB b G.y).bm) c)}):=by
    unfold TG.ptake
    rw [if_neg (fun h=>h hr),hlow]
    unfold TG.ptook
    dsimp only
    rw [hp]
    rfl
   unfold TG.takes
   rw [e]
  ·cases b
   ·exact hq
   ·exact hq
theorem QF.drop (h:QF G S T tb tn) (hd:G.L.dead S=false) (h2:2≤G.y.blocks) (hok:CM.Ok T.puts) (hy:YOk G.y) (b:Bool) (hby:Bytes (T.sees G S (stB b G.y).bm)) (hl:(T.sees G S (stB b G.y).bm).length=512) {a x:Nat} (ha:a<(if b then tn else tb).length) (hx:(if b then tn else tb)[a]? =some x):
  ∃T',T.pdrop G S (stB b G.y) x=(0,T')∧T'.pdrop G S (stB b G.y) x=(62,T')∧QF G S T' (if b then tb else tb.eraseIdx a) (if b then tn.eraseIdx a else tn):=by
 have hk:=stB_ok hy b
 have hr:=h.refusal hd h2 b
 have hkn:=h.of b
 obtain⟨⟨r1,r2⟩,r3,r4,r5,r6⟩:=hkn.drop hk hby hl ha hx
 have hp:=h.put hd h2 hok b (d:=turnBit (T.sees G S (stB b G.y).bm) (x-(stB b G.y).zero)) (turnBit_len.trans hl) (turn_ne hby hl r5)
 have hq:=h.set hok b r6
 have hg:({T with puts:=CM.put T.puts (stB b G.y).bm (turnBit (T.sees G S (stB b G.y).bm) (x-(stB b G.y).zero))}:TG).sees G S (stB b G.y).bm=turnBit (T.sees G S (stB b G.y).bm) (x-(stB b G.y).zero):=by
  show (CM.get (CM.put T.puts (stB b G.y).bm _) (stB b G.y).bm).getD _=_
  rw [CM.get_put _ _ _ _ hok,if_pos rfl]
  rfl
 have hr':=hq.refusal hd h2 b
 refine⟨{T with puts:=CM.put T.puts (stB b G.y).bm (turnBit (T.sees G S (stB b G.y).bm) (x-(stB b G.y).zero))},?_,?_,?_⟩
 ·unfold TG.pdrop
  rw [if_neg (fun e=>e (h.state hd)),if_neg (by omega),if_neg (fun e=>e hr),Int.toNat_natCast,if_neg (by rw [r3];decide),hp]
 ·unfold TG.pdrop
  rw [if_neg (fun e=>e (hq.state hd)),if_neg (by omega),if_neg (fun e=>e hr'),Int.toNat_natCast,hg,if_pos r4]
 ·cases b
  ·exact hq
  ·exact hq
theorem caught_ok (hd:G.L.dead S=false) (h:QF G S T tb tn):T.caught G S 0=T∧T.caught G S 62=T:=by
 refine⟨by unfold TG.caught;rw [if_pos rfl],?_⟩
 unfold TG.caught TG.spoil
 rw [if_neg (by decide),if_neg (fun e=>e (h.state hd)),if_neg (by decide)]
end
end Go.Proofs.YtcakbbkbgfhfaaaGreat
end

section
namespace Go.Proofs.YtcakbbkbgfhfaaaGreat
open Go.RowKit Go.Maps
section
variable {w w':World} {F X:Nat→Prop} {p s cR q l m t n a1:Nat} {S:DS} {G:SG} {T:TG}
set_option maxRecDepth 20000 in
theorem drops6_any (h:TX w F p s cR q l m t n S G T) (hp:PoolAt w F a1 t n) (b:Bool) (x:Int):
  Calls Tryz.prog 20 #[.pointer (some ⟨a1,0,none⟩), .bool b, .int .i64 x] w fun e w'=>e= .returned (.int .i64 (T.pdrop G S (stB b G.y) x).1)∧TX w' F p s (cR+2) q l m t n S G ((T.pdrop G S (stB b G.y) x).2.caught G S (T.pdrop G S (stB b G.y) x).1)∧Keeps (OwT F t n) w w':=by
 cases b
 ·have k1:=dropBlock_any h hp x
  show Calls _ _ _ _ fun e w'=>e= .returned (.int .i64 (T.pdrop G S (bSt G.y) x).1)∧TX w' F p s (cR+2) q l m t n S G ((T.pdrop G S (bSt G.y) x).2.caught G S (T.pdrop G S (bSt G.y) x).1)∧Keeps (OwT F t n) w w'
  generalize T.pdrop G S (bSt G.y) x=R at*
  clear h hp
  go_enter Tryz.func20,Tryz.ntmps20
  go_wp2_with fail
  refine k1.mono ?_
  rintro e w1 ⟨rfl,hx,hk⟩
  have kn:=num6_any R.1 w1
  have HE:=Hid.mk (And.intro hx hk)
  clear k1 hx hk
  go_wp2_with fail
  refine kn.mono ?_
  rintro e w9 ⟨rfl,hw9⟩
  have hw9':=hw9.symm
  subst hw9'
  clear kn hw9
  go_wp2
  go_ret
  exact⟨rfl,HE.out⟩
 ·have k1:=dropNode_any h hp x
  show Calls _ _ _ _ fun e w'=>e= .returned (.int .i64 (T.pdrop G S (nSt G.y) x).1)∧TX w' F p s (cR+2) q l m t n S G ((T.pdrop G S (nSt G.y) x).2.caught G S (T.pdrop G S (nSt G.y) x).1)∧Keeps (OwT F t n) w w'
  generalize T.pdrop G S (nSt G.y) x=R at*
  clear h hp
  go_enter Tryz.func20,Tryz.ntmps20
  go_wp2_with fail
  refine k1.mono ?_
  rintro e w1 ⟨rfl,hx,hk⟩
  have kn:=num6_any R.1 w1
  have HE:=Hid.mk (And.intro hx hk)
  clear k1 hx hk
  go_wp2_with fail
  refine kn.mono ?_
  rintro e w9 ⟨rfl,hw9⟩
  have hw9':=hw9.symm
  subst hw9'
  clear kn hw9
  go_wp2
  go_ret
  exact⟨rfl,HE.out⟩
end
end Go.Proofs.YtcakbbkbgfhfaaaGreat
end
