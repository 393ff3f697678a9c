import Derived.Test.YtkiehemoiapkkaaGreatU03
section
namespace Go.Proofs.YtkiehemoiapkkaaGreat
open Go.RowKit Go.Maps
section
variable {w:World} {F X:Nat→Prop} {kr p s cR q l m t n a1 a2 k pa:Nat} {S:DS} {G:SG} {T:TG} {M:MP} {N:Int} {who two:Bool} {da:Option Addr} {dn dc:Nat} {dl:List Int}
set_option maxRecDepth 20000 in
set_option maxHeartbeats 8000000 in
theorem rawK_any (h:RgW w F X kr p s cR q l m t n a1 a2 k S G T M) (hc:LK G S T M) (hpa:PoolAt w F pa t n) (hN:I64 N) (hs:∀w',Keeps (fun j=>OwT F t n j∨X j) w w'→Src w' da dn dl) (hby:Bytes dl) (hdn:dn≤140737488355328):
  Calls Tryz.prog 38 #[.pointer (some ⟨kr,0,none⟩), .pointer (some ⟨pa,0,none⟩),stpV 11 N who two da dn dc] w fun e w'=>StpL w w' F X kr p s q l m t n a1 a2 k S G e:=by
 obtain⟨b,hb⟩:∃b,b=wthn N 0 1:=⟨_,rfl⟩
 have hb2:b<2:=by have:=(wthn_in N (lo:=0) (hi:=1) (by omega)).2;omega
 obtain⟨zz,T1,M1,q1,q2,hc1⟩:=hc.wmap h.x.yk h.x.tx.ch.ok hb2 (pad5_bytes hby) (pad5_len dl)
 have hB0:=below_box w (stpC 11 N who two da dn dc)
 have hbx:=heap_alloc_new w (stpC 11 N who two da dn dc)
 have g0:(w.alloc (stpC 11 N who two da dn dc)).cell? ⟨w.heap.size,0,none⟩=some (.int .i64 11):=cell_of_block hbx (j:=0) rfl
 have g1:(w.alloc (stpC 11 N who two da dn dc)).cell? ⟨w.heap.size,1,none⟩=some (.int .i64 N):=cell_of_block hbx (j:=1) rfl
 have g4:(w.alloc (stpC 11 N who two da dn dc)).cell? ⟨w.heap.size,4,none⟩=some (.slice da dn dc):=cell_of_block hbx (j:=4) rfl
 have h0:=h.later hB0
 have ce:(w.alloc (stpC 11 N who two da dn dc)).cell? ⟨kr,4,none⟩=some (.pointer (some ⟨k,0,none⟩)):=cell_of_block h0.b (j:=4) rfl
 have cb:(w.alloc (stpC 11 N who two da dn dc)).cell? ⟨k,0,none⟩=some (.int .i64 (M.blocks:Int)):=by
  obtain⟨gq1,cq1,gq2,cq2,gq3,cq3,gq4,cq4,v5,v6,v7,hma⟩:=h0.mm
  exact cell_of_block hma.b (j:=0) rfl
 have hmb:2≤M.blocks:=by have:=h.x.yk.b2;have h9:M.blocks=G.y.blocks:=hc.mb;omega
 have hmb2:¬(M.blocks:Int)≤(b:Int):=by omega
 have kw1:=within6_any N 0 29 (by omega) (by omega) ⟨hN.1,hN.2⟩ (w.alloc (stpC 11 N who two da dn dc))
 have kw2:=within6_any N 0 1 (by omega) (by omega) ⟨hN.1,hN.2⟩ (w.alloc (stpC 11 N who two da dn dc))
 rw [←hb] at kw2
 have hwl:=(wthn_in N (lo:=0) (hi:=29) (by omega)).2
 generalize wthn N 0 29=y at*
 have HPa:=Hid.mk (hpa.later hB0)
 have c0:=HPa.out.c0
 have H6:Hid (∀w',Below (w.alloc (stpC 11 N who two da dn dc)).heap.size (w.alloc (stpC 11 N who two da dn dc)) w'→w'.cell? ⟨pa,0,none⟩=some (.pointer (some ⟨t,0,none⟩))∧w'.cell? ⟨w.heap.size,4,none⟩=some (.slice da dn dc)):=fun w' hw=>⟨cell_later hw c0,cell_later hw g4⟩
 have HD0:Hid (Below (w.alloc (stpC 11 N who two da dn dc)).heap.size (w.alloc (stpC 11 N who two da dn dc)) (w.alloc (stpC 11 N who two da dn dc)).drew):=(Keeps.drew (fun _=>False) _).below (fun _ h=>h.elim) (Nat.le_refl _)
 have HNo:Hid (¬OwT F t n w.heap.size):=fun e=>by have:=h.x.lt _ e;omega
 have HR:=Hid.mk h
 have HR0:=Hid.mk h0
 have HB0:=Hid.mk hB0
 have HBx:=Hid.mk hbx
 have HC:=Hid.mk (And.intro hc hc1)
 have HQ1:=Hid.mk q1
 have HQ2:=Hid.mk q2
 have HSr:=Hid.mk hs
 clear h hc hpa hs q1 q2 hc1 hB0 hbx h0 c0 hb g4
 go_enter Tryz.func38,Tryz.ntmps38
 go_wp2_with fail
 refine kw1.mono ?_
 rintro e wx ⟨rfl,hwx⟩
 subst hwx
 clear kw1
 go_wp2_with fail
 refine kw2.mono ?_
 rintro e wx ⟨rfl,hwx⟩
 subst hwx
 clear kw2
 go_wp2_with fail
 refine wp_region_held_drew (S:=(fun w'=>w'.cell? ⟨pa,0,none⟩=some (.pointer (some ⟨t,0,none⟩))∧w'.cell? ⟨w.heap.size,4,none⟩=some (.slice da dn dc))) (by kernel_rfl) (H6.out _ HD0.out) (fun hHeld=>?_)
 refine wpAnyH_take (i:=0) (oi:={dst:=some 29,op:=Op.move (Operand.tmp 1),type:=35,pos:= "exact.go:156",after:= #[],guard:=none}) (v:= .pointer (some ⟨pa,0,none⟩)) rfl (by kernel_rfl) (by kernel_rfl) (by kernel_rfl) (fun _ _ _ h=>h) (Or.inl ⟨by rfl,?_⟩) (by assumption) ?_
 ·intro w hSw
  (try dsimp only at hSw)
  go_simp
 try simp only [Act.put,List.setIfInBounds_toArray,List.set_cons_zero,List.set_cons_succ]
 refine wpAnyH_take (i:=1) (oi:={dst:=some 30,op:=Op.nilCheck (Operand.tmp 29),type:=0,pos:= "exact.go:156",after:= #[{on:=0,ground:=Ground.data}],guard:=none}) (v:= .pointer (some ⟨pa,0,none⟩)) rfl (by kernel_rfl) (by kernel_rfl) (by kernel_rfl) (fun _ _ _ h=>h) (Or.inl ⟨by rfl,?_⟩) (by assumption) ?_
 ·intro w hSw
  (try dsimp only at hSw)
  go_simp
 try simp only [Act.put,List.setIfInBounds_toArray,List.set_cons_zero,List.set_cons_succ]
 refine wpAnyH_take (i:=2) (oi:={dst:=some 31,op:=Op.fieldAddr 59 (Operand.tmp 30) 0,type:=0,pos:= "exact.go:156",after:= #[{on:=1,ground:=Ground.data}],guard:=none}) (v:= .pointer (some ⟨pa,0,none⟩)) rfl (by kernel_rfl) (by kernel_rfl) (by kernel_rfl) (fun _ _ _ h=>h) (Or.inl ⟨by rfl,?_⟩) (by assumption) ?_
 ·intro w hSw
  (try dsimp only at hSw)
  go_simp
 try simp only [Act.put,List.setIfInBounds_toArray,List.set_cons_zero,List.set_cons_succ]
 refine wpAnyH_take (i:=3) (oi:={dst:=some 32,op:=Op.load 57 (Operand.tmp 31),type:=57,pos:= "exact.go:156",after:= #[{on:=2,ground:=Ground.data}],guard:=none}) (v:= .pointer (some ⟨t,0,none⟩)) rfl (by kernel_rfl) (by kernel_rfl) (by kernel_rfl) (fun _ _ _ h=>h) (Or.inl ⟨by rfl,?_⟩) (by assumption) ?_
 ·intro w hSw
  (try dsimp only at hSw)
  go_simp
 try simp only [Act.put,List.setIfInBounds_toArray,List.set_cons_zero,List.set_cons_succ]
 refine wpAnyH_take (i:=4) (oi:={dst:=some 33,op:=Op.move (Operand.tmp 7),type:=3,pos:= "exact.go:156",after:= #[],guard:=none}) (v:= .int .i64 (b:Int)) rfl (by kernel_rfl) (by kernel_rfl) (by kernel_rfl) (fun _ _ _ h=>h) (Or.inl ⟨by rfl,?_⟩) (by assumption) ?_
 ·intro w hSw
  (try dsimp only at hSw)
  go_simp
 try simp only [Act.put,List.setIfInBounds_toArray,List.set_cons_zero,List.set_cons_succ]
 refine wpAnyH_take (i:=5) (oi:={dst:=some 34,op:=Op.fieldAddr 46 (Operand.tmp 5) 4,type:=0,pos:= "exact.go:156",after:= #[],guard:=none}) (v:= .pointer (some ⟨w.heap.size,4,none⟩)) rfl (by kernel_rfl) (by kernel_rfl) (by kernel_rfl) (fun _ _ _ h=>h) (Or.inl ⟨by rfl,?_⟩) (by assumption) ?_
 ·intro w hSw
  (try dsimp only at hSw)
  go_simp
 try simp only [Act.put,List.setIfInBounds_toArray,List.set_cons_zero,List.set_cons_succ]
 refine wpAnyH_take (i:=6) (oi:={dst:=some 35,op:=Op.load 44 (Operand.tmp 34),type:=44,pos:= "exact.go:156",after:= #[{on:=5,ground:=Ground.data}],guard:=none}) (v:= .slice da dn dc) rfl (by kernel_rfl) (by kernel_rfl) (by kernel_rfl) (fun _ _ _ h=>h) (Or.inl ⟨by rfl,?_⟩) (by assumption) ?_
 ·intro w hSw
  (try dsimp only at hSw)
  go_simp
 try simp only [Act.put,List.setIfInBounds_toArray,List.set_cons_zero,List.set_cons_succ]
 refine wpAnyH_ready (rs:= [7]) (by kernel_rfl) (by simp) ?_
 refine AllReadyH.cons (o:={dst:=some 36,op:=Op.call {callee:=Callee.value (Operand.func 83),args:= #[Operand.tmp 35],argTypes:= #[44]},type:=44,pos:= "exact.go:156",after:= #[{on:=6,ground:=Ground.data}],guard:=none}) rfl (fun K hK=>?_) AllReadyH.nil
 go_simp
 refine(padded_any (c:=dc) (HSr.out _ (Keeps.of_below _ (HB0.out.trans (HD0.out.mono HB0.out.size)))) hdn).mono ?_
 rintro e w1 ⟨gp,cp,rfl,hgp,hrp,hb1⟩
 have hB1:Below (w.alloc (stpC 11 N who two da dn dc)).heap.size (w.alloc (stpC 11 N who two da dn dc)) w1:=HD0.out.trans (hb1.mono HD0.out.size)
 refine hK.out _ _ ?_ (fun hHeld=>?_)
 ·exact H6.out _ hB1
 clear hK K
 try simp only [Act.put,List.setIfInBounds_toArray,List.set_cons_zero,List.set_cons_succ]
 refine wpAnyH_ready (rs:= [8]) (by kernel_rfl) (by simp) ?_
 refine AllReadyH.cons (o:={dst:=some 37,op:=Op.call {callee:=Callee.value (Operand.func 63),args:= #[Operand.tmp 32,Operand.tmp 33,Operand.tmp 36],argTypes:= #[57,3,44]},type:=39,pos:= "exact.go:156",after:= #[{on:=3,ground:=Ground.data},{on:=4,ground:=Ground.data},{on:=7,ground:=Ground.data},{on:=7,ground:=Ground.chain}],guard:=none}) rfl (fun K hK=>?_) AllReadyH.nil
 go_simp
 have hr1:=HR0.out.later hB1
 have hsp:Src w1 (some ⟨gp,0,none⟩) 512 (pad5 dl):=by have h9:=hrp.src;rw [pad5_len] at h9;exact h9
 have kp:=Put_any hr1.x.st hr1.x.tx (b:Int) (some ⟨gp,0,none⟩) 512 cp (pad5 dl) hsp (by omega) (pad5_bytes hby) hr1.x.big
 rw [HQ1.out] at kp
 refine kp.mono ?_
 intro e w2 hP
 have he2:=hP.1
 subst he2
 have hx2:TX w2 F p s (cR+1) q l m t n S G T1∧Keeps (OwT F t n) w1 w2:=by
  have h9:=hr1.x.put (b:=(b:Int)) (d:=pad5 dl) (by rw [HQ1.out];exact hP)
  rw [HQ1.out] at h9
  exact h9
 have hk2:Keeps (fun j=>OwT F t n j∨X j) w w2:=((Keeps.of_below _ HB0.out).trans (Keeps.of_below (fun _=>False) hB1) (fun _ h=>h.elim)).trans (hx2.2.mono (fun _ h=> .inl h)) (fun _ h=> .inl h)
 have hr2:=HR.out.after (Y:=X) hx2.1 (HR.out.mm.apart (((Keeps.of_below (OwT F t n) HB0.out).trans (Keeps.of_below (fun _=>False) hB1) (fun _ h=>h.elim)).trans hx2.2 (fun _ h=> .inl h)) (fun j e hx=>HR.out.offX j hx e)) hk2 (fun _ h=> .inl h)
 have hcs2:w2.cell? ⟨pa,0,none⟩=some (.pointer (some ⟨t,0,none⟩))∧w2.cell? ⟨w.heap.size,4,none⟩=some (.slice da dn dc):=by
  refine⟨((HPa.out.later hB1).keep hx2.2).c0,?_⟩
  have z1:w.heap.size<w1.heap.size:=Nat.lt_of_lt_of_le (lt_there HBx.out) hB1.size
  exact cell_of_block ((hx2.2.block _ z1 (fun e=>by have:=hr1.x.low;have:=HNo.out;exact this e)).trans ((hB1.block _ (lt_there HBx.out)).trans HBx.out)) (j:=4) rfl
 have H2:=Hid.mk (And.intro hr2 (And.intro hk2 hcs2.2))
 clear kp hP hx2 hk2 hr2 hr1 hsp hrp hb1
 refine hK.out _ _ ?_ (fun hHeld=>?_)
 ·exact hcs2
 clear hK K
 try simp only
 refine wpAnyH_ready (rs:= [9]) (by kernel_rfl) (by simp) ?_
 refine AllReadyH.cons (o:={dst:=some 8,op:=Op.assign (Operand.tmp 37),type:=39,pos:= "exact.go:156",after:= #[{on:=8,ground:=Ground.data},{on:=8,ground:=Ground.chain},{on:=0,ground:=Ground.phase},{on:=1,ground:=Ground.phase},{on:=2,ground:=Ground.phase},{on:=3,ground:=Ground.phase},{on:=4,ground:=Ground.phase},{on:=5,ground:=Ground.phase},{on:=6,ground:=Ground.phase},{on:=7,ground:=Ground.phase},{on:=8,ground:=Ground.phase}],guard:=none}) rfl (fun K hK=>?_) AllReadyH.nil
 go_simp
 refine hK.out _ _ ?_ (fun hHeld=>?_)
 ·exact hcs2
 clear hK K
 try simp only [Act.put,List.setIfInBounds_toArray,List.set_cons_zero,List.set_cons_succ]
 refine wpAnyH_done (by kernel_rfl) ?_ _
 clear hHeld g0 g1 ce cb
 have HD2:Hid (Below w2.heap.size w2 w2.drew):=(Keeps.drew (fun _=>False) w2).below (fun _ h=>h.elim) (Nat.le_refl _)
 have H7:Hid (∀w',Below w2.heap.size w2 w'→w'.cell? ⟨kr,4,none⟩=some (.pointer (some ⟨k,0,none⟩))∧w'.cell? ⟨w.heap.size,4,none⟩=some (.slice da dn dc)):=fun w' hw=>⟨cell_later hw (cell_of_block H2.out.1.b (j:=4) rfl),cell_later hw H2.out.2.2⟩
 clear hcs2
 go_wp2_with fail
 refine wp_region_held_drew (S:=(fun w'=>w'.cell? ⟨kr,4,none⟩=some (.pointer (some ⟨k,0,none⟩))∧w'.cell? ⟨w.heap.size,4,none⟩=some (.slice da dn dc))) (by kernel_rfl) (H7.out _ HD2.out) (fun hHeld=>?_)
 refine wpAnyH_take (i:=0) (oi:={dst:=some 38,op:=Op.move (Operand.tmp 0),type:=28,pos:= "exact.go:157",after:= #[],guard:=none}) (v:= .pointer (some ⟨kr,0,none⟩)) rfl (by kernel_rfl) (by kernel_rfl) (by kernel_rfl) (fun _ _ _ h=>h) (Or.inl ⟨by rfl,?_⟩) (by assumption) ?_
 ·intro w hSw
  (try dsimp only at hSw)
  go_simp
 try simp only [Act.put,List.setIfInBounds_toArray,List.set_cons_zero,List.set_cons_succ]
 refine wpAnyH_take (i:=1) (oi:={dst:=some 39,op:=Op.nilCheck (Operand.tmp 38),type:=0,pos:= "exact.go:157",after:= #[{on:=0,ground:=Ground.data}],guard:=none}) (v:= .pointer (some ⟨kr,0,none⟩)) rfl (by kernel_rfl) (by kernel_rfl) (by kernel_rfl) (fun _ _ _ h=>h) (Or.inl ⟨by rfl,?_⟩) (by assumption) ?_
 ·intro w hSw
  (try dsimp only at hSw)
  go_simp
 try simp only [Act.put,List.setIfInBounds_toArray,List.set_cons_zero,List.set_cons_succ]
 refine wpAnyH_take (i:=2) (oi:={dst:=some 40,op:=Op.fieldAddr 38 (Operand.tmp 39) 4,type:=0,pos:= "exact.go:157",after:= #[{on:=1,ground:=Ground.data}],guard:=none}) (v:= .pointer (some ⟨kr,4,none⟩)) rfl (by kernel_rfl) (by kernel_rfl) (by kernel_rfl) (fun _ _ _ h=>h) (Or.inl ⟨by rfl,?_⟩) (by assumption) ?_
 ·intro w hSw
  (try dsimp only at hSw)
  go_simp
 try simp only [Act.put,List.setIfInBounds_toArray,List.set_cons_zero,List.set_cons_succ]
 refine wpAnyH_take (i:=3) (oi:={dst:=some 41,op:=Op.load 36 (Operand.tmp 40),type:=36,pos:= "exact.go:157",after:= #[{on:=2,ground:=Ground.data}],guard:=none}) (v:= .pointer (some ⟨k,0,none⟩)) rfl (by kernel_rfl) (by kernel_rfl) (by kernel_rfl) (fun _ _ _ h=>h) (Or.inl ⟨by rfl,?_⟩) (by assumption) ?_
 ·intro w hSw
  (try dsimp only at hSw)
  go_simp
 try simp only [Act.put,List.setIfInBounds_toArray,List.set_cons_zero,List.set_cons_succ]
 refine wpAnyH_take (i:=4) (oi:={dst:=some 42,op:=Op.move (Operand.tmp 7),type:=3,pos:= "exact.go:157",after:= #[],guard:=none}) (v:= .int .i64 (b:Int)) rfl (by kernel_rfl) (by kernel_rfl) (by kernel_rfl) (fun _ _ _ h=>h) (Or.inl ⟨by rfl,?_⟩) (by assumption) ?_
 ·intro w hSw
  (try dsimp only at hSw)
  go_simp
 try simp only [Act.put,List.setIfInBounds_toArray,List.set_cons_zero,List.set_cons_succ]
 refine wpAnyH_take (i:=5) (oi:={dst:=some 43,op:=Op.fieldAddr 46 (Operand.tmp 5) 4,type:=0,pos:= "exact.go:157",after:= #[],guard:=none}) (v:= .pointer (some ⟨w.heap.size,4,none⟩)) rfl (by kernel_rfl) (by kernel_rfl) (by kernel_rfl) (fun _ _ _ h=>h) (Or.inl ⟨by rfl,?_⟩) (by assumption) ?_
 ·intro w hSw
  (try dsimp only at hSw)
  go_simp
 try simp only [Act.put,List.setIfInBounds_toArray,List.set_cons_zero,List.set_cons_succ]
 refine wpAnyH_take (i:=6) (oi:={dst:=some 44,op:=Op.load 44 (Operand.tmp 43),type:=44,pos:= "exact.go:157",after:= #[{on:=5,ground:=Ground.data}],guard:=none}) (v:= .slice da dn dc) rfl (by kernel_rfl) (by kernel_rfl) (by kernel_rfl) (fun _ _ _ h=>h) (Or.inl ⟨by rfl,?_⟩) (by assumption) ?_
 ·intro w hSw
  (try dsimp only at hSw)
  go_simp
 try simp only [Act.put,List.setIfInBounds_toArray,List.set_cons_zero,List.set_cons_succ]
 refine wpAnyH_ready (rs:= [7]) (by kernel_rfl) (by simp) ?_
 refine AllReadyH.cons (o:={dst:=some 45,op:=Op.call {callee:=Callee.value (Operand.func 83),args:= #[Operand.tmp 44],argTypes:= #[44]},type:=44,pos:= "exact.go:157",after:= #[{on:=6,ground:=Ground.data}],guard:=none}) rfl (fun K hK=>?_) AllReadyH.nil
 go_simp
 refine(padded_any (c:=dc) (HSr.out _ (H2.out.2.1.trans (Keeps.of_below (fun _=>False) HD2.out) (fun _ h=>h.elim))) hdn).mono ?_
 rintro e w3 ⟨gp3,cp3,rfl,hgp3,hrp3,hb3⟩
 have hB3:Below w2.heap.size w2 w3:=HD2.out.trans (hb3.mono HD2.out.size)
 refine hK.out _ _ ?_ (fun hHeld=>?_)
 ·exact H7.out _ hB3
 clear hK K
 try simp only [Act.put,List.setIfInBounds_toArray,List.set_cons_zero,List.set_cons_succ]
 refine wpAnyH_ready (rs:= [8]) (by kernel_rfl) (by simp) ?_
 refine AllReadyH.cons (o:={dst:=some 46,op:=Op.call {callee:=Callee.value (Operand.func 84),args:= #[Operand.tmp 41,Operand.tmp 42,Operand.tmp 45],argTypes:= #[36,3,44]},type:=3,pos:= "exact.go:157",after:= #[{on:=3,ground:=Ground.data},{on:=4,ground:=Ground.data},{on:=7,ground:=Ground.data},{on:=7,ground:=Ground.chain}],guard:=none}) rfl (fun K hK=>?_) AllReadyH.nil
 go_simp
 have hr3:=H2.out.1.later hB3
 have hsp3:Src w3 (some ⟨gp3,0,none⟩) 512 (pad5 dl):=by have h9:=hrp3.src;rw [pad5_len] at h9;exact h9
 have km:=mwmap_any (c:=cp3) hr3.mm hr3.xl (by have:=HC.out.1.plen;omega) hsp3 (pad5_bytes hby) b (by omega)
 unfold MO at km
 rw [HQ2.out] at km
 refine km.mono ?_
 rintro e w4 ⟨rfl,hm4,hk4⟩
 have HE:Hid (∃X' T' M' c',RgW w4 F X' kr p s c' q l m t n a1 a2 k S G T' M'∧LK G S T' M'∧Keeps (fun j=>OwT F t n j∨X j) w w4∧(∀j,X' j→X j∨(w.heap.size≤j∧j<w4.heap.size))):=by
  have z2:=H2.out.2.1.size
  have z3:=hB3.size
  refine⟨_,T1,M1,_,hr3.after (hr3.x.apart hk4 (fun j hj=>?_)) hm4 (hk4.mono (fun _ h=> .inr h)) (fun _ h=>h),HC.out.2,(H2.out.2.1.trans (Keeps.of_below (fun _=>False) hB3) (fun _ h=>h.elim)).trans (hk4.mono (fun _ h=> .inr h)) (fun _ h=> .inl h),fun j hj=>hj.imp (fun e=>e) (fun e=>⟨by have:=e.1;omega,e.2⟩)⟩
  have h9:=hr3.xa j hj
  exact⟨h9.1,h9.2.1,h9.2.2.1,h9.2.2.2.1,h9.2.2.2.2.1,h9.2.2.2.2.2.1⟩
 have hcs4:w4.cell? ⟨kr,4,none⟩=some (.pointer (some ⟨k,0,none⟩))∧w4.cell? ⟨w.heap.size,4,none⟩=some (.slice da dn dc):=by
  have h9:=H7.out _ hB3
  have z4:w.heap.size<w3.heap.size:=Nat.lt_of_lt_of_le (World.block_lt_of_cell? _ _ H2.out.2.2) hB3.size
  exact⟨(World.cell?_of_block (w:=w3) (a:=⟨kr,4,none⟩) (hk4.block kr (lt_there hr3.b) (fun e=>(hr3.xa kr e).2.2.2.2.2.2.1 rfl))).trans h9.1,(World.cell?_of_block (w:=w3) (a:=⟨w.heap.size,4,none⟩) (hk4.block _ z4 (fun e=>Nat.lt_irrefl _ (HR.out.xl _ e)))).trans h9.2⟩
 clear km hm4 hk4 hr3 hsp3 hrp3 hb3
 refine hK.out _ _ ?_ (fun hHeld=>?_)
 ·exact hcs4
 clear hK K
 try simp only
 refine wpAnyH_ready (rs:= [9]) (by kernel_rfl) (by simp) ?_
 refine AllReadyH.cons (o:={dst:=some 9,op:=Op.assign (Operand.tmp 46),type:=3,pos:= "exact.go:157",after:= #[{on:=8,ground:=Ground.data},{on:=8,ground:=Ground.chain},{on:=0,ground:=Ground.phase},{on:=1,ground:=Ground.phase},{on:=2,ground:=Ground.phase},{on:=3,ground:=Ground.phase},{on:=4,ground:=Ground.phase},{on:=5,ground:=Ground.phase},{on:=6,ground:=Ground.phase},{on:=7,ground:=Ground.phase},{on:=8,ground:=Ground.phase}],guard:=none}) rfl (fun K hK=>?_) AllReadyH.nil
 go_simp
 refine hK.out _ _ ?_ (fun hHeld=>?_)
 ·exact hcs4
 clear hK K
 try simp only [Act.put,List.setIfInBounds_toArray,List.set_cons_zero,List.set_cons_succ]
 refine wpAnyH_done (by kernel_rfl) ?_ _
 clear hHeld hcs4
 have kn:=num6_any zz w4
 go_wp2_with fail
 refine kn.mono ?_
 rintro e wx ⟨rfl,hwx⟩
 have hwx':=hwx.symm
 subst hwx'
 clear hwx kn
 go_wp2
 go_ret
 exact⟨rfl,HE.out⟩
end
end Go.Proofs.YtkiehemoiapkkaaGreat
end
section
namespace Go.Proofs.YtkiehemoiapkkaaGreat
open Go.RowKit Go.Maps
section
variable {w w' w1:World} {F X Y Z:Nat→Prop} {kr p s cR q l m t n a1 a2 k pa:Nat} {S:DS} {G:SG} {T T':TG} {M M':MP} {N:Int} {who two:Bool} {da:Option Addr} {dn dc:Nat}
set_option maxRecDepth 20000 in
set_option maxHeartbeats 4000000 in
theorem callsK1_any (h:RgW w F X kr p s cR q l m t n a1 a2 k S G T M) (hc:LK G S T M) (hdt:G.y.data=2+G.y.nodes / 4) (hpa:PoolAt w F pa t n):
  Calls Tryz.prog 36 #[.pointer (some ⟨kr,0,none⟩), .pointer (some ⟨pa,0,none⟩),stpV 1 N who two da dn dc] w fun e w'=>StpL w w' F X kr p s q l m t n a1 a2 k S G e:=by
 obtain⟨zz,T1,M1,q1,q2,hc1⟩:=hc.clear h.x.yk hdt h.x.tx.ch.ok
 have hB0:=below_box w (stpC 1 N who two da dn dc)
 have hbx:=heap_alloc_new w (stpC 1 N who two da dn dc)
 have g0:(w.alloc (stpC 1 N who two da dn dc)).cell? ⟨w.heap.size,0,none⟩=some (.int .i64 1):=cell_of_block hbx (j:=0) rfl
 have h0:=h.later hB0
 have kc:=clear_any h0.x (hpa.later hB0)
 rw [q1] at kc
 have H0:=Hid.mk (And.intro h0 (And.intro h hB0))
 have HC:=Hid.mk (And.intro hc hc1)
 have HQ:=Hid.mk q2
 clear h hc hdt hpa q1 q2 hc1 hB0 hbx h0
 go_enter Tryz.func36,Tryz.ntmps36
 go_wp2_with fail
 refine kc.mono ?_
 rintro e w1 ⟨rfl,hx1,hk1⟩
 have hk1':Keeps (fun j=>OwT F t n j∨X j) (w.alloc (stpC 1 N who two da dn dc)) w1:=hk1.mono (fun _ h=> .inl h)
 have h1:=H0.out.1.after (Y:=X) hx1 (H0.out.1.mm.apart hk1 (fun j e hx=>H0.out.1.offX j hx e)) hk1' (fun _ h=> .inl h)
 have ce:w1.cell? ⟨kr,4,none⟩=some (.pointer (some ⟨k,0,none⟩)):=cell_of_block h1.b (j:=4) rfl
 have km:=mclear_any h1.mm h1.xl (by have:=HC.out.1.plen;omega) (by have:=h1.x.yk.nd;have h9:M.nodes=G.y.nodes:=HC.out.1.mn;omega)
 unfold MO at km
 rw [HQ.out] at km
 have H1:=Hid.mk (And.intro h1 hk1')
 clear kc hx1 hk1 hk1' h1 g0
 go_wp2_with fail
 refine km.mono ?_
 rintro e w2 ⟨rfl,hm2,hk2⟩
 have HE:Hid (∃X' T' M' c',RgW w2 F X' kr p s c' q l m t n a1 a2 k S G T' M'∧LK G S T' M'∧Keeps (fun j=>OwT F t n j∨X j) w w2∧(∀j,X' j→X j∨(w.heap.size≤j∧j<w2.heap.size))):=by
  have z0:=H0.out.2.2.size
  have z1:=H1.out.2.size
  refine⟨_,T1,M1,_,H1.out.1.after (H1.out.1.x.apart hk2 (fun j hj=>?_)) hm2 (hk2.mono (fun _ h=> .inr h)) (fun _ h=>h),HC.out.2,((Keeps.of_below _ H0.out.2.2).trans H1.out.2 (fun _ h=> .inl h)).trans (hk2.mono (fun _ h=> .inr h)) (fun _ h=> .inl h),fun j hj=>hj.imp (fun e=>e) (fun e=>⟨by have:=e.1;omega,e.2⟩)⟩
  have h9:=H1.out.1.xa j hj
  exact⟨h9.1,h9.2.1,h9.2.2.1,h9.2.2.2.1,h9.2.2.2.2.1,h9.2.2.2.2.2.1⟩
 have kn:=num6_any zz w2
 clear km hm2 hk2 H1 ce
 go_wp2_with fail
 refine kn.mono ?_
 rintro e wx ⟨rfl,hwx⟩
 have hwx':=hwx.symm
 subst hwx'
 clear hwx kn
 go_wp2
 go_ret
 exact⟨rfl,HE.out⟩
end
end Go.Proofs.YtkiehemoiapkkaaGreat
end
section
namespace Go.Proofs.YtkiehemoiapkkaaGreat
open Go.RowKit Go.Maps
section
variable {w w':World} {F X:Nat→Prop} {kr p s cR q l m t n a1 a2 k pa:Nat} {x2 x3:Value} {S:DS} {G:SG} {T:TG} {M:MP}
theorem get6_no (h:TX w F p s cR q l m t n S G T) (b:Nat) (r0:T.state G S≠0):Calls Tryz.prog 32 #[.pointer (some ⟨t,0,none⟩), .int .i64 (b:Int)] w fun e w'=>e= .returned (.tuple #[.slice none 0 0, .int .i64 (T.state G S)])∧TX w' F p s (cR+1) q l m t n S G T∧Keeps F w w':=
   (Get_any h.st h.tx (b:Int) h.big).mono (fun e w' ⟨hx,hd,hk⟩=>by
  unfold GetOut at hx
  rw [refusal_st r0,if_pos r0] at hx
  exact⟨hx,h.asked hd hk,hk⟩)
set_option maxRecDepth 20000 in
set_option maxHeartbeats 8000000 in
theorem looks_no (h:TX w F p s cR q l m t n S G T) (hp:PoolAt w F a1 t n) (hrb:w.heap[kr]? =some (.cells (rigC p q x2 x3 k true) 38 (0,0))) (hkr:¬OwT F t n kr) (hm:MX w X k M) (hXO:∀j,X j→¬OwT F t n j) (h0:T.state G S≠0) (hm0:M.state=T.state G S):
  Calls Tryz.prog 14 #[.pointer (some ⟨kr,0,none⟩), .pointer (some ⟨a1,0,none⟩)] w fun e w'=>e= .returned (.bool true)∧(∃c',TX w' F p s c' q l m t n S G T)∧Keeps (OwT F t n) w w':=by
 have k1:=get6_no h 0 h0
 have k2:=fun (w1:World) (hx1:TX w1 F p s (cR+1) q l m t n S G T)=>get6_no hx1 1 h0
 have c0:=hp.c0
 have HCe:Hid (∀wr,Keeps (OwT F t n) w wr→wr.cell? ⟨kr,4,none⟩=some (.pointer (some ⟨k,0,none⟩))∧MX wr X k M):=fun wr hk=>⟨cell_of_block ((hk.block kr (lt_there hrb) hkr).trans hrb) (j:=4) rfl,hm.apart hk (fun j hj hx=>hXO j hx hj)⟩
 have HP:=Hid.mk hp
 have HKM:Hid (∀wr,MX wr X k M→Calls Tryz.prog 29 #[.pointer (some ⟨k,0,none⟩)] wr fun e w'=>e= .returned (.int .i64 (T.state G S))∧w'=wr):=fun wr hm=>by rw [←hm0];exact mstate_any hm
 obtain⟨x,hx⟩:∃x,x=T.state G S:=⟨_,rfl⟩
 rw [←hx] at k1 k2 HKM h0
 have d0:(x != 0)=true:=by rw [bne_iff_ne];exact h0
 clear h hp hrb hm hXO h0 hkr hm0 hx
 go_enter Tryz.func14,Tryz.ntmps14
 go_wp2_with fail
 refine k1.mono ?_
 rintro e w1 ⟨rfl,hx1,hk1⟩
 have hp1:=HP.out.keep (hk1.mono (fun _ h=> .inl h))
 have c0':=hp1.c0
 have k3:=k2 w1 hx1
 have HA:=Hid.mk hk1
 clear k1 k2 hx1 hp1 c0 hk1
 go_wp2_with fail
 refine k3.mono ?_
 rintro e w2 ⟨rfl,hx2,hk2⟩
 have hK2:Keeps (OwT F t n) w w2:=(HA.out.trans hk2 (fun _ h=> .inl h)).mono (fun _ h=> .inl h)
 obtain⟨ce,hm2⟩:=HCe.out w2 hK2
 have km:=HKM.out w2 hm2
 have H2:=Hid.mk (And.intro hx2 hK2)
 clear k3 hx2 hk2 hK2 hm2 HA c0'
 go_wp2_with fail
 refine km.mono ?_
 rintro e wx ⟨rfl,hwx⟩
 have hwx':=hwx.symm
 subst hwx'
 clear hwx km ce
 have kn:=num6_any x w2
 go_wp2_with fail
 refine kn.mono ?_
 rintro e wx ⟨rfl,hwx⟩
 have hwx':=hwx.symm
 subst hwx'
 clear hwx
 go_wp2_with fail
 refine kn.mono ?_
 rintro e wx ⟨rfl,hwx⟩
 have hwx':=hwx.symm
 subst hwx'
 clear hwx kn
 go_wp2
 go_ret
 exact⟨rfl,⟨_,H2.out.1⟩,H2.out.2⟩
theorem looksL (h:RgW w F X kr p s cR q l m t n a1 a2 k S G T M) (hc:LK G S T M) (hpa:PoolAt w F pa t n):
  Calls Tryz.prog 14 #[.pointer (some ⟨kr,0,none⟩), .pointer (some ⟨pa,0,none⟩)] w fun e w'=>StpL w w' F X kr p s q l m t n a1 a2 k S G e:=by
 have hend:∀(e:Ending) (w':World),(e= .returned (.bool true)∧(∃c',TX w' F p s c' q l m t n S G T)∧Keeps (OwT F t n) w w')→StpL w w' F X kr p s q l m t n a1 a2 k S G e:=fun e w' ⟨he,⟨c',hx⟩,hk⟩=>⟨he,X,T,M,c',h.after hx (h.mm.apart hk (fun j ej hx=>h.offX j hx ej)) (hk.mono (fun _ h=> .inl h)) (fun _ h=> .inl h),hc,hk.mono (fun _ h=> .inl h),fun _ h=> .inl h⟩
 by_cases h0:M.state=0
 ·exact(looks_ok h.x hpa h.b h.offR h.mm h.offX (hc.state.trans h0) h0 hc.mb hc.rl hc.so hc.s0 hc.s1).mono hend
 ·exact(looks_no h.x hpa h.b h.offR h.mm h.offX (by rw [hc.state];exact h0) hc.state.symm).mono hend
end
end Go.Proofs.YtkiehemoiapkkaaGreat
end
section
namespace Go.Proofs.YtkiehemoiapkkaaGreat
open Go.RowKit Go.Maps
def MP.abort (M:MP):Int×MP:=if M.dead then (3,M) else if M.opn then (0,{M with opn:=false}) else (4,M)
section
variable {w w':World} {X Y Z:Nat→Prop} {k:Nat} {M:MP}
theorem MX.setOpn (h:MX w X k M):w.cell? ⟨k,11,none⟩=some (.bool M.opn)∧w.frozen? ⟨k,11,none⟩=false∧w.cell? ⟨k,12,none⟩=some (.bool M.dead)∧MX (w.setCell ⟨k,11,none⟩ (.bool false)) X k {M with opn:=false}∧Keeps X w (w.setCell ⟨k,11,none⟩ (.bool false)):=by
 obtain⟨g1,c1,g2,c2,g3,c3,g4,c4,v5,v6,v7,h⟩:=h
 have hbl:=h.b
 have hs:(w.setCell ⟨k,11,none⟩ (.bool false)).heap[k]? =some (.cells (mpC {M with opn:=false} (slB g1 c1) (slB g2 c2) (slB g3 c3) (slB g4 c4) v5 v6 v7) 72 (0,0)):=heap_setCell_same _ _ _ _ _ _ hbl
 have hk:=Keeps.setCell (F:=fun j=>j=k) w (p:=⟨k,11,none⟩) rfl (.bool false)
 have hil:IL w X v7 M.put:=⟨h.put.1,h.put.2⟩
 have hil2:=hil.keep hk (fun g hg e=>by
  obtain⟨cur,hc⟩:=owns_block hil.own hg
  rw [e,hbl] at hc
  cases hc)
 have hb1:∀g,g=k→∃cur t fz,w.heap[g]? =some (.cells cur t fz)∧t≠4:=fun g hg=>by subst hg;exact⟨_,_,_,hbl,by decide⟩
 have hb2:∀g,g=k→∃cur t fz,w.heap[g]? =some (.cells cur t fz)∧t≠5∧t≠44:=fun g hg=>by subst hg;exact⟨_,_,_,hbl,by decide,by decide⟩
 exact⟨cell_of_block hbl (j:=11) rfl,frozen_of_block hbl 11,cell_of_block hbl (j:=12) rfl,⟨_,_,_,_,_,_,_,_,_,_,_,⟨hs,h.xk,⟨h.ob.1,h.ob.2.1.unlike hk hb1,h.ob.2.2⟩,⟨h.on.1,h.on.2.1.unlike hk hb1,h.on.2.2⟩,⟨h.nb.1,h.nb.2.1.unlike hk hb1,h.nb.2.2⟩,⟨h.nn.1,h.nn.2.1.unlike hk hb1,h.nn.2.2⟩,h.n12,h.n13,h.n14,h.n23,h.n24,h.n34,h.oraw.keep hk hb2,h.raw.keep hk hb2,⟨hil2.own,hil2.x⟩,fun e=>by cases e⟩⟩,hk.mono (fun j hj=>by rw [hj];exact h.xk)⟩
set_option maxRecDepth 20000 in
set_option maxHeartbeats 4000000 in
theorem mabort_any (h:MX w X k M):Calls Tryz.prog 82 #[.pointer (some ⟨k,0,none⟩)] w fun e w'=>e= .returned (.int .i64 M.abort.1)∧MX w' X k M.abort.2∧Keeps X w w':=by
 obtain⟨c11,f11,c12,hm2,hk2⟩:=h.setOpn
 have H:=Hid.mk h
 have H2:=Hid.mk (And.intro hm2 hk2)
 clear h hm2 hk2
 cases hd:M.dead
 ·rw [hd] at c12
  cases ho:M.opn
  ·rw [ho] at c11
   have HE:Hid (M.abort=(4,M)):=by show M.abort=_;unfold MP.abort;rw [hd,ho];rfl
   clear hd ho
   go_enter Tryz.func82,Tryz.ntmps82
   go_wp2
   go_ret
   rw [HE.out]
   exact⟨rfl,H.out,Keeps.refl _ _⟩
  ·rw [ho] at c11
   have HE:Hid (M.abort=(0,{M with opn:=false})):=by show M.abort=_;unfold MP.abort;rw [hd,ho];rfl
   clear hd ho
   go_enter Tryz.func82,Tryz.ntmps82
   go_wp2
   go_ret
   rw [HE.out]
   exact⟨rfl,H2.out.1,H2.out.2⟩
 ·rw [hd] at c12
  have HE:Hid (M.abort=(3,M)):=by show M.abort=_;unfold MP.abort;rw [hd];rfl
  clear hd c11
  go_enter Tryz.func82,Tryz.ntmps82
  go_wp2
  go_ret
  rw [HE.out]
  exact⟨rfl,H.out,Keeps.refl _ _⟩
end
section
variable {w w':World} {F F' X Y Z:Nat→Prop} {kr p s cR c' q l m t n a a1 a2 k pa:Nat} {S S':DS} {G G':SG} {T T':TG} {M M':MP}
theorem RgW.turnG (h:RgW w F X kr p s cR q l m t n a1 a2 k S G T M) (hx:TX w' F' p s c' q l m t n S' G' T') (hm:MX w' Y k M') (hk:Keeps Z w w') (zr:¬Z kr) (z1:¬Z a1) (z2:¬Z a2) (hF:∀j,F' j→F j∨w.heap.size≤j) (hY:∀j,Y j→X j∨(w.heap.size≤j∧j<w'.heap.size)) (hYF:∀j,Y j→¬F' j):RgW w' F' Y kr p s c' q l m t n a1 a2 k S' G' T' M':=by
 have hz:=hk.size
 have lr:=lt_there h.b
 have l1:=h.p1.lt
 have l2:=h.p2.lt
 have nF:∀a,a<w.heap.size→¬F a→¬F' a:=fun a ha hn e=>by
  rcases hF a e with e|e
  ·exact hn e
  ·omega
 have hp:∀a,PoolAt w F a t n→¬Z a→PoolAt w' F' a t n:=fun a ha za=>⟨(hk.block a ha.lt za).trans ha.b,fun e=>by
  rcases e with e|e|e
  ·exact nF a ha.lt (fun e=>ha.nf (.inl e)) e
  ·exact ha.nf (.inr (.inl e))
  ·exact ha.nf (.inr (.inr e))⟩
 obtain⟨o1,o2,o3,o4,o5,o6⟩:=h.x.low
 refine⟨(hk.block kr lr zr).trans h.b,hx,hp a1 h.p1 z1,hp a2 h.p2 z2,hm,fun j hj=>?_,⟨nF kr lr h.nk.1,h.nk.2⟩,fun j hj=>?_⟩
 ·rcases hY j hj with e|e
  ·exact Nat.lt_of_lt_of_le (h.xl j e) hz
  ·exact e.2
 ·rcases hY j hj with e|e
  ·have h9:=h.xa j e
   exact⟨hYF j hj,h9.2⟩
  ·exact⟨hYF j hj,by omega,by omega,by omega,by omega,by omega,by omega,by omega,by omega⟩
theorem LK.begun (h:LK G S T M):LK {G with busy:=true} S ⟨[],0,false⟩ M.begun:=
   ⟨rfl,rfl,rfl,h.dd,fun b=>⟨(fun e=>by cases e),(fun e=>by cases e)⟩,List.nodup_nil,Nat.zero_le _,h.o0,h.o1,h.oo,h.mb,h.mn,h.orl,h.k0,h.k1,h.o0,h.o1,h.oo,h.orl,h.k0,h.k1⟩
theorem TX.abort (h:TX w F p s cR q l m t n S G T) (h0:T.over G S=0):Calls Tryz.prog 81 #[.pointer (some ⟨t,0,none⟩)] w fun e w'=>e= .returned (.int .i64 0)∧TX w' F p s cR q l m t n S {G with busy:=false} T.close∧Keeps (fun k=>k=t∨k=n∨k=q) w w':=by
 have ha:T.abort G S=(0,T.close,{G with busy:=false}):=by unfold TG.abort;rw [if_neg (fun e=>e h0)]
 have k:=abort_any h.st h.tx
 rw [ha] at k
 refine k.mono ?_
 rintro e w' ⟨rfl,h1,h2,h3,h4⟩
 have no:∀j,j≠t→j≠n→j≠q→¬(j=t∨j=n∨j=q):=fun j a b c e=>by
  rcases e with e|e|e
  ·exact a e
  ·exact b e
  ·exact c e
 exact⟨rfl,⟨⟨h.st.d.keep h4 (fun j hj=>no j (fun e=>h.tx.nt (e▸hj)) (fun e=>h.tx.nn (e▸hj)) (fun e=>h.st.nq (e▸hj))),h3,h.st.lp.keep h4 (no _ h.tx.tl.symm h.tx.nl.symm h.st.ql.symm),h.st.ch.keep h4 (no _ h.tx.tm.symm h.tx.nm.symm h.st.qm.symm),h.st.nq,h.st.nl,h.st.nm,h.st.ql,h.st.qm,h.st.lm,h.st.lk,h.st.bg,h.st.hs,h.st.kb⟩,⟨h1,h2,h.tx.nt,h.tx.nn,h.tx.tq,h.tx.tl,h.tx.tm,h.tx.tn,h.tx.nq,h.tx.nl,h.tx.nm,fun x hx=>by cases hx⟩,h.byt,h.pu,h.yk⟩,h4⟩
def Nope (w w':World) (F:Nat→Prop) (p s q l m t n:Nat) (S:DS) (G:SG) (T:TG) (v:Value) (e:Ending):Prop:=
 e= .returned v∧(∃c',TX w' F p s c' q l m t n S G T)∧Keeps (OwT F t n) w w'
section
variable (hx:TX w F p s cR q l m t n S G T) (hp:PoolAt w F a t n) (h4:T.state G S=4)
include hx h4
theorem no_state:Calls Tryz.prog 39 #[.pointer (some ⟨t,0,none⟩)] w fun e w'=>Nope w w' F p s q l m t n S G T (.int .i64 4) e:=by
 have k:=state_any hx.st hx.tx
 rw [h4] at k
 exact k.mono (fun e w' ⟨a,b⟩=>⟨a,⟨_,hx.later b⟩,Keeps.of_below _ b⟩)
include hp
theorem no_takeB:Calls Tryz.prog 69 #[.pointer (some ⟨a,0,none⟩)] w fun e w'=>Nope w w' F p s q l m t n S G T (.tuple #[.int .i64 0, .int .i64 4]) e:=by
 have k:=takeBlock_any hx hp
 rw [takes_st _ (by rw [h4];decide),h4] at k
 exact k.mono (fun e w' ⟨a,b,c⟩=>⟨a,⟨_,b⟩,c⟩)
theorem no_takeN:Calls Tryz.prog 73 #[.pointer (some ⟨a,0,none⟩)] w fun e w'=>Nope w w' F p s q l m t n S G T (.tuple #[.int .i64 0, .int .i64 4]) e:=by
 have k:=takeNode_any hx hp
 rw [takes_st _ (by rw [h4];decide),h4] at k
 exact k.mono (fun e w' ⟨a,b,c⟩=>⟨a,⟨_,b⟩,c⟩)
theorem no_dropB (x:Int):Calls Tryz.prog 71 #[.pointer (some ⟨a,0,none⟩), .int .i64 x] w fun e w'=>Nope w w' F p s q l m t n S G T (.int .i64 4) e:=by
 have h0:T.state G S≠0:=by rw [h4];decide
 have k:=dropBlock_any hx hp x
 rw [drop_st h0,h4] at k
 dsimp only at k
 rw [caught_st h0] at k
 exact k.mono (fun e w' ⟨a,b,c⟩=>⟨a,⟨_,b⟩,c⟩)
theorem no_dropN (x:Int):Calls Tryz.prog 75 #[.pointer (some ⟨a,0,none⟩), .int .i64 x] w fun e w'=>Nope w w' F p s q l m t n S G T (.int .i64 4) e:=by
 have h0:T.state G S≠0:=by rw [h4];decide
 have k:=dropNode_any hx hp x
 rw [drop_st h0,h4] at k
 dsimp only at k
 rw [caught_st h0] at k
 exact k.mono (fun e w' ⟨a,b,c⟩=>⟨a,⟨_,b⟩,c⟩)
theorem no_clear:Calls Tryz.prog 11 #[.pointer (some ⟨a,0,none⟩)] w fun e w'=>Nope w w' F p s q l m t n S G T (.int .i64 4) e:=by
 have k:=clear_any hx hp
 rw [clear_st (by rw [h4];decide),h4] at k
 exact k.mono (fun e w' ⟨a,b,c⟩=>⟨a,⟨_,b⟩,c⟩)
theorem no_left:Calls Tryz.prog 77 #[.pointer (some ⟨a,0,none⟩)] w fun e w'=>Nope w w' F p s q l m t n S G T (.tuple #[.int .i64 0, .int .i64 0, .int .i64 4]) e:=by
 have h0:T.state G S≠0:=by rw [h4];decide
 have k:=left_no hx hp h0
 rw [spoil_no h0,h4] at k
 exact k.mono (fun e w' ⟨a,b,c⟩=>⟨a,⟨_,b⟩,c⟩)
end
def EndO (w w':World) (F F0 X:Nat→Prop) (kr p s q l m t n k:Nat) (S:DS) (G:SG) (M:MP) (e:Ending):Prop:=
 e= .returned (.bool true)∧∃c' t' n' a1' a2' X',RgW w' F X' kr p s c' q l m t' n' a1' a2' k S {G with busy:=true} ⟨[],0,false⟩ M.begun∧(∀j,X' j→X j∨w.heap.size≤j)∧Keeps (fun j=>OwT F0 t n j∨j=q∨j=l∨j=m∨j=kr∨X j) w w'∧w.heap.size≤t'∧w.heap.size≤n'∧w.heap.size≤a1'∧w.heap.size≤a2'
set_option maxRecDepth 20000 in
set_option maxHeartbeats 16000000 in
theorem endsA_any (h:RgW w F X kr p s cR q l m t n a1 a2 k S G T M) (hc:LK G S T M) (hdd:M.dead=false) (hpa:PoolAt w F pa t n) (hpq:pa=a1∨pa=a2):
  Calls Tryz.prog 37 #[.pointer (some ⟨kr,0,none⟩), .pointer (some ⟨pa,0,none⟩), .int .i64 9] w fun e w'=>EndO w w' F F X kr p s q l m t n k S G M e:=by
 have hov:T.over G S=0:=by unfold TG.over;rw [hc.dd,hdd,hc.en];rfl
 have hab:M.abort=(0,{M with opn:=false}):=by unfold MP.abort;rw [hdd,hc.op];rfl
 have h4:T.close.state {G with busy:=false} S=4:=by
  have hl:G.L.dead S=false:=hc.dd.trans hdd
  unfold TG.state TG.over
  show (if (if G.L.dead S=true then (3:Int) else if true=true then 4 else 0)≠0 then (if G.L.dead S=true then (3:Int) else if true=true then 4 else 0) else _)=4
  rw [hl]
  rfl
 have nq:∀a,PoolAt w F a t n→a≠q:=fun a ha e=>type_ne (e▸ha.b) h.x.st.st (by decide)
 have c0:=hpa.c0
 have k1:=h.x.abort hov
 have H:=Hid.mk h
 have HC:=Hid.mk (And.intro hc hdd)
 have HP:=Hid.mk hpa
 have HNQ:=Hid.mk nq
 have HAb:=Hid.mk hab
 have H4:=Hid.mk h4
 clear h hc hdd hpa hov hab h4 nq
 go_enter Tryz.func37,Tryz.ntmps37
 go_wp2_with fail
 refine k1.mono ?_
 rintro e w1 ⟨rfl,hx1,hk1⟩
 have zr:¬(kr=t∨kr=n∨kr=q):=fun e=>by
  have h9:=H.out.nk
  rcases e with e|e|e
  ·exact h9.2.2.2.2.1 e
  ·exact h9.2.2.2.2.2 e
  ·exact h9.2.1 e
 have za:∀a,PoolAt w F a t n→¬(a=t∨a=n∨a=q):=fun a ha e=>by
  rcases e with e|e|e
  ·exact ha.nf (.inr (.inl e))
  ·exact ha.nf (.inr (.inr e))
  ·exact HNQ.out a ha e
 have hr1:RgW w1 F X kr p s cR q l m t n a1 a2 k S {G with busy:=false} T.close M:=H.out.turnG hx1 (H.out.mm.apart hk1 (fun j e hx=>by
  have h9:=H.out.xa j hx
  rcases e with e|e|e
  ·exact h9.2.2.2.2.1 e
  ·exact h9.2.2.2.2.2.1 e
  ·exact h9.2.1 e)) hk1 zr (za a1 H.out.p1) (za a2 H.out.p2) (fun j hj=> .inl hj) (fun j hj=> .inl hj) (fun j hj=>(H.out.xa j hj).1)
 have ce:w1.cell? ⟨kr,4,none⟩=some (.pointer (some ⟨k,0,none⟩)):=cell_of_block hr1.b (j:=4) rfl
 have km:=mabort_any hr1.mm
 rw [HAb.out] at km
 have HK1:Hid (Keeps (fun j=>OwT F t n j∨j=q∨j=l∨j=m∨j=kr∨X j) w w1):=hk1.mono (fun j e=>by
  rcases e with e|e|e
  ·exact .inl (.inr (.inl e))
  ·exact .inl (.inr (.inr e))
  ·exact .inr (.inl e))
 have H1:=Hid.mk hr1
 clear k1 hx1 hk1 hr1 zr za c0
 go_wp2_with fail
 refine km.mono ?_
 rintro e w2 ⟨rfl,hm2,hk2⟩
 have hr2:RgW w2 F X kr p s cR q l m t n a1 a2 k S {G with busy:=false} T.close {M with opn:=false}:=H1.out.after (H1.out.x.apart hk2 (fun j hj=>by
  have h9:=H1.out.xa j hj
  exact⟨h9.1,h9.2.1,h9.2.2.1,h9.2.2.2.1,h9.2.2.2.2.1,h9.2.2.2.2.2.1⟩)) hm2 (hk2.mono (fun _ h=> .inr h)) (fun _ h=> .inl h)
 have hpa2:PoolAt w2 F pa t n:=by
  rcases hpq with rfl|rfl
  ·exact hr2.p1
  ·exact hr2.p2
 have HK2:Hid (Keeps (fun j=>OwT F t n j∨j=q∨j=l∨j=m∨j=kr∨X j) w w2):=HK1.out.trans hk2 (fun _ h=> .inl (.inr (.inr (.inr (.inr (.inr h))))))
 have kn:=num6_any 0 w2
 have H2:=Hid.mk hr2
 have HP2:=Hid.mk hpa2
 clear km hm2 hk2 hr2 hpa2 ce HK1 H1
 go_wp2_with fail
 refine kn.mono ?_
 rintro e wx ⟨rfl,hwx⟩
 have hwx':=hwx.symm
 subst hwx'
 clear hwx kn
 have c0:=HP2.out.c0
 have ks:=no_state H2.out.x H4.out
 go_wp2_with fail
 refine ks.mono ?_
 rintro e w3 ⟨rfl,⟨d3,hx3⟩,hk3⟩
 have kt:=no_takeB hx3 (HP2.out.keep hk3) H4.out
 have H3:=Hid.mk hk3
 clear ks hx3 hk3 c0
 go_wp2_with fail
 refine kt.mono ?_
 rintro e w4 ⟨rfl,⟨d4,hx4⟩,hk4⟩
 have hk4':=H3.out.trans hk4 (fun _ h=> .inl h)
 have kt2:=no_dropB hx4 (HP2.out.keep hk4') H4.out (-1)
 have H3:=Hid.mk hk4'
 clear kt hx4 hk4 hk4'
 go_wp2_with fail
 refine kt2.mono ?_
 rintro e w5 ⟨rfl,⟨d5,hx5⟩,hk5⟩
 have hk5':=H3.out.trans hk5 (fun _ h=> .inl h)
 have kt:=no_dropN hx5 (HP2.out.keep hk5') H4.out 0
 have H3:=Hid.mk hk5'
 clear kt2 hx5 hk5 hk5'
 go_wp2_with fail
 refine kt.mono ?_
 rintro e w6 ⟨rfl,⟨d6,hx6⟩,hk6⟩
 have hk6':=H3.out.trans hk6 (fun _ h=> .inl h)
 have kt2:=no_takeN hx6 (HP2.out.keep hk6') H4.out
 have H3:=Hid.mk hk6'
 clear kt hx6 hk6 hk6'
 go_wp2_with fail
 refine kt2.mono ?_
 rintro e w7 ⟨rfl,⟨d7,hx7⟩,hk7⟩
 have hk7':=H3.out.trans hk7 (fun _ h=> .inl h)
 have kt:=no_clear hx7 (HP2.out.keep hk7') H4.out
 have H3:=Hid.mk hk7'
 clear kt2 hx7 hk7 hk7'
 go_wp2_with fail
 refine kt.mono ?_
 rintro e w8 ⟨rfl,⟨d8,hx8⟩,hk8⟩
 have hk8':=H3.out.trans hk8 (fun _ h=> .inl h)
 have kt2:=no_left hx8 (HP2.out.keep hk8') H4.out
 have H3:=Hid.mk hk8'
 clear kt hx8 hk8 hk8'
 go_wp2_with fail
 refine kt2.mono ?_
 rintro e w9 ⟨rfl,⟨d9,hx9⟩,hk9⟩
 have hk9':=H3.out.trans hk9 (fun _ h=> .inl h)
 have h9:=H2.out.after (Y:=X) hx9 (H2.out.mm.apart hk9' (fun j ej hx=>H2.out.offX j hx ej)) (hk9'.mono (fun _ h=> .inl h)) (fun _ h=> .inl h)
 have kb:=rbegin_any h9.b h9.x.st rfl (show G.L.dead S=false from HC.out.1.dd.trans HC.out.2) h9.x.byt h9.x.pu h9.x.yk h9.mm h9.xl (by have e1:=HC.out.1.orl;have e2:=h9.x.yk.bl;show M.oraw.length≤2048;rw [e1];exact e2) ⟨h9.nk.1,h9.nk.2.1,h9.nk.2.2.1,h9.nk.2.2.2.1⟩ (fun j hj=>⟨(h9.xa j hj).1,(h9.xa j hj).2.1,(h9.xa j hj).2.2.1,(h9.xa j hj).2.2.2.1,(h9.xa j hj).2.2.2.2.2.2.1⟩)
 have HK9:Hid (Keeps (fun j=>OwT F t n j∨j=q∨j=l∨j=m∨j=kr∨X j) w w9):=HK2.out.trans hk9' (fun _ h=> .inl (.inl h))
 have HX9:Hid (X k):=by obtain⟨_,_,_,_,_,_,_,_,_,_,_,hma⟩:=h9.mm;exact hma.xk
 have kn:=num6_any 4 w9
 clear kt2 hx9 hk9 hk9' h9 H3 HK2 H2
 go_wp2_with fail
 refine kn.mono ?_
 rintro e wx ⟨rfl,hwx⟩
 have hwx':=hwx.symm
 subst hwx'
 clear hwx
 go_wp2_with fail
 refine kn.mono ?_
 rintro e wx ⟨rfl,hwx⟩
 have hwx':=hwx.symm
 subst hwx'
 clear hwx
 go_wp2_with fail
 refine kn.mono ?_
 rintro e wx ⟨rfl,hwx⟩
 have hwx':=hwx.symm
 subst hwx'
 clear hwx
 go_wp2_with fail
 refine kn.mono ?_
 rintro e wx ⟨rfl,hwx⟩
 have hwx':=hwx.symm
 subst hwx'
 clear hwx
 go_wp2_with fail
 refine kn.mono ?_
 rintro e wx ⟨rfl,hwx⟩
 have hwx':=hwx.symm
 subst hwx'
 clear hwx
 go_wp2_with fail
 refine kn.mono ?_
 rintro e wx ⟨rfl,hwx⟩
 have hwx':=hwx.symm
 subst hwx'
 clear hwx
 go_wp2_with fail
 refine kn.mono ?_
 rintro e wx ⟨rfl,hwx⟩
 have hwx':=hwx.symm
 subst hwx'
 clear hwx kn
 go_wp2_with fail
 refine kb.mono ?_
 rintro e w10 ⟨rfl,t',n',b1,b2,X',hr,hX',hk10,z1,z2,z3,z4⟩
 have c5:w10.cell? ⟨kr,5,none⟩=some (.bool true):=cell_of_block hr.b (j:=5) rfl
 have zz:=HK9.out.size
 have HE:Hid (EndO w w10 F F X kr p s q l m t n k S G M (.returned (.bool true))):=⟨rfl,_,t',n',b1,b2,X',hr,fun j hj=>(hX' j hj).imp (fun e=>e) (fun e=>by omega),HK9.out.trans hk10 (fun j e=> .inl (by
  rcases e with e|e|e
  ·exact .inr (.inr (.inr (.inr (.inl e))))
  ·exact .inr (.inl e)
  ·exact .inr (.inr (.inr (.inr (.inr (e▸HX9.out))))))),by omega,by omega,by omega,by omega⟩
 clear kb hr hX' hk10
 go_wp2
 go_ret
 exact HE.out
end
end Go.Proofs.YtkiehemoiapkkaaGreat
end
