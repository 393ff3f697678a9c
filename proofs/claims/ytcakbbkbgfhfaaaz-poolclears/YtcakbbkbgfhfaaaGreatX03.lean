import Derived.Test.YtcakbbkbgfhfaaaGreatW27
import Derived.Test.YtcakbbkbgfhfaaaGreatX02
import Derived.ProofKit
import Derived.OpenShut
import Derived.ShutString
import Derived.ChangeOld
import Derived.SizedLaws
import Derived.Deep.Slices
section
namespace Go.Proofs.YtcakbbkbgfhfaaaGreat
open Go.RowKit Go.Maps
abbrev stpV (kd N:Int) (who two:Bool) (da:Option Addr) (dn dc:Nat):Value:= .agg #[.int .i64 kd, .int .i64 N, .bool who, .bool two, .slice da dn dc]
abbrev stpC (kd N:Int) (who two:Bool) (da:Option Addr) (dn dc:Nat):Obj:= .cells #[.int .i64 kd, .int .i64 N, .bool who, .bool two, .slice da dn dc] 88
def StpO (w w':World) (F X:Nat→Prop) (kr p s q l m t n a1 a2 k:Nat) (S:DS) (G:SG) (e:Ending):Prop:=
 e= .returned (.bool true)∧∃X' T' M' c',RgW w' F X' kr p s c' q l m t n a1 a2 k S G T' M'∧CL G S T' M'∧Keeps (fun j=>OwT F t n j∨X j) w w'∧(∀j,X' j→X j∨(w.heap.size≤j∧j<w'.heap.size))
section
variable {w w' w1:World} {F X Y Z:Nat→Prop} {kr p s cR q l m t n a1 a2 k pa:Nat} {S:DS} {G:SG} {T T':TG} {M M':MP} {N:Int} {who two:Bool} {da:Option Addr} {dn dc:Nat}
theorem RgW.offX (h:RgW w F X kr p s cR q l m t n a1 a2 k S G T M):∀j,X j→¬OwT F t n j:=fun j hj e=>by
 have h9:=h.xa j hj
 rcases e with e|e|e
 ·exact h9.1 e
 ·exact h9.2.2.2.2.1 e
 ·exact h9.2.2.2.2.2.1 e
theorem RgW.later (h:RgW w F X kr p s cR q l m t n a1 a2 k S G T M) (hb:Below w.heap.size w w'):RgW w' F X kr p s cR q l m t n a1 a2 k S G T M:=
 h.after (h.x.later hb) (h.mm.later hb) (Keeps.of_below _ hb) (fun _ h=> .inl h)
theorem RgW.offR (h:RgW w F X kr p s cR q l m t n a1 a2 k S G T M):¬OwT F t n kr:=fun e=>by
 rcases e with e|e|e
 ·exact h.nk.1 e
 ·exact h.nk.2.2.2.2.1 e
 ·exact h.nk.2.2.2.2.2 e
set_option maxRecDepth 20000 in
set_option maxHeartbeats 4000000 in
theorem calls1_any (h:RgW w F X kr p s cR q l m t n a1 a2 k S G T M) (hc:CL G S T M) (hd:G.L.dead S=false) (hdt:G.y.data=2+G.y.nodes / 4) (hpa:PoolAt w F pa t n):
  Calls Tryz.prog 68 #[.pointer (some ⟨kr,0,none⟩), .pointer (some ⟨pa,0,none⟩),stpV 1 N who two da dn dc] w fun e w'=>StpO w w' F X kr p s q l m t n a1 a2 k S G e:=by
 obtain⟨T1,M1,q1,q2,hc1⟩:=hc.clear hd h.x.yk hdt h.x.tx.ch.ok
 have hB0:=below_box w (stpC 1 N who two da dn dc)
 have hbx:=heap_alloc_new w (stpC 1 N who two da dn dc)
 have g0:(w.alloc (stpC 1 N who two da dn dc)).cell? ⟨w.heap.size,0,none⟩=some (.int .i64 1):=cell_of_block hbx (j:=0) rfl
 have h0:=h.later hB0
 have kc:=clear_any h0.x (hpa.later hB0)
 rw [q1] at kc
 have H0:=Hid.mk (And.intro h0 (And.intro h hB0))
 have HC:=Hid.mk (And.intro hc hc1)
 have HQ:=Hid.mk q2
 clear h hc hd hdt hpa q1 q2 hc1 hB0 hbx h0
 go_enter Tryz.func68,Tryz.ntmps68
 go_wp2_with fail
 refine kc.mono ?_
 rintro e w1 ⟨rfl,hx1,hk1⟩
 have hk1':Keeps (fun j=>OwT F t n j∨X j) (w.alloc (stpC 1 N who two da dn dc)) w1:=hk1.mono (fun _ h=> .inl h)
 have h1:=H0.out.1.after (Y:=X) hx1 (H0.out.1.mm.apart hk1 (fun j e hx=>H0.out.1.offX j hx e)) hk1' (fun _ h=> .inl h)
 have ce:w1.cell? ⟨kr,4,none⟩=some (.pointer (some ⟨k,0,none⟩)):=cell_of_block h1.b (j:=4) rfl
 have km:=mclear_any h1.mm h1.xl (by have:=HC.out.1.plen;omega) (by have:=h1.x.yk.nd;have:=HC.out.1.mn;omega)
 unfold MO at km
 rw [HQ.out] at km
 have H1:=Hid.mk (And.intro h1 hk1')
 clear kc hx1 hk1 hk1' h1 g0
 go_wp2_with fail
 refine km.mono ?_
 rintro e w2 ⟨rfl,hm2,hk2⟩
 have HE:Hid (∃X' T' M' c',RgW w2 F X' kr p s c' q l m t n a1 a2 k S G T' M'∧CL G S T' M'∧Keeps (fun j=>OwT F t n j∨X j) w w2∧(∀j,X' j→X j∨(w.heap.size≤j∧j<w2.heap.size))):=by
  have z0:=H0.out.2.2.size
  have z1:=H1.out.2.size
  refine⟨_,T1,M1,_,H1.out.1.after (H1.out.1.x.apart hk2 (fun j hj=>?_)) hm2 (hk2.mono (fun _ h=> .inr h)) (fun _ h=>h),HC.out.2,((Keeps.of_below _ H0.out.2.2).trans H1.out.2 (fun _ h=> .inl h)).trans (hk2.mono (fun _ h=> .inr h)) (fun _ h=> .inl h),fun j hj=>hj.imp (fun e=>e) (fun e=>⟨by have:=e.1;omega,e.2⟩)⟩
  have h9:=H1.out.1.xa j hj
  exact⟨h9.1,h9.2.1,h9.2.2.1,h9.2.2.2.1,h9.2.2.2.2.1,h9.2.2.2.2.2.1⟩
 have kn:=num6_any 0 w2
 clear km hm2 hk2 H1 ce
 go_wp2_with fail
 refine kn.mono ?_
 rintro e wx ⟨rfl,hwx⟩
 have hwx':=hwx.symm
 subst hwx'
 clear hwx kn
 go_wp2
 go_ret
 exact⟨rfl,HE.out⟩
end
end Go.Proofs.YtcakbbkbgfhfaaaGreat
end

section
namespace Go.Proofs.YtcakbbkbgfhfaaaGreat
open Go.RowKit Go.Maps
section
variable {w:World} {F X:Nat→Prop} {kr p s cR q l m t n a1 a2 k pa:Nat} {S:DS} {G:SG} {T:TG} {M:MP} {N:Int} {who two:Bool} {da:Option Addr} {dn dc:Nat} {dl:List Int}
set_option maxRecDepth 20000 in
set_option maxHeartbeats 8000000 in
theorem raw11_any (h:RgW w F X kr p s cR q l m t n a1 a2 k S G T M) (hc:CL G S T M) (hd:G.L.dead S=false) (hpa:PoolAt w F pa t n) (hN:I64 N) (hs:∀w',Keeps (fun j=>OwT F t n j∨X j) w w'→Src w' da dn dl) (hby:Bytes dl) (hdn:dn≤140737488355328):
  Calls Tryz.prog 70 #[.pointer (some ⟨kr,0,none⟩), .pointer (some ⟨pa,0,none⟩),stpV 11 N who two da dn dc] w fun e w'=>StpO w w' F X kr p s q l m t n a1 a2 k S G e:=by
 obtain⟨b,hb⟩:∃b,b=wthn N 0 1:=⟨_,rfl⟩
 have hb2:b<2:=by have:=(wthn_in N (lo:=0) (hi:=1) (by omega)).2;omega
 obtain⟨T1,M1,q1,q2,hc1⟩:=hc.wmap hd h.x.yk h.x.tx.ch.ok hb2 (pad5_bytes hby) (pad5_len dl)
 have hB0:=below_box w (stpC 11 N who two da dn dc)
 have hbx:=heap_alloc_new w (stpC 11 N who two da dn dc)
 have g0:(w.alloc (stpC 11 N who two da dn dc)).cell? ⟨w.heap.size,0,none⟩=some (.int .i64 11):=cell_of_block hbx (j:=0) rfl
 have g1:(w.alloc (stpC 11 N who two da dn dc)).cell? ⟨w.heap.size,1,none⟩=some (.int .i64 N):=cell_of_block hbx (j:=1) rfl
 have g4:(w.alloc (stpC 11 N who two da dn dc)).cell? ⟨w.heap.size,4,none⟩=some (.slice da dn dc):=cell_of_block hbx (j:=4) rfl
 have h0:=h.later hB0
 have ce:(w.alloc (stpC 11 N who two da dn dc)).cell? ⟨kr,4,none⟩=some (.pointer (some ⟨k,0,none⟩)):=cell_of_block h0.b (j:=4) rfl
 have cb:(w.alloc (stpC 11 N who two da dn dc)).cell? ⟨k,0,none⟩=some (.int .i64 (M.blocks:Int)):=by
  obtain⟨gq1,cq1,gq2,cq2,gq3,cq3,gq4,cq4,v5,v6,v7,hma⟩:=h0.mm
  exact cell_of_block hma.b (j:=0) rfl
 have hmb:2≤M.blocks:=by have:=h.x.yk.b2;have:=hc.mb;omega
 have hmb2:¬(M.blocks:Int)≤(b:Int):=by omega
 have kw1:=within6_any N 0 29 (by omega) (by omega) ⟨hN.1,hN.2⟩ (w.alloc (stpC 11 N who two da dn dc))
 have kw2:=within6_any N 0 1 (by omega) (by omega) ⟨hN.1,hN.2⟩ (w.alloc (stpC 11 N who two da dn dc))
 rw [←hb] at kw2
 have hwl:=(wthn_in N (lo:=0) (hi:=29) (by omega)).2
 generalize wthn N 0 29=y at*
 have HPa:=Hid.mk (hpa.later hB0)
 have c0:=HPa.out.c0
 have H6:Hid (∀w',Below (w.alloc (stpC 11 N who two da dn dc)).heap.size (w.alloc (stpC 11 N who two da dn dc)) w'→w'.cell? ⟨pa,0,none⟩=some (.pointer (some ⟨t,0,none⟩))∧w'.cell? ⟨w.heap.size,4,none⟩=some (.slice da dn dc)):=fun w' hw=>⟨cell_later hw c0,cell_later hw g4⟩
 have HD0:Hid (Below (w.alloc (stpC 11 N who two da dn dc)).heap.size (w.alloc (stpC 11 N who two da dn dc)) (w.alloc (stpC 11 N who two da dn dc)).drew):=(Keeps.drew (fun _=>False) _).below (fun _ h=>h.elim) (Nat.le_refl _)
 have HNo:Hid (¬OwT F t n w.heap.size):=fun e=>by have:=h.x.lt _ e;omega
 have HR:=Hid.mk h
 have HR0:=Hid.mk h0
 have HB0:=Hid.mk hB0
 have HBx:=Hid.mk hbx
 have HC:=Hid.mk (And.intro hc hc1)
 have HQ1:=Hid.mk q1
 have HQ2:=Hid.mk q2
 have HSr:=Hid.mk hs
 clear h hc hd hpa hs q1 q2 hc1 hB0 hbx h0 c0 hb g4
 go_enter Tryz.func70,Tryz.ntmps70
 go_wp2_with fail
 refine kw1.mono ?_
 rintro e wx ⟨rfl,hwx⟩
 subst hwx
 clear kw1
 go_wp2_with fail
 refine kw2.mono ?_
 rintro e wx ⟨rfl,hwx⟩
 subst hwx
 clear kw2
 go_wp2_with fail
 refine wp_region_held_drew (S:=(fun w'=>w'.cell? ⟨pa,0,none⟩=some (.pointer (some ⟨t,0,none⟩))∧w'.cell? ⟨w.heap.size,4,none⟩=some (.slice da dn dc))) (by kernel_rfl) (H6.out _ HD0.out) (fun hHeld=>?_)
 refine wpAnyH_take (i:=0) (oi:={dst:=some 29,op:=Op.move (Operand.tmp 1),type:=25,pos:= "exact.go:156",after:= #[],guard:=none}) (v:= .pointer (some ⟨pa,0,none⟩)) rfl (by kernel_rfl) (by kernel_rfl) (by kernel_rfl) (fun _ _ _ h=>h) (Or.inl ⟨by rfl,?_⟩) (by assumption) ?_
 ·intro w hSw
  (try dsimp only at hSw)
  go_simp
 try simp only [Act.put,List.setIfInBounds_toArray,List.set_cons_zero,List.set_cons_succ]
 refine wpAnyH_take (i:=1) (oi:={dst:=some 30,op:=Op.nilCheck (Operand.tmp 29),type:=0,pos:= "exact.go:156",after:= #[{on:=0,ground:=Ground.data}],guard:=none}) (v:= .pointer (some ⟨pa,0,none⟩)) rfl (by kernel_rfl) (by kernel_rfl) (by kernel_rfl) (fun _ _ _ h=>h) (Or.inl ⟨by rfl,?_⟩) (by assumption) ?_
 ·intro w hSw
  (try dsimp only at hSw)
  go_simp
 try simp only [Act.put,List.setIfInBounds_toArray,List.set_cons_zero,List.set_cons_succ]
 refine wpAnyH_take (i:=2) (oi:={dst:=some 31,op:=Op.fieldAddr 43 (Operand.tmp 30) 0,type:=0,pos:= "exact.go:156",after:= #[{on:=1,ground:=Ground.data}],guard:=none}) (v:= .pointer (some ⟨pa,0,none⟩)) rfl (by kernel_rfl) (by kernel_rfl) (by kernel_rfl) (fun _ _ _ h=>h) (Or.inl ⟨by rfl,?_⟩) (by assumption) ?_
 ·intro w hSw
  (try dsimp only at hSw)
  go_simp
 try simp only [Act.put,List.setIfInBounds_toArray,List.set_cons_zero,List.set_cons_succ]
 refine wpAnyH_take (i:=3) (oi:={dst:=some 32,op:=Op.load 41 (Operand.tmp 31),type:=41,pos:= "exact.go:156",after:= #[{on:=2,ground:=Ground.data}],guard:=none}) (v:= .pointer (some ⟨t,0,none⟩)) rfl (by kernel_rfl) (by kernel_rfl) (by kernel_rfl) (fun _ _ _ h=>h) (Or.inl ⟨by rfl,?_⟩) (by assumption) ?_
 ·intro w hSw
  (try dsimp only at hSw)
  go_simp
 try simp only [Act.put,List.setIfInBounds_toArray,List.set_cons_zero,List.set_cons_succ]
 refine wpAnyH_take (i:=4) (oi:={dst:=some 33,op:=Op.move (Operand.tmp 7),type:=3,pos:= "exact.go:156",after:= #[],guard:=none}) (v:= .int .i64 (b:Int)) rfl (by kernel_rfl) (by kernel_rfl) (by kernel_rfl) (fun _ _ _ h=>h) (Or.inl ⟨by rfl,?_⟩) (by assumption) ?_
 ·intro w hSw
  (try dsimp only at hSw)
  go_simp
 try simp only [Act.put,List.setIfInBounds_toArray,List.set_cons_zero,List.set_cons_succ]
 refine wpAnyH_take (i:=5) (oi:={dst:=some 34,op:=Op.fieldAddr 88 (Operand.tmp 5) 4,type:=0,pos:= "exact.go:156",after:= #[],guard:=none}) (v:= .pointer (some ⟨w.heap.size,4,none⟩)) rfl (by kernel_rfl) (by kernel_rfl) (by kernel_rfl) (fun _ _ _ h=>h) (Or.inl ⟨by rfl,?_⟩) (by assumption) ?_
 ·intro w hSw
  (try dsimp only at hSw)
  go_simp
 try simp only [Act.put,List.setIfInBounds_toArray,List.set_cons_zero,List.set_cons_succ]
 refine wpAnyH_take (i:=6) (oi:={dst:=some 35,op:=Op.load 57 (Operand.tmp 34),type:=57,pos:= "exact.go:156",after:= #[{on:=5,ground:=Ground.data}],guard:=none}) (v:= .slice da dn dc) rfl (by kernel_rfl) (by kernel_rfl) (by kernel_rfl) (fun _ _ _ h=>h) (Or.inl ⟨by rfl,?_⟩) (by assumption) ?_
 ·intro w hSw
  (try dsimp only at hSw)
  go_simp
 try simp only [Act.put,List.setIfInBounds_toArray,List.set_cons_zero,List.set_cons_succ]
 refine wpAnyH_ready (rs:= [7]) (by kernel_rfl) (by simp) ?_
 refine AllReadyH.cons (o:={dst:=some 36,op:=Op.call {callee:=Callee.value (Operand.func 109),args:= #[Operand.tmp 35],argTypes:= #[57]},type:=57,pos:= "exact.go:156",after:= #[{on:=6,ground:=Ground.data}],guard:=none}) rfl (fun K hK=>?_) AllReadyH.nil
 go_simp
 refine(padded_any (c:=dc) (HSr.out _ (Keeps.of_below _ (HB0.out.trans (HD0.out.mono HB0.out.size)))) hdn).mono ?_
 rintro e w1 ⟨gp,cp,rfl,hgp,hrp,hb1⟩
 have hB1:Below (w.alloc (stpC 11 N who two da dn dc)).heap.size (w.alloc (stpC 11 N who two da dn dc)) w1:=HD0.out.trans (hb1.mono HD0.out.size)
 refine hK.out _ _ ?_ (fun hHeld=>?_)
 ·exact H6.out _ hB1
 clear hK K
 try simp only [Act.put,List.setIfInBounds_toArray,List.set_cons_zero,List.set_cons_succ]
 refine wpAnyH_ready (rs:= [8]) (by kernel_rfl) (by simp) ?_
 refine AllReadyH.cons (o:={dst:=some 37,op:=Op.call {callee:=Callee.value (Operand.func 92),args:= #[Operand.tmp 32,Operand.tmp 33,Operand.tmp 36],argTypes:= #[41,3,57]},type:=34,pos:= "exact.go:156",after:= #[{on:=3,ground:=Ground.data},{on:=4,ground:=Ground.data},{on:=7,ground:=Ground.data},{on:=7,ground:=Ground.chain}],guard:=none}) rfl (fun K hK=>?_) AllReadyH.nil
 go_simp
 have hr1:=HR0.out.later hB1
 have hsp:Src w1 (some ⟨gp,0,none⟩) 512 (pad5 dl):=by have h9:=hrp.src;rw [pad5_len] at h9;exact h9
 have kp:=Put_any hr1.x.st hr1.x.tx (b:Int) (some ⟨gp,0,none⟩) 512 cp (pad5 dl) hsp (by omega) (pad5_bytes hby) hr1.x.big
 rw [HQ1.out] at kp
 refine kp.mono ?_
 intro e w2 hP
 have he2:=hP.1
 subst he2
 have hx2:TX w2 F p s (cR+1) q l m t n S G T1∧Keeps (OwT F t n) w1 w2:=by
  have h9:=hr1.x.put (b:=(b:Int)) (d:=pad5 dl) (by rw [HQ1.out];exact hP)
  rw [HQ1.out] at h9
  exact h9
 have hk2:Keeps (fun j=>OwT F t n j∨X j) w w2:=((Keeps.of_below _ HB0.out).trans (Keeps.of_below (fun _=>False) hB1) (fun _ h=>h.elim)).trans (hx2.2.mono (fun _ h=> .inl h)) (fun _ h=> .inl h)
 have hr2:=HR.out.after (Y:=X) hx2.1 (HR.out.mm.apart (((Keeps.of_below (OwT F t n) HB0.out).trans (Keeps.of_below (fun _=>False) hB1) (fun _ h=>h.elim)).trans hx2.2 (fun _ h=> .inl h)) (fun j e hx=>HR.out.offX j hx e)) hk2 (fun _ h=> .inl h)
 have hcs2:w2.cell? ⟨pa,0,none⟩=some (.pointer (some ⟨t,0,none⟩))∧w2.cell? ⟨w.heap.size,4,none⟩=some (.slice da dn dc):=by
  refine⟨((HPa.out.later hB1).keep hx2.2).c0,?_⟩
  have z1:w.heap.size<w1.heap.size:=Nat.lt_of_lt_of_le (lt_there HBx.out) hB1.size
  exact cell_of_block ((hx2.2.block _ z1 (fun e=>by have:=hr1.x.low;have:=HNo.out;exact this e)).trans ((hB1.block _ (lt_there HBx.out)).trans HBx.out)) (j:=4) rfl
 have H2:=Hid.mk (And.intro hr2 (And.intro hk2 hcs2.2))
 clear kp hP hx2 hk2 hr2 hr1 hsp hrp hb1
 refine hK.out _ _ ?_ (fun hHeld=>?_)
 ·exact hcs2
 clear hK K
 try simp only
 refine wpAnyH_ready (rs:= [9]) (by kernel_rfl) (by simp) ?_
 refine AllReadyH.cons (o:={dst:=some 8,op:=Op.assign (Operand.tmp 37),type:=34,pos:= "exact.go:156",after:= #[{on:=8,ground:=Ground.data},{on:=8,ground:=Ground.chain},{on:=0,ground:=Ground.phase},{on:=1,ground:=Ground.phase},{on:=2,ground:=Ground.phase},{on:=3,ground:=Ground.phase},{on:=4,ground:=Ground.phase},{on:=5,ground:=Ground.phase},{on:=6,ground:=Ground.phase},{on:=7,ground:=Ground.phase},{on:=8,ground:=Ground.phase}],guard:=none}) rfl (fun K hK=>?_) AllReadyH.nil
 go_simp
 refine hK.out _ _ ?_ (fun hHeld=>?_)
 ·exact hcs2
 clear hK K
 try simp only [Act.put,List.setIfInBounds_toArray,List.set_cons_zero,List.set_cons_succ]
 refine wpAnyH_done (by kernel_rfl) ?_ _
 clear hHeld g0 g1 ce cb
 have HD2:Hid (Below w2.heap.size w2 w2.drew):=(Keeps.drew (fun _=>False) w2).below (fun _ h=>h.elim) (Nat.le_refl _)
 have H7:Hid (∀w',Below w2.heap.size w2 w'→w'.cell? ⟨kr,4,none⟩=some (.pointer (some ⟨k,0,none⟩))∧w'.cell? ⟨w.heap.size,4,none⟩=some (.slice da dn dc)):=fun w' hw=>⟨cell_later hw (cell_of_block H2.out.1.b (j:=4) rfl),cell_later hw H2.out.2.2⟩
 clear hcs2
 go_wp2_with fail
 refine wp_region_held_drew (S:=(fun w'=>w'.cell? ⟨kr,4,none⟩=some (.pointer (some ⟨k,0,none⟩))∧w'.cell? ⟨w.heap.size,4,none⟩=some (.slice da dn dc))) (by kernel_rfl) (H7.out _ HD2.out) (fun hHeld=>?_)
 refine wpAnyH_take (i:=0) (oi:={dst:=some 38,op:=Op.move (Operand.tmp 0),type:=24,pos:= "exact.go:157",after:= #[],guard:=none}) (v:= .pointer (some ⟨kr,0,none⟩)) rfl (by kernel_rfl) (by kernel_rfl) (by kernel_rfl) (fun _ _ _ h=>h) (Or.inl ⟨by rfl,?_⟩) (by assumption) ?_
 ·intro w hSw
  (try dsimp only at hSw)
  go_simp
 try simp only [Act.put,List.setIfInBounds_toArray,List.set_cons_zero,List.set_cons_succ]
 refine wpAnyH_take (i:=1) (oi:={dst:=some 39,op:=Op.nilCheck (Operand.tmp 38),type:=0,pos:= "exact.go:157",after:= #[{on:=0,ground:=Ground.data}],guard:=none}) (v:= .pointer (some ⟨kr,0,none⟩)) rfl (by kernel_rfl) (by kernel_rfl) (by kernel_rfl) (fun _ _ _ h=>h) (Or.inl ⟨by rfl,?_⟩) (by assumption) ?_
 ·intro w hSw
  (try dsimp only at hSw)
  go_simp
 try simp only [Act.put,List.setIfInBounds_toArray,List.set_cons_zero,List.set_cons_succ]
 refine wpAnyH_take (i:=2) (oi:={dst:=some 40,op:=Op.fieldAddr 39 (Operand.tmp 39) 4,type:=0,pos:= "exact.go:157",after:= #[{on:=1,ground:=Ground.data}],guard:=none}) (v:= .pointer (some ⟨kr,4,none⟩)) rfl (by kernel_rfl) (by kernel_rfl) (by kernel_rfl) (fun _ _ _ h=>h) (Or.inl ⟨by rfl,?_⟩) (by assumption) ?_
 ·intro w hSw
  (try dsimp only at hSw)
  go_simp
 try simp only [Act.put,List.setIfInBounds_toArray,List.set_cons_zero,List.set_cons_succ]
 refine wpAnyH_take (i:=3) (oi:={dst:=some 41,op:=Op.load 37 (Operand.tmp 40),type:=37,pos:= "exact.go:157",after:= #[{on:=2,ground:=Ground.data}],guard:=none}) (v:= .pointer (some ⟨k,0,none⟩)) rfl (by kernel_rfl) (by kernel_rfl) (by kernel_rfl) (fun _ _ _ h=>h) (Or.inl ⟨by rfl,?_⟩) (by assumption) ?_
 ·intro w hSw
  (try dsimp only at hSw)
  go_simp
 try simp only [Act.put,List.setIfInBounds_toArray,List.set_cons_zero,List.set_cons_succ]
 refine wpAnyH_take (i:=4) (oi:={dst:=some 42,op:=Op.move (Operand.tmp 7),type:=3,pos:= "exact.go:157",after:= #[],guard:=none}) (v:= .int .i64 (b:Int)) rfl (by kernel_rfl) (by kernel_rfl) (by kernel_rfl) (fun _ _ _ h=>h) (Or.inl ⟨by rfl,?_⟩) (by assumption) ?_
 ·intro w hSw
  (try dsimp only at hSw)
  go_simp
 try simp only [Act.put,List.setIfInBounds_toArray,List.set_cons_zero,List.set_cons_succ]
 refine wpAnyH_take (i:=5) (oi:={dst:=some 43,op:=Op.fieldAddr 88 (Operand.tmp 5) 4,type:=0,pos:= "exact.go:157",after:= #[],guard:=none}) (v:= .pointer (some ⟨w.heap.size,4,none⟩)) rfl (by kernel_rfl) (by kernel_rfl) (by kernel_rfl) (fun _ _ _ h=>h) (Or.inl ⟨by rfl,?_⟩) (by assumption) ?_
 ·intro w hSw
  (try dsimp only at hSw)
  go_simp
 try simp only [Act.put,List.setIfInBounds_toArray,List.set_cons_zero,List.set_cons_succ]
 refine wpAnyH_take (i:=6) (oi:={dst:=some 44,op:=Op.load 57 (Operand.tmp 43),type:=57,pos:= "exact.go:157",after:= #[{on:=5,ground:=Ground.data}],guard:=none}) (v:= .slice da dn dc) rfl (by kernel_rfl) (by kernel_rfl) (by kernel_rfl) (fun _ _ _ h=>h) (Or.inl ⟨by rfl,?_⟩) (by assumption) ?_
 ·intro w hSw
  (try dsimp only at hSw)
  go_simp
 try simp only [Act.put,List.setIfInBounds_toArray,List.set_cons_zero,List.set_cons_succ]
 refine wpAnyH_ready (rs:= [7]) (by kernel_rfl) (by simp) ?_
 refine AllReadyH.cons (o:={dst:=some 45,op:=Op.call {callee:=Callee.value (Operand.func 109),args:= #[Operand.tmp 44],argTypes:= #[57]},type:=57,pos:= "exact.go:157",after:= #[{on:=6,ground:=Ground.data}],guard:=none}) rfl (fun K hK=>?_) AllReadyH.nil
 go_simp
 refine(padded_any (c:=dc) (HSr.out _ (H2.out.2.1.trans (Keeps.of_below (fun _=>False) HD2.out) (fun _ h=>h.elim))) hdn).mono ?_
 rintro e w3 ⟨gp3,cp3,rfl,hgp3,hrp3,hb3⟩
 have hB3:Below w2.heap.size w2 w3:=HD2.out.trans (hb3.mono HD2.out.size)
 refine hK.out _ _ ?_ (fun hHeld=>?_)
 ·exact H7.out _ hB3
 clear hK K
 try simp only [Act.put,List.setIfInBounds_toArray,List.set_cons_zero,List.set_cons_succ]
 refine wpAnyH_ready (rs:= [8]) (by kernel_rfl) (by simp) ?_
 refine AllReadyH.cons (o:={dst:=some 46,op:=Op.call {callee:=Callee.value (Operand.func 110),args:= #[Operand.tmp 41,Operand.tmp 42,Operand.tmp 45],argTypes:= #[37,3,57]},type:=3,pos:= "exact.go:157",after:= #[{on:=3,ground:=Ground.data},{on:=4,ground:=Ground.data},{on:=7,ground:=Ground.data},{on:=7,ground:=Ground.chain}],guard:=none}) rfl (fun K hK=>?_) AllReadyH.nil
 go_simp
 have hr3:=H2.out.1.later hB3
 have hsp3:Src w3 (some ⟨gp3,0,none⟩) 512 (pad5 dl):=by have h9:=hrp3.src;rw [pad5_len] at h9;exact h9
 have km:=mwmap_any (c:=cp3) hr3.mm hr3.xl (by have:=HC.out.1.plen;omega) hsp3 (pad5_bytes hby) b (by omega)
 unfold MO at km
 rw [HQ2.out] at km
 refine km.mono ?_
 rintro e w4 ⟨rfl,hm4,hk4⟩
 have HE:Hid (∃X' T' M' c',RgW w4 F X' kr p s c' q l m t n a1 a2 k S G T' M'∧CL G S T' M'∧Keeps (fun j=>OwT F t n j∨X j) w w4∧(∀j,X' j→X j∨(w.heap.size≤j∧j<w4.heap.size))):=by
  have z2:=H2.out.2.1.size
  have z3:=hB3.size
  refine⟨_,T1,M1,_,hr3.after (hr3.x.apart hk4 (fun j hj=>?_)) hm4 (hk4.mono (fun _ h=> .inr h)) (fun _ h=>h),HC.out.2,(H2.out.2.1.trans (Keeps.of_below (fun _=>False) hB3) (fun _ h=>h.elim)).trans (hk4.mono (fun _ h=> .inr h)) (fun _ h=> .inl h),fun j hj=>hj.imp (fun e=>e) (fun e=>⟨by have:=e.1;omega,e.2⟩)⟩
  have h9:=hr3.xa j hj
  exact⟨h9.1,h9.2.1,h9.2.2.1,h9.2.2.2.1,h9.2.2.2.2.1,h9.2.2.2.2.2.1⟩
 have hcs4:w4.cell? ⟨kr,4,none⟩=some (.pointer (some ⟨k,0,none⟩))∧w4.cell? ⟨w.heap.size,4,none⟩=some (.slice da dn dc):=by
  have h9:=H7.out _ hB3
  have z4:w.heap.size<w3.heap.size:=Nat.lt_of_lt_of_le (World.block_lt_of_cell? _ _ H2.out.2.2) hB3.size
  exact⟨(World.cell?_of_block (w:=w3) (a:=⟨kr,4,none⟩) (hk4.block kr (lt_there hr3.b) (fun e=>(hr3.xa kr e).2.2.2.2.2.2.1 rfl))).trans h9.1,(World.cell?_of_block (w:=w3) (a:=⟨w.heap.size,4,none⟩) (hk4.block _ z4 (fun e=>Nat.lt_irrefl _ (HR.out.xl _ e)))).trans h9.2⟩
 clear km hm4 hk4 hr3 hsp3 hrp3 hb3
 refine hK.out _ _ ?_ (fun hHeld=>?_)
 ·exact hcs4
 clear hK K
 try simp only
 refine wpAnyH_ready (rs:= [9]) (by kernel_rfl) (by simp) ?_
 refine AllReadyH.cons (o:={dst:=some 9,op:=Op.assign (Operand.tmp 46),type:=3,pos:= "exact.go:157",after:= #[{on:=8,ground:=Ground.data},{on:=8,ground:=Ground.chain},{on:=0,ground:=Ground.phase},{on:=1,ground:=Ground.phase},{on:=2,ground:=Ground.phase},{on:=3,ground:=Ground.phase},{on:=4,ground:=Ground.phase},{on:=5,ground:=Ground.phase},{on:=6,ground:=Ground.phase},{on:=7,ground:=Ground.phase},{on:=8,ground:=Ground.phase}],guard:=none}) rfl (fun K hK=>?_) AllReadyH.nil
 go_simp
 refine hK.out _ _ ?_ (fun hHeld=>?_)
 ·exact hcs4
 clear hK K
 try simp only [Act.put,List.setIfInBounds_toArray,List.set_cons_zero,List.set_cons_succ]
 refine wpAnyH_done (by kernel_rfl) ?_ _
 clear hHeld hcs4
 have kn:=num6_any 0 w4
 go_wp2_with fail
 refine kn.mono ?_
 rintro e wx ⟨rfl,hwx⟩
 have hwx':=hwx.symm
 subst hwx'
 clear hwx kn
 go_wp2
 go_ret
 exact⟨rfl,HE.out⟩
end
end Go.Proofs.YtcakbbkbgfhfaaaGreat
end

section
namespace Go.Proofs.YtcakbbkbgfhfaaaGreat
open Go.RowKit Go.Maps
section
variable {w w' w0:World} {F X:Nat→Prop} {kr p s cR q l m t n a1 a2 k:Nat} {S:DS} {G:SG} {T:TG} {M:MP} {N:Int} {who two:Bool} {da:Option Addr} {dn dc:Nat} {dl:List Int} {e:Ending}
theorem StpO.of_later (h:StpO w0 w' F X kr p s q l m t n a1 a2 k S G e) (hb:Below w.heap.size w w0):StpO w w' F X kr p s q l m t n a1 a2 k S G e:=by
 obtain⟨he,X',T',M',c',h1,h2,h3,h4⟩:=h
 have z:=hb.size
 exact⟨he,X',T',M',c',h1,h2,(Keeps.of_below _ hb).trans h3 (fun _ h=> .inl h),fun j hj=>(h4 j hj).imp (fun e=>e) (fun e=>⟨by have:=e.1;omega,e.2⟩)⟩
theorem looks_step (h:RgW w F X kr p s cR q l m t n a1 a2 k S G T M) (hc:CL G S T M) (hd:G.L.dead S=false) {pa:Nat} (hpa:PoolAt w F pa t n):
  Calls Tryz.prog 39 #[.pointer (some ⟨kr,0,none⟩), .pointer (some ⟨pa,0,none⟩)] w fun e w'=>StpO w w' F X kr p s q l m t n a1 a2 k S G e:=
   (looks_ok h.x hpa h.b h.offR h.mm h.offX (hc.state hd) hc.mstate hc.mb hc.rl hc.so hc.s0 hc.s1).mono (fun _e _w' ⟨he,⟨c',hx⟩,hk⟩=>⟨he,X,T,M,c',h.after hx (h.mm.apart hk (fun j ej hx=>h.offX j hx ej)) (hk.mono (fun _ h=> .inl h)) (fun _ h=> .inl h),hc,hk.mono (fun _ h=> .inl h),fun _ h=> .inl h⟩)
set_option maxRecDepth 20000 in
set_option maxHeartbeats 16000000 in
theorem step_any (h:RgW w F X kr p s cR q l m t n a1 a2 k S G T M) (hc:CL G S T M) (hd:G.L.dead S=false) (hdt:G.y.data=2+G.y.nodes / 4) (hN:I64 N) (hs:∀w',Keeps (fun j=>OwT F t n j∨X j) w w'→Src w' da dn dl) (hby:Bytes dl) (hdn:dn≤140737488355328) (kd:Int) (hkd:kd=1∨kd=7∨kd=11):
  Calls Tryz.prog 40 #[.pointer (some ⟨kr,0,none⟩),stpV kd N who two da dn dc] w fun e w'=>StpO w w' F X kr p s q l m t n a1 a2 k S G e:=by
 have hB0:=below_box w (stpC kd N who two da dn dc)
 have hbx:=heap_alloc_new w (stpC kd N who two da dn dc)
 have g0:(w.alloc (stpC kd N who two da dn dc)).cell? ⟨w.heap.size,0,none⟩=some (.int .i64 kd):=cell_of_block hbx (j:=0) rfl
 have g1:(w.alloc (stpC kd N who two da dn dc)).cell? ⟨w.heap.size,1,none⟩=some (.int .i64 N):=cell_of_block hbx (j:=1) rfl
 have g2:(w.alloc (stpC kd N who two da dn dc)).cell? ⟨w.heap.size,2,none⟩=some (.bool who):=cell_of_block hbx (j:=2) rfl
 have g3:(w.alloc (stpC kd N who two da dn dc)).cell? ⟨w.heap.size,3,none⟩=some (.bool two):=cell_of_block hbx (j:=3) rfl
 have g4:(w.alloc (stpC kd N who two da dn dc)).cell? ⟨w.heap.size,4,none⟩=some (.slice da dn dc):=cell_of_block hbx (j:=4) rfl
 have h0:=h.later hB0
 have r2:(w.alloc (stpC kd N who two da dn dc)).cell? ⟨kr,2,none⟩=some (.pointer (some ⟨a1,0,none⟩)):=cell_of_block h0.b (j:=2) rfl
 have r3:(w.alloc (stpC kd N who two da dn dc)).cell? ⟨kr,3,none⟩=some (.pointer (some ⟨a2,0,none⟩)):=cell_of_block h0.b (j:=3) rfl
 obtain⟨pa,hpa,hpw⟩:∃pa,PoolAt (w.alloc (stpC kd N who two da dn dc)) F pa t n∧pa=if who then a2 else a1:=by
  cases who
  ·exact⟨a1,h0.p1,rfl⟩
  ·exact⟨a2,h0.p2,rfl⟩
 have K1:Hid (kd=1→Calls Tryz.prog 68 #[.pointer (some ⟨kr,0,none⟩), .pointer (some ⟨pa,0,none⟩),stpV kd N who two da dn dc] (w.alloc (stpC kd N who two da dn dc)) fun e w'=>StpO w w' F X kr p s q l m t n a1 a2 k S G e):=fun e=>by
  subst e
  exact(calls1_any h0 hc hd hdt hpa).mono (fun e w' h9=>h9.of_later hB0)
 have K7:Hid (Calls Tryz.prog 39 #[.pointer (some ⟨kr,0,none⟩), .pointer (some ⟨pa,0,none⟩)] (w.alloc (stpC kd N who two da dn dc)) fun e w'=>StpO w w' F X kr p s q l m t n a1 a2 k S G e):=(looks_step h0 hc hd hpa).mono (fun e w' h9=>h9.of_later hB0)
 have K11:Hid (kd=11→Calls Tryz.prog 70 #[.pointer (some ⟨kr,0,none⟩), .pointer (some ⟨pa,0,none⟩),stpV kd N who two da dn dc] (w.alloc (stpC kd N who two da dn dc)) fun e w'=>StpO w w' F X kr p s q l m t n a1 a2 k S G e):=fun e=>by
  subst e
  exact(raw11_any h0 hc hd hpa hN (fun w' hk=>hs w' ((Keeps.of_below _ hB0).trans hk (fun _ h=> .inl h))) hby hdn).mono (fun e w' h9=>h9.of_later hB0)
 have HW:=Hid.mk hpw
 clear h hc hd hdt hN hs hby hB0 hbx h0 hpa hpw
 rcases hkd with rfl|rfl|rfl
 ·have kc:=K1.out rfl
  clear K1 K7 K11
  cases who
  ·obtain rfl:pa=a1:=HW.out
   go_enter Tryz.func40,Tryz.ntmps40
   go_wp2_with fail
   refine kc.mono ?_
   intro e w1 hP
   have he:=hP.1
   subst he
   have HE:=Hid.mk hP
   clear kc hP g0 g1 g2 g3 g4 r2 r3
   go_wp2
   go_ret
   exact HE.out
  ·obtain rfl:pa=a2:=HW.out
   go_enter Tryz.func40,Tryz.ntmps40
   go_wp2_with fail
   refine kc.mono ?_
   intro e w1 hP
   have he:=hP.1
   subst he
   have HE:=Hid.mk hP
   clear kc hP g0 g1 g2 g3 g4 r2 r3
   go_wp2
   go_ret
   exact HE.out
 ·have kc:=K7.out
  clear K1 K7 K11
  cases who
  ·obtain rfl:pa=a1:=HW.out
   go_enter Tryz.func40,Tryz.ntmps40
   go_wp2_with fail
   refine kc.mono ?_
   intro e w1 hP
   have he:=hP.1
   subst he
   have HE:=Hid.mk hP
   clear kc hP g0 g1 g2 g3 g4 r2 r3
   go_wp2
   go_ret
   exact HE.out
  ·obtain rfl:pa=a2:=HW.out
   go_enter Tryz.func40,Tryz.ntmps40
   go_wp2_with fail
   refine kc.mono ?_
   intro e w1 hP
   have he:=hP.1
   subst he
   have HE:=Hid.mk hP
   clear kc hP g0 g1 g2 g3 g4 r2 r3
   go_wp2
   go_ret
   exact HE.out
 ·have kc:=K11.out rfl
  clear K1 K7 K11
  cases who
  ·obtain rfl:pa=a1:=HW.out
   go_enter Tryz.func40,Tryz.ntmps40
   go_wp2_with fail
   refine kc.mono ?_
   intro e w1 hP
   have he:=hP.1
   subst he
   have HE:=Hid.mk hP
   clear kc hP g0 g1 g2 g3 g4 r2 r3
   go_wp2
   go_ret
   exact HE.out
  ·obtain rfl:pa=a2:=HW.out
   go_enter Tryz.func40,Tryz.ntmps40
   go_wp2_with fail
   refine kc.mono ?_
   intro e w1 hP
   have he:=hP.1
   subst he
   have HE:=Hid.mk hP
   clear kc hP g0 g1 g2 g3 g4 r2 r3
   go_wp2
   go_ret
   exact HE.out
end
end Go.Proofs.YtcakbbkbgfhfaaaGreat
end

section
namespace Go.Proofs.YtcakbbkbgfhfaaaGreat
open Go.RowKit Go.Maps
def RG (w:World) (E:Nat→Prop) (kr:Nat):Prop:=
 ∃F X p s cR q l m t n a1 a2 k S G T M,RgW w F X kr p s cR q l m t n a1 a2 k S G T M∧CL G S T M∧G.L.dead S=false∧G.y.data=2+G.y.nodes / 4∧(∀j,F j→E j)∧(∀j,X j→E j)∧E kr∧E q∧E l∧E m∧E t∧E n∧E a1∧E a2∧(∀j,E j→j<w.heap.size)
section
variable {w w':World} {E Z:Nat→Prop} {kr W0:Nat} {N:Int} {who two:Bool} {da:Option Addr} {dn dc:Nat} {dl:List Int}
theorem RG.apart (h:RG w E kr) (hk:Keeps Z w w') (hZ:∀j,Z j→¬E j):RG w' E kr:=by
 obtain⟨F,X,p,s,cR,q,l,m,t,n,a1,a2,k,S,G,T,M,h,hc,hd,hdt,eF,eX,e0,e1,e2,e3,e4,e5,e6,e7,hl⟩:=h
 have hp:∀a,E a→PoolAt w F a t n→PoolAt w' F a t n:=fun a ea ha=>⟨(hk.block a ha.lt (fun e=>hZ a e ea)).trans ha.b,ha.nf⟩
 refine⟨F,X,p,s,cR,q,l,m,t,n,a1,a2,k,S,G,T,M,⟨(hk.block kr (lt_there h.b) (fun e=>hZ kr e e0)).trans h.b,h.x.apart hk (fun j hj=>?_),hp a1 e6 h.p1,hp a2 e7 h.p2,h.mm.apart hk (fun j hj hx=>hZ j hj (eX j hx)),fun j hj=>Nat.lt_of_lt_of_le (h.xl j hj) hk.size,h.nk,h.xa⟩,hc,hd,hdt,eF,eX,e0,e1,e2,e3,e4,e5,e6,e7,fun j hj=>Nat.lt_of_lt_of_le (hl j hj) hk.size⟩
 have h9:=hZ j hj
 exact⟨fun e=>h9 (eF j e),fun e=>h9 (e▸e1),fun e=>h9 (e▸e2),fun e=>h9 (e▸e3),fun e=>h9 (e▸e4),fun e=>h9 (e▸e5)⟩
theorem RG.later (h:RG w E kr) (hb:Below w.heap.size w w'):RG w' E kr:=h.apart (Keeps.of_below (fun _=>False) hb) (fun _ h=>h.elim)
theorem RG.lt (h:RG w E kr):∀j,E j→j<w.heap.size:=by
 obtain⟨F,X,p,s,cR,q,l,m,t,n,a1,a2,k,S,G,T,M,h,hc,hd,hdt,eF,eX,e0,e1,e2,e3,e4,e5,e6,e7,hl⟩:=h
 exact hl
def RGO (w w':World) (E:Nat→Prop) (kr:Nat) (e:Ending):Prop:=e= .returned (.bool true)∧RG w' (fun j=>E j∨(w.heap.size≤j∧j<w'.heap.size)) kr∧Keeps E w w'
theorem StpO.rg {F X:Nat→Prop} {p s q l m t n a1 a2 k:Nat} {S:DS} {G:SG} {e:Ending} (h:StpO w w' F X kr p s q l m t n a1 a2 k S G e) (hd:G.L.dead S=false) (hdt:G.y.data=2+G.y.nodes / 4) (eF:∀j,F j→E j) (eX:∀j,X j→E j) (e0:E kr) (e1:E q) (e2:E l) (e3:E m) (e4:E t) (e5:E n) (e6:E a1) (e7:E a2) (hl:∀j,E j→j<w.heap.size):RGO w w' E kr e:=by
 obtain⟨he,X',T',M',c',h1,h2,h3,h4⟩:=h
 refine⟨he,⟨F,X',p,s,c',q,l,m,t,n,a1,a2,k,S,G,T',M',h1,h2,hd,hdt,fun j hj=> .inl (eF j hj),fun j hj=>(h4 j hj).imp (eX j) (fun e=>e), .inl e0, .inl e1, .inl e2, .inl e3, .inl e4, .inl e5, .inl e6, .inl e7,fun j hj=>?_⟩,h3.mono (fun j hj=>?_)⟩
 ·rcases hj with hj|hj
  ·exact Nat.lt_of_lt_of_le (hl j hj) h3.size
  ·exact hj.2
 ·rcases hj with (hj|hj|hj)|hj
  ·exact eF j hj
  ·exact hj▸e4
  ·exact hj▸e5
  ·exact eX j hj
theorem RG.step (h:RG w E kr) (hN:I64 N) (hs:∀w',Keeps E w w'→Src w' da dn dl) (hby:Bytes dl) (hdn:dn≤140737488355328) (kd:Int) (hkd:kd=1∨kd=7∨kd=11):
  Calls Tryz.prog 40 #[.pointer (some ⟨kr,0,none⟩),stpV kd N who two da dn dc] w fun e w'=>RGO w w' E kr e:=by
 obtain⟨F,X,p,s,cR,q,l,m,t,n,a1,a2,k,S,G,T,M,h,hc,hd,hdt,eF,eX,e0,e1,e2,e3,e4,e5,e6,e7,hl⟩:=h
 refine(step_any h hc hd hdt hN (fun w' hk=>hs w' (hk.mono (fun j hj=>?_))) hby hdn kd hkd).mono (fun e w' h9=>h9.rg hd hdt eF eX e0 e1 e2 e3 e4 e5 e6 e7 hl)
 rcases hj with (hj|hj|hj)|hj
 ·exact eF j hj
 ·exact hj▸e4
 ·exact hj▸e5
 ·exact eX j hj
theorem RigO.rg {g:GEO} {e:Ending} (h:RigO w w' g e):∃kr,e= .returned (.pointer (some ⟨kr,0,none⟩))∧RG w' (fun j=>w.heap.size≤j∧j<w'.heap.size) kr∧Below w.heap.size w w':=by
 obtain⟨F,X,kr,p,cR,q,l,m,t,n,a1,a2,k,S,L,rfl,hkr,h,hf,eF,eX,e1,e2,e3,e4,e5,e6,e7,hb⟩:=h
 obtain⟨o1,o2,o3,o4,o5,o6⟩:=h.x.low
 have hse:∀b,b<(lyG g).blocks→(⟨[],0,false⟩:TG).sees ⟨lyG g,L, [],true⟩ S b=zs 512:=fun b hb=>by
  unfold TG.sees SG.block
  show S.now (3+g.l+b)=zs 512
  exact hf.z _ (by omega) (by have:b<g.s-(3+g.l):=hb;omega)
 have hy2:2≤(lyG g).blocks:=h.x.yk.b2
 have hbk:(MP.new g).begun.blocks=(lyG g).blocks:=by show g.s-3-g.l=g.s-(3+g.l);omega
 have hraw:(MP.new g).begun.raw=List.replicate (g.s-3-g.l) (zs 512):=rfl
 refine⟨kr,rfl,⟨F,X,p,g.s,cR,q,l,m,t,n,a1,a2,k,S,_,_,_,h,?_,hf.dead,rfl,fun j hj=>⟨eF j hj,o1 j hj⟩,fun j hj=>⟨eX j hj,h.xl j hj⟩,⟨hkr,lt_there h.b⟩,⟨e1,o2⟩,⟨e2,o3⟩,⟨e3,o4⟩,⟨e4,o5⟩,⟨e5,o6⟩,⟨e6,h.p1.lt⟩,⟨e7,h.p2.lt⟩,fun j hj=>hj.2⟩,hb⟩
 refine⟨rfl,rfl,(fun x hx=>by cases hx),(hse 0 (by omega)).trans bmOf_none.symm,(hse 1 (by omega)).trans bmOf_none.symm,fun b h1 h2=>?_,hbk,rfl,?_,rfl,rfl,rfl,(fun x hx=>by cases hx),List.nodup_nil,List.length_replicate,List.length_replicate⟩
 ·have h2':b<g.s-(3+g.l):=h2
  rw [hraw,hse b h2,List.getElem?_replicate,if_pos (by omega)]
 ·rw [hraw,List.length_replicate]
  exact hbk
end
end Go.Proofs.YtcakbbkbgfhfaaaGreat
end

section
namespace Go.Proofs.YtcakbbkbgfhfaaaGreat
open Go.ChangeShapes Go.WideShapes Go.ChangeAt Go.RowKit Go.Deep
theorem cellsBool:Tryz.prog.cellsOf 4=1:=by kernel_rfl
theorem bytesStep:Tryz.prog.bytesOf 88=48:=by kernel_rfl
theorem cellsStep:Tryz.prog.cellsOf 88=5:=by kernel_rfl
def Steps6 (w:World) (B:Nat) (sa:Option Addr) (n:Nat):Prop:=
   (sa=none→n=0)∧∀y,sa=some y→∀i,i<n→∃b o,y=⟨b,o,none⟩∧b<B∧∃(kd N:Int) (who two:Bool) (da:Option Addr) (dn dc:Nat) (dl:List Int),w.cell? ⟨b,o+i*5,none⟩=some (.int .i64 kd)∧w.cell? ⟨b,o+i*5+1,none⟩=some (.int .i64 N)∧w.cell? ⟨b,o+i*5+2,none⟩=some (.bool who)∧w.cell? ⟨b,o+i*5+3,none⟩=some (.bool two)∧w.cell? ⟨b,o+i*5+4,none⟩=some (.slice da dn dc)∧I64 N∧Src w da dn dl∧Bytes dl∧dn≤140737488355328∧∀x,da=some x→0<dn→x.block<B
theorem Steps6.far {w w':World} {B:Nat} {sa:Option Addr} {n:Nat} (h:Steps6 w B sa n) (hb:Below B w w'):Steps6 w' B sa n:=by
 refine⟨h.1,fun y hy i hi=>?_⟩
 obtain⟨b,o,rfl,hbB,kd,N,who,two,da,dn,dc,dl,c0,c1,c2,c3,c4,h5,h6,h7,h8,h9⟩:=h.2 y hy i hi
 have e:=hb.block b hbB
 exact⟨b,o,rfl,hbB,kd,N,who,two,da,dn,dc,dl,(World.cell?_of_block (w:=w) (a:=⟨b,_,none⟩) e).trans c0,(World.cell?_of_block (w:=w) (a:=⟨b,_,none⟩) e).trans c1,(World.cell?_of_block (w:=w) (a:=⟨b,_,none⟩) e).trans c2,(World.cell?_of_block (w:=w) (a:=⟨b,_,none⟩) e).trans c3,(World.cell?_of_block (w:=w) (a:=⟨b,_,none⟩) e).trans c4,h5,h6.far hb h9,h7,h8,h9⟩
section
variable {H:Type} {enc:TypeId×Value→H} {W:World} {base:Nat} {spare:Nat→Bool} {held:Bool}
theorem trod5 {P:Program} {e:TypeId} {f0 f1 f2 f3 f4:Field} {n:Nat} {cs:List Value} {x:DataW H×List MemPlace} (he:P.underlying e=some (.struct #[f0,f1,f2,f3,f4])) (ce:P.cellsOf e=5) (o0:f0.offset=0) (o1:f1.offset=1) (o2:f2.offset=2) (o3:f3.offset=3) (o4:f4.offset=4)
    (c0:P.cellsOf f0.type=1) (c1:P.cellsOf f1.type=1) (c2:P.cellsOf f2.type=1) (c3:P.cellsOf f3.type=1) (c4:P.cellsOf f4.type=1) (h:DataW.trod enc P W base spare held n e cs=some x):
  ∃v0 v1 v2 v3 v4 y0 y1 y2 y3 y4 k,cs= [v0,v1,v2,v3,v4]∧x.1= .agg [y0.1,y1.1,y2.1,y3.1,y4.1]∧DataW.trod enc P W base spare held k f0.type [v0]=some y0∧DataW.trod enc P W base spare held k f1.type [v1]=some y1∧DataW.trod enc P W base spare held k f2.type [v2]=some y2∧DataW.trod enc P W base spare held k f3.type [v3]=some y3∧DataW.trod enc P W base spare held k f4.type [v4]=some y4∧(∀m∈y4.1.weights P f4.type,m∈x.1.weights P e):=by
 obtain⟨xs,k,_,hxy,hlen,hxl,hf⟩:=DataW.trod_struct he h
 rw [ce] at hlen
 match xs,hxl,cs,hlen with
 | [y0,y1,y2,y3,y4],_, [v0,v1,v2,v3,v4],_=>
  have g0:=hf 0 f0 rfl
  have g1:=hf 1 f1 rfl
  have g2:=hf 2 f2 rfl
  have g3:=hf 3 f3 rfl
  have g4:=hf 4 f4 rfl
  simp [o0,o1,o2,o3,o4,c0,c1,c2,c3,c4] at g0 g1 g2 g3 g4
  have ex:x.1= .agg [y0.1,y1.1,y2.1,y3.1,y4.1]:=by rw [hxy];rfl
  refine⟨v0,v1,v2,v3,v4,y0,y1,y2,y3,y4,k,rfl,ex,g0,g1,g2,g3,g4,fun m hm=>?_⟩
  rw [ex]
  simp [DataW.weights,he,DataW.weightsEach,hm]
theorem open_steps {fuel:Nat} {v:Value} {d:DataW H} {pl:List MemPlace} (h:DataW.trod enc Tryz.prog W base spare held fuel 64 [v]=some (d,pl)) (hw:∀n∈d.weights Tryz.prog 64,n≤reachBytes):
  ∃a n c,v= .slice a n c∧Steps6 W W.heap.size a n∧48*n≤140737488355328:=by
 rcases open_slice Tryz.underlying64 h with ⟨hcs,_⟩|⟨x,len,cap,m,k,D,Pl,hcs,_,hl,hm,hmm,hd,hx⟩
 ·simp only [List.cons.injEq,and_true] at hcs
  exact⟨none,0,0,hcs,⟨fun _=>rfl,(fun x hx=>by cases hx)⟩,Nat.zero_le _⟩
 ·simp only [List.cons.injEq,and_true] at hcs
  simp only [Prod.mk.injEq] at hd
  replace hd:=hd.1
  subst hd
  have hlm:len≤m:=by rw [hmm];split <;> omega
  have h1:=hw ((((List.range len).map D).length+((List.range (m-len)).map fun j=>D (len+j)).length)*Tryz.prog.bytesOf 88) (by simp [DataW.weights,Tryz.underlying64])
  rw [bytesStep] at h1
  simp only [List.length_map,List.length_range,reachBytes] at h1
  rw [cellsStep] at hx
  have hwe:∀i,i<len→∀n∈(D i).weights Tryz.prog 88,n≤reachBytes:=fun i hi n hn=>hw n (by
   simp only [DataW.weights,Tryz.underlying64]
   exact List.mem_cons_of_mem _ (List.mem_append_left _ (weightsAll_mem (List.mem_map.2 ⟨i,List.mem_range.2 hi,rfl⟩) hn)))
  refine⟨some x,len,cap,hcs,⟨(fun h=>by cases h),fun y hy i hi=>?_⟩,by omega⟩
  cases hy
  obtain⟨cs',e1,e2⟩:=hx i (by omega)
  obtain⟨_,hlen,hcell⟩:=World.cells?_some e1
  obtain⟨v0,v1,v2,v3,v4,y0,y1,y2,y3,y4,k',rfl,_,g0,g1,g2,g3,g4,hwt⟩:=trod5 Tryz.underlying88 cellsStep rfl rfl rfl rfl rfl cellsInt cellsInt cellsBool cellsBool cellsBytes e2
  obtain⟨a,na,ca,l,rfl,hs,hb,hc,hsn⟩:=open_bytes g4 (fun m hm=>hwe i hi m (hwt m hm))
  obtain⟨n0,q0,_,w0⟩:=DataW.trod_int Tryz.underlying3 g0
  obtain⟨n1,q1,_,w1⟩:=DataW.trod_int Tryz.underlying3 g1
  obtain⟨n2,q2,_⟩:=DataW.trod_bool Tryz.underlying4 g2
  obtain⟨n3,q3,_⟩:=DataW.trod_bool Tryz.underlying4 g3
  simp only [List.cons.injEq,and_true] at q0 q1 q2 q3
  subst q0 q1 q2 q3
  have c0:=hcell 0 (by omega)
  have c1:=hcell 1 (by omega)
  have c2:=hcell 2 (by omega)
  have c3:=hcell 3 (by omega)
  have c4:=hcell 4 (by omega)
  rw [add_add] at c0 c1 c2 c3 c4
  obtain⟨cs0,z1,z2⟩:=hx 0 (by omega)
  obtain⟨b0,b1,b2,b3,b4,_,_,_,_,_,_,rfl,_⟩:=trod5 Tryz.underlying88 cellsStep rfl rfl rfl rfl rfl cellsInt cellsInt cellsBool cellsBool cellsBytes z2
  obtain⟨_,_,zcell⟩:=World.cells?_some z1
  have z0:=zcell 0 (by omega)
  rw [add_add] at z0
  obtain⟨b,o,spot⟩:=x
  have hspot:spot=none:=by simpa [Addr.add] using World.cell?_spot z0
  subst hspot
  rw [addr_add] at c0 c1 c2 c3 c4
  simp at c0 c1 c2 c3 c4
  exact⟨b,o,rfl,World.block_lt_of_cell? _ _ c0,n0,n1,n2,n3,a,na,ca,l,c0,by simpa [Nat.add_assoc] using c1,by simpa [Nat.add_assoc] using c2,by simpa [Nat.add_assoc] using c3,by simpa [Nat.add_assoc] using c4,int_wf w1,hs,hb,hsn,hs.old⟩
end
end Go.Proofs.YtcakbbkbgfhfaaaGreat
end

section
namespace Go.Proofs.YtcakbbkbgfhfaaaGreat
open Go.RowKit Go.Maps
section
variable {w w':World} {E:Nat→Prop} {kr:Nat}
theorem RG.cells (h:RG w E kr):w.cell? ⟨kr,5,none⟩=some (.bool true):=by
 obtain⟨F,X,p,s,cR,q,l,m,t,n,a1,a2,k,S,G,T,M,h,hc,hd,hdt,eF,eX,e0,e1,e2,e3,e4,e5,e6,e7,hl⟩:=h
 exact cell_of_block h.b (j:=5) rfl
theorem RG.looks (h:RG w E kr):∃a2,w.cell? ⟨kr,3,none⟩=some (.pointer (some ⟨a2,0,none⟩))∧Calls Tryz.prog 39 #[.pointer (some ⟨kr,0,none⟩), .pointer (some ⟨a2,0,none⟩)] w fun e w'=>RGO w w' E kr e:=by
 obtain⟨F,X,p,s,cR,q,l,m,t,n,a1,a2,k,S,G,T,M,h,hc,hd,hdt,eF,eX,e0,e1,e2,e3,e4,e5,e6,e7,hl⟩:=h
 exact⟨a2,cell_of_block h.b (j:=3) rfl,(looks_step h hc hd h.p2).mono (fun e w' h9=>h9.rg hd hdt eF eX e0 e1 e2 e3 e4 e5 e6 e7 hl)⟩
theorem RG.clear (h:RG w E kr):∃a1 k,w.cell? ⟨kr,2,none⟩=some (.pointer (some ⟨a1,0,none⟩))∧Calls Tryz.prog 24 #[.pointer (some ⟨a1,0,none⟩)] w fun e w1=>e= .returned (.int .i64 0)∧w1.cell? ⟨kr,4,none⟩=some (.pointer (some ⟨k,0,none⟩))∧Calls Tryz.prog 38 #[.pointer (some ⟨k,0,none⟩)] w1 fun e w2=>e= .returned (.int .i64 0)∧RG w2 (fun j=>E j∨(w.heap.size≤j∧j<w2.heap.size)) kr∧Keeps E w w2:=by
 obtain⟨F,X,p,s,cR,q,l,m,t,n,a1,a2,k,S,G,T,M,h,hc,hd,hdt,eF,eX,e0,e1,e2,e3,e4,e5,e6,e7,hl⟩:=h
 obtain⟨T1,M1,q1,q2,hc1⟩:=hc.clear hd h.x.yk hdt h.x.tx.ch.ok
 have kc:=clear_any h.x h.p1
 rw [q1] at kc
 refine⟨a1,k,cell_of_block h.b (j:=2) rfl,kc.mono (fun e w1 ⟨he,hx1,hk1⟩=>⟨he,?_⟩)⟩
 have hk1':Keeps (fun j=>OwT F t n j∨X j) w w1:=hk1.mono (fun _ h=> .inl h)
 have h1:=h.after (Y:=X) hx1 (h.mm.apart hk1 (fun j ej hx=>h.offX j hx ej)) hk1' (fun _ h=> .inl h)
 have km:=mclear_any h1.mm h1.xl (by have:=hc.plen;omega) (by have:=h1.x.yk.nd;have:=hc.mn;omega)
 unfold MO at km
 rw [q2] at km
 refine⟨cell_of_block h1.b (j:=4) rfl,km.mono (fun e w2 ⟨he2,hm2,hk2⟩=>?_)⟩
 have z1:=hk1.size
 have hS:StpO w w2 F X kr p s q l m t n a1 a2 k S G (.returned (.bool true)):=by
  refine⟨rfl,_,T1,M1,_,h1.after (h1.x.apart hk2 (fun j hj=>?_)) hm2 (hk2.mono (fun _ h=> .inr h)) (fun _ h=>h),hc1,hk1'.trans (hk2.mono (fun _ h=> .inr h)) (fun _ h=> .inl h),fun j hj=>hj.imp (fun e=>e) (fun e=>⟨by have:=e.1;omega,e.2⟩)⟩
  have h9:=h1.xa j hj
  exact⟨h9.1,h9.2.1,h9.2.2.1,h9.2.2.2.1,h9.2.2.2.2.1,h9.2.2.2.2.2.1⟩
 have hR:=hS.rg hd hdt eF eX e0 e1 e2 e3 e4 e5 e6 e7 hl
 exact⟨he2,hR.2.1,hR.2.2⟩
end
def kAt (j:Nat):Int:=if j=0 then 1 else if j=1 then 7 else 11
def inB (kd:Int):Nat→Bool
 |0=>false
 |j+1=>inB kd j || (kAt j == kd)
theorem inB_three {kd:Int} (h:inB kd 3=true):kd=1∨kd=7∨kd=11:=by
 simp [inB,kAt] at h
 omega
theorem Steps6.mono {w:World} {B B':Nat} {sa:Option Addr} {n:Nat} (h:Steps6 w B sa n) (hb:B≤B'):Steps6 w B' sa n:=by
 refine⟨h.1,fun y hy i hi=>?_⟩
 obtain⟨b,o,rfl,hbB,kd,N,who,two,da,dn,dc,dl,c0,c1,c2,c3,c4,h5,h6,h7,h8,h9⟩:=h.2 y hy i hi
 exact⟨b,o,rfl,by omega,kd,N,who,two,da,dn,dc,dl,c0,c1,c2,c3,c4,h5,h6,h7,h8,fun x hx h0=>Nat.lt_of_lt_of_le (h9 x hx h0) hb⟩
def PlI (w wr:World) (ka kb:Nat):Prop:=∃E1 E2,RG wr E1 ka∧RG wr E2 kb∧(∀j,E1 j→¬E2 j)∧(∀j,E1 j→w.heap.size≤j)∧(∀j,E2 j→w.heap.size≤j)∧Below w.heap.size w wr
theorem PlI.later {w wr w':World} {ka kb:Nat} (h:PlI w wr ka kb) (hb:Below wr.heap.size wr w'):PlI w w' ka kb:=by
 obtain⟨E1,E2,h1,h2,h3,h4,h5,h6⟩:=h
 exact⟨E1,E2,h1.later hb,h2.later hb,h3,h4,h5,h6.trans (hb.mono h6.size)⟩
theorem PlI.a {w wr w':World} {ka kb:Nat} {E1 E2:Nat→Prop} (h1:RG w' (fun j=>E1 j∨(wr.heap.size≤j∧j<w'.heap.size)) ka) (hk:Keeps E1 wr w') (h2:RG wr E2 kb) (h3:∀j,E1 j→¬E2 j) (h4:∀j,E1 j→w.heap.size≤j) (h5:∀j,E2 j→w.heap.size≤j) (h6:Below w.heap.size w wr):PlI w w' ka kb:=by
 have hl:=h2.lt
 have z:=h6.size
 refine⟨_,E2,h1,h2.apart hk h3,fun j hj e=>?_,fun j hj=>?_,h5,h6.trans (hk.below h4 h6.size)⟩
 ·rcases hj with hj|hj
  ·exact h3 j hj e
  ·have:=hl j e
   omega
 ·rcases hj with hj|hj
  ·exact h4 j hj
  ·omega
theorem PlI.swap {w wr:World} {ka kb:Nat} (h:PlI w wr ka kb):PlI w wr kb ka:=by
 obtain⟨E1,E2,h1,h2,h3,h4,h5,h6⟩:=h
 exact⟨E2,E1,h2,h1,fun j hj e=>h3 j e hj,h5,h4,h6⟩
theorem PlI.step {w wr:World} {ka kb:Nat} {N:Int} {who two:Bool} {da:Option Addr} {dn dc:Nat} {dl:List Int} (h:PlI w wr ka kb) (hN:I64 N) (hs:Src wr da dn dl) (hsl:∀x,da=some x→0<dn→x.block<w.heap.size) (hby:Bytes dl) (hdn:dn≤140737488355328) (kd:Int) (hkd:kd=1∨kd=7∨kd=11):
  Calls Tryz.prog 40 #[.pointer (some ⟨ka,0,none⟩),stpV kd N who two da dn dc] wr fun e w'=>e= .returned (.bool true)∧PlI w w' ka kb:=by
 obtain⟨E1,E2,h1,h2,h3,h4,h5,h6⟩:=h
 exact(h1.step hN (fun w' hk=>hs.far (hk.below h4 h6.size) hsl) hby hdn kd hkd).mono (fun e w' ⟨he,hr,hk⟩=>⟨he,PlI.a hr hk h2 h3 h4 h5 h6⟩)
end Go.Proofs.YtcakbbkbgfhfaaaGreat
end
