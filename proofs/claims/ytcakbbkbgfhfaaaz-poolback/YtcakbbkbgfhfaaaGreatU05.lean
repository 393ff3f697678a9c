import Derived.Test.YtcakbbkbgfhfaaaGreatW27
import Derived.Test.YtcakbbkbgfhfaaaGreatU04
import Derived.Deep.CutBlock
import Derived.Deep.DeepCutAuto
section
namespace Go.Proofs.YtcakbbkbgfhfaaaGreat
open Go.RowKit Go.Maps
theorem full_two (b:Bool):fullOf b=60∨fullOf b=61:=by cases b;exact .inl rfl;exact .inr rfl
set_option maxRecDepth 20000 in
set_option maxHeartbeats 16000000 in
theorem poolBack_any (B L N:Int) (hB:I64 B) (hL:I64 L) (hN:I64 N) (sa:Option Addr) (sn sc:Nat) (oa:Option Addr) (on oc:Nat) (nodes:Bool) (w:World) (hsc:Acts6 w w.heap.size sa sn) (_hsn:16*sn≤140737488355328) (hos:Nums6 w w.heap.size oa on) (hon:on≤140737488355328):Calls Tryz.prog 5 #[.agg #[.int .i64 B, .int .i64 L, .int .i64 N], .slice sa sn sc, .slice oa on oc, .bool nodes] w fun e w'=>e= .returned (.bool true)∧Below w.heap.size w w':=by
 obtain⟨hG,h1,h2,h3,h5,h6,h4,h7⟩:=geoOf_ok B L N
 have hb0:=below_box w (.cells #[.int .i64 B, .int .i64 L, .int .i64 N] 23)
 have hbx:=heap_alloc_new w (.cells #[.int .i64 B, .int .i64 L, .int .i64 N] 23)
 have hz0:(w.alloc (.cells #[.int .i64 B, .int .i64 L, .int .i64 N] 23)).heap.size=w.heap.size+1:=by rw [World.size_alloc]
 have k1:=fresh6_any B L N hB hL hN (w.alloc (.cells #[.int .i64 B, .int .i64 L, .int .i64 N] 23))
 have HSu:Hid (∀w,Calls Tryz.prog 11 #[.agg #[.int .i64 B, .int .i64 L, .int .i64 N]] w fun e w'=>e= .returned (supV (geoOf B L N))∧Below w.heap.size w w'):=fun w=>super6_any B L N hB hL hN w
 generalize geoOf B L N=g at*
 have HB0:=Hid.mk (And.intro hb0 hbx)
 have HSC:=Hid.mk hsc
 have HOS:=Hid.mk hos
 clear hb0 hbx hB hL hN hG h7 hsc hos
 go_enter Tryz.func5,Tryz.ntmps5
 go_wp2_with fail
 refine k1.mono ?_
 rintro e w1 ⟨F,kr,p,cR,q,l,m,t,n,a1,a2,k,S,L',rfl,hrp,hfr,hlo1,hb1⟩
 have hz1:=hb1.size
 rw [hz0] at hz1 hlo1
 have hbx1:=(hb1.block _ (lt_there HB0.out.2)).trans HB0.out.2
 have hlo:∀j,OwT F t n j→w.heap.size≤j:=fun j hj=>by have:=hlo1 j hj;omega
 have hB1:=HB0.out.1.trans (hb1.mono (by omega))
 have g0:w1.cell? ⟨w.heap.size,0,none⟩=some (.int .i64 B):=cell_of_block hbx1 (j:=0) rfl
 have g1:w1.cell? ⟨w.heap.size,1,none⟩=some (.int .i64 L):=cell_of_block hbx1 (j:=1) rfl
 have g2:w1.cell? ⟨w.heap.size,2,none⟩=some (.int .i64 N):=cell_of_block hbx1 (j:=2) rfl
 have k2:=HSu.out w1
 obtain⟨_,hpf⟩:=fresh_clear hfr h4 h1
 have HI:=Hid.mk (And.intro hrp.x (And.intro hrp.p1 (And.intro hpf hB1)))
 have HFr:=Hid.mk hfr
 have HLo:=Hid.mk hlo
 clear k1 hrp hfr hlo1 hb1 hbx1 hlo hB1 hpf HB0 HSu
 go_wp2_with fail
 refine k2.mono ?_
 rintro e w2 ⟨rfl,hb2⟩
 have hz2:=hb2.size
 have HLOW:Hid (TXlt w2.heap.size F q l m t n):=(HI.out.1.later hb2).low
 have ha1:a1<w2.heap.size:=Nat.lt_of_lt_of_le HI.out.2.1.lt hz2
 have hzw:w.heap.size≤w2.heap.size:=by omega
 have HA:Hid (ApJ w ((w2.alloc (.cells #[.int .i64 (g.s:Int), .int .i64 (g.l:Int), .int .i64 (g.n:Int)] 31)).alloc (.cells #[.slice none 0 0, .slice none 0 0] 51)) g F (w2.heap.size+2) p q l m t n a1 S L' w2.heap.size (w2.heap.size+1) (.slice none 0 0) (.slice none 0 0) [] [] ⟨[(0,ebm (2+g.n / 4))],0,false⟩):=by
  have b1:=below_box w2 (.cells #[.int .i64 (g.s:Int), .int .i64 (g.l:Int), .int .i64 (g.n:Int)] 31)
  have z1:(w2.alloc (.cells #[.int .i64 (g.s:Int), .int .i64 (g.l:Int), .int .i64 (g.n:Int)] 31)).heap.size=w2.heap.size+1:=by rw [World.size_alloc]
  have b2:=below_box (w2.alloc (.cells #[.int .i64 (g.s:Int), .int .i64 (g.l:Int), .int .i64 (g.n:Int)] 31)) (.cells #[.slice none 0 0, .slice none 0 0] 51)
  have b12:Below w2.heap.size w2 _:=b1.trans (b2.mono b1.size)
  have b3:Below w1.heap.size w1 _:=hb2.trans (b12.mono hz2)
  have n1:=heap_alloc_new w2 (.cells #[.int .i64 (g.s:Int), .int .i64 (g.l:Int), .int .i64 (g.n:Int)] 31)
  have n2:=heap_alloc_new (w2.alloc (.cells #[.int .i64 (g.s:Int), .int .i64 (g.l:Int), .int .i64 (g.n:Int)] 31)) (.cells #[.slice none 0 0, .slice none 0 0] 51)
  rw [z1] at n2
  exact⟨_,HI.out.1.later b3,HI.out.2.1.later b3,IL.nil _ _,IL.nil _ _,(fun j hj=>by simp [Value.ownBlock] at hj),(b2.block _ (lt_there n1)).trans n1,n2,HI.out.2.2.2.trans (b3.mono (by omega))⟩
 have HQ0:Hid (QF ⟨lyG g,L', [],true⟩ S ⟨[(0,ebm (2+g.n / 4))],0,false⟩ [] []):=HI.out.2.2.1.qf2 HI.out.1.yk
 clear k2 hb2 g0 g1 g2 HI
 go_upto_block 0 with fail
 go_cut [13] (fun _ wx=>∃vb vn tb tn T,ApJ w wx g F (w2.heap.size+2) p q l m t n a1 S L' w2.heap.size (w2.heap.size+1) vb vn tb tn T∧(QF ⟨lyG g,L', [],true⟩ S T tb tn∨∃b,T.bad=fullOf b∧T.ended=false))
 case first=>
  go_wp2_with fail
  go_loopw [13] (fun iv wr=>∃(j:Nat) (vb vn:Value) (tb tn:List Nat) (T:TG),j≤sn∧iv= .int .i64 (j:Int)∧ApJ w wr g F (w2.heap.size+2) p q l m t n a1 S L' w2.heap.size (w2.heap.size+1) vb vn tb tn T∧(QF ⟨lyG g,L', [],true⟩ S T tb tn∨∃b,T.bad=fullOf b∧T.ended=false)) (fun iv _=>sn-(intOf iv).toNat)
  case atStart=>exact⟨0,_,_, [], [],_,Nat.zero_le _,rfl,HA.out, .inl HQ0.out⟩
  case round=>
   clear HA HQ0
   obtain⟨j,vb,vn,tb,tn,T,hj,rfl,hI,hQ⟩:=hrel
   have HJ:=Hid.mk hI
   clear hI
   by_cases hlt:j<sn
   ·have hlt':(j:Int)<(sn:Int):=by omega
    by_cases hl2:j<200
    ·have hl2':(j:Int)<200:=by omega
     obtain⟨cR',hx,hp,hib,hin,hsep,u7,u13,hbw⟩:=HJ.out
     have c0:=hp.c0
     have ks:=state_any hx.st hx.tx
     rcases hQ with hq|⟨bb,hbad,hen⟩
     ·rw [hq.state HFr.out.dead] at ks
      have HQ:=Hid.mk hq
      clear hq hx hp hib hin hsep u7 u13 hbw
      go_wp2_with fail
      refine ks.mono ?_
      rintro e w5 ⟨rfl,hb5⟩
      have HJ5:=Hid.mk (HJ.out.later hb5)
      have kn:=num6_any 0 w5
      clear ks c0 hb5 HJ
      go_wp2_with fail
      refine kn.mono ?_
      rintro e wx ⟨rfl,hwx⟩
      have hwx':=hwx.symm
      subst hwx'
      clear hwx kn
      obtain⟨cR',hx,hp,hib,hin,hsep,u7,u13,hbw⟩:=HJ5.out
      cases sa with
      |none=>have:=HSC.out.1 rfl;omega
      |some x=>
      obtain⟨b,o,rfl,hbb,dr,nd,wh,at_,x0,x1,x2,x3,hat⟩:=(HSC.out.far hbw).2 x rfl j hlt
      have hHd:Hid (Hd7 w5 g w2.heap.size b o j dr nd wh at_):=⟨cell_of_block u7 (j:=0) rfl,cell_of_block u7 (j:=1) rfl,cell_of_block u7 (j:=2) rfl,x0,x1,x2,x3⟩
      have y0:w5.cell? ⟨w2.heap.size+1,0,none⟩=some vb:=cell_of_block u13 (j:=0) rfl
      have y1:w5.cell? ⟨w2.heap.size+1,1,none⟩=some vn:=cell_of_block u13 (j:=1) rfl
      have hBw:w2.heap.size+1+1≤w5.heap.size:=lt_there u13
      have s0:=hHd.out.1
      have s1:=hHd.out.2.1
      have s2:=hHd.out.2.2.1
      have HS:=Hid.mk (And.intro hx (And.intro hp (And.intro hib (And.intro hin hsep))))
      clear hx hp hib hin hsep u7 u13 hbw
      go_wp2_with fail
      refine wp_region_held_drew (S:=(fun w'=>w'.cell? ⟨w2.heap.size,0,none⟩=some (.int .i64 (g.s:Int))∧w'.cell? ⟨w2.heap.size,1,none⟩=some (.int .i64 (g.l:Int))∧w'.cell? ⟨w2.heap.size,2,none⟩=some (.int .i64 (g.n:Int))∧w'.cell? ⟨b,o+j*4,none⟩=some (.bool dr)∧w'.cell? ⟨b,o+j*4+1,none⟩=some (.bool nd)∧w'.cell? ⟨b,o+j*4+2,none⟩=some (.bool wh)∧w'.cell? ⟨b,o+j*4+3,none⟩=some (.int .i64 at_))) (by kernel_rfl) (hHd.out) (fun hHeld=>?_)
      refine wpAnyH_take (i:=0) (oi:={dst:=some 56,op:=Op.move (Operand.tmp 10),type:=25,pos:= "outright.go:214",after:= #[],guard:=none}) (v:= .pointer (some ⟨a1,0,none⟩)) rfl (by kernel_rfl) (by kernel_rfl) (by kernel_rfl) (fun _ _ _ h=>h) (Or.inl ⟨by rfl,?_⟩) (by assumption) ?_
      ·intro w hSw
       (try dsimp only at hSw)
       go_simp
      try simp only [Act.put,List.setIfInBounds_toArray,List.set_cons_zero,List.set_cons_succ]
      refine wpAnyH_take (i:=1) (oi:={dst:=some 57,op:=Op.load 31 (Operand.tmp 11),type:=31,pos:= "outright.go:214",after:= #[],guard:=none}) (v:=supV g) rfl (by kernel_rfl) (by kernel_rfl) (by kernel_rfl) (fun _ _ _ h=>h) (Or.inl ⟨by rfl,?_⟩) (by assumption) ?_
      ·intro w hSw
       (try dsimp only at hSw)
       go_simp
      try simp only [Act.put,List.setIfInBounds_toArray,List.set_cons_zero,List.set_cons_succ]
      refine wpAnyH_take (i:=3) (oi:={dst:=some 59,op:=Op.move (Operand.tmp 1),type:=46,pos:= "outright.go:214",after:= #[],guard:=none}) (v:= .slice (some ⟨b,o,none⟩) sn sc) rfl (by kernel_rfl) (by kernel_rfl) (by kernel_rfl) (fun _ _ _ h=>h) (Or.inl ⟨by rfl,?_⟩) (by assumption) ?_
      ·intro w hSw
       (try dsimp only at hSw)
       go_simp
      try simp only [Act.put,List.setIfInBounds_toArray,List.set_cons_zero,List.set_cons_succ]
      refine wpAnyH_take (i:=4) (oi:={dst:=some 60,op:=Op.move (Operand.tmp 13),type:=3,pos:= "outright.go:214",after:= #[],guard:=none}) (v:= .int .i64 (j:Int)) rfl (by kernel_rfl) (by kernel_rfl) (by kernel_rfl) (fun _ _ _ h=>h) (Or.inl ⟨by rfl,?_⟩) (by assumption) ?_
      ·intro w hSw
       (try dsimp only at hSw)
       go_simp
      try simp only [Act.put,List.setIfInBounds_toArray,List.set_cons_zero,List.set_cons_succ]
      refine wpAnyH_take (i:=5) (oi:={dst:=some 61,op:=Op.indexAddr 46 (Operand.tmp 59) (Operand.tmp 60),type:=0,pos:= "outright.go:214",after:= #[{on:=3,ground:=Ground.data},{on:=4,ground:=Ground.data}],guard:=none}) (v:= .pointer (some ⟨b,o+j*4,none⟩)) rfl (by kernel_rfl) (by kernel_rfl) (by kernel_rfl) (fun _ _ _ h=>h) (Or.inl ⟨by rfl,?_⟩) (by assumption) ?_
      ·intro w hSw
       (try dsimp only at hSw)
       go_simp
      try simp only [Act.put,List.setIfInBounds_toArray,List.set_cons_zero,List.set_cons_succ]
      refine wpAnyH_take (i:=6) (oi:={dst:=some 62,op:=Op.load 53 (Operand.tmp 61),type:=53,pos:= "outright.go:214",after:= #[{on:=5,ground:=Ground.data}],guard:=none}) (v:= .agg #[.bool dr, .bool nd, .bool wh, .int .i64 at_]) rfl (by kernel_rfl) (by kernel_rfl) (by kernel_rfl) (fun _ _ _ h=>h) (Or.inl ⟨by rfl,?_⟩) (by assumption) ?_
      ·intro w hSw
       (try dsimp only at hSw)
       go_simp
      try simp only [Act.put,List.setIfInBounds_toArray,List.set_cons_zero,List.set_cons_succ]
      refine wpAnyH_ready (rs:= [2]) (by kernel_rfl) (by simp) ?_
      refine AllReadyH.cons (o:={dst:=some 58,op:=Op.load 51 (Operand.tmp 12),type:=51,pos:= "outright.go:214",after:= #[],guard:=none}) rfl (fun K hK=>?_) AllReadyH.nil
      go_simp
      refine hK.out _ _ ?_ (fun hHeld=>?_)
      ·exact hHd.out
      clear hK K
      try simp only [Act.put,List.setIfInBounds_toArray,List.set_cons_zero,List.set_cons_succ]
      refine wpAnyH_ready (rs:= [7]) (by kernel_rfl) (by simp) ?_
      refine AllReadyH.cons (o:={dst:=some 63,op:=Op.call {callee:=Callee.value (Operand.func 16),args:= #[Operand.tmp 56,Operand.tmp 57,Operand.tmp 58,Operand.tmp 62],argTypes:= #[25,31,51,53]},type:=54,pos:= "outright.go:214",after:= #[{on:=0,ground:=Ground.data},{on:=1,ground:=Ground.data},{on:=2,ground:=Ground.data},{on:=6,ground:=Ground.data}],guard:=none}) rfl (fun K hK=>?_) AllReadyH.nil
      go_simp
      have bd:Below w5.heap.size w5 w5.drew:=below_drew (Below.refl _ _)
      have ka:=act_any (HS.out.1.later bd) (HS.out.2.1.later bd) HFr.out.dead h1 h3 h6 h4 HQ.out (HS.out.2.2.1.later bd) (HS.out.2.2.2.1.later bd) HS.out.2.2.2.2 (TXlt_le HLOW.out (by omega)) (show w2.heap.size+2≤w5.drew.heap.size from hBw) dr nd wh at_ hat
      refine ka.mono ?_
      rintro e w6 ⟨vb2,vn2,tb2,tn2,T2,cR2,rfl,hx6,hk6,hib6,hin6,hsep6,hnx⟩
      obtain⟨a6,c6,rfl⟩:=hib6.form
      obtain⟨a7,c7,rfl⟩:=hin6.form
      obtain⟨t1,t2,t3,t4,t5,t6⟩:=HJ5.out.step HLOW.out (Nat.le_refl _) (by omega) (by omega) (by omega) (by omega) HLo.out (by omega) ha1 hx6 hk6 hib6 hin6 hsep6
      obtain⟨q0,q1,q2,q3,_,_⟩:=puts6 (x:= .slice a6 tb2.length c6) (y:= .slice a7 tn2.length c7) t2
      have S6:Hid (Hd7 w6 g w2.heap.size b o j dr nd wh at_):=hHd.out.of t1 (t3 b hbb)
      have S7:Hid (Hd7 ((w6.setCell ⟨w2.heap.size+1,0,none⟩ (.slice a6 tb2.length c6)).setCell ⟨w2.heap.size+1,1,none⟩ (.slice a7 tn2.length c7)) g w2.heap.size b o j dr nd wh at_):=hHd.out.of t4 (t5 b hbb)
      have HT6:=Hid.mk t6
      have HNx:=Hid.mk hnx
      have HEN:=Hid.mk HQ.out.en
      clear ka hx6 hk6 hib6 hin6 hsep6 hnx t1 t2 t3 t4 t5 t6 y0 y1 bd
      refine hK.out _ _ ?_ (fun hHeld=>?_)
      ·exact S6.out
      clear hK K
      try simp only [Act.put,List.setIfInBounds_toArray,List.set_cons_zero,List.set_cons_succ]
      refine wpAnyH_take (i:=8) (oi:={dst:=some 55,op:=Op.move (Operand.tmp 63),type:=54,pos:= "outright.go:214",after:= #[{on:=7,ground:=Ground.data}],guard:=none}) (v:= .tuple #[.agg #[.slice a6 tb2.length c6, .slice a7 tn2.length c7], .bool true]) rfl (by kernel_rfl) (by kernel_rfl) (by kernel_rfl) (fun _ _ _ h=>h) (Or.inl ⟨by rfl,?_⟩) (by assumption) ?_
      ·intro w hSw
       (try dsimp only at hSw)
       go_simp
      try simp only [Act.put,List.setIfInBounds_toArray,List.set_cons_zero,List.set_cons_succ]
      refine wpAnyH_take (i:=9) (oi:={dst:=some 64,op:=Op.extract (Operand.tmp 55) 0,type:=51,pos:= "outright.go:214",after:= #[{on:=8,ground:=Ground.data}],guard:=none}) (v:= .agg #[.slice a6 tb2.length c6, .slice a7 tn2.length c7]) rfl (by kernel_rfl) (by kernel_rfl) (by kernel_rfl) (fun _ _ _ h=>h) (Or.inl ⟨by rfl,?_⟩) (by assumption) ?_
      ·intro w hSw
       (try dsimp only at hSw)
       go_simp
      try simp only [Act.put,List.setIfInBounds_toArray,List.set_cons_zero,List.set_cons_succ]
      refine wpAnyH_take (i:=10) (oi:={dst:=some 65,op:=Op.extract (Operand.tmp 55) 1,type:=4,pos:= "outright.go:214",after:= #[{on:=8,ground:=Ground.data},{on:=11,ground:=Ground.gcOnly Departure.lateStores}],guard:=none}) (v:= .bool true) rfl (by kernel_rfl) (by kernel_rfl) (by kernel_rfl) (fun _ _ _ h=>h) (Or.inl ⟨by rfl,?_⟩) (by assumption) ?_
      ·intro w hSw
       (try dsimp only at hSw)
       go_simp
      try simp only [Act.put,List.setIfInBounds_toArray,List.set_cons_zero,List.set_cons_succ]
      refine wpAnyH_ready (rs:= [11]) (by kernel_rfl) (by simp) ?_
      refine AllReadyH.cons (o:={dst:=none,op:=Op.store 51 (Operand.tmp 12) (Operand.tmp 64),type:=0,pos:= "outright.go:214",after:= #[{on:=9,ground:=Ground.data},{on:=7,ground:=Ground.chain},{on:=0,ground:=Ground.phase},{on:=1,ground:=Ground.phase},{on:=2,ground:=Ground.phase},{on:=3,ground:=Ground.phase},{on:=4,ground:=Ground.phase},{on:=5,ground:=Ground.phase},{on:=6,ground:=Ground.phase},{on:=7,ground:=Ground.phase},{on:=8,ground:=Ground.phase},{on:=9,ground:=Ground.phase},{on:=10,ground:=Ground.textOnly Departure.lateStores}],guard:=none}) rfl (fun K hK=>?_) AllReadyH.nil
      go_simp
      refine hK.out _ _ ?_ (fun hHeld=>?_)
      ·exact S7.out
      clear hK K
      try simp only [Act.put,List.setIfInBounds_toArray,List.set_cons_zero,List.set_cons_succ]
      refine wpAnyH_done (by kernel_rfl) ?_ _
      clear hHeld S6 S7 q0 q1 q2 q3 s0 s1 s2 x0 x1 x2 x3 hbb hat hHd
      go_wp2
      go_roundw
      case rel=>
       refine⟨j+1,_,_,tb2,tn2,T2,by omega,by go_num,HT6.out,?_⟩
       rcases HNx.out with hq|⟨bb,hT,_,_,_⟩
       ·exact .inl hq
       ·exact .inr ⟨bb,by rw [hT],by rw [hT];exact HEN.out⟩
      case measure=>simp [intOf];omega
     ·have hst:T.state ⟨lyG g,L', [],true⟩ S=fullOf bb:=(bad_state HFr.out.dead hen (by rw [hbad];exact full_ne bb)).trans hbad
      rw [hst] at ks
      have hfne:=full_ne bb
      have HE:Hid (∃b,T.bad=fullOf b∧T.ended=false):=⟨bb,hbad,hen⟩
      clear hst hbad hen hx hp hib hin hsep u7 u13 hbw
      generalize fullOf bb=fb at*
      go_wp2_with fail
      refine ks.mono ?_
      rintro e w5 ⟨rfl,hb5⟩
      have HJ5:=Hid.mk (HJ.out.later hb5)
      have kn:=num6_any fb w5
      clear ks c0 hb5 HJ
      go_wp2_with fail
      refine kn.mono ?_
      rintro e wx ⟨rfl,hwx⟩
      have hwx':=hwx.symm
      subst hwx'
      clear hwx kn
      go_wp2
      go_roundw
      case rel=>exact⟨j+1,vb,vn,tb,tn,T,by omega,by go_num,HJ5.out, .inr HE.out⟩
      case measure=>simp [intOf];omega
    ·have hl2':¬(j:Int)<200:=by omega
     have HQ:=Hid.mk hQ
     clear hQ
     go_wp2
     go_meet
     case rel=>exact⟨vb,vn,tb,tn,T,HJ.out,HQ.out⟩
   ·have hlt':¬(j:Int)<(sn:Int):=by omega
    have HQ:=Hid.mk hQ
    clear hQ
    go_wp2
    go_meet
    case rel=>exact⟨vb,vn,tb,tn,T,HJ.out,HQ.out⟩
 case rest=>
  obtain⟨vb,vn,tb,tn,T,hI,hQ⟩:=hcut
  obtain⟨cR',hx,hp,_,_,_,_,_,hbw⟩:=hI
  have hbz:=hbw.size
  have HX:=Hid.mk (And.intro hx (And.intro hp hbw))
  clear HA HQ0 ha1 HSC
  rcases hQ with hq|⟨bb,hbad,hen⟩
  ·have kl:=left_ok hx hp (hq.state HFr.out.dead)
   have hl0:T.pleft ⟨lyG g,L', [],true⟩ S (stB nodes (lyG g))+(if nodes then tn else tb).length=(stB nodes (lyG g)).cnt:=(hq.of nodes).fr
   obtain⟨P1,hP1⟩:∃P1,P1=T.pleft ⟨lyG g,L', [],true⟩ S (bSt (lyG g)):=⟨_,rfl⟩
   obtain⟨P2,hP2⟩:∃P2,P2=T.pleft ⟨lyG g,L', [],true⟩ S (nSt (lyG g)):=⟨_,rfl⟩
   obtain⟨P,hP⟩:∃P,P=if nodes then P2 else P1:=⟨_,rfl⟩
   have hPc:(if nodes then tn else tb).length+P=(stB nodes (lyG g)).cnt:=by
    rw [hP,hP1,hP2,Nat.add_comm]
    cases nodes
    ·exact hl0
    ·exact hl0
   have hP4:P≤4096:=by
    have h8:(stB nodes (lyG g)).first-(stB nodes (lyG g)).zero+(stB nodes (lyG g)).cnt≤4096:=(stB_ok hx.yk nodes).hi
    omega
   have kl2:Calls Tryz.prog 15 #[.pointer (some ⟨a1,0,none⟩)] wc fun e w'=>e= .returned (.tuple #[.int .i64 (P1:Int), .int .i64 (P2:Int), .int .i64 0])∧TX w' F p g.s (cR'+2) q l m t n S ⟨lyG g,L', [],true⟩ T∧Keeps (OwT F t n) wc w':=by
    rw [hP1,hP2]
    exact kl
   have HQ:=Hid.mk hq
   have HP:=Hid.mk (And.intro hP hPc)
   clear kl hl0 hP1 hP2 hx hp hbw hq hP hPc
   go_wp2_with fail
   refine kl2.mono ?_
   rintro e w8 ⟨rfl,hx8,hk8⟩
   have kn:=num6_any 0 w8
   have HX8:Hid (TX w8 F p g.s (cR'+2) q l m t n S ⟨lyG g,L', [],true⟩ T∧PoolAt w8 F a1 t n∧Below w.heap.size w w8):=⟨hx8,HX.out.2.1.keep hk8,HX.out.2.2.trans (hk8.below HLo.out hbz)⟩
   clear kl2 hx8 hk8 HX
   go_wp2_with fail
   refine kn.mono ?_
   rintro e wx ⟨rfl,hwx⟩
   have hwx':=hwx.symm
   subst hwx'
   clear hwx kn
   go_upto_if 83 with fail
   go_cut [15] (fun s15 wx=>s15= .int .i64 (P:Int)∧wx=w8)
   case first=>
    have hP:=HP.out.1
    clear HP HQ HX8
    cases nodes
    ·have hP':P=P1:=hP
     clear hP
     subst hP'
     go_wp2
     go_meet
     case rel=>exact⟨rfl,rfl⟩
    ·have hP':P=P2:=hP
     clear hP
     subst hP'
     go_wp2
     go_meet
     case rel=>exact⟨rfl,rfl⟩
   case rest=>
   obtain⟨hs15,hwc⟩:=hcut
   subst hs15
   have hwc':=hwc.symm
   subst hwc'
   clear hwc
   have hPc:=HP.out.2
   have HP:=Hid.mk hPc
   clear hPc
   have kb:=bitmaps_any HX8.out.1 HX8.out.2.1 (HQ.out.refusal HFr.out.dead HX8.out.1.yk.b2 false) (HQ.out.refusal HFr.out.dead HX8.out.1.yk.b2 true) HX8.out.1.yk.b2
   go_wp2_with fail
   refine kb.mono ?_
   rintro e w9 ⟨gW,cW,rfl,hgW,hrW,hx9,hk9⟩
   have hbm:(stB nodes (lyG g)).bm<(lyG g).blocks:=by
    have h8:=(stB_ok hx9.yk nodes).bm
    have h9:=hx9.yk.b2
    exact Nat.lt_of_lt_of_le h8 h9
   have HB9:Hid (BK ⟨lyG g,L', [],true⟩ S T T nodes tb tn []):=BK.start HQ.out nodes (hx9.bytes _) (hx9.len _ hbm)
   have HX9:Hid (TX w9 F p g.s (cR'+2+2) q l m t n S ⟨lyG g,L', [],true⟩ T∧PoolAt w9 F a1 t n∧Below w.heap.size w w9):=⟨hx9,HX8.out.2.1.keep hk9,HX8.out.2.2.trans (hk9.below HLo.out HX8.out.2.2.size)⟩
   have HW:Hid (RowAt w9 5 gW cW (bs (T.maps ⟨lyG g,L', [],true⟩ S))∧¬OwT F t n gW∧(T.maps ⟨lyG g,L', [],true⟩ S).length=1024):=⟨hrW,(fun e=>by have:=HX8.out.1.lt _ e;omega),hx9.maps⟩
   have HL9:Hid (∀j,w9.heap.size≤j→¬OwT F t n j):=fun j hj e=>by
    have:=hx9.lt _ e
    omega
   clear kb hx9 hk9 hrW hgW hbm HX8 HQ
   go_upto_block 2 with fail
   go_cut [19] (fun s19 wx=>∃(mine:List Nat) (T2:TG) (c2:Nat),mine.length≤on∧mine.length≤4096∧IL wx (fun i=>w9.heap.size≤i) s19 mine∧TX wx F p g.s c2 q l m t n S ⟨lyG g,L', [],true⟩ T2∧BK ⟨lyG g,L', [],true⟩ S T T2 nodes tb tn mine∧Keeps (OwT F t n) w9 wx)
   case first=>
    go_wp2_with fail
    go_loopw [19,20] (fun mv iv wr=>∃(j:Nat) (mine:List Nat) (T2:TG) (c2:Nat),j≤on∧j≤P∧iv= .int .i64 (j:Int)∧mine.length=j∧IL wr (fun i=>w9.heap.size≤i) mv mine∧TX wr F p g.s c2 q l m t n S ⟨lyG g,L', [],true⟩ T2∧BK ⟨lyG g,L', [],true⟩ S T T2 nodes tb tn mine∧Keeps (OwT F t n) w9 wr) (fun _ iv _=>on-(intOf iv).toNat)
    case atStart=>exact⟨0, [],T,_,Nat.zero_le _,Nat.zero_le _,rfl,rfl,IL.nil _ _,HX9.out.1,HB9.out,Keeps.refl _ _⟩
    case round=>
     clear HB9
     obtain⟨j,mine,T2,c2,hj,hjP,rfl,hlm,hil,hx,hbk,hk⟩:=hrel
     by_cases hlt:j<on
     ·have hlt':(j:Int)<(on:Int):=by omega
      by_cases hl2:j<P
      ·have hl2':(j:Int)<(P:Int):=by omega
       have hp:=HX9.out.2.1.keep hk
       obtain⟨x,T3,htk,hbk3⟩:=hbk.take HFr.out.dead hx.yk.b2 hx.tx.ch.ok hx.yk (by have:=HP.out;show _<(stB nodes (lyG g)).cnt;omega)
       have kt:Calls Tryz.prog 12 #[.pointer (some ⟨a1,0,none⟩), .bool nodes] wr fun e w'=>e= .returned (.tuple #[.int .i64 (x:Int), .int .i64 0])∧TX w' F p g.s (c2+2) q l m t n S ⟨lyG g,L', [],true⟩ T3∧Keeps (OwT F t n) wr w':=by
        have h9:=takes6_any hx hp nodes
        have e9:(if nodes then nSt (⟨lyG g,L', [],true⟩:SG).y else bSt (⟨lyG g,L', [],true⟩:SG).y)=stB nodes (⟨lyG g,L', [],true⟩:SG).y:=rfl
        rw [e9,htk] at h9
        exact h9
       have HI:=Hid.mk (And.intro hil (And.intro hk hbk3))
       clear hil hx hbk hk hp htk hbk3
       go_wp2_with fail
       refine kt.mono ?_
       rintro e w10 ⟨rfl,hx10,hk10⟩
       have hil10:=HI.out.1.keep hk10 (fun i hi=>HL9.out i (HI.out.1.x i hi))
       obtain⟨g2,cap2,w11,hrun,hil11,hk11,hat⟩:=hil10.app x (by omega)
       have hz9:w9.heap.size≤wr.heap.size:=HI.out.2.1.size
       have hz10:=hk10.size
       have HE:Hid (IL w11 (fun i=>w9.heap.size≤i) (.slice (some ⟨g2,0,none⟩) (mine.length+1) cap2) (mine ++ [x])∧TX w11 F p g.s (c2+2) q l m t n S ⟨lyG g,L', [],true⟩ T3∧BK ⟨lyG g,L', [],true⟩ S T T3 nodes tb tn (mine ++ [x])∧Keeps (OwT F t n) w9 w11):=⟨hil11.mono (fun i hi=>hi.elim (fun e=>e) (fun e=>by omega)),hx10.side HX9.out.1.low hk11 (fun i hi=>HI.out.1.x i hi),HI.out.2.2,(HI.out.2.1.trans hk10 (fun i hi=> .inl hi)).trans hk11 (fun i hi=> .inr (HI.out.1.x i hi))⟩
       obtain⟨a5,c5,e5⟩:=HI.out.1.form
       subst e5
       have HRun:=Hid.mk hrun
       clear kt hx10 hk10 hil10 hrun hil11 hk11 hat HI hz9 hz10
       rw [hlm] at HE HRun
       have HM:=Hid.mk hlm
       rw [hlm]
       clear hlm
       go_wp2_with (at_builtin;refine wpList_append_run rfl _ _ 49 rfl (.slice a5 j c5) (.slice (some ⟨w10.heap.size,0,none⟩) 1 1) _ rfl rfl HRun.out ?_)
       go_roundw
       case rel=>exact⟨j+1,mine ++ [x],T3,_,by omega,by omega,by go_num,by rw [List.length_append,HM.out];rfl,HE.out⟩
       case measure=>simp [intOf];omega
      ·have hl2':¬(j:Int)<(P:Int):=by omega
       have HE:=Hid.mk (And.intro hil (And.intro hx (And.intro hbk hk)))
       clear hil hx hbk hk
       go_wp2
       go_meet
       case rel=>exact⟨mine,T2,c2,by omega,by omega,HE.out⟩
     ·have hlt':¬(j:Int)<(on:Int):=by omega
      have HE:=Hid.mk (And.intro hil (And.intro hx (And.intro hbk hk)))
      clear hil hx hbk hk
      go_wp2
      go_meet
      case rel=>exact⟨mine,T2,c2,by omega,by omega,HE.out⟩
   case rest=>
   obtain⟨mine,T2,c2,hm1,hm2,hil,hx,hbk,hk⟩:=hcut
   have hp:=HX9.out.2.1.keep hk
   have kb:=bitmaps_any hx hp (hbk.qf.refusal HFr.out.dead hx.yk.b2 false) (hbk.qf.refusal HFr.out.dead hx.yk.b2 true) hx.yk.b2
   obtain⟨a5,c5,e5⟩:=hil.form
   subst e5
   have HI:=Hid.mk (And.intro hil (And.intro hbk hk))
   clear hil hx hbk hk hp HB9 HP
   go_wp2_with fail
   refine kb.mono ?_
   rintro e w12 ⟨gN,cN,rfl,hgN,hrN,hx12,hk12⟩
   have hk9:=HI.out.2.2.trans hk12 (fun _ h=> .inl h)
   have HI2:Hid (IL w12 (fun i=>w9.heap.size≤i) (.slice a5 mine.length c5) mine∧TX w12 F p g.s (c2+2) q l m t n S ⟨lyG g,L', [],true⟩ T2∧BK ⟨lyG g,L', [],true⟩ S T T2 nodes tb tn mine∧Keeps (OwT F t n) w9 w12):=⟨HI.out.1.keep hk12 (fun i hi=>HL9.out i (HI.out.1.x i hi)),hx12,HI.out.2.1,hk9⟩
   have ks:=back_same hrN (HW.out.1.agree (hk9.block gW HW.out.1.lt HW.out.2.1)) hx12.maps HW.out.2.2
   clear kb hrN hgN hx12 hk12 hk9 HI
   go_upto_region 29 with fail
   go_cut [19,122] (fun s19 s122 wx=>s19= .slice a5 mine.length c5∧s122= .bool false∧Below w12.heap.size w12 wx)
   case first=>
    by_cases hm0:mine.length=0
    ·have hm':¬(0:Int)<(mine.length:Int):=by omega
     clear ks
     go_wp2
     go_meet
     case rel=>exact⟨by rw [hm0],rfl,Below.refl _ _⟩
    ·have hm':(0:Int)<(mine.length:Int):=by omega
     rw [decide_eq_false (HI2.out.2.2.1.ne (fun e=>hm0 (by rw [e];rfl)))] at ks
     go_wp2_with fail
     refine ks.mono ?_
     rintro e w13 ⟨rfl,hb13⟩
     go_wp2
     go_meet
     case rel=>exact⟨rfl,rfl,hb13⟩
   case rest=>
   obtain⟨hs9,hs,hb13⟩:=hcut
   subst hs9
   subst hs
   have HI3:Hid (IL wc (fun i=>w9.heap.size≤i) (.slice a5 mine.length c5) mine∧TX wc F p g.s (c2+2) q l m t n S ⟨lyG g,L', [],true⟩ T2∧BK ⟨lyG g,L', [],true⟩ S T T2 nodes tb tn mine∧Keeps (OwT F t n) w9 wc):=⟨HI2.out.1.later hb13,HI2.out.2.1.later hb13,HI2.out.2.2.1,HI2.out.2.2.2.trans (Keeps.of_below (fun _=>False) hb13) (fun _ h=>h.elim)⟩
   clear hb13 HI2 ks
   go_upto_block 4 with fail
   go_cut [19] (fun _ wx=>∃(T3:TG) (c3:Nat),TX wx F p g.s c3 q l m t n S ⟨lyG g,L', [],true⟩ T3∧BK ⟨lyG g,L', [],true⟩ S T T3 nodes tb tn []∧Keeps (OwT F t n) w9 wx)
   case first=>
    go_wp2_with fail
    go_loopw [19,24] (fun mv iv wr=>∃(j:Nat) (mine:List Nat) (T3:TG) (c3:Nat),j≤on∧iv= .int .i64 (j:Int)∧mine.length+j≤on∧mine.length≤4096∧IL wr (fun i=>w9.heap.size≤i) mv mine∧TX wr F p g.s c3 q l m t n S ⟨lyG g,L', [],true⟩ T3∧BK ⟨lyG g,L', [],true⟩ S T T3 nodes tb tn mine∧Keeps (OwT F t n) w9 wr) (fun _ iv _=>on-(intOf iv).toNat)
    case atStart=>exact⟨0,mine,T2,_,Nat.zero_le _,rfl,by omega,hm2,HI3.out⟩
    case round=>
     clear HI3 hm1 hm2
     obtain⟨j,mine,T3,c3,hj,rfl,hmj,hm4,hil,hx,hbk,hk⟩:=hrel
     by_cases hlt:j<on
     ·have hlt':(j:Int)<(on:Int):=by omega
      by_cases hl2:0<mine.length
      ·have hl2':(0:Int)<(mine.length:Int):=by omega
       have hp:=HX9.out.2.1.keep hk
       have hbw:Below w.heap.size w wr:=HX9.out.2.2.trans (hk.below HLo.out HX9.out.2.2.size)
       cases oa with
       |none=>have:=HOS.out.1 rfl;omega
       |some y=>
       obtain⟨b,o,rfl,hbb,at_,x0,hat⟩:=(HOS.out.far hbw).2 y rfl j hlt
       obtain⟨A,hA⟩:∃A,A=wthn at_ 0 (mine.length-1):=⟨_,rfl⟩
       have hAl:A<mine.length:=by
        have:=(wthn_in at_ (lo:=0) (hi:=mine.length-1) (Nat.zero_le _)).2
        omega
       have ecast:((mine.length-1:Nat):Int)=(mine.length:Int)-1:=by omega
       have kw:Calls Tryz.prog 19 #[.int .i64 at_, .int .i64 0, .int .i64 ((mine.length:Int)-1)] wr fun e w'=>e= .returned (.int .i64 (A:Int))∧w'=wr:=by
        have k:=within6_any at_ 0 (mine.length-1) (Nat.zero_le _) (by omega) ⟨hat.1,hat.2⟩ wr
        rw [←hA,ecast] at k
        exact k
       obtain⟨x,hx0⟩:∃x,mine[A]? =some x:=⟨_,List.getElem?_eq_getElem hAl⟩
       obtain⟨T4,d1,d2,hbk4⟩:=hbk.drop HFr.out.dead hx.yk.b2 hx.tx.ch.ok hx.yk hx0
       have kd:Calls Tryz.prog 20 #[.pointer (some ⟨a1,0,none⟩), .bool nodes, .int .i64 (x:Int)] wr fun e w'=>e= .returned (.int .i64 0)∧TX w' F p g.s (c3+2) q l m t n S ⟨lyG g,L', [],true⟩ T4∧Keeps (OwT F t n) wr w':=by
        have h9:=drops6_any hx hp nodes (x:Int)
        rw [d1] at h9
        dsimp only at h9
        rw [d2] at h9
        exact h9
       obtain⟨g5,c6,e6,hc5⟩:=hil.at hx0
       have HI:=Hid.mk (And.intro hil (And.intro hk (And.intro hbk4 (And.intro hAl hA))))
       subst e6
       have hA0:(0:Int)≤(A:Int):=by omega
       have hAi:(A:Int)<(mine.length:Int):=by omega
       clear hil hx hbk hk hp hbw hA d1 d2 hbk4 hx0 hat hbb ecast
       go_wp2_with fail
       refine kw.mono ?_
       rintro e wx ⟨rfl,hwx⟩
       have hwx':=hwx.symm
       subst hwx'
       clear hwx kw
       go_wp2_with fail
       refine kd.mono ?_
       rintro e w14 ⟨rfl,hx14,hk14⟩
       have ko:=without_any (HI.out.1.keep hk14 (fun i hi=>HL9.out i (HI.out.1.x i hi))) A (by omega)
       have hz9:w9.heap.size≤wr.heap.size:=HI.out.2.1.size
       have hz14:=hk14.size
       have HX14:=Hid.mk (And.intro hx14 (HI.out.2.1.trans hk14 (fun _ h=> .inl h)))
       clear kd hx14 hk14 x0 hc5
       go_wp2_with fail
       refine ko.mono ?_
       rintro e w15 ⟨v',rfl,hil15,hb15⟩
       have HE:Hid (IL w15 (fun i=>w9.heap.size≤i) v' (mine.eraseIdx A)∧TX w15 F p g.s (c3+2) q l m t n S ⟨lyG g,L', [],true⟩ T4∧BK ⟨lyG g,L', [],true⟩ S T T4 nodes tb tn (mine.eraseIdx A)∧Keeps (OwT F t n) w9 w15):=⟨hil15.mono (fun i hi=>by omega),HX14.out.1.later hb15,HI.out.2.2.1,HX14.out.2.trans (Keeps.of_below (fun _=>False) hb15) (fun _ h=>h.elim)⟩
       have hle:=List.length_eraseIdx_of_lt HI.out.2.2.2.1
       have HL:=Hid.mk hle
       clear ko hil15 hb15 HX14 HI hle
       go_wp2
       go_roundw
       case rel=>exact⟨j+1,mine.eraseIdx A,T4,_,by omega,by go_num,by rw [HL.out];omega,by rw [HL.out];omega,HE.out⟩
       case measure=>simp [intOf];omega
      ·have hl2':¬(0:Int)<(mine.length:Int):=by omega
       obtain⟨a6,c6,e6⟩:=hil.form
       subst e6
       have hm0:mine= []:=List.length_eq_zero_iff.1 (by omega)
       have HE:Hid (TX wr F p g.s c3 q l m t n S ⟨lyG g,L', [],true⟩ T3∧BK ⟨lyG g,L', [],true⟩ S T T3 nodes tb tn []∧Keeps (OwT F t n) w9 wr):=⟨hx,by rw [←hm0];exact hbk,hk⟩
       clear hil hx hbk hk hm0
       go_wp2
       go_meet
       case rel=>exact⟨T3,c3,HE.out⟩
     ·have hlt':¬(j:Int)<(on:Int):=by omega
      have hm0:mine= []:=List.length_eq_zero_iff.1 (by omega)
      have HE:Hid (TX wr F p g.s c3 q l m t n S ⟨lyG g,L', [],true⟩ T3∧BK ⟨lyG g,L', [],true⟩ S T T3 nodes tb tn []∧Keeps (OwT F t n) w9 wr):=⟨hx,by rw [←hm0];exact hbk,hk⟩
      clear hil hx hbk hk hm0
      go_wp2
      go_meet
      case rel=>exact⟨T3,c3,HE.out⟩
   case rest=>
   obtain⟨T3,c3,hx,hbk,hk⟩:=hcut
   have kb:=bitmaps_any hx (HX9.out.2.1.keep hk) (hbk.qf.refusal HFr.out.dead hx.yk.b2 false) (hbk.qf.refusal HFr.out.dead hx.yk.b2 true) hx.yk.b2
   have HI:=Hid.mk (And.intro hbk hk)
   clear hx hbk hk HI3
   go_wp2_with fail
   refine kb.mono ?_
   rintro e w16 ⟨gN,cN,rfl,hgN,hrN,hx16,hk16⟩
   have hk9:=HI.out.2.trans hk16 (fun _ h=> .inl h)
   have ks:=back_same hrN (HW.out.1.agree (hk9.block gW HW.out.1.lt HW.out.2.1)) hx16.maps HW.out.2.2
   rw [decide_eq_true HI.out.1.back] at ks
   have HB:Hid (Below w.heap.size w w16):=HX9.out.2.2.trans (hk9.below HLo.out HX9.out.2.2.size)
   clear kb hrN hgN hx16 hk16 hk9
   go_wp2_with fail
   refine ks.mono ?_
   rintro e w17 ⟨rfl,hb17⟩
   go_wp2
   go_ret
   exact⟨rfl,HB.out.trans (hb17.mono HB.out.size)⟩
  ·have hst:T.state ⟨lyG g,L', [],true⟩ S=fullOf bb:=(bad_state HFr.out.dead hen (by rw [hbad];exact full_ne bb)).trans hbad
   have hsn0:T.state ⟨lyG g,L', [],true⟩ S≠0:=by rw [hst];exact full_ne bb
   have kl:=left_no hx hp hsn0
   have hsp:(T.spoil ⟨lyG g,L', [],true⟩ S (T.state ⟨lyG g,L', [],true⟩ S)).2=T:=by unfold TG.spoil;rw [if_pos hsn0]
   rw [hsp,hst] at kl
   have hor:=full_two bb
   have HBW:=Hid.mk hbw
   clear hst hsn0 hsp hbad hen hx hp hbw HX
   generalize fullOf bb=fb at*
   have hend:∀wx:World,Keeps (OwT F t n) wc wx→Below w.heap.size w wx:=fun wx hk=>HBW.out.trans (hk.below HLo.out hbz)
   have HEND:=Hid.mk hend
   clear hend
   rcases hor with h9|h9
   ·subst h9
    go_wp2_with fail
    refine kl.mono ?_
    rintro e w8 ⟨rfl,hx8,hk8⟩
    have kn:=num6_any 60 w8
    have HE:=Hid.mk (HEND.out w8 hk8)
    clear kl hx8 hk8
    go_wp2_with fail
    refine kn.mono ?_
    rintro e wx ⟨rfl,hwx⟩
    have hwx':=hwx.symm
    subst hwx'
    clear hwx
    go_wp2_with fail
    refine kn.mono ?_
    rintro e wx ⟨rfl,hwx⟩
    have hwx':=hwx.symm
    subst hwx'
    clear hwx kn
    go_wp2
    go_ret
    exact⟨rfl,HE.out⟩
   ·subst h9
    go_wp2_with fail
    refine kl.mono ?_
    rintro e w8 ⟨rfl,hx8,hk8⟩
    have kn:=num6_any 61 w8
    have HE:=Hid.mk (HEND.out w8 hk8)
    clear kl hx8 hk8
    go_wp2_with fail
    refine kn.mono ?_
    rintro e wx ⟨rfl,hwx⟩
    have hwx':=hwx.symm
    subst hwx'
    clear hwx
    go_wp2_with fail
    refine kn.mono ?_
    rintro e wx ⟨rfl,hwx⟩
    have hwx':=hwx.symm
    subst hwx'
    clear hwx
    go_wp2_with fail
    refine kn.mono ?_
    rintro e wx ⟨rfl,hwx⟩
    have hwx':=hwx.symm
    subst hwx'
    clear hwx kn
    go_wp2
    go_ret
    exact⟨rfl,HE.out⟩
end Go.Proofs.YtcakbbkbgfhfaaaGreat
end
